import Derived.Test.YtbdnhllhdjepcaaGreatCRm
import Derived.BigQuiet
import Derived.Laws.IdiomStrings
import Derived.Laws.BitsAllLaws
namespace Go.Proofs.YtbdnhllhdjepcaaGreat
set_option linter.unusedVariables false
set_option linter.unusedSimpArgs false
open Go.RowKit Go.Maps

/-- a number as so many bytes, the high ones first -/
def be (n : Int) : Nat → List UInt8
  | 0 => []
  | k + 1 => be (n / 256) k ++ [(n % 256).toNat.toUInt8]
theorem be_len : ∀ (k : Nat) (n : Int), (be n k).length = k
  | 0, _ => rfl
  | k + 1, n => by unfold be; rw [List.length_append, be_len k]; rfl
abbrev sv (l : List UInt8) : Value := .string ⟨l.toArray⟩
theorem sv_add (a b : List UInt8) : Value.string ((⟨a.toArray⟩ : ByteArray) ++ (⟨b.toArray⟩ : ByteArray)) = sv (a ++ b) := by
  have : (⟨a.toArray⟩ : ByteArray) ++ (⟨b.toArray⟩ : ByteArray) = ⟨(a ++ b).toArray⟩ := by
    apply ByteArray.ext
    rw [ByteArray.data_append]
    simp
  rw [this]
theorem u8_back {x : Int} (h0 : 0 ≤ x) (h1 : x < 256) : ((x.toNat.toUInt8).toNat : Int) = x := by
  have : x.toNat % 256 = x.toNat := Nat.mod_eq_of_lt (by omega)
  simp [Nat.toUInt8, this]
  omega
/-- string(b), where b's cells are these bytes -/
theorem conv_back {w : World} {b o cap : Nat} {l : List UInt8} (hc : ∀ j (hj : j < l.length), w.cell? ⟨b, o + j, none⟩ = some (.int .u8 (l[j].toNat : Int))) : (convert 177 9 (.slice (some ⟨b, o, none⟩) l.length cap)).run Tryz.prog w = .ok (sv l) w :=
  run_convert_bytes_back w 177 9 5 ⟨b, o, none⟩ cap l Tryz.underlying177 Tryz.underlying5 Tryz.underlying9 (fun j hj => by rw [Addr.add_lit]; exact hc j hj)
theorem conv_one (W : World) {b : Nat} {x : Int} {t : TypeId} (h0 : 0 ≤ x) (h1 : x < 256) (hb : W.heap[b]? = some (.cells [.int .u8 x].toArray t (0, 0))) : (convert 177 9 (.slice (some ⟨b, 0, none⟩) 1 1)).run Tryz.prog W = .ok (sv [x.toNat.toUInt8]) W :=
  conv_back (l := [x.toNat.toUInt8]) (fun j hj => by
    have : j = 0 := by simp at hj; exact hj
    subst this
    simp only [Nat.zero_add, List.getElem_cons_zero]
    rw [u8_back h0 h1]
    exact blk_cell hb rfl)
set_option maxRecDepth 100000 in
set_option maxHeartbeats 1000000 in
theorem bytes_any : ∀ (k : Nat) (n : Int) (w : World), k ≤ 8 → 0 ≤ n → n ≤ 18446744073709551615 → Calls Tryz.prog 56 #[.int .u64 n, .int .i64 k] w fun e w' => e = .returned (sv (be n k)) ∧ Chg [] w w'
  | 0, n, w, _, _, _ => by
    go_enter Tryz.func56, Tryz.ntmps56
    go_wp2
    go_ret
    exact ⟨rfl, Chg.refl _ _⟩
  | k + 1, n, w, hk, h0, h1 => by
    have ih := fun W => bytes_any k (n / 256) W (by omega) (by omega) (by omega)
    have HIH : Hid (∀ W, Calls Tryz.prog 56 #[.int .u64 (n / 256), .int .i64 k] W fun e w' => e = .returned (sv (be (n / 256) k)) ∧ Chg [] W w') := ih
    have hkz : ¬ ((k : Int) + 1 = 0) := by omega
    clear ih
    go_enter Tryz.func56, Tryz.ntmps56
    have hw8 : IntKind.u8.wrap n = n % 256 := by rw [IntKind.wrap_u8]
    have hwk : IntKind.i64.wrap (k : Int) = k := by rw [IntKind.wrap_i64]; omega
    have hm : 0 ≤ n % 256 ∧ n % 256 < 256 := by omega
    have hcv : ∀ W : World, (convert 177 9 (.slice (some ⟨W.heap.size, 0, none⟩) 1 1)).run Tryz.prog (W.alloc (.cells #[.int .u8 (n % 256)] 5)) = .ok (sv [(n % 256).toNat.toUInt8]) (W.alloc (.cells #[.int .u8 (n % 256)] 5)) := fun W => conv_one _ hm.1 hm.2 (heap_alloc_new W _)
    have hcv2 : (convert 177 9 (.slice (some ⟨w.heap.size, 0, none⟩) 1 1)).run Tryz.prog (w.alloc (.cells #[.int .u8 (n % 256)] 5)).drew = .ok (sv [(n % 256).toNat.toUInt8]) (w.alloc (.cells #[.int .u8 (n % 256)] 5)).drew := conv_one _ hm.1 hm.2 (heap_alloc_new w _)
    have HBE : Hid (be n (k + 1) = be (n / 256) k ++ [(n % 256).toNat.toUInt8]) := rfl
    have HCV : Hid (∀ (W : World) (b : Nat), W.heap[b]? = some (.cells [.int .u8 (n % 256)].toArray 5 (0, 0)) → (convert 177 9 (.slice (some ⟨b, 0, none⟩) 1 1)).run Tryz.prog W = .ok (sv [(n % 256).toNat.toUInt8]) W) := fun W b hb => conv_one _ hm.1 hm.2 hb
    have hLl := be_len k (n / 256)
    generalize be (n / 256) k = L at *
    have hsz : (⟨L.toArray⟩ : ByteArray).size = k := by show L.toArray.size = k; simpa using hLl
    have HLL : Hid (L.length = k) := hLl
    clear hLl
    generalize (n % 256).toNat.toUInt8 = U at *
    go_wp2_with fail
    go_region_with (go_at_call 56; refine (HIH.out _).mono ?_; rintro e w1 ⟨rfl, q1⟩; (try have hcw := HCV.out w1 _ (q1.blk (heap_alloc_new w _) (by simp))); (try have hcw := HCV.out w1 _ (q1.blk (heap_alloc_new w.drew _) (by simp))))
    all_goals
      go_wp2
      go_ret
      refine ⟨?_, by first | exact (((Chg.refl [] w).alloc _).drew).trans q1 (by simp) | exact (((Chg.refl [] w).drew).trans q1 (by simp)).alloc _⟩
      rw [HBE.out]
      exact congrArg Ending.returned (sv_add L [U])
end Go.Proofs.YtbdnhllhdjepcaaGreat
namespace Go.Proofs.YtbdnhllhdjepcaaGreat
set_option linter.unusedVariables false
set_option linter.unusedSimpArgs false
open Go.RowKit Go.Maps

theorem Tryz.info5 : (Tryz.prog.info? 5).map (fun i => (i.zero, i.size, i.bytes)) = some (some (.int .u8 0), 1, 1) := by kernel_rfl
theorem ek5 : ∃ i0, EK 177 5 i0 (.int .u8 0) 1 1 := by
  obtain ⟨i0, hi, hz0, hz1, hz2⟩ := info_parts Tryz.info5
  exact ⟨i0, Tryz.underlying177, hi, hz0, hz1, hz2, rfl, by decide, by decide, zero_one (z := Value.cells (.int .u8 0)) (by decide) (by decide)⟩
def bcl (b : UInt8) : List Value := [.int .u8 (b.toNat : Int)]
theorem bcl_len (b : UInt8) : (bcl b).length = 1 := rfl
def bcells (l : List UInt8) : List Value := l.flatMap bcl
theorem bc_one (l : List UInt8) : ∀ u ∈ bcells l, u.oneCell' = true := fun u hu => by
  simp only [bcells, List.mem_flatMap, bcl] at hu
  obtain ⟨a, _, hu⟩ := hu
  simp at hu
  rw [hu]; rfl
theorem bc_len (l : List UInt8) : (bcells l).length = l.length := by unfold bcells; rw [fm_len bcl_len]; omega
/-- the higher bytes of a number -/
def sh (n : Int) (i : Nat) : Int := n / 2 ^ (8 * i)
theorem sh_zero (n : Int) : sh n 0 = n := by simp [sh]
theorem sh_succ (n : Int) {i : Nat} (hi : i < 8) : sh n (i + 1) = sh n i / 256 := by
  unfold sh
  rcases (show i = 0 ∨ i = 1 ∨ i = 2 ∨ i = 3 ∨ i = 4 ∨ i = 5 ∨ i = 6 ∨ i = 7 from by omega) with rfl | rfl | rfl | rfl | rfl | rfl | rfl | rfl <;> simp <;> omega
theorem sh_bd {n : Int} (h0 : 0 ≤ n) (h1 : n ≤ 18446744073709551615) : ∀ i, i ≤ 8 → 0 ≤ sh n i ∧ sh n i ≤ 18446744073709551615
  | 0, _ => by rw [sh_zero]; exact ⟨h0, h1⟩
  | i + 1, hi => by have := sh_bd h0 h1 i (by omega); rw [sh_succ n (by omega)]; omega
theorem be_top (n : Int) (k : Nat) : be n (k + 1) = be (n / 256) k ++ [(n % 256).toNat.toUInt8] := rfl
set_option maxRecDepth 100000 in
set_option maxHeartbeats 1000000 in
theorem put_any (v : Value) (l : List UInt8) (n : Int) (k : Nat) (w : World) (h : Rw w 5 1 v l.length (bcells l)) (h0 : 0 ≤ n) (h1 : n ≤ 18446744073709551615) (hk : k ≤ 8) (hl : l.length ≤ 10000) :
    Calls Tryz.prog 108 #[v, .int .u64 n, .int .i64 k] w fun e w' => ∃ v', e = .returned v' ∧ Rw w' 5 1 v' (l ++ be n k).length (bcells (l ++ be n k)) ∧ Chg (own v) w w' ∧ (∀ b ∈ own v', b ∈ own v ∨ w.heap.size ≤ b) := by
  obtain ⟨i0, ek⟩ := ek5
  have HEK : Hid (EK 177 5 i0 (.int .u8 0) 1 1) := ek
  have hwk : IntKind.i64.wrap ((k : Int) - 1) = (k : Int) - 1 := by rw [IntKind.wrap_i64]; omega
  have HR : Hid (Rw w 5 1 v l.length (bcells l)) := h
  clear h ek
  go_enter Tryz.func108, Tryz.ntmps108
  go_wp2_with fail
  go_loopw [0, 7] (fun v1 ix wr => ∃ j : Nat, j ≤ k ∧ ix = .int .i64 ((j : Int) - 1) ∧ Rw wr 5 1 v1 (l ++ be (sh n j) (k - j)).length (bcells (l ++ be (sh n j) (k - j))) ∧ Chg (own v) w wr ∧ (∀ b ∈ own v1, b ∈ own v ∨ w.heap.size ≤ b)) (fun _ ix _ => (intOf ix + 1).toNat)
  case atStart => exact ⟨k, Nat.le_refl _, rfl, by simpa [be] using HR.out, Chg.refl _ _, fun b hb => Or.inl hb⟩
  case round =>
    obtain ⟨j, hj, rfl, hrw, hch, hox⟩ := hrel
    have hsb := sh_bd h0 h1 j (by omega)
    by_cases hj0 : j = 0
    · subst hj0
      have HRW : Hid (Rw wr 5 1 u0 (l ++ be n k).length (bcells (l ++ be n k)) ∧ Chg (own v) w wr ∧ (∀ b ∈ own u0, b ∈ own v ∨ w.heap.size ≤ b)) := ⟨by simpa [sh_zero] using hrw, hch, hox⟩
      clear hrw hch hox
      go_wp2
      go_ret
      exact ⟨_, rfl, HRW.out.1, HRW.out.2.1, HRW.out.2.2⟩
    · have hj1 : (0 : Int) ≤ (j : Int) - 1 := by omega
      have hwm : IntKind.i64.wrap (8 * ((j : Int) - 1)) = 8 * ((j : Int) - 1) := by rw [IntKind.wrap_i64]; omega
      have hsj := sh_succ n (show j - 1 < 8 from by omega)
      rw [show j - 1 + 1 = j from by omega] at hsj
      obtain ⟨x, hx⟩ : ∃ x, x = sh n (j - 1) % 256 := ⟨_, rfl⟩
      have hx' : n / 2 ^ (8 * (j - 1)) % 256 = x := hx.symm
      have hxb : 0 ≤ x ∧ x < 256 := by rw [hx]; omega
      have ecat : l ++ be (sh n j) (k - j) ++ [x.toNat.toUInt8] = l ++ be (sh n (j - 1)) (k - (j - 1)) := by
        rw [show k - (j - 1) = (k - j) + 1 from by omega, be_top, ← hsj, hx, List.append_assoc]
      have hb1 := heap_alloc_new wr (.cells [.int .u8 x].toArray 5)
      have hrA := hrw.chg (l := []) ((Chg.refl _ _).alloc (.cells [.int .u8 x].toArray 5)) (by simp)
      have hLl : (l ++ be (sh n j) (k - j)).length ≤ 20000 := by rw [List.length_append, be_len]; omega
      obtain ⟨v2, w2, hr2, hrw2, hgr2, how2⟩ := run_app HEK.out (wr.alloc (.cells [.int .u8 x].toArray 5)) 177 u0 _ _ hrA ⟨wr.heap.size, 0, none⟩ 1 1 (bcl x.toNat.toUInt8) rfl (fun z u hz => by
        rw [Addr.add_lit, Nat.zero_add]
        refine blk_cell hb1 ?_
        rw [← hz]; unfold bcl; rw [u8_back hxb.1 hxb.2]) (by intro u hu; simp [bcl] at hu; rw [hu]; rfl) (by decide) (by omega)
      have hc2 : Chg (own v) w w2 := (hch.alloc _).trans (grown_chg hgr2) (fun z hz => hox z hz)
      have hs := hch.size
      have ho2 : ∀ b ∈ own v2, b ∈ own v ∨ w.heap.size ≤ b := fun b hb => by
        rw [mem_own] at hb
        rcases how2 with e | e
        · rw [e] at hb; exact hox b (mem_own.2 hb)
        · rw [e] at hb; cases hb; right; simp; omega
      have hlen : (l ++ be (sh n j) (k - j)).length + 1 = (l ++ be (sh n (j - 1)) (k - (j - 1))).length := by rw [← ecat]; simp only [List.length_append, List.length_cons, List.length_nil]
      have hcc : bcells (l ++ be (sh n j) (k - j)) ++ bcl x.toNat.toUInt8 = bcells (l ++ be (sh n (j - 1)) (k - (j - 1))) := by rw [← ecat]; simp [bcells]
      rw [hlen, hcc] at hrw2
      have HRUN : Hid ((Builtin.append_ #[177, 177] 177 #[u0, .slice (some ⟨wr.heap.size, 0, none⟩) 1 1]).run Tryz.prog (wr.alloc (.cells #[.int .u8 x] 5)) = .ok v2 w2) := hr2
      have HNX : Hid (Rw w2 5 1 v2 (l ++ be (sh n (j - 1)) (k - (j - 1))).length (bcells (l ++ be (sh n (j - 1)) (k - (j - 1)))) ∧ Chg (own v) w w2 ∧ (∀ b ∈ own v2, b ∈ own v ∨ w.heap.size ≤ b)) := ⟨hrw2, hc2, ho2⟩
      clear hrw hch hox hsb hsj hx ecat hb1 hrA hLl hr2 hrw2 hgr2 how2 hc2 hs ho2 hlen hcc
      have hw2 : IntKind.i64.wrap ((j : Int) - 1 - 1) = (j : Int) - 1 - 1 := by rw [IntKind.wrap_i64]; omega
      go_wp2_with (at_builtin; refine Lib.wpList_append_run _ rfl _ _ _ _ rfl _ _ rfl rfl _ _ HRUN.out ?_)
      go_roundw
      case rel => exact ⟨j - 1, by omega, by go_num, HNX.out.1, HNX.out.2.1, HNX.out.2.2⟩
      case measure => simp [intOf]; omega
end Go.Proofs.YtbdnhllhdjepcaaGreat
namespace Go.Proofs.YtbdnhllhdjepcaaGreat
set_option linter.unusedVariables false
set_option linter.unusedSimpArgs false
open Go.RowKit Go.Maps

def bl (xs : List Int) : List UInt8 := xs.map (fun x => x.toNat.toUInt8)
theorem bl_cells {xs : List Int} (hx : ∀ x ∈ xs, 0 ≤ x ∧ x < 256) : bcells (bl xs) = xs.map (fun x => .int .u8 x) := by
  induction xs with
  | nil => rfl
  | cons x xs ih =>
    have h := hx x (by simp)
    have e : bcells (bl (x :: xs)) = bcl x.toNat.toUInt8 ++ bcells (bl xs) := by simp [bcells, bl]
    rw [e, ih (fun y hy => hx y (by simp [hy]))]
    unfold bcl
    rw [u8_back h.1 h.2]
    rfl
theorem conv_rw {w : World} {v : Value} {l : List UInt8} (h : Rw w 5 1 v l.length (bcells l)) (hl : 0 < l.length) : (convert 177 9 v).run Tryz.prog w = .ok (sv l) w := by
  rcases h.2.2 with ⟨_, h0⟩ | ⟨b, cap, P, R, rfl, hg, _⟩
  · omega
  · exact conv_back (fun j hj => Rw.cell (n := 0) (sz := 0) hg (by
      have := fm_at bcl_len l j hj 0 (by decide)
      rw [Nat.mul_one, Nat.add_zero] at this
      exact this))
theorem row_new (w : World) (xs : List Int) (hx : ∀ x ∈ xs, 0 ≤ x ∧ x < 256) (hl : xs.length ≤ 100) : Rw (w.alloc (.cells (xs.map (fun x => Value.int .u8 x)).toArray 5)) 5 1 (.slice (some ⟨w.heap.size, 0, none⟩) xs.length xs.length) (bl xs).length (bcells (bl xs)) := by
  have e : (bl xs).length = xs.length := by simp [bl]
  refine ⟨by rw [bc_len, Nat.mul_one], bc_one _, ?_⟩
  rw [e, bl_cells hx]
  exact .inr ⟨w.heap.size, xs.length, [], [], rfl, by simpa using heap_alloc_new w (.cells (xs.map (fun x => Value.int .u8 x)).toArray 5), Nat.le_refl _, by unfold maxLen; omega, by omega⟩
theorem put_new (xs : List Int) (hx : ∀ x ∈ xs, 0 ≤ x ∧ x < 256) (hl : xs.length ≤ 100) (n : Int) (k : Nat) (w : World) (h0 : 0 ≤ n) (h1 : n ≤ 18446744073709551615) (hk : k ≤ 8) :
    Calls Tryz.prog 108 #[.slice (some ⟨w.heap.size, 0, none⟩) xs.length xs.length, .int .u64 n, .int .i64 k] (w.alloc (.cells (xs.map (fun x => Value.int .u8 x)).toArray 5)) fun e w2 => ∃ v', e = .returned v' ∧ Rw w2 5 1 v' (bl xs ++ be n k).length (bcells (bl xs ++ be n k)) ∧ Chg [] w w2 ∧ ∀ b ∈ own v', w.heap.size ≤ b := by
  have hr := row_new w xs hx hl
  have e : (bl xs).length = xs.length := by simp [bl]
  refine (put_any _ (bl xs) n k _ hr h0 h1 hk (by omega)).mono ?_
  rintro e w2 ⟨v', rfl, h2, hc, ho⟩
  refine ⟨v', rfl, h2, ((Chg.refl [] w).alloc _).trans hc (fun j hj => ?_), fun b hb => ?_⟩
  · right
    have : j = w.heap.size := by simpa [own, Value.ownBlock] using hj
    omega
  · rcases ho b hb with h | h
    · have : b = w.heap.size := by simpa [own, Value.ownBlock] using h
      omega
    · simp at h; omega
set_option maxRecDepth 100000 in
set_option maxHeartbeats 1000000 in
theorem time_any (n : Int) (w : World) (h0 : 0 ≤ n) (h1 : n ≤ 18446744073709551615) : Calls Tryz.prog 60 #[.int .u64 n] w fun e w' => e = .returned (sv (bl [4] ++ be n 8)) ∧ Chg [] w w' := by
  have HP : Hid (Calls Tryz.prog 108 #[.slice (some ⟨w.heap.size, 0, none⟩) 1 1, .int .u64 n, .int .i64 8] (w.alloc (.cells #[.int .u8 4] 5)) fun e w2 => ∃ v', e = .returned v' ∧ (convert 177 9 v').run Tryz.prog w2 = .ok (sv (bl [4] ++ be n 8)) w2 ∧ Chg [] w w2) := by
    refine (put_new [4] (by simp) (by simp) n 8 w h0 h1 (by omega)).mono ?_
    rintro e w2 ⟨v', rfl, hr, hc, _⟩
    exact ⟨v', rfl, conv_rw hr (by simp [bl]), hc⟩
  generalize bl [4] ++ be n 8 = L at *
  go_enter Tryz.func60, Tryz.ntmps60
  go_wp2_with fail
  refine (HP.out).mono ?_
  rintro e w2 ⟨v', rfl, hcv, hc⟩
  go_wp2
  go_ret
  exact ⟨rfl, hc⟩
set_option maxRecDepth 100000 in
set_option maxHeartbeats 1000000 in
theorem reply_any (st lv rt : Int) (w : World) (hs : 0 ≤ st ∧ st < 256) (hl : 0 ≤ lv ∧ lv < 256) (h0 : 0 ≤ rt) (h1 : rt ≤ 18446744073709551615) : Calls Tryz.prog 109 #[.agg #[.int .i64 st, .int .i64 lv, .int .u64 rt]] w fun e w' => e = .returned (sv (bl [st, lv] ++ be rt 8)) ∧ Chg [] w w' := by
  have HP : Hid (∀ W : World, Calls Tryz.prog 108 #[.slice (some ⟨W.heap.size, 0, none⟩) 2 2, .int .u64 rt, .int .i64 8] (W.alloc (.cells #[.int .u8 st, .int .u8 lv] 5)) fun e w2 => ∃ v', e = .returned v' ∧ (convert 177 9 v').run Tryz.prog w2 = .ok (sv (bl [st, lv] ++ be rt 8)) w2 ∧ Chg [] W w2) := fun W => by
    refine (put_new [st, lv] (by simp; omega) (by simp) rt 8 W h0 h1 (by omega)).mono ?_
    rintro e w2 ⟨v', rfl, hr, hc, _⟩
    exact ⟨v', rfl, conv_rw hr (by simp [bl]), hc⟩
  have hw1 : IntKind.u8.wrap st = st := by rw [IntKind.wrap_u8]; omega
  have hw2 : IntKind.u8.wrap lv = lv := by rw [IntKind.wrap_u8]; omega
  generalize bl [st, lv] ++ be rt 8 = L at *
  have hcA : Chg [] w (w.alloc (.cells #[.int .i64 st, .int .i64 lv, .int .u64 rt] 68)) := (Chg.refl _ _).alloc _
  have HPA := HP.out (w.alloc (.cells #[.int .i64 st, .int .i64 lv, .int .u64 rt] 68))
  rw [show (w.alloc (.cells #[.int .i64 st, .int .i64 lv, .int .u64 rt] 68)).heap.size = w.heap.size + 1 from by simp] at HPA
  have HQ : Hid (Calls Tryz.prog 108 #[.slice (some ⟨w.heap.size + 1, 0, none⟩) 2 2, .int .u64 rt, .int .i64 8] ((w.alloc (.cells #[.int .i64 st, .int .i64 lv, .int .u64 rt] 68)).alloc (.cells #[.int .u8 st, .int .u8 lv] 5)) fun e w2 => ∃ v', e = .returned v' ∧ (convert 177 9 v').run Tryz.prog w2 = .ok (sv L) w2 ∧ Chg [] (w.alloc (.cells #[.int .i64 st, .int .i64 lv, .int .u64 rt] 68)) w2) := HPA
  clear HPA HP
  go_enter Tryz.func109, Tryz.ntmps109
  go_wp2_with fail
  refine (HQ.out).mono ?_
  rintro e w2 ⟨v', rfl, hcv, hc⟩
  go_wp2
  go_ret
  exact ⟨rfl, hcA.trans hc (by simp)⟩
set_option maxRecDepth 100000 in
set_option maxHeartbeats 1000000 in
theorem due_any (st d : Int) (w : World) (hs : 0 ≤ st ∧ st < 256) (h0 : 0 ≤ d) (h1 : d ≤ 18446744073709551615) : Calls Tryz.prog 110 #[.int .i64 st, .int .u64 d] w fun e w' => e = .returned (sv (bl [st] ++ be d 8)) ∧ Chg [] w w' := by
  have HP : Hid (Calls Tryz.prog 108 #[.slice (some ⟨w.heap.size, 0, none⟩) 1 1, .int .u64 d, .int .i64 8] (w.alloc (.cells #[.int .u8 st] 5)) fun e w2 => ∃ v', e = .returned v' ∧ (convert 177 9 v').run Tryz.prog w2 = .ok (sv (bl [st] ++ be d 8)) w2 ∧ Chg [] w w2) := by
    refine (put_new [st] (by simp; omega) (by simp) d 8 w h0 h1 (by omega)).mono ?_
    rintro e w2 ⟨v', rfl, hr, hc, _⟩
    exact ⟨v', rfl, conv_rw hr (by simp [bl]), hc⟩
  have hw1 : IntKind.u8.wrap st = st := by rw [IntKind.wrap_u8]; omega
  generalize bl [st] ++ be d 8 = L at *
  go_enter Tryz.func110, Tryz.ntmps110
  go_wp2_with fail
  refine (HP.out).mono ?_
  rintro e w2 ⟨v', rfl, hcv, hc⟩
  go_wp2
  go_ret
  exact ⟨rfl, hc⟩
theorem fm_len' : ∀ ws : List It, (ws.flatMap (fun y => be y.t 2 ++ be y.x 4 ++ be y.d 8)).length = ws.length * 14
  | [] => rfl
  | y :: ws => by rw [List.flatMap_cons, List.length_append, fm_len' ws]; simp [be_len]; omega
/-- the bytes of items -/
def ib (ws : List It) : List UInt8 := ws.flatMap (fun y => be y.t 2 ++ be y.x 4 ++ be y.d 8)
theorem ib_len (ws : List It) : (ib ws).length = ws.length * 14 := by
  unfold ib
  exact fm_len' ws
theorem ib_take (ws : List It) (j : Nat) (h : j < ws.length) : ib (ws.take (j + 1)) = ib (ws.take j) ++ be ws[j].t 2 ++ be ws[j].x 4 ++ be ws[j].d 8 := by
  rw [← List.take_append_getElem h]
  simp [ib, -List.take_append_getElem]
def IWf (ws : List It) : Prop := ∀ y ∈ ws, (0 ≤ y.t ∧ y.t < 65536) ∧ (0 ≤ y.x ∧ y.x < 4294967296) ∧ 0 ≤ y.d ∧ y.d ≤ 18446744073709551615
set_option maxRecDepth 100000 in
set_option maxHeartbeats 2000000 in
theorem items_any (v : Value) (ws : List It) (w : World) (h : Rw w 123 3 v ws.length (icells ws)) (hw : IWf ws) (hl : ws.length ≤ 100) : Calls Tryz.prog 111 #[v] w fun e w' => e = .returned (sv (bl [3, (ws.length : Int)] ++ ib ws)) ∧ Chg [] w w' := by
  have hwl : IntKind.u8.wrap (ws.length : Int) = (ws.length : Int) := by rw [IntKind.wrap_u8]; omega
  have hrow := row_new w [3, (ws.length : Int)] (by simp; omega) (by simp)
  have HROW : Hid (Rw (w.alloc (.cells #[.int .u8 3, .int .u8 (ws.length : Int)] 5)) 5 1 (.slice (some ⟨w.heap.size, 0, none⟩) 2 2) (bl [3, (ws.length : Int)]).length (bcells (bl [3, (ws.length : Int)]))) := hrow
  have HR : Hid (Rw w 123 3 v ws.length (icells ws)) := h
  have HW : Hid (IWf ws) := hw
  obtain ⟨bs, cp, hv⟩ := h.val
  obtain ⟨B, hB⟩ : ∃ B, B = bl [3, (ws.length : Int)] := ⟨_, rfl⟩
  have hBl : B.length = 2 := by rw [hB]; rfl
  rw [← hB] at HROW
  rw [← hB]
  have HBL : Hid (B.length = 2) := hBl
  have HPUT : Hid (∀ (v1 : Value) (L : List UInt8) (n : Int) (k : Nat) (W : World), Rw W 5 1 v1 L.length (bcells L) → Chg [] w W → (∀ b ∈ own v1, w.heap.size ≤ b) → 0 ≤ n → n ≤ 18446744073709551615 → k ≤ 8 → L.length ≤ 10000 → Calls Tryz.prog 108 #[v1, .int .u64 n, .int .i64 k] W fun e w' => ∃ v', e = .returned v' ∧ Rw w' 5 1 v' (L ++ be n k).length (bcells (L ++ be n k)) ∧ Chg [] w w' ∧ (∀ b ∈ own v', w.heap.size ≤ b) ∧ Chg (own v1) W w') := fun v1 L n k W hr hc ho h0 h1 hk hL => by
    refine (put_any v1 L n k W hr h0 h1 hk hL).mono ?_
    rintro e w' ⟨v', rfl, z1, z2, z3⟩
    exact ⟨v', rfl, z1, hc.trans z2 (fun j hj => Or.inr (ho j hj)), fun b hb => by rcases z3 b hb with h | h; exact ho b h; have := hc.size; omega, z2⟩
  subst hv
  clear h hw hrow hB hBl
  go_enter Tryz.func111, Tryz.ntmps111
  go_wp2_with fail
  go_loopw [3, 12] (fun v1 ix wr => ∃ j : Nat, j ≤ ws.length ∧ ix = .int .i64 j ∧ Rw wr 5 1 v1 (B ++ ib (ws.take j)).length (bcells (B ++ ib (ws.take j))) ∧ Chg [] w wr ∧ (∀ b ∈ own v1, w.heap.size ≤ b)) (fun _ ix _ => ws.length - (intOf ix).toNat)
  case atStart => exact ⟨0, by omega, rfl, by simpa [ib] using HROW.out, (Chg.refl _ _).alloc _, fun b hb => by have : b = w.heap.size := (by simpa [own, Value.ownBlock] using hb); omega⟩
  case round =>
    obtain ⟨j, hj, rfl, hrw, hch, hox⟩ := hrel
    have hll : (B ++ ib (ws.take j)).length ≤ 2000 := by rw [List.length_append, ib_len, List.length_take, HBL.out]; omega
    by_cases hlt : j < ws.length
    · rcases HR.out.2.2 with ⟨_, hz⟩ | ⟨b, cap, P, R, hv, hg, _⟩
      · omega
      · injection hv with e1 e2 e3
        subst e1 e3
        clear e2
        have hgr := hch.blk hg (by simp)
        have hat := ic_at ws j hlt
        have hy := HW.out _ (List.getElem_mem hlt)
        have HTK : Hid (ib (ws.take (j + 1)) = ib (ws.take j) ++ be ws[j].t 2 ++ be ws[j].x 4 ++ be ws[j].d 8) := ib_take ws j hlt
        generalize ws[j] = y at *
        obtain ⟨yt, yx, yd⟩ := y
        simp only at hat hy
        have d0 : wr.cell? ⟨b, P.length + j * 3, none⟩ = some (.int .u16 yt) := Rw.cell (n := 0) (sz := 0) hgr hat.1
        have d1 : wr.cell? ⟨b, P.length + j * 3 + 1, none⟩ = some (.int .u32 yx) := by rw [Nat.add_assoc]; exact Rw.cell (n := 0) (sz := 0) hgr hat.2.1
        have d2 : wr.cell? ⟨b, P.length + j * 3 + 2, none⟩ = some (.int .u64 yd) := by rw [Nat.add_assoc]; exact Rw.cell (n := 0) (sz := 0) hgr hat.2.2
        have hjj : (j : Int) < (ws.length : Int) := by omega
        have hbA := heap_alloc_new wr (.cells [.int .u16 yt, .int .u32 yx, .int .u64 yd].toArray 123)
        have hcA := hch.alloc (.cells [.int .u16 yt, .int .u32 yx, .int .u64 yd].toArray 123)
        have hrA := hrw.chg (l := []) ((Chg.refl _ _).alloc (.cells [.int .u16 yt, .int .u32 yx, .int .u64 yd].toArray 123)) (by simp)
        have hw1 : IntKind.u64.wrap yt = yt := by rw [IntKind.wrap_u64]; omega
        have hw2 : IntKind.u64.wrap yx = yx := by rw [IntKind.wrap_u64]; omega
        obtain ⟨wA, hwA⟩ : ∃ wA, wA = wr.alloc (.cells [.int .u16 yt, .int .u32 yx, .int .u64 yd].toArray 123) := ⟨_, rfl⟩
        rw [← hwA] at hbA hcA hrA
        have HWA : Hid (wr.alloc (.cells #[.int .u16 yt, .int .u32 yx, .int .u64 yd] 123) = wA) := hwA.symm
        have P1 : Hid (Calls Tryz.prog 108 #[u3, .int .u64 yt, .int .i64 2] wA fun e w5 => ∃ v5, e = .returned v5 ∧ Rw w5 5 1 v5 (B ++ ib (ws.take j) ++ be yt 2).length (bcells (B ++ ib (ws.take j) ++ be yt 2)) ∧ Chg [] w w5 ∧ (∀ b ∈ own v5, w.heap.size ≤ b) ∧ w5.heap[wr.heap.size]? = some (.cells [.int .u16 yt, .int .u32 yx, .int .u64 yd].toArray 123 (0, 0))) := by
          refine (HPUT.out u3 _ yt 2 wA hrA hcA hox (by omega) (by omega) (by omega) (by omega)).mono ?_
          rintro e w5 ⟨v5, rfl, z1, z2, z3, z4⟩
          exact ⟨v5, rfl, z1, z2, z3, z4.blk hbA (own_ty hrA hbA (by decide))⟩
        have l1 : (B ++ ib (ws.take j) ++ be yt 2).length ≤ 3000 := by rw [List.length_append, be_len]; omega
        have l2 : (B ++ ib (ws.take j) ++ be yt 2 ++ be yx 4).length ≤ 3000 := by rw [List.length_append, List.length_append, be_len, be_len]; omega
        clear hwA hbA hcA hrA hrw hch hgr hat hox
        go_wp2_with fail
        rw [HWA.out]
        refine (P1.out).mono ?_
        rintro e w5 ⟨v5, rfl, r5, c5, o5, x5⟩
        have x51 := blk_cell (i := 1) x5 rfl
        have P2 : Hid (Calls Tryz.prog 108 #[v5, .int .u64 yx, .int .i64 4] w5 fun e w6 => ∃ v6, e = .returned v6 ∧ Rw w6 5 1 v6 (B ++ ib (ws.take j) ++ be yt 2 ++ be yx 4).length (bcells (B ++ ib (ws.take j) ++ be yt 2 ++ be yx 4)) ∧ Chg [] w w6 ∧ (∀ b ∈ own v6, w.heap.size ≤ b) ∧ w6.heap[wr.heap.size]? = some (.cells [.int .u16 yt, .int .u32 yx, .int .u64 yd].toArray 123 (0, 0))) := by
          refine (HPUT.out v5 _ yx 4 w5 r5 c5 o5 (by omega) (by omega) (by omega) (by omega)).mono ?_
          rintro e w6 ⟨v6, rfl, z1, z2, z3, z4⟩
          exact ⟨v6, rfl, z1, z2, z3, z4.blk x5 (own_ty r5 x5 (by decide))⟩
        clear r5 c5 o5 x5 d0 d1 d2
        go_wp2_with fail
        refine (P2.out).mono ?_
        rintro e w6 ⟨v6, rfl, r6, c6, o6, x6⟩
        have x62 := blk_cell (i := 2) x6 rfl
        have P3 : Hid (Calls Tryz.prog 108 #[v6, .int .u64 yd, .int .i64 8] w6 fun e w7 => ∃ v7, e = .returned v7 ∧ Rw w7 5 1 v7 (B ++ ib (ws.take j) ++ be yt 2 ++ be yx 4 ++ be yd 8).length (bcells (B ++ ib (ws.take j) ++ be yt 2 ++ be yx 4 ++ be yd 8)) ∧ Chg [] w w7 ∧ (∀ b ∈ own v7, w.heap.size ≤ b)) := by
          refine (HPUT.out v6 _ yd 8 w6 r6 c6 o6 (by omega) (by omega) (by omega) (by omega)).mono ?_
          rintro e w7 ⟨v7, rfl, z1, z2, z3, z4⟩
          exact ⟨v7, rfl, z1, z2, z3⟩
        clear r6 c6 o6 x6 x51
        go_wp2_with fail
        refine (P3.out).mono ?_
        rintro e w7 ⟨v7, rfl, r7, c7, o7⟩
        have e7 : B ++ ib (ws.take j) ++ be yt 2 ++ be yx 4 ++ be yd 8 = B ++ ib (ws.take (j + 1)) := by rw [HTK.out]; simp
        rw [e7] at r7
        have HX : Hid (Rw w7 5 1 v7 (B ++ ib (ws.take (j + 1))).length (bcells (B ++ ib (ws.take (j + 1)))) ∧ Chg [] w w7 ∧ (∀ b ∈ own v7, w.heap.size ≤ b)) := ⟨r7, c7, o7⟩
        clear r7 c7 o7 e7
        go_wp2_with fail
        go_roundw
        case rel => exact ⟨j + 1, by omega, by go_num, HX.out.1, HX.out.2.1, HX.out.2.2⟩
        case measure => simp [intOf]; omega
    · have hjl : j = ws.length := by omega
      subst hjl
      have hcv := conv_rw hrw (by rw [List.length_append, HBL.out]; omega)
      rw [List.take_length] at hcv
      clear hrw
      go_wp2
      go_ret
      exact ⟨rfl, hch⟩
end Go.Proofs.YtbdnhllhdjepcaaGreat
