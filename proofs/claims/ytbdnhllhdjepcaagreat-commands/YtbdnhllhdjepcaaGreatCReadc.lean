import Derived.Test.YtbdnhllhdjepcaaGreatCWire
import Derived.Laws.BitsLemmas
namespace Go.Proofs.YtbdnhllhdjepcaaGreat
set_option linter.unusedVariables false
set_option linter.unusedSimpArgs false
open Go.RowKit Go.Maps

/-- the number that bytes say -/
def nb (l : List UInt8) : Int := l.foldl (fun n b => n * 256 + (b.toNat : Int)) 0
theorem nb_snoc (l : List UInt8) (b : UInt8) : nb (l ++ [b]) = nb l * 256 + (b.toNat : Int) := by simp [nb, List.foldl_append]
theorem nb_take (l : List UInt8) (j : Nat) (h : j < l.length) : nb (l.take (j + 1)) = nb (l.take j) * 256 + (l[j].toNat : Int) := by
  rw [← List.take_append_getElem h, nb_snoc]
theorem byte_ind {P : List UInt8 → Prop} (h0 : P []) (h1 : ∀ gs g, P gs → P (gs ++ [g])) (gs : List UInt8) : P gs := by
  have : ∀ l : List UInt8, P l.reverse := fun l => by
    induction l with
    | nil => exact h0
    | cons a l ih => rw [List.reverse_cons]; exact h1 _ _ ih
  have := this gs.reverse
  rwa [List.reverse_reverse] at this
theorem nb_bd (l : List UInt8) : 0 ≤ nb l ∧ nb l < 256 ^ l.length := by
  refine byte_ind (P := fun l => 0 ≤ nb l ∧ nb l < 256 ^ l.length) (by simp [nb]) (fun l b ih => ?_) l
  have hb : (b.toNat : Int) < 256 := by have := b.toNat_lt; omega
  rw [nb_snoc, List.length_append]
  simp only [List.length_cons, List.length_nil, Nat.zero_add]
  rw [Int.pow_succ]
  omega
theorem nb7 {l : List UInt8} (h : l.length ≤ 7) : nb l < 72057594037927936 := by
  have hb := (nb_bd l).2
  rcases (show l.length = 0 ∨ l.length = 1 ∨ l.length = 2 ∨ l.length = 3 ∨ l.length = 4 ∨ l.length = 5 ∨ l.length = 6 ∨ l.length = 7 from by omega) with e | e | e | e | e | e | e | e <;> rw [e] at hb <;> simp at hb <;> omega
theorem nb8 {l : List UInt8} (h : l.length ≤ 8) : nb l < 18446744073709551616 := by
  by_cases h8 : l.length = 8
  · have hb := (nb_bd l).2; rw [h8] at hb; simpa using hb
  · have := nb7 (l := l) (by omega); omega
theorem ba_get (l : List UInt8) (j : Nat) (h : j < (⟨l.toArray⟩ : ByteArray).size) : (⟨l.toArray⟩ : ByteArray)[j]'h = l[j]'(by have : (⟨l.toArray⟩ : ByteArray).size = l.length := (by show l.toArray.size = _; simp); omega) := rfl
theorem or_byte {a b : Int} (ha : 0 ≤ a) (ha' : a < 72057594037927936) (hb : 0 ≤ b) (hb' : b < 256) : bits .or .u64 (IntKind.u64.wrap (a * 256)) (IntKind.u64.wrap b) = a * 256 + b := by
  have e1 : IntKind.u64.wrap (a * 256) = a * 256 := by rw [IntKind.wrap_u64]; omega
  have e2 : IntKind.u64.wrap b = b := by rw [IntKind.wrap_u64]; omega
  rw [e1, e2]
  exact bits_join .u64 64 (by decide) (fun n h0 h1 => by rw [IntKind.wrap_u64]; omega) 8 (a * 256) b (by omega) (by omega) (by omega) hb (by omega) (by omega)
theorem or_byte2 {a b : Int} (ha : 0 ≤ a) (ha' : a < 72057594037927936) (hb : 0 ≤ b) (hb' : b < 256) : bits .or .u64 (a * 256) (IntKind.u64.wrap b) = a * 256 + b := by
  have := or_byte ha ha' hb hb'
  rwa [show IntKind.u64.wrap (a * 256) = a * 256 from by rw [IntKind.wrap_u64]; omega] at this
set_option maxRecDepth 100000 in
set_option maxHeartbeats 1000000 in
theorem number_any (l : List UInt8) (w : World) (hl : l.length ≤ 8) : Calls Tryz.prog 106 #[sv l] w fun e w' => e = .returned (.int .u64 (nb l)) ∧ w' = w := by
  have hsz : (⟨l.toArray⟩ : ByteArray).size = l.length := by show l.toArray.size = l.length; simp
  go_enter Tryz.func106, Tryz.ntmps106
  go_wp2_with fail
  go_loopw [3, 7] (fun n ix wr => ∃ j : Nat, j ≤ l.length ∧ ix = .int .i64 j ∧ n = .int .u64 (nb (l.take j)) ∧ wr = w) (fun _ ix _ => l.length - (intOf ix).toNat)
  case atStart => exact ⟨0, by omega, rfl, rfl, rfl⟩
  case round =>
    obtain ⟨j, hj, rfl, rfl, rfl⟩ := hrel
    by_cases hlt : j < l.length
    · have hjj : (j : Int) < (l.length : Int) := by omega
      have HTK : Hid (nb (l.take (j + 1)) = nb (l.take j) * 256 + (l[j].toNat : Int)) := nb_take l j hlt
      have hb0 := (nb_bd (l.take j)).1
      have hb7 := nb7 (l := l.take j) (by rw [List.length_take]; omega)
      have hby : (l[j].toNat : Int) < 256 := by have := l[j].toNat_lt; omega
      go_wp2_with fail
      refine ⟨⟨j + 1, by omega, by go_num, ?_, trivial⟩, by simp [intOf]; omega⟩
      rw [HTK.out]
      simp only [ba_get]
      first | rw [or_byte hb0 hb7 (by omega) hby] | rw [or_byte2 hb0 hb7 (by omega) hby]
    · have hjl : j = l.length := by omega
      subst hjl
      go_wp2
      go_ret
      exact ⟨congrArg (fun y => Ending.returned (Value.int .u64 (nb y))) List.take_length, rfl⟩
set_option maxRecDepth 100000 in
theorem short_any (l : List UInt8) (w : World) (hl : l.length ≤ 2) : Calls Tryz.prog 105 #[sv l] w fun e w' => e = .returned (.int .u16 (nb l)) ∧ w' = w := by
  have hb := nb_bd l
  have hb2 : nb l < 65536 := by
    rcases (show l.length = 0 ∨ l.length = 1 ∨ l.length = 2 from by omega) with e | e | e <;> rw [e] at hb <;> simp at hb <;> omega
  have hw : IntKind.u16.wrap (nb l) = nb l := by rw [IntKind.wrap_u16]; omega
  have HN : Hid (Calls Tryz.prog 106 #[sv l] w fun e w' => e = .returned (.int .u64 (nb l)) ∧ w' = w) := number_any l w (by omega)
  generalize nb l = N at *
  go_enter Tryz.func105, Tryz.ntmps105
  go_wp2_with fail
  refine (HN.out).mono ?_
  rintro e w ⟨rfl, rfl⟩
  go_wp2
  go_ret
  exact ⟨rfl, rfl⟩
/-- a command: kind, key, cost, tenant, item, most, span -/
structure Cm where
  k : Int
  t : Int
  u : Int
  r : Int
  c : Int
  n : Int
  x : Int
  m : Int
  s : Int
def Cm.cells (c : Cm) : List Value := [.int .i64 c.k, .int .u16 c.t, .int .u16 c.u, .int .u16 c.r, .int .i64 c.c, .int .u16 c.n, .int .u32 c.x, .int .i64 c.m, .int .u64 c.s]
def Cm.zero : Cm := ⟨0, 0, 0, 0, 0, 0, 0, 0, 0⟩
set_option maxRecDepth 100000 in
theorem load117 {W : World} {b : Nat} (c : Cm) (h : W.heap[b]? = some (.cells c.cells.toArray 99 (0, 0))) : (loadVar 99 ⟨b, 0, none⟩).run Tryz.prog W = .ok (.agg c.cells.toArray) W := by
  have c0 := blk_cell (i := 0) h rfl
  have c1 := blk_cell (i := 1) h rfl
  have c2 := blk_cell (i := 2) h rfl
  have c3 := blk_cell (i := 3) h rfl
  have c4 := blk_cell (i := 4) h rfl
  have c5 := blk_cell (i := 5) h rfl
  have c6 := blk_cell (i := 6) h rfl
  have c7 := blk_cell (i := 7) h rfl
  have c8 := blk_cell (i := 8) h rfl
  simp [go_sem, c0, c1, c2, c3, c4, c5, c6, c7, c8, Cm.cells]
def rdAdv (l : List UInt8) : Cm := if nb l ≤ 9223372036854775807 then ⟨4, 0, 0, 0, 0, 0, 0, 0, nb l⟩ else Cm.zero
def rdAll (l : List UInt8) : Cm := if 1 ≤ nb ((l.drop 6).take 2) ∧ nb ((l.drop 6).take 2) ≤ 1000 then ⟨1, nb (l.take 2), nb ((l.drop 2).take 2), nb ((l.drop 4).take 2), nb ((l.drop 6).take 2), 0, 0, 0, 0⟩ else Cm.zero
set_option maxRecDepth 100000 in
set_option maxHeartbeats 1000000 in
theorem readAdvance_any (l : List UInt8) (w : World) (hl : l.length ≤ 8) : Calls Tryz.prog 107 #[sv l] w fun e w' => e = .returned (.agg (rdAdv l).cells.toArray) ∧ Chg [] w w' := by
  have HN : Hid (∀ W, Calls Tryz.prog 106 #[sv l] W fun e w' => e = .returned (.int .u64 (nb l)) ∧ w' = W) := fun W => number_any l W hl
  have HRD : Hid (rdAdv l = if nb l ≤ 9223372036854775807 then ⟨4, 0, 0, 0, 0, 0, 0, 0, nb l⟩ else Cm.zero) := rfl
  generalize rdAdv l = C at *
  generalize nb l = N at *
  by_cases hN : N ≤ 9223372036854775807
  · rw [if_pos hN] at HRD
    go_enter Tryz.func107, Tryz.ntmps107
    go_wp2_with fail
    refine (HN.out _).mono ?_
    rintro e w1 ⟨rfl, rfl⟩
    go_wp2
    exact bodyPost_ret (v := .agg C.cells.toArray) (results_cell1 rfl rfl (load117 C (by rw [HRD.out]; exact heap_alloc_new w _))) rfl ⟨rfl, (Chg.refl _ _).alloc _⟩
  · rw [if_neg hN] at HRD
    have hN' : 9223372036854775807 < N := by omega
    go_enter Tryz.func107, Tryz.ntmps107
    go_wp2_with fail
    refine (HN.out _).mono ?_
    rintro e w1 ⟨rfl, rfl⟩
    go_wp2
    exact bodyPost_ret (v := .agg C.cells.toArray) (results_cell1 rfl rfl (load117 C (by rw [HRD.out]; exact heap_alloc_new w _))) rfl ⟨rfl, (Chg.refl _ _).alloc _⟩
end Go.Proofs.YtbdnhllhdjepcaaGreat
namespace Go.Proofs.YtbdnhllhdjepcaaGreat
set_option linter.unusedVariables false
set_option linter.unusedSimpArgs false
open Go.RowKit Go.Maps

theorem sv_ext (l : List UInt8) (a b : Nat) : (⟨l.toArray⟩ : ByteArray).extract a b = ⟨((l.drop a).take (b - a)).toArray⟩ := by
  apply ByteArray.ext
  rw [ByteArray.data_extract]
  simp [List.extract_eq_take_drop]
set_option maxRecDepth 100000 in
set_option maxHeartbeats 1000000 in
theorem readAllow_any (l : List UInt8) (w : World) (hl : l.length = 8) : Calls Tryz.prog 104 #[sv l] w fun e w' => e = .returned (.agg (rdAll l).cells.toArray) ∧ Chg [] w w' := by
  have hsz : (⟨l.toArray⟩ : ByteArray).size = 8 := by show l.toArray.size = 8; simpa using hl
  have hex := sv_ext l
  have H0 : Hid (∀ W, Calls Tryz.prog 105 #[sv (l.take 2)] W fun e w' => e = .returned (.int .u16 (nb (l.take 2))) ∧ w' = W) := fun W => short_any _ W (by rw [List.length_take]; omega)
  have H1 : Hid (∀ W, Calls Tryz.prog 105 #[sv ((l.drop 2).take 2)] W fun e w' => e = .returned (.int .u16 (nb ((l.drop 2).take 2))) ∧ w' = W) := fun W => short_any _ W (by rw [List.length_take]; omega)
  have H2 : Hid (∀ W, Calls Tryz.prog 105 #[sv ((l.drop 4).take 2)] W fun e w' => e = .returned (.int .u16 (nb ((l.drop 4).take 2))) ∧ w' = W) := fun W => short_any _ W (by rw [List.length_take]; omega)
  have H3 : Hid (∀ W, Calls Tryz.prog 105 #[sv ((l.drop 6).take 2)] W fun e w' => e = .returned (.int .u16 (nb ((l.drop 6).take 2))) ∧ w' = W) := fun W => short_any _ W (by rw [List.length_take]; omega)
  have HRD : Hid (rdAll l = if 1 ≤ nb ((l.drop 6).take 2) ∧ nb ((l.drop 6).take 2) ≤ 1000 then ⟨1, nb (l.take 2), nb ((l.drop 2).take 2), nb ((l.drop 4).take 2), nb ((l.drop 6).take 2), 0, 0, 0, 0⟩ else Cm.zero) := rfl
  have hb3 := nb_bd ((l.drop 6).take 2)
  have hb3' : 0 ≤ nb ((l.drop 6).take 2) ∧ nb ((l.drop 6).take 2) < 65536 := by
    have e : ((l.drop 6).take 2).length = 2 := by rw [List.length_take, List.length_drop]; omega
    rw [e] at hb3; simp at hb3; omega
  clear hb3
  generalize rdAll l = C at *
  generalize nb (l.take 2) = N0 at *
  generalize nb ((l.drop 2).take 2) = N1 at *
  generalize nb ((l.drop 4).take 2) = N2 at *
  generalize nb ((l.drop 6).take 2) = N3 at *
  have hwN : IntKind.i64.wrap N3 = N3 := by rw [IntKind.wrap_i64]; omega
  go_enter Tryz.func104, Tryz.ntmps104
  go_wp2_with fail
  go_region_with (go_at_call 105; first | (refine (H0.out _).mono ?_; rintro e w1 ⟨rfl, rfl⟩) | (refine (H1.out _).mono ?_; rintro e w1 ⟨rfl, rfl⟩) | (refine (H2.out _).mono ?_; rintro e w1 ⟨rfl, rfl⟩))
  all_goals
    go_wp2_with fail
    refine (H3.out _).mono ?_
    rintro e w1 ⟨rfl, rfl⟩
    by_cases hc1 : N3 < 1
    · rw [if_neg (by omega)] at HRD
      go_wp2
      exact bodyPost_ret (v := .agg C.cells.toArray) (results_cell1 rfl rfl (load117 C (by rw [HRD.out]; exact heap_alloc2_old _ _ _))) rfl ⟨rfl, (((Chg.refl _ _).alloc _).alloc _).drew⟩
    · by_cases hc2 : 1000 < N3
      · rw [if_neg (by omega)] at HRD
        go_wp2
        exact bodyPost_ret (v := .agg C.cells.toArray) (results_cell1 rfl rfl (load117 C (by rw [HRD.out]; exact heap_alloc2_old _ _ _))) rfl ⟨rfl, (((Chg.refl _ _).alloc _).alloc _).drew⟩
      · rw [if_pos (by omega)] at HRD
        go_wp2
        exact bodyPost_ret (v := .agg C.cells.toArray) (results_cell1 rfl rfl (load117 C (by rw [HRD.out]; exact heap_alloc2_old _ _ _))) rfl ⟨rfl, (((Chg.refl _ _).alloc _).alloc _).drew⟩
end Go.Proofs.YtbdnhllhdjepcaaGreat
namespace Go.Proofs.YtbdnhllhdjepcaaGreat
set_option linter.unusedVariables false
set_option linter.unusedSimpArgs false
open Go.RowKit Go.Maps

def rdSub (l : List UInt8) : Cm := ⟨2, 0, 0, 0, 0, nb (l.take 2), nb ((l.drop 2).take 4), 0, 0⟩
def rdPol (l : List UInt8) : Cm := ⟨3, 0, 0, 0, 0, 0, 0, nb l, 0⟩
/-- what a text says -/
def rd (b : UInt8) (l : List UInt8) : Cm :=
  if b.toNat = 1 ∧ l.length = 8 then rdAll l else if b.toNat = 2 ∧ l.length = 6 then rdSub l else if b.toNat = 3 ∧ l.length = 1 then rdPol l else if b.toNat = 4 ∧ l.length = 8 then rdAdv l else Cm.zero
set_option maxRecDepth 100000 in
set_option maxHeartbeats 1000000 in
theorem read_nil (w : World) : Calls Tryz.prog 59 #[sv []] w fun e w' => e = .returned (.agg Cm.zero.cells.toArray) ∧ Chg [] w w' := by
  go_enter Tryz.func59, Tryz.ntmps59
  go_wp2
  exact bodyPost_ret (v := .agg Cm.zero.cells.toArray) (results_cell1 rfl rfl (load117 Cm.zero (heap_alloc_new w _))) rfl ⟨rfl, (Chg.refl _ _).alloc _⟩
set_option maxRecDepth 100000 in
set_option maxHeartbeats 2000000 in
theorem read_cons (b : UInt8) (l : List UInt8) (w : World) (hl : l.length ≤ 9223372036854775806) : Calls Tryz.prog 59 #[sv (b :: l)] w fun e w' => e = .returned (.agg (rd b l).cells.toArray) ∧ Chg [] w w' := by
  have hsz : (⟨(b :: l).toArray⟩ : ByteArray).size = l.length + 1 := by show (b :: l).toArray.size = _; simp
  have hsl : (⟨l.toArray⟩ : ByteArray).size = l.length := by show l.toArray.size = _; simp
  have hex : (⟨(b :: l).toArray⟩ : ByteArray).extract 1 (l.length + 1) = ⟨l.toArray⟩ := by rw [sv_ext]; simp
  have hg0 : ∀ h : 0 < (⟨(b :: l).toArray⟩ : ByteArray).size, (⟨(b :: l).toArray⟩ : ByteArray)[0]'h = b := fun _ => rfl
  obtain ⟨L, hL⟩ : ∃ L, L = b :: l := ⟨_, rfl⟩
  rw [← hL] at hsz hex hg0 ⊢
  have HRD : Hid (rd b l = if b.toNat = 1 ∧ l.length = 8 then rdAll l else if b.toNat = 2 ∧ l.length = 6 then rdSub l else if b.toNat = 3 ∧ l.length = 1 then rdPol l else if b.toNat = 4 ∧ l.length = 8 then rdAdv l else Cm.zero) := rfl
  generalize rd b l = C at *
  clear hL
  have hbb := b.toNat_lt
  obtain ⟨k, hk⟩ : ∃ k : Nat, b.toNat = k := ⟨_, rfl⟩
  rw [hk] at HRD hbb
  have hwk : IntKind.i64.wrap (k : Int) = k := by rw [IntKind.wrap_i64]; omega
  go_enter Tryz.func59, Tryz.ntmps59
  go_wp2_with fail
  go_region
  obtain ⟨n, hn⟩ : ∃ n, n = l.length := ⟨_, rfl⟩
  rw [← hn] at hsz hsl hex hl HRD
  have HN : Hid (n = l.length) := hn
  clear hn hg0 hk
  by_cases c1 : k = 1 ∧ n = 8
  · rw [if_pos c1] at HRD
    obtain ⟨rfl, rfl⟩ := c1
    have h8 : l.length = 8 := HN.out.symm
    clear hwk hbb
    have HC : Hid (∀ W, Calls Tryz.prog 104 #[sv l] W fun e w' => e = .returned (.agg #[.int .i64 C.k, .int .u16 C.t, .int .u16 C.u, .int .u16 C.r, .int .i64 C.c, .int .u16 C.n, .int .u32 C.x, .int .i64 C.m, .int .u64 C.s]) ∧ Chg [] W w') := fun W => by
      have := readAllow_any l W (by omega)
      rw [← HRD.out] at this
      exact this
    go_wp2_with fail
    refine (HC.out _).mono ?_
    rintro e w1 ⟨rfl, q1⟩
    have z : w1.heap[w.heap.size]? = some (.cells [.int .i64 0, .int .u16 0, .int .u16 0, .int .u16 0, .int .i64 0, .int .u16 0, .int .u32 0, .int .i64 0, .int .u64 0].toArray 99 (0, 0)) := q1.blk (b := w.heap.size) (heap_alloc_new w _) (by simp)
    have hcA : Chg [] w w1 := (((Chg.refl [] w).alloc _).drew).trans q1 (by simp)
    have z0 := blk_cell (i := 0) z rfl
    have z1 := blk_cell (i := 1) z rfl
    have z2 := blk_cell (i := 2) z rfl
    have z3 := blk_cell (i := 3) z rfl
    have z4 := blk_cell (i := 4) z rfl
    have z5 := blk_cell (i := 5) z rfl
    have z6 := blk_cell (i := 6) z rfl
    have z7 := blk_cell (i := 7) z rfl
    have z8 := blk_cell (i := 8) z rfl
    have zf : ∀ i, w1.frozen? ⟨w.heap.size, i, none⟩ = false := fun i => blk_free z
    go_wp2
    exact bodyPost_ret (v := .agg C.cells.toArray) (results_cell1 rfl rfl (load117 C (blk_set (i := 8) (.int .u64 C.s) (blk_set (i := 7) (.int .i64 C.m) (blk_set (i := 6) (.int .u32 C.x) (blk_set (i := 5) (.int .u16 C.n) (blk_set (i := 4) (.int .i64 C.c) (blk_set (i := 3) (.int .u16 C.r) (blk_set (i := 2) (.int .u16 C.u) (blk_set (i := 1) (.int .u16 C.t) (blk_set (i := 0) (.int .i64 C.k) z))))))))))) rfl ⟨rfl, (((((((((hcA.set ⟨w.heap.size, 0, none⟩ (.int .i64 C.k) (Or.inr (by dsimp only; omega))).set ⟨w.heap.size, 1, none⟩ (.int .u16 C.t) (Or.inr (by dsimp only; omega))).set ⟨w.heap.size, 2, none⟩ (.int .u16 C.u) (Or.inr (by dsimp only; omega))).set ⟨w.heap.size, 3, none⟩ (.int .u16 C.r) (Or.inr (by dsimp only; omega))).set ⟨w.heap.size, 4, none⟩ (.int .i64 C.c) (Or.inr (by dsimp only; omega))).set ⟨w.heap.size, 5, none⟩ (.int .u16 C.n) (Or.inr (by dsimp only; omega))).set ⟨w.heap.size, 6, none⟩ (.int .u32 C.x) (Or.inr (by dsimp only; omega))).set ⟨w.heap.size, 7, none⟩ (.int .i64 C.m) (Or.inr (by dsimp only; omega))).set ⟨w.heap.size, 8, none⟩ (.int .u64 C.s) (Or.inr (by dsimp only; omega)))⟩
  · rw [if_neg c1] at HRD
    by_cases c2 : k = 2 ∧ n = 6
    · rw [if_pos c2] at HRD
      obtain ⟨rfl, rfl⟩ := c2
      have h6 : l.length = 6 := HN.out.symm
      have hexl := sv_ext l
      have H0 : Hid (∀ W, Calls Tryz.prog 105 #[sv (l.take 2)] W fun e w' => e = .returned (.int .u16 (nb (l.take 2))) ∧ w' = W) := fun W => short_any _ W (by rw [List.length_take]; omega)
      have H1 : Hid (∀ W, Calls Tryz.prog 106 #[sv ((l.drop 2).take 4)] W fun e w' => e = .returned (.int .u64 (nb ((l.drop 2).take 4))) ∧ w' = W) := fun W => number_any _ W (by rw [List.length_take]; omega)
      have hb := nb_bd ((l.drop 2).take 4)
      have e4 : ((l.drop 2).take 4).length = 4 := by rw [List.length_take, List.length_drop]; omega
      rw [e4] at hb
      simp at hb
      unfold rdSub at HRD
      generalize nb (l.take 2) = N0 at *
      generalize nb ((l.drop 2).take 4) = N1 at *
      have hw4 : IntKind.u32.wrap N1 = N1 := by rw [IntKind.wrap_u32]; omega
      clear hwk hbb e4
      go_wp2_with fail
      go_region_with (first | (go_at_call 105; refine (H0.out _).mono ?_; rintro e w1 ⟨rfl, rfl⟩) | (go_at_call 106; refine (H1.out _).mono ?_; rintro e w1 ⟨rfl, rfl⟩))
      all_goals
        go_wp2
        exact bodyPost_ret (v := .agg C.cells.toArray) (results_cell1 rfl rfl (load117 C (by rw [HRD.out]; first | exact heap_alloc_new w _))) rfl ⟨rfl, by first | exact ((Chg.refl _ _).alloc _).drew | exact (((Chg.refl _ _).alloc _).drew).drew⟩
    · rw [if_neg c2] at HRD
      by_cases c3 : k = 3 ∧ n = 1
      · rw [if_pos c3] at HRD
        obtain ⟨rfl, rfl⟩ := c3
        obtain ⟨b0, rfl⟩ : ∃ b0, l = [b0] := List.length_eq_one_iff.1 HN.out.symm
        have hg1 : ∀ h : 0 < (⟨[b0].toArray⟩ : ByteArray).size, (⟨[b0].toArray⟩ : ByteArray)[0]'h = b0 := fun _ => rfl
        have hb0 := b0.toNat_lt
        have hw0 : IntKind.i64.wrap (b0.toNat : Int) = b0.toNat := by rw [IntKind.wrap_i64]; omega
        have e1 : rdPol [b0] = ⟨3, 0, 0, 0, 0, 0, 0, (b0.toNat : Int), 0⟩ := by simp [rdPol, nb]
        rw [e1] at HRD
        clear hwk hbb e1
        go_wp2
        exact bodyPost_ret (v := .agg C.cells.toArray) (results_cell1 rfl rfl (load117 C (by rw [HRD.out]; first | exact heap_alloc_new w _))) rfl ⟨rfl, by first | exact ((Chg.refl _ _).alloc _).drew | exact (((Chg.refl _ _).alloc _).drew).drew⟩
      · rw [if_neg c3] at HRD
        by_cases c4 : k = 4 ∧ n = 8
        · rw [if_pos c4] at HRD
          obtain ⟨rfl, rfl⟩ := c4
          have h8 : l.length = 8 := HN.out.symm
          clear hwk hbb
          have HC : Hid (∀ W, Calls Tryz.prog 107 #[sv l] W fun e w' => e = .returned (.agg #[.int .i64 C.k, .int .u16 C.t, .int .u16 C.u, .int .u16 C.r, .int .i64 C.c, .int .u16 C.n, .int .u32 C.x, .int .i64 C.m, .int .u64 C.s]) ∧ Chg [] W w') := fun W => by
            have := readAdvance_any l W (by omega)
            rw [← HRD.out] at this
            exact this
          go_wp2_with fail
          refine (HC.out _).mono ?_
          rintro e w1 ⟨rfl, q1⟩
          have z : w1.heap[w.heap.size]? = some (.cells [.int .i64 0, .int .u16 0, .int .u16 0, .int .u16 0, .int .i64 0, .int .u16 0, .int .u32 0, .int .i64 0, .int .u64 0].toArray 99 (0, 0)) := q1.blk (b := w.heap.size) (heap_alloc_new w _) (by simp)
          have hcA : Chg [] w w1 := (((Chg.refl [] w).alloc _).drew).trans q1 (by simp)
          have z0 := blk_cell (i := 0) z rfl
          have z1 := blk_cell (i := 1) z rfl
          have z2 := blk_cell (i := 2) z rfl
          have z3 := blk_cell (i := 3) z rfl
          have z4 := blk_cell (i := 4) z rfl
          have z5 := blk_cell (i := 5) z rfl
          have z6 := blk_cell (i := 6) z rfl
          have z7 := blk_cell (i := 7) z rfl
          have z8 := blk_cell (i := 8) z rfl
          have zf : ∀ i, w1.frozen? ⟨w.heap.size, i, none⟩ = false := fun i => blk_free z
          go_wp2
          exact bodyPost_ret (v := .agg C.cells.toArray) (results_cell1 rfl rfl (load117 C (blk_set (i := 8) (.int .u64 C.s) (blk_set (i := 7) (.int .i64 C.m) (blk_set (i := 6) (.int .u32 C.x) (blk_set (i := 5) (.int .u16 C.n) (blk_set (i := 4) (.int .i64 C.c) (blk_set (i := 3) (.int .u16 C.r) (blk_set (i := 2) (.int .u16 C.u) (blk_set (i := 1) (.int .u16 C.t) (blk_set (i := 0) (.int .i64 C.k) z))))))))))) rfl ⟨rfl, (((((((((hcA.set ⟨w.heap.size, 0, none⟩ (.int .i64 C.k) (Or.inr (by dsimp only; omega))).set ⟨w.heap.size, 1, none⟩ (.int .u16 C.t) (Or.inr (by dsimp only; omega))).set ⟨w.heap.size, 2, none⟩ (.int .u16 C.u) (Or.inr (by dsimp only; omega))).set ⟨w.heap.size, 3, none⟩ (.int .u16 C.r) (Or.inr (by dsimp only; omega))).set ⟨w.heap.size, 4, none⟩ (.int .i64 C.c) (Or.inr (by dsimp only; omega))).set ⟨w.heap.size, 5, none⟩ (.int .u16 C.n) (Or.inr (by dsimp only; omega))).set ⟨w.heap.size, 6, none⟩ (.int .u32 C.x) (Or.inr (by dsimp only; omega))).set ⟨w.heap.size, 7, none⟩ (.int .i64 C.m) (Or.inr (by dsimp only; omega))).set ⟨w.heap.size, 8, none⟩ (.int .u64 C.s) (Or.inr (by dsimp only; omega)))⟩
        · rw [if_neg c4] at HRD
          rcases (by omega : (k ≠ 1 ∧ k ≠ 2 ∧ k ≠ 3 ∧ k ≠ 4) ∨ (k = 1 ∧ n ≠ 8) ∨ (k = 2 ∧ n ≠ 6) ∨ (k = 3 ∧ n ≠ 1) ∨ (k = 4 ∧ n ≠ 8)) with ⟨p1, p2, p3, p4⟩ | ⟨rfl, p⟩ | ⟨rfl, p⟩ | ⟨rfl, p⟩ | ⟨rfl, p⟩
          · have o1 : ((k : Int) == 1) = false := by simp; omega
            have o2 : ((k : Int) == 2) = false := by simp; omega
            have o3 : ((k : Int) == 3) = false := by simp; omega
            have o4 : ((k : Int) == 4) = false := by simp; omega
            clear hwk hbb
            go_wp2
            exact bodyPost_ret (v := .agg C.cells.toArray) (results_cell1 rfl rfl (load117 C (by rw [HRD.out]; first | exact heap_alloc_new w _))) rfl ⟨rfl, by first | exact ((Chg.refl _ _).alloc _).drew | exact (((Chg.refl _ _).alloc _).drew).drew⟩
          all_goals
            have o8 : ((n : Int) == 8) = decide (n = 8) := by rw [Bool.eq_iff_iff]; simp; omega
            have o6 : ((n : Int) == 6) = decide (n = 6) := by rw [Bool.eq_iff_iff]; simp; omega
            have o1 : ((n : Int) == 1) = decide (n = 1) := by rw [Bool.eq_iff_iff]; simp; omega
            have p' : decide (n = 8) = decide (n = 8) := rfl
            clear hwk hbb p'
            go_wp2
            exact bodyPost_ret (v := .agg C.cells.toArray) (results_cell1 rfl rfl (load117 C (by rw [HRD.out]; first | exact heap_alloc_new w _))) rfl ⟨rfl, by first | exact ((Chg.refl _ _).alloc _).drew | exact (((Chg.refl _ _).alloc _).drew).drew⟩
end Go.Proofs.YtbdnhllhdjepcaaGreat
