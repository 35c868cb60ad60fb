import Derived.Test.YtbdnhllhdjepcaaWire
import Derived.Laws.BitsLemmas
namespace Go.Proofs.Ytbdnhllhdjepcaa
set_option linter.unusedVariables false
set_option linter.unusedSimpArgs false
open Go.RowKit Go.Maps

/-- the number that bytes say -/
def nb (l : List UInt8) : Int := l.foldl (fun n b => n * 256 + (b.toNat : Int)) 0
theorem nb_snoc (l : List UInt8) (b : UInt8) : nb (l ++ [b]) = nb l * 256 + (b.toNat : Int) := by simp [nb, List.foldl_append]
theorem nb_take (l : List UInt8) (j : Nat) (h : j < l.length) : nb (l.take (j + 1)) = nb (l.take j) * 256 + (l[j].toNat : Int) := by
  rw [← List.take_append_getElem h, nb_snoc]
theorem byte_ind {P : List UInt8 → Prop} (h0 : P []) (h1 : ∀ gs g, P gs → P (gs ++ [g])) (gs : List UInt8) : P gs := by
  have : ∀ l : List UInt8, P l.reverse := fun l => by
    induction l with
    | nil => exact h0
    | cons a l ih => rw [List.reverse_cons]; exact h1 _ _ ih
  have := this gs.reverse
  rwa [List.reverse_reverse] at this
theorem nb_bd (l : List UInt8) : 0 ≤ nb l ∧ nb l < 256 ^ l.length := by
  refine byte_ind (P := fun l => 0 ≤ nb l ∧ nb l < 256 ^ l.length) (by simp [nb]) (fun l b ih => ?_) l
  have hb : (b.toNat : Int) < 256 := by have := b.toNat_lt; omega
  rw [nb_snoc, List.length_append]
  simp only [List.length_cons, List.length_nil, Nat.zero_add]
  rw [Int.pow_succ]
  omega
theorem nb7 {l : List UInt8} (h : l.length ≤ 7) : nb l < 72057594037927936 := by
  have hb := (nb_bd l).2
  rcases (show l.length = 0 ∨ l.length = 1 ∨ l.length = 2 ∨ l.length = 3 ∨ l.length = 4 ∨ l.length = 5 ∨ l.length = 6 ∨ l.length = 7 from by omega) with e | e | e | e | e | e | e | e <;> rw [e] at hb <;> simp at hb <;> omega
theorem nb8 {l : List UInt8} (h : l.length ≤ 8) : nb l < 18446744073709551616 := by
  by_cases h8 : l.length = 8
  · have hb := (nb_bd l).2; rw [h8] at hb; simpa using hb
  · have := nb7 (l := l) (by omega); omega
theorem ba_get (l : List UInt8) (j : Nat) (h : j < (⟨l.toArray⟩ : ByteArray).size) : (⟨l.toArray⟩ : ByteArray)[j]'h = l[j]'(by have : (⟨l.toArray⟩ : ByteArray).size = l.length := (by show l.toArray.size = _; simp); omega) := rfl
theorem or_byte {a b : Int} (ha : 0 ≤ a) (ha' : a < 72057594037927936) (hb : 0 ≤ b) (hb' : b < 256) : bits .or .u64 (IntKind.u64.wrap (a * 256)) (IntKind.u64.wrap b) = a * 256 + b := by
  have e1 : IntKind.u64.wrap (a * 256) = a * 256 := by rw [IntKind.wrap_u64]; omega
  have e2 : IntKind.u64.wrap b = b := by rw [IntKind.wrap_u64]; omega
  rw [e1, e2]
  exact bits_join .u64 64 (by decide) (fun n h0 h1 => by rw [IntKind.wrap_u64]; omega) 8 (a * 256) b (by omega) (by omega) (by omega) hb (by omega) (by omega)
theorem or_byte2 {a b : Int} (ha : 0 ≤ a) (ha' : a < 72057594037927936) (hb : 0 ≤ b) (hb' : b < 256) : bits .or .u64 (a * 256) (IntKind.u64.wrap b) = a * 256 + b := by
  have := or_byte ha ha' hb hb'
  rwa [show IntKind.u64.wrap (a * 256) = a * 256 from by rw [IntKind.wrap_u64]; omega] at this
set_option maxRecDepth 100000 in
set_option maxHeartbeats 1000000 in
theorem number_any (l : List UInt8) (w : World) (hl : l.length ≤ 8) : Calls Try.prog 77 #[sv l] w fun e w' => e = .returned (.int .u64 (nb l)) ∧ w' = w := by
  have hsz : (⟨l.toArray⟩ : ByteArray).size = l.length := by show l.toArray.size = l.length; simp
  go_enter Try.func77, Try.ntmps77
  go_wp2_with fail
  go_loopw [3, 7] (fun n ix wr => ∃ j : Nat, j ≤ l.length ∧ ix = .int .i64 j ∧ n = .int .u64 (nb (l.take j)) ∧ wr = w) (fun _ ix _ => l.length - (intOf ix).toNat)
  case atStart => exact ⟨0, by omega, rfl, rfl, rfl⟩
  case round =>
    obtain ⟨j, hj, rfl, rfl, rfl⟩ := hrel
    by_cases hlt : j < l.length
    · have hjj : (j : Int) < (l.length : Int) := by omega
      have HTK : Hid (nb (l.take (j + 1)) = nb (l.take j) * 256 + (l[j].toNat : Int)) := nb_take l j hlt
      have hb0 := (nb_bd (l.take j)).1
      have hb7 := nb7 (l := l.take j) (by rw [List.length_take]; omega)
      have hby : (l[j].toNat : Int) < 256 := by have := l[j].toNat_lt; omega
      go_wp2_with fail
      refine ⟨⟨j + 1, by omega, by go_num, ?_, trivial⟩, by simp [intOf]; omega⟩
      rw [HTK.out]
      simp only [ba_get]
      first | rw [or_byte hb0 hb7 (by omega) hby] | rw [or_byte2 hb0 hb7 (by omega) hby]
    · have hjl : j = l.length := by omega
      subst hjl
      go_wp2
      go_ret
      exact ⟨congrArg (fun y => Ending.returned (Value.int .u64 (nb y))) List.take_length, rfl⟩
set_option maxRecDepth 100000 in
theorem short_any (l : List UInt8) (w : World) (hl : l.length ≤ 2) : Calls Try.prog 76 #[sv l] w fun e w' => e = .returned (.int .u16 (nb l)) ∧ w' = w := by
  have hb := nb_bd l
  have hb2 : nb l < 65536 := by
    rcases (show l.length = 0 ∨ l.length = 1 ∨ l.length = 2 from by omega) with e | e | e <;> rw [e] at hb <;> simp at hb <;> omega
  have hw : IntKind.u16.wrap (nb l) = nb l := by rw [IntKind.wrap_u16]; omega
  have HN : Hid (Calls Try.prog 77 #[sv l] w fun e w' => e = .returned (.int .u64 (nb l)) ∧ w' = w) := number_any l w (by omega)
  generalize nb l = N at *
  go_enter Try.func76, Try.ntmps76
  go_wp2_with fail
  refine (HN.out).mono ?_
  rintro e w ⟨rfl, rfl⟩
  go_wp2
  go_ret
  exact ⟨rfl, rfl⟩
/-- a command: kind, key, cost, tenant, item, most, span -/
structure Cm where
  k : Int
  t : Int
  u : Int
  r : Int
  c : Int
  n : Int
  x : Int
  m : Int
  s : Int
def Cm.cells (c : Cm) : List Value := [.int .i64 c.k, .int .u16 c.t, .int .u16 c.u, .int .u16 c.r, .int .i64 c.c, .int .u16 c.n, .int .u32 c.x, .int .i64 c.m, .int .u64 c.s]
def Cm.zero : Cm := ⟨0, 0, 0, 0, 0, 0, 0, 0, 0⟩
set_option maxRecDepth 100000 in
theorem load117 {W : World} {b : Nat} (c : Cm) (h : W.heap[b]? = some (.cells c.cells.toArray 117 (0, 0))) : (loadVar 117 ⟨b, 0, none⟩).run Try.prog W = .ok (.agg c.cells.toArray) W := by
  have c0 := blk_cell (i := 0) h rfl
  have c1 := blk_cell (i := 1) h rfl
  have c2 := blk_cell (i := 2) h rfl
  have c3 := blk_cell (i := 3) h rfl
  have c4 := blk_cell (i := 4) h rfl
  have c5 := blk_cell (i := 5) h rfl
  have c6 := blk_cell (i := 6) h rfl
  have c7 := blk_cell (i := 7) h rfl
  have c8 := blk_cell (i := 8) h rfl
  simp [go_sem, c0, c1, c2, c3, c4, c5, c6, c7, c8, Cm.cells]
def rdAdv (l : List UInt8) : Cm := if nb l ≤ 9223372036854775807 then ⟨4, 0, 0, 0, 0, 0, 0, 0, nb l⟩ else Cm.zero
def rdAll (l : List UInt8) : Cm := if 1 ≤ nb ((l.drop 6).take 2) ∧ nb ((l.drop 6).take 2) ≤ 1000 then ⟨1, nb (l.take 2), nb ((l.drop 2).take 2), nb ((l.drop 4).take 2), nb ((l.drop 6).take 2), 0, 0, 0, 0⟩ else Cm.zero
set_option maxRecDepth 100000 in
set_option maxHeartbeats 1000000 in
theorem readAdvance_any (l : List UInt8) (w : World) (hl : l.length ≤ 8) : Calls Try.prog 78 #[sv l] w fun e w' => e = .returned (.agg (rdAdv l).cells.toArray) ∧ Chg [] w w' := by
  have HN : Hid (∀ W, Calls Try.prog 77 #[sv l] W fun e w' => e = .returned (.int .u64 (nb l)) ∧ w' = W) := fun W => number_any l W hl
  have HRD : Hid (rdAdv l = if nb l ≤ 9223372036854775807 then ⟨4, 0, 0, 0, 0, 0, 0, 0, nb l⟩ else Cm.zero) := rfl
  generalize rdAdv l = C at *
  generalize nb l = N at *
  by_cases hN : N ≤ 9223372036854775807
  · rw [if_pos hN] at HRD
    go_enter Try.func78, Try.ntmps78
    go_wp2_with fail
    refine (HN.out _).mono ?_
    rintro e w1 ⟨rfl, rfl⟩
    go_wp2
    exact bodyPost_ret (v := .agg C.cells.toArray) (results_cell1 rfl rfl (load117 C (by rw [HRD.out]; exact heap_alloc_new w _))) rfl ⟨rfl, (Chg.refl _ _).alloc _⟩
  · rw [if_neg hN] at HRD
    have hN' : 9223372036854775807 < N := by omega
    go_enter Try.func78, Try.ntmps78
    go_wp2_with fail
    refine (HN.out _).mono ?_
    rintro e w1 ⟨rfl, rfl⟩
    go_wp2
    exact bodyPost_ret (v := .agg C.cells.toArray) (results_cell1 rfl rfl (load117 C (by rw [HRD.out]; exact heap_alloc_new w _))) rfl ⟨rfl, (Chg.refl _ _).alloc _⟩
end Go.Proofs.Ytbdnhllhdjepcaa
