import Derived.Test.YtbdnhllhdjepcaaMq
namespace Go.Proofs.Ytbdnhllhdjepcaa
set_option linter.unusedVariables false
set_option linter.unusedSimpArgs false
open Go.RowKit Go.Maps

/-! ### items as they came, and as they are told -/
def isort (W : List It) : List It := W.foldl (fun q x => ins x q) []
theorem isort_snoc (W : List It) (x : It) : isort (W ++ [x]) = ins x (isort W) := by simp [isort, List.foldl_append]
theorem it_ind {P : List It → Prop} (h0 : P []) (h1 : ∀ gs g, P gs → P (gs ++ [g])) (gs : List It) : P gs := by
  have : ∀ l : List It, P l.reverse := fun l => by
    induction l with
    | nil => exact h0
    | cons a l ih => rw [List.reverse_cons]; exact h1 _ _ ih
  have := this gs.reverse
  rwa [List.reverse_reverse] at this
theorem mem_ins {x z : It} : ∀ {q : List It}, z ∈ ins x q ↔ z = x ∨ z ∈ q
  | [] => by simp [ins]
  | y :: q => by
    unfold ins
    split
    · simp
    · simp only [List.mem_cons, mem_ins (q := q)]
      constructor
      · rintro (h | h | h)
        · exact Or.inr (Or.inl h)
        · exact Or.inl h
        · exact Or.inr (Or.inr h)
      · rintro (h | h | h)
        · exact Or.inr (Or.inl h)
        · exact Or.inl h
        · exact Or.inr (Or.inr h)
theorem mem_isort (W : List It) : ∀ z, z ∈ isort W ↔ z ∈ W := by
  refine it_ind (P := fun W => ∀ z, z ∈ isort W ↔ z ∈ W) (by simp [isort]) (fun W x ih z => ?_) W
  rw [isort_snoc, mem_ins, ih z]
  simp [or_comm]
theorem isort_len (W : List It) : (isort W).length = W.length := by
  refine it_ind (P := fun W => (isort W).length = W.length) (by simp [isort]) (fun W x ih => ?_) W
  rw [isort_snoc, ins_len, ih]
  simp
theorem isort_sorted (W : List It) : Sorted (isort W) := by
  refine it_ind (P := fun W => Sorted (isort W)) (by simp [isort, Sorted]) (fun W x ih => ?_) W
  rw [isort_snoc]
  exact ins_sorted _ _ ih
/-- the first of those that are due first -/
structure Mn (W : List It) (b : Nat) : Prop where
  lt : b < W.length
  le : ∀ j (hj : j < W.length), W[b].d ≤ W[j].d
  fst : ∀ j (hj : j < W.length), j < b → W[b].d < W[j].d
theorem isort_min (W : List It) : ∀ b (h : Mn W b), isort W = (W[b]'h.lt) :: isort (W.eraseIdx b) := by
  refine it_ind (P := fun W => ∀ b (h : Mn W b), isort W = (W[b]'h.lt) :: isort (W.eraseIdx b)) (fun b h => by have := h.lt; simp at this) (fun W x ih b h => ?_) W
  have hlt := h.lt
  rw [List.length_append] at hlt
  simp only [List.length_cons, List.length_nil] at hlt
  by_cases hb : b < W.length
  · have hW : Mn W b := ⟨hb, fun j hj => by have := h.le j (by simp; omega); rwa [List.getElem_append_left hb, List.getElem_append_left hj] at this, fun j hj hjb => by have := h.fst j (by simp; omega) hjb; rwa [List.getElem_append_left hb, List.getElem_append_left hj] at this⟩
    have hx := h.le W.length (by simp)
    rw [List.getElem_append_left hb, List.getElem_append_right (Nat.le_refl _)] at hx
    simp at hx
    rw [isort_snoc, ih b hW, List.getElem_append_left hb, List.eraseIdx_append_of_lt_length hb, isort_snoc]
    show (if x.d < W[b].d then _ else _) = _
    rw [if_neg (by omega)]
  · have hbe : b = W.length := by omega
    subst hbe
    rw [isort_snoc, List.getElem_append_right (Nat.le_refl _), List.eraseIdx_append_of_length_le (Nat.le_refl _)]
    simp
    have := ins_split x (isort W) (fun y hy => by
      obtain ⟨j, hj, rfl⟩ := List.mem_iff_getElem.1 ((mem_isort W y).1 hy)
      have := h.fst j (by simp; omega) hj
      rw [List.getElem_append_right (Nat.le_refl _), List.getElem_append_left hj] at this
      simpa using this) [] (by simp)
    simpa using this
/-- of a poll's steps: the one that is told is the first of those that wait -/
theorem isort_step {W0 W : List It} {i b : Nat} (h : isort W = (isort W0).drop i) (hb : Mn W b) : ∃ hi : i < (isort W0).length, W[b]'hb.lt = (isort W0)[i] ∧ isort (W.eraseIdx b) = (isort W0).drop (i + 1) := by
  have h1 := isort_min W b hb
  have hi : i < (isort W0).length := by
    have := isort_len W
    have h2 := hb.lt
    rw [h, List.length_drop] at this
    omega
  refine ⟨hi, ?_⟩
  rw [h1, List.drop_eq_getElem_cons hi] at h
  injection h with h3 h4
  exact ⟨h3, h4⟩
end Go.Proofs.Ytbdnhllhdjepcaa
