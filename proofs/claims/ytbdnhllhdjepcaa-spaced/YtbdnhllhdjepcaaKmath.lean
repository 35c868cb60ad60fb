import Derived.Test.YtbdnhllhdjepcaaNeeded
namespace Go.Proofs.Ytbdnhllhdjepcaa
set_option linter.unusedVariables false
set_option linter.unusedSimpArgs false
open Go.RowKit Go.Maps

/-! ### keys and places -/
/-- a key of three tenants of two users and two routes each -/
def Rng (t u r : Int) : Prop := (0 ≤ t ∧ t < 3) ∧ (0 ≤ u ∧ u < 2) ∧ (0 ≤ r ∧ r < 2)
theorem wfs {x : Int} (h : 0 ≤ x) (h' : x < 3) : (Lit.int .u16 x).wf = true := WalkArith.wf_u16 (by omega)
theorem plk_ne {t u r t' u' r' : Int} (h : Rng t u r) (h' : Rng t' u' r') {a b : Nat} (ha : a < 3) (hb : b < 3) (hab : a ≠ b) : plk t u r a ≠ plk t' u' r' b := by
  have w0 : (Lit.int .u16 0).wf = true := by decide
  have wt := wfs h.1.1 h.1.2
  have wu := wfs h.2.1.1 (by have := h.2.1.2; omega)
  have wr := wfs h.2.2.1 (by have := h.2.2.2; omega)
  have wt' := wfs h'.1.1 h'.1.2
  have wu' := wfs h'.2.1.1 (by have := h'.2.1.2; omega)
  have wr' := wfs h'.2.2.1 (by have := h'.2.2.2; omega)
  intro e
  rcases (show a = 0 ∨ a = 1 ∨ a = 2 from by omega) with rfl | rfl | rfl <;> rcases (show b = 0 ∨ b = 1 ∨ b = 2 from by omega) with rfl | rfl | rfl
  · exact hab rfl
  · have := (kl_inj (by decide) wt w0 w0 (by decide) wt' wu' w0 e).1; omega
  · have := (kl_inj (by decide) wt w0 w0 (by decide) wt' wu' wr' e).1; omega
  · have := (kl_inj (by decide) wt wu w0 (by decide) wt' w0 w0 e).1; omega
  · exact hab rfl
  · have := (kl_inj (by decide) wt wu w0 (by decide) wt' wu' wr' e).1; omega
  · have := (kl_inj (by decide) wt wu wr (by decide) wt' w0 w0 e).1; omega
  · have := (kl_inj (by decide) wt wu wr (by decide) wt' wu' w0 e).1; omega
  · exact hab rfl
theorem plk_shr {t u r t' u' r' : Int} (h : Rng t u r) (h' : Rng t' u' r') {a : Nat} (ha : a < 3) : plk t u r a = plk t' u' r' a ↔ shr a t u r t' u' r' = true := by
  have w0 : (Lit.int .u16 0).wf = true := by decide
  have wt := wfs h.1.1 h.1.2
  have wu := wfs h.2.1.1 (by have := h.2.1.2; omega)
  have wr := wfs h.2.2.1 (by have := h.2.2.2; omega)
  have wt' := wfs h'.1.1 h'.1.2
  have wu' := wfs h'.2.1.1 (by have := h'.2.1.2; omega)
  have wr' := wfs h'.2.2.1 (by have := h'.2.2.2; omega)
  rcases (show a = 0 ∨ a = 1 ∨ a = 2 from by omega) with rfl | rfl | rfl
  · constructor
    · intro e
      have := kl_inj (by decide) wt w0 w0 (by decide) wt' w0 w0 e
      simp [shr, this.2.1]
    · intro e
      simp [shr] at e
      subst e
      rfl
  · constructor
    · intro e
      have := kl_inj (by decide) wt wu w0 (by decide) wt' wu' w0 e
      simp [shr, this.2.1, this.2.2.1]
    · intro e
      simp [shr] at e
      obtain ⟨rfl, rfl⟩ := e
      rfl
  · constructor
    · intro e
      have := kl_inj (by decide) wt wu wr (by decide) wt' wu' wr' e
      simp [shr, this.2.1, this.2.2.1, this.2.2.2]
    · intro e
      simp [shr] at e
      obtain ⟨⟨rfl, rfl⟩, rfl⟩ := e
      rfl
theorem shr_congr {lv t u r t' u' r' : Int} (h : shr lv t u r t' u' r' = true) (x y z : Int) : shr lv x y z t u r = shr lv x y z t' u' r' := by
  unfold shr at *
  simp only [Bool.and_eq_true, Bool.or_eq_true, beq_iff_eq, decide_eq_true_eq] at h
  obtain ⟨⟨rfl, h2⟩, h3⟩ := h
  rw [Bool.eq_iff_iff]
  simp only [Bool.and_eq_true, Bool.or_eq_true, beq_iff_eq, decide_eq_true_eq]
  omega
theorem shr_refl (lv t u r : Int) : shr lv t u r t u r = true := by simp [shr]
theorem markOf_same {D : DW} (hD : IsMap D) {k : Lit} (hk : WideAt.IsKeyLit k) (x : Int) : markOf (D.put k (lu x)) k = x := by
  unfold markOf; rw [atKey_put_same hD hk]; rfl
theorem markOf_other {D : DW} {k l : Lit} (h : l ≠ k) (x : Int) : markOf (D.put k (lu x)) l = markOf D l := by
  unfold markOf; rw [atKey_put_other h]
theorem markOf_putTo {D : DW} (hD : IsMap D) {t u r t' u' r' : Int} (h : Rng t u r) (h' : Rng t' u' r') (f : Nat → Int) {a : Nat} (ha : a < 3) :
    markOf (putTo D t u r (f 0) (f 1) (f 2) 3) (plk t' u' r' a) = if shr a t u r t' u' r' then f a else markOf D (plk t' u' r' a) := by
  have e : putTo D t u r (f 0) (f 1) (f 2) 3 = ((D.put (plk t u r 0) (lu (f 0))).put (plk t u r 1) (lu (f 1))).put (plk t u r 2) (lu (f 2)) := rfl
  rw [e]
  have m1 := hD.put (plk t u r 0) (lu (f 0))
  have m2 := m1.put (plk t u r 1) (lu (f 1))
  have hk := isKey_plk t u r
  by_cases hs : shr a t u r t' u' r' = true
  · rw [if_pos hs, ← (plk_shr h h' ha).2 hs]
    rcases (show a = 0 ∨ a = 1 ∨ a = 2 from by omega) with rfl | rfl | rfl
    · rw [markOf_other (plk_ne h h (by decide) (by decide) (by decide)), markOf_other (plk_ne h h (by decide) (by decide) (by decide)), markOf_same hD (hk 0)]
    · rw [markOf_other (plk_ne h h (by decide) (by decide) (by decide)), markOf_same m1 (hk 1)]
    · rw [markOf_same m2 (hk 2)]
  · rw [if_neg hs]
    have hne : plk t' u' r' a ≠ plk t u r a := fun e => hs ((plk_shr h h' ha).1 e.symm)
    have hn : ∀ b, b < 3 → plk t' u' r' a ≠ plk t u r b := fun b hb => by
      by_cases hab : a = b
      · subst hab; exact hne
      · exact plk_ne h' h ha hb hab
    rw [markOf_other (hn 2 (by decide)), markOf_other (hn 1 (by decide)), markOf_other (hn 0 (by decide))]

/-! ### when a key falls asleep -/
def ust (lv t u r iv : Int) (m : Int) (g : Gr) : Int := if shr lv g.kt g.ku g.kr t u r then max m g.t + g.c * iv else m
def untilL (gs : List Gr) (lv t u r iv : Int) : Int := gs.foldl (ust lv t u r iv) 0
theorem untilL_snoc (gs : List Gr) (g : Gr) (lv t u r iv : Int) : untilL (gs ++ [g]) lv t u r iv = ust lv t u r iv (untilL gs lv t u r iv) g := by simp [untilL, List.foldl_append]
theorem spentL_snoc (gs : List Gr) (g : Gr) (lv t u r frm : Int) : spentL (gs ++ [g]) lv t u r frm = spentL gs lv t u r frm + one lv t u r frm g := by simp [spentL]
theorem ust_congr {lv t u r t' u' r' : Int} (h : shr lv t u r t' u' r' = true) (iv : Int) : ust lv t u r iv = ust lv t' u' r' iv := by
  funext m g
  unfold ust
  rw [shr_congr h]
theorem untilL_congr {lv t u r t' u' r' : Int} (h : shr lv t u r t' u' r' = true) (gs : List Gr) (iv : Int) : untilL gs lv t u r iv = untilL gs lv t' u' r' iv := by
  unfold untilL; rw [ust_congr h]
theorem snoc_ind {P : List Gr → Prop} (h0 : P []) (h1 : ∀ gs g, P gs → P (gs ++ [g])) (gs : List Gr) : P gs := by
  have : ∀ l : List Gr, P l.reverse := fun l => by
    induction l with
    | nil => exact h0
    | cons a l ih => rw [List.reverse_cons]; exact h1 _ _ ih
  have := this gs.reverse
  rwa [List.reverse_reverse] at this
theorem until_ge (lv t u r iv : Int) (hiv : 0 ≤ iv) (frm : Int) (gs : List Gr) : (∀ g ∈ gs, 0 ≤ g.c) → frm + spentL gs lv t u r frm * iv ≤ max (untilL gs lv t u r iv) frm := by
  refine snoc_ind (P := fun gs => (∀ g ∈ gs, 0 ≤ g.c) → frm + spentL gs lv t u r frm * iv ≤ max (untilL gs lv t u r iv) frm) ?_ ?_ gs
  · intro _; simp [spentL, untilL]; omega
  · intro gs g ih hc
    have ih := ih (fun x hx => hc x (by simp [hx]))
    have hg := hc g (by simp)
    have hci : 0 ≤ g.c * iv := Int.mul_nonneg hg hiv
    rw [untilL_snoc, spentL_snoc]
    unfold ust one
    by_cases hs : shr lv g.kt g.ku g.kr t u r = true
    · by_cases hf : frm ≤ g.t
      · simp only [hs, hf, decide_true, Bool.and_self, if_true]
        rw [Int.add_mul]
        omega
      · simp only [hs, hf, decide_false, Bool.and_false, if_true, Bool.false_eq_true, if_false, Int.add_zero]
        omega
    · simp only [Bool.not_eq_true] at hs
      simp only [hs, Bool.false_and, Bool.false_eq_true, if_false, Int.add_zero]
      exact ih
theorem spentL_nn (gs : List Gr) (lv t u r frm : Int) (h : ∀ g ∈ gs, 0 ≤ g.c) : 0 ≤ spentL gs lv t u r frm := by
  induction gs with
  | nil => simp [spentL]
  | cons g gs ih =>
    have e : spentL (g :: gs) lv t u r frm = one lv t u r frm g + spentL gs lv t u r frm := by simp [spentL]
    have := ih (fun x hx => h x (by simp [hx]))
    have hg := h g (by simp)
    have : 0 ≤ one lv t u r frm g := by unfold one; split <;> omega
    omega
theorem until_at (lv t u r iv : Int) (hiv : 0 ≤ iv) (gs : List Gr) : (∀ g ∈ gs, 0 ≤ g.c ∧ 0 ≤ g.t) → gs.Pairwise (fun a b => a.t ≤ b.t) → untilL gs lv t u r iv = 0 ∨ ∃ g ∈ gs, untilL gs lv t u r iv = g.t + spentL gs lv t u r g.t * iv := by
  refine snoc_ind (P := fun gs => (∀ g ∈ gs, 0 ≤ g.c ∧ 0 ≤ g.t) → gs.Pairwise (fun a b => a.t ≤ b.t) → untilL gs lv t u r iv = 0 ∨ ∃ g ∈ gs, untilL gs lv t u r iv = g.t + spentL gs lv t u r g.t * iv) ?_ ?_ gs
  · intro _ _; left; simp [untilL]
  · intro gs g ih hc hp
    rw [List.pairwise_append] at hp
    obtain ⟨hp1, _, hp2⟩ := hp
    have hle : ∀ x ∈ gs, x.t ≤ g.t := fun x hx => hp2 x hx g (by simp)
    have hc' : ∀ x ∈ gs, 0 ≤ x.c ∧ 0 ≤ x.t := fun x hx => hc x (by simp [hx])
    have ih := ih hc' hp1
    have hg := hc g (by simp)
    rw [untilL_snoc]
    by_cases hs : shr lv g.kt g.ku g.kr t u r = true
    · right
      unfold ust
      rw [if_pos hs]
      by_cases hu : untilL gs lv t u r iv ≤ g.t
      · refine ⟨g, by simp, ?_⟩
        rw [spentL_snoc]
        have h1 := until_ge lv t u r iv hiv g.t gs (fun x hx => (hc' x hx).1)
        have h2 : 0 ≤ spentL gs lv t u r g.t * iv := Int.mul_nonneg (spentL_nn _ _ _ _ _ _ (fun x hx => (hc' x hx).1)) hiv
        unfold one
        simp only [hs, Int.le_refl, decide_true, Bool.and_self, if_true]
        rw [Int.add_mul]
        omega
      · rcases ih with ih | ⟨x, hx, ih⟩
        · omega
        · refine ⟨x, by simp [hx], ?_⟩
          rw [spentL_snoc]
          unfold one
          simp only [hs, hle x hx, decide_true, Bool.and_self, if_true]
          rw [Int.add_mul]
          omega
    · have e : ust lv t u r iv (untilL gs lv t u r iv) g = untilL gs lv t u r iv := by unfold ust; rw [if_neg hs]
      rw [e]
      rcases ih with ih | ⟨x, hx, ih⟩
      · exact Or.inl ih
      · refine Or.inr ⟨x, by simp [hx], ?_⟩
        rw [spentL_snoc, ih]
        unfold one
        simp only [Bool.not_eq_true] at hs
        simp [hs]
/-- a request would break a rate just if it is more than the key's mark leaves room for -/
theorem needed_until {gs : List Gr} {iv bu lv t u r cost now : Int} (hiv : 0 ≤ iv) (hc : ∀ g ∈ gs, 0 ≤ g.c ∧ 0 ≤ g.t) (hp : gs.Pairwise (fun a b => a.t ≤ b.t)) (hn : ∀ g ∈ gs, g.t ≤ now) (h0 : 0 ≤ now) :
    neededL gs iv bu lv t u r cost now = decide (now + bu + iv < max (untilL gs lv t u r iv) now + cost * iv) := by
  rw [Bool.eq_iff_iff, decide_eq_true_eq]
  unfold neededL
  rw [Bool.or_eq_true, decide_eq_true_eq, List.any_eq_true]
  constructor
  · rintro (h | ⟨g, hg, h⟩)
    · omega
    · unfold brk at h
      rw [decide_eq_true_eq, Int.add_mul] at h
      have h1 := until_ge lv t u r iv hiv g.t gs (fun x hx => (hc x hx).1)
      have h2 := hn g hg
      omega
  · intro h
    by_cases hb : bu + iv < cost * iv
    · exact Or.inl hb
    · right
      rcases until_at lv t u r iv hiv gs hc hp with h1 | ⟨g, hg, h1⟩
      · omega
      · refine ⟨g, hg, ?_⟩
        unfold brk
        rw [decide_eq_true_eq, Int.add_mul]
        have h2 := hn g hg
        omega
end Go.Proofs.Ytbdnhllhdjepcaa
