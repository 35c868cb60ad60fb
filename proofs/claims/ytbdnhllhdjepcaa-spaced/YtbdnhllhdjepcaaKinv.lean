import Derived.Test.YtbdnhllhdjepcaaKmath
import Derived.Test.YtbdnhllhdjepcaaWithin
namespace Go.Proofs.Ytbdnhllhdjepcaa
set_option linter.unusedVariables false
set_option linter.unusedSimpArgs false
open Go.RowKit Go.Maps

/-- the marks are those of what was let through -/
structure KI (p : Pln) (now : Int) (D : DW) (gs : List Gr) : Prop where
  tm : Tm 300 now D
  rel : ∀ a : Nat, a < 3 → ∀ t u r, Rng t u r → max (markOf D (plk t u r a)) now = max (untilL gs a t u r (p.lev a).1) now
  ub : ∀ a : Nat, a < 3 → ∀ t u r, Rng t u r → untilL gs a t u r (p.lev a).1 ≤ now + (p.lev a).2 + (p.lev a).1
  srt : gs.Pairwise (fun a b => a.t ≤ b.t)
  rng : ∀ g ∈ gs, Rng g.kt g.ku g.kr ∧ (0 ≤ g.c ∧ g.c ≤ 4) ∧ 0 ≤ g.t ∧ g.t ≤ now
theorem KI.empty {p : Pln} (hp : ∀ a, 0 ≤ (p.lev a).1 ∧ 0 ≤ (p.lev a).2) : KI p 0 (.map []) [] :=
  ⟨Tm.empty, fun a _ t u r _ => rfl, fun a _ t u r _ => by have := hp a; simp [untilL]; omega, List.Pairwise.nil, by simp⟩
theorem KI.mono {p : Pln} {now now' : Int} {D : DW} {gs : List Gr} (h : KI p now D gs) (hn : now ≤ now') : KI p now' D gs :=
  ⟨h.tm.mono hn, fun a ha t u r hr => by have := h.rel a ha t u r hr; omega, fun a ha t u r hr => by have := h.ub a ha t u r hr; omega, h.srt, fun g hg => ⟨(h.rng g hg).1, (h.rng g hg).2.1, (h.rng g hg).2.2.1, by have := (h.rng g hg).2.2.2; omega⟩⟩
theorem KI.fgt {p : Pln} {now : Int} {D : DW} {gs : List Gr} (h : KI p now D gs) (h0 : 0 ≤ now) : KI p now (fgt now D) gs :=
  ⟨h.tm.fgt, fun a ha t u r hr => by rw [max_fgt h.tm.tidy (Int.le_refl _) h0]; exact h.rel a ha t u r hr, h.ub, h.srt, h.rng⟩
theorem at_lev {p : Pln} (h : p.own = .map []) (L : Nat) (l : Lit) : p.at_ L l = p.lev L := by
  unfold Pln.at_
  rw [h, if_neg (by simp [has_eq])]
/-- of a level: let through or not -/
theorem KI.ask {p : Pln} {now : Int} {D : DW} {gs : List Gr} (h : KI p now D gs) (h0 : 0 ≤ now) (ho : p.own = .map []) (hp : Sm 300 p) {cost t u r : Int} (hc : 1 ≤ cost) (hr : Rng t u r) {a : Nat} (ha : a < 3) :
    0 ≤ (askAt p D now cost t u r a).2 ∧ ((askAt p D now cost t u r a).2 = 0 ↔ neededL gs (p.lev a).1 (p.lev a).2 a t u r cost now = false) ∧ ((askAt p D now cost t u r a).2 = 0 → (askAt p D now cost t u r a).1 = max (untilL gs a t u r (p.lev a).1) now + cost * (p.lev a).1 ∧ max (untilL gs a t u r (p.lev a).1) now + cost * (p.lev a).1 ≤ now + (p.lev a).2 + (p.lev a).1) := by
  have hnn := askAt_nn h.tm (by decide) (Int.le_refl _) h0 hp hc t u r a
  have hg := (hp a (plk t u r a)).1
  rw [at_lev ho] at hg
  have hz := ask_zero (iv := (p.lev a).1) (bu := (p.lev a).2) (mark := markOf D (plk t u r a)) (now := now) (cost := cost) hg.1
  have hx := ask_next (iv := (p.lev a).1) (bu := (p.lev a).2) (mark := markOf D (plk t u r a)) (now := now) (cost := cost) hg.1
  have e : askAt p D now cost t u r a = Go.Proofs.Ytbdnhllhdjepcaa.ask (p.lev a).1 (p.lev a).2 (markOf D (plk t u r a)) now cost := by unfold askAt; rw [at_lev ho]
  rw [← e, h.rel a ha t u r hr] at hz hx
  refine ⟨hnn, ?_, fun hh => ⟨hx hh, hz.1 hh⟩⟩
  rw [hz, needed_until (by have := hg.1; omega) (fun g hg' => ⟨(h.rng g hg').2.1.1, (h.rng g hg').2.2.1⟩) h.srt (fun g hg' => (h.rng g hg').2.2.2) h0]
  simp
theorem wi_of {gs : List Gr} {iv bu now : Int} {a : Nat} (hiv : 0 ≤ iv) (hbu : 0 ≤ bu) (hub : ∀ t u r, Rng t u r → untilL gs a t u r iv ≤ now + bu + iv) (hr : ∀ g ∈ gs, Rng g.kt g.ku g.kr ∧ (0 ≤ g.c ∧ g.c ≤ 4) ∧ 0 ≤ g.t ∧ g.t ≤ now) : Wi gs iv bu a now := fun j hj => by
  have hm := hr _ (List.getElem_mem hj)
  have h1 := until_ge a gs[j].kt gs[j].ku gs[j].kr iv hiv gs[j].t gs (fun x hx => (hr x hx).2.1.1)
  have h2 := hub gs[j].kt gs[j].ku gs[j].kr hm.1
  omega
theorem KI.step {p : Pln} {now : Int} {D : DW} {gs : List Gr} (h : KI p now D gs) (h0 : 0 ≤ now) (ho : p.own = .map []) (hp : Sm 300 p) {cost t u r : Int} (hc : 1 ≤ cost) (hc' : cost ≤ 4) (hr : Rng t u r) :
    ∃ st lv rt D', allowD p 64 D now cost t u r = ((st, lv, rt), D') ∧
      ((st = 0 ∧ lv = 0 ∧ KI p now D' (gs ++ [⟨now, t, u, r, cost⟩]) ∧ ∀ a : Nat, a < 3 → Wi (gs ++ [⟨now, t, u, r, cost⟩]) (p.lev a).1 (p.lev a).2 a now) ∨
       (st = 1 ∧ ∃ k : Nat, lv = k ∧ k < 3 ∧ KI p now D' gs ∧ (∀ j : Nat, j < k → neededL gs (p.lev j).1 (p.lev j).2 j t u r cost now = false) ∧ neededL gs (p.lev k).1 (p.lev k).2 k t u r cost now = true)) := by
  have e0 := allowD_room h.tm h0 p cost t u r
  have hask := fun a (ha : a < 3) => h.ask h0 ho hp hc hr (a := a) ha
  have hs := repTo_st (askAt p D now cost t u r) (fun j => askAt_nn h.tm (by decide) (Int.le_refl _) h0 hp hc t u r j)
  have hta := h.tm.allow (by decide) (Int.le_refl _) h0 hp hc hr.1 hr.2.1 hr.2.2
  rw [e0] at hta
  generalize repTo (askAt p D now cost t u r) 3 = R at *
  obtain ⟨st, lv, rt⟩ := R
  simp only at e0 hs hta
  refine ⟨st, lv, rt, _, e0, ?_⟩
  rcases hs with ⟨s1, s2, s3, z0, z1, z2⟩ | ⟨s1, s2, s3, k, s4, s5, s6, s7⟩
  · left
    rw [if_pos s1] at hta ⊢
    have hz : ∀ a, a < 3 → (askAt p D now cost t u r a).2 = 0 := fun a ha => by
      rcases (show a = 0 ∨ a = 1 ∨ a = 2 from by omega) with rfl | rfl | rfl <;> assumption
    have hlev : ∀ a, 0 ≤ (p.lev a).1 ∧ 0 ≤ (p.lev a).2 := fun a => by
      have hg := (hp a (plk t u r a)).1
      rw [at_lev ho] at hg
      exact ⟨by have := hg.1; omega, hg.2.1⟩
    have hur : ∀ g ∈ gs ++ [⟨now, t, u, r, cost⟩], Rng g.kt g.ku g.kr ∧ (0 ≤ g.c ∧ g.c ≤ 4) ∧ 0 ≤ g.t ∧ g.t ≤ now := fun g hg => by
      rcases List.mem_append.1 hg with hg | hg
      · exact h.rng g hg
      · simp at hg; subst hg; exact ⟨hr, ⟨by show 0 ≤ cost; omega, hc'⟩, h0, Int.le_refl _⟩
    have hub : ∀ a : Nat, a < 3 → ∀ t' u' r', Rng t' u' r' → untilL (gs ++ [⟨now, t, u, r, cost⟩]) a t' u' r' (p.lev a).1 ≤ now + (p.lev a).2 + (p.lev a).1 := fun a ha t' u' r' hr' => by
      rw [untilL_snoc]
      unfold ust
      by_cases hsh : shr a t u r t' u' r' = true
      · simp only [hsh, if_true]
        have := ((hask a ha).2.2 (hz a ha)).2
        rw [untilL_congr hsh] at this
        exact this
      · simp only [hsh, Bool.false_eq_true, if_false]
        exact h.ub a ha t' u' r' hr'
    refine ⟨s1, s2, ⟨hta, fun a ha t' u' r' hr' => ?_, hub, ?_, hur⟩, fun a ha => wi_of (hlev a).1 (hlev a).2 (hub a ha) hur⟩
    · rw [markOf_putTo (f := fun j => (askAt p D now cost t u r j).1) ((tidy_fgt h.tm.tidy now).isMap) hr hr' ha, untilL_snoc]
      unfold ust
      by_cases hsh : shr a t u r t' u' r' = true
      · simp only [hsh, if_true]
        rw [((hask a ha).2.2 (hz a ha)).1, untilL_congr hsh]
      · simp only [hsh, Bool.false_eq_true, if_false]
        rw [max_fgt h.tm.tidy (Int.le_refl _) h0]
        exact h.rel a ha t' u' r' hr'
    · rw [List.pairwise_append]
      exact ⟨h.srt, by simp, fun a ha b hb => by simp at hb; subst hb; exact (h.rng a ha).2.2.2⟩
  · right
    rw [if_neg (by omega)]
    refine ⟨s1, k, s4, s5, h.fgt h0, fun j hj => ((hask j (by omega)).2.1).1 (s7 j hj), ?_⟩
    have := (hask k s5).2.1
    by_cases hh : neededL gs (p.lev k).1 (p.lev k).2 k t u r cost now = true
    · exact hh
    · have := this.2 (by simpa using hh)
      omega
end Go.Proofs.Ytbdnhllhdjepcaa
