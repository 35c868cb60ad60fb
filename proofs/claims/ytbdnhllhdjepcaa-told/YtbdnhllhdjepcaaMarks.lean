import Derived.Test.YtbdnhllhdjepcaaAsk
namespace Go.Proofs.Ytbdnhllhdjepcaa
set_option linter.unusedVariables false
set_option linter.unusedSimpArgs false
open Go.RowKit Go.Maps

/-! ### marks that are forgotten -/
theorem isKey_kl (L t u r : Int) : WideAt.IsKeyLit (kl L t u r) := by unfold kl; simp [WideAt.IsKeyLit]
theorem isKey_plk (t u r : Int) (j : Nat) : WideAt.IsKeyLit (plk t u r j) := by
  unfold plk
  split <;> exact isKey_kl _ _ _ _
theorem find_filter {g : Lit × DW → Bool} (l : Lit) : ∀ es : List (Lit × DW), es.Pairwise (fun p q => p.1 ≠ q.1) → (es.filter g).find? (fun p => p.1.sameKey l) = (es.find? (fun p => p.1.sameKey l)).filter g
  | [], _ => rfl
  | p :: es, h => by
    rw [List.pairwise_cons] at h
    have ih := find_filter (g := g) l es h.2
    by_cases hs : p.1.sameKey l = true
    · have e := WideAt.sameKey_eq hs
      have hn : es.find? (fun p => p.1.sameKey l) = none := by
        rw [List.find?_eq_none]
        intro q hq hs'
        exact h.1 q hq (e.trans (WideAt.sameKey_eq hs').symm)
      by_cases hg : g p = true
      · simp [List.filter_cons, hg, hs, Option.filter]
      · rw [List.filter_cons, if_neg hg, ih, hn]
        simp [hs, hg, Option.filter]
    · by_cases hg : g p = true
      · rw [List.filter_cons, if_pos hg, List.find?_cons, List.find?_cons]
        simp only [Bool.not_eq_true] at hs
        simp only [hs]
        exact ih
      · rw [List.filter_cons, if_neg hg, List.find?_cons]
        simp only [Bool.not_eq_true] at hs
        simp only [hs]
        exact ih
theorem markOf_map (es : List (Lit × DW)) (l : Lit) : markOf (.map es) l = match es.find? (fun p => p.1.sameKey l) with | some p => num p.2 | none => 0 := by
  unfold markOf
  simp only [DataW.atKey]
  cases es.find? (fun p => p.1.sameKey l) <;> rfl
theorem has_map (es : List (Lit × DW)) (l : Lit) : Maps.has (.map es : DW) l = (es.find? (fun p => p.1.sameKey l)).isSome := by
  rw [has_eq, Bool.eq_iff_iff, List.any_eq_true, List.find?_isSome]
theorem markOf_fgt {D : DW} (h : Tidy D) {now : Int} (l : Lit) : markOf (fgt now D) l = if now < markOf D l then markOf D l else 0 := by
  obtain ⟨es, rfl, hp⟩ := h
  simp only [fgt]
  rw [markOf_map, markOf_map, find_filter l es hp]
  cases es.find? (fun p => p.1.sameKey l) with
  | none => simp
  | some p => by_cases hg : now < num p.2 <;> simp [hg, Option.filter]
theorem has_fgt {D : DW} (h : Tidy D) {now : Int} (h0 : 0 ≤ now) (l : Lit) : Maps.has (fgt now D) l = decide (now < markOf D l) := by
  obtain ⟨es, rfl, hp⟩ := h
  simp only [fgt]
  rw [markOf_map, has_map, find_filter l es hp]
  cases es.find? (fun p => p.1.sameKey l) with
  | none => simp; omega
  | some p => by_cases hg : now < num p.2 <;> simp [hg, Option.filter]
theorem tidy_fgt {D : DW} (h : Tidy D) (now : Int) : Tidy (fgt now D) := by
  obtain ⟨es, rfl, hp⟩ := h
  exact ⟨_, rfl, hp.filter _⟩
theorem max_fgt {D : DW} (h : Tidy D) {now now' : Int} (hn : now' ≤ now) (h0 : 0 ≤ now) (l : Lit) : max (markOf (fgt now' D) l) now = max (markOf D l) now := by
  rw [markOf_fgt h]
  split <;> omega
theorem ask_max (iv bu mark now cost : Int) : ask iv bu mark now cost = ask iv bu (max mark now) now cost := by
  unfold ask
  rw [show max (max mark now) now = max mark now from by omega]
theorem askAt_fgt {D : DW} (h : Tidy D) {now now' : Int} (hn : now' ≤ now) (h0 : 0 ≤ now) (p : Pln) (cost t u r : Int) : askAt p (fgt now' D) now cost t u r = askAt p D now cost t u r := by
  funext j
  unfold askAt
  rw [ask_max, max_fgt h hn h0, ← ask_max]

/-! ### a list with no twins is no longer than one that holds it -/
theorem nodup_le : ∀ (l m : List Lit), l.Nodup → (∀ x ∈ l, x ∈ m) → l.length ≤ m.length
  | [], m, _, _ => Nat.zero_le _
  | a :: l, m, hn, hs => by
    rw [List.nodup_cons] at hn
    have ha := hs a (by simp)
    obtain ⟨s, v, rfl⟩ := List.append_of_mem ha
    have ih := nodup_le l (s ++ v) hn.2 (fun x hx => by
      have h1 := hs x (by simp [hx])
      have h2 : x ≠ a := fun e => hn.1 (e ▸ hx)
      simp at h1 ⊢
      rcases h1 with h1 | h1 | h1
      · exact Or.inl h1
      · exact absurd h1 h2
      · exact Or.inr h1)
    simp only [List.length_cons, List.length_append] at ih ⊢
    omega
/-- the keys of three tenants of two users and two routes each -/
def univ : List Lit := ([0, 1, 2].map fun t => kl 0 t 0 0) ++ ([0, 1, 2].flatMap fun t => [0, 1].map fun u => kl 1 t u 0) ++ ([0, 1, 2].flatMap fun t => [0, 1].flatMap fun u => [0, 1].map fun r => kl 2 t u r)
theorem univ_len : univ.length = 21 := by simp [univ]
theorem plk_univ {t u r : Int} (ht : 0 ≤ t ∧ t < 3) (hu : 0 ≤ u ∧ u < 2) (hr : 0 ≤ r ∧ r < 2) (j : Nat) : plk t u r j ∈ univ := by
  have h1 : t = 0 ∨ t = 1 ∨ t = 2 := by omega
  have h2 : u = 0 ∨ u = 1 := by omega
  have h3 : r = 0 ∨ r = 1 := by omega
  unfold plk univ
  rcases h1 with rfl | rfl | rfl <;> rcases h2 with rfl | rfl <;> rcases h3 with rfl | rfl <;> split <;> simp

/-- marks of few keys, none far above the time -/
structure Tm (B now : Int) (D : DW) : Prop where
  tidy : Tidy D
  le : LeB (now + B) D
  sub : ∃ es, D = .map es ∧ ∀ p ∈ es, p.1 ∈ univ
theorem Tm.empty {B now : Int} : Tm B now (.map []) := ⟨tidy_empty, LeB.empty _, [], rfl, by simp⟩
theorem Tm.mono {B now now' : Int} {D : DW} (h : Tm B now D) (hn : now ≤ now') : Tm B now' D := ⟨h.tidy, h.le.mono (by omega), h.sub⟩
theorem Tm.fgt {B now now' : Int} {D : DW} (h : Tm B now D) : Tm B now (fgt now' D) := ⟨tidy_fgt h.tidy _, h.le.fgt _, by
  obtain ⟨es, rfl, hs⟩ := h.sub
  exact ⟨_, rfl, fun p hp => hs p (List.mem_filter.1 hp).1⟩⟩
theorem Tm.put {B now x : Int} {D : DW} (h : Tm B now D) {l : Lit} (hk : WideAt.IsKeyLit l) (hl : l ∈ univ) (h0 : 0 ≤ x) (h1 : x ≤ now + B) : Tm B now (D.put l (lu x)) :=
  ⟨h.tidy.put hk _, h.le.put l h0 h1, by
    obtain ⟨es, rfl, hs⟩ := h.sub
    refine ⟨_, rfl, fun p hp => ?_⟩
    rcases ChangeMaps.mem_insert_iff.1 hp with rfl | hp
    · exact hl
    · exact hs p (List.mem_filter.1 hp).1⟩
theorem Tm.size {B now : Int} {D : DW} (h : Tm B now D) : Maps.size D ≤ 21 := by
  obtain ⟨es, e, hp⟩ := h.tidy
  obtain ⟨es', e', hs⟩ := h.sub
  rw [e] at e'
  cases e'
  rw [e, size_eq, ← univ_len, ← List.length_map (f := fun p => p.1)]
  refine nodup_le _ _ ?_ ?_
  · rw [List.nodup_iff_pairwise_ne, List.pairwise_map]; exact hp
  · intro x hx
    obtain ⟨p, hp, rfl⟩ := List.mem_map.1 hx
    exact hs p hp
theorem Tm.mark {B now : Int} {D : DW} (h : Tm B now D) (hb : 0 ≤ now + B) (l : Lit) : 0 ≤ markOf D l ∧ markOf D l ≤ now + B := h.le.mark hb l

/-! ### rates that are small -/
/-- every rate of the plan is good, and its interval and burst are at most B -/
def Sm (B : Int) (p : Pln) : Prop := ∀ L l, Good (p.at_ L l) ∧ (p.at_ L l).1 + (p.at_ L l).2 ≤ B
theorem sm_of {c0 p0 b0 c1 p1 b1 c2 p2 b2 : Int} (h0 : QOk c0 p0 b0) (h1 : QOk c1 p1 b1) (h2 : QOk c2 p2 b2) {B : Int} (k0 : ivl c0 p0 + b0 ≤ B) (k1 : ivl c1 p1 + b1 ≤ B) (k2 : ivl c2 p2 + b2 ≤ B) : Sm B ⟨ivl c0 p0, b0, ivl c1 p1, b1, ivl c2 p2, b2, .map []⟩ := fun L l => by
  refine ⟨good_of h0 h1 h2 L l, ?_⟩
  unfold Pln.at_
  rw [if_neg (by simp [has_eq])]
  unfold Pln.lev
  split
  · exact k0
  · exact k1
  · exact k2
theorem ivl_le {c p : Int} (hc : 1 ≤ c) (hp : 1 ≤ p) : ivl c p ≤ p := by
  unfold ivl
  have : (p - 1) / c ≤ p - 1 := Int.ediv_le_self _ (by omega)
  omega
theorem sm_pk (a0 a1 a2 b0 b1 b2 c0 c1 c2 : Int) : Sm 300 ⟨ivl (1 + pk a0 9) (1 + pk a1 60), pk a2 201, ivl (1 + pk b0 9) (1 + pk b1 60), pk b2 201, ivl (1 + pk c0 9) (1 + pk c1 60), pk c2 201, .map []⟩ := by
  have q : ∀ a b c : Int, ivl (1 + pk a 9) (1 + pk b 60) + pk c 201 ≤ 300 := fun a b c => by
    have h1 := pk_bd a 9 (by decide)
    have h2 := pk_bd b 60 (by decide)
    have h3 := pk_bd c 201 (by decide)
    have := ivl_le (c := 1 + pk a 9) (p := 1 + pk b 60) (by omega) (by omega)
    omega
  exact sm_of (qok_pk _ _ _) (qok_pk _ _ _) (qok_pk _ _ _) (q _ _ _) (q _ _ _) (q _ _ _)

/-! ### what a level answers -/
theorem ask_div {iv bu cost : Int} (hi : 1 ≤ iv) : bu / iv < cost - 1 ↔ bu + iv < cost * iv := by
  rw [Int.ediv_lt_iff_lt_mul (by omega), Int.sub_mul, Int.one_mul]
  omega
/-- a level lets a request through just if no stretch would break -/
theorem ask_zero {iv bu mark now cost : Int} (hi : 1 ≤ iv) : (ask iv bu mark now cost).2 = 0 ↔ max mark now + cost * iv ≤ now + bu + iv := by
  unfold ask
  by_cases h : bu / iv < cost - 1
  · rw [if_pos h]
    rw [ask_div hi] at h
    simp only [never]
    omega
  · rw [if_neg h]
    by_cases h2 : max mark now + cost * iv ≤ now + bu + iv
    · rw [if_pos h2]; exact ⟨fun _ => h2, fun _ => rfl⟩
    · rw [if_neg h2]; exact ⟨fun h => by simp only at h; omega, fun h => absurd h h2⟩
theorem ask_next {iv bu mark now cost : Int} (hi : 1 ≤ iv) (h : (ask iv bu mark now cost).2 = 0) : (ask iv bu mark now cost).1 = max mark now + cost * iv := by
  unfold ask at *
  by_cases h1 : bu / iv < cost - 1
  · rw [if_pos h1] at h; simp [never] at h
  · rw [if_neg h1] at h ⊢
    split <;> rfl
/-- a wait that is not for ever grows less as time goes on -/
theorem ask_later {iv bu mark now cost d : Int} (hi : 1 ≤ iv) (hb : 0 ≤ bu) (hc : 1 ≤ cost) (hd : 0 ≤ d) (h : ¬ bu / iv < cost - 1) : (ask iv bu mark (now + d) cost).2 = max 0 ((ask iv bu mark now cost).2 - d) := by
  have hm := mul_bd hi hb hc h
  unfold ask
  rw [if_neg h, if_neg h]
  generalize cost * iv = x at *
  by_cases h1 : max mark now + x ≤ now + bu + iv
  · rw [if_pos h1, if_pos (by omega)]; simp only; omega
  · rw [if_neg h1]
    by_cases h2 : max mark (now + d) + x ≤ now + d + bu + iv
    · rw [if_pos h2]; simp only; omega
    · rw [if_neg h2]; simp only; omega
theorem ask_finite {iv bu mark now cost B : Int} (hi : 1 ≤ iv) (hb : 0 ≤ bu) (hc : 1 ≤ cost) (h : ¬ bu / iv < cost - 1) (hm : mark ≤ now + B) (hB : 0 ≤ B) : 0 ≤ (ask iv bu mark now cost).2 ∧ (ask iv bu mark now cost).2 ≤ B := by
  have hmu := mul_bd hi hb hc h
  unfold ask
  rw [if_neg h]
  split
  · simp only; omega
  · simp only; omega

/-! ### the reply -/
theorem repTo_st (f : Nat → Int × Int) (hf : ∀ j, 0 ≤ (f j).2) : ((repTo f 3).1 = 0 ∧ (repTo f 3).2.1 = 0 ∧ (repTo f 3).2.2 = 0 ∧ (f 0).2 = 0 ∧ (f 1).2 = 0 ∧ (f 2).2 = 0) ∨
    ((repTo f 3).1 = 1 ∧ (repTo f 3).2.2 = max (max (f 0).2 (f 1).2) (f 2).2 ∧ 0 < (repTo f 3).2.2 ∧ ∃ k : Nat, (repTo f 3).2.1 = k ∧ k < 3 ∧ 0 < (f k).2 ∧ ∀ j, j < k → (f j).2 = 0) := by
  have h0 := hf 0
  have h1 := hf 1
  have h2 := hf 2
  have e1 : repTo f 1 = if (f 0).2 = 0 then (0, 0, 0) else (1, 0, max 0 (f 0).2) := by
    show (if (f 0).2 = 0 then repTo f 0 else if (repTo f 0).1 = 0 then _ else _) = _
    simp [repTo]
  by_cases k0 : (f 0).2 = 0
  · rw [if_pos k0] at e1
    have e2 : repTo f 2 = if (f 1).2 = 0 then (0, 0, 0) else (1, 1, max 0 (f 1).2) := by
      show (if (f 1).2 = 0 then repTo f 1 else if (repTo f 1).1 = 0 then _ else _) = _
      rw [e1]; simp
    by_cases k1 : (f 1).2 = 0
    · rw [if_pos k1] at e2
      have e3 : repTo f 3 = if (f 2).2 = 0 then (0, 0, 0) else (1, 2, max 0 (f 2).2) := by
        show (if (f 2).2 = 0 then repTo f 2 else if (repTo f 2).1 = 0 then _ else _) = _
        rw [e2]; simp
      by_cases k2 : (f 2).2 = 0
      · rw [if_pos k2] at e3
        left; rw [e3]; exact ⟨rfl, rfl, rfl, k0, k1, k2⟩
      · rw [if_neg k2] at e3
        right; rw [e3]
        refine ⟨rfl, by simp only; omega, by simp only; omega, 2, rfl, by decide, by omega, fun j hj => ?_⟩
        rcases (show j = 0 ∨ j = 1 from by omega) with rfl | rfl <;> assumption
    · rw [if_neg k1] at e2
      have e3 : repTo f 3 = if (f 2).2 = 0 then (1, 1, max 0 (f 1).2) else (1, 1, max (max 0 (f 1).2) (f 2).2) := by
        show (if (f 2).2 = 0 then repTo f 2 else if (repTo f 2).1 = 0 then _ else _) = _
        rw [e2]; simp
      right; rw [e3]
      refine ⟨by split <;> rfl, by split <;> simp only <;> omega, by split <;> simp only <;> omega, 1, by split <;> rfl, by decide, by omega, fun j hj => ?_⟩
      obtain rfl : j = 0 := by omega
      exact k0
  · rw [if_neg k0] at e1
    have e2 : repTo f 2 = if (f 1).2 = 0 then (1, 0, max 0 (f 0).2) else (1, 0, max (max 0 (f 0).2) (f 1).2) := by
      show (if (f 1).2 = 0 then repTo f 1 else if (repTo f 1).1 = 0 then _ else _) = _
      rw [e1]; simp
    have e3 : repTo f 3 = if (f 2).2 = 0 then repTo f 2 else (1, 0, max (repTo f 2).2.2 (f 2).2) := by
      show (if (f 2).2 = 0 then repTo f 2 else if (repTo f 2).1 = 0 then _ else _) = _
      have : (repTo f 2).1 = 1 ∧ (repTo f 2).2.1 = 0 := by rw [e2]; split <;> exact ⟨rfl, rfl⟩
      rw [this.1, this.2]; simp
    right
    have hr : (repTo f 2).1 = 1 ∧ (repTo f 2).2.1 = 0 ∧ (repTo f 2).2.2 = max (f 0).2 (f 1).2 := by
      rw [e2]; split <;> refine ⟨rfl, rfl, ?_⟩ <;> simp only <;> omega
    rw [e3]
    refine ⟨by split; exact hr.1; rfl, by split <;> (try simp only) <;> omega, by split <;> (try simp only) <;> omega, 0, by split; exact hr.2.1; rfl, by decide, by omega, fun j hj => by omega⟩
end Go.Proofs.Ytbdnhllhdjepcaa
