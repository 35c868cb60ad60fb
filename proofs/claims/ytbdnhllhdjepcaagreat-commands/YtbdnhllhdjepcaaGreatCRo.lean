import Derived.Test.YtbdnhllhdjepcaaGreatCState
import Derived.Deep.RegionHeld3
import Derived.Deep.DeepCutAuto
import Derived.BigQuiet
namespace Go.Proofs.YtbdnhllhdjepcaaGreat
set_option linter.unusedVariables false
set_option linter.unusedSimpArgs false
open Go.RowKit Go.Maps

/-! ### marks that are forgotten -/
theorem isKey_kl (L t u r : Int) : WideAt.IsKeyLit (kl L t u r) := by unfold kl; simp [WideAt.IsKeyLit]
theorem isKey_plk (t u r : Int) (j : Nat) : WideAt.IsKeyLit (plk t u r j) := by
  unfold plk
  split <;> exact isKey_kl _ _ _ _
theorem find_filter {g : Lit × DW → Bool} (l : Lit) : ∀ es : List (Lit × DW), es.Pairwise (fun p q => p.1 ≠ q.1) → (es.filter g).find? (fun p => p.1.sameKey l) = (es.find? (fun p => p.1.sameKey l)).filter g
  | [], _ => rfl
  | p :: es, h => by
    rw [List.pairwise_cons] at h
    have ih := find_filter (g := g) l es h.2
    by_cases hs : p.1.sameKey l = true
    · have e := WideAt.sameKey_eq hs
      have hn : es.find? (fun p => p.1.sameKey l) = none := by
        rw [List.find?_eq_none]
        intro q hq hs'
        exact h.1 q hq (e.trans (WideAt.sameKey_eq hs').symm)
      by_cases hg : g p = true
      · simp [List.filter_cons, hg, hs, Option.filter]
      · rw [List.filter_cons, if_neg hg, ih, hn]
        simp [hs, hg, Option.filter]
    · by_cases hg : g p = true
      · rw [List.filter_cons, if_pos hg, List.find?_cons, List.find?_cons]
        simp only [Bool.not_eq_true] at hs
        simp only [hs]
        exact ih
      · rw [List.filter_cons, if_neg hg, List.find?_cons]
        simp only [Bool.not_eq_true] at hs
        simp only [hs]
        exact ih
theorem markOf_map (es : List (Lit × DW)) (l : Lit) : markOf (.map es) l = match es.find? (fun p => p.1.sameKey l) with | some p => num p.2 | none => 0 := by
  unfold markOf
  simp only [DataW.atKey]
  cases es.find? (fun p => p.1.sameKey l) <;> rfl
theorem has_map (es : List (Lit × DW)) (l : Lit) : Maps.has (.map es : DW) l = (es.find? (fun p => p.1.sameKey l)).isSome := by
  rw [has_eq, Bool.eq_iff_iff, List.any_eq_true, List.find?_isSome]
theorem markOf_fgt {D : DW} (h : Tidy D) {now : Int} (l : Lit) : markOf (fgt now D) l = if now < markOf D l then markOf D l else 0 := by
  obtain ⟨es, rfl, hp⟩ := h
  simp only [fgt]
  rw [markOf_map, markOf_map, find_filter l es hp]
  cases es.find? (fun p => p.1.sameKey l) with
  | none => simp
  | some p => by_cases hg : now < num p.2 <;> simp [hg, Option.filter]
theorem has_fgt {D : DW} (h : Tidy D) {now : Int} (h0 : 0 ≤ now) (l : Lit) : Maps.has (fgt now D) l = decide (now < markOf D l) := by
  obtain ⟨es, rfl, hp⟩ := h
  simp only [fgt]
  rw [markOf_map, has_map, find_filter l es hp]
  cases es.find? (fun p => p.1.sameKey l) with
  | none => simp; omega
  | some p => by_cases hg : now < num p.2 <;> simp [hg, Option.filter]
theorem tidy_fgt {D : DW} (h : Tidy D) (now : Int) : Tidy (fgt now D) := by
  obtain ⟨es, rfl, hp⟩ := h
  exact ⟨_, rfl, hp.filter _⟩
theorem max_fgt {D : DW} (h : Tidy D) {now now' : Int} (hn : now' ≤ now) (h0 : 0 ≤ now) (l : Lit) : max (markOf (fgt now' D) l) now = max (markOf D l) now := by
  rw [markOf_fgt h]
  split <;> omega
theorem ask_max (iv bu mark now cost : Int) : ask iv bu mark now cost = ask iv bu (max mark now) now cost := by
  unfold ask
  rw [show max (max mark now) now = max mark now from by omega]
theorem askAt_fgt {D : DW} (h : Tidy D) {now now' : Int} (hn : now' ≤ now) (h0 : 0 ≤ now) (p : Pln) (cost t u r : Int) : askAt p (fgt now' D) now cost t u r = askAt p D now cost t u r := by
  funext j
  unfold askAt
  rw [ask_max, max_fgt h hn h0, ← ask_max]

/-! ### a list with no twins is no longer than one that holds it -/
theorem nodup_le : ∀ (l m : List Lit), l.Nodup → (∀ x ∈ l, x ∈ m) → l.length ≤ m.length
  | [], m, _, _ => Nat.zero_le _
  | a :: l, m, hn, hs => by
    rw [List.nodup_cons] at hn
    have ha := hs a (by simp)
    obtain ⟨s, v, rfl⟩ := List.append_of_mem ha
    have ih := nodup_le l (s ++ v) hn.2 (fun x hx => by
      have h1 := hs x (by simp [hx])
      have h2 : x ≠ a := fun e => hn.1 (e ▸ hx)
      simp at h1 ⊢
      rcases h1 with h1 | h1 | h1
      · exact Or.inl h1
      · exact absurd h1 h2
      · exact Or.inr h1)
    simp only [List.length_cons, List.length_append] at ih ⊢
    omega
/-- the keys of three tenants of two users and two routes each -/
def univ : List Lit := ([0, 1, 2].map fun t => kl 0 t 0 0) ++ ([0, 1, 2].flatMap fun t => [0, 1].map fun u => kl 1 t u 0) ++ ([0, 1, 2].flatMap fun t => [0, 1].flatMap fun u => [0, 1].map fun r => kl 2 t u r)
theorem univ_len : univ.length = 21 := by simp [univ]
theorem plk_univ {t u r : Int} (ht : 0 ≤ t ∧ t < 3) (hu : 0 ≤ u ∧ u < 2) (hr : 0 ≤ r ∧ r < 2) (j : Nat) : plk t u r j ∈ univ := by
  have h1 : t = 0 ∨ t = 1 ∨ t = 2 := by omega
  have h2 : u = 0 ∨ u = 1 := by omega
  have h3 : r = 0 ∨ r = 1 := by omega
  unfold plk univ
  rcases h1 with rfl | rfl | rfl <;> rcases h2 with rfl | rfl <;> rcases h3 with rfl | rfl <;> split <;> simp

/-- marks of few keys, none far above the time -/
structure Tm (B now : Int) (D : DW) : Prop where
  tidy : Tidy D
  le : LeB (now + B) D
  sub : ∃ es, D = .map es ∧ ∀ p ∈ es, p.1 ∈ univ
theorem Tm.empty {B now : Int} : Tm B now (.map []) := ⟨tidy_empty, LeB.empty _, [], rfl, by simp⟩
theorem Tm.mono {B now now' : Int} {D : DW} (h : Tm B now D) (hn : now ≤ now') : Tm B now' D := ⟨h.tidy, h.le.mono (by omega), h.sub⟩
theorem Tm.fgt {B now now' : Int} {D : DW} (h : Tm B now D) : Tm B now (fgt now' D) := ⟨tidy_fgt h.tidy _, h.le.fgt _, by
  obtain ⟨es, rfl, hs⟩ := h.sub
  exact ⟨_, rfl, fun p hp => hs p (List.mem_filter.1 hp).1⟩⟩
theorem Tm.put {B now x : Int} {D : DW} (h : Tm B now D) {l : Lit} (hk : WideAt.IsKeyLit l) (hl : l ∈ univ) (h0 : 0 ≤ x) (h1 : x ≤ now + B) : Tm B now (D.put l (lu x)) :=
  ⟨h.tidy.put hk _, h.le.put l h0 h1, by
    obtain ⟨es, rfl, hs⟩ := h.sub
    refine ⟨_, rfl, fun p hp => ?_⟩
    rcases ChangeMaps.mem_insert_iff.1 hp with rfl | hp
    · exact hl
    · exact hs p (List.mem_filter.1 hp).1⟩
theorem Tm.size {B now : Int} {D : DW} (h : Tm B now D) : Maps.size D ≤ 21 := by
  obtain ⟨es, e, hp⟩ := h.tidy
  obtain ⟨es', e', hs⟩ := h.sub
  rw [e] at e'
  cases e'
  rw [e, size_eq, ← univ_len, ← List.length_map (f := fun p => p.1)]
  refine nodup_le _ _ ?_ ?_
  · rw [List.nodup_iff_pairwise_ne, List.pairwise_map]; exact hp
  · intro x hx
    obtain ⟨p, hp, rfl⟩ := List.mem_map.1 hx
    exact hs p hp
theorem Tm.mark {B now : Int} {D : DW} (h : Tm B now D) (hb : 0 ≤ now + B) (l : Lit) : 0 ≤ markOf D l ∧ markOf D l ≤ now + B := h.le.mark hb l

/-! ### rates that are small -/
/-- every rate of the plan is good, and its interval and burst are at most B -/
def Sm (B : Int) (p : Pln) : Prop := ∀ L l, Good (p.at_ L l) ∧ (p.at_ L l).1 + (p.at_ L l).2 ≤ B
theorem ivl_le {c p : Int} (hc : 1 ≤ c) (hp : 1 ≤ p) : ivl c p ≤ p := by
  unfold ivl
  have : (p - 1) / c ≤ p - 1 := Int.ediv_le_self _ (by omega)
  omega
theorem ask_div {iv bu cost : Int} (hi : 1 ≤ iv) : bu / iv < cost - 1 ↔ bu + iv < cost * iv := by
  rw [Int.ediv_lt_iff_lt_mul (by omega), Int.sub_mul, Int.one_mul]
  omega
/-- a level lets a request through just if no stretch would break -/
theorem ask_zero {iv bu mark now cost : Int} (hi : 1 ≤ iv) : (ask iv bu mark now cost).2 = 0 ↔ max mark now + cost * iv ≤ now + bu + iv := by
  unfold ask
  by_cases h : bu / iv < cost - 1
  · rw [if_pos h]
    rw [ask_div hi] at h
    simp only [never]
    omega
  · rw [if_neg h]
    by_cases h2 : max mark now + cost * iv ≤ now + bu + iv
    · rw [if_pos h2]; exact ⟨fun _ => h2, fun _ => rfl⟩
    · rw [if_neg h2]; exact ⟨fun h => by simp only at h; omega, fun h => absurd h h2⟩
theorem ask_next {iv bu mark now cost : Int} (hi : 1 ≤ iv) (h : (ask iv bu mark now cost).2 = 0) : (ask iv bu mark now cost).1 = max mark now + cost * iv := by
  unfold ask at *
  by_cases h1 : bu / iv < cost - 1
  · rw [if_pos h1] at h; simp [never] at h
  · rw [if_neg h1] at h ⊢
    split <;> rfl
/-- a wait that is not for ever grows less as time goes on -/
theorem ask_later {iv bu mark now cost d : Int} (hi : 1 ≤ iv) (hb : 0 ≤ bu) (hc : 1 ≤ cost) (hd : 0 ≤ d) (h : ¬ bu / iv < cost - 1) : (ask iv bu mark (now + d) cost).2 = max 0 ((ask iv bu mark now cost).2 - d) := by
  have hm := mul_bd hi hb hc h
  unfold ask
  rw [if_neg h, if_neg h]
  generalize cost * iv = x at *
  by_cases h1 : max mark now + x ≤ now + bu + iv
  · rw [if_pos h1, if_pos (by omega)]; simp only; omega
  · rw [if_neg h1]
    by_cases h2 : max mark (now + d) + x ≤ now + d + bu + iv
    · rw [if_pos h2]; simp only; omega
    · rw [if_neg h2]; simp only; omega
theorem ask_finite {iv bu mark now cost B : Int} (hi : 1 ≤ iv) (hb : 0 ≤ bu) (hc : 1 ≤ cost) (h : ¬ bu / iv < cost - 1) (hm : mark ≤ now + B) (hB : 0 ≤ B) : 0 ≤ (ask iv bu mark now cost).2 ∧ (ask iv bu mark now cost).2 ≤ B := by
  have hmu := mul_bd hi hb hc h
  unfold ask
  rw [if_neg h]
  split
  · simp only; omega
  · simp only; omega

/-! ### the reply -/
theorem repTo_st (f : Nat → Int × Int) (hf : ∀ j, 0 ≤ (f j).2) : ((repTo f 3).1 = 0 ∧ (repTo f 3).2.1 = 0 ∧ (repTo f 3).2.2 = 0 ∧ (f 0).2 = 0 ∧ (f 1).2 = 0 ∧ (f 2).2 = 0) ∨
    ((repTo f 3).1 = 1 ∧ (repTo f 3).2.2 = max (max (f 0).2 (f 1).2) (f 2).2 ∧ 0 < (repTo f 3).2.2 ∧ ∃ k : Nat, (repTo f 3).2.1 = k ∧ k < 3 ∧ 0 < (f k).2 ∧ ∀ j, j < k → (f j).2 = 0) := by
  have h0 := hf 0
  have h1 := hf 1
  have h2 := hf 2
  have e1 : repTo f 1 = if (f 0).2 = 0 then (0, 0, 0) else (1, 0, max 0 (f 0).2) := by
    show (if (f 0).2 = 0 then repTo f 0 else if (repTo f 0).1 = 0 then _ else _) = _
    simp [repTo]
  by_cases k0 : (f 0).2 = 0
  · rw [if_pos k0] at e1
    have e2 : repTo f 2 = if (f 1).2 = 0 then (0, 0, 0) else (1, 1, max 0 (f 1).2) := by
      show (if (f 1).2 = 0 then repTo f 1 else if (repTo f 1).1 = 0 then _ else _) = _
      rw [e1]; simp
    by_cases k1 : (f 1).2 = 0
    · rw [if_pos k1] at e2
      have e3 : repTo f 3 = if (f 2).2 = 0 then (0, 0, 0) else (1, 2, max 0 (f 2).2) := by
        show (if (f 2).2 = 0 then repTo f 2 else if (repTo f 2).1 = 0 then _ else _) = _
        rw [e2]; simp
      by_cases k2 : (f 2).2 = 0
      · rw [if_pos k2] at e3
        left; rw [e3]; exact ⟨rfl, rfl, rfl, k0, k1, k2⟩
      · rw [if_neg k2] at e3
        right; rw [e3]
        refine ⟨rfl, by simp only; omega, by simp only; omega, 2, rfl, by decide, by omega, fun j hj => ?_⟩
        rcases (show j = 0 ∨ j = 1 from by omega) with rfl | rfl <;> assumption
    · rw [if_neg k1] at e2
      have e3 : repTo f 3 = if (f 2).2 = 0 then (1, 1, max 0 (f 1).2) else (1, 1, max (max 0 (f 1).2) (f 2).2) := by
        show (if (f 2).2 = 0 then repTo f 2 else if (repTo f 2).1 = 0 then _ else _) = _
        rw [e2]; simp
      right; rw [e3]
      refine ⟨by split <;> rfl, by split <;> simp only <;> omega, by split <;> simp only <;> omega, 1, by split <;> rfl, by decide, by omega, fun j hj => ?_⟩
      obtain rfl : j = 0 := by omega
      exact k0
  · rw [if_neg k0] at e1
    have e2 : repTo f 2 = if (f 1).2 = 0 then (1, 0, max 0 (f 0).2) else (1, 0, max (max 0 (f 0).2) (f 1).2) := by
      show (if (f 1).2 = 0 then repTo f 1 else if (repTo f 1).1 = 0 then _ else _) = _
      rw [e1]; simp
    have e3 : repTo f 3 = if (f 2).2 = 0 then repTo f 2 else (1, 0, max (repTo f 2).2.2 (f 2).2) := by
      show (if (f 2).2 = 0 then repTo f 2 else if (repTo f 2).1 = 0 then _ else _) = _
      have : (repTo f 2).1 = 1 ∧ (repTo f 2).2.1 = 0 := by rw [e2]; split <;> exact ⟨rfl, rfl⟩
      rw [this.1, this.2]; simp
    right
    have hr : (repTo f 2).1 = 1 ∧ (repTo f 2).2.1 = 0 ∧ (repTo f 2).2.2 = max (f 0).2 (f 1).2 := by
      rw [e2]; split <;> refine ⟨rfl, rfl, ?_⟩ <;> simp only <;> omega
    rw [e3]
    refine ⟨by split; exact hr.1; rfl, by split <;> (try simp only) <;> omega, by split <;> (try simp only) <;> omega, 0, by split; exact hr.2.1; rfl, by decide, by omega, fun j hj => by omega⟩
end Go.Proofs.YtbdnhllhdjepcaaGreat
namespace Go.Proofs.YtbdnhllhdjepcaaGreat
set_option linter.unusedVariables false
set_option linter.unusedSimpArgs false
open Go.RowKit Go.Maps

/-! ### meterref: quotas and keys -/
def dQ (c p b : Int) : Decidable (QOk c p b) := by unfold QOk; exact inferInstance
def I6 (x : Int) : Prop := -9223372036854775808 ≤ x ∧ x ≤ 9223372036854775807
theorem tdiv_pos {p c : Int} (hp : 0 ≤ p) : Int.tdiv p c = p / c := Int.tdiv_eq_ediv_of_nonneg hp
/-- the least whole number that is not less -/
theorem ivl_up {c p : Int} (hc : 1 ≤ c) (hp : 1 ≤ p) : ivl c p = if p / c * c < p then p / c + 1 else p / c := by
  unfold ivl
  have h1 := Int.mul_ediv_add_emod p c
  have h2 := Int.emod_nonneg p (show c ≠ 0 by omega)
  have h3 := Int.emod_lt_of_pos p (show 0 < c by omega)
  have h4 : c * (p / c) = p / c * c := Int.mul_comm _ _
  by_cases h : p / c * c < p
  · rw [if_pos h]
    have : (p - 1) / c = p / c := by
      rw [Int.ediv_eq_iff_of_pos (by omega)]
      omega
    omega
  · rw [if_neg h]
    have : (p - 1) / c = p / c - 1 := by
      rw [Int.ediv_eq_iff_of_pos (by omega), Int.sub_mul]
      omega
    omega
set_option maxRecDepth 100000 in
set_option maxHeartbeats 2000000 in
theorem interval_any (c p b : Int) (w : World) (hc : I6 c) (hp : I6 p) (hb : I6 b) :
    Calls Tryz.prog 127 #[.agg #[.int .i64 c, .int .i64 p, .int .i64 b]] w fun e w' => (∃ t, e = .returned (.tuple #[.int .i64 t, .bool (@decide (QOk c p b) (dQ c p b))]) ∧ (QOk c p b → t = ivl c p)) ∧ Chg [] w w' := by
  obtain ⟨hc1, hc2⟩ := hc
  obtain ⟨hp1, hp2⟩ := hp
  obtain ⟨hb1, hb2⟩ := hb
  have hq : QOk c p b ↔ 1 ≤ c ∧ c ≤ 1000000 ∧ 1 ≤ p ∧ p ≤ 4611686018427387904 ∧ 0 ≤ b ∧ b ≤ 4611686018427387904 - ivl c p ∧ 1 ≤ ivl c p := Iff.rfl
  have HQ : Hid (QOk c p b ↔ 1 ≤ c ∧ c ≤ 1000000 ∧ 1 ≤ p ∧ p ≤ 4611686018427387904 ∧ 0 ≤ b ∧ b ≤ 4611686018427387904 - ivl c p ∧ 1 ≤ ivl c p) := hq
  clear hq
  have no : ¬ (1 ≤ c ∧ c ≤ 1000000 ∧ 1 ≤ p ∧ p ≤ 4611686018427387904 ∧ 0 ≤ b ∧ b ≤ 4611686018427387904) → @decide (QOk c p b) (dQ c p b) = false := fun h => by
    rw [decide_eq_false_iff_not, HQ.out]
    omega
  by_cases h : 1 ≤ c ∧ c ≤ 1000000 ∧ 1 ≤ p ∧ p ≤ 4611686018427387904 ∧ 0 ≤ b ∧ b ≤ 4611686018427387904
  · obtain ⟨h1, h2, h3, h4, h5, h6⟩ := h
    have hu := ivl_up h1 h3
    have hd0 : 0 ≤ p / c := Int.ediv_nonneg (by omega) (by omega)
    have hd1 : p / c ≤ p := Int.ediv_le_self _ (by omega)
    have hm0 : 0 ≤ p / c * c := Int.mul_nonneg hd0 (by omega)
    have hm1 : p / c * c ≤ p := Int.ediv_mul_le p (by omega)
    clear no
    by_cases hup : p / c * c < p
    · rw [if_pos hup] at hu
      have HE : Hid (decide (p / c + 1 ≤ 4611686018427387904 - b) = @decide (QOk c p b) (dQ c p b)) := by
        show _ = _
        rw [decide_eq_decide, HQ.out, hu]
        omega
      have HT : Hid (p / c + 1 = ivl c p) := hu.symm
      clear hu
      go_enter Tryz.func127, Tryz.ntmps127
      go_wp2_with fail
      go_region
      go_wp2
      go_ret2
      exact ⟨⟨p / c + 1, by rw [HE.out]; rfl, fun _ => HT.out⟩, by repeat (first | exact Chg.refl _ _ | refine Chg.drew ?_ | refine Chg.alloc ?_ _)⟩
    · rw [if_neg hup] at hu
      have hpos : 1 ≤ p / c := by
        rcases Int.lt_or_le (p / c) 1 with h | h
        · have : p / c = 0 := by omega
          rw [this] at hup
          omega
        · exact h
      have HE : Hid (decide (p / c ≤ 4611686018427387904 - b) = @decide (QOk c p b) (dQ c p b)) := by
        show _ = _
        rw [decide_eq_decide, HQ.out, hu]
        omega
      have HT : Hid (p / c = ivl c p) := hu.symm
      clear hu
      go_enter Tryz.func127, Tryz.ntmps127
      go_wp2_with fail
      go_region
      go_wp2
      go_ret2
      exact ⟨⟨p / c, by rw [HE.out]; rfl, fun _ => HT.out⟩, by repeat (first | exact Chg.refl _ _ | refine Chg.drew ?_ | refine Chg.alloc ?_ _)⟩
  · have hno := no h
    have HN : Hid (@decide (QOk c p b) (dQ c p b) = false) := hno
    have HN2 : Hid (¬ QOk c p b) := @of_decide_eq_false _ (dQ c p b) hno
    clear no hno
    have hn : c < 1 ∨ 1000000 < c ∨ p < 1 ∨ 4611686018427387904 < p ∨ b < 0 ∨ 4611686018427387904 < b := by omega
    go_enter Tryz.func127, Tryz.ntmps127
    go_wp2
    all_goals first | (exfalso; omega) | (go_ret2; exact ⟨⟨0, by rw [HN.out]; rfl, fun hq => absurd hq HN2.out⟩, by repeat (first | exact Chg.refl _ _ | refine Chg.drew ?_ | refine Chg.alloc ?_ _)⟩)
set_option maxRecDepth 100000 in
theorem cut_any (L t u r : Int) (w : World) (hL : 0 ≤ L) :
    Calls Tryz.prog 87 #[.int .i64 L, .agg #[.int .u16 t, .int .u16 u, .int .u16 r]] w fun e w' => e = .returned (.agg #[.int .u16 t, .int .u16 (if L < 1 then 0 else u), .int .u16 (if L < 2 then 0 else r)]) ∧ Chg [] w w' := by
  go_enter Tryz.func87, Tryz.ntmps87
  go_wp2
  · exact bodyPost_ret (v := .agg #[.int .u16 t, .int .u16 0, .int .u16 0]) (by simp [results, Tryz.results87, go_sem, World.cell?_alloc_past]) rfl ⟨rfl, ((Chg.refl _ _).alloc _).alloc _⟩
  · exact bodyPost_ret (v := .agg #[.int .u16 t, .int .u16 u, .int .u16 0]) (by simp [results, Tryz.results87, go_sem, World.cell?_alloc_past]) rfl ⟨rfl, ((Chg.refl _ _).alloc _).alloc _⟩
  · exact bodyPost_ret (v := .agg #[.int .u16 t, .int .u16 u, .int .u16 r]) (by simp [results, Tryz.results87, go_sem, World.cell?_alloc_past]) rfl ⟨rfl, ((Chg.refl _ _).alloc _).alloc _⟩
set_option maxRecDepth 100000 in
theorem same_any (t u r t' u' r' : Int) (w : World) :
    Calls Tryz.prog 131 #[.agg #[.int .u16 t, .int .u16 u, .int .u16 r], .agg #[.int .u16 t', .int .u16 u', .int .u16 r']] w fun e w' => e = .returned (.bool (decide (t = t' ∧ u = u' ∧ r = r'))) ∧ Chg [] w w' := by
  go_enter Tryz.func131, Tryz.ntmps131
  go_wp2
  all_goals
    go_ret
    refine ⟨?_, ((Chg.refl _ _).alloc _).alloc _⟩
    simp [*]
  all_goals first | rfl | simp [beq_eq_decide] | skip
end Go.Proofs.YtbdnhllhdjepcaaGreat
namespace Go.Proofs.YtbdnhllhdjepcaaGreat
set_option linter.unusedVariables false
set_option linter.unusedSimpArgs false
open Go.RowKit Go.Maps

/-! ### overrides -/
structure Ov where
  L : Int
  t : Int
  u : Int
  r : Int
  c : Int
  p : Int
  b : Int
def U16 (x : Int) : Prop := 0 ≤ x ∧ x ≤ 65535
structure Ov.Ok (o : Ov) : Prop where
  L : I6 o.L
  t : U16 o.t
  u : U16 o.u
  r : U16 o.r
  c : I6 o.c
  p : I6 o.p
  b : I6 o.b
def ovc (o : Ov) : List Value := [.int .i64 o.L, .int .u16 o.t, .int .u16 o.u, .int .u16 o.r, .int .i64 o.c, .int .i64 o.p, .int .i64 o.b]
def OvAt (w : World) (b o : Nat) (x : Ov) : Prop := w.cell? ⟨b, o, none⟩ = some (.int .i64 x.L) ∧ w.cell? ⟨b, o + 1, none⟩ = some (.int .u16 x.t) ∧ w.cell? ⟨b, o + 2, none⟩ = some (.int .u16 x.u) ∧ w.cell? ⟨b, o + 3, none⟩ = some (.int .u16 x.r) ∧ w.cell? ⟨b, o + 4, none⟩ = some (.int .i64 x.c) ∧ w.cell? ⟨b, o + 5, none⟩ = some (.int .i64 x.p) ∧ w.cell? ⟨b, o + 6, none⟩ = some (.int .i64 x.b)
theorem OvAt.chg {l : List Nat} {w w' : World} {b o : Nat} {x : Ov} (h : OvAt w b o x) (hc : Chg l w w') (hn : b ∉ l) : OvAt w' b o x :=
  ⟨hc.cell h.1 hn, hc.cell h.2.1 hn, hc.cell h.2.2.1 hn, hc.cell h.2.2.2.1 hn, hc.cell h.2.2.2.2.1 hn, hc.cell h.2.2.2.2.2.1 hn, hc.cell h.2.2.2.2.2.2 hn⟩
/-- a list of overrides in memory -/
structure OvsAt (w : World) (la : Option Addr) (lb lof : Nat) (os : List Ov) : Prop where
  at_ : 0 < os.length → la = some ⟨lb, lof, none⟩
  lt : 0 < os.length → lb < w.heap.size
  len : os.length ≤ 9223372036854775807
  each : ∀ j (hj : j < os.length), OvAt w lb (lof + j * 7) os[j]
theorem OvsAt.chg {l : List Nat} {w w' : World} {la : Option Addr} {lb lof : Nat} {os : List Ov} (h : OvsAt w la lb lof os) (hc : Chg l w w') (hn : 0 < os.length → lb ∉ l) : OvsAt w' la lb lof os :=
  ⟨h.at_, fun hp => Nat.lt_of_lt_of_le (h.lt hp) hc.size, h.len, fun j hj => (h.each j hj).chg hc (hn (by omega))⟩
/-- it may be, by itself -/
def OvGood (o : Ov) : Prop := QOk o.c o.p o.b ∧ 0 ≤ o.L ∧ o.L ≤ 2 ∧ (o.L < 1 → o.u = 0) ∧ (o.L < 2 → o.r = 0)
def dOG (o : Ov) : Decidable (OvGood o) := by unfold OvGood QOk; exact inferInstance
def sameK (o o' : Ov) : Bool := decide (o.L = o'.L ∧ o.t = o'.t ∧ o.u = o'.u ∧ o.r = o'.r)
/-- and none of those ahead of it has its key -/
def ovFit (os : List Ov) (o : Ov) : Bool := @decide (OvGood o) (dOG o) && os.all (fun x => !sameK x o)

set_option maxRecDepth 100000 in
set_option maxHeartbeats 4000000 in
theorem override_ref (la : Option Addr) (lb lof cap k : Nat) (os : List Ov) (w : World) (h : OvsAt w la lb lof os) (hok : ∀ o ∈ os, o.Ok) (hk : k < os.length) :
    Calls Tryz.prog 128 #[.slice la os.length cap, .int .i64 k] w fun e w' => e = .returned (.bool (ovFit (os.take k) os[k])) ∧ Chg [] w w' := by
  obtain rfl := h.at_ (by omega)
  have hlt := h.lt (by omega)
  have hlen := h.len
  obtain ⟨o, ho⟩ : ∃ o, o = os[k] := ⟨_, rfl⟩
  have hoo : o.Ok := hok o (ho ▸ List.getElem_mem hk)
  obtain ⟨d0, d1, d2, d3, d4, d5, d6⟩ := ho ▸ h.each k hk
  have HH : Hid (∀ j (hj : j < os.length), OvAt w lb (lof + j * 7) os[j]) := h.each
  have HO : Hid (o = os[k]) := ho
  rw [← ho]
  clear h ho
  have hk1 : (k : Int) < (os.length : Int) := by omega
  have hbx := heap_alloc_new w (.cells (ovc o).toArray 158)
  have hcw : Chg [] w (w.alloc (.cells (ovc o).toArray 158)) := (Chg.refl _ _).alloc _
  obtain ⟨wb, hwb⟩ : ∃ wb, wb = w.alloc (.cells (ovc o).toArray 158) := ⟨_, rfl⟩
  rw [← hwb] at hbx hcw
  have HWB : Hid (w.alloc (.cells (ovc o).toArray 158) = wb) := hwb.symm
  clear hwb
  have HBX : Hid _ := hbx
  have e0 := blk_cell (i := 0) hbx rfl
  have e1 := blk_cell (i := 1) hbx rfl
  have e2 := blk_cell (i := 2) hbx rfl
  have e3 := blk_cell (i := 3) hbx rfl
  have e4 := blk_cell (i := 4) hbx rfl
  have e5 := blk_cell (i := 5) hbx rfl
  have e6 := blk_cell (i := 6) hbx rfl
  have hkw := HWB.out
  simp only [ovc] at hkw
  clear hbx
  by_cases hq : QOk o.c o.p o.b
  case neg =>
    have HI : Hid (∀ W, Calls Tryz.prog 127 #[.agg #[.int .i64 o.c, .int .i64 o.p, .int .i64 o.b]] W fun e w' => (∃ t, e = .returned (.tuple #[.int .i64 t, .bool false])) ∧ Chg [] W w') := fun W => by
      refine (interval_any o.c o.p o.b W hoo.c hoo.p hoo.b).mono ?_
      rintro e w1 ⟨⟨t, rfl, ht⟩, q1⟩
      exact ⟨⟨t, by rw [@decide_eq_false _ (dQ o.c o.p o.b) hq]⟩, q1⟩
    have HN : Hid (ovFit (os.take k) o = false) := by
      show _ = _
      unfold ovFit OvGood
      rw [Bool.and_eq_false_iff]
      exact Or.inl (@decide_eq_false _ (dOG o) (fun h => hq h.1))
    go_enter Tryz.func128, Tryz.ntmps128
    go_wp2_with fail
    refine (HI.out _).mono ?_
    rintro e w1 ⟨⟨t, rfl⟩, q1⟩
    have b1 := q1.blk HBX.out (by simp)
    have f0 := blk_cell (i := 0) b1 rfl
    have f1 := blk_cell (i := 1) b1 rfl
    have f2 := blk_cell (i := 2) b1 rfl
    have f3 := blk_cell (i := 3) b1 rfl
    have HC1 : Hid (Chg [] w w1) := hcw.trans q1 (by simp)
    have HB1 : Hid _ := b1
    clear b1 q1
    go_wp2_with fail
    go_region
    go_wp2
    go_ret
    exact ⟨by rw [HN.out]; rfl, HC1.out.drew⟩
  have HI : Hid (∀ W, Calls Tryz.prog 127 #[.agg #[.int .i64 o.c, .int .i64 o.p, .int .i64 o.b]] W fun e w' => (∃ t, e = .returned (.tuple #[.int .i64 t, .bool true])) ∧ Chg [] W w') := fun W => by
    refine (interval_any o.c o.p o.b W hoo.c hoo.p hoo.b).mono ?_
    rintro e w1 ⟨⟨t, rfl, ht⟩, q1⟩
    exact ⟨⟨t, by rw [@decide_eq_true _ (dQ o.c o.p o.b) hq]⟩, q1⟩
  by_cases hL0 : o.L < 0
  case pos =>
    have HN : Hid (ovFit (os.take k) o = false) := by
      show _ = _
      unfold ovFit OvGood
      rw [Bool.and_eq_false_iff]
      exact Or.inl (@decide_eq_false _ (dOG o) (fun h => by have := h.2.1; omega))
    go_enter Tryz.func128, Tryz.ntmps128
    go_wp2_with fail
    refine (HI.out _).mono ?_
    rintro e w1 ⟨⟨t, rfl⟩, q1⟩
    have b1 := q1.blk HBX.out (by simp)
    have f0 := blk_cell (i := 0) b1 rfl
    have f1 := blk_cell (i := 1) b1 rfl
    have f2 := blk_cell (i := 2) b1 rfl
    have f3 := blk_cell (i := 3) b1 rfl
    have HC1 : Hid (Chg [] w w1) := hcw.trans q1 (by simp)
    have HB1 : Hid _ := b1
    clear b1 q1
    go_wp2_with fail
    go_region
    go_wp2
    go_ret
    exact ⟨by rw [HN.out]; rfl, HC1.out.drew⟩
  by_cases hL2 : 2 < o.L
  case pos =>
    have hdL0 : decide (o.L < 0) = false := decide_eq_false hL0
    have hdL2 : decide (2 < o.L) = true := decide_eq_true hL2
    have HN : Hid (ovFit (os.take k) o = false) := by
      show _ = _
      unfold ovFit OvGood
      rw [Bool.and_eq_false_iff]
      exact Or.inl (@decide_eq_false _ (dOG o) (fun h => by have := h.2.2.1; omega))
    go_enter Tryz.func128, Tryz.ntmps128
    go_wp2_with fail
    refine (HI.out _).mono ?_
    rintro e w1 ⟨⟨t, rfl⟩, q1⟩
    have b1 := q1.blk HBX.out (by simp)
    have f0 := blk_cell (i := 0) b1 rfl
    have f1 := blk_cell (i := 1) b1 rfl
    have f2 := blk_cell (i := 2) b1 rfl
    have f3 := blk_cell (i := 3) b1 rfl
    have HC1 : Hid (Chg [] w w1) := hcw.trans q1 (by simp)
    have HB1 : Hid _ := b1
    clear b1 q1
    go_wp2_with fail
    go_region
    go_wp2
    go_ret
    exact ⟨by rw [HN.out]; rfl, HC1.out.drew⟩
  have h0L : 0 ≤ o.L := by omega
  have hdL0 : decide (o.L < 0) = false := decide_eq_false hL0
  have hdL2 : decide (2 < o.L) = false := decide_eq_false hL2
  have hL3 : o.L ≤ 2 := by omega
  have HS : Hid (∀ (W0 W : World), W0.heap[w.heap.size]? = some (.cells (ovc o).toArray 158 (0, 0)) → Chg [] W0 W → (W.cell? ⟨w.heap.size, 0, none⟩ = some (.int .i64 o.L) ∧ W.cell? ⟨w.heap.size, 1, none⟩ = some (.int .u16 o.t) ∧ W.cell? ⟨w.heap.size, 2, none⟩ = some (.int .u16 o.u) ∧ W.cell? ⟨w.heap.size, 3, none⟩ = some (.int .u16 o.r))) := fun W0 W hb hW => by
    have z := hW.blk hb (by simp)
    exact ⟨blk_cell z rfl, blk_cell z rfl, blk_cell z rfl, blk_cell z rfl⟩
  obtain ⟨cu, hcu⟩ : ∃ cu, cu = (if o.L < 1 then 0 else o.u) := ⟨_, rfl⟩
  obtain ⟨cr, hcr⟩ : ∃ cr, cr = (if o.L < 2 then 0 else o.r) := ⟨_, rfl⟩
  have HCut : Hid (∀ W, Calls Tryz.prog 87 #[.int .i64 o.L, .agg #[.int .u16 o.t, .int .u16 o.u, .int .u16 o.r]] W fun e w' => e = .returned (.agg #[.int .u16 o.t, .int .u16 cu, .int .u16 cr]) ∧ Chg [] W w') := fun W => by
    rw [hcu, hcr]
    exact cut_any o.L o.t o.u o.r W h0L
  have HG : Hid (OvGood o ↔ o.u = cu ∧ o.r = cr) := by
    show _ ↔ _
    unfold OvGood
    rw [hcu, hcr]
    constructor
    · rintro ⟨_, _, _, z1, z2⟩
      exact ⟨by split; (exact z1 (by assumption)); rfl, by split; (exact z2 (by assumption)); rfl⟩
    · rintro ⟨z1, z2⟩
      exact ⟨hq, h0L, hL3, fun hh => by rw [if_pos hh] at z1; exact z1, fun hh => by rw [if_pos hh] at z2; exact z2⟩
  clear hcu hcr
  by_cases hkey : o.u = cu ∧ o.r = cr
  case neg =>
    have HN : Hid (ovFit (os.take k) o = false) := by
      show _ = _
      unfold ovFit
      rw [Bool.and_eq_false_iff]
      exact Or.inl (@decide_eq_false _ (dOG o) (fun h => hkey (HG.out.1 h)))
    have HSm : Hid (∀ W, Calls Tryz.prog 131 #[.agg #[.int .u16 o.t, .int .u16 o.u, .int .u16 o.r], .agg #[.int .u16 o.t, .int .u16 cu, .int .u16 cr]] W fun e w' => e = .returned (.bool false) ∧ Chg [] W w') := fun W => by
      refine (same_any o.t o.u o.r o.t _ _ W).mono ?_
      rintro e w' ⟨rfl, hc⟩
      exact ⟨by rw [decide_eq_false (fun h => hkey h.2)], hc⟩
    clear hkey
    go_enter Tryz.func128, Tryz.ntmps128
    go_wp2_with fail
    refine (HI.out _).mono ?_
    rintro e w1 ⟨⟨t, rfl⟩, q1⟩
    have b1 := q1.blk HBX.out (by simp)
    have f0 := blk_cell (i := 0) b1 rfl
    have f1 := blk_cell (i := 1) b1 rfl
    have f2 := blk_cell (i := 2) b1 rfl
    have f3 := blk_cell (i := 3) b1 rfl
    have HC1 : Hid (Chg [] w w1) := hcw.trans q1 (by simp)
    have HB1 : Hid _ := b1
    clear b1 q1
    have HS1 : Hid (∀ W, Chg [] w1 W → (W.cell? ⟨w.heap.size, 0, none⟩ = some (.int .i64 o.L) ∧ W.cell? ⟨w.heap.size, 1, none⟩ = some (.int .u16 o.t) ∧ W.cell? ⟨w.heap.size, 2, none⟩ = some (.int .u16 o.u) ∧ W.cell? ⟨w.heap.size, 3, none⟩ = some (.int .u16 o.r))) := fun W hW => HS.out w1 W HB1.out hW
    have v1 : Chg [] w1 w1.drew := (Chg.refl _ _).drew
    go_upto_region 3 with fail
    go_region_held3 (fun W => W.cell? ⟨w.heap.size, 0, none⟩ = some (.int .i64 o.L) ∧ W.cell? ⟨w.heap.size, 1, none⟩ = some (.int .u16 o.t) ∧ W.cell? ⟨w.heap.size, 2, none⟩ = some (.int .u16 o.u) ∧ W.cell? ⟨w.heap.size, 3, none⟩ = some (.int .u16 o.r))
      (first | with_reducible exact HS1.out _ v3 | with_reducible exact HS1.out _ v2 | with_reducible exact HS1.out _ v1)
      (first | (go_at_call 87; refine (HCut.out _).mono ?_; rintro e w2 ⟨rfl, q2⟩; have v2 : Chg [] w1 w2 := v1.trans q2 (by simp)) | (go_at_call 131; refine (HSm.out _).mono ?_; rintro e w3 ⟨rfl, q3⟩; have v3 : Chg [] w1 w3 := v2.trans q3 (by simp)))
    all_goals
      go_wp2
      go_ret
      exact ⟨by rw [HN.out]; rfl, HC1.out.trans v3 (by simp)⟩
  case pos =>
    have HY : Hid (OvGood o) := HG.out.2 hkey
    have HSm : Hid (∀ W, Calls Tryz.prog 131 #[.agg #[.int .u16 o.t, .int .u16 o.u, .int .u16 o.r], .agg #[.int .u16 o.t, .int .u16 cu, .int .u16 cr]] W fun e w' => e = .returned (.bool true) ∧ Chg [] W w') := fun W => by
      refine (same_any o.t o.u o.r o.t _ _ W).mono ?_
      rintro e w' ⟨rfl, hc⟩
      exact ⟨by rw [decide_eq_true (show _ from ⟨rfl, hkey⟩)], hc⟩
    clear hkey
    go_enter Tryz.func128, Tryz.ntmps128
    go_wp2_with fail
    refine (HI.out _).mono ?_
    rintro e w1 ⟨⟨t, rfl⟩, q1⟩
    have b1 := q1.blk HBX.out (by simp)
    have f0 := blk_cell (i := 0) b1 rfl
    have f1 := blk_cell (i := 1) b1 rfl
    have f2 := blk_cell (i := 2) b1 rfl
    have f3 := blk_cell (i := 3) b1 rfl
    have HC1 : Hid (Chg [] w w1) := hcw.trans q1 (by simp)
    have HB1 : Hid _ := b1
    clear b1 q1
    have HS1 : Hid (∀ W, Chg [] w1 W → (W.cell? ⟨w.heap.size, 0, none⟩ = some (.int .i64 o.L) ∧ W.cell? ⟨w.heap.size, 1, none⟩ = some (.int .u16 o.t) ∧ W.cell? ⟨w.heap.size, 2, none⟩ = some (.int .u16 o.u) ∧ W.cell? ⟨w.heap.size, 3, none⟩ = some (.int .u16 o.r))) := fun W hW => HS.out w1 W HB1.out hW
    have v1 : Chg [] w1 w1.drew := (Chg.refl _ _).drew
    go_upto_region 3 with fail
    go_region_held3 (fun W => W.cell? ⟨w.heap.size, 0, none⟩ = some (.int .i64 o.L) ∧ W.cell? ⟨w.heap.size, 1, none⟩ = some (.int .u16 o.t) ∧ W.cell? ⟨w.heap.size, 2, none⟩ = some (.int .u16 o.u) ∧ W.cell? ⟨w.heap.size, 3, none⟩ = some (.int .u16 o.r))
      (first | with_reducible exact HS1.out _ v3 | with_reducible exact HS1.out _ v2 | with_reducible exact HS1.out _ v1)
      (first | (go_at_call 87; refine (HCut.out _).mono ?_; rintro e w2 ⟨rfl, q2⟩; have v2 : Chg [] w1 w2 := v1.trans q2 (by simp)) | (go_at_call 131; refine (HSm.out _).mono ?_; rintro e w3 ⟨rfl, q3⟩; have v3 : Chg [] w1 w3 := v2.trans q3 (by simp)))
    have HC3 : Hid (Chg [] w w3) := HC1.out.trans v3 (by simp)
    have HB3 : Hid _ := v3.blk HB1.out (by simp)
    clear HS1 v1 v2 v3
    go_wp2_with fail
    go_loopw [8] (fun i wr => ∃ j : Nat, i = .int .i64 j ∧ j ≤ k ∧ Chg [] w3 wr ∧ (os.take j).all (fun x => !sameK x o) = true) (fun i _ => k - (intOf i).toNat)
    case atStart => exact ⟨0, rfl, by omega, Chg.refl _ _, by simp⟩
    case round =>
      obtain ⟨j, rfl, hjk, hcr, hall⟩ := hrel
      by_cases hlt : j < k
      · have hjl : j < os.length := by omega
        obtain ⟨x, hx⟩ : ∃ x, x = os[j] := ⟨_, rfl⟩
        have hax := hx ▸ HH.out j hjl
        have HTK : Hid (os.take (j + 1) = os.take j ++ [x]) := by
          show _ = _
          rw [hx, List.take_succ_eq_append_getElem hjl]
        have HAL : Hid ((os.take j).all (fun x => !sameK x o) = true) := hall
        have HNO : Hid (sameK x o = true → ovFit (os.take k) o = false) := fun hs => by
          unfold ovFit
          rw [Bool.and_eq_false_iff]
          refine Or.inr ?_
          rw [List.all_eq_false]
          exact ⟨x, by rw [hx, List.mem_take_iff_getElem]; exact ⟨j, by omega, rfl⟩, by simp [hs]⟩
        have HSX : Hid (∀ W, Chg [] wr W → (W.cell? ⟨w.heap.size, 0, none⟩ = some (.int .i64 o.L) ∧ W.cell? ⟨w.heap.size, 1, none⟩ = some (.int .u16 o.t) ∧ W.cell? ⟨w.heap.size, 2, none⟩ = some (.int .u16 o.u) ∧ W.cell? ⟨w.heap.size, 3, none⟩ = some (.int .u16 o.r) ∧ W.cell? ⟨lb, lof + j * 7, none⟩ = some (.int .i64 x.L) ∧ W.cell? ⟨lb, lof + j * 7 + 1, none⟩ = some (.int .u16 x.t) ∧ W.cell? ⟨lb, lof + j * 7 + 2, none⟩ = some (.int .u16 x.u) ∧ W.cell? ⟨lb, lof + j * 7 + 3, none⟩ = some (.int .u16 x.r))) := fun W hW => by
          have zc : Chg [] w W := (HC3.out.trans hcr (by simp)).trans hW (by simp)
          obtain ⟨a1, a2, a3, a4⟩ := HS.out w3 W HB3.out (hcr.trans hW (by simp))
          exact ⟨a1, a2, a3, a4, zc.cell hax.1 (by simp), zc.cell hax.2.1 (by simp), zc.cell hax.2.2.1 (by simp), zc.cell hax.2.2.2.1 (by simp)⟩
        have HCR : Hid (Chg [] w3 wr) := hcr
        obtain ⟨y0, y1, y2, y3, y4, y5, y6, y7⟩ := HSX.out wr (Chg.refl _ _)
        clear hax hall hcr hx
        have hj1 : (j : Int) < (k : Int) := by omega
        have hj2 : (j : Int) < (os.length : Int) := by omega
        have v1 : Chg [] wr wr.drew := (Chg.refl _ _).drew
        by_cases hxl : x.L = o.L
        · have hxb : (x.L == o.L) = true := by simpa using hxl
          by_cases hsm : x.t = o.t ∧ x.u = o.u ∧ x.r = o.r
          · have HX : Hid (∀ W, Calls Tryz.prog 131 #[.agg #[.int .u16 x.t, .int .u16 x.u, .int .u16 x.r], .agg #[.int .u16 o.t, .int .u16 o.u, .int .u16 o.r]] W fun e w' => e = .returned (.bool true) ∧ Chg [] W w') := fun W => by
              refine (same_any x.t x.u x.r o.t o.u o.r W).mono ?_
              rintro e w' ⟨rfl, hc⟩
              exact ⟨by rw [decide_eq_true hsm], hc⟩
            have HF : Hid (ovFit (os.take k) o = false) := HNO.out (by unfold sameK; rw [decide_eq_true ⟨hxl, hsm⟩])
            clear hsm hxl HNO
            go_upto_region 8 with fail
            go_region_held3 (fun W => W.cell? ⟨w.heap.size, 0, none⟩ = some (.int .i64 o.L) ∧ W.cell? ⟨w.heap.size, 1, none⟩ = some (.int .u16 o.t) ∧ W.cell? ⟨w.heap.size, 2, none⟩ = some (.int .u16 o.u) ∧ W.cell? ⟨w.heap.size, 3, none⟩ = some (.int .u16 o.r) ∧ W.cell? ⟨lb, lof + j * 7, none⟩ = some (.int .i64 x.L) ∧ W.cell? ⟨lb, lof + j * 7 + 1, none⟩ = some (.int .u16 x.t) ∧ W.cell? ⟨lb, lof + j * 7 + 2, none⟩ = some (.int .u16 x.u) ∧ W.cell? ⟨lb, lof + j * 7 + 3, none⟩ = some (.int .u16 x.r))
              (first | with_reducible exact HSX.out _ v2 | with_reducible exact HSX.out _ v1)
              (first | (go_at_call 131; refine (HX.out _).mono ?_; rintro e w4 ⟨rfl, q4⟩; have v2 : Chg [] wr w4 := v1.trans q4 (by simp)))
            all_goals
              go_wp2
              go_ret
              exact ⟨by rw [HF.out]; rfl, (HC3.out.trans HCR.out (by simp)).trans v2 (by simp)⟩
          · have HX : Hid (∀ W, Calls Tryz.prog 131 #[.agg #[.int .u16 x.t, .int .u16 x.u, .int .u16 x.r], .agg #[.int .u16 o.t, .int .u16 o.u, .int .u16 o.r]] W fun e w' => e = .returned (.bool false) ∧ Chg [] W w') := fun W => by
              refine (same_any x.t x.u x.r o.t o.u o.r W).mono ?_
              rintro e w' ⟨rfl, hc⟩
              exact ⟨by rw [decide_eq_false hsm], hc⟩
            have HF : Hid (sameK x o = false) := by show _ = _; unfold sameK; exact decide_eq_false (fun h => hsm h.2)
            clear hsm hxl HNO
            go_upto_region 8 with fail
            go_region_held3 (fun W => W.cell? ⟨w.heap.size, 0, none⟩ = some (.int .i64 o.L) ∧ W.cell? ⟨w.heap.size, 1, none⟩ = some (.int .u16 o.t) ∧ W.cell? ⟨w.heap.size, 2, none⟩ = some (.int .u16 o.u) ∧ W.cell? ⟨w.heap.size, 3, none⟩ = some (.int .u16 o.r) ∧ W.cell? ⟨lb, lof + j * 7, none⟩ = some (.int .i64 x.L) ∧ W.cell? ⟨lb, lof + j * 7 + 1, none⟩ = some (.int .u16 x.t) ∧ W.cell? ⟨lb, lof + j * 7 + 2, none⟩ = some (.int .u16 x.u) ∧ W.cell? ⟨lb, lof + j * 7 + 3, none⟩ = some (.int .u16 x.r))
              (first | with_reducible exact HSX.out _ v2 | with_reducible exact HSX.out _ v1)
              (first | (go_at_call 131; refine (HX.out _).mono ?_; rintro e w4 ⟨rfl, q4⟩; have v2 : Chg [] wr w4 := v1.trans q4 (by simp)))
            all_goals
              go_wp2_with fail
              go_roundw
              case rel => exact ⟨j + 1, by go_num, by omega, HCR.out.trans v2 (by simp), by rw [HTK.out, List.all_append, HAL.out]; simp [HF.out]⟩
              case measure => simp [intOf]; omega
        · have hxb : (x.L == o.L) = false := by simpa using hxl
          have HF : Hid (sameK x o = false) := by show _ = _; unfold sameK; exact decide_eq_false (fun h => hxl h.1)
          clear HNO
          go_wp2_with fail
          go_region
          go_wp2_with fail
          go_roundw
          case rel => exact ⟨j + 1, by go_num, by omega, HCR.out.trans v1 (by simp), by rw [HTK.out, List.all_append, HAL.out]; simp [HF.out]⟩
          case measure => simp [intOf]; omega
      · have hje : j = k := by omega
        subst hje
        have HYY : Hid (ovFit (os.take j) o = true) := by show _ = _; unfold ovFit; rw [@decide_eq_true _ (dOG o) HY.out, hall]; rfl
        clear hall
        go_wp2
        go_ret
        exact ⟨by rw [HYY.out]; rfl, HC3.out.trans hcr (by simp)⟩
end Go.Proofs.YtbdnhllhdjepcaaGreat
