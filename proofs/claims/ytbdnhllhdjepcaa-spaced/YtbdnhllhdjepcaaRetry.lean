import Derived.Test.YtbdnhllhdjepcaaMarks
namespace Go.Proofs.Ytbdnhllhdjepcaa
set_option linter.unusedVariables false
set_option linter.unusedSimpArgs false
open Go.RowKit Go.Maps

theorem room_ok {B now now' : Int} {D : DW} (h : Tm B now D) (t u r : Int) : (Maps.size (fgt now' D) : Int) + miss (fgt now' D) t u r 3 ≤ 64 := by
  have h1 := (h.fgt (now' := now')).size
  have h2 := miss_bd (fgt now' D) t u r 3
  omega
theorem allowD_room {B now' now : Int} {D : DW} (h : Tm B now' D) (h0 : 0 ≤ now) (p : Pln) (cost t u r : Int) : allowD p 64 D now cost t u r =
    (repTo (askAt p D now cost t u r) 3, if (repTo (askAt p D now cost t u r) 3).1 = 0 then putTo (fgt now D) t u r (askAt p D now cost t u r 0).1 (askAt p D now cost t u r 1).1 (askAt p D now cost t u r 2).1 3 else fgt now D) := by
  unfold allowD
  rw [if_pos (room_ok h t u r), askAt_fgt h.tidy (Int.le_refl _) h0]
  split <;> rfl
theorem askAt_nn {B now' now : Int} {D : DW} (h : Tm B now' D) (hB : 0 ≤ B) (hn : now' ≤ now) (h0 : 0 ≤ now') {p : Pln} (hp : Sm B p) {cost : Int} (hc : 1 ≤ cost) (t u r : Int) (j : Nat) : 0 ≤ (askAt p D now cost t u r j).2 := by
  have hg := (hp j (plk t u r j)).1
  have hm := (h.mono hn).mark (by omega) (plk t u r j)
  unfold askAt
  by_cases hd : (p.at_ j (plk t u r j)).2 / (p.at_ j (plk t u r j)).1 < cost - 1
  · unfold ask; rw [if_pos hd]; simp [never]
  · exact (ask_finite hg.1 hg.2.1 hc hd hm.2 hB).1
theorem Tm.allow {B now' now : Int} {D : DW} (h : Tm B now' D) (hB : 0 ≤ B) (hn : now' ≤ now) (h0 : 0 ≤ now') {p : Pln} (hp : Sm B p) {cost t u r : Int} (hc : 1 ≤ cost) (ht : 0 ≤ t ∧ t < 3) (hu : 0 ≤ u ∧ u < 2) (hr : 0 ≤ r ∧ r < 2) : Tm B now (allowD p 64 D now cost t u r).2 := by
  rw [allowD_room h (by omega)]
  have hf := ((h.mono hn).fgt (now' := now))
  by_cases hz : (repTo (askAt p D now cost t u r) 3).1 = 0
  · simp only [if_pos hz]
    have hz' := repTo_ok (fun j => askAt_nn h hB hn h0 hp hc t u r j) hz
    have hx : ∀ j, j < 3 → 0 ≤ (askAt p D now cost t u r j).1 ∧ (askAt p D now cost t u r j).1 ≤ now + B := fun j hj => by
      have hg := hp j (plk t u r j)
      have hm := (h.mono hn).mark (by omega) (plk t u r j)
      have h1 := ask_next (mark := markOf D (plk t u r j)) (now := now) (bu := (p.at_ j (plk t u r j)).2) (cost := cost) hg.1.1 (hz' j hj)
      have h2 := (ask_zero (mark := markOf D (plk t u r j)) (now := now) (bu := (p.at_ j (plk t u r j)).2) (cost := cost) hg.1.1).1 (hz' j hj)
      have h3 : 0 ≤ cost * (p.at_ j (plk t u r j)).1 := Int.mul_nonneg (by omega) (by have := hg.1.1; omega)
      unfold askAt
      rw [h1]
      have := hg.2
      omega
    exact ((hf.put (isKey_kl _ _ _ _) (plk_univ ht hu hr 0) (hx 0 (by decide)).1 (hx 0 (by decide)).2).put (isKey_kl _ _ _ _) (plk_univ ht hu hr 1) (hx 1 (by decide)).1 (hx 1 (by decide)).2).put (isKey_kl _ _ _ _) (plk_univ ht hu hr 2) (hx 2 (by decide)).1 (hx 2 (by decide)).2
  · simp only [if_neg hz]
    exact hf

theorem max3 {a b c m : Int} (h : max (max a b) c = m) : a ≤ m ∧ b ≤ m ∧ c ≤ m ∧ (m = a ∨ m = b ∨ m = c) := by omega
/-- what is told of a request: let through; never; or the least wait -/
theorem retr {now : Int} {D : DW} (h : Tm 300 now D) (h0 : 0 ≤ now) {p : Pln} (hp : Sm 300 p) {cost t u r : Int} (hc : 1 ≤ cost) :
    ∃ st lv rt D', allowD p 64 D now cost t u r = ((st, lv, rt), D') ∧
    ((st = 0 ∧ lv = 0 ∧ rt = 0) ∨
     (st = 1 ∧ D' = fgt now D ∧ rt = never ∧ ∀ d, 0 ≤ d → ∃ lv', (allowD p 64 D' (now + d) cost t u r).1 = (1, lv', never)) ∨
     (st = 1 ∧ D' = fgt now D ∧ 1 ≤ rt ∧ rt ≤ 300 ∧ (∃ lv', allowD p 64 D' (now + (rt - 1)) cost t u r = ((1, lv', 1), fgt (now + (rt - 1)) D')) ∧ (∃ lv' rt', (allowD p 64 (fgt (now + (rt - 1)) D') (now + (rt - 1) + 1) cost t u r).1 = (0, lv', rt')))) := by
  have hnn : ∀ d, 0 ≤ d → ∀ j, 0 ≤ (askAt p D (now + d) cost t u r j).2 := fun d hd j => askAt_nn h (by decide) (by omega) h0 hp hc t u r j
  have hf := fun d (hd : 0 ≤ d) => askAt_fgt (now' := now) (now := now + d) h.tidy (by omega) (by omega) p cost t u r
  have e0 := allowD_room h h0 p cost t u r
  have hs := repTo_st (askAt p D now cost t u r) (fun j => by have := hnn 0 (by omega) j; simpa using this)
  generalize repTo (askAt p D now cost t u r) 3 = R at *
  obtain ⟨st, lv, rt⟩ := R
  simp only at e0 hs
  refine ⟨st, lv, rt, _, e0, ?_⟩
  rcases hs with hs | ⟨s1, s2, s3, s4⟩
  · exact Or.inl ⟨hs.1, hs.2.1, hs.2.2.1⟩
  · right
    rw [if_neg (show ¬ st = 0 from by omega)]
    have hfin : ∀ j, ¬ (p.at_ j (plk t u r j)).2 / (p.at_ j (plk t u r j)).1 < cost - 1 → 0 ≤ (askAt p D now cost t u r j).2 ∧ (askAt p D now cost t u r j).2 ≤ 300 := fun j hd => by
      have hg := (hp j (plk t u r j)).1
      exact ask_finite hg.1 hg.2.1 hc hd (h.mark (by omega) _).2 (by decide)
    have hnev : ∀ j, (p.at_ j (plk t u r j)).2 / (p.at_ j (plk t u r j)).1 < cost - 1 → ∀ d, (askAt p D (now + d) cost t u r j).2 = never := fun j hd d => by
      unfold askAt ask; rw [if_pos hd]
    have htm := h.fgt (now' := now)
    by_cases hev : ∃ j, j < 3 ∧ (p.at_ j (plk t u r j)).2 / (p.at_ j (plk t u r j)).1 < cost - 1
    · left
      obtain ⟨j, hj, hd⟩ := hev
      have key : ∀ d, 0 ≤ d → max (max (askAt p D (now + d) cost t u r 0).2 (askAt p D (now + d) cost t u r 1).2) (askAt p D (now + d) cost t u r 2).2 = never := fun d hd' => by
        have hle : ∀ i, (askAt p D (now + d) cost t u r i).2 ≤ never := fun i => by
          by_cases hi : (p.at_ i (plk t u r i)).2 / (p.at_ i (plk t u r i)).1 < cost - 1
          · rw [hnev i hi d]; exact Int.le_refl _
          · have hg := (hp i (plk t u r i)).1
            have := (ask_finite (now := now + d) (mark := markOf D (plk t u r i)) hg.1 hg.2.1 hc hi (by have := (h.mark (by omega) (plk t u r i)).2; show _ ≤ now + d + 300; omega) (by decide)).2
            unfold askAt never
            omega
        have h1 := hle 0
        have h2 := hle 1
        have h3 := hle 2
        have h4 := hnev j hd d
        rcases (show j = 0 ∨ j = 1 ∨ j = 2 from by omega) with rfl | rfl | rfl <;> omega
      refine ⟨s1, rfl, by rw [s2]; have := key 0 (by omega); simpa using this, fun d hd' => ?_⟩
      rw [allowD_room (now := now + d) htm (by omega), hf d hd']
      rcases repTo_st (askAt p D (now + d) cost t u r) (hnn d hd') with q | ⟨q1, q2, _⟩
      · have := key d hd'
        rw [q.2.2.2.1, q.2.2.2.2.1, q.2.2.2.2.2] at this
        simp [never] at this
      · exact ⟨(repTo (askAt p D (now + d) cost t u r) 3).2.1, by rw [← q1, show never = (repTo (askAt p D (now + d) cost t u r) 3).2.2 from by rw [q2, key d hd']]⟩
    · right
      have hno : ∀ j, j < 3 → ¬ (p.at_ j (plk t u r j)).2 / (p.at_ j (plk t u r j)).1 < cost - 1 := fun j hj hd => hev ⟨j, hj, hd⟩
      have hlat : ∀ d, 0 ≤ d → ∀ j, j < 3 → (askAt p D (now + d) cost t u r j).2 = max 0 ((askAt p D now cost t u r j).2 - d) := fun d hd j hj => by
        have hg := (hp j (plk t u r j)).1
        exact ask_later hg.1 hg.2.1 hc hd (hno j hj)
      have b0 := hfin 0 (hno 0 (by decide))
      have b1 := hfin 1 (hno 1 (by decide))
      have b2 := hfin 2 (hno 2 (by decide))
      refine ⟨s1, rfl, by omega, by omega, ?_, ?_⟩
      · rw [allowD_room (now := now + (rt - 1)) htm (by omega), hf (rt - 1) (by omega)]
        have l0 := hlat (rt - 1) (by omega) 0 (by decide)
        have l1 := hlat (rt - 1) (by omega) 1 (by decide)
        have l2 := hlat (rt - 1) (by omega) 2 (by decide)
        rcases repTo_st (askAt p D (now + (rt - 1)) cost t u r) (hnn (rt - 1) (by omega)) with q | ⟨q1, q2, _⟩
        · omega
        · refine ⟨(repTo (askAt p D (now + (rt - 1)) cost t u r) 3).2.1, ?_⟩
          rw [if_neg (by omega)]
          have : (repTo (askAt p D (now + (rt - 1)) cost t u r) 3).2.2 = 1 := by omega
          exact Prod.ext (Prod.ext q1 (Prod.ext rfl this)) rfl
      · have htm2 := (h.fgt (now' := now)).mono (show now ≤ now + (rt - 1) from by omega) |>.fgt (now' := now + (rt - 1))
        rw [allowD_room (now := now + (rt - 1) + 1) htm2 (by omega), askAt_fgt htm.tidy (by omega) (by omega), askAt_fgt h.tidy (by omega) (by omega)]
        rw [show now + (rt - 1) + 1 = now + rt from by omega]
        have l0 := hlat rt (by omega) 0 (by decide)
        have l1 := hlat rt (by omega) 1 (by decide)
        have l2 := hlat rt (by omega) 2 (by decide)
        rcases repTo_st (askAt p D (now + rt) cost t u r) (hnn rt (by omega)) with q | ⟨q1, q2, q3, _⟩
        · exact ⟨_, _, by rw [← q.1]⟩
        · omega
end Go.Proofs.Ytbdnhllhdjepcaa
