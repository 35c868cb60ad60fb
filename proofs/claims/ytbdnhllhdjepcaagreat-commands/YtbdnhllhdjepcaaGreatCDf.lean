import Derived.Test.YtbdnhllhdjepcaaGreatCDe
import Derived.Test.YtbdnhllhdjepcaaGreatCAns
namespace Go.Proofs.YtbdnhllhdjepcaaGreat
set_option linter.unusedVariables false
set_option linter.unusedSimpArgs false
open Go.RowKit Go.Maps

theorem AllR.tail {w w1 w2 : World} {yb : Nat} {s : Rf} {cost t u r : Int} {e : Ending} (h : AllR w w1 yb s cost t u r e) (hc : Chg [] w1 w2) : AllR w w2 yb s cost t u r e := by
  refine ⟨fun h1 => ⟨(h.1 h1).1, (h.1 h1).2.trans hc (by simp)⟩, fun h1 h2 => ?_⟩
  obtain ⟨e1, v, q1, q2⟩ := h.2 h1 h2
  exact ⟨e1, v, q1.chg hc (by simp), q2.trans (RStp.of0 hc)⟩
theorem AllR.head {w w1 w2 : World} {yb : Nat} {s : Rf} {cost t u r : Int} {e : Ending} (h : AllR w1 w2 yb s cost t u r e) (hc : Chg [] w w1) : AllR w w2 yb s cost t u r e := by
  refine ⟨fun h1 => ⟨(h.1 h1).1, hc.trans (h.1 h1).2 (by simp)⟩, fun h1 h2 => ?_⟩
  obtain ⟨e1, v, q1, q2⟩ := h.2 h1 h2
  exact ⟨e1, v, q1, (RStp.of0 hc).trans q2⟩
/-- what a request is answered by, in numbers -/
def Rf.rep3 (s : Rf) (cost t u r : Int) : Int × Int × Int × Int := if cost < 1 ∨ 1000 < cost then (0, 0, 0, 1) else ((s.rep cost t u r).1, (s.rep cost t u r).2.1, (s.rep cost t u r).2.2, 0)
theorem AllR.form {w w' : World} {yb : Nat} {s : Rf} {cost t u r : Int} {e : Ending} (h : AllR w w' yb s cost t u r e) : e = .returned (.tuple #[.agg #[.int .i64 (s.rep3 cost t u r).1, .int .i64 (s.rep3 cost t u r).2.1, .int .u64 (s.rep3 cost t u r).2.2.1], .int .i64 (s.rep3 cost t u r).2.2.2]) := by
  unfold Rf.rep3
  by_cases hb : cost < 1 ∨ 1000 < cost
  · rw [if_pos hb]
    exact (h.1 hb).1
  · rw [if_neg hb]
    exact (h.2 (by omega) (by omega)).1
theorem Rf.Ok.f_bd2 {s : Rf} (ok : s.Ok) {t u r cost : Int} (hc : 1 ≤ cost) (k : Nat) : 0 ≤ (s.f cost t u r k).2 ∧ (s.f cost t u r k).2 ≤ 18446744073709551615 := by
  have hq := quo_ok ok.c k t u r
  have hm : 0 ≤ mkM s.ms k t u r ∧ mkM s.ms k t u r ≤ 13835058055282163711 := by
    cases hI : mkI s.ms k t u r with
    | none => rw [mkM_none hI]; omega
    | some i =>
      obtain ⟨hi, hM, _⟩ := mkM_some hI
      rw [hM]
      have := (ok.ms _ (List.getElem_mem hi)).m
      have := ok.le _ (List.getElem_mem hi)
      have := ok.T.2
      exact ⟨by omega, by omega⟩
  have := ask_bd (iv := ivl (quoOf s.c s.os k t u r).1 (quoOf s.c s.os k t u r).2.1) (bu := (quoOf s.c s.os k t u r).2.2) (mark := mkM s.ms k t u r) (now := s.T) (cost := cost) hq.2.2.2.2.2.2 hq.2.2.2.2.1 (by have := hq.2.2.2.2.2.1; omega) hm.1 hm.2 ok.T.1 ok.T.2 hc
  exact ⟨this.2.2.1, this.2.2.2.1⟩
theorem Rf.Ok.rep_bd {s : Rf} (ok : s.Ok) (cost t u r : Int) (hc : 1 ≤ cost) : (0 ≤ (s.rep cost t u r).1 ∧ (s.rep cost t u r).1 < 256) ∧ (0 ≤ (s.rep cost t u r).2.1 ∧ (s.rep cost t u r).2.1 < 256) ∧ 0 ≤ (s.rep cost t u r).2.2 ∧ (s.rep cost t u r).2.2 ≤ 18446744073709551615 := by
  unfold Rf.rep
  split
  · have h3 := repTo_bd (s.f cost t u r) (fun j => ok.f_bd2 hc j) 3
    have h4 := repTo_lv (s.f cost t u r) 3
    exact ⟨⟨h3.1, Int.lt_of_le_of_lt h3.2.1 (by decide)⟩, ⟨h4.1, Int.lt_of_le_of_lt h4.2 (by decide)⟩, h3.2.2⟩
  · exact ⟨by decide, by decide, by decide, by decide⟩
theorem Rf.Ok.rep3_bd {s : Rf} (ok : s.Ok) (cost t u r : Int) : (0 ≤ (s.rep3 cost t u r).1 ∧ (s.rep3 cost t u r).1 < 256) ∧ (0 ≤ (s.rep3 cost t u r).2.1 ∧ (s.rep3 cost t u r).2.1 < 256) ∧ (0 ≤ (s.rep3 cost t u r).2.2.1 ∧ (s.rep3 cost t u r).2.2.1 ≤ 18446744073709551615) ∧ ((s.rep3 cost t u r).2.2.2 = 0 ∨ (s.rep3 cost t u r).2.2.2 = 1) := by
  unfold Rf.rep3
  by_cases hb : cost < 1 ∨ 1000 < cost
  · rw [if_pos hb]
    exact ⟨by decide, by decide, by decide, by decide⟩
  · rw [if_neg hb]
    have := ok.rep_bd cost t u r (by omega)
    exact ⟨this.1, this.2.1, this.2.2, Or.inl rfl⟩
/-- what a request's text is answered by -/
def Rf.ans1 (s : Rf) (cost t u r : Int) : List UInt8 := if (s.rep3 cost t u r).2.2.2 = 0 then bl [(s.rep3 cost t u r).1, (s.rep3 cost t u r).2.1] ++ be (s.rep3 cost t u r).2.2.1 8 else [255]
theorem bl_two (a b : Int) : bl [a] ++ bl [b] = bl [a, b] := rfl
theorem AllR.chg {w w' : World} {yb : Nat} {s : Rf} {cost t u r : Int} {e : Ending} (h : AllR w w' yb s cost t u r e) : Chg (s.fp yb) w w' := by
  by_cases hb : cost < 1 ∨ 1000 < cost
  · exact (h.1 hb).2.mono (by simp)
  · obtain ⟨_, v, _, q⟩ := h.2 (by omega) (by omega)
    exact q.chg
/-- behind it a block is written that was new ahead of it -/
theorem AllR.past {w W w1 w2 : World} {yb k : Nat} {s : Rf} {cost t u r : Int} {e : Ending} (h : AllR W w1 yb s cost t u r e) (hr : RefAt w yb s) (hW : Chg [] w W) (hc : Chg [k] w1 w2) (h1 : w.heap.size ≤ k) (h2 : k < W.heap.size) : AllR w w2 yb s cost t u r e := by
  have hlt := hr.lt
  refine ⟨fun hb => ⟨(h.1 hb).1, ?_⟩, fun q1 q2 => ?_⟩
  · exact (hW.trans (h.1 hb).2 (by simp)).trans hc (fun j hj => by simp only [List.mem_cons, List.not_mem_nil, or_false] at hj; subst hj; exact Or.inr h1)
  · obtain ⟨e1, v, p1, p2⟩ := h.2 q1 q2
    refine ⟨e1, v, p1.chg hc (fun b hb hb' => ?_), ⟨?_, fun b hb => ?_⟩⟩
    · simp only [List.mem_cons, List.not_mem_nil, or_false] at hb'
      subst hb'
      rcases p2.new b hb with hx | hx
      · have := hlt b hx; omega
      · omega
    · exact ((hW.mono (by simp)).trans p2.chg (fun j hj => Or.inl hj)).trans hc (fun j hj => by simp only [List.mem_cons, List.not_mem_nil, or_false] at hj; subst hj; exact Or.inr h1)
    · have := hW.size
      exact (p2.new b hb).imp id (fun hx => by omega)
end Go.Proofs.YtbdnhllhdjepcaaGreat
