import Derived.Test.YtbdnhllhdjepcaaGreatCDh
namespace Go.Proofs.YtbdnhllhdjepcaaGreat
set_option linter.unusedVariables false
set_option linter.unusedSimpArgs false
open Go.RowKit Go.Maps

theorem two_inj {a b c d : Int} (h : Ending.returned (.tuple #[.int .i64 a, .int .u64 b]) = .returned (.tuple #[.int .i64 c, .int .u64 d])) : a = c ∧ b = d := by
  simpa using h
section
variable {K : Nat} {w : World} {p : Pr}
theorem Pr.At.doSub (h : p.At (QSim K) w) (hK : K ≤ 900000000000) (b : UInt8) (l : List UInt8) (hb : b.toNat = 2) (h6 : l.length = 6) : ∃ a M, Both (QSim (K + 1)) w p 25 46 [sv (b :: l)] (.returned (sv a)) M := by
  have hrd0 := fun W => read_cons b l W (by omega)
  have hrdc : rd b l = rdSub l := by unfold rd; rw [if_neg (by omega), if_pos ⟨hb, h6⟩]
  rw [hrdc] at hrd0
  have hq := h.qs
  have hce := hq.ce
  have hcd := hq.cd
  have hT := hq.T
  have hts := hq.ts
  have hle := hq.le
  have hcq := hq.cq
  have href := fun W (hr : RefAt W p.y p.s) => do_sub p.y p.s b l W hr hb h6 h.rok.T hce hcd (by omega) (by omega) hq.tw (fun t => by have := hq.due t; omega)
  have b1 := nb2 (l := l.take 2) (by rw [List.length_take]; omega)
  have b2 := nb4 (l := (l.drop 2).take 4) (by rw [List.length_take, List.length_drop]; omega)
  unfold rdSub at hrd0
  generalize nb (l.take 2) = t at *
  generalize nb ((l.drop 2).take 4) = x at *
  have ht : U16 t := ⟨by omega, by omega⟩
  have hx : U32 x := ⟨by omega, by omega⟩
  have hone := fun W (hW : Chg [] w W) => Do2 (sv (b :: l)) t x 0 0 0 0 0 0 (h.chg hW (by simp)).f ((h.chg hW (by simp)).ms hK) hrd0 (wf16 ht)
  by_cases h1 : p.s.c.de < p.s.due t - p.s.T
  · refine ⟨bl [4] ++ be 0 8, fun W w1 => ∃ q', FullAt w1 p.g q' p.s.T p.Ds ∧ Stp W w1 p.g p.q q' ∧ QSim (K + 1) q' p.s, ⟨fun W hW => (hone W hW).mono ?_, fun W w1 W' hW hM hc => ?_, fun W w1 hM => ?_⟩⟩
    · rintro e w1 ⟨a, rfl, q', st, d, z1, z2, z3, z4, z5, z6, rfl⟩
      rcases hq.sub ht hx z6 z3 z4 z5 with ⟨_, he, hs⟩ | ⟨h2, _⟩ | ⟨h2, _⟩
      · obtain ⟨rfl, rfl⟩ := two_inj he
        exact ⟨rfl, q', z1, z2, hs⟩
      · omega
      · omega
    · obtain ⟨q', z1, z2, z3⟩ := hM
      have hp := h.chg hW (by simp)
      have hr := hp.sfar z2.chg hc
      refine (href W' hr).mono ?_
      rintro e w2 ⟨st, d, rfl, y1, _, _⟩
      obtain ⟨he, c2⟩ := y1 h1
      obtain ⟨rfl, rfl⟩ := two_inj he
      exact ⟨rfl, c2.mono (by simp), _, hp.full z1 z2 hc (hr.chg c2 (by simp)) (RStp.of0 c2) hp.rok rfl rfl hp.sim hp.inv (by omega) z3⟩
    · obtain ⟨q', z1, z2, z3⟩ := hM
      exact z2.chg.mono all_sub
  by_cases h2 : p.s.c.qu ≤ (p.s.is.length : Int)
  · refine ⟨bl [5] ++ be 0 8, fun W w1 => ∃ q', FullAt w1 p.g q' p.s.T p.Ds ∧ Stp W w1 p.g p.q q' ∧ QSim (K + 1) q' p.s, ⟨fun W hW => (hone W hW).mono ?_, fun W w1 W' hW hM hc => ?_, fun W w1 hM => ?_⟩⟩
    · rintro e w1 ⟨a, rfl, q', st, d, z1, z2, z3, z4, z5, z6, rfl⟩
      rcases hq.sub ht hx z6 z3 z4 z5 with ⟨h3, _⟩ | ⟨_, _, he, hs⟩ | ⟨_, h3, _⟩
      · omega
      · obtain ⟨rfl, rfl⟩ := two_inj he
        exact ⟨rfl, q', z1, z2, hs⟩
      · omega
    · obtain ⟨q', z1, z2, z3⟩ := hM
      have hp := h.chg hW (by simp)
      have hr := hp.sfar z2.chg hc
      refine (href W' hr).mono ?_
      rintro e w2 ⟨st, d, rfl, _, y1, _⟩
      obtain ⟨he, c2⟩ := y1 (by omega) h2
      obtain ⟨rfl, rfl⟩ := two_inj he
      exact ⟨rfl, c2.mono (by simp), _, hp.full z1 z2 hc (hr.chg c2 (by simp)) (RStp.of0 c2) hp.rok rfl rfl hp.sim hp.inv (by omega) z3⟩
    · obtain ⟨q', z1, z2, z3⟩ := hM
      exact z2.chg.mono all_sub
  · refine ⟨bl [3] ++ be (p.s.due t) 8, fun W w1 => ∃ q', FullAt w1 p.g q' p.s.T p.Ds ∧ Stp W w1 p.g p.q q' ∧ ∀ s', SubS p.s s' t x → QSim (K + 1) q' s', ⟨fun W hW => (hone W hW).mono ?_, fun W w1 W' hW hM hc => ?_, fun W w1 hM => ?_⟩⟩
    · rintro e w1 ⟨a, rfl, q', st, d, z1, z2, z3, z4, z5, z6, rfl⟩
      rcases hq.sub ht hx z6 z3 z4 z5 with ⟨h3, _⟩ | ⟨_, h3, _⟩ | ⟨_, _, he, hs⟩
      · omega
      · omega
      · obtain ⟨rfl, rfl⟩ := two_inj he
        exact ⟨rfl, q', z1, z2, hs⟩
    · obtain ⟨q', z1, z2, z3⟩ := hM
      have hp := h.chg hW (by simp)
      have hr := hp.sfar z2.chg hc
      refine (href W' hr).mono ?_
      rintro e w2 ⟨st, d, rfl, _, _, y1⟩
      obtain ⟨he, s', y2, y3, y4⟩ := y1 (by omega) (by omega)
      obtain ⟨rfl, rfl⟩ := two_inj he
      refine ⟨rfl, y4.chg.mono sfp_sub, _, hp.full (s' := s') (by rw [y2.T]; exact z1) z2 hc y3 y4 ?_ y2.c y2.os (by rw [y2.c, y2.T, y2.ms]; exact hp.sim) (by rw [y2.T]; exact hp.inv) (by rw [y2.ms]; omega) (z3 s' y2)⟩
      exact ⟨by rw [y2.c, y2.os]; exact hp.rok.c, by rw [y2.T]; exact hp.rok.T, by rw [y2.ms]; exact hp.rok.ms, by rw [y2.ms, y2.T]; exact hp.rok.le, by rw [y2.os]; exact hp.rok.ov⟩
    · obtain ⟨q', z1, z2, z3⟩ := hM
      exact z2.chg.mono all_sub
/-- whatever the text -/
theorem Pr.At.does (h : p.At (QSim K) w) (hK : K ≤ 900000000000) (l : List UInt8) (hl : l.length ≤ 9223372036854775807) (hlen : p.s.ms.length ≤ 5000000000000) : ∃ a M, Both (QSim (K + 1)) w p 25 46 [sv l] (.returned (sv a)) M := by
  cases l with
  | nil => exact ⟨[255], h.doNo hK _ 0 0 0 0 0 0 0 0 (fun W => read_nil W) (fun W _ => do_nil p.y W)⟩
  | cons b l =>
    simp only [List.length_cons] at hl
    by_cases h1 : b.toNat = 1 ∧ l.length = 8
    · exact h.doAll hK b l h1.1 h1.2 hlen
    by_cases h2 : b.toNat = 2 ∧ l.length = 6
    · exact h.doSub hK b l h2.1 h2.2
    by_cases h3 : b.toNat = 3 ∧ l.length = 1
    · exact h.doPol hK b l h3.1 h3.2
    by_cases h4 : b.toNat = 4 ∧ l.length = 8
    · exact h.doAdv hK b l h4.1 h4.2
    have hrd0 := fun W => read_cons b l W (by omega)
    have hrdc : rd b l = Cm.zero := by unfold rd; rw [if_neg h1, if_neg h2, if_neg h3, if_neg h4]
    rw [hrdc] at hrd0
    exact ⟨[255], h.doNo hK _ 0 0 0 0 0 0 0 0 hrd0 (fun W _ => do_none p.y b l W (by omega) h1 h2 h3 h4)⟩
end
end Go.Proofs.YtbdnhllhdjepcaaGreat
