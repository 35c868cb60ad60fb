import Derived.Test.YtbdnhllhdjepcaaGreatCStp
import Derived.Test.YtbdnhllhdjepcaaGreatCDj
import Derived.Test.YtbdnhllhdjepcaaGreatCDg
import Derived.Test.YtbdnhllhdjepcaaGreatCLu
namespace Go.Proofs.YtbdnhllhdjepcaaGreat
set_option linter.unusedVariables false
set_option linter.unusedSimpArgs false
open Go.RowKit Go.Maps

/-! ### a pair is told a text: both answer the same -/
theorem Rf.ans1_ok (s : Rf) {c t u r : Int} (h : 1 ≤ c ∧ c ≤ 1000) : s.ans1 c t u r = bl [(s.rep c t u r).1, (s.rep c t u r).2.1] ++ be (s.rep c t u r).2.2 8 := by
  have h3 : s.rep3 c t u r = ((s.rep c t u r).1, (s.rep c t u r).2.1, (s.rep c t u r).2.2, 0) := by
    unfold Rf.rep3
    rw [if_neg (by omega)]
  unfold Rf.ans1
  rw [h3]
  rfl
theorem Rf.ans1_bad (s : Rf) {c t u r : Int} (h : ¬ (1 ≤ c ∧ c ≤ 1000)) : s.ans1 c t u r = [255] := by
  have h3 : s.rep3 c t u r = (0, 0, 0, 1) := by
    unfold Rf.rep3
    rw [if_pos (by omega)]
  unfold Rf.ans1
  rw [h3]
  rfl
theorem Pr.At.full {Q Q' : Qs → Rf → Prop} {W w1 W' w2 : World} {p : Pr} {q' : Qs} {Ds' : Nat → DW} {s' : Rf} (h : p.At Q W) (hf : FullAt w1 p.g q' s'.T Ds') (hs : Stp W w1 p.g p.q q') (c2 : Chg [] w1 W') (h2 : RefAt w2 p.y s') (c3 : RStp W' w2 p.y p.s s') (hok : s'.Ok) (hc : s'.c = p.s.c) (ho : s'.os = p.s.os) (hsim : Sim s'.c.sh s'.T Ds' s'.ms) (hinv : ∀ i, Inv s'.T (Ds' i)) (hl : s'.ms.length ≤ p.s.ms.length + 3) (hQ : Q' q' s') : PStp Q' W w2 p ⟨p.g, q', Ds', p.y, s'⟩ := by
  have hlt := h.lt
  have hs1 := hs.chg.size
  have hs2 := c2.size
  have hall : ∀ b, b ∈ p.g.all q' → b ∈ p.g.all p.q ∨ (W.heap.size ≤ b ∧ b < w1.heap.size) := fun b hb => (hs.new b hb).imp id (fun x => ⟨x, hf.lt b hb⟩)
  have sep0 : ∀ b ∈ p.g.all q', b ∉ p.s.fp p.y := fun b hb hb' => by
    rcases hall b hb with hx | hx
    · exact h.sep b hx hb'
    · have := hlt b (List.mem_append_right _ hb'); omega
  refine ⟨⟨(hf.chg c2 (by simp)).chg c3.chg (fun b hb => sep0 b hb), h.ok, h2, hok, hsim, by show p.g.p = plnTo s'.c s'.os s'.os.length; rw [hc, ho]; exact h.pl, by show p.g.sl = s'.c.sl; rw [hc]; exact h.sl, by show _ = s'.c.sh; rw [hc]; exact h.n, hinv, fun b hb hb' => ?_, hQ⟩, ?_, fun b hb => ?_, rfl, rfl, hl⟩
  · rcases c3.new b hb' with hx | hx
    · exact sep0 b hb hx
    · have := hf.lt b hb; omega
  · exact ((hs.chg.mono (m := p.fp) (fun b hb => List.mem_append_left _ hb)).trans c2 (by simp)).trans c3.chg (fun j hj => Or.inl (List.mem_append_right _ hj))
  · rcases List.mem_append.1 hb with hb | hb
    · rcases hall b hb with hx | hx
      · exact Or.inl (List.mem_append_left _ hx)
      · exact Or.inr hx.1
    · rcases c3.new b hb with hx | hx
      · exact Or.inl (List.mem_append_right _ hx)
      · exact Or.inr (by omega)
theorem Pr.At.sfar {Q : Qs → Rf → Prop} {W w1 W' : World} {p : Pr} (h : p.At Q W) (c1 : Chg (p.g.all p.q) W w1) (c2 : Chg [] w1 W') : RefAt W' p.y p.s :=
  (h.ref.chg c1 (fun b hb hb' => h.sep b hb' hb)).chg c2 (by simp)
theorem all_sub {p : Pr} : ∀ b ∈ p.g.all p.q, b ∈ p.fp := fun b hb => List.mem_append_left _ hb
theorem Pr.At.wf {K : Nat} {w : World} {p : Pr} (h : p.At (QSim K) w) : IWf (isort p.s.is) := fun y hy => by
  have := h.qs.ib y ((mem_isort _ _).1 hy)
  obtain ⟨⟨a1, a2⟩, ⟨a3, a4⟩, a5, a6⟩ := this
  exact ⟨⟨a1, by omega⟩, ⟨a3, by omega⟩, a5, a6⟩
theorem Pr.At.ms {K : Nat} {w : World} {p : Pr} (h : p.At (QSim K) w) (hK : K ≤ 900000000000) : MS p.g p.q p.s.T p.Ds := by
  have hq := h.qs
  have h1 := hq.ce
  have h2 := hq.le
  have h3 := hq.cq
  have h4 := hq.es
  have h5 := hq.n
  have hwl : p.q.ws.length = p.s.is.length := by rw [hq.ws, isort_len]
  exact ⟨h.ok, h.inv, hq.T.1, hq.T.2, by rw [hq.e.1]; omega, by rw [hq.e.2.1]; exact hq.cd, by omega, by omega, by omega, by rw [hq.ws]; exact h.wf⟩
section
variable {K : Nat} {w : World} {p : Pr}
theorem Pr.At.doNo (h : p.At (QSim K) w) (hK : K ≤ 900000000000) (T : Value) (t u r c n x m sp : Int) (hrd : ∀ W, Calls Tryz.prog 59 #[T] W fun e w' => e = .returned (.agg #[.int .i64 0, .int .u16 t, .int .u16 u, .int .u16 r, .int .i64 c, .int .u16 n, .int .u32 x, .int .i64 m, .int .u64 sp]) ∧ Chg [] W w')
    (href : ∀ W, RefAt W p.y p.s → Calls Tryz.prog 46 #[.pointer (some ⟨p.y, 0, none⟩), T] W fun e w' => e = .returned (sv [255]) ∧ Chg [] W w') : ∃ M, Both (QSim (K + 1)) w p 25 46 [T] (.returned (sv [255])) M := by
  refine ⟨fun W w1 => NoP W w1 p.g p.q p.s.T p.Ds (sv [255]), ⟨fun W hW => ?_, fun W w1 W' hW hM hc => ?_, fun W w1 hM => hM.2.1.chg.mono all_sub⟩⟩
  · have hp := h.chg hW (by simp)
    refine (Do0 T t u r c n x m sp hp.f (hp.ms hK) hrd).mono ?_
    rintro e w1 ⟨a, rfl, z1, z2, rfl⟩
    exact ⟨rfl, z1, z2, rfl⟩
  · have hp := h.chg hW (by simp)
    obtain ⟨z1, z2, _⟩ := hM
    have hr := hp.sfar z2.chg hc
    refine (href W' hr).mono ?_
    rintro e w2 ⟨rfl, c2⟩
    exact ⟨rfl, c2.mono (by simp), _, hp.full z1 z2 hc (hr.chg c2 (by simp)) (RStp.of0 c2) hp.rok rfl rfl hp.sim hp.inv (by omega) (hp.qs.mono (by omega))⟩
theorem Pr.At.doAll (h : p.At (QSim K) w) (hK : K ≤ 900000000000) (b : UInt8) (l : List UInt8) (hb : b.toNat = 1) (h8 : l.length = 8) (hlen : p.s.ms.length ≤ 5000000000000) : ∃ a M, Both (QSim (K + 1)) w p 25 46 [sv (b :: l)] (.returned (sv a)) M := by
  have hrd0 := fun W => read_cons b l W (by omega)
  have hrdc : rd b l = rdAll l := by unfold rd; rw [if_pos ⟨hb, h8⟩]
  rw [hrdc] at hrd0
  have href := fun W (hr : RefAt W p.y p.s) => do_all p.y p.s b l W hr h.rok hb h8 hlen
  have b1 := nb2 (l := l.take 2) (by rw [List.length_take]; omega)
  have b2 := nb2 (l := (l.drop 2).take 2) (by rw [List.length_take]; omega)
  have b3 := nb2 (l := (l.drop 4).take 2) (by rw [List.length_take]; omega)
  have b4 := nb2 (l := (l.drop 6).take 2) (by rw [List.length_take]; omega)
  unfold rdAll at hrd0
  generalize nb (l.take 2) = t at *
  generalize nb ((l.drop 2).take 2) = u at *
  generalize nb ((l.drop 4).take 2) = r at *
  generalize nb ((l.drop 6).take 2) = c at *
  have ht : U16 t := ⟨by omega, by omega⟩
  have hu : U16 u := ⟨by omega, by omega⟩
  have hr : U16 r := ⟨by omega, by omega⟩
  by_cases hc : 1 ≤ c ∧ c ≤ 1000
  · rw [if_pos hc] at hrd0
    obtain ⟨i, hi⟩ : ∃ i : Nat, t % (p.g.n : Int) = (i : Int) := ⟨(t % (p.g.n : Int)).toNat, by have := Int.emod_nonneg t (show (p.g.n : Int) ≠ 0 by have := h.ok.n1; omega); omega⟩
    have hsa := h.sim.allow h.rok.c h.rok.ov h.rok.T.1 ht hu hr (by rw [← h.n]; exact hi) c
    rw [← h.pl, ← h.sl] at hsa
    obtain ⟨hrep, hsim⟩ := hsa
    refine ⟨p.s.ans1 c t u r, fun W w1 => AllP W w1 p.g p.q p.s.T p.Ds i c t u r (sv (p.s.ans1 c t u r)), ⟨fun W hW => ?_, fun W w1 W' hW hM hch => ?_, fun W w1 hM => hM.2.1.chg.mono all_sub⟩⟩
    · have hp := h.chg hW (by simp)
      refine (Do1 (sv (b :: l)) c t u r 0 0 0 0 i hp.f (hp.ms hK) hrd0 hi hc.1 hc.2 (wf16 ht) (wf16 hu) (wf16 hr)).mono ?_
      rintro e w1 ⟨a, rfl, z1, z2, rfl⟩
      have ha : sv (bl [(allowD p.g.p p.g.sl (p.Ds i) p.s.T c t u r).1.1, (allowD p.g.p p.g.sl (p.Ds i) p.s.T c t u r).1.2.1] ++ be (allowD p.g.p p.g.sl (p.Ds i) p.s.T c t u r).1.2.2 8) = sv (p.s.ans1 c t u r) := by
        rw [hrep, Rf.ans1_ok p.s hc]
      exact ⟨by rw [ha], z1, z2, by rw [ha]⟩
    · have hp := h.chg hW (by simp)
      obtain ⟨z1, z2, _⟩ := hM
      refine (href W' (hp.sfar z2.chg hch)).mono ?_
      rintro e w2 ⟨rfl, e', h5⟩
      obtain ⟨_, v, h6, h7⟩ := h5.2 hc.1 hc.2
      refine ⟨rfl, h7.chg.mono (fun j hj => List.mem_append_right _ hj), _, hp.full (s' := p.s.marked v (p.s.ms' c t u r)) z1 z2 hch h6 h7 (hp.rok.allow hc.1 ht hu hr v) rfl rfl hsim (fun j => ?_) ?_ ((qp_sim (K + 1)).marked _ _ (hp.qs.mono (by omega)))⟩
      · show Inv _ (if j = i then _ else _)
        split
        · exact (hp.inv i).allow hp.ok.good hp.rok.T.1 hp.rok.T.2 hc.1 hp.ok.shi
        · exact hp.inv j
      · show (p.s.ms' c t u r).length ≤ _
        unfold Rf.ms'
        split
        · exact msTo_len _ _ _ _ _ 3
        · omega
  · rw [if_neg hc] at hrd0
    refine ⟨[255], ?_⟩
    refine h.doNo hK _ 0 0 0 0 0 0 0 0 hrd0 (fun W hr => (href W hr).mono ?_)
    rintro e w2 ⟨rfl, e', h5⟩
    have ha : p.s.ans1 c t u r = [255] := Rf.ans1_bad p.s hc
    exact ⟨by rw [ha], (h5.1 (by omega)).2⟩
theorem Pr.At.doAdv (h : p.At (QSim K) w) (hK : K ≤ 900000000000) (b : UInt8) (l : List UInt8) (hb : b.toNat = 4) (h8 : l.length = 8) : ∃ a M, Both (QSim (K + 1)) w p 25 46 [sv (b :: l)] (.returned (sv a)) M := by
  have hrd0 := fun W => read_cons b l W (by omega)
  have hrdc : rd b l = rdAdv l := by unfold rd; rw [if_neg (by omega), if_neg (by omega), if_neg (by omega), if_pos ⟨hb, h8⟩]
  rw [hrdc] at hrd0
  unfold rdAdv at hrd0
  have hn0 := (nb_bd l).1
  by_cases hc : nb l ≤ 9223372036854775807
  · rw [if_pos hc] at hrd0
    have href := fun W (hr : RefAt W p.y p.s) => do_adv p.y p.s b l W hr h.rok.T hb h8 hc
    generalize nb l = n at *
    refine ⟨bl [4] ++ be (p.s.adv n).T 8, fun W w1 => AdvP W w1 p.g p.q p.s.T p.Ds n (sv (bl [4] ++ be (p.s.adv n).T 8)), ⟨fun W hW => ?_, fun W w1 W' hW hM hch => ?_, fun W w1 hM => hM.2.1.chg.mono all_sub⟩⟩
    · have hp := h.chg hW (by simp)
      refine (Do4 (sv (b :: l)) n 0 0 0 0 0 0 0 hp.f (hp.ms hK) hrd0 hn0 hc).mono ?_
      rintro e w1 ⟨a, rfl, z1, z2, rfl⟩
      exact ⟨rfl, z1, z2, rfl⟩
    · have hp := h.chg hW (by simp)
      obtain ⟨z1, z2, _⟩ := hM
      have hT := h.rok.T
      have hle : p.s.T ≤ (p.s.adv n).T := by show _ ≤ min _ _; omega
      refine (href W' (hp.sfar z2.chg hch)).mono ?_
      rintro e w2 ⟨rfl, h6, h7⟩
      exact ⟨rfl, h7.mono (by simp [Pr.fp, Rf.fp]), _, hp.full (s' := p.s.adv n) z1 z2 hch h6 ⟨h7.mono (by simp [Rf.fp]), fun b hb => Or.inl hb⟩ (hp.rok.adv hn0) rfl rfl (hp.sim.mono hle) (fun i => (hp.inv i).mono hle) (by show p.s.ms.length ≤ _; omega) ((qp_sim (K + 1)).adv (hp.qs.mono (by omega)) hn0)⟩
  · rw [if_neg hc] at hrd0
    exact ⟨[255], h.doNo hK _ 0 0 0 0 0 0 0 0 hrd0 (fun W _ => do_high p.y b l W hb h8 (by omega))⟩
theorem Pr.At.doPol (h : p.At (QSim K) w) (hK : K ≤ 900000000000) (b : UInt8) (l : List UInt8) (hb : b.toNat = 3) (h1 : l.length = 1) : ∃ a M, Both (QSim (K + 1)) w p 25 46 [sv (b :: l)] (.returned (sv a)) M := by
  have hrd0 := fun W => read_cons b l W (by omega)
  have hrdc : rd b l = rdPol l := by unfold rd; rw [if_neg (by omega), if_neg (by omega), if_pos ⟨hb, h1⟩]
  rw [hrdc] at hrd0
  have hq := h.qs
  have hle := hq.le
  have hcq := hq.cq
  have hbn := nb2 (l := l) (by omega)
  have href := fun W (hr : RefAt W p.y p.s) => do_pol p.y p.s b l W hr h.rok.T hb h1 (by omega) h.wf
  unfold rdPol at hrd0
  generalize nb l = n at *
  have hone := fun W (hW : Chg [] w W) => Do3 (sv (b :: l)) n 0 0 0 0 0 0 0 (h.chg hW (by simp)).f ((h.chg hW (by simp)).ms hK) hrd0 hbn.1 (by omega)
  obtain ⟨k, hk⟩ : ∃ k, Cnt p.q.ws n p.s.T k := by
    obtain ⟨e, w', fr, ⟨a, _, s', k, _, _, _, _, _, _, _, hk, _⟩, _⟩ := hone w (Chg.refl _ _) []
    exact ⟨k, hk⟩
  refine ⟨bl [3, (k : Int)] ++ ib (p.q.ws.take k), fun W w1 => PolP W w1 p.g p.q p.s.T p.Ds n (sv (bl [3, (k : Int)] ++ ib (p.q.ws.take k))), ⟨fun W hW => (hone W hW).mono ?_, fun W w1 W' hW hM hch => ?_, fun W w1 hM => ?_⟩⟩
  · rintro e w1 ⟨a, rfl, s', k', z1, z2, z3, z4, z5, z6, z7, z8, rfl⟩
    obtain rfl := hk.uniq z8
    exact ⟨rfl, s', k, z1, z2, z3, z4, z5, z6, z7, z8, rfl⟩
  · have hp := h.chg hW (by simp)
    obtain ⟨q', k', z1, z2, z3, z4, z5, z6, z7, z8, _⟩ := hM
    obtain rfl := hk.uniq z8
    refine (href W' (hp.sfar z2.chg hch)).mono ?_
    rintro e w2 ⟨ws, rfl, k2, s', y1, y2, y3, y4, y5, y6⟩
    have hk2 := hk
    rw [hq.ws] at hk2
    obtain rfl := hk2.uniq y3
    refine ⟨by rw [y2, y1, hq.ws], y6.chg.mono sfp_sub, _, hp.full (s' := s') (by rw [y4.T]; exact z1) z2 hch y5 y6 ?_ y4.c y4.os (by rw [y4.c, y4.T, y4.ms]; exact hp.sim) (by rw [y4.T]; exact hp.inv) (by rw [y4.ms]; omega) ((hq.pol z3 z4 z5 z6 z7 y4).mono (by omega))⟩
    exact ⟨by rw [y4.c, y4.os]; exact hp.rok.c, by rw [y4.T]; exact hp.rok.T, by rw [y4.ms]; exact hp.rok.ms, by rw [y4.ms, y4.T]; exact hp.rok.le, by rw [y4.os]; exact hp.rok.ov⟩
  · obtain ⟨q', k', z1, z2, _⟩ := hM
    exact z2.chg.mono all_sub
end
end Go.Proofs.YtbdnhllhdjepcaaGreat
