import Derived.Test.YtbdnhllhdjepcaaGreatCLx
import Derived.Test.YtbdnhllhdjepcaaGreatCQr
import Derived.Test.YtbdnhllhdjepcaaGreatCQob
namespace Go.Proofs.YtbdnhllhdjepcaaGreat
set_option linter.unusedVariables false
set_option linter.unusedSimpArgs false
open Go.RowKit Go.Maps

/-! ### the two queues -/
structure QSim (K : Nat) (q : Qs) (s : Rf) : Prop where
  e : q.ev = s.c.ev ∧ q.de = s.c.de ∧ q.qu = s.c.qu
  ce : 1 ≤ s.c.ev ∧ s.c.ev ≤ 4611686018427387904
  cd : 0 ≤ s.c.de ∧ s.c.de ≤ 4611686018427387904
  cq : s.c.qu ≤ 50
  T : 0 ≤ s.T ∧ s.T ≤ 9223372036854775807
  ws : q.ws = isort s.is
  le : (s.is.length : Int) ≤ s.c.qu
  n : q.n ≤ K
  es : q.es.length ≤ K
  ts : s.ts.length ≤ K
  turn : ∀ t, max (markOf q.D (tk t)) s.T = max (tnV s.ts t) s.T
  tw : ∀ e ∈ s.ts, U16 e.1 ∧ 0 ≤ e.2 ∧ e.2 ≤ 18446744073709551615
  ib : ∀ i ∈ s.is, U16 i.t ∧ U32 i.x ∧ 0 ≤ i.d ∧ i.d ≤ 18446744073709551615
theorem QSim.mono {K K' : Nat} {q : Qs} {s : Rf} (h : QSim K q s) (hK : K ≤ K') : QSim K' q s :=
  ⟨h.e, h.ce, h.cd, h.cq, h.T, h.ws, h.le, Nat.le_trans h.n hK, Nat.le_trans h.es hK, Nat.le_trans h.ts hK, h.turn, h.tw, h.ib⟩
theorem qp_sim (K : Nat) : QP (QSim K) where
  adv := fun {q s n} h hn => by
    have hT := h.T
    have e : (s.adv n).T = min (s.T + n) 9223372036854775807 := rfl
    exact ⟨h.e, h.ce, h.cd, h.cq, by rw [e]; omega, h.ws, h.le, h.n, h.es, h.ts, fun t => by have := h.turn t; show max _ (s.adv n).T = max (tnV s.ts t) (s.adv n).T; rw [e]; omega, h.tw, h.ib⟩
  marked := fun v ms h => ⟨h.e, h.ce, h.cd, h.cq, h.T, h.ws, h.le, h.n, h.es, h.ts, h.turn, h.tw, h.ib⟩
  new := fun {w w' g q c os} v hG hc => by
    refine ⟨hG.e, hc.ev, hc.de, hc.qu.2, ⟨by show (0 : Int) ≤ 0; omega, by show (0 : Int) ≤ _; omega⟩, by rw [hG.ws]; rfl, by show ((0 : Nat) : Int) ≤ c.qu; have := hc.qu; omega, by rw [hG.n0]; omega, by rw [hG.es]; simp, by show 0 ≤ K; omega, fun t => ?_, by simp [Rf.new], by simp [Rf.new]⟩
    rw [hG.D]
    show max (markOf (.map []) (tk t)) 0 = max (tnV [] t) 0
    have : markOf (.map []) (tk t) = 0 := by first | rfl | (simp [markOf, DataW.atKey, num, lu]; done)
    rw [this]
    rfl
theorem QSim.sub {K : Nat} {q q' : Qs} {s : Rf} {t x : Int} {e : Ending} (h : QSim K q s) (ht : U16 t) (hx : U32 x) (hs : Sub q q' t x s.T e) (hm : SameQ q q') (hn : q'.n ≤ q.n + 1) (he : q'.es.length ≤ q.es.length + 1) :
    (s.c.de < s.due t - s.T ∧ e = .returned (.tuple #[.int .i64 4, .int .u64 0]) ∧ QSim (K + 1) q' s) ∨
    (s.due t - s.T ≤ s.c.de ∧ s.c.qu ≤ s.is.length ∧ e = .returned (.tuple #[.int .i64 5, .int .u64 0]) ∧ QSim (K + 1) q' s) ∨
    (s.due t - s.T ≤ s.c.de ∧ (s.is.length : Int) < s.c.qu ∧ e = .returned (.tuple #[.int .i64 3, .int .u64 (s.due t)]) ∧ ∀ s', SubS s s' t x → QSim (K + 1) q' s') := by
  have hd : max (markOf q.D (tk t)) s.T = s.due t := h.turn t
  have hl : q.ws.length = s.is.length := by rw [h.ws, isort_len]
  have hk1 := h.n
  have hk2 := h.es
  have hk3 := h.ts
  have hT := h.T
  have hce := h.ce
  have same : q'.ws = q.ws → Keeps s.T q.D q'.D → QSim (K + 1) q' s := fun h1 h2 =>
    ⟨by rw [hm.ev, hm.de, hm.qu]; exact h.e, h.ce, h.cd, h.cq, h.T, h1.trans h.ws, h.le, by omega, by omega, by omega, fun t' => (h2 t').trans (h.turn t'), h.tw, h.ib⟩
  unfold Sub at hs
  rw [hd, h.e.1, h.e.2.1, h.e.2.2, hl] at hs
  rcases hs with ⟨h1, h2, h3, h4⟩ | ⟨h1, h2, h3, h4, h5⟩ | ⟨h1, h2, h3, h4, h5⟩
  · exact Or.inl ⟨h1, h2, same h3 h4⟩
  · exact Or.inr (Or.inl ⟨h1, h2, h3, same h4 h5⟩)
  · refine Or.inr (Or.inr ⟨h1, h2, h3, fun s' hs' => ?_⟩)
    have hcd := h.cd
    have hdu : s.T ≤ s.due t := by unfold Rf.due; omega
    have hlen := hs'.len
    refine ⟨by rw [hm.ev, hm.de, hm.qu, hs'.c]; exact h.e, by rw [hs'.c]; exact h.ce, by rw [hs'.c]; exact h.cd, by rw [hs'.c]; exact h.cq, by rw [hs'.T]; exact h.T, ?_, ?_, by omega, by omega, by omega, fun t' => ?_, fun e he => ?_, fun i hi => ?_⟩
    · rw [h4, hs'.is, isort_snoc, h.ws]
    · rw [hs'.is, hs'.c, List.length_append]; simp; omega
    · rw [hs'.T, h5 t', hs'.tn t']
      split
      · rfl
      · exact h.turn t'
    · rcases hs'.tw e he with he | rfl
      · exact h.tw e he
      · exact ⟨ht, by show 0 ≤ s.due t + s.c.ev; omega, by show s.due t + s.c.ev ≤ _; omega⟩
    · rw [hs'.is] at hi
      rcases List.mem_append.1 hi with hi | hi
      · exact h.ib i hi
      · simp at hi
        subst hi
        exact ⟨ht, hx, by show 0 ≤ s.due t; omega, by show s.due t ≤ _; omega⟩
theorem QSim.due {K : Nat} {q : Qs} {s : Rf} (h : QSim K q s) (t : Int) : s.T ≤ s.due t ∧ s.due t ≤ 18446744073709551615 := by
  have hT := h.T
  unfold Rf.due
  have hb : tnV s.ts t ≤ 18446744073709551615 := by
    rcases tnV_of s.ts t with ⟨_, h1⟩ | ⟨i, hi, _, _, h1, _⟩
    · omega
    · have := h.tw _ (List.getElem_mem hi); omega
  omega

/-! ### items told -/
theorem QSim.pol {K : Nat} {q q' : Qs} {s s' : Rf} {k : Nat} (h : QSim K q s) (hm : SameQ q q') (hn : q'.n = q.n) (hD : q'.D = q.D) (he : q'.es = q.es) (hw : q'.ws = q.ws.drop k) (hs : PolS s s' k) : QSim K q' s' := by
  have hl : s'.is.length ≤ s.is.length := by
    rw [← isort_len s'.is, hs.is, List.length_drop, isort_len]; omega
  have hle := h.le
  exact ⟨by rw [hm.ev, hm.de, hm.qu, hs.c]; exact h.e, by rw [hs.c]; exact h.ce, by rw [hs.c]; exact h.cd, by rw [hs.c]; exact h.cq, by rw [hs.T]; exact h.T, by rw [hw, h.ws, hs.is], by rw [hs.c]; omega, by rw [hn]; exact h.n, by rw [he]; exact h.es, by rw [hs.ts]; exact h.ts, fun t => by rw [hD, hs.T, hs.ts]; exact h.turn t, fun e he => by rw [hs.ts] at he; exact h.tw e he, fun i hi => h.ib i (hs.sub i hi)⟩
/-- a pair's queues have gone a step -/
theorem Pr.At.queue {Q Q' : Qs → Rf → Prop} {W w1 W' w2 : World} {p : Pr} {q' : Qs} {s' : Rf} (h : p.At Q W) (hq : QAt w1 q') (hm : SameQ p.q q') (c1 : Chg p.q.fp W w1) (fp : ∀ b ∈ q'.fp, b ∈ p.q.fp ∨ W.heap.size ≤ b) (c2 : Chg [] w1 W') (h2 : RefAt w2 p.y s') (c3 : RStp W' w2 p.y p.s s')
    (hc : s'.c = p.s.c) (hT : s'.T = p.s.T) (ho : s'.os = p.s.os) (hms : s'.ms = p.s.ms) (hQ : Q' q' s') : PStp Q' W w2 p ⟨p.g, q', p.Ds, p.y, s'⟩ := by
  have hf1 : FullAt w1 p.g q' p.s.T p.Ds := h.f.step c1 hq hm
  have hall : ∀ b, b ∈ p.g.all q' → b ∈ p.g.all p.q ∨ (W.heap.size ≤ b ∧ b < w1.heap.size) := fun b hb => by
    have hlt := hf1.lt b hb
    simp only [St.all, List.mem_append] at hb ⊢
    rcases hb with hb | hb
    · exact Or.inl (Or.inl hb)
    · rcases fp b hb with hb | hb
      · exact Or.inl (Or.inr hb)
      · exact Or.inr ⟨hb, hlt⟩
  have hlt := h.lt
  have hs1 := c1.size
  have hs2 := c2.size
  have sep0 : ∀ b ∈ p.g.all q', b ∉ p.s.fp p.y := fun b hb hb' => by
    rcases hall b hb with hx | hx
    · exact h.sep b hx hb'
    · have := hlt b (List.mem_append_right _ hb'); omega
  refine ⟨⟨?_, h.ok, h2, ⟨by rw [show (Pr.s ⟨p.g, q', p.Ds, p.y, s'⟩) = s' from rfl, hc, ho]; exact h.rok.c, by show 0 ≤ s'.T ∧ _; rw [hT]; exact h.rok.T, by show ∀ m ∈ s'.ms, _; rw [hms]; exact h.rok.ms, by show ∀ m ∈ s'.ms, m.m ≤ s'.T + _; rw [hms, hT]; exact h.rok.le, by show ∀ o ∈ s'.os, _; rw [ho]; exact h.rok.ov⟩, by show Sim s'.c.sh s'.T p.Ds s'.ms; rw [hc, hT, hms]; exact h.sim, by show p.g.p = plnTo s'.c s'.os s'.os.length; rw [hc, ho]; exact h.pl, by show p.g.sl = s'.c.sl; rw [hc]; exact h.sl, by show _ = s'.c.sh; rw [hc]; exact h.n, by show ∀ i, Inv s'.T (p.Ds i); rw [hT]; exact h.inv, fun b hb hb' => ?_, hQ⟩, ?_, fun b hb => ?_, rfl, rfl, by show s'.ms.length ≤ _; rw [hms]; omega⟩
  · show FullAt w2 p.g q' s'.T p.Ds
    rw [hT]
    exact (hf1.chg c2 (by simp)).chg c3.chg (fun b hb => sep0 b hb)
  · rcases c3.new b hb' with hx | hx
    · exact sep0 b hb hx
    · have := hf1.lt b hb; omega
  · refine ((c1.mono (m := p.fp) (fun b hb => ?_)).trans c2 (by simp)).trans c3.chg (fun j hj => Or.inl (List.mem_append_right _ hj))
    simp only [Pr.fp, St.all, List.mem_append]
    exact Or.inl (Or.inr hb)
  · rcases List.mem_append.1 hb with hb | hb
    · rcases hall b hb with hx | hx
      · exact Or.inl (List.mem_append_left _ hx)
      · exact Or.inr hx.1
    · rcases c3.new b hb with hx | hx
      · exact Or.inl (List.mem_append_right _ hx)
      · exact Or.inr (by omega)
theorem WAt.imp {Q Q' : Qs → Rf → Prop} {w : World} {lo wb : Nat} {mv x1 x2 x3 x4 x5 : Value} {ps : List Pr} {N : Nat} (h : WAt Q w lo wb mv x1 x2 x3 x4 x5 ps N) (hQ : ∀ q s, Q q s → Q' q s) : WAt Q' w lo wb mv x1 x2 x3 x4 x5 ps N :=
  ⟨h.blk, h.row, fun p hp => have z := h.each p hp; ⟨z.f, z.ok, z.ref, z.rok, z.sim, z.pl, z.sl, z.n, z.inv, z.sep, hQ _ _ z.qs⟩, h.few, h.apart, h.far, h.lo⟩
end Go.Proofs.YtbdnhllhdjepcaaGreat
namespace Go.Proofs.YtbdnhllhdjepcaaGreat
set_option linter.unusedVariables false
set_option linter.unusedSimpArgs false
open Go.RowKit Go.Maps

/-! ### a pair takes an item in, and tells items -/
theorem Pr.At.qfar {Q : Qs → Rf → Prop} {W w1 W' : World} {p : Pr} (h : p.At Q W) (c1 : Chg p.q.fp W w1) (c2 : Chg [] w1 W') : RefAt W' p.y p.s :=
  (h.ref.chg c1 (fun b hb hb' => h.sep b (by simp only [St.all, List.mem_append]; exact Or.inr hb') hb)).chg c2 (by simp)
theorem qfp_sub {p : Pr} : ∀ b ∈ p.q.fp, b ∈ p.fp := fun b hb => List.mem_append_left _ (by simp only [St.all, List.mem_append]; exact Or.inr hb)
theorem sfp_sub {p : Pr} : ∀ b ∈ p.s.fp p.y, b ∈ p.fp := fun b hb => List.mem_append_right _ hb
theorem Pr.At.subs {K : Nat} {w : World} {p : Pr} (h : p.At (QSim K) w) (hK : K ≤ 900000000000) {t x : Int} (ht : U16 t) (hx : U32 x) : ∃ st d M, Both (QSim (K + 1)) w p 40 41 [.int .u16 t, .int .u32 x] (.returned (.tuple #[.int .i64 st, .int .u64 d])) M := by
  have hq := h.qs
  have hce := hq.ce
  have hcd := hq.cd
  have hT := hq.T
  have hn := hq.n
  have hes := hq.es
  have hts := hq.ts
  have hle := hq.le
  have hcq := hq.cq
  have hwl : p.q.ws.length = p.s.is.length := by rw [hq.ws, isort_len]
  have one : ∀ W, Chg [] w W → Calls Tryz.prog 40 #[.pointer (some ⟨p.g.mb, 0, none⟩), .int .u16 t, .int .u32 x] W fun e w1 => ∃ q', QAt w1 q' ∧ SameQ p.q q' ∧ Chg p.q.fp W w1 ∧ (∀ b ∈ q'.fp, b ∈ p.q.fp ∨ W.heap.size ≤ b) ∧ q'.n ≤ p.q.n + 1 ∧ q'.es.length ≤ p.q.es.length + 1 ∧ Sub p.q q' t x p.s.T e := fun W hW => by
    have hp := h.chg hW (by simp)
    refine (MSubmit p.g.mb p.g.ab p.g.n p.q t x p.s.T W (by rw [hp.f.qb]; exact hp.f.mtr.meter) hp.f.q (wf16 ht) hT.1 hT.2 (by rw [hq.e.1]; omega) (by rw [hq.e.1]; omega) (by rw [hq.e.2.1]; omega) (by rw [hq.e.2.1]; omega) (by omega) (by omega) (by omega)).mono ?_
    rintro e w1 ⟨_, hq'⟩
    exact hq'
  have two : ∀ W', RefAt W' p.y p.s → Calls Tryz.prog 41 #[.pointer (some ⟨p.y, 0, none⟩), .int .u16 t, .int .u32 x] W' fun e w2 => SubR W' w2 p.y p.s t x e := fun W' hr =>
    submit_ref p.y p.s t x W' hr ht hT hce hcd (by omega) (by omega) hq.tw
  by_cases h1 : p.s.c.de < p.s.due t - p.s.T
  · refine ⟨4, 0, fun W w1 => ∃ q', QAt w1 q' ∧ SameQ p.q q' ∧ Chg p.q.fp W w1 ∧ (∀ b ∈ q'.fp, b ∈ p.q.fp ∨ W.heap.size ≤ b) ∧ QSim (K + 1) q' p.s, ⟨fun W hW => (one W hW).mono ?_, fun W w1 W' hW hM hc => ?_, fun W w1 hM => ?_⟩⟩
    · rintro e w1 ⟨q', z1, z2, z3, z4, z5, z6, z7⟩
      rcases hq.sub ht hx z7 z2 z5 z6 with ⟨_, rfl, hs⟩ | ⟨h2, _⟩ | ⟨h2, _⟩
      · exact ⟨rfl, q', z1, z2, z3, z4, hs⟩
      · omega
      · omega
    · obtain ⟨q', z1, z2, z3, z4, z5⟩ := hM
      have hp := h.chg hW (by simp)
      have hr := hp.qfar z3 hc
      refine (two W' hr).mono ?_
      rintro e w2 ⟨y1, _, _⟩
      obtain ⟨rfl, c2⟩ := y1 h1
      exact ⟨rfl, c2.mono (by simp), _, hp.queue z1 z2 z3 z4 hc (hr.chg c2 (by simp)) (RStp.of0 c2) rfl rfl rfl rfl z5⟩
    · obtain ⟨q', z1, z2, z3, z4, z5⟩ := hM
      exact z3.mono qfp_sub
  by_cases h2 : p.s.c.qu ≤ (p.s.is.length : Int)
  · refine ⟨5, 0, fun W w1 => ∃ q', QAt w1 q' ∧ SameQ p.q q' ∧ Chg p.q.fp W w1 ∧ (∀ b ∈ q'.fp, b ∈ p.q.fp ∨ W.heap.size ≤ b) ∧ QSim (K + 1) q' p.s, ⟨fun W hW => (one W hW).mono ?_, fun W w1 W' hW hM hc => ?_, fun W w1 hM => ?_⟩⟩
    · rintro e w1 ⟨q', z1, z2, z3, z4, z5, z6, z7⟩
      rcases hq.sub ht hx z7 z2 z5 z6 with ⟨h3, _⟩ | ⟨_, _, rfl, hs⟩ | ⟨_, h3, _⟩
      · omega
      · exact ⟨rfl, q', z1, z2, z3, z4, hs⟩
      · omega
    · obtain ⟨q', z1, z2, z3, z4, z5⟩ := hM
      have hp := h.chg hW (by simp)
      have hr := hp.qfar z3 hc
      refine (two W' hr).mono ?_
      rintro e w2 ⟨_, y1, _⟩
      obtain ⟨rfl, c2⟩ := y1 (by omega) h2
      exact ⟨rfl, c2.mono (by simp), _, hp.queue z1 z2 z3 z4 hc (hr.chg c2 (by simp)) (RStp.of0 c2) rfl rfl rfl rfl z5⟩
    · obtain ⟨q', z1, z2, z3, z4, z5⟩ := hM
      exact z3.mono qfp_sub
  · refine ⟨3, p.s.due t, fun W w1 => ∃ q', QAt w1 q' ∧ SameQ p.q q' ∧ Chg p.q.fp W w1 ∧ (∀ b ∈ q'.fp, b ∈ p.q.fp ∨ W.heap.size ≤ b) ∧ ∀ s', SubS p.s s' t x → QSim (K + 1) q' s', ⟨fun W hW => (one W hW).mono ?_, fun W w1 W' hW hM hc => ?_, fun W w1 hM => ?_⟩⟩
    · rintro e w1 ⟨q', z1, z2, z3, z4, z5, z6, z7⟩
      rcases hq.sub ht hx z7 z2 z5 z6 with ⟨h3, _⟩ | ⟨_, h3, _⟩ | ⟨_, _, rfl, hs⟩
      · omega
      · omega
      · exact ⟨rfl, q', z1, z2, z3, z4, hs⟩
    · obtain ⟨q', z1, z2, z3, z4, z5⟩ := hM
      have hp := h.chg hW (by simp)
      have hr := hp.qfar z3 hc
      refine (two W' hr).mono ?_
      rintro e w2 ⟨_, _, y1⟩
      obtain ⟨rfl, s', y2, y3, y4⟩ := y1 (by omega) (by omega)
      exact ⟨rfl, y4.chg.mono sfp_sub, _, hp.queue z1 z2 z3 z4 hc y3 y4 y2.c y2.T y2.os y2.ms (z5 s' y2)⟩
    · obtain ⟨q', z1, z2, z3, z4, z5⟩ := hM
      exact z3.mono qfp_sub
theorem Cnt.uniq {ws : List It} {most now : Int} {k k' : Nat} (h : Cnt ws most now k) (h' : Cnt ws most now k') : k = k' := by
  have aux : ∀ {a b : Nat}, Cnt ws most now a → Cnt ws most now b → ¬ a < b := fun {a b} ha hb hlt => by
    have h1 := hb.le
    have h2 := hb.lim
    rcases ha.stop with h3 | h3 | ⟨hk, h3⟩
    · omega
    · omega
    · have := hb.due a hk hlt
      omega
  have h1 := aux h h'
  have h2 := aux h' h
  omega
theorem Pr.At.poll1 {K : Nat} {w : World} {p : Pr} (h : p.At (QSim K) w) {most : Int} (W : World) (hW : Chg [] w W) : Calls Tryz.prog 42 #[.pointer (some ⟨p.g.mb, 0, none⟩), .int .i64 most] W fun e w1 => ∃ k bs q', e = .returned (.slice bs k k) ∧ Cnt p.q.ws most p.s.T k ∧ Pol W w1 p.q q' k (.slice bs k k) := by
  have hp := h.chg hW (by simp)
  have hq := h.qs
  have hle := hq.le
  have hcq := hq.cq
  have hwl : p.q.ws.length = p.s.is.length := by rw [hq.ws, isort_len]
  refine (MPoll p.g.mb p.g.ab p.g.n p.q most p.s.T W (by rw [hp.f.qb]; exact hp.f.mtr.meter) hp.f.q (by omega)).mono ?_
  rintro e w1 ⟨_, k, q', v, z1, rfl, z2⟩
  obtain ⟨bs, hv⟩ := z2.cap
  subst hv
  exact ⟨k, bs, q', rfl, z1, z2⟩
/-- behind both: the lists are the same, and the first is nobody's -/
structure PolB (K : Nat) (W w1 w2 : World) (p p' : Pr) (k : Nat) (v v2 : Value) (l : List It) : Prop where
  len : l.length = k
  few : k ≤ 50
  r1 : Rw w2 123 3 v k (icells l)
  r2 : Rw w2 123 3 v2 k (icells l)
  stp : PStp (QSim K) W w2 p p'
  new : ∀ b ∈ own v, W.heap.size ≤ b ∧ b ∉ p'.fp
  chg : Chg p.fp w1 w2
theorem Pr.At.poll2 {K : Nat} {w : World} {p : Pr} (h : p.At (QSim K) w) {most : Int} (hm : I6 most) {W w1 W' : World} (hW : Chg [] w W) {k : Nat} {bs : Option Addr} {q' : Qs} (hc : Cnt p.q.ws most p.s.T k) (hp : Pol W w1 p.q q' k (.slice bs k k)) (h1 : Chg [] w1 W') :
    Calls Tryz.prog 43 #[.pointer (some ⟨p.y, 0, none⟩), .int .i64 most] W' fun e w2 => ∃ la cp p' l, e = .returned (.slice la k cp) ∧ PolB K W w1 w2 p p' k (.slice bs k k) (.slice la k cp) l := by
  have hP := h.chg hW (by simp)
  have hr := hP.qfar hp.chg h1
  have hq := h.qs
  have hle := hq.le
  have hcq := hq.cq
  have hwl : p.q.ws.length = p.s.is.length := by rw [hq.ws, isort_len]
  refine (poll_ref p.y p.s most W' hr hq.T (by omega) hm).mono ?_
  rintro e w2 ⟨k', s', v2, hR⟩
  have hc2 := hR.cnt
  rw [← hq.ws] at hc2
  obtain rfl := hc.uniq hc2
  obtain ⟨la, cp, hv2⟩ := hR.told.val
  subst hv2
  obtain rfl := hR.e
  have hst := hP.queue hp.at_ hp.same hp.chg hp.fp h1 hR.ref hR.stp hR.pol.c hR.pol.T hR.pol.os hR.pol.ms (hq.pol hp.same hp.n hp.D hp.es hp.ws hR.pol)
  have hlt := hP.lt
  have hs1 := hp.chg.size
  have hs2 := h1.size
  have hnew : ∀ b ∈ own (.slice bs k k), W.heap.size ≤ b := fun b hb => (hp.new b hb).1
  have hkl : (p.q.ws.take k).length = k := by rw [List.length_take]; have := hc.le; omega
  have hold : ∀ b ∈ own (.slice bs k k), b < w1.heap.size := fun b hb => hp.told.lt (mem_own.1 hb)
  refine ⟨la, cp, _, p.q.ws.take k, rfl, ⟨hkl, by have := hc.le; omega, (hp.told.chg h1 (by simp)).chg hR.stp.chg (fun b hb hb' => by have := hnew b (mem_own.2 hb); have := hlt b (sfp_sub b hb'); omega), by rw [hq.ws]; exact hR.told, hst, fun b hb => ⟨hnew b hb, fun hb' => ?_⟩, (h1.mono (by simp)).trans hR.stp.chg (fun j hj => Or.inl (sfp_sub j hj))⟩⟩
  have hb1 := hold b hb
  have hb2 := hnew b hb
  rcases List.mem_append.1 hb' with hb' | hb'
  · simp only [St.all, List.mem_append] at hb'
    rcases hb' with hb' | hb'
    · have := hlt b (List.mem_append_left _ (by simp only [St.all, List.mem_append]; exact Or.inl hb')); omega
    · exact (hp.new b hb).2 hb'
  · rcases hR.stp.new b hb' with hb' | hb'
    · have := hlt b (sfp_sub b hb'); omega
    · omega
end Go.Proofs.YtbdnhllhdjepcaaGreat
