import Derived.Test.YtbdnhllhdjepcaaGreatCLp
namespace Go.Proofs.YtbdnhllhdjepcaaGreat
set_option linter.unusedVariables false
set_option linter.unusedSimpArgs false
open Go.RowKit Go.Maps

/-! ### a meter and the document's, side by side -/
structure Pr where
  g : St
  q : Qs
  Ds : Nat → DW
  y : Nat
  s : Rf
def Pr.fp (p : Pr) : List Nat := p.g.all p.q ++ p.s.fp p.y
/-- what is said of the queues stays so when time goes on, and when marks are set; and it is so at first -/
structure QP (Q : Qs → Rf → Prop) : Prop where
  adv : ∀ {q : Qs} {s : Rf} {n : Int}, Q q s → 0 ≤ n → Q q (s.adv n)
  marked : ∀ {q : Qs} {s : Rf} (v : Value) (ms : List Mk), Q q s → Q q (s.marked v ms)
  new : ∀ {w w' : World} {g : St} {q : Qs} {c : Cf} {os : List Ov} (v : Value), NewG w w' g q c os → CfOk c os → Q q (Rf.new c v os)
structure Pr.At (Q : Qs → Rf → Prop) (w : World) (p : Pr) : Prop where
  f : FullAt w p.g p.q p.s.T p.Ds
  ok : p.g.Ok
  ref : RefAt w p.y p.s
  rok : p.s.Ok
  sim : Sim p.s.c.sh p.s.T p.Ds p.s.ms
  pl : p.g.p = plnTo p.s.c p.s.os p.s.os.length
  sl : p.g.sl = p.s.c.sl
  n : (p.g.n : Int) = p.s.c.sh
  inv : ∀ i, Inv p.s.T (p.Ds i)
  sep : ∀ b ∈ p.g.all p.q, b ∉ p.s.fp p.y
  qs : Q p.q p.s
theorem FullAt.lt {w : World} {g : St} {s : Qs} {now : Int} {Ds : Nat → DW} (h : FullAt w g s now Ds) : ∀ b ∈ g.all s, b < w.heap.size := fun b hb => by
  simp only [St.all, List.mem_append, List.mem_cons, List.not_mem_nil, or_false, List.mem_map] at hb
  rcases hb with (((rfl | rfl | rfl | rfl) | ⟨x, hx, rfl⟩) | ⟨x, hx, rfl⟩) | hb
  · exact lt_of_block h.mtr.meter
  · exact lt_of_block h.mtr.arr
  · exact lt_of_block h.mtr.plan.1
  · exact h.mtr.plan.2.elim fun _ hm => hm.lt
  · obtain ⟨i, hi⟩ := List.getElem?_of_mem hx; exact lt_of_block (h.mtr.shards i x hi).1
  · obtain ⟨i, hi⟩ := List.getElem?_of_mem hx; exact (h.mtr.shards i x hi).2.lt
  · exact h.q.lt b hb
section
variable {Q : Qs → Rf → Prop}
theorem Pr.At.lt {w : World} {p : Pr} (h : p.At Q w) : ∀ b ∈ p.fp, b < w.heap.size := fun b hb => by
  rcases List.mem_append.1 hb with hb | hb
  · exact h.f.lt b hb
  · exact h.ref.lt b hb
theorem Pr.At.chg {l : List Nat} {w w' : World} {p : Pr} (h : p.At Q w) (hc : Chg l w w') (hn : ∀ b ∈ p.fp, b ∉ l) : p.At Q w' :=
  ⟨h.f.chg hc (fun b hb => hn b (List.mem_append_left _ hb)), h.ok, h.ref.chg hc (fun b hb => hn b (List.mem_append_right _ hb)), h.rok, h.sim, h.pl, h.sl, h.n, h.inv, h.sep, h.qs⟩
/-- a pair's step -/
structure PStp (Q : Qs → Rf → Prop) (w w' : World) (p p' : Pr) : Prop where
  at_ : p'.At Q w'
  chg : Chg p.fp w w'
  new : ∀ b ∈ p'.fp, b ∈ p.fp ∨ w.heap.size ≤ b
  mb : p'.g.mb = p.g.mb
  y : p'.y = p.y
  len : p'.s.ms.length ≤ p.s.ms.length + 3
theorem PStp.none {w w' : World} {p : Pr} (h : p.At Q w) (hc : Chg [] w w') : PStp Q w w' p p := ⟨h.chg hc (by simp), hc.mono (by simp), fun b hb => Or.inl hb, rfl, rfl, by omega⟩
theorem PStp.head {w w1 w2 : World} {p p' : Pr} (hc : Chg [] w w1) (h : PStp Q w1 w2 p p') : PStp Q w w2 p p' :=
  ⟨h.at_, (hc.mono (by simp)).trans h.chg (fun j hj => Or.inl hj), fun b hb => (h.new b hb).imp id (fun hx => Nat.le_trans hc.size hx), h.mb, h.y, h.len⟩
theorem PStp.tail {w w1 w2 : World} {p p' : Pr} (h : PStp Q w w1 p p') (hc : Chg [] w1 w2) : PStp Q w w2 p p' :=
  ⟨h.at_.chg hc (by simp), h.chg.trans hc (by simp), h.new, h.mb, h.y, h.len⟩
theorem Pr.At.adv {w w1 W w2 : World} {p : Pr} {d : Int} (hQ : QP Q) (h : p.At Q w) (hd : 0 ≤ d) (h1 : MtrAt w1 p.g (min (p.s.T + d) 9223372036854775807) p.Ds) (c1 : Chg [p.g.mb] w w1) (c2 : Chg [] w1 W) (h2 : RefAt w2 p.y (p.s.adv d)) (c3 : Chg [p.y] W w2) :
    PStp Q w w2 p ⟨p.g, p.q, p.Ds, p.y, p.s.adv d⟩ := by
  have hT := h.rok.T
  have hle : p.s.T ≤ (p.s.adv d).T := by show _ ≤ min _ _; omega
  have hy : ∀ b ∈ p.g.all p.q, b ≠ p.y := fun b hb e => h.sep b hb (by rw [e]; simp [Rf.fp])
  have c13 : Chg [p.y] w1 w2 := (c2.mono (by simp)).trans c3 (fun j hj => Or.inl hj)
  have qf := h.f.far
  have hq1 : QAt w1 p.q := h.f.q.chg c1 (fun b hb => by simp only [List.mem_cons, List.not_mem_nil, or_false]; rintro rfl; exact qf.1 hb)
  have hf1 : FullAt w1 p.g p.q (p.s.adv d).T p.Ds := ⟨h1, hq1, h.f.qb, h.f.ob, h.f.sd⟩
  refine ⟨⟨hf1.chg c13 (fun b hb => by simpa using hy b hb), h.ok, h2, h.rok.adv hd, h.sim.mono hle, h.pl, h.sl, h.n, fun i => (h.inv i).mono hle, h.sep, hQ.adv h.qs hd⟩, ?_, fun b hb => Or.inl hb, rfl, rfl, by show p.s.ms.length ≤ _; omega⟩
  refine (c1.mono (m := p.fp) ?_).trans c13 ?_
  · simp [Pr.fp, St.all]
  · simp [Pr.fp, Rf.fp]
theorem Pr.At.half {w w1 W : World} {p : Pr} {b : Nat} (h : p.At Q w) (c1 : Chg [b] w w1) (hb : b ∈ p.g.all p.q) (c2 : Chg [] w1 W) : RefAt W p.y p.s :=
  (h.ref.chg c1 (fun x hx => by simp only [List.mem_cons, List.not_mem_nil, or_false]; rintro rfl; exact h.sep _ hb hx)).chg c2 (by simp)
theorem Pr.At.allow {w w1 W w2 : World} {p : Pr} {cost t u r : Int} {i : Nat} {v : Value} (hQ : QP Q) (h : p.At Q w) (ht : U16 t) (hu : U16 u) (hr : U16 r) (hc : 1 ≤ cost) (hi : t % (p.g.n : Int) = (i : Int))
    (h1 : MtrAt w1 p.g p.s.T (fun j => if j = i then (allowD p.g.p p.g.sl (p.Ds i) p.s.T cost t u r).2 else p.Ds j)) (c1 : ∃ x ∈ p.g.sd, Chg [x.2] w w1) (hinv : Inv p.s.T (allowD p.g.p p.g.sl (p.Ds i) p.s.T cost t u r).2) (c2 : Chg [] w1 W)
    (h2 : RefAt w2 p.y (p.s.marked v (p.s.ms' cost t u r))) (c3 : RStp W w2 p.y p.s (p.s.marked v (p.s.ms' cost t u r))) :
    PStp Q w w2 p ⟨p.g, p.q, fun j => if j = i then (allowD p.g.p p.g.sl (p.Ds i) p.s.T cost t u r).2 else p.Ds j, p.y, p.s.marked v (p.s.ms' cost t u r)⟩ := by
  obtain ⟨x, hx, c1⟩ := c1
  have hxa : x.2 ∈ p.g.all p.q := by simp only [St.all, List.mem_append, List.mem_map]; exact Or.inl (Or.inr ⟨x, hx, rfl⟩)
  obtain ⟨k, hk⟩ := List.getElem?_of_mem hx
  have qf := (h.f.far.2.2.2.2 k x hk).2
  have hq1 : QAt w1 p.q := h.f.q.chg c1 (fun b hb => by simp only [List.mem_cons, List.not_mem_nil, or_false]; rintro rfl; exact qf hb)
  have hf1 : FullAt w1 p.g p.q p.s.T _ := ⟨h1, hq1, h.f.qb, h.f.ob, h.f.sd⟩
  have hsz : ∀ b ∈ p.g.all p.q, b < w.heap.size := h.f.lt
  have hws : w.heap.size ≤ W.heap.size := Nat.le_trans c1.size c2.size
  have hsim := (h.sim.allow h.rok.c h.rok.ov h.rok.T.1 ht hu hr (by rw [← h.n]; exact hi) cost).2
  rw [← h.pl, ← h.sl] at hsim
  refine ⟨⟨(hf1.chg c2 (by simp)).chg c3.chg (fun b hb => h.sep b hb), h.ok, h2, h.rok.allow hc ht hu hr v, hsim, h.pl, h.sl, h.n, fun j => ?_, fun b hb hb' => ?_, hQ.marked _ _ h.qs⟩, ?_, fun b hb => ?_, rfl, rfl, ?_⟩
  · show Inv _ (if j = i then _ else _)
    split
    · exact hinv
    · exact h.inv j
  · rcases c3.new b hb' with hx' | hx'
    · exact h.sep b hb hx'
    · have := hsz b hb; omega
  · refine ((c1.mono (m := p.fp) ?_).trans c2 (by simp)).trans c3.chg (fun j hj => Or.inl (List.mem_append_right _ hj))
    intro j hj
    simp only [List.mem_cons, List.not_mem_nil, or_false] at hj
    subst hj
    exact List.mem_append_left _ hxa
  · rcases List.mem_append.1 hb with hb | hb
    · exact Or.inl (List.mem_append_left _ hb)
    · rcases c3.new b hb with hx' | hx'
      · exact Or.inl (List.mem_append_right _ hx')
      · exact Or.inr (by omega)
  · show (p.s.ms' cost t u r).length ≤ _
    unfold Rf.ms'
    split
    · exact msTo_len _ _ _ _ _ 3
    · omega

/-! ### the law's world -/
def pc (p : Pr) : List Value := [.pointer (some ⟨p.g.mb, 0, none⟩), .pointer (some ⟨p.y, 0, none⟩)]
theorem pc_len (p : Pr) : (pc p).length = 2 := rfl
def pcells (ps : List Pr) : List Value := ps.flatMap pc
theorem pc_at (ps : List Pr) (j : Nat) (hj : j < ps.length) (i : Nat) (hi : i < 2) : (pcells ps)[j * 2 + i]? = (pc ps[j])[i]? := fm_at pc_len ps j hj i hi
theorem pcells_set {ps : List Pr} {k : Nat} {p p' : Pr} (hk : ps[k]? = some p) (hm : p'.g.mb = p.g.mb) (hy : p'.y = p.y) : pcells (ps.set k p') = pcells ps := by
  have hpc : pc p' = pc p := by unfold pc; rw [hm, hy]
  unfold pcells
  induction ps generalizing k with
  | nil => rfl
  | cons a l ih =>
    cases k with
    | zero => simp at hk; subst hk; simp [hpc]
    | succ k => simp at hk; simp [ih hk]
def wfp (wb : Nat) (mv : Value) (ps : List Pr) : List Nat := [wb] ++ own mv ++ ps.flatMap Pr.fp
structure WAt (Q : Qs → Rf → Prop) (w : World) (lo wb : Nat) (mv x1 x2 x3 x4 x5 : Value) (ps : List Pr) (N : Nat) : Prop where
  blk : w.heap[wb]? = some (.cells [mv, x1, x2, x3, x4, x5].toArray 55 (0, 0))
  row : Rw w 109 2 mv ps.length (pcells ps)
  each : ∀ p ∈ ps, p.At Q w
  few : ∀ p ∈ ps, p.s.ms.length ≤ N
  apart : ps.Pairwise (fun p q => ∀ b ∈ p.fp, b ∉ q.fp)
  far : ∀ p ∈ ps, ∀ b ∈ p.fp, b ≠ wb ∧ b ∉ own mv
  lo : ∀ b ∈ wfp wb mv ps, lo ≤ b
structure WStp (w w' : World) (wb : Nat) (mv : Value) (ps : List Pr) (mv' : Value) (ps' : List Pr) : Prop where
  chg : Chg (wfp wb mv ps) w w'
  new : ∀ b ∈ wfp wb mv' ps', b ∈ wfp wb mv ps ∨ w.heap.size ≤ b
theorem mem_wfp {wb b : Nat} {mv : Value} {ps : List Pr} : b ∈ wfp wb mv ps ↔ b = wb ∨ b ∈ own mv ∨ ∃ p ∈ ps, b ∈ p.fp := by
  simp only [wfp, List.mem_append, List.mem_cons, List.not_mem_nil, or_false, List.mem_flatMap, or_assoc]
theorem WAt.lt {w : World} {lo wb : Nat} {mv x1 x2 x3 x4 x5 : Value} {ps : List Pr} {N : Nat} (h : WAt Q w lo wb mv x1 x2 x3 x4 x5 ps N) : ∀ b ∈ wfp wb mv ps, b < w.heap.size := fun b hb => by
  rcases mem_wfp.1 hb with rfl | hb | ⟨p, hp, hb⟩
  · exact lt_of_block h.blk
  · exact h.row.lt (mem_own.1 hb)
  · exact (h.each p hp).lt b hb
theorem WAt.chg {l : List Nat} {w w' : World} {lo wb : Nat} {mv x1 x2 x3 x4 x5 : Value} {ps : List Pr} {N : Nat} (h : WAt Q w lo wb mv x1 x2 x3 x4 x5 ps N) (hc : Chg l w w') (hn : ∀ b ∈ wfp wb mv ps, b ∉ l) : WAt Q w' lo wb mv x1 x2 x3 x4 x5 ps N :=
  ⟨hc.blk h.blk (hn _ (mem_wfp.2 (.inl rfl))), h.row.chg hc (fun b hb => hn b (mem_wfp.2 (.inr (.inl (mem_own.2 hb))))), fun p hp => (h.each p hp).chg hc (fun b hb => hn b (mem_wfp.2 (.inr (.inr ⟨p, hp, hb⟩)))), h.few, h.apart, h.far, h.lo⟩
theorem WAt.wide {w : World} {lo wb : Nat} {mv x1 x2 x3 x4 x5 : Value} {ps : List Pr} {N N' : Nat} (h : WAt Q w lo wb mv x1 x2 x3 x4 x5 ps N) (hN : N ≤ N') : WAt Q w lo wb mv x1 x2 x3 x4 x5 ps N' :=
  ⟨h.blk, h.row, h.each, fun p hp => Nat.le_trans (h.few p hp) hN, h.apart, h.far, h.lo⟩
theorem WStp.none {w w' : World} {wb : Nat} {mv : Value} {ps : List Pr} (hc : Chg [] w w') : WStp w w' wb mv ps mv ps := ⟨hc.mono (by simp), fun b hb => Or.inl hb⟩
/-- one of the pairs has gone a step -/
theorem WAt.upd {w w' : World} {lo wb : Nat} {mv x1 x2 x3 x4 x5 : Value} {ps : List Pr} {N k : Nat} {p p' : Pr} (h : WAt Q w lo wb mv x1 x2 x3 x4 x5 ps N) (hk : ps[k]? = some p) (hs : PStp Q w w' p p') :
    WAt Q w' lo wb mv x1 x2 x3 x4 x5 (ps.set k p') (N + 3) ∧ WStp w w' wb mv ps mv (ps.set k p') := by
  have hpm := List.mem_of_getElem? hk
  have hkl := (List.getElem?_eq_some_iff.1 hk).1
  have hlt := h.lt
  have hfar := h.far p hpm
  have hap : ∀ j q, j ≠ k → ps[j]? = some q → ∀ b ∈ q.fp, b ∉ p.fp := fun j q hj hq b hb hb' => by
    have hjl := (List.getElem?_eq_some_iff.1 hq).1
    have e1 := (List.getElem?_eq_some_iff.1 hq).2
    have e2 := (List.getElem?_eq_some_iff.1 hk).2
    have ha := List.pairwise_iff_getElem.1 h.apart
    rcases Nat.lt_or_gt_of_ne hj with hlt' | hlt'
    · have := ha j k hjl hkl hlt' b (by rw [e1]; exact hb)
      rw [e2] at this
      exact this hb'
    · have := ha k j hkl hjl hlt' b (by rw [e2]; exact hb')
      rw [e1] at this
      exact this hb
  have hmem : ∀ q, q ∈ ps.set k p' → q = p' ∨ ∃ j, j ≠ k ∧ ps[j]? = some q := fun q hq => by
    obtain ⟨j, hj⟩ := List.getElem?_of_mem hq
    by_cases hjk : j = k
    · subst hjk
      rw [List.getElem?_set_self hkl] at hj
      cases hj
      exact Or.inl rfl
    · rw [List.getElem?_set_ne (Ne.symm hjk)] at hj
      exact Or.inr ⟨j, hjk, hj⟩
  have hnew : ∀ b ∈ wfp wb mv (ps.set k p'), b ∈ wfp wb mv ps ∨ w.heap.size ≤ b := fun b hb => by
    rcases mem_wfp.1 hb with rfl | hb | ⟨q, hq, hb2⟩
    · exact Or.inl (mem_wfp.2 (.inl rfl))
    · exact Or.inl (mem_wfp.2 (.inr (.inl hb)))
    · rcases hmem q hq with rfl | ⟨j, _, hj⟩
      · exact (hs.new b hb2).imp (fun hb' => mem_wfp.2 (.inr (.inr ⟨p, hpm, hb'⟩))) id
      · exact Or.inl (mem_wfp.2 (.inr (.inr ⟨q, List.mem_of_getElem? hj, hb2⟩)))
  have hlo := h.lo wb (mem_wfp.2 (.inl rfl))
  refine ⟨⟨hs.chg.blk h.blk (fun hb => (hfar _ hb).1 rfl), ?_, fun q hq => ?_, fun q hq => ?_, ?_, fun q hq b hb => ?_, fun b hb => ?_⟩, ⟨hs.chg.mono (fun b hb => mem_wfp.2 (.inr (.inr ⟨p, hpm, hb⟩))), hnew⟩⟩
  · rw [pcells_set hk hs.mb hs.y, List.length_set]
    exact h.row.chg hs.chg (fun b hb hb' => (hfar b hb').2 (mem_own.2 hb))
  · rcases hmem q hq with rfl | ⟨j, hj, hq⟩
    · exact hs.at_
    · exact (h.each q (List.mem_of_getElem? hq)).chg hs.chg (hap j q hj hq)
  · rcases hmem q hq with rfl | ⟨j, hj, hq⟩
    · have := hs.len; have := h.few p hpm; omega
    · have := h.few q (List.mem_of_getElem? hq); omega
  · rw [List.pairwise_iff_getElem]
    intro i j hi hj hij
    have hps := List.pairwise_iff_getElem.1 h.apart
    have hi' : i < ps.length := by rw [List.length_set] at hi; exact hi
    have hj' : j < ps.length := by rw [List.length_set] at hj; exact hj
    have out : ∀ (j : Nat) (hj : j < ps.length), j ≠ k → ∀ b ∈ p'.fp, b ∉ ps[j].fp := fun j hj hjk b hb hb' => by
      rcases hs.new b hb with hx | hx
      · exact hap j ps[j] hjk (List.getElem?_eq_getElem hj) b hb' hx
      · have := (h.each ps[j] (List.getElem_mem hj)).lt b hb'; omega
    by_cases hik : i = k
    · subst hik
      rw [List.getElem_set_self, List.getElem_set_ne (by omega)]
      exact out j hj' (by omega)
    · rw [List.getElem_set_ne (by omega)]
      by_cases hjk : j = k
      · subst hjk
        rw [List.getElem_set_self]
        exact fun b hb hb' => out i hi' hik b hb' hb
      · rw [List.getElem_set_ne (by omega)]
        exact hps i j hi' hj' hij
  · rcases hmem q hq with rfl | ⟨j, hj, hq⟩
    · rcases hs.new b hb with hx | hx
      · exact hfar b hx
      · exact ⟨fun e => by have := hlt wb (mem_wfp.2 (.inl rfl)); omega, fun hm => by have := hlt b (mem_wfp.2 (.inr (.inl hm))); omega⟩
    · exact h.far q (List.mem_of_getElem? hq) b hb
  · rcases hnew b hb with hx | hx
    · exact h.lo b hx
    · have := hlt wb (mem_wfp.2 (.inl rfl)); omega
/-- a pair more -/
theorem WAt.add {w w7 w8 : World} {lo wb : Nat} {mv x1 x2 x3 x4 x5 v : Value} {ps : List Pr} {N : Nat} {p : Pr} (h : WAt Q w lo wb mv x1 x2 x3 x4 x5 ps N) (hc : Chg [] w w7) (hp : p.At Q w7) (hf : ∀ b ∈ p.fp, w.heap.size ≤ b) (hN : p.s.ms.length ≤ N)
    (hg : w7.grownBy w8 mv.ownBlock) (hr : Rw w8 109 2 v (ps.length + 1) (pcells (ps ++ [p]))) (ho : v.ownBlock = mv.ownBlock ∨ ∃ b, v.ownBlock = some b ∧ w7.heap.size ≤ b) :
    WAt Q (w8.setCell ⟨wb, 0, none⟩ v) lo wb v x1 x2 x3 x4 x5 (ps ++ [p]) N ∧ WStp w (w8.setCell ⟨wb, 0, none⟩ v) wb mv ps v (ps ++ [p]) := by
  have h7 := h.chg hc (by simp)
  have hlt := h.lt
  have hwb := hlt wb (mem_wfp.2 (.inl rfl))
  have c8 : Chg (own mv) w7 w8 := Chg.of_grown hg (fun b hb => mem_own.2 hb)
  have cs : Chg [wb] w8 (w8.setCell ⟨wb, 0, none⟩ v) := (Chg.refl _ _).set _ _ (Or.inl (by simp))
  have cc : Chg (wb :: own mv) w7 (w8.setCell ⟨wb, 0, none⟩ v) := (c8.mono (by simp; exact fun a ha => Or.inr ha)).trans cs (by simp)
  have hwo : wb ∉ own mv := own_ty h7.row h7.blk (by decide)
  have b8 := c8.blk h7.blk hwo
  have hov : ∀ b ∈ own v, b ∈ own mv ∨ w7.heap.size ≤ b := fun b hb => by
    rcases ho with ho | ⟨c, ho, hc'⟩
    · exact Or.inl (mem_own.2 (ho ▸ mem_own.1 hb))
    · have := mem_own.1 hb
      rw [ho] at this
      cases this
      exact Or.inr hc'
  have hs7 := hc.size
  have hpl := hp.lt
  have hnew : ∀ b ∈ wfp wb v (ps ++ [p]), b ∈ wfp wb mv ps ∨ w.heap.size ≤ b := fun b hb => by
    rcases mem_wfp.1 hb with rfl | hb | ⟨q, hq, hb2⟩
    · exact Or.inl (mem_wfp.2 (.inl rfl))
    · exact (hov b hb).imp (fun hx => mem_wfp.2 (.inr (.inl hx))) (fun hx => by omega)
    · rcases List.mem_append.1 hq with hq | hq
      · exact Or.inl (mem_wfp.2 (.inr (.inr ⟨q, hq, hb2⟩)))
      · simp only [List.mem_cons, List.not_mem_nil, or_false] at hq
        subst hq
        exact Or.inr (hf b hb2)
  have hlo := h.lo wb (mem_wfp.2 (.inl rfl))
  refine ⟨⟨blk_set (i := 0) v b8, ?_, fun q hq => ?_, fun q hq => ?_, ?_, fun q hq b hb => ?_, fun b hb => ?_⟩, ⟨(hc.mono (by simp)).trans cc (fun j hj => Or.inl (by simp only [List.mem_cons] at hj; exact mem_wfp.2 (hj.imp id Or.inl))), hnew⟩⟩
  · rw [List.length_append]
    exact hr.chg cs (fun b hb => by simp only [List.mem_cons, List.not_mem_nil, or_false]; rintro rfl; exact own_ty hr b8 (by decide) (mem_own.2 hb))
  · refine Pr.At.chg (w := w7) ?_ cc (fun b hb => ?_)
    · rcases List.mem_append.1 hq with hq | hq
      · exact h7.each q hq
      · simp only [List.mem_cons, List.not_mem_nil, or_false] at hq; subst hq; exact hp
    · simp only [List.mem_cons, not_or]
      rcases List.mem_append.1 hq with hq | hq
      · exact h.far q hq b hb
      · simp only [List.mem_cons, List.not_mem_nil, or_false] at hq
        subst hq
        have := hf b hb
        exact ⟨by omega, fun hm => by have := hlt b (mem_wfp.2 (.inr (.inl hm))); omega⟩
  · rcases List.mem_append.1 hq with hq | hq
    · exact h.few q hq
    · simp only [List.mem_cons, List.not_mem_nil, or_false] at hq; subst hq; exact hN
  · rw [List.pairwise_append]
    refine ⟨h.apart, by simp, fun q hq q' hq' b hb hb' => ?_⟩
    simp only [List.mem_cons, List.not_mem_nil, or_false] at hq'
    subst hq'
    have := hf b hb'
    have := hlt b (mem_wfp.2 (.inr (.inr ⟨q, hq, hb⟩)))
    omega
  · have hne : b < w7.heap.size := by
      rcases List.mem_append.1 hq with hq | hq
      · exact (h7.each q hq).lt b hb
      · simp only [List.mem_cons, List.not_mem_nil, or_false] at hq; subst hq; exact hpl b hb
    rcases List.mem_append.1 hq with hq | hq
    · exact ⟨(h.far q hq b hb).1, fun hm => by
        rcases hov b hm with hx | hx
        · exact (h.far q hq b hb).2 hx
        · omega⟩
    · simp only [List.mem_cons, List.not_mem_nil, or_false] at hq
      subst hq
      have := hf b hb
      exact ⟨by omega, fun hm => by
        rcases hov b hm with hx | hx
        · have := hlt b (mem_wfp.2 (.inr (.inl hx))); omega
        · omega⟩
  · rcases hnew b hb with hx | hx
    · exact h.lo b hx
    · omega
end
end Go.Proofs.YtbdnhllhdjepcaaGreat
namespace Go.Proofs.YtbdnhllhdjepcaaGreat
set_option linter.unusedVariables false
set_option linter.unusedSimpArgs false
open Go.RowKit Go.Maps

/-! ### a meter more, and the document's -/
theorem cf_cells {W : World} {b : Nat} {c : Cf} {v : Value} (h : W.heap[b]? = some (.cells (cfc c v).toArray 33 (0, 0))) : W.cell? ⟨b, 0, none⟩ = some (.int .i64 c.c0) ∧ W.cell? ⟨b, 1, none⟩ = some (.int .i64 c.p0) ∧ W.cell? ⟨b, 2, none⟩ = some (.int .i64 c.b0) ∧ W.cell? ⟨b, 3, none⟩ = some (.int .i64 c.c1) ∧ W.cell? ⟨b, 4, none⟩ = some (.int .i64 c.p1) ∧ W.cell? ⟨b, 5, none⟩ = some (.int .i64 c.b1) ∧ W.cell? ⟨b, 6, none⟩ = some (.int .i64 c.c2) ∧ W.cell? ⟨b, 7, none⟩ = some (.int .i64 c.p2) ∧ W.cell? ⟨b, 8, none⟩ = some (.int .i64 c.b2) ∧ W.cell? ⟨b, 9, none⟩ = some v ∧ W.cell? ⟨b, 10, none⟩ = some (.int .i64 c.sh) ∧ W.cell? ⟨b, 11, none⟩ = some (.int .i64 c.sl) ∧ W.cell? ⟨b, 12, none⟩ = some (.int .i64 c.ev) ∧ W.cell? ⟨b, 13, none⟩ = some (.int .i64 c.de) ∧ W.cell? ⟨b, 14, none⟩ = some (.int .i64 c.qu) :=
  ⟨blk_cell (i := 0) h rfl, blk_cell (i := 1) h rfl, blk_cell (i := 2) h rfl, blk_cell (i := 3) h rfl, blk_cell (i := 4) h rfl, blk_cell (i := 5) h rfl, blk_cell (i := 6) h rfl, blk_cell (i := 7) h rfl, blk_cell (i := 8) h rfl, blk_cell (i := 9) h rfl, blk_cell (i := 10) h rfl, blk_cell (i := 11) h rfl, blk_cell (i := 12) h rfl, blk_cell (i := 13) h rfl, blk_cell (i := 14) h rfl⟩
theorem Tryz.info109 : (Tryz.prog.info? 109).map (fun i => (i.zero, i.size, i.bytes)) = some (some (.agg #[.pointer none, .pointer none]), 2, 16) := by kernel_rfl
theorem ek109 : ∃ i0, EK 48 109 i0 (.agg #[.pointer none, .pointer none]) 2 16 := by
  obtain ⟨i0, hi, hz⟩ := Option.map_eq_some_iff.1 Tryz.info109
  simp only [Prod.mk.injEq] at hz
  exact ⟨i0, Tryz.underlying48, hi, hz.1, hz.2.1, hz.2.2, rfl, by decide, by decide, fun n => zero_one (by decide) (by decide) n⟩
/-- what was given, as a list of overrides -/
theorem ovs_given {w : World} {lg lgo capg : Nat} {os : List Ov} (hr : Rw w 158 7 (.slice (some ⟨lg, lgo, none⟩) (os.length + 3) capg) (os.length + 3) (ovcells (os ++ spares))) (hlen : os.length ≤ 3518437208780) : OvsAt w (some ⟨lg, lgo, none⟩) lg lgo os := by
  obtain ⟨la, lb, lof, cap, hv, hl, _, hlt, hcs⟩ := hr.laid
  obtain ⟨rfl, _⟩ := hl (by omega)
  injection hv with hv
  injection hv with hv
  injection hv with h1 h2
  subst h1 h2
  refine ⟨fun _ => rfl, fun _ => hlt (by omega), by omega, fun j hj => ?_⟩
  have hj' : j < (os ++ spares).length := by rw [List.length_append]; omega
  have g : ∀ i, i < 7 → ∀ u, (ovc os[j])[i]? = some u → w.cell? ⟨lg, lgo + j * 7 + i, none⟩ = some u := fun i hi u hu => by
    rw [Nat.add_assoc]
    refine hcs _ _ ?_
    rw [ov_at _ j hj' i hi, List.getElem_append_left hj]
    exact hu
  exact ⟨g 0 (by decide) _ rfl, g 1 (by decide) _ rfl, g 2 (by decide) _ rfl, g 3 (by decide) _ rfl, g 4 (by decide) _ rfl, g 5 (by decide) _ rfl, g 6 (by decide) _ rfl⟩
/-- a step of the law's: it answered true, and the world is as it should be -/
def StpP (Q : Qs → Rf → Prop) (w w' : World) (lo wb : Nat) (mv x1 x2 x3 x4 x5 : Value) (ps : List Pr) (N : Nat) (e : Ending) : Prop :=
  e = .returned (.bool true) ∧ ∃ mv' ps', WAt Q w' lo wb mv' x1 x2 x3 x4 x5 ps' (N + 3) ∧ ps'.length ≤ ps.length + 1 ∧ WStp w w' wb mv ps mv' ps'
theorem StpP.none {Q : Qs → Rf → Prop} {w w' : World} {lo wb : Nat} {mv x1 x2 x3 x4 x5 : Value} {ps : List Pr} {N : Nat} (h : WAt Q w lo wb mv x1 x2 x3 x4 x5 ps N) (hc : Chg [] w w') : StpP Q w w' lo wb mv x1 x2 x3 x4 x5 ps N (.returned (.bool true)) :=
  ⟨rfl, mv, ps, (h.chg hc (by simp)).wide (by omega), by omega, WStp.none hc⟩
set_option maxRecDepth 100000 in
set_option maxHeartbeats 4000000 in
theorem made_any {Q : Qs → Rf → Prop} (hQ : QP Q) (c : Cf) (la : Option Addr) (lb lof cap : Nat) (os : List Ov) (w : World) (h : OvsAt w la lb lof os) (hok : ∀ o ∈ os, o.Ok) (hc : c.Ok) (hlen : os.length ≤ 3518437208780) (lo wb : Nat) (mv x1 x2 x3 x4 x5 : Value) (ps : List Pr) (N : Nat) (hw : WAt Q w lo wb mv x1 x2 x3 x4 x5 ps N) (hps : ps.length ≤ 1000000000000) :
    Calls Tryz.prog 16 #[.pointer (some ⟨wb, 0, none⟩), .agg #[.int .i64 c.c0, .int .i64 c.p0, .int .i64 c.b0, .int .i64 c.c1, .int .i64 c.p1, .int .i64 c.b1, .int .i64 c.c2, .int .i64 c.p2, .int .i64 c.b2, .slice la os.length cap, .int .i64 c.sh, .int .i64 c.sl, .int .i64 c.ev, .int .i64 c.de, .int .i64 c.qu]] w fun e w' => StpP Q w w' lo wb mv x1 x2 x3 x4 x5 ps N e := by
  have HQ : Hid (QP Q) := hQ
  have HOK : Hid (∀ o ∈ os, o.Ok) := hok
  have HWA : Hid (WAt Q w lo wb mv x1 x2 x3 x4 x5 ps N) := hw
  have hbx := heap_alloc_new w (.cells (cfc c (.slice la os.length cap)).toArray 33)
  have hcw : Chg [] w (w.alloc (.cells (cfc c (.slice la os.length cap)).toArray 33)) := (Chg.refl _ _).alloc _
  obtain ⟨wa, hwa⟩ : ∃ wa, wa = w.alloc (.cells (cfc c (.slice la os.length cap)).toArray 33) := ⟨_, rfl⟩
  rw [← hwa] at hbx hcw
  have hkw : w.alloc (.cells #[.int .i64 c.c0, .int .i64 c.p0, .int .i64 c.b0, .int .i64 c.c1, .int .i64 c.p1, .int .i64 c.b1, .int .i64 c.c2, .int .i64 c.p2, .int .i64 c.b2, .slice la os.length cap, .int .i64 c.sh, .int .i64 c.sl, .int .i64 c.ev, .int .i64 c.de, .int .i64 c.qu] 33) = wa := hwa.symm
  have HBX : Hid (wa.heap[w.heap.size]? = some (.cells (cfc c (.slice la os.length cap)).toArray 33 (0, 0))) := hbx
  have HCW : Hid (Chg [] w wa) := hcw
  have HOV : Hid (OvsAt w la lb lof os) := h
  have HGv : Hid (∀ W, Chg [] w W → Calls Tryz.prog 32 #[.agg #[.int .i64 c.c0, .int .i64 c.p0, .int .i64 c.b0, .int .i64 c.c1, .int .i64 c.p1, .int .i64 c.b1, .int .i64 c.c2, .int .i64 c.p2, .int .i64 c.b2, .slice la os.length cap, .int .i64 c.sh, .int .i64 c.sl, .int .i64 c.ev, .int .i64 c.de, .int .i64 c.qu]] W fun e w' => GivenP W w' c os e) := fun W hW => given_any c la lb lof cap os W (HOV.out.chg hW (by simp)) hlen
  have HRf : Hid (∀ W, Chg [] w W → Calls Tryz.prog 34 #[.agg #[.int .i64 c.c0, .int .i64 c.p0, .int .i64 c.b0, .int .i64 c.c1, .int .i64 c.p1, .int .i64 c.b1, .int .i64 c.c2, .int .i64 c.p2, .int .i64 c.b2, .slice la os.length cap, .int .i64 c.sh, .int .i64 c.sl, .int .i64 c.ev, .int .i64 c.de, .int .i64 c.qu]] W fun e w' => NewR W w' c os e) := fun W hW => new_ref c la lb lof cap os W (HOV.out.chg hW (by simp)) HOK.out hc hlen
  have HNw : Hid (∀ W (lg lgo capg : Nat), OvsAt W (some ⟨lg, lgo, none⟩) lg lgo os → Calls Tryz.prog 20 #[.agg #[.int .i64 c.c0, .int .i64 c.p0, .int .i64 c.b0, .int .i64 c.c1, .int .i64 c.p1, .int .i64 c.b1, .int .i64 c.c2, .int .i64 c.p2, .int .i64 c.b2, .slice (some ⟨lg, lgo, none⟩) os.length capg, .int .i64 c.sh, .int .i64 c.sl, .int .i64 c.ev, .int .i64 c.de, .int .i64 c.qu]] W fun e w' => NewM W w' c os e) := fun W lg lgo capg hW => new_any c (some ⟨lg, lgo, none⟩) lg lgo capg os W hW HOK.out hc
  clear hwa hbx hcw hok hc hw hQ h
  obtain ⟨b0, b1, b2, b3, b4, b5, b6, b7, b8, b9, b10, b11, b12, b13, b14⟩ := cf_cells HBX.out
  go_enter Tryz.func16, Tryz.ntmps16
  go_wp2_with fail
  refine (HGv.out _ HCW.out).mono ?_
  rintro e w1 ⟨lg, lgo, capg, rfl, hrg, hlg, q1⟩
  have hs0 := HCW.out.size
  have HLG : Hid (w.heap.size ≤ lg) := by show _ ≤ _; omega
  have hbg := heap_alloc_new w1 (.cells (cfc c (.slice (some ⟨lg, lgo, none⟩) os.length capg)).toArray 33)
  have hcg : Chg [] w1 (w1.alloc (.cells (cfc c (.slice (some ⟨lg, lgo, none⟩) os.length capg)).toArray 33)) := (Chg.refl _ _).alloc _
  obtain ⟨wg, hwg⟩ : ∃ wg, wg = w1.alloc (.cells (cfc c (.slice (some ⟨lg, lgo, none⟩) os.length capg)).toArray 33) := ⟨_, rfl⟩
  rw [← hwg] at hbg hcg
  have hkg : w1.alloc (.cells #[.int .i64 c.c0, .int .i64 c.p0, .int .i64 c.b0, .int .i64 c.c1, .int .i64 c.p1, .int .i64 c.b1, .int .i64 c.c2, .int .i64 c.p2, .int .i64 c.b2, .slice (some ⟨lg, lgo, none⟩) os.length capg, .int .i64 c.sh, .int .i64 c.sl, .int .i64 c.ev, .int .i64 c.de, .int .i64 c.qu] 33) = wg := hwg.symm
  have HCB : Hid (Chg [] w wg) := (HCW.out.trans q1 (by simp)).trans hcg (by simp)
  have HRG : Hid (Rw wg 158 7 (.slice (some ⟨lg, lgo, none⟩) (os.length + 3) capg) (os.length + 3) (ovcells (os ++ spares))) := hrg.chg hcg (by simp)
  have HBG : Hid (wg.heap[w1.heap.size]? = some (.cells (cfc c (.slice (some ⟨lg, lgo, none⟩) os.length capg)).toArray 33 (0, 0))) := hbg
  have HBXg : Hid (wg.heap[w.heap.size]? = some (.cells (cfc c (.slice la os.length cap)).toArray 33 (0, 0))) := (q1.trans hcg (by simp)).blk HBX.out (by simp)
  have HSt : Hid (∀ W, Rw W 158 7 (.slice (some ⟨lg, lgo, none⟩) (os.length + 3) capg) (os.length + 3) (ovcells (os ++ spares)) → OvsAt W la lb lof os → Calls Tryz.prog 33 #[.agg #[.int .i64 c.c0, .int .i64 c.p0, .int .i64 c.b0, .int .i64 c.c1, .int .i64 c.p1, .int .i64 c.b1, .int .i64 c.c2, .int .i64 c.p2, .int .i64 c.b2, .slice (some ⟨lg, lgo, none⟩) os.length capg, .int .i64 c.sh, .int .i64 c.sl, .int .i64 c.ev, .int .i64 c.de, .int .i64 c.qu], .agg #[.int .i64 c.c0, .int .i64 c.p0, .int .i64 c.b0, .int .i64 c.c1, .int .i64 c.p1, .int .i64 c.b1, .int .i64 c.c2, .int .i64 c.p2, .int .i64 c.b2, .slice la os.length cap, .int .i64 c.sh, .int .i64 c.sl, .int .i64 c.ev, .int .i64 c.de, .int .i64 c.qu]] W fun e w' => e = .returned (.bool true) ∧ Chg [lg] W w') := fun W h1 h2 => still_any c lg lgo capg la lb lof cap os W h1 h2 (fun hp => by have := HOV.out.lt hp; have := HLG.out; omega) hlen
  have hlgl : lg < w1.heap.size := hrg.lt rfl
  have hlgw : wa.heap.size ≤ lg := hlg
  have hbxl := lt_of_block HBX.out
  have hs1 := q1.size
  clear hwg hbg hcg hrg q1 hlg
  clear b0 b1 b2 b3 b4 b5 b6 b7 b8 b9 b10 b11 b12 b13 b14
  obtain ⟨g0, g1, g2, g3, g4, g5, g6, g7, g8, g9, g10, g11, g12, g13, g14⟩ := cf_cells HBG.out
  go_wp2_with fail
  refine (HNw.out _ lg lgo capg (ovs_given HRG.out hlen)).mono ?_
  rintro e w2 ⟨q2, y2, n2⟩
  have HC2 : Hid (Chg [] w w2) := HCB.out.trans q2 (by simp)
  have HBG2 : Hid (w2.heap[w1.heap.size]? = some (.cells (cfc c (.slice (some ⟨lg, lgo, none⟩) os.length capg)).toArray 33 (0, 0))) := q2.blk HBG.out (by simp)
  have HBX2 : Hid (w2.heap[w.heap.size]? = some (.cells (cfc c (.slice la os.length cap)).toArray 33 (0, 0))) := q2.blk HBXg.out (by simp)
  have HR2 : Hid (Rw w2 158 7 (.slice (some ⟨lg, lgo, none⟩) (os.length + 3) capg) (os.length + 3) (ovcells (os ++ spares))) := HRG.out.chg q2 (by simp)
  have HO2 : Hid (OvsAt w2 la lb lof os) := HOV.out.chg HC2.out (by simp)
  have hgl := lt_of_block HBG.out
  clear g0 g1 g2 g3 g4 g5 g6 g7 g8 g9 g10 g11 g12 g13 g14 q2
  by_cases hcf : CfOk c os
  · obtain ⟨g, qs, rfl, hG⟩ := y2 hcf
    have HG : Hid (NewG wg w2 g qs c os) := hG
    have HCF : Hid (CfOk c os) := hcf
    clear y2 n2 hG hcf
    obtain ⟨g0, g1, g2, g3, g4, g5, g6, g7, g8, g9, g10, g11, g12, g13, g14⟩ := cf_cells HBG2.out
    obtain ⟨b0, b1, b2, b3, b4, b5, b6, b7, b8, b9, b10, b11, b12, b13, b14⟩ := cf_cells HBX2.out
    go_wp2_with fail
    refine (HSt.out _ HR2.out HO2.out).mono ?_
    rintro e w3 ⟨rfl, q3⟩
    have HC3 : Hid (Chg [] w w3) := HC2.out.trans q3 (fun j hj => by simp at hj; subst hj; exact Or.inr HLG.out)
    have HBX3 : Hid (w3.heap[w.heap.size]? = some (.cells (cfc c (.slice la os.length cap)).toArray 33 (0, 0))) := q3.blk HBX2.out (by simp; omega)
    clear g0 g1 g2 g3 g4 g5 g6 g7 g8 g9 g10 g11 g12 g13 g14
    clear b0 b1 b2 b3 b4 b5 b6 b7 b8 b9 b10 b11 b12 b13 b14
    obtain ⟨b0, b1, b2, b3, b4, b5, b6, b7, b8, b9, b10, b11, b12, b13, b14⟩ := cf_cells HBX3.out
    have HN3 : Hid (FullAt w3 g qs 0 (fun _ => .map [])) := HG.out.f.chg q3 (fun b hb => by have := HG.out.lo b hb; simp; omega)
    clear q3
    go_wp2_with fail
    refine (HRf.out _ HC3.out).mono ?_
    rintro e w4 ⟨q4, y4, n4⟩
    obtain ⟨yb, vo, rfl, hR4, hRlo⟩ := y4 HCF.out
    have HC4 : Hid (Chg [] w w4) := HC3.out.trans q4 (by simp)
    have HN4 : Hid (FullAt w4 g qs 0 (fun _ => .map [])) := HN3.out.chg q4 (by simp)
    have HR4 : Hid (RefAt w4 yb (Rf.new c vo os)) := hR4
    have HRL : Hid (∀ b ∈ (Rf.new c vo os).fp yb, w3.heap.size ≤ b) := hRlo
    clear hR4 hRlo
    clear b0 b1 b2 b3 b4 b5 b6 b7 b8 b9 b10 b11 b12 b13 b14 y4 n4 q4
    have HP : Hid ((⟨g, qs, fun _ => .map [], yb, Rf.new c vo os⟩ : Pr).At Q w4) := ⟨HN4.out, HG.out.ok, HR4.out, Rf.Ok.new HCF.out HOK.out vo, Sim.empty _ _, HG.out.p, HG.out.sl, HG.out.n, fun i => Inv.empty, fun b hb hb' => (by have := HRL.out b hb'; have := HN3.out.lt b hb; omega), HQ.out.new vo HG.out HCF.out⟩
    have HPF : Hid (∀ b ∈ (⟨g, qs, fun _ => .map [], yb, Rf.new c vo os⟩ : Pr).fp, w.heap.size ≤ b) := fun b hb => by
      rcases List.mem_append.1 hb with hb | hb
      · have := HG.out.lo b hb; have := HCB.out.size; omega
      · have := HRL.out b hb; have := HC3.out.size; omega
    have HW4 := HWA.out.chg HC4.out (by simp)
    have hAr := heap_alloc_new w4 (.cells [.pointer (some ⟨g.mb, 0, none⟩), .pointer (some ⟨yb, 0, none⟩)].toArray 109)
    have hAc : Chg [] w4 (w4.alloc (.cells [.pointer (some ⟨g.mb, 0, none⟩), .pointer (some ⟨yb, 0, none⟩)].toArray 109)) := (Chg.refl _ _).alloc _
    obtain ⟨w7, hw7⟩ : ∃ w7, w7 = w4.alloc (.cells [.pointer (some ⟨g.mb, 0, none⟩), .pointer (some ⟨yb, 0, none⟩)].toArray 109) := ⟨_, rfl⟩
    rw [← hw7] at hAr hAc
    have hk7 : w4.alloc (.cells #[.pointer (some ⟨g.mb, 0, none⟩), .pointer (some ⟨yb, 0, none⟩)] 109) = w7 := hw7.symm
    clear hw7
    have HC7 : Hid (Chg [] w w7) := HC4.out.trans hAc (by simp)
    have HP7 : Hid ((⟨g, qs, fun _ => .map [], yb, Rf.new c vo os⟩ : Pr).At Q w7) := HP.out.chg hAc (by simp)
    have HW7 := HW4.chg hAc (by simp)
    obtain ⟨i0, ek⟩ := ek109
    obtain ⟨v8, w8, hr8, t1, t2, t3⟩ := run_app ek w7 48 mv ps.length (pcells ps) HW7.row ⟨w4.heap.size, 0, none⟩ 1 1 [.pointer (some ⟨g.mb, 0, none⟩), .pointer (some ⟨yb, 0, none⟩)] rfl (fun j x hj => by rw [Addr.add_mid, Nat.zero_add]; exact blk_cell hAr hj) (by intro u hu; simp at hu; rcases hu with rfl | rfl <;> rfl) (by decide) (by omega)
    have hcat : pcells ps ++ [.pointer (some ⟨g.mb, 0, none⟩), .pointer (some ⟨yb, 0, none⟩)] = pcells (ps ++ [(⟨g, qs, fun _ => .map [], yb, Rf.new c vo os⟩ : Pr)]) := by simp [pcells, pc]
    rw [hcat] at t1
    have HZ : Hid (WAt Q (w8.setCell ⟨wb, 0, none⟩ v8) lo wb v8 x1 x2 x3 x4 x5 (ps ++ [(⟨g, qs, fun _ => .map [], yb, Rf.new c vo os⟩ : Pr)]) N ∧ WStp w (w8.setCell ⟨wb, 0, none⟩ v8) wb mv ps v8 (ps ++ [(⟨g, qs, fun _ => .map [], yb, Rf.new c vo os⟩ : Pr)])) := HWA.out.add HC7.out HP7.out HPF.out (Nat.zero_le _) t2 t1 (t3.imp id (fun hx => ⟨_, hx, Nat.le_refl _⟩))
    have z0 : w4.cell? ⟨wb, 0, none⟩ = some mv := blk_cell (i := 0) HW4.blk rfl
    have hb8 := (Chg.of_grown t2 (fun b hb => mem_own.2 hb) : Chg (own mv) w7 w8).blk HW7.blk (own_ty HW7.row HW7.blk (by decide))
    have z8 : w8.cell? ⟨wb, 0, none⟩ = some mv := blk_cell (i := 0) hb8 rfl
    have zf : w8.frozen? ⟨wb, 0, none⟩ = false := blk_free hb8
    have HR8 : Hid _ := hr8
    obtain ⟨la8, lb8, lof8, cap8, hv8, hl8, hx8⟩ := t1.laid
    obtain ⟨rfl, hx9⟩ := hl8 (by omega)
    subst hv8
    clear hx8 hl8 hx9
    have hwlt := lt_of_block HW4.blk
    have hwlt7 := lt_of_block HW7.blk
    obtain ⟨lam, lbm, lofm, capm, hmv, hxm⟩ := HW4.row.laid
    subst hmv
    clear hxm
    clear HW4 HW7 t1 t2 t3 hb8 hAr hAc hr8 ek
    go_wp2_with fail
    refine (num_any _ _).mono ?_
    rintro e w5 ⟨rfl, rfl⟩
    go_wp2_with fail
    refine (num_any _ _).mono ?_
    rintro e w6 ⟨rfl, rfl⟩
    go_wp2_with (at_builtin; refine Lib.wpList_append_run _ rfl _ _ _ _ rfl _ _ rfl rfl _ _ HR8.out ?_)
    go_ret
    exact ⟨rfl, _, _, HZ.out.1.wide (by omega), by simp, HZ.out.2⟩
  · obtain rfl := n2 hcf
    have HCF : Hid (¬ CfOk c os) := hcf
    clear y2 n2 hcf
    obtain ⟨g0, g1, g2, g3, g4, g5, g6, g7, g8, g9, g10, g11, g12, g13, g14⟩ := cf_cells HBG2.out
    obtain ⟨b0, b1, b2, b3, b4, b5, b6, b7, b8, b9, b10, b11, b12, b13, b14⟩ := cf_cells HBX2.out
    go_wp2_with fail
    refine (HSt.out _ HR2.out HO2.out).mono ?_
    rintro e w3 ⟨rfl, q3⟩
    have HC3 : Hid (Chg [] w w3) := HC2.out.trans q3 (fun j hj => by simp at hj; subst hj; exact Or.inr HLG.out)
    have HBX3 : Hid (w3.heap[w.heap.size]? = some (.cells (cfc c (.slice la os.length cap)).toArray 33 (0, 0))) := q3.blk HBX2.out (by simp; omega)
    clear g0 g1 g2 g3 g4 g5 g6 g7 g8 g9 g10 g11 g12 g13 g14
    clear b0 b1 b2 b3 b4 b5 b6 b7 b8 b9 b10 b11 b12 b13 b14
    obtain ⟨b0, b1, b2, b3, b4, b5, b6, b7, b8, b9, b10, b11, b12, b13, b14⟩ := cf_cells HBX3.out
    clear q3
    go_wp2_with fail
    refine (HRf.out _ HC3.out).mono ?_
    rintro e w4 ⟨q4, y4, n4⟩
    obtain rfl := n4 HCF.out
    have HC4 : Hid (Chg [] w w4) := HC3.out.trans q4 (by simp)
    clear b0 b1 b2 b3 b4 b5 b6 b7 b8 b9 b10 b11 b12 b13 b14 y4 n4 q4
    go_wp2_with fail
    refine (num_any _ _).mono ?_
    rintro e w5 ⟨rfl, rfl⟩
    go_wp2_with fail
    refine (num_any _ _).mono ?_
    rintro e w6 ⟨rfl, rfl⟩
    go_wp2
    go_ret
    exact StpP.none HWA.out HC4.out
end Go.Proofs.YtbdnhllhdjepcaaGreat
namespace Go.Proofs.YtbdnhllhdjepcaaGreat
set_option linter.unusedVariables false
set_option linter.unusedSimpArgs false
open Go.RowKit Go.Maps

/-! ### a pair is asked: both answer the same -/
section
variable {Q : Qs → Rf → Prop}
theorem StpP.upd {w w' : World} {lo wb : Nat} {mv x1 x2 x3 x4 x5 : Value} {ps : List Pr} {N j : Nat} {p p' : Pr} (h : WAt Q w lo wb mv x1 x2 x3 x4 x5 ps N) (hj : ps[j]? = some p) (hs : PStp Q w w' p p') : StpP Q w w' lo wb mv x1 x2 x3 x4 x5 ps N (.returned (.bool true)) :=
  ⟨rfl, mv, ps.set j p', (h.upd hj hs).1, by simp, (h.upd hj hs).2⟩
theorem Pr.At.now {w : World} {p : Pr} (h : p.At Q w) (W : World) (hW : Chg [] w W) : Calls Tryz.prog 15 #[.pointer (some ⟨p.g.mb, 0, none⟩)] W fun e w' => e = .returned (.int .u64 p.s.T) ∧ Chg [] W w' :=
  Now_any p.g.mb p.g.ab p.g.n p.g.qb p.s.T W (h.chg hW (by simp)).f.mtr.meter
theorem Pr.At.time {w : World} {p : Pr} (h : p.At Q w) : w.cell? ⟨p.y, 15, none⟩ = some (.int .u64 p.s.T) := blk_cell (i := 15) h.ref.blk rfl
/-- what a pair answers, and how it goes on: the program first, then the document -/
structure Both (Q : Qs → Rf → Prop) (w : World) (p : Pr) (f g : Nat) (al : List Value) (e : Ending) (M : World → World → Prop) : Prop where
  one : ∀ W, Chg [] w W → Calls Tryz.prog f (#[.pointer (some ⟨p.g.mb, 0, none⟩)] ++ al.toArray) W fun e' w' => e' = e ∧ M W w'
  two : ∀ W w1 W', Chg [] w W → M W w1 → Chg [] w1 W' → Calls Tryz.prog g (#[.pointer (some ⟨p.y, 0, none⟩)] ++ al.toArray) W' fun e' w' => e' = e ∧ Chg p.fp W' w' ∧ ∃ p', PStp Q W w' p p'
  chg : ∀ W w1, M W w1 → Chg p.fp W w1
theorem Pr.At.advs {w : World} {p : Pr} (hQ : QP Q) (h : p.At Q w) {d : Int} (hd : I6 d) : ∃ er M, Both Q w p 22 37 [.int .i64 d] (.returned (.int .i64 er)) M := by
  by_cases hn : d < 0
  · refine ⟨1, fun W w1 => w1 = W, ⟨fun W hW => Advance_neg p.g.mb d W hn, fun W w1 W' hW hM hc => ?_, fun W w1 hM => hM ▸ Chg.refl _ _⟩⟩
    subst hM
    have hp := (h.chg hW (by simp)).chg hc (by simp)
    refine (advance_ref p.y p.s d W' hp.ref hp.rok.T hd).mono ?_
    rintro e w2 ⟨h1, _⟩
    obtain ⟨rfl, rfl⟩ := h1 hn
    exact ⟨rfl, Chg.refl _ _, p, PStp.none (h.chg hW (by simp)) hc⟩
  · refine ⟨0, fun W w1 => MtrAt w1 p.g (min (p.s.T + d) 9223372036854775807) p.Ds ∧ Chg [p.g.mb] W w1, ⟨fun W hW => ?_, fun W w1 W' hW hM hc => ?_, fun W w1 hM => hM.2.mono (by simp [Pr.fp, St.all])⟩⟩
    · have hp := h.chg hW (by simp)
      exact MAdvanceC p.g p.s.T d p.Ds W hp.f.mtr hp.ok hp.rok.T.1 hp.rok.T.2 (by omega) hd.2
    · have hp := h.chg hW (by simp)
      refine (advance_ref p.y p.s d W' (hp.half hM.2 (by simp [St.all]) hc) hp.rok.T hd).mono ?_
      rintro e w2 ⟨_, h1⟩
      obtain ⟨rfl, h2, h3⟩ := h1 (by omega)
      exact ⟨rfl, h3.mono (by simp [Pr.fp, Rf.fp]), _, hp.adv hQ (by omega) hM.1 hM.2 hc h2 h3⟩
theorem Pr.At.asks {w : World} {p : Pr} (hQ : QP Q) (h : p.At Q w) {t u r a : Int} (ht : U16 t) (hu : U16 u) (hr : U16 r) (ha : I6 a) (hlen : p.s.ms.length ≤ 5000000000000) :
    ∃ st lv rt er M, Both Q w p 21 38 [.agg #[.int .u16 t, .int .u16 u, .int .u16 r], .int .i64 a] (.returned (.tuple #[.agg #[.int .i64 st, .int .i64 lv, .int .u64 rt], .int .i64 er])) M := by
  by_cases hn : a < 1 ∨ 1000 < a
  · refine ⟨0, 0, 0, 1, fun W w1 => Chg [] W w1, ⟨fun W hW => Allow_bad p.g.mb t u r a W hn, fun W w1 W' hW hM hc => ?_, fun W w1 hM => hM.mono (by simp)⟩⟩
    have hp := h.chg hW (by simp)
    have hp' := (hp.chg hM (by simp)).chg hc (by simp)
    refine (allow_ref p.y p.s a t u r W' hp'.ref hp.rok ht hlen ha).mono ?_
    rintro e w2 ⟨h1, _⟩
    obtain ⟨rfl, h2⟩ := h1 hn
    exact ⟨rfl, h2.mono (by simp), p, PStp.none hp ((hM.trans hc (by simp)).trans h2 (by simp))⟩
  · obtain ⟨i, hi⟩ : ∃ i : Nat, t % (p.g.n : Int) = (i : Int) := ⟨(t % (p.g.n : Int)).toNat, by have := Int.emod_nonneg t (show (p.g.n : Int) ≠ 0 by have := h.ok.n1; omega); omega⟩
    have hrep := (h.sim.allow h.rok.c h.rok.ov h.rok.T.1 ht hu hr (by rw [← h.n]; exact hi) a).1
    rw [← h.pl, ← h.sl] at hrep
    refine ⟨(p.s.rep a t u r).1, (p.s.rep a t u r).2.1, (p.s.rep a t u r).2.2, 0, fun W w1 => MtrAt w1 p.g p.s.T (fun j => if j = i then (allowD p.g.p p.g.sl (p.Ds i) p.s.T a t u r).2 else p.Ds j) ∧ (∃ x ∈ p.g.sd, Chg [x.2] W w1) ∧ Inv p.s.T (allowD p.g.p p.g.sl (p.Ds i) p.s.T a t u r).2, ⟨fun W hW => ?_, fun W w1 W' hW hM hc => ?_, fun W w1 hM => ?_⟩⟩
    · have hp := h.chg hW (by simp)
      refine (MAllowC p.g p.s.T a t u r p.Ds i W hp.f.mtr hp.ok hi (hp.inv i) hp.rok.T.1 hp.rok.T.2 (by omega) (by omega) (wf16 ht) (wf16 hu) (wf16 hr)).mono ?_
      rintro e w1 ⟨rfl, h1, h2, h3⟩
      exact ⟨by rw [hrep]; rfl, h1, h2, h3⟩
    · have hp := h.chg hW (by simp)
      obtain ⟨h1, h2, h3⟩ := hM
      obtain ⟨x, hx, h4⟩ := h2
      refine (allow_ref p.y p.s a t u r W' (hp.half h4 (by simp only [St.all, List.mem_append, List.mem_map]; exact Or.inl (Or.inr ⟨x, hx, rfl⟩)) hc) hp.rok ht hlen ha).mono ?_
      rintro e w2 ⟨_, h5⟩
      obtain ⟨rfl, v, h6, h7⟩ := h5 (by omega) (by omega)
      exact ⟨rfl, h7.chg.mono (fun j hj => List.mem_append_right _ hj), _, hp.allow hQ ht hu hr (by omega) hi h1 ⟨x, hx, h4⟩ h3 hc h6 h7⟩
    · obtain ⟨x, hx, h4⟩ := hM.2.1
      refine h4.mono (fun j hj => ?_)
      simp only [List.mem_cons, List.not_mem_nil, or_false] at hj
      subst hj
      exact List.mem_append_left _ (by simp only [St.all, List.mem_append, List.mem_map]; exact Or.inl (Or.inr ⟨x, hx, rfl⟩))
end
end Go.Proofs.YtbdnhllhdjepcaaGreat
