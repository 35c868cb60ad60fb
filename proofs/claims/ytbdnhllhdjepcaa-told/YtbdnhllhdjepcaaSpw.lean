import Derived.Test.YtbdnhllhdjepcaaFreshq
namespace Go.Proofs.Ytbdnhllhdjepcaa
set_option linter.unusedVariables false
set_option linter.unusedSimpArgs false
open Go.RowKit Go.Maps

/-- a step that came in -/
structure Snt where
  a : Int
  t : Int
  x : Int
  p : Bool
  m : Int
def Snt.Ok (q : Snt) : Prop := I64 q.a ∧ I64 q.t ∧ (Lit.int .u32 q.x).wf = true ∧ I64 q.m
def SntAt (w : World) (b o : Nat) (q : Snt) : Prop := w.cell? ⟨b, o, none⟩ = some (.int .i64 q.a) ∧ w.cell? ⟨b, o + 1, none⟩ = some (.int .i64 q.t) ∧ w.cell? ⟨b, o + 2, none⟩ = some (.int .u32 q.x) ∧ w.cell? ⟨b, o + 3, none⟩ = some (.bool q.p) ∧ w.cell? ⟨b, o + 4, none⟩ = some (.int .i64 q.m)
def tcl (tl : List Int) : List Value := tl.map (fun a => .int .i64 a)
/-- the two keep step -/
structure Spc (s : Qs) (W : List It) (tl : List Int) (now : Int) (k : Nat) (E F G : Int) : Prop where
  ev : s.ev = E
  de : s.de = F
  qu : s.qu = G
  ws : s.ws = isort W
  le : (W.length : Int) ≤ G
  n : s.n ≤ k
  es : s.es.length ≤ k
  len : tl.length = 3
  bd : ∀ j (hj : j < tl.length), 0 ≤ tl[j] ∧ tl[j] ≤ now + 100
  turn : ∀ j (hj : j < tl.length), max (markOf s.D (tk j)) now = max tl[j] now
  due : ∀ y ∈ W, y.d ≤ now + 60
theorem i64z : I64 0 := ⟨by decide, by decide⟩
theorem Spc.mono {s : Qs} {W : List It} {tl : List Int} {now now' : Int} {k : Nat} {ev de qu : Int} (h : Spc s W tl now k ev de qu) (hn : now ≤ now') : Spc s W tl now' k ev de qu :=
  ⟨h.ev, h.de, h.qu, h.ws, h.le, h.n, h.es, h.len, fun j hj => by have := h.bd j hj; omega, fun j hj => by have := h.turn j hj; omega, fun y hy => by have := h.due y hy; omega⟩

abbrev cfc (ev de qu : Int) : List Value := [.int .i64 1, .int .i64 1, .int .i64 0, .int .i64 1, .int .i64 1, .int .i64 0, .int .i64 1, .int .i64 1, .int .i64 0, .slice none 0 0, .int .i64 1, .int .i64 3, .int .i64 (1 + ev), .int .i64 de, .int .i64 qu]
/-- the world while the steps go -/
structure SpW (w wr : World) (mb ab cb ar : Nat) (s : Qs) (W : List It) (hv : Value) (tl : List Int) (now : Int) (k : Nat) (ev de qu : Int) : Prop where
  mtr : MeterAt wr mb now ab 1 s.qb
  at_ : QAt wr s
  spc : Spc s W tl now k (1 + ev) de qu
  row : Rw wr 75 3 hv W.length (icells W)
  own_ : ∀ b ∈ own hv, w.heap.size ≤ b ∧ b ∉ s.fp
  fp : ∀ b ∈ s.fp, w.heap.size ≤ b
  cfg : wr.heap[cb]? = some (.cells (cfc ev de qu).toArray 30 (0, 0))
  arr : wr.heap[ar]? = some (.cells (tcl tl).toArray 66 (0, 0))
  chg : Chg [] w wr
section
variable {w wr : World} {mb ab cb ar : Nat} {s : Qs} {W : List It} {hv : Value} {tl : List Int} {now : Int} {k : Nat} {ev de qu : Int}
theorem SpW.adv (h : SpW w wr mb ab cb ar s W hv tl now k ev de qu) {w4 : World} {now' : Int} (hc : Chg [mb] wr w4) (hm : MeterAt w4 mb now' ab 1 s.qb) (hn : now ≤ now') (hmb : w.heap.size ≤ mb) : SpW w w4 mb ab cb ar s W hv tl now' k ev de qu := by
  have h1 : mb ∉ s.fp := fp_ty h.at_ h.mtr (by decide) (by decide) (by decide) (by decide)
  have h2 : mb ∉ own hv := own_ty h.row h.mtr (by decide)
  have h3 : cb ≠ mb := ne_ty h.cfg h.mtr (by decide)
  have h4 : ar ≠ mb := ne_ty h.arr h.mtr (by decide)
  exact ⟨hm, h.at_.chg hc (fun b hb => by simp; rintro rfl; exact h1 hb), h.spc.mono hn, h.row.chg hc (fun b hb => by simp; rintro rfl; exact h2 (mem_own.2 hb)), h.own_, h.fp, hc.blk h.cfg (by simpa using h3), hc.blk h.arr (by simpa using h4), h.chg.trans hc (fun j hj => by simp at hj; subst hj; exact Or.inr hmb)⟩
theorem SpW.far (h : SpW w wr mb ab cb ar s W hv tl now k ev de qu) : cb ∉ s.fp ∧ ar ∉ s.fp ∧ cb ∉ own hv ∧ ar ∉ own hv ∧ ar ≠ cb ∧ mb ∉ own hv ∧ ar ≠ mb ∧ cb ≠ mb :=
  ⟨fp_ty h.at_ h.cfg (by decide) (by decide) (by decide) (by decide), fp_ty h.at_ h.arr (by decide) (by decide) (by decide) (by decide), own_ty h.row h.cfg (by decide), own_ty h.row h.arr (by decide), ne_ty h.arr h.cfg (by decide), own_ty h.row h.mtr (by decide), ne_ty h.arr h.mtr (by decide), ne_ty h.cfg h.mtr (by decide)⟩
theorem SpW.pol (h : SpW w wr mb ab cb ar s W hv tl now k ev de qu) {w5 : World} {s' : Qs} {k' : Nat} {hv' : Value} {W' : List It} (hp : Pd wr w5 mb ab 1 now s s' k' hv hv' W') : SpW w w5 mb ab cb ar s' W' hv' tl now (k + 1) ev de qu := by
  obtain ⟨f1, f2, _⟩ := h.far
  have hsz := h.chg.size
  have hsub : ∀ y ∈ W', y ∈ W := fun y hy => by
    have h1 := (mem_isort W' y).2 hy
    rw [← hp.srt, hp.ws] at h1
    have h2 := List.mem_of_mem_drop h1
    rw [h.spc.ws] at h2
    exact (mem_isort W y).1 h2
  have hlen : W'.length ≤ W.length := by
    rw [← isort_len W', ← hp.srt, hp.ws, List.length_drop, h.spc.ws, isort_len]
    omega
  refine ⟨by rw [hp.same.qb]; exact hp.mtr, hp.at_, ⟨hp.same.ev.trans h.spc.ev, hp.same.de.trans h.spc.de, hp.same.qu.trans h.spc.qu, hp.srt, by have := h.spc.le; omega, by rw [hp.n]; have := h.spc.n; omega, by rw [hp.es]; have := h.spc.es; omega, h.spc.len, h.spc.bd, by rw [hp.D]; exact h.spc.turn, fun y hy => h.spc.due y (hsub y hy)⟩, hp.row, fun b hb => ?_, fun b hb => ?_, hp.chg.blk h.cfg f1, hp.chg.blk h.arr f2, h.chg.trans hp.chg (fun j hj => Or.inr (h.fp j hj))⟩
  · have := hp.new b hb
    rcases this.1 with h1 | h1
    · exact ⟨(h.own_ b h1).1, this.2⟩
    · exact ⟨by omega, this.2⟩
  · rcases hp.fp b hb with h1 | h1
    · exact h.fp b h1
    · omega
/-- an item is not taken -/
theorem SpW.no (h : SpW w wr mb ab cb ar s W hv tl now k ev de qu) {w5 : World} {s' : Qs} (hm : MeterAt w5 mb now ab 1 s.qb) (hq : QAt w5 s') (hs : SameQ s s') (hc : Chg s.fp wr w5) (hf : ∀ b ∈ s'.fp, b ∈ s.fp ∨ wr.heap.size ≤ b) (hn : s'.n ≤ s.n + 1) (he : s'.es.length ≤ s.es.length + 1) (hw : s'.ws = s.ws) (hk : Keeps now s.D s'.D) : SpW w w5 mb ab cb ar s' W hv tl now (k + 1) ev de qu := by
  obtain ⟨f1, f2, _⟩ := h.far
  have hsz := h.chg.size
  refine ⟨by rw [hs.qb]; exact hm, hq, ⟨hs.ev.trans h.spc.ev, hs.de.trans h.spc.de, hs.qu.trans h.spc.qu, hw.trans h.spc.ws, h.spc.le, by have := h.spc.n; omega, by have := h.spc.es; omega, h.spc.len, h.spc.bd, fun j hj => (hk j).trans (h.spc.turn j hj), h.spc.due⟩, h.row.chg hc (fun b hb => (h.own_ b (mem_own.2 hb)).2), fun b hb => ⟨(h.own_ b hb).1, fun hm' => ?_⟩, fun b hb => ?_, hc.blk h.cfg f1, hc.blk h.arr f2, h.chg.trans hc (fun j hj => Or.inr (h.fp j hj))⟩
  · rcases hf b hm' with h1 | h1
    · exact (h.own_ b hb).2 h1
    · have := h.row.lt (mem_own.1 hb); omega
  · rcases hf b hb with h1 | h1
    · exact h.fp b h1
    · omega
/-- an item is taken -/
theorem SpW.yes (h : SpW w wr mb ab cb ar s W hv tl now k ev de qu) {w5 w8 : World} {s' : Qs} {kk : Nat} {x due : Int} {hv' : Value} {ob : Obj} (hm : MeterAt w5 mb now ab 1 s.qb) (hq : QAt w5 s') (hs : SameQ s s') (hc : Chg s.fp wr w5) (hf : ∀ b ∈ s'.fp, b ∈ s.fp ∨ wr.heap.size ≤ b) (hn : s'.n ≤ s.n + 1) (he : s'.es.length ≤ s.es.length + 1)
    (hkk : kk < 3) (h0 : 0 ≤ due) (hd : due ≤ now + 60) (hev : 0 ≤ ev ∧ ev < 20) (hle : (W.length : Int) < qu) (hw : s'.ws = ins ⟨kk, x, due⟩ s.ws) (ht : ∀ t', max (markOf s'.D (tk t')) now = max (if t' = kk then due + s.ev else markOf s.D (tk t')) now)
    (hg : ((w5.setCell ⟨ar, kk, none⟩ (.int .i64 (due + (1 + ev)))).alloc ob).grownBy w8 hv.ownBlock) (hr : Rw w8 75 3 hv' (W.length + 1) (icells W ++ icl ⟨kk, x, due⟩)) (ho : hv'.ownBlock = hv.ownBlock ∨ hv'.ownBlock = some (w5.heap.size + 1)) (har : w.heap.size ≤ ar) :
    SpW w w8 mb ab cb ar s' (W ++ [⟨kk, x, due⟩]) hv' (tl.set kk (due + (1 + ev))) now (k + 1) ev de qu := by
  obtain ⟨f1, f2, f3, f4, f5, f6, f7, f8⟩ := h.far
  have hsz := h.chg.size
  have hsz5 := hc.size
  have hqa : ar ∉ s'.fp := fp_ty hq (hc.blk h.arr f2) (by decide) (by decide) (by decide) (by decide)
  have c6 : Chg [ar] w5 (w5.setCell ⟨ar, kk, none⟩ (.int .i64 (due + (1 + ev)))) := (Chg.refl [ar] w5).set _ _ (Or.inl (by simp))
  have c7 : Chg [ar] w5 ((w5.setCell ⟨ar, kk, none⟩ (.int .i64 (due + (1 + ev)))).alloc ob) := c6.alloc _
  have c8 : Chg (ar :: own hv) w5 w8 := (c7.mono (by simp)).trans (grown_chg hg) (fun j hj => Or.inl (by simp [hj]))
  have hof : ∀ b, b ∈ own hv → b ∉ s'.fp := fun b hb hm' => by
    rcases hf b hm' with h1 | h1
    · exact (h.own_ b hb).2 h1
    · have := h.row.lt (mem_own.1 hb); omega
  have hs7 : ((w5.setCell ⟨ar, kk, none⟩ (.int .i64 (due + (1 + ev)))).alloc ob).heap.size = w5.heap.size + 1 := by simp [World.setCell]
  have hq8 : QAt w8 s' := hq.chg c8 (fun b hb => by
    simp only [List.mem_cons, not_or]
    exact ⟨fun e => hqa (e ▸ hb), fun hm' => hof b hm' hb⟩)
  have arr6 := blk_set (i := kk) (.int .i64 (due + (1 + ev))) (hc.blk h.arr f2)
  have etl : (tcl tl).set kk (.int .i64 (due + (1 + ev))) = tcl (tl.set kk (due + (1 + ev))) := by unfold tcl; rw [List.map_set]
  rw [etl] at arr6
  have arr8 : w8.heap[ar]? = some (.cells (tcl (tl.set kk (due + (1 + ev)))).toArray 66 (0, 0)) := (grown_chg hg).blk (blk_alloc arr6 _) f4
  have hws : s'.ws = isort (W ++ [⟨kk, x, due⟩]) := by rw [isort_snoc, hw, h.spc.ws]
  have hcat : icells W ++ icl ⟨kk, x, due⟩ = icells (W ++ [⟨kk, x, due⟩]) := by simp [icells]
  refine ⟨by rw [hs.qb]; exact c8.blk hm (by simp; exact ⟨Ne.symm f7, f6⟩), hq8, ⟨hs.ev.trans h.spc.ev, hs.de.trans h.spc.de, hs.qu.trans h.spc.qu, hws, by simp; omega, by have := h.spc.n; omega, by have := h.spc.es; omega, by simp [h.spc.len], fun j hj => ?_, fun j hj => ?_, fun y hy => ?_⟩, by rw [hcat] at hr; simpa using hr, fun b hb => ?_, fun b hb => ?_, c8.blk (hc.blk h.cfg f1) (by simp; exact ⟨Ne.symm f5, f3⟩), arr8, (h.chg.trans hc (fun j hj => Or.inr (h.fp j hj))).trans c8 (fun j hj => ?_)⟩
  · rw [List.length_set] at hj
    rw [List.getElem_set]
    have := h.spc.bd j hj
    split <;> omega
  · rw [List.length_set] at hj
    rw [List.getElem_set, ht j]
    have := h.spc.turn j hj
    by_cases e : kk = j
    · subst e
      rw [if_pos rfl, if_pos rfl, h.spc.ev]
    · rw [if_neg e, if_neg (by omega)]
      exact this
  · rcases List.mem_append.1 hy with hy | hy
    · exact h.spc.due y hy
    · simp at hy; subst hy; exact hd
  · rw [mem_own] at hb
    rcases ho with e | e
    · rw [e] at hb
      exact ⟨(h.own_ b (mem_own.2 hb)).1, hof b (mem_own.2 hb)⟩
    · rw [e] at hb
      cases hb
      exact ⟨by omega, fun hm' => by have := hq.lt _ hm'; omega⟩
  · rcases hf b hb with h1 | h1
    · exact h.fp b h1
    · omega
  · rcases List.mem_cons.1 hj with rfl | hj
    · exact Or.inr har
    · exact Or.inr (h.own_ j hj).1
end
end Go.Proofs.Ytbdnhllhdjepcaa
