import Derived.Test.YtbdnhllhdjepcaaCmdr
namespace Go.Proofs.Ytbdnhllhdjepcaa
set_option linter.unusedVariables false
set_option linter.unusedSimpArgs false
open Go.RowKit Go.Maps

/-! ### a meter and its queue -/
theorem MAdvanceC (g : St) (now d : Int) (Ds : Nat → DW) (w : World) (hm : MtrAt w g now Ds) (ok : g.Ok) (h0 : 0 ≤ now) (h1 : now ≤ 9223372036854775807) (h2 : 0 ≤ d) (h3 : d ≤ 9223372036854775807) :
    Calls Try.prog 21 #[.pointer (some ⟨g.mb, 0, none⟩), .int .i64 d] w fun e w' => e = .returned (.int .i64 0) ∧ MtrAt w' g (min (now + d) 9223372036854775807) Ds ∧ Chg [g.mb] w w' := by
  refine (Advance_any g.mb g.ab g.n g.qb now d w hm.meter h0 h1 h2 h3).mono ?_
  rintro e w' ⟨rfl, hm', hc⟩
  have nb : ∀ {b : Nat} {cs : Array Value} {t : TypeId} {fr : Nat × Nat}, w.heap[b]? = some (.cells cs t fr) → t ≠ 107 → b ≠ g.mb := fun hb ht e => by
    have := hm.meter; unfold MeterAt at this; rw [e, this] at hb; simp at hb; exact ht hb.2.1.symm
  have nm : ∀ {b : Nat} {es : Array MapEntry} {ck : Nat}, w.heap[b]? = some (.map es ck) → b ≠ g.mb := fun hb e => by
    have := hm.meter; unfold MeterAt at this; rw [e, this] at hb; cases hb
  refine ⟨rfl, ⟨hm', hc.blk hm.arr (by simpa using nb hm.arr (by decide)), fun i x hx => ?_, ?_⟩, hc⟩
  · have hs := hm.shards i x hx
    refine ⟨hc.blk hs.1 (by simpa using nb hs.1 (by decide)), hs.2.chg hc ?_⟩
    obtain ⟨n, es, ck, hb, r⟩ := hs.2
    simpa using nm hb
  · refine hm.plan.chg hc (by simpa using nb hm.plan.1 (by decide)) ?_
    obtain ⟨n, es, ck, hb, r⟩ := hm.plan.2
    simpa using nm hb

theorem MAllowC (g : St) (now cost t u r : Int) (Ds : Nat → DW) (i : Nat) (w : World) (hm : MtrAt w g now Ds) (ok : g.Ok) (hi : t % (g.n : Int) = (i : Int)) (hinv : Inv now (Ds i)) (h0 : 0 ≤ now) (h1 : now ≤ 9223372036854775807) (hc : 1 ≤ cost) (hc' : cost ≤ 1000)
    (ht : (Lit.int .u16 t).wf = true) (hu : (Lit.int .u16 u).wf = true) (hr : (Lit.int .u16 r).wf = true) :
    Calls Try.prog 20 #[.pointer (some ⟨g.mb, 0, none⟩), .agg #[.int .u16 t, .int .u16 u, .int .u16 r], .int .i64 cost] w fun e w' =>
      e = .returned (.tuple #[.agg (repV (allowD g.p g.sl (Ds i) now cost t u r).1).toArray, .int .i64 0]) ∧ MtrAt w' g now (fun j => if j = i then (allowD g.p g.sl (Ds i) now cost t u r).2 else Ds j) ∧ (∃ x ∈ g.sd, Chg [x.2] w w') ∧ Inv now (allowD g.p g.sl (Ds i) now cost t u r).2 := by
  have hil : i < g.sd.length := by rw [ok.len]; have := Int.emod_lt_of_pos t (show (0 : Int) < g.n from by have := ok.n1; omega); omega
  obtain ⟨x, hx⟩ : ∃ x, g.sd[i]? = some x := ⟨_, List.getElem?_eq_getElem hil⟩
  have hxm := List.mem_of_getElem? hx
  have hs := hm.shards i x hx
  have hfm : MapAt w x.2 (Ds i) := hs.2
  refine (Allow_any g.mb g.ab g.n g.qb x.1 g.pb g.ob x.2 i (g.sd.map sptr) g.sl g.p t u r cost now (Ds i) w hm.meter hm.arr hi (by rw [List.getElem?_map, hx]; rfl) hs.1 hm.plan hs.2 (Ne.symm (ok.obd x hxm)) (by have := hinv.size; omega) ok.n1 ok.n4 ht hu hr ok.good (hinv.mark h0 h1) h0 h1 hc hc').mono ?_
  rintro e w' ⟨rfl, hd, hch⟩
  have nb : ∀ {b : Nat} {cs : Array Value} {t : TypeId} {fr : Nat × Nat}, w.heap[b]? = some (.cells cs t fr) → b ∉ [x.2] := fun hb => by simpa using MapAt.ne hs.2 hb
  have hob : g.ob ∉ [x.2] := by simpa using Ne.symm (ok.obd x hxm)
  refine ⟨rfl, ⟨hch.blk hm.meter (nb hm.meter), hch.blk hm.arr (nb hm.arr), fun j y hy => ?_, hm.plan.chg hch (nb hm.plan.1) hob⟩, ⟨x, hxm, hch⟩, ?_⟩
  · have hs' := hm.shards j y hy
    refine ⟨hch.blk hs'.1 (nb hs'.1), ?_⟩
    by_cases hj : j = i
    · subst hj
      rw [hx] at hy
      cases hy
      rw [if_pos rfl]
      exact hd
    · rw [if_neg hj]
      refine hs'.2.chg hch ?_
      have hnd := ok.apart
      have hjl := (List.getElem?_eq_some_iff.1 hy).1
      intro e
      simp at e
      have e1 : (g.sd.map (·.2))[j]? = some y.2 := by rw [List.getElem?_map, hy]; rfl
      have e2 : (g.sd.map (·.2))[i]? = some y.2 := by rw [List.getElem?_map, hx, e]; rfl
      exact hj ((List.getElem?_inj (by simpa using hjl) hnd).1 (e1.trans e2.symm))
  · exact hinv.allow ok.good h0 h1 hc ok.shi

/-- the blocks of a meter and its queue -/
def St.all (g : St) (s : Qs) : List Nat := [g.mb, g.ab, g.pb, g.ob] ++ g.sd.map (·.1) ++ g.sd.map (·.2) ++ s.fp
structure FullAt (w : World) (g : St) (s : Qs) (now : Int) (Ds : Nat → DW) : Prop where
  mtr : MtrAt w g now Ds
  q : QAt w s
  qb : s.qb = g.qb
  ob : s.xb ≠ g.ob
  sd : ∀ x ∈ g.sd, x.2 ≠ s.xb
theorem MtrAt.chgl {w w' : World} {g : St} {now : Int} {Ds : Nat → DW} {l : List Nat} (h : MtrAt w g now Ds) (hc : Chg l w w') (h1 : g.mb ∉ l) (h2 : g.ab ∉ l) (h3 : g.pb ∉ l) (h4 : g.ob ∉ l) (h5 : ∀ x : Nat × Nat, x ∈ g.sd → x.1 ∉ l ∧ x.2 ∉ l) : MtrAt w' g now Ds :=
  ⟨hc.blk h.meter h1, hc.blk h.arr h2, fun i x hx => ⟨hc.blk (h.shards i x hx).1 (h5 x (List.mem_of_getElem? hx)).1, (h.shards i x hx).2.chg hc (h5 x (List.mem_of_getElem? hx)).2⟩, h.plan.chg hc h3 h4⟩
theorem FullAt.chg {w w' : World} {g : St} {s : Qs} {now : Int} {Ds : Nat → DW} {l : List Nat} (h : FullAt w g s now Ds) (hc : Chg l w w') (hn : ∀ b ∈ g.all s, b ∉ l) : FullAt w' g s now Ds :=
  ⟨h.mtr.chgl hc (hn _ (by simp [St.all])) (hn _ (by simp [St.all])) (hn _ (by simp [St.all])) (hn _ (by simp [St.all])) (fun x hx => ⟨hn _ (by simp only [St.all, List.mem_append, List.mem_map]; exact Or.inl (Or.inl (Or.inr ⟨x, hx, rfl⟩))), hn _ (by simp only [St.all, List.mem_append, List.mem_map]; exact Or.inl (Or.inr ⟨x, hx, rfl⟩))⟩), h.q.chg hc (fun b hb => hn b (by simp only [St.all, List.mem_append]; exact Or.inr hb)), h.qb, h.ob, h.sd⟩
/-- what a queue's step turns is none of the meter's own blocks -/
theorem FullAt.far {w : World} {g : St} {s : Qs} {now : Int} {Ds : Nat → DW} (h : FullAt w g s now Ds) : g.mb ∉ s.fp ∧ g.ab ∉ s.fp ∧ g.pb ∉ s.fp ∧ g.ob ∉ s.fp ∧ ∀ (i : Nat) (x : Nat × Nat), g.sd[i]? = some x → x.1 ∉ s.fp ∧ x.2 ∉ s.fp := by
  have mp : ∀ {b : Nat} {es : Array MapEntry} {ck : Nat}, w.heap[b]? = some (.map es ck) → b ≠ s.xb → b ∉ s.fp := fun hb hx hm => by
    simp only [Qs.fp, List.mem_append, List.mem_cons, List.not_mem_nil, or_false] at hm
    rcases hm with ((rfl | rfl | rfl) | hm) | hm
    · have := h.q.blk; unfold qblk at this; rw [hb] at this; cases this
    · have := h.q.trn.blk; rw [hb] at this; cases this
    · exact hx rfl
    · obtain ⟨xs, hx'⟩ := h.q.trn.row.blk (mem_own.1 hm); rw [hb] at hx'; cases hx'
    · obtain ⟨xs, hx'⟩ := h.q.row.blk (mem_own.1 hm); rw [hb] at hx'; cases hx'
  refine ⟨fp_ty h.q h.mtr.meter (by decide) (by decide) (by decide) (by decide), fp_ty h.q h.mtr.arr (by decide) (by decide) (by decide) (by decide), fp_ty h.q h.mtr.plan.1 (by decide) (by decide) (by decide) (by decide), ?_, fun i x hx => ⟨fp_ty h.q (h.mtr.shards i x hx).1 (by decide) (by decide) (by decide) (by decide), ?_⟩⟩
  · obtain ⟨n, es, ck, hb, _⟩ := h.mtr.plan.2
    exact mp hb (Ne.symm h.ob)
  · obtain ⟨n, es, ck, hb, _⟩ := (h.mtr.shards i x hx).2
    exact mp hb (h.sd x (List.mem_of_getElem? hx))
/-- the queue has gone a step -/
theorem FullAt.step {w w' : World} {g : St} {s s' : Qs} {now : Int} {Ds : Nat → DW} (h : FullAt w g s now Ds) (hc : Chg s.fp w w') (hq : QAt w' s') (hs : SameQ s s') : FullAt w' g s' now Ds := by
  obtain ⟨f1, f2, f3, f4, f5⟩ := h.far
  exact ⟨h.mtr.chgl hc f1 f2 f3 f4 (fun x hx => by obtain ⟨i, hi⟩ := List.getElem?_of_mem hx; exact f5 i x hi), hq, hs.qb.trans h.qb, by rw [hs.xb]; exact h.ob, by rw [hs.xb]; exact h.sd⟩
end Go.Proofs.Ytbdnhllhdjepcaa
