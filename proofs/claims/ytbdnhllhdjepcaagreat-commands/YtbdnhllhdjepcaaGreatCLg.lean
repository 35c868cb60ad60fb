import Derived.Test.YtbdnhllhdjepcaaGreatCRm
import Derived.Test.YtbdnhllhdjepcaaGreatCSa
namespace Go.Proofs.YtbdnhllhdjepcaaGreat
set_option linter.unusedVariables false
set_option linter.unusedSimpArgs false
open Go.RowKit Go.Maps

/-! ### a meter and its queue -/
theorem MAdvanceC (g : St) (now d : Int) (Ds : Nat → DW) (w : World) (hm : MtrAt w g now Ds) (ok : g.Ok) (h0 : 0 ≤ now) (h1 : now ≤ 9223372036854775807) (h2 : 0 ≤ d) (h3 : d ≤ 9223372036854775807) :
    Calls Tryz.prog 22 #[.pointer (some ⟨g.mb, 0, none⟩), .int .i64 d] w fun e w' => e = .returned (.int .i64 0) ∧ MtrAt w' g (min (now + d) 9223372036854775807) Ds ∧ Chg [g.mb] w w' := by
  refine (Advance_any g.mb g.ab g.n g.qb now d w hm.meter h0 h1 h2 h3).mono ?_
  rintro e w' ⟨rfl, hm', hc⟩
  have nb : ∀ {b : Nat} {cs : Array Value} {t : TypeId} {fr : Nat × Nat}, w.heap[b]? = some (.cells cs t fr) → t ≠ 93 → b ≠ g.mb := fun hb ht e => by
    have := hm.meter; unfold MeterAt at this; rw [e, this] at hb; simp at hb; exact ht hb.2.1.symm
  have nm : ∀ {b : Nat} {es : Array MapEntry} {ck : Nat}, w.heap[b]? = some (.map es ck) → b ≠ g.mb := fun hb e => by
    have := hm.meter; unfold MeterAt at this; rw [e, this] at hb; cases hb
  refine ⟨rfl, ⟨hm', hc.blk hm.arr (by simpa using nb hm.arr (by decide)), fun i x hx => ?_, ?_⟩, hc⟩
  · have hs := hm.shards i x hx
    refine ⟨hc.blk hs.1 (by simpa using nb hs.1 (by decide)), hs.2.chg hc ?_⟩
    obtain ⟨n, es, ck, hb, r⟩ := hs.2
    simpa using nm hb
  · refine hm.plan.chg hc (by simpa using nb hm.plan.1 (by decide)) ?_
    obtain ⟨n, es, ck, hb, r⟩ := hm.plan.2
    simpa using nm hb

theorem MAllowC (g : St) (now cost t u r : Int) (Ds : Nat → DW) (i : Nat) (w : World) (hm : MtrAt w g now Ds) (ok : g.Ok) (hi : t % (g.n : Int) = (i : Int)) (hinv : Inv now (Ds i)) (h0 : 0 ≤ now) (h1 : now ≤ 9223372036854775807) (hc : 1 ≤ cost) (hc' : cost ≤ 1000)
    (ht : (Lit.int .u16 t).wf = true) (hu : (Lit.int .u16 u).wf = true) (hr : (Lit.int .u16 r).wf = true) :
    Calls Tryz.prog 21 #[.pointer (some ⟨g.mb, 0, none⟩), .agg #[.int .u16 t, .int .u16 u, .int .u16 r], .int .i64 cost] w fun e w' =>
      e = .returned (.tuple #[.agg (repV (allowD g.p g.sl (Ds i) now cost t u r).1).toArray, .int .i64 0]) ∧ MtrAt w' g now (fun j => if j = i then (allowD g.p g.sl (Ds i) now cost t u r).2 else Ds j) ∧ (∃ x ∈ g.sd, Chg [x.2] w w') ∧ Inv now (allowD g.p g.sl (Ds i) now cost t u r).2 := by
  have hil : i < g.sd.length := by rw [ok.len]; have := Int.emod_lt_of_pos t (show (0 : Int) < g.n from by have := ok.n1; omega); omega
  obtain ⟨x, hx⟩ : ∃ x, g.sd[i]? = some x := ⟨_, List.getElem?_eq_getElem hil⟩
  have hxm := List.mem_of_getElem? hx
  have hs := hm.shards i x hx
  have hfm : MapAt w x.2 (Ds i) := hs.2
  refine (Allow_any g.mb g.ab g.n g.qb x.1 g.pb g.ob x.2 i (g.sd.map sptr) g.sl g.p t u r cost now (Ds i) w hm.meter hm.arr hi (by rw [List.getElem?_map, hx]; rfl) hs.1 hm.plan hs.2 (Ne.symm (ok.obd x hxm)) (by have := hinv.size; omega) ok.n1 ok.n4 ht hu hr ok.good (hinv.mark h0 h1) h0 h1 hc hc').mono ?_
  rintro e w' ⟨rfl, hd, hch⟩
  have nb : ∀ {b : Nat} {cs : Array Value} {t : TypeId} {fr : Nat × Nat}, w.heap[b]? = some (.cells cs t fr) → b ∉ [x.2] := fun hb => by simpa using MapAt.ne hs.2 hb
  have hob : g.ob ∉ [x.2] := by simpa using Ne.symm (ok.obd x hxm)
  refine ⟨rfl, ⟨hch.blk hm.meter (nb hm.meter), hch.blk hm.arr (nb hm.arr), fun j y hy => ?_, hm.plan.chg hch (nb hm.plan.1) hob⟩, ⟨x, hxm, hch⟩, ?_⟩
  · have hs' := hm.shards j y hy
    refine ⟨hch.blk hs'.1 (nb hs'.1), ?_⟩
    by_cases hj : j = i
    · subst hj
      rw [hx] at hy
      cases hy
      rw [if_pos rfl]
      exact hd
    · rw [if_neg hj]
      refine hs'.2.chg hch ?_
      have hnd := ok.apart
      have hjl := (List.getElem?_eq_some_iff.1 hy).1
      intro e
      simp at e
      have e1 : (g.sd.map (·.2))[j]? = some y.2 := by rw [List.getElem?_map, hy]; rfl
      have e2 : (g.sd.map (·.2))[i]? = some y.2 := by rw [List.getElem?_map, hx, e]; rfl
      exact hj ((List.getElem?_inj (by simpa using hjl) hnd).1 (e1.trans e2.symm))
  · exact hinv.allow ok.good h0 h1 hc ok.shi

/-- the blocks of a meter and its queue -/
def St.all (g : St) (s : Qs) : List Nat := [g.mb, g.ab, g.pb, g.ob] ++ g.sd.map (·.1) ++ g.sd.map (·.2) ++ s.fp
structure FullAt (w : World) (g : St) (s : Qs) (now : Int) (Ds : Nat → DW) : Prop where
  mtr : MtrAt w g now Ds
  q : QAt w s
  qb : s.qb = g.qb
  ob : s.xb ≠ g.ob
  sd : ∀ x ∈ g.sd, x.2 ≠ s.xb
theorem MtrAt.chgl {w w' : World} {g : St} {now : Int} {Ds : Nat → DW} {l : List Nat} (h : MtrAt w g now Ds) (hc : Chg l w w') (h1 : g.mb ∉ l) (h2 : g.ab ∉ l) (h3 : g.pb ∉ l) (h4 : g.ob ∉ l) (h5 : ∀ x : Nat × Nat, x ∈ g.sd → x.1 ∉ l ∧ x.2 ∉ l) : MtrAt w' g now Ds :=
  ⟨hc.blk h.meter h1, hc.blk h.arr h2, fun i x hx => ⟨hc.blk (h.shards i x hx).1 (h5 x (List.mem_of_getElem? hx)).1, (h.shards i x hx).2.chg hc (h5 x (List.mem_of_getElem? hx)).2⟩, h.plan.chg hc h3 h4⟩
theorem FullAt.chg {w w' : World} {g : St} {s : Qs} {now : Int} {Ds : Nat → DW} {l : List Nat} (h : FullAt w g s now Ds) (hc : Chg l w w') (hn : ∀ b ∈ g.all s, b ∉ l) : FullAt w' g s now Ds :=
  ⟨h.mtr.chgl hc (hn _ (by simp [St.all])) (hn _ (by simp [St.all])) (hn _ (by simp [St.all])) (hn _ (by simp [St.all])) (fun x hx => ⟨hn _ (by simp only [St.all, List.mem_append, List.mem_map]; exact Or.inl (Or.inl (Or.inr ⟨x, hx, rfl⟩))), hn _ (by simp only [St.all, List.mem_append, List.mem_map]; exact Or.inl (Or.inr ⟨x, hx, rfl⟩))⟩), h.q.chg hc (fun b hb => hn b (by simp only [St.all, List.mem_append]; exact Or.inr hb)), h.qb, h.ob, h.sd⟩
/-- what a queue's step turns is none of the meter's own blocks -/
theorem FullAt.far {w : World} {g : St} {s : Qs} {now : Int} {Ds : Nat → DW} (h : FullAt w g s now Ds) : g.mb ∉ s.fp ∧ g.ab ∉ s.fp ∧ g.pb ∉ s.fp ∧ g.ob ∉ s.fp ∧ ∀ (i : Nat) (x : Nat × Nat), g.sd[i]? = some x → x.1 ∉ s.fp ∧ x.2 ∉ s.fp := by
  have mp : ∀ {b : Nat} {es : Array MapEntry} {ck : Nat}, w.heap[b]? = some (.map es ck) → b ≠ s.xb → b ∉ s.fp := fun hb hx hm => by
    simp only [Qs.fp, List.mem_append, List.mem_cons, List.not_mem_nil, or_false] at hm
    rcases hm with ((rfl | rfl | rfl) | hm) | hm
    · have := h.q.blk; unfold qblk at this; rw [hb] at this; cases this
    · have := h.q.trn.blk; rw [hb] at this; cases this
    · exact hx rfl
    · obtain ⟨xs, hx'⟩ := h.q.trn.row.blk (mem_own.1 hm); rw [hb] at hx'; cases hx'
    · obtain ⟨xs, hx'⟩ := h.q.row.blk (mem_own.1 hm); rw [hb] at hx'; cases hx'
  refine ⟨fp_ty h.q h.mtr.meter (by decide) (by decide) (by decide) (by decide), fp_ty h.q h.mtr.arr (by decide) (by decide) (by decide) (by decide), fp_ty h.q h.mtr.plan.1 (by decide) (by decide) (by decide) (by decide), ?_, fun i x hx => ⟨fp_ty h.q (h.mtr.shards i x hx).1 (by decide) (by decide) (by decide) (by decide), ?_⟩⟩
  · obtain ⟨n, es, ck, hb, _⟩ := h.mtr.plan.2
    exact mp hb (Ne.symm h.ob)
  · obtain ⟨n, es, ck, hb, _⟩ := (h.mtr.shards i x hx).2
    exact mp hb (h.sd x (List.mem_of_getElem? hx))
/-- the queue has gone a step -/
theorem FullAt.step {w w' : World} {g : St} {s s' : Qs} {now : Int} {Ds : Nat → DW} (h : FullAt w g s now Ds) (hc : Chg s.fp w w') (hq : QAt w' s') (hs : SameQ s s') : FullAt w' g s' now Ds := by
  obtain ⟨f1, f2, f3, f4, f5⟩ := h.far
  exact ⟨h.mtr.chgl hc f1 f2 f3 f4 (fun x hx => by obtain ⟨i, hi⟩ := List.getElem?_of_mem hx; exact f5 i x hi), hq, hs.qb.trans h.qb, by rw [hs.xb]; exact h.ob, by rw [hs.xb]; exact h.sd⟩
end Go.Proofs.YtbdnhllhdjepcaaGreat
namespace Go.Proofs.YtbdnhllhdjepcaaGreat
set_option linter.unusedVariables false
set_option linter.unusedSimpArgs false
open Go.RowKit Go.Maps

/-! ### a meter is made, with overrides -/
structure NewG (w w' : World) (g : St) (s : Qs) (c : Cf) (os : List Ov) : Prop where
  f : FullAt w' g s 0 (fun _ => .map [])
  ok : g.Ok
  lo : ∀ b ∈ g.all s, w.heap.size ≤ b
  p : g.p = plnTo c os os.length
  sl : g.sl = c.sl
  n : (g.n : Int) = c.sh
  e : s.ev = c.ev ∧ s.de = c.de ∧ s.qu = c.qu
  ws : s.ws = []
  D : s.D = .map []
  es : s.es = []
  n0 : s.n = 0
theorem newG_of {w w' : World} {mb n : Nat} {c : Cf} {os : List Ov} {ab qb tb xb pb ob : Nat} {sd : List (Nat × Nat)} (hn : (n : Int) = c.sh) (h : MtrNew w w' mb n c.sl (plnTo c os os.length) c.ev c.de c.qu ab qb tb xb pb ob sd) (hp : PlOk c os) :
    NewG w w' ⟨w.heap.size, w'.heap.size, mb, ab, n, qb, pb, ob, sd, c.sl, plnTo c os os.length⟩ ⟨qb, tb, xb, 0, c.ev, c.de, c.qu, .map [], .slice none 0 0, [], .slice none 0 0, []⟩ c os := by
  have hsz := hp.sz
  unfold szOk at hsz
  refine ⟨⟨⟨h.meter, h.arr, fun i x hx => ?_, h.plan⟩, ⟨h.queue.1, ⟨h.queue.2.1, ⟨#[], 0, h.queue.2.2, ⟨by simp, MapKept.stamped_empty 0, by simp⟩, Nat.le_refl _, rfl⟩, ⟨rfl, by simp [ecells], .inl ⟨rfl, rfl⟩⟩, by simp [EWf]⟩, ⟨rfl, by simp [icells], .inl ⟨rfl, rfl⟩⟩, by simp [Sorted]⟩, rfl, h.xbo, h.xbd⟩, ⟨h.len, by simp only; omega, by simp only; omega, h.apart, h.obd, ⟨h.mlo, lt_of_block h.meter⟩, ⟨h.alo, lt_of_block h.arr⟩, ⟨h.plo, lt_of_block h.plan.1⟩, ⟨h.olo, h.plan.2.elim fun _ hm => hm.lt⟩, fun x hx => ⟨⟨(h.shards x hx).2.2.1, lt_of_block (h.shards x hx).1⟩, ⟨(h.shards x hx).2.2.2, lt_of_block (h.shards x hx).2.1⟩⟩, by simp only; omega, by simp only; omega, fun L l => pln_good hp L l _ (Nat.le_refl _)⟩, fun b hb => ?_, rfl, rfl, hn, ⟨rfl, rfl, rfl⟩, rfl, rfl, rfl, rfl⟩
  · have hx' := h.shards x (List.mem_of_getElem? hx)
    exact ⟨hx'.1, 0, #[], 0, hx'.2.1, ⟨by simp, MapKept.stamped_empty 0, by simp⟩, Nat.le_refl _, rfl⟩
  · simp only [St.all, Qs.fp, own, Value.ownBlock, Option.toList, List.append_nil, List.mem_append, List.mem_cons, List.not_mem_nil, or_false, List.mem_map] at hb
    rcases hb with (((rfl | rfl | rfl | rfl) | ⟨x, hx, rfl⟩) | ⟨x, hx, rfl⟩) | (rfl | rfl | rfl)
    · exact h.mlo
    · exact h.alo
    · exact h.plo
    · exact h.olo
    · exact (h.shards x hx).2.2.1
    · exact (h.shards x hx).2.2.2
    · exact h.qlo
    · exact h.tlo
    · exact h.xlo
def NewM (w w' : World) (c : Cf) (os : List Ov) (e : Ending) : Prop := Chg [] w w' ∧ (CfOk c os → ∃ g s, e = .returned (.tuple #[.pointer (some ⟨g.mb, 0, none⟩), .int .i64 0]) ∧ NewG w w' g s c os) ∧ (¬ CfOk c os → e = .returned (.tuple #[.pointer none, .int .i64 1]))
set_option maxRecDepth 100000 in
set_option maxHeartbeats 4000000 in
theorem new_any (c : Cf) (la : Option Addr) (lb lof cap : Nat) (os : List Ov) (w : World) (h : OvsAt w la lb lof os) (hok : ∀ o ∈ os, o.Ok) (hc : c.Ok) :
    Calls Tryz.prog 20 #[.agg #[.int .i64 c.c0, .int .i64 c.p0, .int .i64 c.b0, .int .i64 c.c1, .int .i64 c.p1, .int .i64 c.b1, .int .i64 c.c2, .int .i64 c.p2, .int .i64 c.b2, .slice la os.length cap, .int .i64 c.sh, .int .i64 c.sl, .int .i64 c.ev, .int .i64 c.de, .int .i64 c.qu]] w fun e w' => NewM w w' c os e := by
  have HPo : Hid (∀ W, Chg [] w W → Calls Tryz.prog 49 #[.agg #[.int .i64 c.c0, .int .i64 c.p0, .int .i64 c.b0, .int .i64 c.c1, .int .i64 c.p1, .int .i64 c.b1, .int .i64 c.c2, .int .i64 c.p2, .int .i64 c.b2, .slice la os.length cap, .int .i64 c.sh, .int .i64 c.sl, .int .i64 c.ev, .int .i64 c.de, .int .i64 c.qu]] W fun e w' => PofP W w' c os e) := fun W hW => planOf_any c la lb lof cap os W (h.chg hW (by simp)) hok hc
  by_cases hcf : CfOk c os
  · have hpl := (plOk_iff hok).2 hcf
    obtain ⟨n, hn⟩ : ∃ n : Nat, (n : Int) = c.sh := ⟨c.sh.toNat, by have := hcf.sh; omega⟩
    have h1 := hcf.sh
    have h2 := hcf.sl
    have h3 := hcf.ev
    have h4 := hcf.de
    have h5 := hcf.qu
    have HPl : Hid (∀ W, Chg [] w W → Calls Tryz.prog 49 #[.agg #[.int .i64 c.c0, .int .i64 c.p0, .int .i64 c.b0, .int .i64 c.c1, .int .i64 c.p1, .int .i64 c.b1, .int .i64 c.c2, .int .i64 c.p2, .int .i64 c.b2, .slice la os.length cap, .int .i64 n, .int .i64 c.sl, .int .i64 c.ev, .int .i64 c.de, .int .i64 c.qu]] W fun e w' => ∃ pb ob : Nat, e = .returned (.tuple #[.pointer (some ⟨pb, 0, none⟩), .int .i64 0]) ∧ PlanAt w' pb ob (plnTo c os os.length) ∧ Chg [] W w' ∧ W.heap.size ≤ pb ∧ W.heap.size ≤ ob) := fun W hW => by
      rw [hn]
      refine (HPo.out W hW).mono ?_
      rintro e w' ⟨z1, z2, _⟩
      obtain ⟨pb, ob, m, z3, z4, z5, z6⟩ := z2 hpl
      exact ⟨pb, ob, z3, z4.at_, z1, z5, z6⟩
    have := New_ok c.c0 c.p0 c.b0 c.c1 c.p1 c.b1 c.c2 c.p2 c.b2 c.sl c.ev c.de c.qu n la os.length cap (plnTo c os os.length) w HPl (by omega) (by omega) h2.1 h2.2 h3.1 h3.2 h4.1 h4.2 h5.1 h5.2
    rw [hn] at this
    refine this.mono ?_
    rintro e w' ⟨mb, ab, qb, tb, xb, pb, ob, sd, rfl, hm⟩
    exact ⟨hm.chg, fun _ => ⟨_, _, rfl, newG_of hn hm hpl⟩, fun hn' => absurd hcf hn'⟩
  · have HN : Hid (¬ CfOk c os) := hcf
    have HNP : Hid (¬ PlOk c os) := fun h => hcf ((plOk_iff hok).1 h)
    clear hcf
    go_enter Tryz.func20, Tryz.ntmps20
    go_wp2_with fail
    refine (HPo.out _ ((Chg.refl _ _).alloc _)).mono ?_
    rintro e w1 ⟨z1, _, z3⟩
    obtain rfl := z3 HNP.out
    have HC : Hid (Chg [] w w1) := ((Chg.refl _ _).alloc _).trans z1 (by simp)
    clear z1 z3
    go_wp2
    go_ret2
    exact ⟨HC.out, fun h => absurd h HN.out, fun _ => rfl⟩
end Go.Proofs.YtbdnhllhdjepcaaGreat
namespace Go.Proofs.YtbdnhllhdjepcaaGreat
set_option linter.unusedVariables false
set_option linter.unusedSimpArgs false
open Go.RowKit Go.Maps

/-! ### meterlaw: small functions -/
def spareO : Ov := ⟨9, 9, 0, 0, 0, 0, 0⟩
set_option maxRecDepth 100000 in
theorem spare_any (w : World) : Calls Tryz.prog 81 #[] w fun e w' => e = .returned (.agg #[.int .i64 9, .int .u16 9, .int .u16 0, .int .u16 0, .int .i64 0, .int .i64 0, .int .i64 0]) ∧ Chg [] w w' := by
  go_enter Tryz.func81, Tryz.ntmps81
  go_wp2
  exact bodyPost_ret (v := .agg #[.int .i64 9, .int .u16 9, .int .u16 0, .int .u16 0, .int .i64 0, .int .i64 0, .int .i64 0]) (by simp [results, Tryz.results81, go_sem]) rfl ⟨rfl, (Chg.refl _ _).alloc _⟩
set_option maxRecDepth 100000 in
theorem num_any (x : Int) (w : World) : Calls Tryz.prog 35 #[.int .i64 x] w fun e w' => e = .returned (.int .i64 x) ∧ w' = w := by
  go_enter Tryz.func35, Tryz.ntmps35
  go_wp2
  go_ret
  exact ⟨rfl, rfl⟩
set_option maxRecDepth 100000 in
theorem what_any (x : Int) (w : World) : Calls Tryz.prog 39 #[.int .i64 x] w fun e w' => e = .returned (.int .i64 x) ∧ w' = w := by
  go_enter Tryz.func39, Tryz.ntmps39
  go_wp2
  go_ret
  exact ⟨rfl, rfl⟩
abbrev ovV (o : Ov) : Value := .agg #[.int .i64 o.L, .int .u16 o.t, .int .u16 o.u, .int .u16 o.r, .int .i64 o.c, .int .i64 o.p, .int .i64 o.b]
set_option maxRecDepth 100000 in
set_option maxHeartbeats 2000000 in
theorem sameOver_refl (o : Ov) (w : World) : Calls Tryz.prog 82 #[ovV o, ovV o] w fun e w' => e = .returned (.bool true) ∧ Chg [] w w' := by
  go_enter Tryz.func82, Tryz.ntmps82
  go_wp2
  all_goals
    go_ret
    exact ⟨by simp, ((Chg.refl _ _).alloc _).alloc _⟩
end Go.Proofs.YtbdnhllhdjepcaaGreat
namespace Go.Proofs.YtbdnhllhdjepcaaGreat
set_option linter.unusedVariables false
set_option linter.unusedSimpArgs false
open Go.RowKit Go.Maps

/-! ### a config is given -/
theorem load33 {W : World} {b : Nat} (c : Cf) {la : Option Addr} {n cap : Nat} (h : W.heap[b]? = some (.cells (cfc c (.slice la n cap)).toArray 33 (0, 0))) : (loadVar 33 ⟨b, 0, none⟩).run Tryz.prog W = .ok (.agg #[.int .i64 c.c0, .int .i64 c.p0, .int .i64 c.b0, .int .i64 c.c1, .int .i64 c.p1, .int .i64 c.b1, .int .i64 c.c2, .int .i64 c.p2, .int .i64 c.b2, .slice la n cap, .int .i64 c.sh, .int .i64 c.sl, .int .i64 c.ev, .int .i64 c.de, .int .i64 c.qu]) W := by
  have c0 := blk_cell (i := 0) h rfl
  have c1 := blk_cell (i := 1) h rfl
  have c2 := blk_cell (i := 2) h rfl
  have c3 := blk_cell (i := 3) h rfl
  have c4 := blk_cell (i := 4) h rfl
  have c5 := blk_cell (i := 5) h rfl
  have c6 := blk_cell (i := 6) h rfl
  have c7 := blk_cell (i := 7) h rfl
  have c8 := blk_cell (i := 8) h rfl
  have c9 := blk_cell (i := 9) h rfl
  have c10 := blk_cell (i := 10) h rfl
  have c11 := blk_cell (i := 11) h rfl
  have c12 := blk_cell (i := 12) h rfl
  have c13 := blk_cell (i := 13) h rfl
  have c14 := blk_cell (i := 14) h rfl
  simp [go_sem, c0, c1, c2, c3, c4, c5, c6, c7, c8, c9, c10, c11, c12, c13, c14]
def spares : List Ov := [spareO, spareO, spareO]
def GivenP (w w' : World) (c : Cf) (os : List Ov) (e : Ending) : Prop := ∃ (lb lof capg : Nat), e = .returned (.agg #[.int .i64 c.c0, .int .i64 c.p0, .int .i64 c.b0, .int .i64 c.c1, .int .i64 c.p1, .int .i64 c.b1, .int .i64 c.c2, .int .i64 c.p2, .int .i64 c.b2, .slice (some ⟨lb, lof, none⟩) os.length capg, .int .i64 c.sh, .int .i64 c.sl, .int .i64 c.ev, .int .i64 c.de, .int .i64 c.qu]) ∧ Rw w' 158 7 (.slice (some ⟨lb, lof, none⟩) (os.length + 3) capg) (os.length + 3) (ovcells (os ++ spares)) ∧ w.heap.size ≤ lb ∧ Chg [] w w'
set_option maxRecDepth 100000 in
set_option maxHeartbeats 4000000 in
theorem given_any (c : Cf) (la : Option Addr) (lb lof cap : Nat) (os : List Ov) (w : World) (h : OvsAt w la lb lof os) (hlen : os.length ≤ 3518437208780) :
    Calls Tryz.prog 32 #[.agg #[.int .i64 c.c0, .int .i64 c.p0, .int .i64 c.b0, .int .i64 c.c1, .int .i64 c.p1, .int .i64 c.b1, .int .i64 c.c2, .int .i64 c.p2, .int .i64 c.b2, .slice la os.length cap, .int .i64 c.sh, .int .i64 c.sl, .int .i64 c.ev, .int .i64 c.de, .int .i64 c.qu]] w fun e w' => GivenP w w' c os e := by
  obtain ⟨wb, hwb⟩ : ∃ wb, wb = (w.alloc (.cells [.int .i64 c.c0, .int .i64 c.p0, .int .i64 c.b0, .int .i64 c.c1, .int .i64 c.p1, .int .i64 c.b1, .int .i64 c.c2, .int .i64 c.p2, .int .i64 c.b2, .slice la os.length cap, .int .i64 c.sh, .int .i64 c.sl, .int .i64 c.ev, .int .i64 c.de, .int .i64 c.qu].toArray 33)).alloc (.cells [.int .i64 0, .int .i64 0, .int .i64 0, .int .i64 0, .int .i64 0, .int .i64 0, .int .i64 0, .int .i64 0, .int .i64 0, .slice none 0 0, .int .i64 0, .int .i64 0, .int .i64 0, .int .i64 0, .int .i64 0].toArray 33) := ⟨_, rfl⟩
  have HBX : Hid (wb.heap[w.heap.size]? = some (.cells (cfc c (.slice la os.length cap)).toArray 33 (0, 0))) := hwb ▸ heap_alloc2_old _ _ _
  have HBR : Hid (wb.heap[w.heap.size + 1]? = some (.cells [.int .i64 0, .int .i64 0, .int .i64 0, .int .i64 0, .int .i64 0, .int .i64 0, .int .i64 0, .int .i64 0, .int .i64 0, .slice none 0 0, .int .i64 0, .int .i64 0, .int .i64 0, .int .i64 0, .int .i64 0].toArray 33 (0, 0))) := hwb ▸ heap_alloc2_new _ _ _
  have HCW : Hid (Chg [] w wb) := hwb ▸ ((Chg.refl _ _).alloc _).alloc _
  have hkw : (w.alloc (.cells #[.int .i64 c.c0, .int .i64 c.p0, .int .i64 c.b0, .int .i64 c.c1, .int .i64 c.p1, .int .i64 c.b1, .int .i64 c.c2, .int .i64 c.p2, .int .i64 c.b2, .slice la os.length cap, .int .i64 c.sh, .int .i64 c.sl, .int .i64 c.ev, .int .i64 c.de, .int .i64 c.qu] 33)).alloc (.cells #[.int .i64 0, .int .i64 0, .int .i64 0, .int .i64 0, .int .i64 0, .int .i64 0, .int .i64 0, .int .i64 0, .int .i64 0, .slice none 0 0, .int .i64 0, .int .i64 0, .int .i64 0, .int .i64 0, .int .i64 0] 33) = wb := hwb.symm
  clear hwb
  have b9 : wb.cell? ⟨w.heap.size, 9, none⟩ = some (.slice la os.length cap) := blk_cell (i := 9) HBX.out rfl
  obtain ⟨v1, w1, hr1, p1, p2, p3, la1, cap1, rfl⟩ := ov_copy (cap := cap) h hlen wb HCW.out
  have HR1 : Hid _ := hr1
  have HP1 : Hid (Rw w1 158 7 (.slice la1 os.length cap1) os.length (ovcells os) ∧ Chg [] wb w1 ∧ ∀ b ∈ own (.slice la1 os.length cap1), wb.heap.size ≤ b) := ⟨p1, p2, p3⟩
  clear hr1 p1 p2 p3 h
  go_enter Tryz.func32, Tryz.ntmps32
  go_wp2_with (at_builtin; refine Lib.wpList_append_run _ rfl _ _ _ _ rfl _ _ rfl rfl _ _ HR1.out ?_)
  refine (spare_any _).mono ?_
  rintro e w2 ⟨rfl, q2⟩
  have HC2 : Hid (Chg [] wb w2) := HP1.out.2.1.trans q2 (by simp)
  have HRW2 : Hid (Rw w2 158 7 (.slice la1 os.length cap1) os.length (ovcells os)) := HP1.out.1.chg q2 (by simp)
  have hA := heap_alloc2_new w2 (.cells [.int .i64 9, .int .u16 9, .int .u16 0, .int .u16 0, .int .i64 0, .int .i64 0, .int .i64 0].toArray 158) (.cells [.int .i64 9, .int .u16 9, .int .u16 0, .int .u16 0, .int .i64 0, .int .i64 0, .int .i64 0, .int .i64 9, .int .u16 9, .int .u16 0, .int .u16 0, .int .i64 0, .int .i64 0, .int .i64 0, .int .i64 9, .int .u16 9, .int .u16 0, .int .u16 0, .int .i64 0, .int .i64 0, .int .i64 0].toArray 158)
  have hcA : Chg [] wb ((w2.alloc (.cells [.int .i64 9, .int .u16 9, .int .u16 0, .int .u16 0, .int .i64 0, .int .i64 0, .int .i64 0].toArray 158)).alloc (.cells [.int .i64 9, .int .u16 9, .int .u16 0, .int .u16 0, .int .i64 0, .int .i64 0, .int .i64 0, .int .i64 9, .int .u16 9, .int .u16 0, .int .u16 0, .int .i64 0, .int .i64 0, .int .i64 0, .int .i64 9, .int .u16 9, .int .u16 0, .int .u16 0, .int .i64 0, .int .i64 0, .int .i64 0].toArray 158)) := (HC2.out.alloc _).alloc _
  have hRA : Rw ((w2.alloc (.cells [.int .i64 9, .int .u16 9, .int .u16 0, .int .u16 0, .int .i64 0, .int .i64 0, .int .i64 0].toArray 158)).alloc (.cells [.int .i64 9, .int .u16 9, .int .u16 0, .int .u16 0, .int .i64 0, .int .i64 0, .int .i64 0, .int .i64 9, .int .u16 9, .int .u16 0, .int .u16 0, .int .i64 0, .int .i64 0, .int .i64 0, .int .i64 9, .int .u16 9, .int .u16 0, .int .u16 0, .int .i64 0, .int .i64 0, .int .i64 0].toArray 158)) 158 7 (.slice la1 os.length cap1) os.length (ovcells os) := HRW2.out.chg (((Chg.refl [] _).alloc _).alloc _) (by simp)
  obtain ⟨wA, hwA⟩ : ∃ wA, wA = (w2.alloc (.cells [.int .i64 9, .int .u16 9, .int .u16 0, .int .u16 0, .int .i64 0, .int .i64 0, .int .i64 0].toArray 158)).alloc (.cells [.int .i64 9, .int .u16 9, .int .u16 0, .int .u16 0, .int .i64 0, .int .i64 0, .int .i64 0, .int .i64 9, .int .u16 9, .int .u16 0, .int .u16 0, .int .i64 0, .int .i64 0, .int .i64 0, .int .i64 9, .int .u16 9, .int .u16 0, .int .u16 0, .int .i64 0, .int .i64 0, .int .i64 0].toArray 158) := ⟨_, rfl⟩
  rw [← hwA] at hA hcA hRA
  have hkA : (w2.alloc (.cells #[.int .i64 9, .int .u16 9, .int .u16 0, .int .u16 0, .int .i64 0, .int .i64 0, .int .i64 0] 158)).alloc (.cells #[.int .i64 9, .int .u16 9, .int .u16 0, .int .u16 0, .int .i64 0, .int .i64 0, .int .i64 0, .int .i64 9, .int .u16 9, .int .u16 0, .int .u16 0, .int .i64 0, .int .i64 0, .int .i64 0, .int .i64 9, .int .u16 9, .int .u16 0, .int .u16 0, .int .i64 0, .int .i64 0, .int .i64 0] 158) = wA := hwA.symm
  have hsA : wA.heap.size = w2.heap.size + 2 := by rw [hwA]; simp
  clear hwA q2
  obtain ⟨i0, ek⟩ := ek158
  have hsp : ovcells spares = [.int .i64 9, .int .u16 9, .int .u16 0, .int .u16 0, .int .i64 0, .int .i64 0, .int .i64 0, .int .i64 9, .int .u16 9, .int .u16 0, .int .u16 0, .int .i64 0, .int .i64 0, .int .i64 0, .int .i64 9, .int .u16 9, .int .u16 0, .int .u16 0, .int .i64 0, .int .i64 0, .int .i64 0] := rfl
  obtain ⟨v3, w3, hr3, t1, t2, t3⟩ := run_app ek wA 31 (.slice la1 os.length cap1) os.length (ovcells os) hRA ⟨w2.heap.size + 1, 0, none⟩ 3 3 (ovcells spares) rfl (fun j x hj => by rw [Addr.add_mid, Nat.zero_add]; rw [hsp] at hj; exact blk_cell hA hj) (ovc_one spares) (by decide) (by omega)
  have hcat : ovcells os ++ ovcells spares = ovcells (os ++ spares) := by simp [ovcells]
  rw [hcat] at t1
  obtain ⟨lg, llb, llof, lcap, hv3, hl3, _, _, _⟩ := t1.laid
  obtain ⟨rfl, hob⟩ := hl3 (by omega)
  subst hv3
  have hncap : os.length + 3 ≤ lcap := by
    rcases t1.2.2 with ⟨hv, _⟩ | ⟨b', cap', P, R, hv, hg, hle, _⟩
    · cases hv
    · injection hv with _ _ e3
      omega
  have hlo3 : wb.heap.size ≤ llb := by
    rcases t3 with t3 | t3
    · have := HP1.out.2.2 llb (mem_own.2 (by rw [← t3]; exact hob))
      exact this
    · rw [hob] at t3
      cases t3
      have := HC2.out.size
      omega
  have HR3 : Hid _ := hr3
  have HT1 : Hid (Rw w3 158 7 (.slice (some ⟨llb, llof, none⟩) (os.length + 3) lcap) (os.length + 3) (ovcells (os ++ spares))) := t1
  have hg3 : Chg (own (.slice la1 os.length cap1)) wA w3 := Chg.of_grown t2 (fun b hb => mem_own.2 hb)
  have HC3 : Hid (Chg [] wb w3) := hcA.trans hg3 (fun j hj => Or.inr (HP1.out.2.2 j hj))
  have z1 := HC3.out.blk HBX.out (by simp)
  have z2 := HC3.out.blk HBR.out (by simp)
  have g0 := blk_cell (i := 0) z1 rfl
  have g1 := blk_cell (i := 1) z1 rfl
  have g2 := blk_cell (i := 2) z1 rfl
  have g3 := blk_cell (i := 3) z1 rfl
  have g4 := blk_cell (i := 4) z1 rfl
  have g5 := blk_cell (i := 5) z1 rfl
  have g6 := blk_cell (i := 6) z1 rfl
  have g7 := blk_cell (i := 7) z1 rfl
  have g8 := blk_cell (i := 8) z1 rfl
  have g9 := blk_cell (i := 9) z1 rfl
  have g10 := blk_cell (i := 10) z1 rfl
  have g11 := blk_cell (i := 11) z1 rfl
  have g12 := blk_cell (i := 12) z1 rfl
  have g13 := blk_cell (i := 13) z1 rfl
  have g14 := blk_cell (i := 14) z1 rfl
  have r0 := blk_cell (i := 0) z2 rfl
  have r1 := blk_cell (i := 1) z2 rfl
  have r2 := blk_cell (i := 2) z2 rfl
  have r3 := blk_cell (i := 3) z2 rfl
  have r4 := blk_cell (i := 4) z2 rfl
  have r5 := blk_cell (i := 5) z2 rfl
  have r6 := blk_cell (i := 6) z2 rfl
  have r7 := blk_cell (i := 7) z2 rfl
  have r8 := blk_cell (i := 8) z2 rfl
  have r9 := blk_cell (i := 9) z2 rfl
  have r10 := blk_cell (i := 10) z2 rfl
  have r11 := blk_cell (i := 11) z2 rfl
  have r12 := blk_cell (i := 12) z2 rfl
  have r13 := blk_cell (i := 13) z2 rfl
  have r14 := blk_cell (i := 14) z2 rfl
  have gf := fun i => blk_free (i := i) z1
  have rf := fun i => blk_free (i := i) z2
  have HZ1 : Hid _ := z1
  have HZ2 : Hid _ := z2
  have hz1 := lt_of_block z1
  have hz2 := lt_of_block z2
  have hwbs := lt_of_block HBR.out
  have hi1 : (os.length : Int) ≤ (lcap : Int) := by omega
  have hi0 : (0 : Int) ≤ (os.length : Int) := by omega
  clear hr3 t1 t2 t3 hg3 hRA hA hcA z1 z2 b9
  go_wp2_with (at_builtin; refine Lib.wpList_append_run _ rfl _ _ _ _ rfl _ _ rfl rfl _ _ HR3.out ?_)
  go_wp2
  have zf : (w3.setCell ⟨w.heap.size, 9, none⟩ (.slice (some ⟨llb, llof, none⟩) os.length lcap)).heap[w.heap.size + 1]? = some (.cells [.int .i64 0, .int .i64 0, .int .i64 0, .int .i64 0, .int .i64 0, .int .i64 0, .int .i64 0, .int .i64 0, .int .i64 0, .slice none 0 0, .int .i64 0, .int .i64 0, .int .i64 0, .int .i64 0, .int .i64 0].toArray 33 (0, 0)) := blk_set_far HZ2.out (by omega)
  have rr := (blk_set (i := 14) (.int .i64 c.qu) (blk_set (i := 13) (.int .i64 c.de) (blk_set (i := 12) (.int .i64 c.ev) (blk_set (i := 11) (.int .i64 c.sl) (blk_set (i := 10) (.int .i64 c.sh) (blk_set (i := 9) (.slice (some ⟨llb, llof, none⟩) os.length lcap) (blk_set (i := 8) (.int .i64 c.b2) (blk_set (i := 7) (.int .i64 c.p2) (blk_set (i := 6) (.int .i64 c.c2) (blk_set (i := 5) (.int .i64 c.b1) (blk_set (i := 4) (.int .i64 c.p1) (blk_set (i := 3) (.int .i64 c.c1) (blk_set (i := 2) (.int .i64 c.b0) (blk_set (i := 1) (.int .i64 c.p0) (blk_set (i := 0) (.int .i64 c.c0) zf)))))))))))))))
  have cc := (((((((((((((((((Chg.refl [w.heap.size, w.heap.size + 1] w3).set ⟨w.heap.size, 9, none⟩ (.slice (some ⟨llb, llof, none⟩) os.length lcap) (Or.inl (by simp))).set ⟨w.heap.size + 1, 0, none⟩ (.int .i64 c.c0) (Or.inl (by simp))).set ⟨w.heap.size + 1, 1, none⟩ (.int .i64 c.p0) (Or.inl (by simp))).set ⟨w.heap.size + 1, 2, none⟩ (.int .i64 c.b0) (Or.inl (by simp))).set ⟨w.heap.size + 1, 3, none⟩ (.int .i64 c.c1) (Or.inl (by simp))).set ⟨w.heap.size + 1, 4, none⟩ (.int .i64 c.p1) (Or.inl (by simp))).set ⟨w.heap.size + 1, 5, none⟩ (.int .i64 c.b1) (Or.inl (by simp))).set ⟨w.heap.size + 1, 6, none⟩ (.int .i64 c.c2) (Or.inl (by simp))).set ⟨w.heap.size + 1, 7, none⟩ (.int .i64 c.p2) (Or.inl (by simp))).set ⟨w.heap.size + 1, 8, none⟩ (.int .i64 c.b2) (Or.inl (by simp))).set ⟨w.heap.size + 1, 9, none⟩ (.slice (some ⟨llb, llof, none⟩) os.length lcap) (Or.inl (by simp))).set ⟨w.heap.size + 1, 10, none⟩ (.int .i64 c.sh) (Or.inl (by simp))).set ⟨w.heap.size + 1, 11, none⟩ (.int .i64 c.sl) (Or.inl (by simp))).set ⟨w.heap.size + 1, 12, none⟩ (.int .i64 c.ev) (Or.inl (by simp))).set ⟨w.heap.size + 1, 13, none⟩ (.int .i64 c.de) (Or.inl (by simp))).set ⟨w.heap.size + 1, 14, none⟩ (.int .i64 c.qu) (Or.inl (by simp)))
  refine bodyPost_ret (v := .agg #[.int .i64 c.c0, .int .i64 c.p0, .int .i64 c.b0, .int .i64 c.c1, .int .i64 c.p1, .int .i64 c.b1, .int .i64 c.c2, .int .i64 c.p2, .int .i64 c.b2, .slice (some ⟨llb, llof, none⟩) os.length lcap, .int .i64 c.sh, .int .i64 c.sl, .int .i64 c.ev, .int .i64 c.de, .int .i64 c.qu]) (results_cell1 rfl rfl (load33 c rr)) rfl ⟨llb, llof, lcap, rfl, HT1.out.chg cc (fun b hb => ?_), by omega, (HCW.out.trans HC3.out (by simp)).trans cc (fun j hj => ?_)⟩
  · cases hb
    simp only [List.mem_cons, List.not_mem_nil, or_false, not_or]
    omega
  · simp only [List.mem_cons, List.not_mem_nil, or_false] at hj
    exact Or.inr (by omega)
end Go.Proofs.YtbdnhllhdjepcaaGreat
