import Derived.Test.YtbdnhllhdjepcaaPolled
namespace Go.Proofs.Ytbdnhllhdjepcaa
set_option linter.unusedVariables false
set_option linter.unusedSimpArgs false
open Go.RowKit Go.Maps

/-- a meter that was just made, its queue at hand -/
structure IsNewQ (w w' : World) (mb ab n : Nat) (s : Qs) (ev de qu : Int) : Prop where
  mtr : MeterAt w' mb 0 ab n s.qb
  at_ : QAt w' s
  ev : s.ev = ev
  de : s.de = de
  qu : s.qu = qu
  D : s.D = .map []
  ws : s.ws = []
  es : s.es = []
  n0 : s.n = 0
  chg : Chg [] w w'
  fp : ∀ b ∈ s.fp, w.heap.size ≤ b
  mlo : w.heap.size ≤ mb
theorem isNewQ_of {w w' : World} {mb n : Nat} {sl : Int} {p : Pln} {ev de qu : Int} {ab qb tb xb pb ob : Nat} {sd : List (Nat × Nat)} (h : MtrNew w w' mb n sl p ev de qu ab qb tb xb pb ob sd) :
    IsNewQ w w' mb ab n ⟨qb, tb, xb, 0, ev, de, qu, .map [], .slice none 0 0, [], .slice none 0 0, []⟩ ev de qu := by
  refine ⟨h.meter, ⟨h.queue.1, ⟨h.queue.2.1, ⟨#[], 0, h.queue.2.2, ⟨by simp, MapKept.stamped_empty 0, by simp⟩, Nat.le_refl _, rfl⟩, ⟨rfl, by simp [ecells], .inl ⟨rfl, rfl⟩⟩, by simp [EWf]⟩, ⟨rfl, by simp [icells], .inl ⟨rfl, rfl⟩⟩, by simp [Sorted]⟩, rfl, rfl, rfl, rfl, rfl, rfl, rfl, h.chg, fun b hb => ?_, h.mlo⟩
  simp only [Qs.fp, own, Value.ownBlock, Option.toList, List.append_nil, List.mem_cons, List.not_mem_nil, or_false] at hb
  rcases hb with rfl | rfl | rfl
  · exact h.qlo
  · exact h.tlo
  · exact h.xlo
theorem IsNewQ.pre {w w0 w' : World} {mb ab n : Nat} {s : Qs} {ev de qu : Int} (h : IsNewQ w0 w' mb ab n s ev de qu) (hc : Chg [] w w0) : IsNewQ w w' mb ab n s ev de qu :=
  ⟨h.mtr, h.at_, h.ev, h.de, h.qu, h.D, h.ws, h.es, h.n0, hc.trans h.chg (by simp), fun b hb => Nat.le_trans hc.size (h.fp b hb), Nat.le_trans hc.size h.mlo⟩
set_option maxRecDepth 100000 in
set_option maxHeartbeats 1000000 in
theorem freshq_any (c0 p0 b0 c1 p1 b1 c2 p2 b2 sl ev de qu : Int) (n : Nat) (w : World) (hq0 : QOk c0 p0 b0) (hq1 : QOk c1 p1 b1) (hq2 : QOk c2 p2 b2) (h1 : 1 ≤ n) (h2 : n ≤ 4) (h3 : 3 ≤ sl) (h4 : sl ≤ 64) (h5 : 1 ≤ ev) (h6 : ev ≤ 4611686018427387904) (h7 : 0 ≤ de) (h8 : de ≤ 4611686018427387904) (h9 : 0 ≤ qu) (h10 : qu ≤ 50) :
    Calls Try.prog 12 #[.agg #[.int .i64 c0, .int .i64 p0, .int .i64 b0, .int .i64 c1, .int .i64 p1, .int .i64 b1, .int .i64 c2, .int .i64 p2, .int .i64 b2, .slice none 0 0, .int .i64 n, .int .i64 sl, .int .i64 ev, .int .i64 de, .int .i64 qu]] w fun e w' => ∃ mb ab s, e = .returned (.tuple #[.pointer (some ⟨mb, 0, none⟩), .bool true]) ∧ IsNewQ w w' mb ab n s ev de qu := by
  go_enter Try.func12, Try.ntmps12
  go_wp2_with fail
  refine (New_nil c0 p0 b0 c1 p1 b1 c2 p2 b2 sl ev de qu n _ hq0 hq1 hq2 h1 h2 h3 h4 h5 h6 h7 h8 h9 h10).mono ?_
  rintro e w' ⟨mb, ab, qb, tb, xb, pb, ob, sd, rfl, h⟩
  have hg : Hid (IsNewQ w w' mb ab n _ ev de qu) := (isNewQ_of h).pre ((Chg.refl _ _).alloc _)
  clear h
  go_wp2
  go_ret2
  exact ⟨mb, ab, _, rfl, hg.out⟩
end Go.Proofs.Ytbdnhllhdjepcaa
