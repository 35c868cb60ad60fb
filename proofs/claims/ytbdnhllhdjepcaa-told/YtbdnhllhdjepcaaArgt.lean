import Derived.Test.YtbdnhllhdjepcaaRows
import Derived.Test.YtbdnhllhdjepcaaSpw
import Derived.ProofKit
import Derived.OpenShut
import Derived.ShutString
import Derived.ChangeOld
import Derived.Lib.SmallJoins
import Derived.Deep.Slices
namespace Go.Proofs.Ytbdnhllhdjepcaa
set_option linter.unusedVariables false
set_option linter.unusedSimpArgs false
open Go.ChangeShapes Go.WideShapes Go.ChangeAt Go.RowKit Go.Joins Go.Deep

theorem ownk : ownKnob Try.prog.godebug = none := by kernel_rfl
theorem cells23 : Try.prog.cellsOf 23 = 3 := by kernel_rfl
theorem cells38 : Try.prog.cellsOf 38 = 5 := by kernel_rfl
theorem bd_i64 {n : Int} (h : (Lit.int .i64 n).wf = true) : I64 n := by
  simp [Lit.wf, IntKind.min, IntKind.max, IntKind.signed, IntKind.bits] at h
  exact ⟨by omega, by omega⟩

section
variable {H : Type} {enc : TypeId × Value → H} {W : World}
theorem lst5 {cs : List Value} (h : cs.length = 5) : ∃ c0 c1 c2 c3 c4, cs = [c0, c1, c2, c3, c4] := by
  match cs, h with
  | [c0, c1, c2, c3, c4], _ => exact ⟨c0, c1, c2, c3, c4, rfl⟩
set_option maxRecDepth 100000 in
/-- a raw rate that came in -/
theorem open_rate {r : Reach} {b0 : Nat} {v : Value} {d : DataW H} {p : List MemPlace} (hv : Value.okWide Try.prog W r b0 23 v) (h : DataW.Trod enc Try.prog W 0 (fun _ => true) true 23 v d p) :
    ∃ x y z : Int, v = .agg #[.int .i64 x, .int .i64 y, .int .i64 z] ∧ I64 x ∧ I64 y ∧ I64 z := by
  obtain ⟨v0, v1, v2, y0, y1, y2, n, rfl, _, _, h0, h1, h2⟩ := open_agg3 Try.underlying23 (by kernel_rfl) cells23 hv h
  obtain ⟨x, e0, _, w0⟩ := DataW.trod_int Try.underlying3 h0
  obtain ⟨y, e1, _, w1⟩ := DataW.trod_int Try.underlying3 h1
  obtain ⟨z, e2, _, w2⟩ := DataW.trod_int Try.underlying3 h2
  simp at e0 e1 e2
  exact ⟨x, y, z, by rw [e0, e1, e2], bd_i64 w0, bd_i64 w1, bd_i64 w2⟩
theorem mem_lt {t : TypeId} {v : Value} {d : DataW H} {p : List MemPlace} (h : DataW.Trod enc Try.prog W 0 (fun _ => true) true t v d p) : ∀ x ∈ p, x.block < W.heap.size := by
  obtain ⟨m, hm⟩ := h
  exact DataW.trod_lt m _ _ _ hm
set_option maxRecDepth 100000 in
/-- a request that came in, as five cells -/
theorem open_ask {n : Nat} {cs : List Value} {x : DataW H × List MemPlace} (h : DataW.trod enc Try.prog W 0 (fun _ => true) true n 38 cs = some x) : ∃ q : Rq, q.Ok ∧ cs = [.int .i64 q.a, .int .i64 q.t, .int .i64 q.u, .int .i64 q.r, .int .i64 q.c] := by
  obtain ⟨xs, m, _, _, hlen, hxl, hf⟩ := DataW.trod_struct Try.underlying38 h
  rw [cells38] at hlen
  obtain ⟨c0, c1, c2, c3, c4, hcs⟩ := lst5 hlen
  rw [hcs] at hf
  have g : ∀ i, i < 5 → ∃ y, xs[i]? = some y := fun i hi => ⟨_, List.getElem?_eq_getElem (by rw [hxl]; exact hi)⟩
  obtain ⟨y0, g0⟩ := g 0 (by decide)
  obtain ⟨y1, g1⟩ := g 1 (by decide)
  obtain ⟨y2, g2⟩ := g 2 (by decide)
  obtain ⟨y3, g3⟩ := g 3 (by decide)
  obtain ⟨y4, g4⟩ := g 4 (by decide)
  have f0 : DataW.trod enc Try.prog W 0 (fun _ => true) true m 3 [c0] = some y0 := by
    have := (hf 0 _ rfl).trans g0
    simpa [cells3] using this
  have f1 : DataW.trod enc Try.prog W 0 (fun _ => true) true m 3 [c1] = some y1 := by
    have := (hf 1 _ rfl).trans g1
    simpa [cells3] using this
  have f2 : DataW.trod enc Try.prog W 0 (fun _ => true) true m 3 [c2] = some y2 := by
    have := (hf 2 _ rfl).trans g2
    simpa [cells3] using this
  have f3 : DataW.trod enc Try.prog W 0 (fun _ => true) true m 3 [c3] = some y3 := by
    have := (hf 3 _ rfl).trans g3
    simpa [cells3] using this
  have f4 : DataW.trod enc Try.prog W 0 (fun _ => true) true m 3 [c4] = some y4 := by
    have := (hf 4 _ rfl).trans g4
    simpa [cells3] using this
  obtain ⟨x0, e0, _, w0⟩ := DataW.trod_int Try.underlying3 f0
  obtain ⟨x1, e1, _, w1⟩ := DataW.trod_int Try.underlying3 f1
  obtain ⟨x2, e2, _, w2⟩ := DataW.trod_int Try.underlying3 f2
  obtain ⟨x3, e3, _, w3⟩ := DataW.trod_int Try.underlying3 f3
  obtain ⟨x4, e4, _, w4⟩ := DataW.trod_int Try.underlying3 f4
  simp at e0 e1 e2 e3 e4
  exact ⟨⟨x0, x1, x2, x3, x4⟩, ⟨bd_i64 w0, bd_i64 w1, bd_i64 w2, bd_i64 w3, bd_i64 w4⟩, by rw [hcs, e0, e1, e2, e3, e4]⟩
theorem cells5 {w : World} {b o : Nat} {c0 c1 c2 c3 c4 : Value} (h : w.cells? 0 ⟨b, o, none⟩ 5 = some [c0, c1, c2, c3, c4]) : w.cell? ⟨b, o, none⟩ = some c0 ∧ w.cell? ⟨b, o + 1, none⟩ = some c1 ∧ w.cell? ⟨b, o + 2, none⟩ = some c2 ∧ w.cell? ⟨b, o + 3, none⟩ = some c3 ∧ w.cell? ⟨b, o + 4, none⟩ = some c4 := by
  obtain ⟨_, _, hc⟩ := World.cells?_some h
  have g : ∀ i, i < 5 → w.cell? ⟨b, o + i, none⟩ = [c0, c1, c2, c3, c4][i]? := fun i hi => by rw [← Addr.add_mid]; exact hc i hi
  exact ⟨g 0 (by decide), g 1 (by decide), g 2 (by decide), g 3 (by decide), g 4 (by decide)⟩
set_option maxRecDepth 100000 in
/-- a list of requests that came in -/
theorem open_asks {r : Reach} {b0 : Nat} {v : Value} {d : DataW H} {p : List MemPlace} (hv : Value.okWide Try.prog W r b0 24 v) (h : DataW.Trod enc Try.prog W 0 (fun _ => true) true 24 v d p) :
    ∃ (la : Option Addr) (lb lof len cap : Nat), v = .slice la len cap ∧ len ≤ 9223372036854775807 ∧ (0 < len → la = some ⟨lb, lof, none⟩ ∧ lb < W.heap.size) ∧ ∀ j : Nat, j < len → ∃ q : Rq, q.Ok ∧ AskAt W lb (lof + j * 5) q := by
  obtain ⟨a0, len, cap, rfl⟩ := okWide_slice Try.underlying24 hv
  obtain ⟨fuel, hf⟩ := h
  rcases open_slice Try.underlying24 hf with ⟨hcs, _⟩ | ⟨a, len', cap', m, n, D, Pl, hcs, _, hl, hm, hmm, _, hel⟩
  · simp [Value.cells] at hcs
    obtain ⟨rfl, rfl, rfl⟩ := hcs
    exact ⟨none, 0, 0, 0, 0, rfl, by omega, by omega, by omega⟩
  · simp [Value.cells] at hcs
    obtain ⟨rfl, rfl, rfl⟩ := hcs
    simp only [if_true] at hmm
    subst hmm
    unfold maxLen at hm
    by_cases h0 : 0 < len
    · obtain ⟨cs', hc', ht'⟩ := hel 0 (by omega)
      rw [cells38] at hc'
      obtain ⟨q, _, rfl⟩ := open_ask ht'
      obtain ⟨lb, lof, spot⟩ := a
      have hspot : spot = none := by
        obtain ⟨_, _, hc⟩ := World.cells?_some hc'
        have := World.cell?_spot (hc 0 (by decide))
        simpa [Addr.add] using this
      subst hspot
      refine ⟨_, lb, lof, len, _, rfl, by omega, fun _ => ⟨rfl, ?_⟩, fun j hj => ?_⟩
      · have := World.cells?_block hc' (by decide)
        simpa [Addr.add] using this
      · obtain ⟨cs', hc', ht'⟩ := hel j (by omega)
        rw [cells38, Addr.add_mid] at hc'
        obtain ⟨q, hq, rfl⟩ := open_ask ht'
        exact ⟨q, hq, cells5 hc'⟩
    · exact ⟨_, 0, 0, len, _, rfl, by omega, fun h => absurd h h0, fun j hj => by omega⟩
theorem cells69 : Try.prog.cellsOf 69 = 5 := by kernel_rfl
set_option maxRecDepth 100000 in
/-- a step that came in, as five cells -/
theorem open_sent {n : Nat} {cs : List Value} {x : DataW H × List MemPlace} (h : DataW.trod enc Try.prog W 0 (fun _ => true) true n 69 cs = some x) : ∃ q : Snt, q.Ok ∧ cs = [.int .i64 q.a, .int .i64 q.t, .int .u32 q.x, .bool q.p, .int .i64 q.m] := by
  obtain ⟨xs, m, _, _, hlen, hxl, hf⟩ := DataW.trod_struct Try.underlying69 h
  rw [cells69] at hlen
  obtain ⟨c0, c1, c2, c3, c4, hcs⟩ := lst5 hlen
  rw [hcs] at hf
  have g : ∀ i, i < 5 → ∃ y, xs[i]? = some y := fun i hi => ⟨_, List.getElem?_eq_getElem (by rw [hxl]; exact hi)⟩
  obtain ⟨y0, g0⟩ := g 0 (by decide)
  obtain ⟨y1, g1⟩ := g 1 (by decide)
  obtain ⟨y2, g2⟩ := g 2 (by decide)
  obtain ⟨y3, g3⟩ := g 3 (by decide)
  obtain ⟨y4, g4⟩ := g 4 (by decide)
  have c67 : Try.prog.cellsOf 67 = 1 := by kernel_rfl
  have c4' : Try.prog.cellsOf 4 = 1 := by kernel_rfl
  have f0 : DataW.trod enc Try.prog W 0 (fun _ => true) true m 3 [c0] = some y0 := by
    have := (hf 0 _ rfl).trans g0
    simpa [cells3, c67, c4'] using this
  have f1 : DataW.trod enc Try.prog W 0 (fun _ => true) true m 3 [c1] = some y1 := by
    have := (hf 1 _ rfl).trans g1
    simpa [cells3, c67, c4'] using this
  have f2 : DataW.trod enc Try.prog W 0 (fun _ => true) true m 67 [c2] = some y2 := by
    have := (hf 2 _ rfl).trans g2
    simpa [cells3, c67, c4'] using this
  have f3 : DataW.trod enc Try.prog W 0 (fun _ => true) true m 4 [c3] = some y3 := by
    have := (hf 3 _ rfl).trans g3
    simpa [cells3, c67, c4'] using this
  have f4 : DataW.trod enc Try.prog W 0 (fun _ => true) true m 3 [c4] = some y4 := by
    have := (hf 4 _ rfl).trans g4
    simpa [cells3, c67, c4'] using this
  obtain ⟨x0, e0, _, w0⟩ := DataW.trod_int Try.underlying3 f0
  obtain ⟨x1, e1, _, w1⟩ := DataW.trod_int Try.underlying3 f1
  obtain ⟨x2, e2, _, w2⟩ := DataW.trod_int Try.underlying67 f2
  obtain ⟨x3, e3, _⟩ := DataW.trod_bool Try.underlying4 f3
  obtain ⟨x4, e4, _, w4⟩ := DataW.trod_int Try.underlying3 f4
  simp at e0 e1 e2 e3 e4
  exact ⟨⟨x0, x1, x2, x3, x4⟩, ⟨bd_i64 w0, bd_i64 w1, w2, bd_i64 w4⟩, by rw [hcs, e0, e1, e2, e3, e4]⟩
set_option maxRecDepth 100000 in
/-- a list of steps that came in -/
theorem open_sents {r : Reach} {b0 : Nat} {v : Value} {d : DataW H} {p : List MemPlace} (hv : Value.okWide Try.prog W r b0 64 v) (h : DataW.Trod enc Try.prog W 0 (fun _ => true) true 64 v d p) :
    ∃ (la : Option Addr) (lb lof len cap : Nat), v = .slice la len cap ∧ len ≤ 9223372036854775807 ∧ (0 < len → la = some ⟨lb, lof, none⟩ ∧ lb < W.heap.size) ∧ ∀ j : Nat, j < len → ∃ q : Snt, q.Ok ∧ SntAt W lb (lof + j * 5) q := by
  obtain ⟨a0, len, cap, rfl⟩ := okWide_slice Try.underlying64 hv
  obtain ⟨fuel, hf⟩ := h
  rcases open_slice Try.underlying64 hf with ⟨hcs, _⟩ | ⟨a, len', cap', m, n, D, Pl, hcs, _, hl, hm, hmm, _, hel⟩
  · simp [Value.cells] at hcs
    obtain ⟨rfl, rfl, rfl⟩ := hcs
    exact ⟨none, 0, 0, 0, 0, rfl, by omega, by omega, by omega⟩
  · simp [Value.cells] at hcs
    obtain ⟨rfl, rfl, rfl⟩ := hcs
    simp only [if_true] at hmm
    subst hmm
    unfold maxLen at hm
    by_cases h0 : 0 < len
    · obtain ⟨cs', hc', ht'⟩ := hel 0 (by omega)
      rw [cells69] at hc'
      obtain ⟨q, _, rfl⟩ := open_sent ht'
      obtain ⟨lb, lof, spot⟩ := a
      have hspot : spot = none := by
        obtain ⟨_, _, hc⟩ := World.cells?_some hc'
        have := World.cell?_spot (hc 0 (by decide))
        simpa [Addr.add] using this
      subst hspot
      refine ⟨_, lb, lof, len, _, rfl, by omega, fun _ => ⟨rfl, ?_⟩, fun j hj => ?_⟩
      · have := World.cells?_block hc' (by decide)
        simpa [Addr.add] using this
      · obtain ⟨cs', hc', ht'⟩ := hel j (by omega)
        rw [cells69, Addr.add_mid] at hc'
        obtain ⟨q, hq, rfl⟩ := open_sent ht'
        exact ⟨q, hq, cells5 hc'⟩
    · exact ⟨_, 0, 0, len, _, rfl, by omega, fun h => absurd h h0, fun j hj => by omega⟩
end
end Go.Proofs.Ytbdnhllhdjepcaa
