import Derived.Test.YtbdnhllhdjepcaaArgs
namespace Go.Proofs.Ytbdnhllhdjepcaa
set_option linter.unusedVariables false
set_option linter.unusedSimpArgs false
open Go.ChangeShapes Go.WideShapes Go.ChangeAt Go.RowKit Go.Joins Go.Deep
section
variable {H : Type} {enc : TypeId × Value → H} {W : World}
theorem cells_agg5 {v c0 c1 c2 c3 c4 : Value} (h : v.cells.toList = [c0, c1, c2, c3, c4]) : v = .agg #[c0, c1, c2, c3, c4] := by
  cases v with
  | agg cs =>
    simp [Value.cells] at h
    rw [← Array.toArray_toList (xs := cs), h]
  | _ => simp [Value.cells] at h
set_option maxRecDepth 100000 in
/-- a request that came in -/
theorem open_askv {r : Reach} {b0 : Nat} {v : Value} {d : DataW H} {p : List MemPlace} (hv : Value.okWide Try.prog W r b0 38 v) (h : DataW.Trod enc Try.prog W 0 (fun _ => true) true 38 v d p) :
    ∃ q : Rq, q.Ok ∧ v = .agg #[.int .i64 q.a, .int .i64 q.t, .int .i64 q.u, .int .i64 q.r, .int .i64 q.c] := by
  obtain ⟨fuel, hf⟩ := h
  obtain ⟨q, hq, hc⟩ := open_ask hf
  exact ⟨q, hq, cells_agg5 hc⟩
end
end Go.Proofs.Ytbdnhllhdjepcaa
