import Derived.Test.YtbdnhllhdjepcaaAllow
namespace Go.Proofs.Ytbdnhllhdjepcaa
set_option linter.unusedVariables false
set_option linter.unusedSimpArgs false
open Go.RowKit Go.Maps Go.MuLone Go.RwLone

theorem run_makeMapN {P : Program} {t k e : TypeId} (ht : P.underlying t = some (.map k e)) (n : Int) (w : World) : (Instr.makeMap t (some (.int .i64 n))).run P w = .ok (.map (some w.heap.size)) (w.alloc (.map #[] 0)) := by
  unfold Instr.makeMap
  simp [go_sem, run_underlying ht, Result.andThen]

/-- the interval of a quota -/
def ivl (c p : Int) : Int := (p - 1) / c + 1

set_option maxRecDepth 100000 in
set_option maxHeartbeats 1600000 in
theorem rateOf_any (c pe b : Int) (w : World) (h1 : 1 ≤ c) (h2 : c ≤ 1000000) (h3 : 1 ≤ pe) (h4 : pe ≤ 4611686018427387904) (h5 : 0 ≤ b) (h6 : b ≤ 4611686018427387904 - ivl c pe) (h7 : 1 ≤ ivl c pe) :
    Calls Try.prog 84 #[.agg #[.int .i64 c, .int .i64 pe, .int .i64 b]] w fun e w' => e = .returned (.tuple #[.agg #[.int .u64 (ivl c pe), .int .u64 b], .bool true]) ∧ Chg [] w w' := by
  have h8 : ivl c pe ≤ 4611686018427387904 := by omega
  unfold ivl at *
  have hd : 0 ≤ (pe - 1) / c := by omega
  have hd' : (pe - 1) / c ≤ 4611686018427387904 := by omega
  go_enter Try.func84, Try.ntmps84
  go_wp2
  refine bodyPost_ret (v := .tuple #[.agg #[.int .u64 ((pe - 1) / c + 1), .int .u64 b], .bool true]) (by simp [results, Try.results84, go_sem, World.cell?_alloc_past]) rfl ⟨rfl, ?_⟩
  exact ((Chg.refl _ _).alloc _).alloc _

set_option maxRecDepth 100000 in
set_option maxHeartbeats 1600000 in
theorem sizes_any (q0 q1 q2 q3 q4 q5 q6 q7 q8 ov : Value) (sh sl ev de qu : Int) (w : World) (h1 : 1 ≤ sh) (h2 : sh ≤ 4) (h3 : 3 ≤ sl) (h4 : sl ≤ 64) (h5 : 1 ≤ ev) (h6 : ev ≤ 4611686018427387904) (h7 : 0 ≤ de) (h8 : de ≤ 4611686018427387904) (h9 : 0 ≤ qu) (h10 : qu ≤ 50) :
    Calls Try.prog 83 #[.agg #[q0, q1, q2, q3, q4, q5, q6, q7, q8, ov, .int .i64 sh, .int .i64 sl, .int .i64 ev, .int .i64 de, .int .i64 qu]] w fun e w' => e = .returned (.bool true) ∧ Chg [] w w' := by
  go_enter Try.func83, Try.ntmps83
  go_wp2
  go_ret
  exact ⟨rfl, (Chg.refl _ _).alloc _⟩

set_option maxRecDepth 100000 in
theorem turnNew_any (w : World) : Calls Try.prog 86 #[] w fun e w' => e = .returned (.pointer (some ⟨w.heap.size + 1, 0, none⟩)) ∧ w' = (w.alloc (.map #[] 0)).alloc (.cells #[.map (some w.heap.size), .slice none 0 0] 189) := by
  have hmm := @run_makeMap Try.prog
  go_enter Try.func86, Try.ntmps86
  go_wp2
  go_ret
  exact ⟨rfl, rfl⟩

set_option maxRecDepth 100000 in
theorem queueNew_any (ev de qu : Int) (w : World) (h5 : 1 ≤ ev) (h6 : ev ≤ 4611686018427387904) (h7 : 0 ≤ de) (h8 : de ≤ 4611686018427387904) :
    Calls Try.prog 50 #[.int .i64 ev, .int .i64 de, .int .i64 qu] w fun e w' => e = .returned (.pointer (some ⟨w.heap.size + 2, 0, none⟩)) ∧
      w' = ((w.alloc (.map #[] 0)).alloc (.cells #[.map (some w.heap.size), .slice none 0 0] 189)).alloc (.cells #[.int .i32 0, .int .u32 0, .int .u64 ev, .int .u64 de, .int .i64 qu, .pointer (some ⟨w.heap.size + 1, 0, none⟩), .slice none 0 0] 151) := by
  go_enter Try.func50, Try.ntmps50
  go_wp2_with (go_at_call 86; refine (turnNew_any _).mono ?_; rintro e w' ⟨rfl, rfl⟩)
  go_ret
  exact ⟨rfl, rfl⟩

set_option maxRecDepth 100000 in
theorem shardNew_any (pb : Nat) (slots : Int) (w : World) (h0 : 3 ≤ slots) (h1 : slots ≤ 64) :
    Calls Try.prog 51 #[.pointer (some ⟨pb, 0, none⟩), .int .i64 slots] w fun e w' => e = .returned (.pointer (some ⟨w.heap.size + 1, 0, none⟩)) ∧
      w' = (w.alloc (.map #[] 0)).alloc (.cells #[.int .i32 0, .int .u32 0, .pointer (some ⟨pb, 0, none⟩), .int .i64 slots, .map (some w.heap.size)] 137) := by
  have hmm := fun w => run_makeMapN Try.underlying135 slots w
  go_enter Try.func51, Try.ntmps51
  go_wp2
  go_ret
  exact ⟨rfl, rfl⟩
end Go.Proofs.Ytbdnhllhdjepcaa
