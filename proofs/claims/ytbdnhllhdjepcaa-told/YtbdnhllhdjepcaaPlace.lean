import Derived.Test.YtbdnhllhdjepcaaLeaf
import Derived.Deep.RegionHeld3
namespace Go.Proofs.Ytbdnhllhdjepcaa
set_option linter.unusedVariables false
set_option linter.unusedSimpArgs false
open Go.RowKit

theorem shardOf_any (mb n : Nat) (t : Int) (a : Option Addr) (w : World) (c7 : w.cell? ⟨mb, 7, none⟩ = some (.slice a n n)) (h0 : 0 ≤ t) (h1 : t ≤ 65535) (hn : 1 ≤ n) (hn' : n ≤ 4) :
    Calls Try.prog 38 #[.pointer (some ⟨mb, 0, none⟩), .int .u16 t] w fun e w' => e = .returned (.int .i64 (t % n)) ∧ w' = w := by
  go_enter Try.func38, Try.ntmps38
  go_wp2
  go_ret
  exact ⟨rfl, rfl⟩

theorem at0 (t u r : Int) (w : World) : Calls Try.prog 92 #[.int .i64 0, .agg #[.int .u16 t, .int .u16 u, .int .u16 r]] w fun e w' =>
    e = .returned (.agg #[.int .i64 0, .int .u16 t, .int .u16 0, .int .u16 0]) ∧ w' = (w.alloc (.cells #[.int .u16 t, .int .u16 0, .int .u16 0] 47)).alloc (.cells #[.int .i64 0, .int .u16 t, .int .u16 0, .int .u16 0] 140) := by
  go_enter Try.func92, Try.ntmps92
  go_wp2
  exact bodyPost_ret (v := .agg #[.int .i64 0, .int .u16 t, .int .u16 0, .int .u16 0]) (by simp [results, Try.results92, go_sem]) rfl ⟨rfl, rfl⟩
theorem at1 (t u r : Int) (w : World) : Calls Try.prog 92 #[.int .i64 1, .agg #[.int .u16 t, .int .u16 u, .int .u16 r]] w fun e w' =>
    e = .returned (.agg #[.int .i64 1, .int .u16 t, .int .u16 u, .int .u16 0]) ∧ w' = (w.alloc (.cells #[.int .u16 t, .int .u16 u, .int .u16 0] 47)).alloc (.cells #[.int .i64 1, .int .u16 t, .int .u16 u, .int .u16 0] 140) := by
  go_enter Try.func92, Try.ntmps92
  go_wp2
  exact bodyPost_ret (v := .agg #[.int .i64 1, .int .u16 t, .int .u16 u, .int .u16 0]) (by simp [results, Try.results92, go_sem]) rfl ⟨rfl, rfl⟩
theorem at2 (t u r : Int) (w : World) : Calls Try.prog 92 #[.int .i64 2, .agg #[.int .u16 t, .int .u16 u, .int .u16 r]] w fun e w' =>
    e = .returned (.agg #[.int .i64 2, .int .u16 t, .int .u16 u, .int .u16 r]) ∧ w' = (w.alloc (.cells #[.int .u16 t, .int .u16 u, .int .u16 r] 47)).alloc (.cells #[.int .i64 2, .int .u16 t, .int .u16 u, .int .u16 r] 140) := by
  go_enter Try.func92, Try.ntmps92
  go_wp2
  exact bodyPost_ret (v := .agg #[.int .i64 2, .int .u16 t, .int .u16 u, .int .u16 r]) (by simp [results, Try.results92, go_sem]) rfl ⟨rfl, rfl⟩

/-- the three places of a key, cell by cell -/
abbrev plv (t u r : Int) : Array Value := #[.int .i64 0, .int .u16 t, .int .u16 0, .int .u16 0, .int .i64 1, .int .u16 t, .int .u16 u, .int .u16 0, .int .i64 2, .int .u16 t, .int .u16 u, .int .u16 r]

set_option maxRecDepth 100000 in
set_option maxHeartbeats 1000000 in
theorem all_any (t u r : Int) (w : World) : Calls Try.prog 63 #[.agg #[.int .u16 t, .int .u16 u, .int .u16 r]] w fun e w' =>
    e = .returned (.agg (plv t u r)) ∧ Chg [] w w' := by
  go_enter Try.func63, Try.ntmps63
  go_wp2_with fail
  go_region_held3 (fun w' => w'.cell? ⟨w.heap.size, 0, none⟩ = some (.int .u16 t) ∧ w'.cell? ⟨w.heap.size, 1, none⟩ = some (.int .u16 u) ∧ w'.cell? ⟨w.heap.size, 2, none⟩ = some (.int .u16 r)) ((simp [go_sem, World.cell?_alloc_past]))
    (first | (go_at_call_of 92 (Value.int IntKind.i64 0); refine (at0 _ _ _ _).mono ?_; rintro e w' ⟨rfl, rfl⟩) | (go_at_call_of 92 (Value.int IntKind.i64 1); refine (at1 _ _ _ _).mono ?_; rintro e w' ⟨rfl, rfl⟩) | (go_at_call_of 92 (Value.int IntKind.i64 2); refine (at2 _ _ _ _).mono ?_; rintro e w' ⟨rfl, rfl⟩))
  all_goals go_wp2
  refine bodyPost_ret (v := .agg (plv t u r)) (by simp [results, Try.results63, go_sem, World.cell?_alloc_past]) rfl ⟨rfl, ?_⟩
  repeat (first | exact Chg.refl _ _ | refine Chg.drew ?_ | refine Chg.alloc ?_ _)
end Go.Proofs.Ytbdnhllhdjepcaa
