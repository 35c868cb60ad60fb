import Derived.Test.YtbdnhllhdjepcaaShard
import Derived.Conc.RwLoneW
namespace Go.Proofs.Ytbdnhllhdjepcaa
set_option linter.unusedVariables false
set_option linter.unusedSimpArgs false
open Go.RowKit Go.Maps Go.MuLone Go.RwLone

abbrev mcells (now : Int) (ab n qb : Nat) : List Value := [.int .i32 0, .int .u32 0, .int .u32 0, .int .u32 0, .int .i32 0, .int .i32 0, .int .u64 now, .slice (some ⟨ab, 0, none⟩) n n, .pointer (some ⟨qb, 0, none⟩)]
/-- the meter's own block -/
def MeterAt (w : World) (mb : Nat) (now : Int) (ab n qb : Nat) : Prop := w.heap[mb]? = some (.cells (mcells now ab n qb).toArray 107 (0, 0))
def maxT : Int := 9223372036854775807

set_option maxRecDepth 100000 in
set_option maxHeartbeats 1600000 in
theorem advance_any (mb ab n qb : Nat) (now d : Int) (w : World) (hm : MeterAt w mb now ab n qb) (h0 : 0 ≤ now) (h1 : now ≤ 9223372036854775807) (h2 : 0 ≤ d) (h3 : d ≤ 9223372036854775807) :
    Calls Try.prog 40 #[.pointer (some ⟨mb, 0, none⟩), .int .u64 d] w fun e w' => e = .returned (.int .u64 (min (now + d) 9223372036854775807)) ∧ MeterAt w' mb (min (now + d) 9223372036854775807) ab n qb ∧ Chg [mb] w w' := by
  unfold MeterAt at hm
  go_enter_defers Try.func40, Try.ntmps40
  go_wp2_with fail
  refine (wlock_free Try.rwWLib mb 0 (.int .u32 0) (.int .u32 0) w (blk_cell (i := 0) hm rfl) (blk_cell (i := 2) hm rfl) (blk_cell (i := 3) hm rfl) (blk_cell (i := 4) hm rfl) (blk_free hm) (blk_free hm)).mono ?_
  rintro e w1 ⟨rfl, hw1⟩
  have hm1 := blk_set (i := 4) (.int .i32 (-1073741824)) (blk_set (i := 0) (.int .i32 1) hm)
  have hc1 := ((Chg.refl [mb] w).set ⟨mb, 0, none⟩ (.int .i32 1) (Or.inl (by simp))).set ⟨mb, 4, none⟩ (.int .i32 (-1073741824)) (Or.inl (by simp))
  have e1 : w1.heap[mb]? = _ := hw1 ▸ hm1
  have hc2 : Chg [mb] w w1 := hw1 ▸ hc1
  clear hm1 hc1 hw1
  have k6 : w1.cell? ⟨mb, 6, none⟩ = some (.int .u64 now) := blk_cell (i := 6) e1 rfl
  have f6 : w1.frozen? ⟨mb, 6, none⟩ = false := blk_free e1
  go_wp2_with (go_at_call 69; refine (later_any now d _ h0 h1 h2 h3).mono ?_; rintro e w2 ⟨rfl, rfl⟩)
  refine leaves_cons (f := 68) (args := #[.pointer (some ⟨mb, 0, none⟩)]) (by simp) (by simp [go_sem]) ?_
  generalize min (now + d) 9223372036854775807 = t at *
  have e2 := blk_set (i := 6) (.int .u64 t) e1
  refine (wunlock_deferred Try.rwWLib mb 0 (.int .u32 0) (.int .u32 0) .returning _ (blk_cell (i := 0) e2 rfl) (blk_cell (i := 2) e2 rfl) (blk_cell (i := 3) e2 rfl) (blk_cell (i := 4) e2 rfl) (blk_free e2) (blk_free e2)).mono ?_
  rintro e u' w3 ⟨rfl, rfl, hw3⟩
  have e3 := blk_set (i := 0) (.int .i32 0) (blk_set (i := 4) (.int .i32 0) e2)
  have hc3 := ((hc2.set ⟨mb, 6, none⟩ (.int .u64 t) (Or.inl (by simp))).set ⟨mb, 4, none⟩ (.int .i32 0) (Or.inl (by simp))).set ⟨mb, 0, none⟩ (.int .i32 0) (Or.inl (by simp))
  exact ⟨_, results_tmp rfl _ _ _, rfl, hw3 ▸ e3, hw3 ▸ hc3⟩

set_option maxRecDepth 100000 in
set_option maxHeartbeats 1600000 in
theorem Advance_any (mb ab n qb : Nat) (now d : Int) (w : World) (hm : MeterAt w mb now ab n qb) (h0 : 0 ≤ now) (h1 : now ≤ 9223372036854775807) (h2 : 0 ≤ d) (h3 : d ≤ 9223372036854775807) :
    Calls Try.prog 21 #[.pointer (some ⟨mb, 0, none⟩), .int .i64 d] w fun e w' => e = .returned (.int .i64 0) ∧ MeterAt w' mb (min (now + d) 9223372036854775807) ab n qb ∧ Chg [mb] w w' := by
  go_enter Try.func21, Try.ntmps21
  go_wp2_with fail
  refine (advance_any mb ab n qb now d w hm h0 h1 h2 h3).mono ?_
  rintro e w1 ⟨rfl, hm1, hc1⟩
  go_wp2
  go_ret
  exact ⟨rfl, hm1, hc1⟩

set_option maxRecDepth 100000 in
set_option maxHeartbeats 1600000 in
theorem Advance_neg (mb : Nat) (d : Int) (w : World) (h2 : d < 0) :
    Calls Try.prog 21 #[.pointer (some ⟨mb, 0, none⟩), .int .i64 d] w fun e w' => e = .returned (.int .i64 1) ∧ w' = w := by
  go_enter Try.func21, Try.ntmps21
  go_wp2
  go_ret
  exact ⟨rfl, rfl⟩

theorem rc1 : wrap32 (0 + 1) = 1 := by unfold wrap32; decide
theorem rc2 : wrap32 (1 + -1) = 0 := by unfold wrap32; decide

set_option maxRecDepth 100000 in
set_option maxHeartbeats 1600000 in
theorem Now_any (mb ab n qb : Nat) (now : Int) (w : World) (hm : MeterAt w mb now ab n qb) :
    Calls Try.prog 31 #[.pointer (some ⟨mb, 0, none⟩)] w fun e w' => e = .returned (.int .u64 now) ∧ Chg [] w w' := by
  unfold MeterAt at hm
  go_enter_defers Try.func31, Try.ntmps31
  go_wp2_with fail
  refine (rlock_open Try.rwRLib mb 0 0 (.int .i32 0) (.int .u32 0) w (blk_cell (i := 0) hm rfl) (blk_cell (i := 3) hm rfl) (blk_cell (i := 4) hm rfl) (blk_free hm) (by rw [rc1]; decide)).mono ?_
  rintro e w1 ⟨rfl, hw1⟩
  rw [rc1] at hw1
  have e1 : w1.heap[mb]? = _ := hw1 ▸ blk_set (i := 4) (.int .i32 1) hm
  have hc1 : Chg [mb] w w1 := hw1 ▸ (Chg.refl [mb] w).set ⟨mb, 4, none⟩ (.int .i32 1) (Or.inl (by simp))
  clear hw1
  have k6 : w1.cell? ⟨mb, 6, none⟩ = some (.int .u64 now) := blk_cell (i := 6) e1 rfl
  go_wp2_with fail
  refine leaves_cons (f := 37) (args := #[.pointer (some ⟨mb, 0, none⟩)]) (by simp) (by simp [go_sem]) ?_
  refine (runlock_deferred Try.rwRLib mb 0 1 (.int .i32 0) (.int .u32 0) .returning w1 (blk_cell (i := 0) e1 rfl) (blk_cell (i := 2) e1 rfl) (blk_cell (i := 4) e1 rfl) (blk_free e1) (by rw [rc2]; decide)).mono ?_
  rintro e u' w3 ⟨rfl, rfl, hw3⟩
  rw [rc2] at hw3
  have e3 := blk_set (i := 4) (.int .i32 0) e1
  have hc3 := hc1.set ⟨mb, 4, none⟩ (.int .i32 0) (Or.inl (by simp))
  refine ⟨_, results_tmp rfl _ _ _, rfl, ?_⟩
  rw [hw3]
  exact hc3.back (fun j hj => by
    rcases List.mem_cons.1 hj with rfl | hj
    · exact Or.inr (e3.trans hm.symm)
    · cases hj)
end Go.Proofs.Ytbdnhllhdjepcaa
