import Derived.Test.YtbdnhllhdjepcaaRetry
import Derived.Deep.RegionHeld3
namespace Go.Proofs.Ytbdnhllhdjepcaa
set_option linter.unusedVariables false
set_option linter.unusedSimpArgs false
open Go.RowKit Go.Maps

/-- a request that was let through -/
structure Gr where
  t : Int
  kt : Int
  ku : Int
  kr : Int
  c : Int
/-- do two keys share their place at a level? -/
def shr (lv t u r t' u' r' : Int) : Bool := t == t' && (decide (lv ≤ 0) || u == u') && (decide (lv < 2) || r == r')
theorem lv3 {lv : Int} (h : 0 ≤ lv ∧ lv < 3) : lv = 0 ∨ lv = 1 ∨ lv = 2 := by omega
set_option maxRecDepth 100000 in
set_option maxHeartbeats 1000000 in
theorem shares_any (lv t u r t' u' r' : Int) (w : World) (h : 0 ≤ lv ∧ lv < 3) : Calls Try.prog 42 #[.int .i64 lv, .agg #[.int .u16 t, .int .u16 u, .int .u16 r], .agg #[.int .u16 t', .int .u16 u', .int .u16 r']] w fun e w' => e = .returned (.bool (shr lv t u r t' u' r')) ∧ Chg [] w w' := by
  have hch : Chg [] w ((w.alloc (.cells #[.int .u16 t, .int .u16 u, .int .u16 r] 47)).alloc (.cells #[.int .u16 t', .int .u16 u', .int .u16 r'] 47)) := ((Chg.refl _ _).alloc _).alloc _
  rcases lv3 h with rfl | rfl | rfl <;> by_cases h1 : t = t' <;> by_cases h2 : u = u' <;> by_cases h3 : r = r'
  all_goals
    (try subst h1) <;> (try subst h2) <;> (try subst h3)
    go_enter Try.func42, Try.ntmps42
    go_wp2
    go_ret
    refine ⟨?_, hch⟩
    simp [shr, *]
set_option maxRecDepth 100000 in
theorem interval_any (c p b : Int) (w : World) (hc : 1 ≤ c) (hc' : c ≤ 1000) (hp : 1 ≤ p) (hp' : p ≤ 1000) : Calls Try.prog 34 #[.agg #[.int .i64 c, .int .i64 p, .int .i64 b]] w fun e w' => e = .returned (.int .i64 (ivl c p)) ∧ Chg [] w w' := by
  have e1 : (p + c - 1) / c = ivl c p := by
    unfold ivl
    rw [show p + c - 1 = (p - 1) + c * 1 from by omega, Int.add_mul_ediv_left _ _ (by omega)]
  have e2 : (p + c - 1).tdiv c = ivl c p := by rw [Int.tdiv_eq_ediv_of_nonneg (by omega), e1]
  have e3 := ivl_le hc hp
  have e4 : 0 ≤ (p - 1) / c := Int.ediv_nonneg (by omega) (by omega)
  have e5 : ivl c p = (p - 1) / c + 1 := rfl
  have hne : c ≠ 0 := by omega
  go_enter Try.func34, Try.ntmps34
  go_wp2
  go_ret
  exact ⟨rfl, (Chg.refl _ _).alloc _⟩

end Go.Proofs.Ytbdnhllhdjepcaa
