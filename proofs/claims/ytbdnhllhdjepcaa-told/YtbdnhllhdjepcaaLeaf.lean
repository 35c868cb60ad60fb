import Derived.Test.YtbdnhllhdjepcaaProg
import Derived.Test.YtbdnhllhdjepcaaBase
import Derived.WalkSpells
import Derived.WalkLawsBesides
import Derived.BigQuiet
import Derived.Lib.MinMax
namespace Go.Proofs.Ytbdnhllhdjepcaa
set_option linter.unusedVariables false
set_option linter.unusedSimpArgs false
open Go.RowKit

set_option maxHeartbeats 400000 in
theorem pick_any (c n : Int) (w : World) (hc : -9223372036854775808 ≤ c) (hc' : c ≤ 9223372036854775807) (hn : 1 ≤ n) (hn' : n ≤ 1000) :
    Calls Try.prog 19 #[.int .i64 c, .int .i64 n] w fun e w' => e = .returned (.int .i64 (pk c n)) ∧ w' = w := by
  by_cases h : c < 0
  · have HP : Hid (pk c n = -((c + 1).tmod n)) := pk_neg c n h
    go_enter Try.func19, Try.ntmps19
    go_wp2
    go_ret
    exact ⟨ret_int HP.out.symm, rfl⟩
  · have HP : Hid (pk c n = c % n) := pk_pos c n h
    go_enter Try.func19, Try.ntmps19
    go_wp2
    go_ret
    exact ⟨ret_int HP.out.symm, rfl⟩

set_option maxHeartbeats 400000 in
theorem later_any (now n : Int) (w : World) (h0 : 0 ≤ now) (h1 : now ≤ 9223372036854775807) (h2 : 0 ≤ n) (h3 : n ≤ 9223372036854775807) :
    Calls Try.prog 69 #[.int .u64 now, .int .u64 n] w fun e w' => e = .returned (.int .u64 (min (now + n) 9223372036854775807)) ∧ w' = w := by
  go_enter Try.func69, Try.ntmps69
  go_wp2
  go_ret
  exact ⟨ret_int (by rfl), rfl⟩

set_option maxHeartbeats 400000 in
theorem ask_never (iv bu mark now cost : Int) (w : World) (hi : 1 ≤ iv) (hb : 0 ≤ bu) (hib : iv + bu ≤ 4611686018427387904) (hm : 0 ≤ mark) (hm' : mark ≤ 13835058055282163711) (hn : 0 ≤ now) (hn' : now ≤ 9223372036854775807)
    (hc : 1 ≤ cost) (hc' : cost ≤ 1000) (h : bu / iv < cost - 1) :
    Calls Try.prog 94 #[.agg #[.int .u64 iv, .int .u64 bu], .int .u64 mark, .int .u64 now, .int .i64 cost] w fun e w' =>
      e = .returned (.tuple #[.int .u64 0, .int .u64 18446744073709551615]) ∧ w' = w.alloc (.cells #[.int .u64 iv, .int .u64 bu] 167) := by
  go_enter Try.func94, Try.ntmps94
  go_wp2
  go_ret2
  exact ⟨rfl, rfl⟩

set_option maxHeartbeats 400000 in
theorem ask_some (iv bu mark now cost : Int) (w : World) (hi : 1 ≤ iv) (hb : 0 ≤ bu) (hib : iv + bu ≤ 4611686018427387904) (hm : 0 ≤ mark) (hm' : mark ≤ 13835058055282163711) (hn : 0 ≤ now) (hn' : now ≤ 9223372036854775807)
    (hc : 1 ≤ cost) (hc' : cost ≤ 1000) (h : ¬ bu / iv < cost - 1) (hp : cost * iv ≤ bu + iv) (hp0 : 0 ≤ cost * iv) (h2 : max mark now + cost * iv ≤ now + bu + iv) :
    Calls Try.prog 94 #[.agg #[.int .u64 iv, .int .u64 bu], .int .u64 mark, .int .u64 now, .int .i64 cost] w fun e w' =>
      e = .returned (.tuple #[.int .u64 (max mark now + cost * iv), .int .u64 0]) ∧ w' = w.alloc (.cells #[.int .u64 iv, .int .u64 bu] 167) := by
  go_enter Try.func94, Try.ntmps94
  go_wp2
  go_ret2
  exact ⟨rfl, rfl⟩

set_option maxHeartbeats 400000 in
theorem ask_late (iv bu mark now cost : Int) (w : World) (hi : 1 ≤ iv) (hb : 0 ≤ bu) (hib : iv + bu ≤ 4611686018427387904) (hm : 0 ≤ mark) (hm' : mark ≤ 13835058055282163711) (hn : 0 ≤ now) (hn' : now ≤ 9223372036854775807)
    (hc : 1 ≤ cost) (hc' : cost ≤ 1000) (h : ¬ bu / iv < cost - 1) (hp : cost * iv ≤ bu + iv) (hp0 : 0 ≤ cost * iv) (h2 : ¬ max mark now + cost * iv ≤ now + bu + iv) :
    Calls Try.prog 94 #[.agg #[.int .u64 iv, .int .u64 bu], .int .u64 mark, .int .u64 now, .int .i64 cost] w fun e w' =>
      e = .returned (.tuple #[.int .u64 (max mark now + cost * iv), .int .u64 (max mark now + cost * iv - (now + bu + iv))]) ∧ w' = w.alloc (.cells #[.int .u64 iv, .int .u64 bu] 167) := by
  go_enter Try.func94, Try.ntmps94
  go_wp2
  go_ret2
  exact ⟨rfl, rfl⟩

theorem ask_any (iv bu mark now cost : Int) (w : World) (hi : 1 ≤ iv) (hb : 0 ≤ bu) (hib : iv + bu ≤ 4611686018427387904) (hm : 0 ≤ mark) (hm' : mark ≤ 13835058055282163711) (hn : 0 ≤ now) (hn' : now ≤ 9223372036854775807)
    (hc : 1 ≤ cost) (hc' : cost ≤ 1000) :
    Calls Try.prog 94 #[.agg #[.int .u64 iv, .int .u64 bu], .int .u64 mark, .int .u64 now, .int .i64 cost] w fun e w' =>
      e = .returned (.tuple #[.int .u64 (ask iv bu mark now cost).1, .int .u64 (ask iv bu mark now cost).2]) ∧ Chg [] w w' := by
  unfold ask
  by_cases h : bu / iv < cost - 1
  · rw [if_pos h]
    refine (ask_never iv bu mark now cost w hi hb hib hm hm' hn hn' hc hc' h).mono ?_
    rintro e w' ⟨rfl, rfl⟩
    exact ⟨rfl, (Chg.refl _ _).alloc _⟩
  · have hp := mul_bd hi hb hc h
    rw [if_neg h]
    by_cases h2 : max mark now + cost * iv ≤ now + bu + iv
    · rw [if_pos h2]
      refine (ask_some iv bu mark now cost w hi hb hib hm hm' hn hn' hc hc' h hp.1 (by omega) h2).mono ?_
      rintro e w' ⟨rfl, rfl⟩
      exact ⟨rfl, (Chg.refl _ _).alloc _⟩
    · rw [if_neg h2]
      refine (ask_late iv bu mark now cost w hi hb hib hm hm' hn hn' hc hc' h hp.1 (by omega) h2).mono ?_
      rintro e w' ⟨rfl, rfl⟩
      exact ⟨rfl, (Chg.refl _ _).alloc _⟩
end Go.Proofs.Ytbdnhllhdjepcaa
