import Derived.WalkKit
import Derived.Maps.Ext
import Derived.Maps.RangeWalk
import Derived.Deep.Draws
import Derived.OneCell
import Derived.Test.YtbdnhllhdjepcaaGreatProg
import Derived.WalkSpells
import Derived.WalkLawsBesides
import Derived.BigQuiet
import Derived.Lib.MinMax
import Derived.Deep.RegionHeld3
import Derived.DeepKeys4
import Derived.KernelRfl
namespace Go.Proofs.YtbdnhllhdjepcaaGreat
set_option linter.unusedVariables false
set_option linter.unusedSimpArgs false
open Go.RowKit

theorem ret_int {k : IntKind} {a b : Int} (h : a = b) : Ending.returned (.int k a) = .returned (.int k b) := by rw [h]
theorem ret_bool {a b : Bool} (h : a = b) : Ending.returned (.bool a) = .returned (.bool b) := by rw [h]

/-- which of n things a raw number speaks of -/
def pk (c n : Int) : Int := if c < 0 then (-(c + 1)) % n else c % n

theorem pk_bd (c n : Int) (hn : 1 ≤ n) : 0 ≤ pk c n ∧ pk c n < n := by
  unfold pk; split
  · exact ⟨Int.emod_nonneg _ (by omega), Int.emod_lt_of_pos _ (by omega)⟩
  · exact ⟨Int.emod_nonneg _ (by omega), Int.emod_lt_of_pos _ (by omega)⟩
theorem pk_neg (c n : Int) (h : c < 0) : pk c n = -((c + 1).tmod n) := by
  unfold pk; rw [if_pos h, ← Int.neg_tmod, Int.tmod_eq_emod_of_nonneg (by omega)]
theorem pk_pos (c n : Int) (h : ¬ c < 0) : pk c n = c % n := by unfold pk; rw [if_neg h]

/-! ### what one quota lets through -/
def never : Int := 18446744073709551615
def ask (iv bu mark now cost : Int) : Int × Int :=
  if bu / iv < cost - 1 then (0, never)
  else if max mark now + cost * iv ≤ now + bu + iv then (max mark now + cost * iv, 0)
  else (max mark now + cost * iv, max mark now + cost * iv - (now + bu + iv))

theorem mul_bd {iv bu cost : Int} (hi : 1 ≤ iv) (hb : 0 ≤ bu) (hc : 1 ≤ cost) (h : ¬ bu / iv < cost - 1) : cost * iv ≤ bu + iv ∧ iv ≤ cost * iv := by
  have h1 : (cost - 1) * iv ≤ bu := Int.le_trans (Int.mul_le_mul_of_nonneg_right (Int.not_lt.1 h) (by omega)) (Int.ediv_mul_le _ (by omega))
  rw [Int.sub_mul, Int.one_mul] at h1
  have h2 : 1 * iv ≤ cost * iv := Int.mul_le_mul_of_nonneg_right hc (by omega)
  omega
/-- a rate that a quota may be -/
def Good (x : Int × Int) : Prop := 1 ≤ x.1 ∧ 0 ≤ x.2 ∧ x.1 + x.2 ≤ 4611686018427387904
theorem ask_bd {iv bu mark now cost : Int} (hi : 1 ≤ iv) (hb : 0 ≤ bu) (hib : iv + bu ≤ 4611686018427387904) (hm : 0 ≤ mark) (hm' : mark ≤ 13835058055282163711) (hn : 0 ≤ now) (hn' : now ≤ 9223372036854775807) (hc : 1 ≤ cost) :
    0 ≤ (ask iv bu mark now cost).1 ∧ (ask iv bu mark now cost).1 ≤ 18446744073709551615 ∧ 0 ≤ (ask iv bu mark now cost).2 ∧ (ask iv bu mark now cost).2 ≤ 18446744073709551615 ∧
    ((ask iv bu mark now cost).2 = 0 → (ask iv bu mark now cost).1 ≤ now + 4611686018427387904 ∧ now < (ask iv bu mark now cost).1) := by
  unfold ask
  by_cases h : bu / iv < cost - 1
  · rw [if_pos h]; simp [never]
  · have := mul_bd hi hb hc h
    rw [if_neg h]
    by_cases h2 : max mark now + cost * iv ≤ now + bu + iv
    · rw [if_pos h2]; simp only; omega
    · rw [if_neg h2]; simp only; omega

/-! ### what of a world has turned -/
/-- Of the blocks that were there none has turned but those of l. -/
structure Chg (l : List Nat) (w w' : World) : Prop where
  os : w'.os = w.os
  tape : w'.tape = w.tape
  output : w'.output = w.output
  size : w.heap.size ≤ w'.heap.size
  block : ∀ k, k < w.heap.size → k ∉ l → w'.heap[k]? = w.heap[k]?

theorem Chg.refl (l : List Nat) (w : World) : Chg l w w := ⟨rfl, rfl, rfl, Nat.le_refl _, fun _ _ _ => rfl⟩
theorem Chg.trans {l m : List Nat} {a b c : World} (h : Chg l a b) (k : Chg m b c) (hm : ∀ j ∈ m, j ∈ l ∨ a.heap.size ≤ j) : Chg l a c :=
  ⟨k.os.trans h.os, k.tape.trans h.tape, k.output.trans h.output, Nat.le_trans h.size k.size, fun i hi hn =>
    (k.block i (Nat.lt_of_lt_of_le hi h.size) (fun hj => by rcases hm i hj with h' | h'; exact hn h'; omega)).trans (h.block i hi hn)⟩
theorem Chg.mono {l m : List Nat} {a b : World} (h : Chg l a b) (hl : ∀ j ∈ l, j ∈ m) : Chg m a b := ⟨h.os, h.tape, h.output, h.size, fun i hi hn => h.block i hi (fun hj => hn (hl i hj))⟩
theorem Chg.alloc {l : List Nat} {a b : World} (h : Chg l a b) (o : Obj) : Chg l a (b.alloc o) :=
  h.trans (m := []) ⟨rfl, rfl, rfl, by simp, fun k hk _ => Below.heap_alloc _ _ _ hk⟩ (by simp)
theorem Chg.drew {l : List Nat} {a b : World} (h : Chg l a b) : Chg l a b.drew := ⟨h.os, h.tape, h.output, h.size, h.block⟩
theorem Chg.drewN {l : List Nat} {a b : World} (h : Chg l a b) (n : Nat) : Chg l a (b.drewN n) := ⟨h.os, h.tape, h.output, h.size, h.block⟩
theorem Chg.set {l : List Nat} {a b : World} (h : Chg l a b) (p : Addr) (u : Value) (hp : p.block ∈ l ∨ a.heap.size ≤ p.block) : Chg l a (b.setCell p u) :=
  h.trans (m := [p.block]) ⟨rfl, rfl, rfl, by simp [World.setCell], fun k _ hn => Below.heap_setCell _ _ _ _ (by simpa using hn)⟩ (by simpa using hp)
theorem Chg.ofGrown {w w' : World} {b : Nat} (h : w.grownBy w' (some b)) : Chg [b] w w' := ⟨h.os, h.tape, h.output, h.size, fun k hk hn => h.block k hk (by simpa using hn)⟩
theorem Chg.ofGrown0 {w w' : World} (h : w.grownBy w' none) : Chg [] w w' := ⟨h.os, h.tape, h.output, h.size, fun k hk _ => h.block k hk (by simp)⟩
theorem Chg.below {l : List Nat} {B : Nat} {w w' : World} (h : Chg l w w') (hB : B ≤ w.heap.size) (hl : ∀ j ∈ l, B ≤ j) : Below B w w' :=
  ⟨h.os, h.tape, h.output, h.size, fun k hk => h.block k (by omega) (fun hj => by have := hl k hj; omega)⟩
theorem Chg.blk {l : List Nat} {w w' : World} {b : Nat} {o : Obj} (h : Chg l w w') (hb : w.heap[b]? = some o) (hn : b ∉ l) : w'.heap[b]? = some o :=
  (h.block b (lt_of_block hb) hn).trans hb
theorem Chg.cell {l : List Nat} {w w' : World} {a : Addr} {v : Value} (h : Chg l w w') (hc : w.cell? a = some v) (hn : a.block ∉ l) : w'.cell? a = some v :=
  (World.cell?_of_block (h.block a.block (World.block_lt_of_cell? _ _ hc) hn)).trans hc
theorem Chg.map {H : Type} {P : Program} {k : TypeId} {R : Value → Option (DataW H × List MemPlace)} {b n : Nat} {D : DataW H} {l : List Nat} {w w' : World} (h : Chg l w w') (hm : w.ownsMap P k R b n D) (hn : b ∉ l) : w'.ownsMap P k R b n D := by
  obtain ⟨es, clock, hb, r⟩ := hm
  exact ⟨es, clock, h.blk hb hn, r⟩
/-- a block that turned and is as it was -/
theorem Chg.back {l m : List Nat} {w w' : World} (h : Chg l w w') (hb : ∀ j ∈ l, j ∈ m ∨ w'.heap[j]? = w.heap[j]?) : Chg m w w' :=
  ⟨h.os, h.tape, h.output, h.size, fun k hk hn => by
    by_cases hj : k ∈ l
    · rcases hb k hj with h' | h'
      · exact absurd h' hn
      · exact h'
    · exact h.block k hk hj⟩

/-! ### a block of cells -/
theorem blk_cell {w : World} {b i : Nat} {cs : List Value} {t : TypeId} {v : Value} (h : w.heap[b]? = some (.cells cs.toArray t (0, 0))) (hi : cs[i]? = some v) : w.cell? ⟨b, i, none⟩ = some v := by simp [World.cell?, h, hi]
theorem blk_free {w : World} {b i : Nat} {cs : Array Value} {t : TypeId} (h : w.heap[b]? = some (.cells cs t (0, 0))) : w.frozen? ⟨b, i, none⟩ = false := by simp [World.frozen?, h]
theorem blk_set {w : World} {b i : Nat} {cs : List Value} {t : TypeId} (u : Value) (h : w.heap[b]? = some (.cells cs.toArray t (0, 0))) : (w.setCell ⟨b, i, none⟩ u).heap[b]? = some (.cells (cs.set i u).toArray t (0, 0)) := by
  have hlt := lt_of_block h
  have h' : w.heap[b] = .cells cs.toArray t (0, 0) := by simpa [Array.getElem?_eq_getElem hlt] using h
  show (w.heap.modify b _)[b]? = _
  rw [Array.getElem?_eq_getElem (by simpa using hlt), Array.getElem_modify_self, h']
  simp
theorem blk_set_far {w : World} {b i k : Nat} {u : Value} {o : Obj} (h : w.heap[b]? = some o) (hne : b ≠ k) : (w.setCell ⟨k, i, none⟩ u).heap[b]? = some o := by
  rw [Below.heap_setCell _ _ _ _ hne]; exact h
theorem blk_alloc {w : World} {b : Nat} {o : Obj} (h : w.heap[b]? = some o) (x : Obj) : (w.alloc x).heap[b]? = some o := by
  rw [Below.heap_alloc _ _ _ (lt_of_block h)]; exact h

end Go.Proofs.YtbdnhllhdjepcaaGreat
namespace Go.Proofs.YtbdnhllhdjepcaaGreat
set_option linter.unusedVariables false
set_option linter.unusedSimpArgs false
open Go.RowKit

set_option maxHeartbeats 400000 in
theorem pick_any (c n : Int) (w : World) (hc : -9223372036854775808 ≤ c) (hc' : c ≤ 9223372036854775807) (hn : 1 ≤ n) (hn' : n ≤ 1000) :
    Calls Tryz.prog 11 #[.int .i64 c, .int .i64 n] w fun e w' => e = .returned (.int .i64 (pk c n)) ∧ w' = w := by
  by_cases h : c < 0
  · have HP : Hid (pk c n = -((c + 1).tmod n)) := pk_neg c n h
    go_enter Tryz.func11, Tryz.ntmps11
    go_wp2
    go_ret
    exact ⟨ret_int HP.out.symm, rfl⟩
  · have HP : Hid (pk c n = c % n) := pk_pos c n h
    go_enter Tryz.func11, Tryz.ntmps11
    go_wp2
    go_ret
    exact ⟨ret_int HP.out.symm, rfl⟩

set_option maxHeartbeats 400000 in
theorem later_any (now n : Int) (w : World) (h0 : 0 ≤ now) (h1 : now ≤ 9223372036854775807) (h2 : 0 ≤ n) (h3 : n ≤ 9223372036854775807) :
    Calls Tryz.prog 74 #[.int .u64 now, .int .u64 n] w fun e w' => e = .returned (.int .u64 (min (now + n) 9223372036854775807)) ∧ w' = w := by
  go_enter Tryz.func74, Tryz.ntmps74
  go_wp2
  go_ret
  exact ⟨ret_int (by rfl), rfl⟩

set_option maxHeartbeats 400000 in
theorem ask_never (iv bu mark now cost : Int) (w : World) (hi : 1 ≤ iv) (hb : 0 ≤ bu) (hib : iv + bu ≤ 4611686018427387904) (hm : 0 ≤ mark) (hm' : mark ≤ 13835058055282163711) (hn : 0 ≤ now) (hn' : now ≤ 9223372036854775807)
    (hc : 1 ≤ cost) (hc' : cost ≤ 1000) (h : bu / iv < cost - 1) :
    Calls Tryz.prog 139 #[.agg #[.int .u64 iv, .int .u64 bu], .int .u64 mark, .int .u64 now, .int .i64 cost] w fun e w' =>
      e = .returned (.tuple #[.int .u64 0, .int .u64 18446744073709551615]) ∧ w' = w.alloc (.cells #[.int .u64 iv, .int .u64 bu] 180) := by
  go_enter Tryz.func139, Tryz.ntmps139
  go_wp2
  go_ret2
  exact ⟨rfl, rfl⟩

set_option maxHeartbeats 400000 in
theorem ask_some (iv bu mark now cost : Int) (w : World) (hi : 1 ≤ iv) (hb : 0 ≤ bu) (hib : iv + bu ≤ 4611686018427387904) (hm : 0 ≤ mark) (hm' : mark ≤ 13835058055282163711) (hn : 0 ≤ now) (hn' : now ≤ 9223372036854775807)
    (hc : 1 ≤ cost) (hc' : cost ≤ 1000) (h : ¬ bu / iv < cost - 1) (hp : cost * iv ≤ bu + iv) (hp0 : 0 ≤ cost * iv) (h2 : max mark now + cost * iv ≤ now + bu + iv) :
    Calls Tryz.prog 139 #[.agg #[.int .u64 iv, .int .u64 bu], .int .u64 mark, .int .u64 now, .int .i64 cost] w fun e w' =>
      e = .returned (.tuple #[.int .u64 (max mark now + cost * iv), .int .u64 0]) ∧ w' = w.alloc (.cells #[.int .u64 iv, .int .u64 bu] 180) := by
  go_enter Tryz.func139, Tryz.ntmps139
  go_wp2
  go_ret2
  exact ⟨rfl, rfl⟩

set_option maxHeartbeats 400000 in
theorem ask_late (iv bu mark now cost : Int) (w : World) (hi : 1 ≤ iv) (hb : 0 ≤ bu) (hib : iv + bu ≤ 4611686018427387904) (hm : 0 ≤ mark) (hm' : mark ≤ 13835058055282163711) (hn : 0 ≤ now) (hn' : now ≤ 9223372036854775807)
    (hc : 1 ≤ cost) (hc' : cost ≤ 1000) (h : ¬ bu / iv < cost - 1) (hp : cost * iv ≤ bu + iv) (hp0 : 0 ≤ cost * iv) (h2 : ¬ max mark now + cost * iv ≤ now + bu + iv) :
    Calls Tryz.prog 139 #[.agg #[.int .u64 iv, .int .u64 bu], .int .u64 mark, .int .u64 now, .int .i64 cost] w fun e w' =>
      e = .returned (.tuple #[.int .u64 (max mark now + cost * iv), .int .u64 (max mark now + cost * iv - (now + bu + iv))]) ∧ w' = w.alloc (.cells #[.int .u64 iv, .int .u64 bu] 180) := by
  go_enter Tryz.func139, Tryz.ntmps139
  go_wp2
  go_ret2
  exact ⟨rfl, rfl⟩

theorem ask_any (iv bu mark now cost : Int) (w : World) (hi : 1 ≤ iv) (hb : 0 ≤ bu) (hib : iv + bu ≤ 4611686018427387904) (hm : 0 ≤ mark) (hm' : mark ≤ 13835058055282163711) (hn : 0 ≤ now) (hn' : now ≤ 9223372036854775807)
    (hc : 1 ≤ cost) (hc' : cost ≤ 1000) :
    Calls Tryz.prog 139 #[.agg #[.int .u64 iv, .int .u64 bu], .int .u64 mark, .int .u64 now, .int .i64 cost] w fun e w' =>
      e = .returned (.tuple #[.int .u64 (ask iv bu mark now cost).1, .int .u64 (ask iv bu mark now cost).2]) ∧ Chg [] w w' := by
  unfold ask
  by_cases h : bu / iv < cost - 1
  · rw [if_pos h]
    refine (ask_never iv bu mark now cost w hi hb hib hm hm' hn hn' hc hc' h).mono ?_
    rintro e w' ⟨rfl, rfl⟩
    exact ⟨rfl, (Chg.refl _ _).alloc _⟩
  · have hp := mul_bd hi hb hc h
    rw [if_neg h]
    by_cases h2 : max mark now + cost * iv ≤ now + bu + iv
    · rw [if_pos h2]
      refine (ask_some iv bu mark now cost w hi hb hib hm hm' hn hn' hc hc' h hp.1 (by omega) h2).mono ?_
      rintro e w' ⟨rfl, rfl⟩
      exact ⟨rfl, (Chg.refl _ _).alloc _⟩
    · rw [if_neg h2]
      refine (ask_late iv bu mark now cost w hi hb hib hm hm' hn hn' hc hc' h hp.1 (by omega) h2).mono ?_
      rintro e w' ⟨rfl, rfl⟩
      exact ⟨rfl, (Chg.refl _ _).alloc _⟩
end Go.Proofs.YtbdnhllhdjepcaaGreat
namespace Go.Proofs.YtbdnhllhdjepcaaGreat
set_option linter.unusedVariables false
set_option linter.unusedSimpArgs false
open Go.RowKit

theorem shardOf_any (mb n : Nat) (t : Int) (a : Option Addr) (w : World) (c7 : w.cell? ⟨mb, 7, none⟩ = some (.slice a n n)) (h0 : 0 ≤ t) (h1 : t ≤ 65535) (hn : 1 ≤ n) (hn' : n ≤ 4) :
    Calls Tryz.prog 52 #[.pointer (some ⟨mb, 0, none⟩), .int .u16 t] w fun e w' => e = .returned (.int .i64 (t % n)) ∧ w' = w := by
  go_enter Tryz.func52, Tryz.ntmps52
  go_wp2
  go_ret
  exact ⟨rfl, rfl⟩

theorem at0 (t u r : Int) (w : World) : Calls Tryz.prog 137 #[.int .i64 0, .agg #[.int .u16 t, .int .u16 u, .int .u16 r]] w fun e w' =>
    e = .returned (.agg #[.int .i64 0, .int .u16 t, .int .u16 0, .int .u16 0]) ∧ w' = (w.alloc (.cells #[.int .u16 t, .int .u16 0, .int .u16 0] 60)).alloc (.cells #[.int .i64 0, .int .u16 t, .int .u16 0, .int .u16 0] 196) := by
  go_enter Tryz.func137, Tryz.ntmps137
  go_wp2
  exact bodyPost_ret (v := .agg #[.int .i64 0, .int .u16 t, .int .u16 0, .int .u16 0]) (by simp [results, Tryz.results137, go_sem]) rfl ⟨rfl, rfl⟩
theorem at1 (t u r : Int) (w : World) : Calls Tryz.prog 137 #[.int .i64 1, .agg #[.int .u16 t, .int .u16 u, .int .u16 r]] w fun e w' =>
    e = .returned (.agg #[.int .i64 1, .int .u16 t, .int .u16 u, .int .u16 0]) ∧ w' = (w.alloc (.cells #[.int .u16 t, .int .u16 u, .int .u16 0] 60)).alloc (.cells #[.int .i64 1, .int .u16 t, .int .u16 u, .int .u16 0] 196) := by
  go_enter Tryz.func137, Tryz.ntmps137
  go_wp2
  exact bodyPost_ret (v := .agg #[.int .i64 1, .int .u16 t, .int .u16 u, .int .u16 0]) (by simp [results, Tryz.results137, go_sem]) rfl ⟨rfl, rfl⟩
theorem at2 (t u r : Int) (w : World) : Calls Tryz.prog 137 #[.int .i64 2, .agg #[.int .u16 t, .int .u16 u, .int .u16 r]] w fun e w' =>
    e = .returned (.agg #[.int .i64 2, .int .u16 t, .int .u16 u, .int .u16 r]) ∧ w' = (w.alloc (.cells #[.int .u16 t, .int .u16 u, .int .u16 r] 60)).alloc (.cells #[.int .i64 2, .int .u16 t, .int .u16 u, .int .u16 r] 196) := by
  go_enter Tryz.func137, Tryz.ntmps137
  go_wp2
  exact bodyPost_ret (v := .agg #[.int .i64 2, .int .u16 t, .int .u16 u, .int .u16 r]) (by simp [results, Tryz.results137, go_sem]) rfl ⟨rfl, rfl⟩

/-- the three places of a key, cell by cell -/
abbrev plv (t u r : Int) : Array Value := #[.int .i64 0, .int .u16 t, .int .u16 0, .int .u16 0, .int .i64 1, .int .u16 t, .int .u16 u, .int .u16 0, .int .i64 2, .int .u16 t, .int .u16 u, .int .u16 r]

set_option maxRecDepth 100000 in
set_option maxHeartbeats 1000000 in
theorem all_any (t u r : Int) (w : World) : Calls Tryz.prog 100 #[.agg #[.int .u16 t, .int .u16 u, .int .u16 r]] w fun e w' =>
    e = .returned (.agg (plv t u r)) ∧ Chg [] w w' := by
  go_enter Tryz.func100, Tryz.ntmps100
  go_wp2_with fail
  go_region_held3 (fun w' => w'.cell? ⟨w.heap.size, 0, none⟩ = some (.int .u16 t) ∧ w'.cell? ⟨w.heap.size, 1, none⟩ = some (.int .u16 u) ∧ w'.cell? ⟨w.heap.size, 2, none⟩ = some (.int .u16 r)) ((simp [go_sem, World.cell?_alloc_past]))
    (first | (go_at_call_of 137 (Value.int IntKind.i64 0); refine (at0 _ _ _ _).mono ?_; rintro e w' ⟨rfl, rfl⟩) | (go_at_call_of 137 (Value.int IntKind.i64 1); refine (at1 _ _ _ _).mono ?_; rintro e w' ⟨rfl, rfl⟩) | (go_at_call_of 137 (Value.int IntKind.i64 2); refine (at2 _ _ _ _).mono ?_; rintro e w' ⟨rfl, rfl⟩))
  all_goals go_wp2
  refine bodyPost_ret (v := .agg (plv t u r)) (by simp [results, Tryz.results100, go_sem, World.cell?_alloc_past]) rfl ⟨rfl, ?_⟩
  repeat (first | exact Chg.refl _ _ | refine Chg.drew ?_ | refine Chg.alloc ?_ _)
end Go.Proofs.YtbdnhllhdjepcaaGreat
namespace Go.Proofs.YtbdnhllhdjepcaaGreat
set_option linter.unusedVariables false
set_option linter.unusedSimpArgs false
open Go.RowKit Go.Maps

theorem laidOut : laidOutB Tryz.prog = true := by kernel_rfl
theorem row140 : (196 : TypeId) < Tryz.prog.types.size := of_decide_eq_true (by kernel_rfl)
theorem deep140 : Tryz.prog.keyTypeAt 4 196 = true := by kernel_rfl
theorem law140 : Keyed Tryz.prog 196 := Keyed.of_law (deep_law_laid laidOut (m := 4) (by omega) row140 deep140 (by rw [Tryz.underlying196]))
theorem cells140 : Tryz.prog.cellsOf 196 = 4 := by kernel_rfl
theorem cells47 : Tryz.prog.cellsOf 60 = 3 := by kernel_rfl
theorem cells45 : Tryz.prog.cellsOf 58 = 1 := by kernel_rfl
theorem cells3 : Tryz.prog.cellsOf 3 = 1 := by kernel_rfl
theorem keyType140 : Tryz.prog.keyType 196 = true := by kernel_rfl
theorem types221 : Tryz.prog.types.size = 273 := by kernel_rfl

/-- what the key of a place reads as -/
def kl (L t u r : Int) : Lit := .string (keyBytes [.int .i64 L, .int .u16 t, .int .u16 u, .int .u16 r])

theorem lits3 (n : Nat) (a : Value) : Tryz.prog.keyLits (n + 1) 3 [a] = match a with | .int q x => if q = .i64 ∧ (Lit.int .i64 x).wf = true then some [.int .i64 x] else none | _ => none := by
  unfold Program.keyLits
  simp only [Tryz.underlying3]
  cases a <;> rfl
theorem lits45 (n : Nat) (a : Value) : Tryz.prog.keyLits (n + 1) 58 [a] = match a with | .int q x => if q = .u16 ∧ (Lit.int .u16 x).wf = true then some [.int .u16 x] else none | _ => none := by
  unfold Program.keyLits
  simp only [Tryz.underlying58]
  cases a <;> rfl
theorem lits47 (n : Nat) (b c d : Value) : Tryz.prog.keyLits (n + 2) 60 [b, c, d] = (Tryz.prog.keyLits (n + 1) 58 [b]).bind fun y => (Tryz.prog.keyLits (n + 1) 58 [c]).bind fun z => (Tryz.prog.keyLits (n + 1) 58 [d]).bind fun v => some (y ++ (z ++ v)) := by
  conv => lhs; unfold Program.keyLits
  simp only [Tryz.underlying60]
  simp [cells47, cells45]
  generalize Tryz.prog.keyLits (n + 1) 58 [b] = x1
  generalize Tryz.prog.keyLits (n + 1) 58 [c] = x2
  generalize Tryz.prog.keyLits (n + 1) 58 [d] = x3
  cases x1 <;> cases x2 <;> cases x3 <;> simp
theorem lits140 (n : Nat) (a b c d : Value) : Tryz.prog.keyLits (n + 3) 196 [a, b, c, d] = (Tryz.prog.keyLits (n + 2) 3 [a]).bind fun x => (Tryz.prog.keyLits (n + 2) 60 [b, c, d]).bind fun y => some (x ++ y) := by
  conv => lhs; unfold Program.keyLits
  simp only [Tryz.underlying196]
  simp [cells140, cells47, cells3]
  generalize Tryz.prog.keyLits (n + 2) 3 [a] = x1
  generalize Tryz.prog.keyLits (n + 2) 60 [b, c, d] = x2
  cases x1 <;> cases x2 <;> simp
theorem keyOf_kl {L t u r : Int} (hL : (Lit.int .i64 L).wf = true) (ht : (Lit.int .u16 t).wf = true) (hu : (Lit.int .u16 u).wf = true) (hr : (Lit.int .u16 r).wf = true) :
    keyOf Tryz.prog 196 (.agg #[.int .i64 L, .int .u16 t, .int .u16 u, .int .u16 r]) = some (kl L t u r) := by
  have hf : (Value.agg #[.int .i64 L, .int .u16 t, .int .u16 u, .int .u16 r]).formed Tryz.prog 196 = true := by simp [Value.formed, Tryz.underlying196, cells140]
  unfold keyOf
  simp only [Tryz.underlying196, keyType140, hf, types221]
  simp only [Bool.and_self, if_true, Value.cells]
  rw [lits140, lits3, lits47, lits45, lits45, lits45]
  simp [hL, ht, hu, hr, kl]
theorem arr4 {cs : Array Value} (h : cs.size = 4) : ∃ a b c d, cs = #[a, b, c, d] := by
  obtain ⟨cl⟩ := cs
  match cl, h with
  | [a, b, c, d], _ => exact ⟨a, b, c, d, rfl⟩
theorem formed140 {v : Value} (hf : v.formed Tryz.prog 196 = true) : ∃ a b c d, v = .agg #[a, b, c, d] := by
  have hv : ∃ cs, v = .agg cs ∧ cs.size = 4 := by
    cases v <;> simp [Value.formed, Tryz.underlying196, cells140] at hf
    exact ⟨_, rfl, hf⟩
  obtain ⟨cs, h1, h2⟩ := hv
  obtain ⟨a, b, c, d, h3⟩ := arr4 h2
  exact ⟨a, b, c, d, by rw [h1, h3]⟩
theorem some_int {a : Value} {k : IntKind} {l : List Lit} (h : (match a with | .int q x => if q = k ∧ (Lit.int k x).wf = true then some [Lit.int k x] else none | _ => none) = some l) : ∃ x, a = .int k x ∧ (Lit.int k x).wf = true ∧ l = [Lit.int k x] := by
  cases a <;> simp at h
  obtain ⟨⟨h1, h2⟩, h3⟩ := h
  exact ⟨_, by rw [h1], h2, h3.symm⟩
theorem keyOf_inv {v : Value} {l : Lit} (h : keyOf Tryz.prog 196 v = some l) : ∃ L t u r, v = .agg #[.int .i64 L, .int .u16 t, .int .u16 u, .int .u16 r] ∧ l = kl L t u r ∧ (Lit.int .i64 L).wf = true ∧ (Lit.int .u16 t).wf = true ∧ (Lit.int .u16 u).wf = true ∧ (Lit.int .u16 r).wf = true := by
  unfold keyOf at h
  simp only [Tryz.underlying196, keyType140, Bool.true_and] at h
  by_cases hf : v.formed Tryz.prog 196 = true
  case neg => rw [if_neg hf] at h; cases h
  rw [if_pos hf] at h
  obtain ⟨a, b, c, d, hv⟩ := formed140 hf
  clear hf
  rw [hv] at h
  simp only [types221, Value.cells] at h
  rw [lits140, lits3, lits47, lits45, lits45, lits45] at h
  simp only [Option.map_eq_some_iff, Option.bind_eq_some_iff] at h
  obtain ⟨ls, ⟨x1, e1, x2, ⟨y1, e2, y2, e3, y3, e4, e5⟩, e6⟩, e7⟩ := h
  obtain ⟨L, ha, wL, hx1⟩ := some_int e1
  obtain ⟨t, hb, wt, hy1⟩ := some_int e2
  obtain ⟨u, hc, wu, hy2⟩ := some_int e3
  obtain ⟨r, hd, wr, hy3⟩ := some_int e4
  refine ⟨L, t, u, r, by rw [hv, ha, hb, hc, hd], ?_, wL, wt, wu, wr⟩
  rw [← e7, kl]
  simp only [Option.some.injEq] at e5 e6
  rw [← e6, ← e5, hx1, hy1, hy2, hy3]
  rfl
theorem kl_inj {L t u r L' t' u' r' : Int} (hL : (Lit.int .i64 L).wf = true) (ht : (Lit.int .u16 t).wf = true) (hu : (Lit.int .u16 u).wf = true) (hr : (Lit.int .u16 r).wf = true)
    (hL' : (Lit.int .i64 L').wf = true) (ht' : (Lit.int .u16 t').wf = true) (hu' : (Lit.int .u16 u').wf = true) (hr' : (Lit.int .u16 r').wf = true) (h : kl L t u r = kl L' t' u' r') : L = L' ∧ t = t' ∧ u = u' ∧ r = r' := by
  have := law140.inj (keyOf_kl hL ht hu hr) (h ▸ keyOf_kl hL' ht' hu' hr')
  simpa using this
end Go.Proofs.YtbdnhllhdjepcaaGreat
