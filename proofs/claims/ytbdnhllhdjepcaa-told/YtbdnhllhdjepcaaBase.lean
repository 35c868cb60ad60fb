import Derived.WalkKit
import Derived.Maps.Ext
import Derived.Maps.RangeWalk
import Derived.Deep.Draws
import Derived.OneCell
namespace Go.Proofs.Ytbdnhllhdjepcaa
set_option linter.unusedVariables false
set_option linter.unusedSimpArgs false
open Go.RowKit

theorem ret_int {k : IntKind} {a b : Int} (h : a = b) : Ending.returned (.int k a) = .returned (.int k b) := by rw [h]
theorem ret_bool {a b : Bool} (h : a = b) : Ending.returned (.bool a) = .returned (.bool b) := by rw [h]

/-- which of n things a raw number speaks of -/
def pk (c n : Int) : Int := if c < 0 then (-(c + 1)) % n else c % n

theorem pk_bd (c n : Int) (hn : 1 ≤ n) : 0 ≤ pk c n ∧ pk c n < n := by
  unfold pk; split
  · exact ⟨Int.emod_nonneg _ (by omega), Int.emod_lt_of_pos _ (by omega)⟩
  · exact ⟨Int.emod_nonneg _ (by omega), Int.emod_lt_of_pos _ (by omega)⟩
theorem pk_neg (c n : Int) (h : c < 0) : pk c n = -((c + 1).tmod n) := by
  unfold pk; rw [if_pos h, ← Int.neg_tmod, Int.tmod_eq_emod_of_nonneg (by omega)]
theorem pk_pos (c n : Int) (h : ¬ c < 0) : pk c n = c % n := by unfold pk; rw [if_neg h]

/-! ### what one quota lets through -/
def never : Int := 18446744073709551615
def ask (iv bu mark now cost : Int) : Int × Int :=
  if bu / iv < cost - 1 then (0, never)
  else if max mark now + cost * iv ≤ now + bu + iv then (max mark now + cost * iv, 0)
  else (max mark now + cost * iv, max mark now + cost * iv - (now + bu + iv))

theorem mul_bd {iv bu cost : Int} (hi : 1 ≤ iv) (hb : 0 ≤ bu) (hc : 1 ≤ cost) (h : ¬ bu / iv < cost - 1) : cost * iv ≤ bu + iv ∧ iv ≤ cost * iv := by
  have h1 : (cost - 1) * iv ≤ bu := Int.le_trans (Int.mul_le_mul_of_nonneg_right (Int.not_lt.1 h) (by omega)) (Int.ediv_mul_le _ (by omega))
  rw [Int.sub_mul, Int.one_mul] at h1
  have h2 : 1 * iv ≤ cost * iv := Int.mul_le_mul_of_nonneg_right hc (by omega)
  omega
/-- a rate that a quota may be -/
def Good (x : Int × Int) : Prop := 1 ≤ x.1 ∧ 0 ≤ x.2 ∧ x.1 + x.2 ≤ 4611686018427387904
theorem ask_bd {iv bu mark now cost : Int} (hi : 1 ≤ iv) (hb : 0 ≤ bu) (hib : iv + bu ≤ 4611686018427387904) (hm : 0 ≤ mark) (hm' : mark ≤ 13835058055282163711) (hn : 0 ≤ now) (hn' : now ≤ 9223372036854775807) (hc : 1 ≤ cost) :
    0 ≤ (ask iv bu mark now cost).1 ∧ (ask iv bu mark now cost).1 ≤ 18446744073709551615 ∧ 0 ≤ (ask iv bu mark now cost).2 ∧ (ask iv bu mark now cost).2 ≤ 18446744073709551615 ∧
    ((ask iv bu mark now cost).2 = 0 → (ask iv bu mark now cost).1 ≤ now + 4611686018427387904 ∧ now < (ask iv bu mark now cost).1) := by
  unfold ask
  by_cases h : bu / iv < cost - 1
  · rw [if_pos h]; simp [never]
  · have := mul_bd hi hb hc h
    rw [if_neg h]
    by_cases h2 : max mark now + cost * iv ≤ now + bu + iv
    · rw [if_pos h2]; simp only; omega
    · rw [if_neg h2]; simp only; omega

/-! ### what of a world has turned -/
/-- Of the blocks that were there none has turned but those of l. -/
structure Chg (l : List Nat) (w w' : World) : Prop where
  os : w'.os = w.os
  tape : w'.tape = w.tape
  output : w'.output = w.output
  size : w.heap.size ≤ w'.heap.size
  block : ∀ k, k < w.heap.size → k ∉ l → w'.heap[k]? = w.heap[k]?

theorem Chg.refl (l : List Nat) (w : World) : Chg l w w := ⟨rfl, rfl, rfl, Nat.le_refl _, fun _ _ _ => rfl⟩
theorem Chg.trans {l m : List Nat} {a b c : World} (h : Chg l a b) (k : Chg m b c) (hm : ∀ j ∈ m, j ∈ l ∨ a.heap.size ≤ j) : Chg l a c :=
  ⟨k.os.trans h.os, k.tape.trans h.tape, k.output.trans h.output, Nat.le_trans h.size k.size, fun i hi hn =>
    (k.block i (Nat.lt_of_lt_of_le hi h.size) (fun hj => by rcases hm i hj with h' | h'; exact hn h'; omega)).trans (h.block i hi hn)⟩
theorem Chg.mono {l m : List Nat} {a b : World} (h : Chg l a b) (hl : ∀ j ∈ l, j ∈ m) : Chg m a b := ⟨h.os, h.tape, h.output, h.size, fun i hi hn => h.block i hi (fun hj => hn (hl i hj))⟩
theorem Chg.alloc {l : List Nat} {a b : World} (h : Chg l a b) (o : Obj) : Chg l a (b.alloc o) :=
  h.trans (m := []) ⟨rfl, rfl, rfl, by simp, fun k hk _ => Below.heap_alloc _ _ _ hk⟩ (by simp)
theorem Chg.drew {l : List Nat} {a b : World} (h : Chg l a b) : Chg l a b.drew := ⟨h.os, h.tape, h.output, h.size, h.block⟩
theorem Chg.drewN {l : List Nat} {a b : World} (h : Chg l a b) (n : Nat) : Chg l a (b.drewN n) := ⟨h.os, h.tape, h.output, h.size, h.block⟩
theorem Chg.set {l : List Nat} {a b : World} (h : Chg l a b) (p : Addr) (u : Value) (hp : p.block ∈ l ∨ a.heap.size ≤ p.block) : Chg l a (b.setCell p u) :=
  h.trans (m := [p.block]) ⟨rfl, rfl, rfl, by simp [World.setCell], fun k _ hn => Below.heap_setCell _ _ _ _ (by simpa using hn)⟩ (by simpa using hp)
theorem Chg.ofGrown {w w' : World} {b : Nat} (h : w.grownBy w' (some b)) : Chg [b] w w' := ⟨h.os, h.tape, h.output, h.size, fun k hk hn => h.block k hk (by simpa using hn)⟩
theorem Chg.ofGrown0 {w w' : World} (h : w.grownBy w' none) : Chg [] w w' := ⟨h.os, h.tape, h.output, h.size, fun k hk _ => h.block k hk (by simp)⟩
theorem Chg.below {l : List Nat} {B : Nat} {w w' : World} (h : Chg l w w') (hB : B ≤ w.heap.size) (hl : ∀ j ∈ l, B ≤ j) : Below B w w' :=
  ⟨h.os, h.tape, h.output, h.size, fun k hk => h.block k (by omega) (fun hj => by have := hl k hj; omega)⟩
theorem Chg.blk {l : List Nat} {w w' : World} {b : Nat} {o : Obj} (h : Chg l w w') (hb : w.heap[b]? = some o) (hn : b ∉ l) : w'.heap[b]? = some o :=
  (h.block b (lt_of_block hb) hn).trans hb
theorem Chg.cell {l : List Nat} {w w' : World} {a : Addr} {v : Value} (h : Chg l w w') (hc : w.cell? a = some v) (hn : a.block ∉ l) : w'.cell? a = some v :=
  (World.cell?_of_block (h.block a.block (World.block_lt_of_cell? _ _ hc) hn)).trans hc
theorem Chg.map {H : Type} {P : Program} {k : TypeId} {R : Value → Option (DataW H × List MemPlace)} {b n : Nat} {D : DataW H} {l : List Nat} {w w' : World} (h : Chg l w w') (hm : w.ownsMap P k R b n D) (hn : b ∉ l) : w'.ownsMap P k R b n D := by
  obtain ⟨es, clock, hb, r⟩ := hm
  exact ⟨es, clock, h.blk hb hn, r⟩
/-- a block that turned and is as it was -/
theorem Chg.back {l m : List Nat} {w w' : World} (h : Chg l w w') (hb : ∀ j ∈ l, j ∈ m ∨ w'.heap[j]? = w.heap[j]?) : Chg m w w' :=
  ⟨h.os, h.tape, h.output, h.size, fun k hk hn => by
    by_cases hj : k ∈ l
    · rcases hb k hj with h' | h'
      · exact absurd h' hn
      · exact h'
    · exact h.block k hk hj⟩

/-! ### a block of cells -/
theorem blk_cell {w : World} {b i : Nat} {cs : List Value} {t : TypeId} {v : Value} (h : w.heap[b]? = some (.cells cs.toArray t (0, 0))) (hi : cs[i]? = some v) : w.cell? ⟨b, i, none⟩ = some v := by simp [World.cell?, h, hi]
theorem blk_free {w : World} {b i : Nat} {cs : Array Value} {t : TypeId} (h : w.heap[b]? = some (.cells cs t (0, 0))) : w.frozen? ⟨b, i, none⟩ = false := by simp [World.frozen?, h]
theorem blk_set {w : World} {b i : Nat} {cs : List Value} {t : TypeId} (u : Value) (h : w.heap[b]? = some (.cells cs.toArray t (0, 0))) : (w.setCell ⟨b, i, none⟩ u).heap[b]? = some (.cells (cs.set i u).toArray t (0, 0)) := by
  have hlt := lt_of_block h
  have h' : w.heap[b] = .cells cs.toArray t (0, 0) := by simpa [Array.getElem?_eq_getElem hlt] using h
  show (w.heap.modify b _)[b]? = _
  rw [Array.getElem?_eq_getElem (by simpa using hlt), Array.getElem_modify_self, h']
  simp
theorem blk_set_far {w : World} {b i k : Nat} {u : Value} {o : Obj} (h : w.heap[b]? = some o) (hne : b ≠ k) : (w.setCell ⟨k, i, none⟩ u).heap[b]? = some o := by
  rw [Below.heap_setCell _ _ _ _ hne]; exact h
theorem blk_alloc {w : World} {b : Nat} {o : Obj} (h : w.heap[b]? = some o) (x : Obj) : (w.alloc x).heap[b]? = some o := by
  rw [Below.heap_alloc _ _ _ (lt_of_block h)]; exact h

end Go.Proofs.Ytbdnhllhdjepcaa
