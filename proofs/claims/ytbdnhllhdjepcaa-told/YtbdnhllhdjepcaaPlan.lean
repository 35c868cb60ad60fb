import Derived.Test.YtbdnhllhdjepcaaNew
namespace Go.Proofs.Ytbdnhllhdjepcaa
set_option linter.unusedVariables false
set_option linter.unusedSimpArgs false
open Go.RowKit Go.Maps Go.MuLone Go.RwLone

/-- a quota that may be -/
def QOk (c p b : Int) : Prop := 1 ≤ c ∧ c ≤ 1000000 ∧ 1 ≤ p ∧ p ≤ 4611686018427387904 ∧ 0 ≤ b ∧ b ≤ 4611686018427387904 - ivl c p ∧ 1 ≤ ivl c p
abbrev cfgV (c0 p0 b0 c1 p1 b1 c2 p2 b2 sh sl ev de qu : Int) : List Value := [.int .i64 c0, .int .i64 p0, .int .i64 b0, .int .i64 c1, .int .i64 p1, .int .i64 b1, .int .i64 c2, .int .i64 p2, .int .i64 b2, .slice none 0 0, .int .i64 sh, .int .i64 sl, .int .i64 ev, .int .i64 de, .int .i64 qu]
def ratesTo (c0 p0 b0 c1 p1 b1 c2 p2 b2 : Int) (ob : Nat) : Nat → List Value
  | 0 => [.int .u64 0, .int .u64 0, .int .u64 0, .int .u64 0, .int .u64 0, .int .u64 0, .map (some ob)]
  | 1 => [.int .u64 (ivl c0 p0), .int .u64 b0, .int .u64 0, .int .u64 0, .int .u64 0, .int .u64 0, .map (some ob)]
  | 2 => [.int .u64 (ivl c0 p0), .int .u64 b0, .int .u64 (ivl c1 p1), .int .u64 b1, .int .u64 0, .int .u64 0, .map (some ob)]
  | _ => [.int .u64 (ivl c0 p0), .int .u64 b0, .int .u64 (ivl c1 p1), .int .u64 b1, .int .u64 (ivl c2 p2), .int .u64 b2, .map (some ob)]
theorem qindex0 (c0 p0 b0 c1 p1 b1 c2 p2 b2 : Int) : ∀ w : World, (Instr.index 27 (.agg #[.int .i64 c0, .int .i64 p0, .int .i64 b0, .int .i64 c1, .int .i64 p1, .int .i64 b1, .int .i64 c2, .int .i64 p2, .int .i64 b2]) (.int .i64 0)).run Try.prog w = .ok (.agg #[.int .i64 c0, .int .i64 p0, .int .i64 b0]) w := fun _ => by kernel_rfl
theorem qindex1 (c0 p0 b0 c1 p1 b1 c2 p2 b2 : Int) : ∀ w : World, (Instr.index 27 (.agg #[.int .i64 c0, .int .i64 p0, .int .i64 b0, .int .i64 c1, .int .i64 p1, .int .i64 b1, .int .i64 c2, .int .i64 p2, .int .i64 b2]) (.int .i64 1)).run Try.prog w = .ok (.agg #[.int .i64 c1, .int .i64 p1, .int .i64 b1]) w := fun _ => by kernel_rfl
theorem qindex2 (c0 p0 b0 c1 p1 b1 c2 p2 b2 : Int) : ∀ w : World, (Instr.index 27 (.agg #[.int .i64 c0, .int .i64 p0, .int .i64 b0, .int .i64 c1, .int .i64 p1, .int .i64 b1, .int .i64 c2, .int .i64 p2, .int .i64 b2]) (.int .i64 2)).run Try.prog w = .ok (.agg #[.int .i64 c2, .int .i64 p2, .int .i64 b2]) w := fun _ => by kernel_rfl

set_option maxRecDepth 100000 in
set_option maxHeartbeats 4000000 in
theorem planOf_nil (c0 p0 b0 c1 p1 b1 c2 p2 b2 sh sl ev de qu : Int) (w : World) (hq0 : QOk c0 p0 b0) (hq1 : QOk c1 p1 b1) (hq2 : QOk c2 p2 b2) (h1 : 1 ≤ sh) (h2 : sh ≤ 4) (h3 : 3 ≤ sl) (h4 : sl ≤ 64) (h5 : 1 ≤ ev) (h6 : ev ≤ 4611686018427387904) (h7 : 0 ≤ de) (h8 : de ≤ 4611686018427387904) (h9 : 0 ≤ qu) (h10 : qu ≤ 50) :
    Calls Try.prog 49 #[.agg #[.int .i64 c0, .int .i64 p0, .int .i64 b0, .int .i64 c1, .int .i64 p1, .int .i64 b1, .int .i64 c2, .int .i64 p2, .int .i64 b2, .slice none 0 0, .int .i64 sh, .int .i64 sl, .int .i64 ev, .int .i64 de, .int .i64 qu]] w fun e w' => ∃ pb ob : Nat, e = .returned (.tuple #[.pointer (some ⟨pb, 0, none⟩), .int .i64 0]) ∧ PlanAt w' pb ob ⟨ivl c0 p0, b0, ivl c1 p1, b1, ivl c2 p2, b2, .map []⟩ ∧ Chg [] w w' ∧ w.heap.size ≤ pb ∧ w.heap.size ≤ ob := by
  have hmm := fun w => run_makeMapN Try.underlying165 0 w
  go_enter Try.func49, Try.ntmps49
  go_wp2_with fail
  refine (sizes_any _ _ _ _ _ _ _ _ _ _ sh sl ev de qu _ h1 h2 h3 h4 h5 h6 h7 h8 h9 h10).mono ?_
  rintro e w1 ⟨rfl, hc1⟩
  have g1 : w1.heap[w.heap.size]? = some (.cells (cfgV c0 p0 b0 c1 p1 b1 c2 p2 b2 sh sl ev de qu).toArray 30 (0, 0)) := hc1.blk (heap_alloc_new w _) (by simp)
  have k0 := blk_cell (i := 0) g1 rfl
  have k1 := blk_cell (i := 1) g1 rfl
  have k2 := blk_cell (i := 2) g1 rfl
  have k3 := blk_cell (i := 3) g1 rfl
  have k4 := blk_cell (i := 4) g1 rfl
  have k5 := blk_cell (i := 5) g1 rfl
  have k6 := blk_cell (i := 6) g1 rfl
  have k7 := blk_cell (i := 7) g1 rfl
  have k8 := blk_cell (i := 8) g1 rfl
  have k9 := blk_cell (i := 9) g1 rfl
  have k10 := blk_cell (i := 10) g1 rfl
  have k11 := blk_cell (i := 11) g1 rfl
  have k12 := blk_cell (i := 12) g1 rfl
  have k13 := blk_cell (i := 13) g1 rfl
  have k14 := blk_cell (i := 14) g1 rfl
  have hch1 : Chg [] w w1 := ((Chg.refl _ _).alloc _).trans hc1 (by simp)
  have hl1 := lt_of_block g1
  clear hc1
  go_wp2_with fail
  go_loopw [28] (fun i wr => ∃ k : Nat, k ≤ 3 ∧ i = .int .i64 k ∧ Chg [] w1 wr ∧ wr.heap[w1.heap.size + 1]? = some (.cells (ratesTo c0 p0 b0 c1 p1 b1 c2 p2 b2 w1.heap.size k).toArray 170 (0, 0)) ∧ wr.ownsMap Try.prog 140 rateElem w1.heap.size 0 (.map [])) (fun i _ => 3 - (intOf i).toNat)
  case atStart => exact ⟨0, by omega, rfl, ((Chg.refl _ _).alloc _).alloc _, heap_alloc2_new _ _ _, (World.ownsMap_made _ _ _ _).alloc _⟩
  case round =>
    obtain ⟨k, hk, rfl, hch, hb, ho⟩ := hrel
    by_cases hlt : k < 3
    · rcases (show k = 0 ∨ k = 1 ∨ k = 2 from by omega) with rfl | rfl | rfl
      · have hix := qindex0 c0 p0 b0 c1 p1 b1 c2 p2 b2
        go_wp2_with fail
        refine (rateOf_any c0 p0 b0 _ hq0.1 hq0.2.1 hq0.2.2.1 hq0.2.2.2.1 hq0.2.2.2.2.1 hq0.2.2.2.2.2.1 hq0.2.2.2.2.2.2).mono ?_
        rintro e w2 ⟨rfl, hc2⟩
        have hq : Chg [] wr w2 := ((Chg.refl _ _).alloc _).trans hc2 (by simp)
        have b2' := hq.blk hb (by simp)
        have o2' := hq.map ho (by simp)
        have hch2 := hch.trans hq (by simp)
        have e0 : w2.cell? ⟨w1.heap.size + 1, 0, none⟩ = some (.int .u64 0) := blk_cell (i := 0) b2' rfl
        have e1 : w2.cell? ⟨w1.heap.size + 1, 1, none⟩ = some (.int .u64 0) := blk_cell (i := 1) b2' rfl
        have f0 : ∀ i, w2.frozen? ⟨w1.heap.size + 1, i, none⟩ = false := fun i => blk_free b2'
        have hl2 := lt_of_block b2'
        have HB : Hid (w2.heap[w1.heap.size + 1]? = some (.cells (ratesTo c0 p0 b0 c1 p1 b1 c2 p2 b2 w1.heap.size 0).toArray 170 (0, 0))) := b2'
        clear b2' hc2 hb
        go_wp2_with fail
        go_region
        go_wp2
        go_roundw
        case rel =>
          have r1 := blk_alloc (blk_set (i := 1) (.int .u64 b0) (blk_set (i := 0) (.int .u64 (ivl c0 p0)) HB.out)) (.cells #[.int .u64 (ivl c0 p0), .int .u64 b0] 167)
          exact ⟨1, by omega, by go_num, (((hch2.set _ _ (Or.inr (by dsimp only; omega))).set _ _ (Or.inr (by dsimp only; omega))).alloc _).drew, r1, ((o2'.setCell (by dsimp only; omega) _).setCell (by dsimp only; omega) _).alloc _⟩
        case measure => simp [intOf]
      · have hix := qindex1 c0 p0 b0 c1 p1 b1 c2 p2 b2
        go_wp2_with fail
        refine (rateOf_any c1 p1 b1 _ hq1.1 hq1.2.1 hq1.2.2.1 hq1.2.2.2.1 hq1.2.2.2.2.1 hq1.2.2.2.2.2.1 hq1.2.2.2.2.2.2).mono ?_
        rintro e w2 ⟨rfl, hc2⟩
        have hq : Chg [] wr w2 := ((Chg.refl _ _).alloc _).trans hc2 (by simp)
        have b2' := hq.blk hb (by simp)
        have o2' := hq.map ho (by simp)
        have hch2 := hch.trans hq (by simp)
        have e0 : w2.cell? ⟨w1.heap.size + 1, 2, none⟩ = some (.int .u64 0) := blk_cell (i := 2) b2' rfl
        have e1 : w2.cell? ⟨w1.heap.size + 1, 3, none⟩ = some (.int .u64 0) := blk_cell (i := 3) b2' rfl
        have f0 : ∀ i, w2.frozen? ⟨w1.heap.size + 1, i, none⟩ = false := fun i => blk_free b2'
        have hl2 := lt_of_block b2'
        have HB : Hid (w2.heap[w1.heap.size + 1]? = some (.cells (ratesTo c0 p0 b0 c1 p1 b1 c2 p2 b2 w1.heap.size 1).toArray 170 (0, 0))) := b2'
        clear b2' hc2 hb
        go_wp2_with fail
        go_region
        go_wp2
        go_roundw
        case rel =>
          have r1 := blk_alloc (blk_set (i := 3) (.int .u64 b1) (blk_set (i := 2) (.int .u64 (ivl c1 p1)) HB.out)) (.cells #[.int .u64 (ivl c1 p1), .int .u64 b1] 167)
          exact ⟨2, by omega, by go_num, (((hch2.set _ _ (Or.inr (by dsimp only; omega))).set _ _ (Or.inr (by dsimp only; omega))).alloc _).drew, r1, ((o2'.setCell (by dsimp only; omega) _).setCell (by dsimp only; omega) _).alloc _⟩
        case measure => simp [intOf]
      · have hix := qindex2 c0 p0 b0 c1 p1 b1 c2 p2 b2
        go_wp2_with fail
        refine (rateOf_any c2 p2 b2 _ hq2.1 hq2.2.1 hq2.2.2.1 hq2.2.2.2.1 hq2.2.2.2.2.1 hq2.2.2.2.2.2.1 hq2.2.2.2.2.2.2).mono ?_
        rintro e w2 ⟨rfl, hc2⟩
        have hq : Chg [] wr w2 := ((Chg.refl _ _).alloc _).trans hc2 (by simp)
        have b2' := hq.blk hb (by simp)
        have o2' := hq.map ho (by simp)
        have hch2 := hch.trans hq (by simp)
        have e0 : w2.cell? ⟨w1.heap.size + 1, 4, none⟩ = some (.int .u64 0) := blk_cell (i := 4) b2' rfl
        have e1 : w2.cell? ⟨w1.heap.size + 1, 5, none⟩ = some (.int .u64 0) := blk_cell (i := 5) b2' rfl
        have f0 : ∀ i, w2.frozen? ⟨w1.heap.size + 1, i, none⟩ = false := fun i => blk_free b2'
        have hl2 := lt_of_block b2'
        have HB : Hid (w2.heap[w1.heap.size + 1]? = some (.cells (ratesTo c0 p0 b0 c1 p1 b1 c2 p2 b2 w1.heap.size 2).toArray 170 (0, 0))) := b2'
        clear b2' hc2 hb
        go_wp2_with fail
        go_region
        go_wp2
        go_roundw
        case rel =>
          have r1 := blk_alloc (blk_set (i := 5) (.int .u64 b2) (blk_set (i := 4) (.int .u64 (ivl c2 p2)) HB.out)) (.cells #[.int .u64 (ivl c2 p2), .int .u64 b2] 167)
          exact ⟨3, by omega, by go_num, (((hch2.set _ _ (Or.inr (by dsimp only; omega))).set _ _ (Or.inr (by dsimp only; omega))).alloc _).drew, r1, ((o2'.setCell (by dsimp only; omega) _).setCell (by dsimp only; omega) _).alloc _⟩
        case measure => simp [intOf]
    · obtain rfl : k = 3 := by omega
      have g3 := hch.blk g1 (by simp)
      have k93 := blk_cell (i := 9) g3 rfl
      clear g3 g1 k0 k1 k2 k3 k4 k5 k6 k7 k8 k9 k10 k11 k12 k13 k14
      go_wp2_with fail
      refine wp_loop_rounds 1 ?_
      rw [rounds_succ]
      go_wp2
      go_ret2
      exact ⟨w1.heap.size + 1, w1.heap.size, rfl, ⟨hb, 0, ho⟩, hch1.trans hch (by simp), by have := hch1.size; omega, by have := hch1.size; omega⟩
end Go.Proofs.Ytbdnhllhdjepcaa
