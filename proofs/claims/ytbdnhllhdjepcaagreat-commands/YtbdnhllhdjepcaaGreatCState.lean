import Derived.Test.YtbdnhllhdjepcaaGreatCNew
namespace Go.Proofs.YtbdnhllhdjepcaaGreat
set_option linter.unusedVariables false
set_option linter.unusedSimpArgs false
open Go.RowKit Go.Maps Go.MuLone Go.RwLone

/-- a quota that may be -/
def QOk (c p b : Int) : Prop := 1 ≤ c ∧ c ≤ 1000000 ∧ 1 ≤ p ∧ p ≤ 4611686018427387904 ∧ 0 ≤ b ∧ b ≤ 4611686018427387904 - ivl c p ∧ 1 ≤ ivl c p
abbrev cfgV (c0 p0 b0 c1 p1 b1 c2 p2 b2 sh sl ev de qu : Int) : List Value := [.int .i64 c0, .int .i64 p0, .int .i64 b0, .int .i64 c1, .int .i64 p1, .int .i64 b1, .int .i64 c2, .int .i64 p2, .int .i64 b2, .slice none 0 0, .int .i64 sh, .int .i64 sl, .int .i64 ev, .int .i64 de, .int .i64 qu]
def ratesTo (c0 p0 b0 c1 p1 b1 c2 p2 b2 : Int) (ob : Nat) : Nat → List Value
  | 0 => [.int .u64 0, .int .u64 0, .int .u64 0, .int .u64 0, .int .u64 0, .int .u64 0, .map (some ob)]
  | 1 => [.int .u64 (ivl c0 p0), .int .u64 b0, .int .u64 0, .int .u64 0, .int .u64 0, .int .u64 0, .map (some ob)]
  | 2 => [.int .u64 (ivl c0 p0), .int .u64 b0, .int .u64 (ivl c1 p1), .int .u64 b1, .int .u64 0, .int .u64 0, .map (some ob)]
  | _ => [.int .u64 (ivl c0 p0), .int .u64 b0, .int .u64 (ivl c1 p1), .int .u64 b1, .int .u64 (ivl c2 p2), .int .u64 b2, .map (some ob)]
theorem qindex0 (c0 p0 b0 c1 p1 b1 c2 p2 b2 : Int) : ∀ w : World, (Instr.index 30 (.agg #[.int .i64 c0, .int .i64 p0, .int .i64 b0, .int .i64 c1, .int .i64 p1, .int .i64 b1, .int .i64 c2, .int .i64 p2, .int .i64 b2]) (.int .i64 0)).run Tryz.prog w = .ok (.agg #[.int .i64 c0, .int .i64 p0, .int .i64 b0]) w := fun _ => by kernel_rfl
theorem qindex1 (c0 p0 b0 c1 p1 b1 c2 p2 b2 : Int) : ∀ w : World, (Instr.index 30 (.agg #[.int .i64 c0, .int .i64 p0, .int .i64 b0, .int .i64 c1, .int .i64 p1, .int .i64 b1, .int .i64 c2, .int .i64 p2, .int .i64 b2]) (.int .i64 1)).run Tryz.prog w = .ok (.agg #[.int .i64 c1, .int .i64 p1, .int .i64 b1]) w := fun _ => by kernel_rfl
theorem qindex2 (c0 p0 b0 c1 p1 b1 c2 p2 b2 : Int) : ∀ w : World, (Instr.index 30 (.agg #[.int .i64 c0, .int .i64 p0, .int .i64 b0, .int .i64 c1, .int .i64 p1, .int .i64 b1, .int .i64 c2, .int .i64 p2, .int .i64 b2]) (.int .i64 2)).run Tryz.prog w = .ok (.agg #[.int .i64 c2, .int .i64 p2, .int .i64 b2]) w := fun _ => by kernel_rfl

set_option maxRecDepth 100000 in
set_option maxHeartbeats 4000000 in
theorem planOf_nil (c0 p0 b0 c1 p1 b1 c2 p2 b2 sh sl ev de qu : Int) (w : World) (hq0 : QOk c0 p0 b0) (hq1 : QOk c1 p1 b1) (hq2 : QOk c2 p2 b2) (h1 : 1 ≤ sh) (h2 : sh ≤ 4) (h3 : 3 ≤ sl) (h4 : sl ≤ 64) (h5 : 1 ≤ ev) (h6 : ev ≤ 4611686018427387904) (h7 : 0 ≤ de) (h8 : de ≤ 4611686018427387904) (h9 : 0 ≤ qu) (h10 : qu ≤ 50) :
    Calls Tryz.prog 49 #[.agg #[.int .i64 c0, .int .i64 p0, .int .i64 b0, .int .i64 c1, .int .i64 p1, .int .i64 b1, .int .i64 c2, .int .i64 p2, .int .i64 b2, .slice none 0 0, .int .i64 sh, .int .i64 sl, .int .i64 ev, .int .i64 de, .int .i64 qu]] w fun e w' => ∃ pb ob : Nat, e = .returned (.tuple #[.pointer (some ⟨pb, 0, none⟩), .int .i64 0]) ∧ PlanAt w' pb ob ⟨ivl c0 p0, b0, ivl c1 p1, b1, ivl c2 p2, b2, .map []⟩ ∧ Chg [] w w' ∧ w.heap.size ≤ pb ∧ w.heap.size ≤ ob := by
  have hmm := fun w => run_makeMapN Tryz.underlying178 0 w
  go_enter Tryz.func49, Tryz.ntmps49
  go_wp2_with fail
  refine (sizes_any _ _ _ _ _ _ _ _ _ _ sh sl ev de qu _ h1 h2 h3 h4 h5 h6 h7 h8 h9 h10).mono ?_
  rintro e w1 ⟨rfl, hc1⟩
  have g1 : w1.heap[w.heap.size]? = some (.cells (cfgV c0 p0 b0 c1 p1 b1 c2 p2 b2 sh sl ev de qu).toArray 33 (0, 0)) := hc1.blk (heap_alloc_new w _) (by simp)
  have k0 := blk_cell (i := 0) g1 rfl
  have k1 := blk_cell (i := 1) g1 rfl
  have k2 := blk_cell (i := 2) g1 rfl
  have k3 := blk_cell (i := 3) g1 rfl
  have k4 := blk_cell (i := 4) g1 rfl
  have k5 := blk_cell (i := 5) g1 rfl
  have k6 := blk_cell (i := 6) g1 rfl
  have k7 := blk_cell (i := 7) g1 rfl
  have k8 := blk_cell (i := 8) g1 rfl
  have k9 := blk_cell (i := 9) g1 rfl
  have k10 := blk_cell (i := 10) g1 rfl
  have k11 := blk_cell (i := 11) g1 rfl
  have k12 := blk_cell (i := 12) g1 rfl
  have k13 := blk_cell (i := 13) g1 rfl
  have k14 := blk_cell (i := 14) g1 rfl
  have hch1 : Chg [] w w1 := ((Chg.refl _ _).alloc _).trans hc1 (by simp)
  have hl1 := lt_of_block g1
  clear hc1
  go_wp2_with fail
  go_loopw [28] (fun i wr => ∃ k : Nat, k ≤ 3 ∧ i = .int .i64 k ∧ Chg [] w1 wr ∧ wr.heap[w1.heap.size + 1]? = some (.cells (ratesTo c0 p0 b0 c1 p1 b1 c2 p2 b2 w1.heap.size k).toArray 183 (0, 0)) ∧ wr.ownsMap Tryz.prog 196 rateElem w1.heap.size 0 (.map [])) (fun i _ => 3 - (intOf i).toNat)
  case atStart => exact ⟨0, by omega, rfl, ((Chg.refl _ _).alloc _).alloc _, heap_alloc2_new _ _ _, (World.ownsMap_made _ _ _ _).alloc _⟩
  case round =>
    obtain ⟨k, hk, rfl, hch, hb, ho⟩ := hrel
    by_cases hlt : k < 3
    · rcases (show k = 0 ∨ k = 1 ∨ k = 2 from by omega) with rfl | rfl | rfl
      · have hix := qindex0 c0 p0 b0 c1 p1 b1 c2 p2 b2
        go_wp2_with fail
        refine (rateOf_any c0 p0 b0 _ hq0.1 hq0.2.1 hq0.2.2.1 hq0.2.2.2.1 hq0.2.2.2.2.1 hq0.2.2.2.2.2.1 hq0.2.2.2.2.2.2).mono ?_
        rintro e w2 ⟨rfl, hc2⟩
        have hq : Chg [] wr w2 := ((Chg.refl _ _).alloc _).trans hc2 (by simp)
        have b2' := hq.blk hb (by simp)
        have o2' := hq.map ho (by simp)
        have hch2 := hch.trans hq (by simp)
        have e0 : w2.cell? ⟨w1.heap.size + 1, 0, none⟩ = some (.int .u64 0) := blk_cell (i := 0) b2' rfl
        have e1 : w2.cell? ⟨w1.heap.size + 1, 1, none⟩ = some (.int .u64 0) := blk_cell (i := 1) b2' rfl
        have f0 : ∀ i, w2.frozen? ⟨w1.heap.size + 1, i, none⟩ = false := fun i => blk_free b2'
        have hl2 := lt_of_block b2'
        have HB : Hid (w2.heap[w1.heap.size + 1]? = some (.cells (ratesTo c0 p0 b0 c1 p1 b1 c2 p2 b2 w1.heap.size 0).toArray 183 (0, 0))) := b2'
        clear b2' hc2 hb
        go_wp2_with fail
        go_region
        go_wp2
        go_roundw
        case rel =>
          have r1 := blk_alloc (blk_set (i := 1) (.int .u64 b0) (blk_set (i := 0) (.int .u64 (ivl c0 p0)) HB.out)) (.cells #[.int .u64 (ivl c0 p0), .int .u64 b0] 180)
          exact ⟨1, by omega, by go_num, (((hch2.set _ _ (Or.inr (by dsimp only; omega))).set _ _ (Or.inr (by dsimp only; omega))).alloc _).drew, r1, ((o2'.setCell (by dsimp only; omega) _).setCell (by dsimp only; omega) _).alloc _⟩
        case measure => simp [intOf]
      · have hix := qindex1 c0 p0 b0 c1 p1 b1 c2 p2 b2
        go_wp2_with fail
        refine (rateOf_any c1 p1 b1 _ hq1.1 hq1.2.1 hq1.2.2.1 hq1.2.2.2.1 hq1.2.2.2.2.1 hq1.2.2.2.2.2.1 hq1.2.2.2.2.2.2).mono ?_
        rintro e w2 ⟨rfl, hc2⟩
        have hq : Chg [] wr w2 := ((Chg.refl _ _).alloc _).trans hc2 (by simp)
        have b2' := hq.blk hb (by simp)
        have o2' := hq.map ho (by simp)
        have hch2 := hch.trans hq (by simp)
        have e0 : w2.cell? ⟨w1.heap.size + 1, 2, none⟩ = some (.int .u64 0) := blk_cell (i := 2) b2' rfl
        have e1 : w2.cell? ⟨w1.heap.size + 1, 3, none⟩ = some (.int .u64 0) := blk_cell (i := 3) b2' rfl
        have f0 : ∀ i, w2.frozen? ⟨w1.heap.size + 1, i, none⟩ = false := fun i => blk_free b2'
        have hl2 := lt_of_block b2'
        have HB : Hid (w2.heap[w1.heap.size + 1]? = some (.cells (ratesTo c0 p0 b0 c1 p1 b1 c2 p2 b2 w1.heap.size 1).toArray 183 (0, 0))) := b2'
        clear b2' hc2 hb
        go_wp2_with fail
        go_region
        go_wp2
        go_roundw
        case rel =>
          have r1 := blk_alloc (blk_set (i := 3) (.int .u64 b1) (blk_set (i := 2) (.int .u64 (ivl c1 p1)) HB.out)) (.cells #[.int .u64 (ivl c1 p1), .int .u64 b1] 180)
          exact ⟨2, by omega, by go_num, (((hch2.set _ _ (Or.inr (by dsimp only; omega))).set _ _ (Or.inr (by dsimp only; omega))).alloc _).drew, r1, ((o2'.setCell (by dsimp only; omega) _).setCell (by dsimp only; omega) _).alloc _⟩
        case measure => simp [intOf]
      · have hix := qindex2 c0 p0 b0 c1 p1 b1 c2 p2 b2
        go_wp2_with fail
        refine (rateOf_any c2 p2 b2 _ hq2.1 hq2.2.1 hq2.2.2.1 hq2.2.2.2.1 hq2.2.2.2.2.1 hq2.2.2.2.2.2.1 hq2.2.2.2.2.2.2).mono ?_
        rintro e w2 ⟨rfl, hc2⟩
        have hq : Chg [] wr w2 := ((Chg.refl _ _).alloc _).trans hc2 (by simp)
        have b2' := hq.blk hb (by simp)
        have o2' := hq.map ho (by simp)
        have hch2 := hch.trans hq (by simp)
        have e0 : w2.cell? ⟨w1.heap.size + 1, 4, none⟩ = some (.int .u64 0) := blk_cell (i := 4) b2' rfl
        have e1 : w2.cell? ⟨w1.heap.size + 1, 5, none⟩ = some (.int .u64 0) := blk_cell (i := 5) b2' rfl
        have f0 : ∀ i, w2.frozen? ⟨w1.heap.size + 1, i, none⟩ = false := fun i => blk_free b2'
        have hl2 := lt_of_block b2'
        have HB : Hid (w2.heap[w1.heap.size + 1]? = some (.cells (ratesTo c0 p0 b0 c1 p1 b1 c2 p2 b2 w1.heap.size 2).toArray 183 (0, 0))) := b2'
        clear b2' hc2 hb
        go_wp2_with fail
        go_region
        go_wp2
        go_roundw
        case rel =>
          have r1 := blk_alloc (blk_set (i := 5) (.int .u64 b2) (blk_set (i := 4) (.int .u64 (ivl c2 p2)) HB.out)) (.cells #[.int .u64 (ivl c2 p2), .int .u64 b2] 180)
          exact ⟨3, by omega, by go_num, (((hch2.set _ _ (Or.inr (by dsimp only; omega))).set _ _ (Or.inr (by dsimp only; omega))).alloc _).drew, r1, ((o2'.setCell (by dsimp only; omega) _).setCell (by dsimp only; omega) _).alloc _⟩
        case measure => simp [intOf]
    · obtain rfl : k = 3 := by omega
      have g3 := hch.blk g1 (by simp)
      have k93 := blk_cell (i := 9) g3 rfl
      clear g3 g1 k0 k1 k2 k3 k4 k5 k6 k7 k8 k9 k10 k11 k12 k13 k14
      go_wp2_with fail
      refine wp_loop_rounds 1 ?_
      rw [rounds_succ]
      go_wp2
      go_ret2
      exact ⟨w1.heap.size + 1, w1.heap.size, rfl, ⟨hb, 0, ho⟩, hch1.trans hch (by simp), by have := hch1.size; omega, by have := hch1.size; omega⟩
end Go.Proofs.YtbdnhllhdjepcaaGreat
namespace Go.Proofs.YtbdnhllhdjepcaaGreat
set_option linter.unusedVariables false
set_option linter.unusedSimpArgs false
open Go.RowKit Go.Maps Go.MuLone Go.RwLone

/-- an array of pointers, all nil -/
def nils (n : Nat) : Array Value := (List.replicate n (Value.pointer none)).toArray
theorem mkShards (n : Nat) (h1 : 1 ≤ n) (h4 : n ≤ 4) (W : World) : (Instr.makeSlice 90 (.int .i64 n) (.int .i64 n)).run Tryz.prog W = .ok (.slice (some ⟨W.heap.size, 0, none⟩) n n) (W.alloc (.cells (nils n) 129)) := by
  rcases (show n = 1 ∨ n = 2 ∨ n = 3 ∨ n = 4 from by omega) with rfl | rfl | rfl | rfl
  · have : ∀ W : World, (Instr.makeSlice 90 (.int .i64 1) (.int .i64 1)).run Tryz.prog W = .ok (.slice (some ⟨W.heap.size, 0, none⟩) 1 1) (W.alloc (.cells (nils 1) 129)) := fun _ => by kernel_rfl
    exact this W
  · have : ∀ W : World, (Instr.makeSlice 90 (.int .i64 2) (.int .i64 2)).run Tryz.prog W = .ok (.slice (some ⟨W.heap.size, 0, none⟩) 2 2) (W.alloc (.cells (nils 2) 129)) := fun _ => by kernel_rfl
    exact this W
  · have : ∀ W : World, (Instr.makeSlice 90 (.int .i64 3) (.int .i64 3)).run Tryz.prog W = .ok (.slice (some ⟨W.heap.size, 0, none⟩) 3 3) (W.alloc (.cells (nils 3) 129)) := fun _ => by kernel_rfl
    exact this W
  · have : ∀ W : World, (Instr.makeSlice 90 (.int .i64 4) (.int .i64 4)).run Tryz.prog W = .ok (.slice (some ⟨W.heap.size, 0, none⟩) 4 4) (W.alloc (.cells (nils 4) 129)) := fun _ => by kernel_rfl
    exact this W

/-- a queue without items and turns -/
def QueueNew (w : World) (qb tb xb : Nat) (ev de qu : Int) : Prop :=
  w.heap[qb]? = some (.cells [.int .i32 0, .int .u32 0, .int .u64 ev, .int .u64 de, .int .i64 qu, .pointer (some ⟨tb, 0, none⟩), .slice none 0 0].toArray 190 (0, 0)) ∧ w.heap[tb]? = some (.cells [.map (some xb), .slice none 0 0].toArray 232 (0, 0)) ∧ w.heap[xb]? = some (.map #[] 0)
theorem QueueNew.chg {w w' : World} {qb tb xb : Nat} {ev de qu : Int} {l : List Nat} (h : QueueNew w qb tb xb ev de qu) (hc : Chg l w w') (h1 : qb ∉ l) (h2 : tb ∉ l) (h3 : xb ∉ l) : QueueNew w' qb tb xb ev de qu := ⟨hc.blk h.1 h1, hc.blk h.2.1 h2, hc.blk h.2.2 h3⟩
theorem queueNew_ex (ev de qu : Int) (w : World) (h5 : 1 ≤ ev) (h6 : ev ≤ 4611686018427387904) (h7 : 0 ≤ de) (h8 : de ≤ 4611686018427387904) :
    Calls Tryz.prog 50 #[.int .i64 ev, .int .i64 de, .int .i64 qu] w fun e w' => ∃ qb tb xb : Nat, e = .returned (.pointer (some ⟨qb, 0, none⟩)) ∧ QueueNew w' qb tb xb ev de qu ∧ Chg [] w w' ∧ w.heap.size ≤ qb ∧ w.heap.size ≤ tb ∧ w.heap.size ≤ xb := by
  refine (queueNew_any ev de qu w h5 h6 h7 h8).mono ?_
  rintro e w' ⟨rfl, rfl⟩
  refine ⟨w.heap.size + 2, w.heap.size + 1, w.heap.size, rfl, ⟨?_, ?_, ?_⟩, (((Chg.refl _ _).alloc _).alloc _).alloc _, by omega, by omega, by omega⟩
  · have := heap_alloc2_new (w.alloc (.map #[] 0)) (.cells #[.map (some w.heap.size), .slice none 0 0] 232) (.cells #[.int .i32 0, .int .u32 0, .int .u64 ev, .int .u64 de, .int .i64 qu, .pointer (some ⟨w.heap.size + 1, 0, none⟩), .slice none 0 0] 190)
    simpa using this
  · exact blk_alloc (heap_alloc2_new _ _ _) _
  · exact blk_alloc (heap_alloc2_old _ _ _) _

theorem shardNew_ex (pb : Nat) (slots : Int) (w : World) (h0 : 3 ≤ slots) (h1 : slots ≤ 64) :
    Calls Tryz.prog 51 #[.pointer (some ⟨pb, 0, none⟩), .int .i64 slots] w fun e w' => ∃ s d : Nat, e = .returned (.pointer (some ⟨s, 0, none⟩)) ∧ ShardAt w' s pb d slots ∧ w'.heap[d]? = some (.map #[] 0) ∧ Chg [] w w' ∧ w.heap.size ≤ s ∧ w.heap.size ≤ d := by
  refine (shardNew_any pb slots w h0 h1).mono ?_
  rintro e w' ⟨rfl, rfl⟩
  exact ⟨w.heap.size + 1, w.heap.size, rfl, heap_alloc2_new _ _ _, heap_alloc2_old _ _ _, ((Chg.refl _ _).alloc _).alloc _, by omega, Nat.le_refl _⟩

def sptr (x : Nat × Nat) : Value := .pointer (some ⟨x.1, 0, none⟩)
/-- a shard that was made, with its map -/
def ShardNew (w : World) (lo pb : Nat) (sl : Int) (x : Nat × Nat) : Prop := ShardAt w x.1 pb x.2 sl ∧ w.heap[x.2]? = some (.map #[] 0) ∧ lo ≤ x.1 ∧ lo ≤ x.2
theorem ShardNew.chg {l : List Nat} {w w' : World} {lo pb : Nat} {sl : Int} {x : Nat × Nat} (h : ShardNew w lo pb sl x) (hc : Chg l w w') (h1 : x.1 ∉ l) (h2 : x.2 ∉ l) : ShardNew w' lo pb sl x := ⟨hc.blk h.1 h1, hc.blk h.2.1 h2, h.2.2⟩
/-- the array of shards behind k rounds -/
def arrTo (sd : List (Nat × Nat)) (n : Nat) : List Value := sd.map sptr ++ List.replicate (n - sd.length) (.pointer none)
theorem arr_step (sd : List (Nat × Nat)) (n : Nat) (x : Nat × Nat) (h : sd.length < n) : (arrTo sd n).set sd.length (sptr x) = arrTo (sd ++ [x]) n := by
  unfold arrTo
  have e : n - sd.length = (n - (sd.length + 1)) + 1 := by omega
  rw [e, List.replicate_succ, List.set_append_right _ _ (by simp)]
  simp
theorem arr_at (sd : List (Nat × Nat)) (n : Nat) (h : sd.length < n) : (arrTo sd n)[sd.length]? = some (.pointer none) := by
  unfold arrTo
  rw [List.getElem?_append_right (by simp)]
  rw [List.getElem?_replicate, if_pos (by simp <;> omega)]
theorem arr_end (sd : List (Nat × Nat)) : arrTo sd sd.length = sd.map sptr := by unfold arrTo; simp

/-- what New makes -/
structure MtrNew (w w' : World) (mb n : Nat) (sl : Int) (p : Pln) (ev de qu : Int) (ab qb tb xb pb ob : Nat) (sd : List (Nat × Nat)) : Prop where
  len : sd.length = n
  meter : MeterAt w' mb 0 ab n qb
  arr : w'.heap[ab]? = some (.cells (sd.map sptr).toArray 129 (0, 0))
  shards : ∀ x ∈ sd, ShardNew w' w.heap.size pb sl x
  apart : (sd.map (·.2)).Nodup
  obd : ∀ x ∈ sd, x.2 ≠ ob
  xbd : ∀ x ∈ sd, x.2 ≠ xb
  xbo : xb ≠ ob
  plan : PlanAt w' pb ob p
  queue : QueueNew w' qb tb xb ev de qu
  chg : Chg [] w w'
  mlo : w.heap.size ≤ mb
  alo : w.heap.size ≤ ab
  qlo : w.heap.size ≤ qb
  tlo : w.heap.size ≤ tb
  xlo : w.heap.size ≤ xb
  plo : w.heap.size ≤ pb
  olo : w.heap.size ≤ ob

set_option maxRecDepth 100000 in
set_option maxHeartbeats 8000000 in
theorem New_nil (c0 p0 b0 c1 p1 b1 c2 p2 b2 sl ev de qu : Int) (n : Nat) (w : World) (hq0 : QOk c0 p0 b0) (hq1 : QOk c1 p1 b1) (hq2 : QOk c2 p2 b2) (h1 : 1 ≤ n) (h2 : n ≤ 4) (h3 : 3 ≤ sl) (h4 : sl ≤ 64) (h5 : 1 ≤ ev) (h6 : ev ≤ 4611686018427387904) (h7 : 0 ≤ de) (h8 : de ≤ 4611686018427387904) (h9 : 0 ≤ qu) (h10 : qu ≤ 50) :
    Calls Tryz.prog 20 #[.agg #[.int .i64 c0, .int .i64 p0, .int .i64 b0, .int .i64 c1, .int .i64 p1, .int .i64 b1, .int .i64 c2, .int .i64 p2, .int .i64 b2, .slice none 0 0, .int .i64 n, .int .i64 sl, .int .i64 ev, .int .i64 de, .int .i64 qu]] w fun e w' => ∃ (mb ab qb tb xb pb ob : Nat) (sd : List (Nat × Nat)), e = .returned (.tuple #[.pointer (some ⟨mb, 0, none⟩), .int .i64 0]) ∧ MtrNew w w' mb n sl ⟨ivl c0 p0, b0, ivl c1 p1, b1, ivl c2 p2, b2, .map []⟩ ev de qu ab qb tb xb pb ob sd := by
  go_enter Tryz.func20, Tryz.ntmps20
  go_wp2_with fail
  refine (planOf_nil c0 p0 b0 c1 p1 b1 c2 p2 b2 n sl ev de qu _ hq0 hq1 hq2 (by omega) (by omega) h3 h4 h5 h6 h7 h8 h9 h10).mono ?_
  rintro e w1 ⟨pb, ob, rfl, hp, hc1, hpb, hob⟩
  have g1 : w1.heap[w.heap.size]? = some (.cells (cfgV c0 p0 b0 c1 p1 b1 c2 p2 b2 n sl ev de qu).toArray 33 (0, 0)) := hc1.blk (heap_alloc_new w _) (by simp)
  have hl1 := lt_of_block g1
  have HS : Hid (∀ W, Chg [] w1 W → (W.cell? ⟨w.heap.size, 10, none⟩ = some (.int .i64 n) ∧ W.cell? ⟨w.heap.size, 12, none⟩ = some (.int .i64 ev) ∧ W.cell? ⟨w.heap.size, 13, none⟩ = some (.int .i64 de) ∧ W.cell? ⟨w.heap.size, 14, none⟩ = some (.int .i64 qu))) := fun W hW => by
    have g2 := hW.blk g1 (by simp)
    exact ⟨blk_cell g2 rfl, blk_cell g2 rfl, blk_cell g2 rfl, blk_cell g2 rfl⟩
  have hmk := mkShards n h1 h2
  have hn0 : (0 : Int) ≤ (n : Int) := by omega
  go_wp2_with fail
  go_region_held3 (fun W => W.cell? ⟨w.heap.size, 10, none⟩ = some (.int .i64 n) ∧ W.cell? ⟨w.heap.size, 12, none⟩ = some (.int .i64 ev) ∧ W.cell? ⟨w.heap.size, 13, none⟩ = some (.int .i64 de) ∧ W.cell? ⟨w.heap.size, 14, none⟩ = some (.int .i64 qu))
    (first | exact HS.out _ ((Chg.refl _ _).drew) | exact HS.out _ (((Chg.refl _ _).drew).trans hcq (by simp)) | exact HS.out _ (((Chg.refl _ _).drew).alloc _) | exact HS.out _ (((Chg.refl _ _).alloc _).drew) | exact HS.out _ ((((Chg.refl _ _).drew).trans hcq (by simp)).alloc _) | exact HS.out _ ((((Chg.refl _ _).alloc _).drew).trans hcq (by simp)) | exact HS.out _ (((((Chg.refl _ _).drew).trans hcq (by simp)).alloc _).alloc _) | exact HS.out _ (((((Chg.refl _ _).alloc _).drew).trans hcq (by simp)).alloc _))
    (first | (go_at_call 50; refine (queueNew_ex ev de qu _ h5 h6 h7 h8).mono ?_; rintro e w2 ⟨qb, tb, xb, rfl, hq, hcq, hqb, htb, hxb⟩))
  · have hw1l := hc1.size
    simp at hw1l
    have hw2l := hcq.size
    simp at hw2l
    have hc2 : Chg [] w1 w2 := (((Chg.refl _ _).alloc _).drew).trans hcq (by simp)
    have hb0 : w2.heap[w1.heap.size]? = some (.cells (arrTo [] n).toArray 129 (0, 0)) := hcq.blk (b := w1.heap.size) (heap_alloc_new _ _) (by simp)
    have hb1 := blk_alloc hb0 (.cells (mcells 0 w1.heap.size n qb).toArray 93)
    have hm1 : (w2.alloc (.cells (mcells 0 w1.heap.size n qb).toArray 93)).heap[w2.heap.size]? = some (.cells (mcells 0 w1.heap.size n qb).toArray 93 (0, 0)) := heap_alloc_new _ _
    have hcW := hc2.alloc (.cells (mcells 0 w1.heap.size n qb).toArray 93)
    have hqW := hq.chg ((Chg.refl [] w2).alloc (.cells (mcells 0 w1.heap.size n qb).toArray 93)) (by simp) (by simp) (by simp)
    have hqb' : w1.heap.size ≤ qb := by simp at hqb; omega
    have htb' : w1.heap.size ≤ tb := by simp at htb; omega
    have hxb' : w1.heap.size ≤ xb := by simp at hxb; omega
    obtain ⟨W0, hW0⟩ : ∃ W0, W0 = (w2.alloc (.cells (mcells 0 w1.heap.size n qb).toArray 93)) := ⟨_, rfl⟩
    rw [← hW0] at hb1 hm1 hcW hqW
    have hsz : W0.heap.size = w2.heap.size + 1 := by rw [hW0]; simp
    have HW0 : Hid ((w2.alloc (.cells (mcells 0 w1.heap.size n qb).toArray 93)) = W0) := hW0.symm
    have hpW := hp.chg hcW (by simp) (by simp)
    have hpl := lt_of_block hp.1
    have hol : ob < w1.heap.size := hp.2.elim fun _ h => h.lt
    have hxl := lt_of_block hqW.2.2
    have gW := hcW.blk g1 (by simp)
    have k7 : W0.cell? ⟨w2.heap.size, 7, none⟩ = some (.slice (some ⟨w1.heap.size, 0, none⟩) n n) := blk_cell (i := 7) hm1 rfl
    clear hW0 HS hq hqb htb hxb
    refine (show _ from ?_)
    rw [show (w2.alloc (.cells #[.int .i32 0, .int .u32 0, .int .u32 0, .int .u32 0, .int .i32 0, .int .i32 0, .int .u64 0, .slice (some ⟨w1.heap.size, 0, none⟩) n n, .pointer (some ⟨qb, 0, none⟩)] 93)) = W0 from HW0.out]
    go_wp2_with fail
    go_loopw [33] (fun i wr => ∃ sd : List (Nat × Nat), sd.length ≤ n ∧ i = .int .i64 sd.length ∧ Chg [w1.heap.size] W0 wr ∧ wr.heap[w1.heap.size]? = some (.cells (arrTo sd n).toArray 129 (0, 0)) ∧ (∀ x ∈ sd, ShardNew wr W0.heap.size pb sl x) ∧ (sd.map (·.2)).Nodup) (fun i _ => n - (intOf i).toNat)
    case atStart => exact ⟨[], by simp, rfl, Chg.refl _ _, hb1, by simp, by simp⟩
    case round =>
      obtain ⟨sd, hk, rfl, hch, hb, hsh, hnd⟩ := hrel
      have hm2 := hch.blk hm1 (by simp <;> omega)
      have g2 := hch.blk gW (by simp <;> omega)
      by_cases hlt : sd.length < n
      · have HS : Hid (∀ W, Chg [w1.heap.size] wr W → (W.cell? ⟨w2.heap.size, 7, none⟩ = some (.slice (some ⟨w1.heap.size, 0, none⟩) n n) ∧ W.cell? ⟨w.heap.size, 11, none⟩ = some (.int .i64 sl))) := fun W hW => by
          have m3 := hW.blk hm2 (by simp <;> omega)
          have g3 := hW.blk g2 (by simp <;> omega)
          exact ⟨blk_cell m3 rfl, blk_cell g3 rfl⟩
        have hk0 : (0 : Int) ≤ (sd.length : Int) := by omega
        have hk1 : (sd.length : Int) < (n : Int) := by omega
        have HB : Hid (wr.heap[w1.heap.size]? = some (.cells (arrTo sd n).toArray 129 (0, 0))) := hb
        have HSH : Hid (∀ x ∈ sd, ShardNew wr W0.heap.size pb sl x) := hsh
        have HND : Hid ((sd.map (·.2)).Nodup) := hnd
        clear hb hsh hnd
        generalize hkk : sd.length = k at *
        have HK : Hid (sd.length = k) := hkk
        clear hkk
        go_wp2_with fail
        go_region_held3 (fun W => W.cell? ⟨w2.heap.size, 7, none⟩ = some (.slice (some ⟨w1.heap.size, 0, none⟩) n n) ∧ W.cell? ⟨w.heap.size, 11, none⟩ = some (.int .i64 sl))
          (first | exact HS.out _ ((Chg.refl _ _).drew) | exact HS.out _ (((Chg.refl _ _).drew).trans hcn (by simp)) | exact HS.out _ ((((Chg.refl _ _).drew).trans hcn (by simp)).set _ _ (Or.inl (by simp))))
          (first | (go_at_call 51; refine (shardNew_ex pb sl _ h3 h4).mono ?_; rintro e w3 ⟨s, d, rfl, hsn, hdn, hcn, hsl, hdl⟩; have a3 := hcn.blk (b := w1.heap.size) HB.out (by simp); have e3 : w3.cell? ⟨w1.heap.size, k, none⟩ = some (.pointer none) := blk_cell (i := k) a3 (by have := arr_at sd n (by rw [HK.out]; omega); rw [HK.out] at this; exact this); have f3 : w3.frozen? ⟨w1.heap.size, k, none⟩ = false := blk_free a3))
        have hcr : Chg [w1.heap.size] wr (w3.setCell ⟨w1.heap.size, k, none⟩ (.pointer (some ⟨s, 0, none⟩))) := (((Chg.refl _ _).drew).trans hcn (by simp)).set _ _ (Or.inl (by simp))
        have hcs : Chg [w1.heap.size] w3 (w3.setCell ⟨w1.heap.size, k, none⟩ (.pointer (some ⟨s, 0, none⟩))) := (Chg.refl _ _).set _ _ (Or.inl (by simp))
        have hszr := hch.size
        have hsl' : wr.heap.size ≤ s := hsl
        have hdl' : wr.heap.size ≤ d := hdl
        have hnew : ShardNew (w3.setCell ⟨w1.heap.size, k, none⟩ (.pointer (some ⟨s, 0, none⟩))) W0.heap.size pb sl (s, d) := ShardNew.chg (l := [w1.heap.size]) (w := w3) ⟨hsn, hdn, by dsimp only; omega, by dsimp only; omega⟩ hcs (by simp <;> omega) (by simp <;> omega)
        have harr := blk_set (i := k) (.pointer (some ⟨s, 0, none⟩)) a3
        go_wp2
        go_roundw
        case rel =>
          refine ⟨sd ++ [(s, d)], by simp [HK.out]; omega, by simp [HK.out], hch.trans hcr (by simp), ?_, ?_, ?_⟩
          · rw [← arr_step sd n (s, d) (by rw [HK.out]; omega), HK.out]
            exact harr
          · intro x hx
            rcases List.mem_append.1 hx with hx | hx
            · have hx' := HSH.out x hx
              exact hx'.chg hcr (by simp; have := hx'.2.2.1; omega) (by simp; have := hx'.2.2.2; omega)
            · rw [List.mem_singleton.1 hx]
              exact hnew
          · rw [List.map_append, List.nodup_append]
            refine ⟨HND.out, by simp, ?_⟩
            intro a ha b hb' e
            obtain ⟨x, hx, rfl⟩ := List.mem_map.1 ha
            have h5' := lt_of_block (HSH.out x hx).2.1
            simp at hb'
            omega
        case measure => simp [intOf]; omega
      · have hsn : sd.length = n := by omega
        have hb' := hb
        rw [← hsn, arr_end] at hb'
        have hszr := hch.size
        go_wp2
        go_ret2
        have A1 : ∀ x ∈ sd, ShardNew wr w.heap.size pb sl x := fun x hx => by
          have h := hsh x hx
          have h1' := h.2.2.1
          have h2' := h.2.2.2
          exact ⟨h.1, h.2.1, by omega, by omega⟩
        have A2 : ∀ x ∈ sd, x.2 ≠ ob := fun x hx => by
          have := (hsh x hx).2.2.2
          omega
        have A3 : ∀ x ∈ sd, x.2 ≠ xb := fun x hx => by
          have := (hsh x hx).2.2.2
          omega
        have A4 := hpW.chg hch (by simp <;> omega) (by simp <;> omega)
        have N1 : qb ≠ w1.heap.size := fun e => by
          have h1' := hqW.1
          rw [e, hb1] at h1'
          simp at h1'
        have N2 : tb ≠ w1.heap.size := fun e => by
          have h1' := hqW.2.1
          rw [e, hb1] at h1'
          simp at h1'
        have N3 : xb ≠ w1.heap.size := fun e => by
          have h1' := hqW.2.2
          rw [e, hb1] at h1'
          simp at h1'
        have A5 := hqW.chg hch (by simpa using N1) (by simpa using N2) (by simpa using N3)
        have A6 : Chg [] w wr := ((((Chg.refl _ _).alloc _).trans hc1 (by simp)).trans hcW (by simp)).trans hch (by intro j hj; simp at hj; right; omega)
        have A7 : w.heap.size ≤ pb := by simp at hpb; omega
        have A8 : w.heap.size ≤ ob := by simp at hob; omega
        exact ⟨w2.heap.size, w1.heap.size, qb, tb, xb, pb, ob, sd, rfl, MtrNew.mk hsn hm2 hb' A1 hnd A2 A3 (by omega) A4 A5 A6 (by omega) (by omega) (by omega) (by omega) (by omega) A7 A8⟩
  · have hw1l := hc1.size
    simp at hw1l
    have hw2l := hcq.size
    simp at hw2l
    have hc2 : Chg [] w1 w2 := ((Chg.refl _ _).drew).trans hcq (by simp)
    have hb1 : ((w2.alloc (.cells (nils n) 129)).alloc (.cells (mcells 0 w2.heap.size n qb).toArray 93)).heap[w2.heap.size]? = some (.cells (arrTo [] n).toArray 129 (0, 0)) := heap_alloc2_old _ _ _
    have hm1 : ((w2.alloc (.cells (nils n) 129)).alloc (.cells (mcells 0 w2.heap.size n qb).toArray 93)).heap[w2.heap.size + 1]? = some (.cells (mcells 0 w2.heap.size n qb).toArray 93 (0, 0)) := heap_alloc2_new _ _ _
    have hcW := (hc2.alloc (.cells (nils n) 129)).alloc (.cells (mcells 0 w2.heap.size n qb).toArray 93)
    have hqW := hq.chg (((Chg.refl [] w2).alloc (.cells (nils n) 129)).alloc (.cells (mcells 0 w2.heap.size n qb).toArray 93)) (by simp) (by simp) (by simp)
    have hqb' : w1.heap.size ≤ qb := hqb
    have htb' : w1.heap.size ≤ tb := htb
    have hxb' : w1.heap.size ≤ xb := hxb
    obtain ⟨W0, hW0⟩ : ∃ W0, W0 = ((w2.alloc (.cells (nils n) 129)).alloc (.cells (mcells 0 w2.heap.size n qb).toArray 93)) := ⟨_, rfl⟩
    rw [← hW0] at hb1 hm1 hcW hqW
    have hsz : W0.heap.size = w2.heap.size + 2 := by rw [hW0]; simp
    have HW0 : Hid (((w2.alloc (.cells (nils n) 129)).alloc (.cells (mcells 0 w2.heap.size n qb).toArray 93)) = W0) := hW0.symm
    have hpW := hp.chg hcW (by simp) (by simp)
    have hpl := lt_of_block hp.1
    have hol : ob < w1.heap.size := hp.2.elim fun _ h => h.lt
    have hxl := lt_of_block hqW.2.2
    have gW := hcW.blk g1 (by simp)
    have k7 : W0.cell? ⟨w2.heap.size + 1, 7, none⟩ = some (.slice (some ⟨w2.heap.size, 0, none⟩) n n) := blk_cell (i := 7) hm1 rfl
    clear hW0 HS hq hqb htb hxb
    refine (show _ from ?_)
    rw [show ((w2.alloc (.cells (nils n) 129)).alloc (.cells #[.int .i32 0, .int .u32 0, .int .u32 0, .int .u32 0, .int .i32 0, .int .i32 0, .int .u64 0, .slice (some ⟨w2.heap.size, 0, none⟩) n n, .pointer (some ⟨qb, 0, none⟩)] 93)) = W0 from HW0.out]
    go_wp2_with fail
    go_loopw [33] (fun i wr => ∃ sd : List (Nat × Nat), sd.length ≤ n ∧ i = .int .i64 sd.length ∧ Chg [w2.heap.size] W0 wr ∧ wr.heap[w2.heap.size]? = some (.cells (arrTo sd n).toArray 129 (0, 0)) ∧ (∀ x ∈ sd, ShardNew wr W0.heap.size pb sl x) ∧ (sd.map (·.2)).Nodup) (fun i _ => n - (intOf i).toNat)
    case atStart => exact ⟨[], by simp, rfl, Chg.refl _ _, hb1, by simp, by simp⟩
    case round =>
      obtain ⟨sd, hk, rfl, hch, hb, hsh, hnd⟩ := hrel
      have hm2 := hch.blk hm1 (by simp <;> omega)
      have g2 := hch.blk gW (by simp <;> omega)
      by_cases hlt : sd.length < n
      · have HS : Hid (∀ W, Chg [w2.heap.size] wr W → (W.cell? ⟨w2.heap.size + 1, 7, none⟩ = some (.slice (some ⟨w2.heap.size, 0, none⟩) n n) ∧ W.cell? ⟨w.heap.size, 11, none⟩ = some (.int .i64 sl))) := fun W hW => by
          have m3 := hW.blk hm2 (by simp <;> omega)
          have g3 := hW.blk g2 (by simp <;> omega)
          exact ⟨blk_cell m3 rfl, blk_cell g3 rfl⟩
        have hk0 : (0 : Int) ≤ (sd.length : Int) := by omega
        have hk1 : (sd.length : Int) < (n : Int) := by omega
        have HB : Hid (wr.heap[w2.heap.size]? = some (.cells (arrTo sd n).toArray 129 (0, 0))) := hb
        have HSH : Hid (∀ x ∈ sd, ShardNew wr W0.heap.size pb sl x) := hsh
        have HND : Hid ((sd.map (·.2)).Nodup) := hnd
        clear hb hsh hnd
        generalize hkk : sd.length = k at *
        have HK : Hid (sd.length = k) := hkk
        clear hkk
        go_wp2_with fail
        go_region_held3 (fun W => W.cell? ⟨w2.heap.size + 1, 7, none⟩ = some (.slice (some ⟨w2.heap.size, 0, none⟩) n n) ∧ W.cell? ⟨w.heap.size, 11, none⟩ = some (.int .i64 sl))
          (first | exact HS.out _ ((Chg.refl _ _).drew) | exact HS.out _ (((Chg.refl _ _).drew).trans hcn (by simp)) | exact HS.out _ ((((Chg.refl _ _).drew).trans hcn (by simp)).set _ _ (Or.inl (by simp))))
          (first | (go_at_call 51; refine (shardNew_ex pb sl _ h3 h4).mono ?_; rintro e w3 ⟨s, d, rfl, hsn, hdn, hcn, hsl, hdl⟩; have a3 := hcn.blk (b := w2.heap.size) HB.out (by simp); have e3 : w3.cell? ⟨w2.heap.size, k, none⟩ = some (.pointer none) := blk_cell (i := k) a3 (by have := arr_at sd n (by rw [HK.out]; omega); rw [HK.out] at this; exact this); have f3 : w3.frozen? ⟨w2.heap.size, k, none⟩ = false := blk_free a3))
        have hcr : Chg [w2.heap.size] wr (w3.setCell ⟨w2.heap.size, k, none⟩ (.pointer (some ⟨s, 0, none⟩))) := (((Chg.refl _ _).drew).trans hcn (by simp)).set _ _ (Or.inl (by simp))
        have hcs : Chg [w2.heap.size] w3 (w3.setCell ⟨w2.heap.size, k, none⟩ (.pointer (some ⟨s, 0, none⟩))) := (Chg.refl _ _).set _ _ (Or.inl (by simp))
        have hszr := hch.size
        have hsl' : wr.heap.size ≤ s := hsl
        have hdl' : wr.heap.size ≤ d := hdl
        have hnew : ShardNew (w3.setCell ⟨w2.heap.size, k, none⟩ (.pointer (some ⟨s, 0, none⟩))) W0.heap.size pb sl (s, d) := ShardNew.chg (l := [w2.heap.size]) (w := w3) ⟨hsn, hdn, by dsimp only; omega, by dsimp only; omega⟩ hcs (by simp <;> omega) (by simp <;> omega)
        have harr := blk_set (i := k) (.pointer (some ⟨s, 0, none⟩)) a3
        go_wp2
        go_roundw
        case rel =>
          refine ⟨sd ++ [(s, d)], by simp [HK.out]; omega, by simp [HK.out], hch.trans hcr (by simp), ?_, ?_, ?_⟩
          · rw [← arr_step sd n (s, d) (by rw [HK.out]; omega), HK.out]
            exact harr
          · intro x hx
            rcases List.mem_append.1 hx with hx | hx
            · have hx' := HSH.out x hx
              exact hx'.chg hcr (by simp; have := hx'.2.2.1; omega) (by simp; have := hx'.2.2.2; omega)
            · rw [List.mem_singleton.1 hx]
              exact hnew
          · rw [List.map_append, List.nodup_append]
            refine ⟨HND.out, by simp, ?_⟩
            intro a ha b hb' e
            obtain ⟨x, hx, rfl⟩ := List.mem_map.1 ha
            have h5' := lt_of_block (HSH.out x hx).2.1
            simp at hb'
            omega
        case measure => simp [intOf]; omega
      · have hsn : sd.length = n := by omega
        have hb' := hb
        rw [← hsn, arr_end] at hb'
        have hszr := hch.size
        go_wp2
        go_ret2
        have A1 : ∀ x ∈ sd, ShardNew wr w.heap.size pb sl x := fun x hx => by
          have h := hsh x hx
          have h1' := h.2.2.1
          have h2' := h.2.2.2
          exact ⟨h.1, h.2.1, by omega, by omega⟩
        have A2 : ∀ x ∈ sd, x.2 ≠ ob := fun x hx => by
          have := (hsh x hx).2.2.2
          omega
        have A3 : ∀ x ∈ sd, x.2 ≠ xb := fun x hx => by
          have := (hsh x hx).2.2.2
          omega
        have A4 := hpW.chg hch (by simp <;> omega) (by simp <;> omega)
        have N1 : qb ≠ w2.heap.size := fun e => by
          have h1' := hqW.1
          rw [e, hb1] at h1'
          simp at h1'
        have N2 : tb ≠ w2.heap.size := fun e => by
          have h1' := hqW.2.1
          rw [e, hb1] at h1'
          simp at h1'
        have N3 : xb ≠ w2.heap.size := fun e => by
          have h1' := hqW.2.2
          rw [e, hb1] at h1'
          simp at h1'
        have A5 := hqW.chg hch (by simpa using N1) (by simpa using N2) (by simpa using N3)
        have A6 : Chg [] w wr := ((((Chg.refl _ _).alloc _).trans hc1 (by simp)).trans hcW (by simp)).trans hch (by intro j hj; simp at hj; right; omega)
        have A7 : w.heap.size ≤ pb := by simp at hpb; omega
        have A8 : w.heap.size ≤ ob := by simp at hob; omega
        exact ⟨w2.heap.size + 1, w2.heap.size, qb, tb, xb, pb, ob, sd, rfl, MtrNew.mk hsn hm2 hb' A1 hnd A2 A3 (by omega) A4 A5 A6 (by omega) (by omega) (by omega) (by omega) (by omega) A7 A8⟩
end Go.Proofs.YtbdnhllhdjepcaaGreat
namespace Go.Proofs.YtbdnhllhdjepcaaGreat
set_option linter.unusedVariables false
set_option linter.unusedSimpArgs false
open Go.RowKit Go.Maps Go.MuLone Go.RwLone

/-! ### bounds on a map of marks -/
/-- it is a map; no mark is above B -/
def LeB (B : Int) (D : DW) : Prop := ∃ es, D = .map es ∧ ∀ p ∈ es, 0 ≤ num p.2 ∧ num p.2 ≤ B
theorem LeB.empty (B : Int) : LeB B (.map []) := ⟨[], rfl, by simp⟩
theorem LeB.mono {B B' : Int} {D : DW} (h : LeB B D) (hb : B ≤ B') : LeB B' D := by
  obtain ⟨es, rfl, h⟩ := h
  exact ⟨es, rfl, fun p hp => ⟨(h p hp).1, Int.le_trans (h p hp).2 hb⟩⟩
theorem LeB.fgt {B : Int} {D : DW} (h : LeB B D) (now : Int) : LeB B (fgt now D) := by
  obtain ⟨es, rfl, h⟩ := h
  exact ⟨_, rfl, fun p hp => h p (List.mem_filter.1 hp).1⟩
theorem LeB.put {B : Int} {D : DW} (h : LeB B D) (k : Lit) {x : Int} (h0 : 0 ≤ x) (hx : x ≤ B) : LeB B (D.put k (lu x)) := by
  obtain ⟨es, rfl, h⟩ := h
  refine ⟨_, rfl, fun p hp => ?_⟩
  rcases ChangeMaps.mem_insert_iff.1 hp with rfl | hp
  · exact ⟨h0, hx⟩
  · exact h p (List.mem_filter.1 hp).1
theorem LeB.mark {B : Int} {D : DW} (h : LeB B D) (hB : 0 ≤ B) (l : Lit) : 0 ≤ markOf D l ∧ markOf D l ≤ B := by
  obtain ⟨es, rfl, h⟩ := h
  unfold markOf
  simp only [DataW.atKey]
  cases hf : es.find? (fun p => p.1.sameKey l) with
  | none => exact ⟨Int.le_refl 0, hB⟩
  | some p => exact h p (List.mem_of_find?_eq_some hf)
theorem size_put_le (D : DW) (k : Lit) (d : DW) : Maps.size (D.put k d) ≤ Maps.size D + (if Maps.has D k then 0 else 1) := by
  cases D with
  | map es =>
    by_cases h : Maps.has (.map es) k = true
    · rw [if_pos h]
      simp only [DataW.put, Maps.size, length_insert]
      rw [Maps.has_eq] at h
      have : (es.filter fun p => !p.1.sameKey k).length < es.length := by
        rw [List.any_eq_true] at h
        obtain ⟨p, hp, hs⟩ := h
        have h1 := List.length_filter_le (fun p => !p.1.sameKey k) es
        rcases Nat.lt_or_ge (es.filter fun p => !p.1.sameKey k).length es.length with h2 | h2
        · exact h2
        · have h3 : (es.filter fun p => !p.1.sameKey k).length = es.length := by omega
          rw [List.length_filter_eq_length_iff] at h3
          have := h3 p hp
          simp [hs] at this
      omega
    · rw [if_neg h]
      simp only [DataW.put, Maps.size, length_insert]
      have := List.length_filter_le (fun p => !p.1.sameKey k) es
      omega
  | _ => simp [DataW.put, Maps.size]
theorem size_putTo (D : DW) (t u r a b c : Int) : Maps.size (putTo D t u r a b c 3) ≤ Maps.size D + 3 := by
  have h1 := size_put_le D (kl 0 t 0 0) (lu a)
  have h2 := size_put_le (D.put (kl 0 t 0 0) (lu a)) (kl 1 t u 0) (lu b)
  have h3 := size_put_le ((D.put (kl 0 t 0 0) (lu a)).put (kl 1 t u 0) (lu b)) (kl 2 t u r) (lu c)
  show Maps.size (((D.put (kl 0 t 0 0) (lu a)).put (kl 1 t u 0) (lu b)).put (kl 2 t u r) (lu c)) ≤ _
  split at h1 <;> split at h2 <;> split at h3 <;> omega

/-- what holds of a shard's marks at a time -/
structure Inv (now : Int) (D : DW) : Prop where
  le : LeB (now + 4611686018427387904) D
  size : Maps.size D ≤ 70
theorem Inv.empty {now : Int} : Inv now (.map []) := ⟨LeB.empty _, by simp [Maps.size]⟩
theorem Inv.mono {now now' : Int} {D : DW} (h : Inv now D) (hn : now ≤ now') : Inv now' D := ⟨h.le.mono (by omega), h.size⟩
theorem Inv.fgt {now now' : Int} {D : DW} (h : Inv now D) : Inv now (fgt now' D) := ⟨h.le.fgt _, Nat.le_trans (size_fgt _ _) h.size⟩
theorem Inv.mark {now now' : Int} {D : DW} (h : Inv now D) (h0 : 0 ≤ now) (h1 : now ≤ 9223372036854775807) (l : Lit) : markOf (Go.Proofs.YtbdnhllhdjepcaaGreat.fgt now' D) l ≤ 13835058055282163711 :=
  Int.le_trans ((h.fgt (now' := now')).le.mark (by omega) l).2 (by omega)

theorem repTo_ok {f : Nat → Int × Int} (hf : ∀ j, 0 ≤ (f j).2) (h : (repTo f 3).1 = 0) : ∀ j, j < 3 → (f j).2 = 0 := by
  have key : ∀ k, (repTo f k).1 = 0 → ∀ j, j < k → (f j).2 = 0 := by
    intro k
    induction k with
    | zero => intro _ j hj; omega
    | succ k ih =>
      intro hk j hj
      unfold repTo at hk
      by_cases h0 : (f k).2 = 0
      · rw [if_pos h0] at hk
        rcases Nat.lt_or_ge j k with h' | h'
        · exact ih hk j h'
        · have : j = k := by omega
          rw [this]; exact h0
      · rw [if_neg h0] at hk
        by_cases h1 : (repTo f k).1 = 0
        · rw [if_pos h1] at hk; simp at hk
        · rw [if_neg h1] at hk; exact absurd hk h1
  exact key 3 h

/-- a request keeps the bounds -/
theorem Inv.allow {now : Int} {D : DW} (h : Inv now D) {p : Pln} {slots cost t u r : Int} (hgd : ∀ L l, Good (p.at_ L l)) (h0 : 0 ≤ now) (h1 : now ≤ 9223372036854775807) (hc : 1 ≤ cost) (hs : slots ≤ 64) : Inv now (allowD p slots D now cost t u r).2 := by
  unfold allowD
  by_cases hroom : (Maps.size (Go.Proofs.YtbdnhllhdjepcaaGreat.fgt now D) : Int) + miss (Go.Proofs.YtbdnhllhdjepcaaGreat.fgt now D) t u r 3 ≤ slots
  · rw [if_pos hroom]
    have hb : ∀ j, _ := fun j => ask_bd (mark := markOf (Go.Proofs.YtbdnhllhdjepcaaGreat.fgt now D) (plk t u r j)) (hgd j (plk t u r j)).1 (hgd j (plk t u r j)).2.1 (hgd j (plk t u r j)).2.2 ((h.fgt (now' := now)).le.mark (by omega) _).1 (h.mark h0 h1 _) h0 h1 hc
    by_cases hrep : (repTo (askAt p (Go.Proofs.YtbdnhllhdjepcaaGreat.fgt now D) now cost t u r) 3).1 = 0
    · rw [if_pos hrep]
      have hz := repTo_ok (f := askAt p (Go.Proofs.YtbdnhllhdjepcaaGreat.fgt now D) now cost t u r) (fun j => (hb j).2.2.1) hrep
      have hl : ∀ j, j < 3 → (askAt p (Go.Proofs.YtbdnhllhdjepcaaGreat.fgt now D) now cost t u r j).1 ≤ now + 4611686018427387904 := fun j hj => ((hb j).2.2.2.2 (hz j hj)).1
      refine ⟨(((h.le.fgt now).put _ (hb 0).1 (hl 0 (by omega))).put _ (hb 1).1 (hl 1 (by omega))).put _ (hb 2).1 (hl 2 (by omega)), ?_⟩
      have h2 := size_putTo (Go.Proofs.YtbdnhllhdjepcaaGreat.fgt now D) t u r (askAt p (Go.Proofs.YtbdnhllhdjepcaaGreat.fgt now D) now cost t u r 0).1 (askAt p (Go.Proofs.YtbdnhllhdjepcaaGreat.fgt now D) now cost t u r 1).1 (askAt p (Go.Proofs.YtbdnhllhdjepcaaGreat.fgt now D) now cost t u r 2).1
      have h3 := miss_bd (Go.Proofs.YtbdnhllhdjepcaaGreat.fgt now D) t u r 3
      dsimp only
      omega
    · rw [if_neg hrep]
      exact h.fgt
  · rw [if_neg hroom]
    exact h.fgt

theorem fgt_fgt {a b : Int} (h : a ≤ b) (D : DW) : fgt b (fgt a D) = fgt b D := by
  cases D with
  | map es =>
    simp only [fgt, List.filter_filter]
    congr 1
    refine List.filter_congr fun p _ => ?_
    by_cases h1 : b < num p.2
    · simp [h1, show a < num p.2 from by omega]
    · simp [h1]
  | _ => rfl
theorem allowD_fgt {a now : Int} (h : a ≤ now) (p : Pln) (slots : Int) (D D' : DW) (cost t u r : Int) (he : fgt a D = fgt a D') : allowD p slots D now cost t u r = allowD p slots D' now cost t u r := by
  have : fgt now D = fgt now D' := by rw [← fgt_fgt h D, ← fgt_fgt h D', he]
  unfold allowD
  rw [this]

/-! ### a meter in memory -/
/-- the names of a meter's blocks; all lie from lo on, below hi -/
structure St where
  lo : Nat
  hi : Nat
  mb : Nat
  ab : Nat
  n : Nat
  qb : Nat
  pb : Nat
  ob : Nat
  sd : List (Nat × Nat)
  sl : Int
  p : Pln
/-- what holds of the names -/
structure St.Ok (g : St) : Prop where
  len : g.sd.length = g.n
  n1 : 1 ≤ g.n
  n4 : g.n ≤ 4
  apart : (g.sd.map (·.2)).Nodup
  obd : ∀ x ∈ g.sd, x.2 ≠ g.ob
  mr : g.lo ≤ g.mb ∧ g.mb < g.hi
  ar : g.lo ≤ g.ab ∧ g.ab < g.hi
  pr : g.lo ≤ g.pb ∧ g.pb < g.hi
  or : g.lo ≤ g.ob ∧ g.ob < g.hi
  sr : ∀ x ∈ g.sd, (g.lo ≤ x.1 ∧ x.1 < g.hi) ∧ (g.lo ≤ x.2 ∧ x.2 < g.hi)
  slo : 3 ≤ g.sl
  shi : g.sl ≤ 64
  good : ∀ L l, Good (g.p.at_ L l)
/-- the meter in memory: the time, and the marks of each shard -/
structure MtrAt (w : World) (g : St) (now : Int) (Ds : Nat → DW) : Prop where
  meter : MeterAt w g.mb now g.ab g.n g.qb
  arr : w.heap[g.ab]? = some (.cells (g.sd.map sptr).toArray 129 (0, 0))
  shards : ∀ i x, g.sd[i]? = some x → ShardAt w x.1 g.pb x.2 g.sl ∧ MapAt w x.2 (Ds i)
  plan : PlanAt w g.pb g.ob g.p
/-- of the blocks that were there none has turned but those from lo on, below hi -/
structure Fr (lo hi : Nat) (w w' : World) : Prop where
  os : w'.os = w.os
  tape : w'.tape = w.tape
  output : w'.output = w.output
  size : w.heap.size ≤ w'.heap.size
  block : ∀ k, k < w.heap.size → (k < lo ∨ hi ≤ k) → w'.heap[k]? = w.heap[k]?
theorem Chg.fr {l : List Nat} {w w' : World} {lo hi : Nat} (h : Chg l w w') (hl : ∀ j ∈ l, lo ≤ j ∧ j < hi) : Fr lo hi w w' :=
  ⟨h.os, h.tape, h.output, h.size, fun k hk ho => h.block k hk (fun hj => by have := hl k hj; omega)⟩
theorem Fr.trans {lo hi : Nat} {a b c : World} (h : Fr lo hi a b) (k : Fr lo hi b c) : Fr lo hi a c :=
  ⟨k.os.trans h.os, k.tape.trans h.tape, k.output.trans h.output, Nat.le_trans h.size k.size, fun i hi' ho => (k.block i (Nat.lt_of_lt_of_le hi' h.size) ho).trans (h.block i hi' ho)⟩
theorem Fr.blk {lo hi : Nat} {w w' : World} {b : Nat} {o : Obj} (h : Fr lo hi w w') (hb : w.heap[b]? = some o) (hn : b < lo ∨ hi ≤ b) : w'.heap[b]? = some o := (h.block b (lt_of_block hb) hn).trans hb
theorem Fr.below {B lo hi : Nat} {w w' : World} (h : Fr lo hi w w') (hB : B ≤ w.heap.size) (hl : B ≤ lo) : Below B w w' := ⟨h.os, h.tape, h.output, h.size, fun k hk => h.block k (by omega) (Or.inl (by omega))⟩
/-- a meter stands while another one's blocks turn -/
theorem MtrAt.fr {w w' : World} {g : St} {now : Int} {Ds : Nat → DW} {lo hi : Nat} (h : MtrAt w g now Ds) (ok : g.Ok) (hf : Fr lo hi w w') (ha : g.hi ≤ lo ∨ hi ≤ g.lo) : MtrAt w' g now Ds := by
  have out : ∀ b, g.lo ≤ b ∧ b < g.hi → (b < lo ∨ hi ≤ b) := fun b hb => by omega
  refine ⟨hf.blk h.meter (out _ ok.mr), hf.blk h.arr (out _ ok.ar), fun i x hx => ?_, hf.blk h.plan.1 (out _ ok.pr), ?_⟩
  · have hm := List.mem_of_getElem? hx
    have hs := h.shards i x hx
    refine ⟨hf.blk hs.1 (out _ (ok.sr x hm).1), ?_⟩
    obtain ⟨n, es, ck, hb, r⟩ := hs.2
    exact ⟨n, es, ck, hf.blk hb (out _ (ok.sr x hm).2), r⟩
  · obtain ⟨n, es, ck, hb, r⟩ := h.plan.2
    exact ⟨n, es, ck, hf.blk hb (out _ ok.or), r⟩
theorem MtrAt.chg0 {w w' : World} {g : St} {now : Int} {Ds : Nat → DW} (h : MtrAt w g now Ds) (hc : Chg [] w w') : MtrAt w' g now Ds :=
  ⟨hc.blk h.meter (by simp), hc.blk h.arr (by simp), fun i x hx => ⟨hc.blk (h.shards i x hx).1 (by simp), (h.shards i x hx).2.chg hc (by simp)⟩, h.plan.chg hc (by simp) (by simp)⟩

/-- time goes on -/
theorem MAdvance (g : St) (now d : Int) (Ds : Nat → DW) (w : World) (hm : MtrAt w g now Ds) (ok : g.Ok) (h0 : 0 ≤ now) (h1 : now ≤ 9223372036854775807) (h2 : 0 ≤ d) (h3 : d ≤ 9223372036854775807) :
    Calls Tryz.prog 22 #[.pointer (some ⟨g.mb, 0, none⟩), .int .i64 d] w fun e w' => e = .returned (.int .i64 0) ∧ MtrAt w' g (min (now + d) 9223372036854775807) Ds ∧ Fr g.lo g.hi w w' := by
  refine (Advance_any g.mb g.ab g.n g.qb now d w hm.meter h0 h1 h2 h3).mono ?_
  rintro e w' ⟨rfl, hm', hc⟩
  have nb : ∀ {b : Nat} {cs : Array Value} {t : TypeId} {fr : Nat × Nat}, w.heap[b]? = some (.cells cs t fr) → t ≠ 93 → b ≠ g.mb := fun hb ht e => by
    have := hm.meter; unfold MeterAt at this; rw [e, this] at hb; simp at hb; exact ht hb.2.1.symm
  have nm : ∀ {b : Nat} {es : Array MapEntry} {ck : Nat}, w.heap[b]? = some (.map es ck) → b ≠ g.mb := fun hb e => by
    have := hm.meter; unfold MeterAt at this; rw [e, this] at hb; cases hb
  refine ⟨rfl, ⟨hm', hc.blk hm.arr (by simpa using nb hm.arr (by decide)), fun i x hx => ?_, ?_⟩, hc.fr (by simpa using ok.mr)⟩
  · have hs := hm.shards i x hx
    refine ⟨hc.blk hs.1 (by simpa using nb hs.1 (by decide)), hs.2.chg hc ?_⟩
    obtain ⟨n, es, ck, hb, r⟩ := hs.2
    simpa using nm hb
  · refine hm.plan.chg hc (by simpa using nb hm.plan.1 (by decide)) ?_
    obtain ⟨n, es, ck, hb, r⟩ := hm.plan.2
    simpa using nm hb

/-- a request comes: shard i decides it -/
theorem MAllow (g : St) (now cost t u r : Int) (Ds : Nat → DW) (i : Nat) (w : World) (hm : MtrAt w g now Ds) (ok : g.Ok) (hi : t % (g.n : Int) = (i : Int)) (hinv : Inv now (Ds i)) (h0 : 0 ≤ now) (h1 : now ≤ 9223372036854775807) (hc : 1 ≤ cost) (hc' : cost ≤ 1000)
    (ht : (Lit.int .u16 t).wf = true) (hu : (Lit.int .u16 u).wf = true) (hr : (Lit.int .u16 r).wf = true) :
    Calls Tryz.prog 21 #[.pointer (some ⟨g.mb, 0, none⟩), .agg #[.int .u16 t, .int .u16 u, .int .u16 r], .int .i64 cost] w fun e w' =>
      e = .returned (.tuple #[.agg (repV (allowD g.p g.sl (Ds i) now cost t u r).1).toArray, .int .i64 0]) ∧ MtrAt w' g now (fun j => if j = i then (allowD g.p g.sl (Ds i) now cost t u r).2 else Ds j) ∧ Fr g.lo g.hi w w' ∧ Inv now (allowD g.p g.sl (Ds i) now cost t u r).2 := by
  have hil : i < g.sd.length := by rw [ok.len]; have := Int.emod_lt_of_pos t (show (0 : Int) < g.n from by have := ok.n1; omega); omega
  obtain ⟨x, hx⟩ : ∃ x, g.sd[i]? = some x := ⟨_, List.getElem?_eq_getElem hil⟩
  have hxm := List.mem_of_getElem? hx
  have hs := hm.shards i x hx
  have hfm : MapAt w x.2 (Ds i) := hs.2
  refine (Allow_any g.mb g.ab g.n g.qb x.1 g.pb g.ob x.2 i (g.sd.map sptr) g.sl g.p t u r cost now (Ds i) w hm.meter hm.arr hi (by rw [List.getElem?_map, hx]; rfl) hs.1 hm.plan hs.2 (Ne.symm (ok.obd x hxm)) (by have := hinv.size; omega) ok.n1 ok.n4 ht hu hr ok.good (hinv.mark h0 h1) h0 h1 hc hc').mono ?_
  rintro e w' ⟨rfl, hd, hch⟩
  have nb : ∀ {b : Nat} {cs : Array Value} {t : TypeId} {fr : Nat × Nat}, w.heap[b]? = some (.cells cs t fr) → b ∉ [x.2] := fun hb => by simpa using MapAt.ne hs.2 hb
  have hob : g.ob ∉ [x.2] := by simpa using Ne.symm (ok.obd x hxm)
  refine ⟨rfl, ⟨hch.blk hm.meter (nb hm.meter), hch.blk hm.arr (nb hm.arr), fun j y hy => ?_, hm.plan.chg hch (nb hm.plan.1) hob⟩, hch.fr (by simpa using (ok.sr x hxm).2), ?_⟩
  · have hs' := hm.shards j y hy
    refine ⟨hch.blk hs'.1 (nb hs'.1), ?_⟩
    by_cases hj : j = i
    · subst hj
      rw [hx] at hy
      cases hy
      rw [if_pos rfl]
      exact hd
    · rw [if_neg hj]
      refine hs'.2.chg hch ?_
      have hnd := ok.apart
      have hjl := (List.getElem?_eq_some_iff.1 hy).1
      intro e
      simp at e
      have e1 : (g.sd.map (·.2))[j]? = some y.2 := by rw [List.getElem?_map, hy]; rfl
      have e2 : (g.sd.map (·.2))[i]? = some y.2 := by rw [List.getElem?_map, hx, e]; rfl
      exact hj ((List.getElem?_inj (by simpa using hjl) hnd).1 (e1.trans e2.symm))
  · exact hinv.allow ok.good h0 h1 hc ok.shi
end Go.Proofs.YtbdnhllhdjepcaaGreat
