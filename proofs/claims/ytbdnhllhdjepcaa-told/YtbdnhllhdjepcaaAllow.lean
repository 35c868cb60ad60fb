import Derived.Test.YtbdnhllhdjepcaaMeter
import Derived.Laws.ResultCell
namespace Go.Proofs.Ytbdnhllhdjepcaa
set_option linter.unusedVariables false
set_option linter.unusedSimpArgs false
open Go.RowKit Go.Maps Go.MuLone Go.RwLone

theorem results_cell2 {fn : Func} {p q : Tmp} {ty : TypeId} {tmps : Array Value} {P : Program} {w : World} {a : Addr} {v x : Value} (h : fn.results = #[.cell p ty, .tmp q]) (ha : tmps.getD p undef = .pointer (some a)) (hx : tmps.getD q undef = x) (hl : (loadVar ty a).run P w = .ok v w) :
    (results fn tmps).run P w = .ok (.tuple #[v, x]) w := by
  have e2 : (asAddr (.pointer (some a))).run P w = .ok a w := by simp [go_sem]
  rw [results_cell_tmp h, ha, e2]
  simp [Result.andThen, hl, hx]

set_option maxRecDepth 100000 in
set_option maxHeartbeats 4000000 in
theorem Allow_any (mb ab n qb sb pb ob db i : Nat) (ss : List Value) (slots : Int) (p : Pln) (t u r cost now : Int) (D : DW) (w : World) (hm : MeterAt w mb now ab n qb) (ha : w.heap[ab]? = some (.cells ss.toArray 108 (0, 0))) (hi : t % (n : Int) = (i : Int)) (hss : ss[i]? = some (.pointer (some ⟨sb, 0, none⟩)))
    (hs : ShardAt w sb pb db slots) (hp : PlanAt w pb ob p) (hd : MapAt w db D) (hod : ob ≠ db) (hsz : Maps.size D ≤ 999990) (hn1 : 1 ≤ n) (hn4 : n ≤ 4)
    (ht : (Lit.int .u16 t).wf = true) (hu : (Lit.int .u16 u).wf = true) (hr : (Lit.int .u16 r).wf = true)
    (hgd : ∀ L l, Good (p.at_ L l)) (hmk : ∀ l, markOf (fgt now D) l ≤ 13835058055282163711) (h0 : 0 ≤ now) (h1 : now ≤ 9223372036854775807) (hc : 1 ≤ cost) (hc' : cost ≤ 1000) :
    Calls Try.prog 20 #[.pointer (some ⟨mb, 0, none⟩), .agg #[.int .u16 t, .int .u16 u, .int .u16 r], .int .i64 cost] w fun e w' =>
      e = .returned (.tuple #[.agg (repV (allowD p slots D now cost t u r).1).toArray, .int .i64 0]) ∧ MapAt w' db (allowD p slots D now cost t u r).2 ∧ Chg [db] w w' := by
  unfold MeterAt at hm
  have htb : 0 ≤ t ∧ t ≤ 65535 := by simp [Lit.wf, IntKind.min, IntKind.max, IntKind.signed, IntKind.bits] at ht; omega
  have hin : (i : Int) < (n : Int) := by rw [← hi]; exact Int.emod_lt_of_pos _ (by omega)
  have hi0 : (0 : Int) ≤ (i : Int) := by omega
  have hmd : mb ≠ db := MapAt.ne hd hm
  have had : ab ≠ db := MapAt.ne hd ha
  have hml := lt_of_block hm
  have hal := lt_of_block ha
  have hdl := hd.lt
  have hsl := lt_of_block hs
  have hpl := lt_of_block hp.1
  have hol : ob < w.heap.size := hp.2.elim fun _ h => h.lt
  have hma : ab ≠ mb := fun e => by rw [e, hm] at ha; simp at ha
  have hms : sb ≠ mb := fun e => by have := hs; unfold ShardAt at this; rw [e, hm] at this; simp at this
  have hmp : pb ≠ mb := fun e => by have := hp.1; rw [e, hm] at this; simp at this
  have hmo : ob ≠ mb := fun e => by obtain ⟨_, _, _, h, _⟩ := hp.2; rw [e, hm] at h; cases h
  obtain ⟨w0, hw0⟩ : ∃ w0, w0 = (w.alloc (.cells [.int .u16 t, .int .u16 u, .int .u16 r].toArray 47)).alloc (.cells [.int .i64 0, .int .i64 0, .int .u64 0].toArray 42) := ⟨_, rfl⟩
  have hm0 : w0.heap[mb]? = some (.cells (mcells now ab n qb).toArray 107 (0, 0)) := hw0 ▸ blk_alloc (blk_alloc hm _) _
  have hk0 : w0.heap[w.heap.size]? = some (.cells [.int .u16 t, .int .u16 u, .int .u16 r].toArray 47 (0, 0)) := hw0 ▸ heap_alloc2_old _ _ _
  have hr0 : w0.heap[w.heap.size + 1]? = some (.cells [.int .i64 0, .int .i64 0, .int .u64 0].toArray 42 (0, 0)) := hw0 ▸ heap_alloc2_new _ _ _
  have hc0 : Chg [mb] w w0 := hw0 ▸ ((Chg.refl _ _).alloc _).alloc _
  have HW0 : Hid (w0 = (w.alloc (.cells [.int .u16 t, .int .u16 u, .int .u16 r].toArray 47)).alloc (.cells [.int .i64 0, .int .i64 0, .int .u64 0].toArray 42)) := hw0
  clear hw0
  go_enter_defers Try.func20, Try.ntmps20
  go_wp2_with fail
  rw [show (w.alloc (.cells #[.int .u16 t, .int .u16 u, .int .u16 r] 47)).alloc (.cells #[.int .i64 0, .int .i64 0, .int .u64 0] 42) = w0 from HW0.out.symm]
  refine (rlock_open Try.rwRLib mb 0 0 (.int .i32 0) (.int .u32 0) w0 (blk_cell (i := 0) hm0 rfl) (blk_cell (i := 3) hm0 rfl) (blk_cell (i := 4) hm0 rfl) (blk_free hm0) (by rw [rc1]; decide)).mono ?_
  rintro e w1 ⟨rfl, hw1⟩
  rw [rc1] at hw1
  have hm1 : w1.heap[mb]? = some (.cells ((mcells now ab n qb).set 4 (.int .i32 1)).toArray 107 (0, 0)) := hw1 ▸ blk_set (i := 4) (.int .i32 1) hm0
  have hk1 : w1.heap[w.heap.size]? = some (.cells [.int .u16 t, .int .u16 u, .int .u16 r].toArray 47 (0, 0)) := hw1 ▸ blk_set_far hk0 (by omega)
  have hr1 : w1.heap[w.heap.size + 1]? = some (.cells [.int .i64 0, .int .i64 0, .int .u64 0].toArray 42 (0, 0)) := hw1 ▸ blk_set_far hr0 (by omega)
  have hc1 : Chg [mb] w w1 := hw1 ▸ hc0.set ⟨mb, 4, none⟩ (.int .i32 1) (Or.inl (by simp))
  clear hw1 HW0 hm0 hk0 hr0 hc0
  have ha1 := hc1.blk ha (by simpa using hma)
  have HS : Hid (∀ W, Chg [db, w.heap.size + 1] w1 W → (W.cell? ⟨mb, 7, none⟩ = some (.slice (some ⟨ab, 0, none⟩) n n) ∧ W.cell? ⟨mb, 6, none⟩ = some (.int .u64 now) ∧ W.cell? ⟨w.heap.size, 0, none⟩ = some (.int .u16 t) ∧ W.cell? ⟨w.heap.size, 1, none⟩ = some (.int .u16 u) ∧ W.cell? ⟨w.heap.size, 2, none⟩ = some (.int .u16 r) ∧ W.cell? ⟨ab, i, none⟩ = some (.pointer (some ⟨sb, 0, none⟩)))) := fun W hW => by
    have m2 := hW.blk hm1 (by simp; omega)
    have k2 := hW.blk hk1 (by simp; omega)
    have a2 := hW.blk ha1 (by simp; omega)
    exact ⟨blk_cell m2 rfl, blk_cell m2 rfl, blk_cell k2 rfl, blk_cell k2 rfl, blk_cell k2 rfl, blk_cell a2 hss⟩
  have HO : Hid (∀ W, W.cell? ⟨mb, 7, none⟩ = some (.slice (some ⟨ab, 0, none⟩) n n) → Calls Try.prog 38 #[.pointer (some ⟨mb, 0, none⟩), .int .u16 t] W fun e w' => e = .returned (.int .i64 i) ∧ w' = W) := fun W hW => by
    have := shardOf_any mb n t _ W hW htb.1 htb.2 hn1 hn4
    rw [hi] at this
    exact this
  have HL : Hid (∀ W, Chg [] w1 W → Calls Try.prog 39 #[.pointer (some ⟨sb, 0, none⟩), .agg #[.int .u16 t, .int .u16 u, .int .u16 r], .int .i64 cost, .int .u64 now] W fun e w' =>
      e = .returned (.agg (repV (allowD p slots D now cost t u r).1).toArray) ∧ MapAt w' db (allowD p slots D now cost t u r).2 ∧ Chg [db] W w') := fun W hW => by
    have hcW := hc1.trans hW (by simp)
    exact sallow_any sb pb ob db slots p t u r cost now D W (hcW.blk hs (by simpa using hms)) (hp.chg hcW (by simpa using hmp) (by simpa using hmo)) (hd.chg hcW (by simpa using Ne.symm hmd)) hod hsz ht hu hr hgd hmk h0 h1 hc hc'
  obtain ⟨st, lv, rt, D', hX⟩ : ∃ st lv rt D', allowD p slots D now cost t u r = ((st, lv, rt), D') := ⟨_, _, _, _, rfl⟩
  have HX : Hid (allowD p slots D now cost t u r = ((st, lv, rt), D')) := hX
  simp only [hX, repV] at HL
  clear hX
  have HR1 : Hid (w1.heap[w.heap.size + 1]? = some (.cells [.int .i64 0, .int .i64 0, .int .u64 0].toArray 42 (0, 0))) := hr1
  clear hgd hmk hs hp hi ha1 hk1 hr1
  go_wp2_with fail
  go_region_held3 (fun W => W.cell? ⟨mb, 7, none⟩ = some (.slice (some ⟨ab, 0, none⟩) n n) ∧ W.cell? ⟨mb, 6, none⟩ = some (.int .u64 now) ∧ W.cell? ⟨w.heap.size, 0, none⟩ = some (.int .u16 t) ∧ W.cell? ⟨w.heap.size, 1, none⟩ = some (.int .u16 u) ∧ W.cell? ⟨w.heap.size, 2, none⟩ = some (.int .u16 r) ∧ W.cell? ⟨ab, i, none⟩ = some (.pointer (some ⟨sb, 0, none⟩)))
    (first | exact HS.out _ ((Chg.refl _ _).drew) | exact HS.out _ (((Chg.refl _ _).drew).trans hc3 (by simp)) | exact HS.out _ ((((((Chg.refl _ _).drew).trans hc3 (by simp)).set _ _ (Or.inl (by simp))).set _ _ (Or.inl (by simp))).set _ _ (Or.inl (by simp))))
    (first | (go_at_call 38; refine (HO.out _ (HS.out _ ((Chg.refl _ _).drew)).1).mono ?_; rintro e w2 ⟨rfl, rfl⟩) | (go_at_call 39; refine (HL.out _ ((Chg.refl _ _).drew)).mono ?_; rintro e w3 ⟨rfl, hd3, hc3⟩; have r3 := hc3.blk (b := w.heap.size + 1) HR1.out (by simp; omega); have r30 := blk_cell (i := 0) r3 rfl; have r31 := blk_cell (i := 1) r3 rfl; have r32 := blk_cell (i := 2) r3 rfl; have g3 : ∀ i, w3.frozen? ⟨w.heap.size + 1, i, none⟩ = false := fun i => blk_free r3))
  have m3 := hc3.blk (b := mb) hm1 (by simpa using hmd)
  have m4 := blk_set_far (k := w.heap.size + 1) (i := 2) (u := .int .u64 rt) (blk_set_far (k := w.heap.size + 1) (i := 1) (u := .int .i64 lv) (blk_set_far (k := w.heap.size + 1) (i := 0) (u := .int .i64 st) m3 (by omega)) (by omega)) (by omega)
  have r4 := blk_set (i := 2) (.int .u64 rt) (blk_set (i := 1) (.int .i64 lv) (blk_set (i := 0) (.int .i64 st) r3))
  obtain ⟨nd, od3⟩ := hd3
  have o4 := ((od3.setCell (a := ⟨w.heap.size + 1, 0, none⟩) (by dsimp only; omega) (.int .i64 st)).setCell (a := ⟨w.heap.size + 1, 1, none⟩) (by dsimp only; omega) (.int .i64 lv)).setCell (a := ⟨w.heap.size + 1, 2, none⟩) (by dsimp only; omega) (.int .u64 rt)
  have hc2 : Chg [mb, db] w w3 := ((hc1.mono (by simp)).drew).trans hc3 (by simp)
  have hc4 := ((hc2.set ⟨w.heap.size + 1, 0, none⟩ (.int .i64 st) (Or.inr (by dsimp only; omega))).set ⟨w.heap.size + 1, 1, none⟩ (.int .i64 lv) (Or.inr (by dsimp only; omega))).set ⟨w.heap.size + 1, 2, none⟩ (.int .u64 rt) (Or.inr (by dsimp only; omega))
  go_wp2_with fail
  refine leaves_cons (f := 37) (args := #[.pointer (some ⟨mb, 0, none⟩)]) (by simp) (by simp [go_sem]) ?_
  refine (runlock_deferred Try.rwRLib mb 0 1 (.int .i32 0) (.int .u32 0) .returning _ (blk_cell (i := 0) m4 rfl) (blk_cell (i := 2) m4 rfl) (blk_cell (i := 4) m4 rfl) (blk_free m4) (by rw [rc2]; decide)).mono ?_
  rintro e u' w5 ⟨rfl, rfl, hw5⟩
  rw [rc2] at hw5
  have m5 := blk_set (i := 4) (.int .i32 0) m4
  have r5 := blk_set_far (k := mb) (i := 4) (u := .int .i32 0) r4 (by omega)
  have hc5 := hc4.set ⟨mb, 4, none⟩ (.int .i32 0) (Or.inl (by simp))
  have o5 := o4.setCell (a := ⟨mb, 4, none⟩) (Ne.symm hmd) (.int .i32 0)
  rw [hw5, HX.out]
  refine ⟨.tuple #[.agg #[.int .i64 st, .int .i64 lv, .int .u64 rt], .int .i64 0], results_cell2 rfl rfl rfl (load42 r5 rfl rfl rfl), rfl, ⟨_, o5⟩, hc5.back (fun j hj => by
    rcases List.mem_cons.1 hj with rfl | hj
    · exact Or.inr (m5.trans hm.symm)
    · exact Or.inl hj)⟩
end Go.Proofs.Ytbdnhllhdjepcaa
