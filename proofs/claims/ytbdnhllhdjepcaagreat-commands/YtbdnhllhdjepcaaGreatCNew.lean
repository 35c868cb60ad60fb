import Derived.Test.YtbdnhllhdjepcaaGreatCShard
import Derived.Conc.RwLoneW
import Derived.Laws.ResultCell
namespace Go.Proofs.YtbdnhllhdjepcaaGreat
set_option linter.unusedVariables false
set_option linter.unusedSimpArgs false
open Go.RowKit Go.Maps Go.MuLone Go.RwLone

abbrev mcells (now : Int) (ab n qb : Nat) : List Value := [.int .i32 0, .int .u32 0, .int .u32 0, .int .u32 0, .int .i32 0, .int .i32 0, .int .u64 now, .slice (some ⟨ab, 0, none⟩) n n, .pointer (some ⟨qb, 0, none⟩)]
/-- the meter's own block -/
def MeterAt (w : World) (mb : Nat) (now : Int) (ab n qb : Nat) : Prop := w.heap[mb]? = some (.cells (mcells now ab n qb).toArray 93 (0, 0))
def maxT : Int := 9223372036854775807

set_option maxRecDepth 100000 in
set_option maxHeartbeats 1600000 in
theorem advance_any (mb ab n qb : Nat) (now d : Int) (w : World) (hm : MeterAt w mb now ab n qb) (h0 : 0 ≤ now) (h1 : now ≤ 9223372036854775807) (h2 : 0 ≤ d) (h3 : d ≤ 9223372036854775807) :
    Calls Tryz.prog 54 #[.pointer (some ⟨mb, 0, none⟩), .int .u64 d] w fun e w' => e = .returned (.int .u64 (min (now + d) 9223372036854775807)) ∧ MeterAt w' mb (min (now + d) 9223372036854775807) ab n qb ∧ Chg [mb] w w' := by
  unfold MeterAt at hm
  go_enter_defers Tryz.func54, Tryz.ntmps54
  go_wp2_with fail
  refine (wlock_free Tryz.rwWLib mb 0 (.int .u32 0) (.int .u32 0) w (blk_cell (i := 0) hm rfl) (blk_cell (i := 2) hm rfl) (blk_cell (i := 3) hm rfl) (blk_cell (i := 4) hm rfl) (blk_free hm) (blk_free hm)).mono ?_
  rintro e w1 ⟨rfl, hw1⟩
  have hm1 := blk_set (i := 4) (.int .i32 (-1073741824)) (blk_set (i := 0) (.int .i32 1) hm)
  have hc1 := ((Chg.refl [mb] w).set ⟨mb, 0, none⟩ (.int .i32 1) (Or.inl (by simp))).set ⟨mb, 4, none⟩ (.int .i32 (-1073741824)) (Or.inl (by simp))
  have e1 : w1.heap[mb]? = _ := hw1 ▸ hm1
  have hc2 : Chg [mb] w w1 := hw1 ▸ hc1
  clear hm1 hc1 hw1
  have k6 : w1.cell? ⟨mb, 6, none⟩ = some (.int .u64 now) := blk_cell (i := 6) e1 rfl
  have f6 : w1.frozen? ⟨mb, 6, none⟩ = false := blk_free e1
  go_wp2_with (go_at_call 74; refine (later_any now d _ h0 h1 h2 h3).mono ?_; rintro e w2 ⟨rfl, rfl⟩)
  refine leaves_cons (f := 27) (args := #[.pointer (some ⟨mb, 0, none⟩)]) (by simp) (by simp [go_sem]) ?_
  generalize min (now + d) 9223372036854775807 = t at *
  have e2 := blk_set (i := 6) (.int .u64 t) e1
  refine (wunlock_deferred Tryz.rwWLib mb 0 (.int .u32 0) (.int .u32 0) .returning _ (blk_cell (i := 0) e2 rfl) (blk_cell (i := 2) e2 rfl) (blk_cell (i := 3) e2 rfl) (blk_cell (i := 4) e2 rfl) (blk_free e2) (blk_free e2)).mono ?_
  rintro e u' w3 ⟨rfl, rfl, hw3⟩
  have e3 := blk_set (i := 0) (.int .i32 0) (blk_set (i := 4) (.int .i32 0) e2)
  have hc3 := ((hc2.set ⟨mb, 6, none⟩ (.int .u64 t) (Or.inl (by simp))).set ⟨mb, 4, none⟩ (.int .i32 0) (Or.inl (by simp))).set ⟨mb, 0, none⟩ (.int .i32 0) (Or.inl (by simp))
  exact ⟨_, results_tmp rfl _ _ _, rfl, hw3 ▸ e3, hw3 ▸ hc3⟩

set_option maxRecDepth 100000 in
set_option maxHeartbeats 1600000 in
theorem Advance_any (mb ab n qb : Nat) (now d : Int) (w : World) (hm : MeterAt w mb now ab n qb) (h0 : 0 ≤ now) (h1 : now ≤ 9223372036854775807) (h2 : 0 ≤ d) (h3 : d ≤ 9223372036854775807) :
    Calls Tryz.prog 22 #[.pointer (some ⟨mb, 0, none⟩), .int .i64 d] w fun e w' => e = .returned (.int .i64 0) ∧ MeterAt w' mb (min (now + d) 9223372036854775807) ab n qb ∧ Chg [mb] w w' := by
  go_enter Tryz.func22, Tryz.ntmps22
  go_wp2_with fail
  refine (advance_any mb ab n qb now d w hm h0 h1 h2 h3).mono ?_
  rintro e w1 ⟨rfl, hm1, hc1⟩
  go_wp2
  go_ret
  exact ⟨rfl, hm1, hc1⟩

set_option maxRecDepth 100000 in
set_option maxHeartbeats 1600000 in
theorem Advance_neg (mb : Nat) (d : Int) (w : World) (h2 : d < 0) :
    Calls Tryz.prog 22 #[.pointer (some ⟨mb, 0, none⟩), .int .i64 d] w fun e w' => e = .returned (.int .i64 1) ∧ w' = w := by
  go_enter Tryz.func22, Tryz.ntmps22
  go_wp2
  go_ret
  exact ⟨rfl, rfl⟩

theorem rc1 : wrap32 (0 + 1) = 1 := by unfold wrap32; decide
theorem rc2 : wrap32 (1 + -1) = 0 := by unfold wrap32; decide

set_option maxRecDepth 100000 in
set_option maxHeartbeats 1600000 in
theorem Now_any (mb ab n qb : Nat) (now : Int) (w : World) (hm : MeterAt w mb now ab n qb) :
    Calls Tryz.prog 15 #[.pointer (some ⟨mb, 0, none⟩)] w fun e w' => e = .returned (.int .u64 now) ∧ Chg [] w w' := by
  unfold MeterAt at hm
  go_enter_defers Tryz.func15, Tryz.ntmps15
  go_wp2_with fail
  refine (rlock_open Tryz.rwRLib mb 0 0 (.int .i32 0) (.int .u32 0) w (blk_cell (i := 0) hm rfl) (blk_cell (i := 3) hm rfl) (blk_cell (i := 4) hm rfl) (blk_free hm) (by rw [rc1]; decide)).mono ?_
  rintro e w1 ⟨rfl, hw1⟩
  rw [rc1] at hw1
  have e1 : w1.heap[mb]? = _ := hw1 ▸ blk_set (i := 4) (.int .i32 1) hm
  have hc1 : Chg [mb] w w1 := hw1 ▸ (Chg.refl [mb] w).set ⟨mb, 4, none⟩ (.int .i32 1) (Or.inl (by simp))
  clear hw1
  have k6 : w1.cell? ⟨mb, 6, none⟩ = some (.int .u64 now) := blk_cell (i := 6) e1 rfl
  go_wp2_with fail
  refine leaves_cons (f := 31) (args := #[.pointer (some ⟨mb, 0, none⟩)]) (by simp) (by simp [go_sem]) ?_
  refine (runlock_deferred Tryz.rwRLib mb 0 1 (.int .i32 0) (.int .u32 0) .returning w1 (blk_cell (i := 0) e1 rfl) (blk_cell (i := 2) e1 rfl) (blk_cell (i := 4) e1 rfl) (blk_free e1) (by rw [rc2]; decide)).mono ?_
  rintro e u' w3 ⟨rfl, rfl, hw3⟩
  rw [rc2] at hw3
  have e3 := blk_set (i := 4) (.int .i32 0) e1
  have hc3 := hc1.set ⟨mb, 4, none⟩ (.int .i32 0) (Or.inl (by simp))
  refine ⟨_, results_tmp rfl _ _ _, rfl, ?_⟩
  rw [hw3]
  exact hc3.back (fun j hj => by
    rcases List.mem_cons.1 hj with rfl | hj
    · exact Or.inr (e3.trans hm.symm)
    · cases hj)
end Go.Proofs.YtbdnhllhdjepcaaGreat
namespace Go.Proofs.YtbdnhllhdjepcaaGreat
set_option linter.unusedVariables false
set_option linter.unusedSimpArgs false
open Go.RowKit Go.Maps Go.MuLone Go.RwLone

theorem results_cell2 {fn : Func} {p q : Tmp} {ty : TypeId} {tmps : Array Value} {P : Program} {w : World} {a : Addr} {v x : Value} (h : fn.results = #[.cell p ty, .tmp q]) (ha : tmps.getD p undef = .pointer (some a)) (hx : tmps.getD q undef = x) (hl : (loadVar ty a).run P w = .ok v w) :
    (results fn tmps).run P w = .ok (.tuple #[v, x]) w := by
  have e2 : (asAddr (.pointer (some a))).run P w = .ok a w := by simp [go_sem]
  rw [results_cell_tmp h, ha, e2]
  simp [Result.andThen, hl, hx]

set_option maxRecDepth 100000 in
set_option maxHeartbeats 4000000 in
theorem Allow_any (mb ab n qb sb pb ob db i : Nat) (ss : List Value) (slots : Int) (p : Pln) (t u r cost now : Int) (D : DW) (w : World) (hm : MeterAt w mb now ab n qb) (ha : w.heap[ab]? = some (.cells ss.toArray 129 (0, 0))) (hi : t % (n : Int) = (i : Int)) (hss : ss[i]? = some (.pointer (some ⟨sb, 0, none⟩)))
    (hs : ShardAt w sb pb db slots) (hp : PlanAt w pb ob p) (hd : MapAt w db D) (hod : ob ≠ db) (hsz : Maps.size D ≤ 999990) (hn1 : 1 ≤ n) (hn4 : n ≤ 4)
    (ht : (Lit.int .u16 t).wf = true) (hu : (Lit.int .u16 u).wf = true) (hr : (Lit.int .u16 r).wf = true)
    (hgd : ∀ L l, Good (p.at_ L l)) (hmk : ∀ l, markOf (fgt now D) l ≤ 13835058055282163711) (h0 : 0 ≤ now) (h1 : now ≤ 9223372036854775807) (hc : 1 ≤ cost) (hc' : cost ≤ 1000) :
    Calls Tryz.prog 21 #[.pointer (some ⟨mb, 0, none⟩), .agg #[.int .u16 t, .int .u16 u, .int .u16 r], .int .i64 cost] w fun e w' =>
      e = .returned (.tuple #[.agg (repV (allowD p slots D now cost t u r).1).toArray, .int .i64 0]) ∧ MapAt w' db (allowD p slots D now cost t u r).2 ∧ Chg [db] w w' := by
  unfold MeterAt at hm
  have htb : 0 ≤ t ∧ t ≤ 65535 := by simp [Lit.wf, IntKind.min, IntKind.max, IntKind.signed, IntKind.bits] at ht; omega
  have hin : (i : Int) < (n : Int) := by rw [← hi]; exact Int.emod_lt_of_pos _ (by omega)
  have hi0 : (0 : Int) ≤ (i : Int) := by omega
  have hmd : mb ≠ db := MapAt.ne hd hm
  have had : ab ≠ db := MapAt.ne hd ha
  have hml := lt_of_block hm
  have hal := lt_of_block ha
  have hdl := hd.lt
  have hsl := lt_of_block hs
  have hpl := lt_of_block hp.1
  have hol : ob < w.heap.size := hp.2.elim fun _ h => h.lt
  have hma : ab ≠ mb := fun e => by rw [e, hm] at ha; simp at ha
  have hms : sb ≠ mb := fun e => by have := hs; unfold ShardAt at this; rw [e, hm] at this; simp at this
  have hmp : pb ≠ mb := fun e => by have := hp.1; rw [e, hm] at this; simp at this
  have hmo : ob ≠ mb := fun e => by obtain ⟨_, _, _, h, _⟩ := hp.2; rw [e, hm] at h; cases h
  obtain ⟨w0, hw0⟩ : ∃ w0, w0 = (w.alloc (.cells [.int .u16 t, .int .u16 u, .int .u16 r].toArray 60)).alloc (.cells [.int .i64 0, .int .i64 0, .int .u64 0].toArray 68) := ⟨_, rfl⟩
  have hm0 : w0.heap[mb]? = some (.cells (mcells now ab n qb).toArray 93 (0, 0)) := hw0 ▸ blk_alloc (blk_alloc hm _) _
  have hk0 : w0.heap[w.heap.size]? = some (.cells [.int .u16 t, .int .u16 u, .int .u16 r].toArray 60 (0, 0)) := hw0 ▸ heap_alloc2_old _ _ _
  have hr0 : w0.heap[w.heap.size + 1]? = some (.cells [.int .i64 0, .int .i64 0, .int .u64 0].toArray 68 (0, 0)) := hw0 ▸ heap_alloc2_new _ _ _
  have hc0 : Chg [mb] w w0 := hw0 ▸ ((Chg.refl _ _).alloc _).alloc _
  have HW0 : Hid (w0 = (w.alloc (.cells [.int .u16 t, .int .u16 u, .int .u16 r].toArray 60)).alloc (.cells [.int .i64 0, .int .i64 0, .int .u64 0].toArray 68)) := hw0
  clear hw0
  go_enter_defers Tryz.func21, Tryz.ntmps21
  go_wp2_with fail
  rw [show (w.alloc (.cells #[.int .u16 t, .int .u16 u, .int .u16 r] 60)).alloc (.cells #[.int .i64 0, .int .i64 0, .int .u64 0] 68) = w0 from HW0.out.symm]
  refine (rlock_open Tryz.rwRLib mb 0 0 (.int .i32 0) (.int .u32 0) w0 (blk_cell (i := 0) hm0 rfl) (blk_cell (i := 3) hm0 rfl) (blk_cell (i := 4) hm0 rfl) (blk_free hm0) (by rw [rc1]; decide)).mono ?_
  rintro e w1 ⟨rfl, hw1⟩
  rw [rc1] at hw1
  have hm1 : w1.heap[mb]? = some (.cells ((mcells now ab n qb).set 4 (.int .i32 1)).toArray 93 (0, 0)) := hw1 ▸ blk_set (i := 4) (.int .i32 1) hm0
  have hk1 : w1.heap[w.heap.size]? = some (.cells [.int .u16 t, .int .u16 u, .int .u16 r].toArray 60 (0, 0)) := hw1 ▸ blk_set_far hk0 (by omega)
  have hr1 : w1.heap[w.heap.size + 1]? = some (.cells [.int .i64 0, .int .i64 0, .int .u64 0].toArray 68 (0, 0)) := hw1 ▸ blk_set_far hr0 (by omega)
  have hc1 : Chg [mb] w w1 := hw1 ▸ hc0.set ⟨mb, 4, none⟩ (.int .i32 1) (Or.inl (by simp))
  clear hw1 HW0 hm0 hk0 hr0 hc0
  have ha1 := hc1.blk ha (by simpa using hma)
  have HS : Hid (∀ W, Chg [db, w.heap.size + 1] w1 W → (W.cell? ⟨mb, 7, none⟩ = some (.slice (some ⟨ab, 0, none⟩) n n) ∧ W.cell? ⟨mb, 6, none⟩ = some (.int .u64 now) ∧ W.cell? ⟨w.heap.size, 0, none⟩ = some (.int .u16 t) ∧ W.cell? ⟨w.heap.size, 1, none⟩ = some (.int .u16 u) ∧ W.cell? ⟨w.heap.size, 2, none⟩ = some (.int .u16 r) ∧ W.cell? ⟨ab, i, none⟩ = some (.pointer (some ⟨sb, 0, none⟩)))) := fun W hW => by
    have m2 := hW.blk hm1 (by simp; omega)
    have k2 := hW.blk hk1 (by simp; omega)
    have a2 := hW.blk ha1 (by simp; omega)
    exact ⟨blk_cell m2 rfl, blk_cell m2 rfl, blk_cell k2 rfl, blk_cell k2 rfl, blk_cell k2 rfl, blk_cell a2 hss⟩
  have HO : Hid (∀ W, W.cell? ⟨mb, 7, none⟩ = some (.slice (some ⟨ab, 0, none⟩) n n) → Calls Tryz.prog 52 #[.pointer (some ⟨mb, 0, none⟩), .int .u16 t] W fun e w' => e = .returned (.int .i64 i) ∧ w' = W) := fun W hW => by
    have := shardOf_any mb n t _ W hW htb.1 htb.2 hn1 hn4
    rw [hi] at this
    exact this
  have HL : Hid (∀ W, Chg [] w1 W → Calls Tryz.prog 53 #[.pointer (some ⟨sb, 0, none⟩), .agg #[.int .u16 t, .int .u16 u, .int .u16 r], .int .i64 cost, .int .u64 now] W fun e w' =>
      e = .returned (.agg (repV (allowD p slots D now cost t u r).1).toArray) ∧ MapAt w' db (allowD p slots D now cost t u r).2 ∧ Chg [db] W w') := fun W hW => by
    have hcW := hc1.trans hW (by simp)
    exact sallow_any sb pb ob db slots p t u r cost now D W (hcW.blk hs (by simpa using hms)) (hp.chg hcW (by simpa using hmp) (by simpa using hmo)) (hd.chg hcW (by simpa using Ne.symm hmd)) hod hsz ht hu hr hgd hmk h0 h1 hc hc'
  obtain ⟨st, lv, rt, D', hX⟩ : ∃ st lv rt D', allowD p slots D now cost t u r = ((st, lv, rt), D') := ⟨_, _, _, _, rfl⟩
  have HX : Hid (allowD p slots D now cost t u r = ((st, lv, rt), D')) := hX
  simp only [hX, repV] at HL
  clear hX
  have HR1 : Hid (w1.heap[w.heap.size + 1]? = some (.cells [.int .i64 0, .int .i64 0, .int .u64 0].toArray 68 (0, 0))) := hr1
  clear hgd hmk hs hp hi ha1 hk1 hr1
  go_wp2_with fail
  go_region_held3 (fun W => W.cell? ⟨mb, 7, none⟩ = some (.slice (some ⟨ab, 0, none⟩) n n) ∧ W.cell? ⟨mb, 6, none⟩ = some (.int .u64 now) ∧ W.cell? ⟨w.heap.size, 0, none⟩ = some (.int .u16 t) ∧ W.cell? ⟨w.heap.size, 1, none⟩ = some (.int .u16 u) ∧ W.cell? ⟨w.heap.size, 2, none⟩ = some (.int .u16 r) ∧ W.cell? ⟨ab, i, none⟩ = some (.pointer (some ⟨sb, 0, none⟩)))
    (first | exact HS.out _ ((Chg.refl _ _).drew) | exact HS.out _ (((Chg.refl _ _).drew).trans hc3 (by simp)) | exact HS.out _ ((((((Chg.refl _ _).drew).trans hc3 (by simp)).set _ _ (Or.inl (by simp))).set _ _ (Or.inl (by simp))).set _ _ (Or.inl (by simp))))
    (first | (go_at_call 52; refine (HO.out _ (HS.out _ ((Chg.refl _ _).drew)).1).mono ?_; rintro e w2 ⟨rfl, rfl⟩) | (go_at_call 53; refine (HL.out _ ((Chg.refl _ _).drew)).mono ?_; rintro e w3 ⟨rfl, hd3, hc3⟩; have r3 := hc3.blk (b := w.heap.size + 1) HR1.out (by simp; omega); have r30 := blk_cell (i := 0) r3 rfl; have r31 := blk_cell (i := 1) r3 rfl; have r32 := blk_cell (i := 2) r3 rfl; have g3 : ∀ i, w3.frozen? ⟨w.heap.size + 1, i, none⟩ = false := fun i => blk_free r3))
  have m3 := hc3.blk (b := mb) hm1 (by simpa using hmd)
  have m4 := blk_set_far (k := w.heap.size + 1) (i := 2) (u := .int .u64 rt) (blk_set_far (k := w.heap.size + 1) (i := 1) (u := .int .i64 lv) (blk_set_far (k := w.heap.size + 1) (i := 0) (u := .int .i64 st) m3 (by omega)) (by omega)) (by omega)
  have r4 := blk_set (i := 2) (.int .u64 rt) (blk_set (i := 1) (.int .i64 lv) (blk_set (i := 0) (.int .i64 st) r3))
  obtain ⟨nd, od3⟩ := hd3
  have o4 := ((od3.setCell (a := ⟨w.heap.size + 1, 0, none⟩) (by dsimp only; omega) (.int .i64 st)).setCell (a := ⟨w.heap.size + 1, 1, none⟩) (by dsimp only; omega) (.int .i64 lv)).setCell (a := ⟨w.heap.size + 1, 2, none⟩) (by dsimp only; omega) (.int .u64 rt)
  have hc2 : Chg [mb, db] w w3 := ((hc1.mono (by simp)).drew).trans hc3 (by simp)
  have hc4 := ((hc2.set ⟨w.heap.size + 1, 0, none⟩ (.int .i64 st) (Or.inr (by dsimp only; omega))).set ⟨w.heap.size + 1, 1, none⟩ (.int .i64 lv) (Or.inr (by dsimp only; omega))).set ⟨w.heap.size + 1, 2, none⟩ (.int .u64 rt) (Or.inr (by dsimp only; omega))
  go_wp2_with fail
  refine leaves_cons (f := 31) (args := #[.pointer (some ⟨mb, 0, none⟩)]) (by simp) (by simp [go_sem]) ?_
  refine (runlock_deferred Tryz.rwRLib mb 0 1 (.int .i32 0) (.int .u32 0) .returning _ (blk_cell (i := 0) m4 rfl) (blk_cell (i := 2) m4 rfl) (blk_cell (i := 4) m4 rfl) (blk_free m4) (by rw [rc2]; decide)).mono ?_
  rintro e u' w5 ⟨rfl, rfl, hw5⟩
  rw [rc2] at hw5
  have m5 := blk_set (i := 4) (.int .i32 0) m4
  have r5 := blk_set_far (k := mb) (i := 4) (u := .int .i32 0) r4 (by omega)
  have hc5 := hc4.set ⟨mb, 4, none⟩ (.int .i32 0) (Or.inl (by simp))
  have o5 := o4.setCell (a := ⟨mb, 4, none⟩) (Ne.symm hmd) (.int .i32 0)
  rw [hw5, HX.out]
  refine ⟨.tuple #[.agg #[.int .i64 st, .int .i64 lv, .int .u64 rt], .int .i64 0], results_cell2 rfl rfl rfl (load42 r5 rfl rfl rfl), rfl, ⟨_, o5⟩, hc5.back (fun j hj => by
    rcases List.mem_cons.1 hj with rfl | hj
    · exact Or.inr (m5.trans hm.symm)
    · exact Or.inl hj)⟩
end Go.Proofs.YtbdnhllhdjepcaaGreat
namespace Go.Proofs.YtbdnhllhdjepcaaGreat
set_option linter.unusedVariables false
set_option linter.unusedSimpArgs false
open Go.RowKit Go.Maps Go.MuLone Go.RwLone

theorem run_makeMapN {P : Program} {t k e : TypeId} (ht : P.underlying t = some (.map k e)) (n : Int) (w : World) : (Instr.makeMap t (some (.int .i64 n))).run P w = .ok (.map (some w.heap.size)) (w.alloc (.map #[] 0)) := by
  unfold Instr.makeMap
  simp [go_sem, run_underlying ht, Result.andThen]

/-- the interval of a quota -/
def ivl (c p : Int) : Int := (p - 1) / c + 1

set_option maxRecDepth 100000 in
set_option maxHeartbeats 1600000 in
theorem rateOf_any (c pe b : Int) (w : World) (h1 : 1 ≤ c) (h2 : c ≤ 1000000) (h3 : 1 ≤ pe) (h4 : pe ≤ 4611686018427387904) (h5 : 0 ≤ b) (h6 : b ≤ 4611686018427387904 - ivl c pe) (h7 : 1 ≤ ivl c pe) :
    Calls Tryz.prog 96 #[.agg #[.int .i64 c, .int .i64 pe, .int .i64 b]] w fun e w' => e = .returned (.tuple #[.agg #[.int .u64 (ivl c pe), .int .u64 b], .bool true]) ∧ Chg [] w w' := by
  have h8 : ivl c pe ≤ 4611686018427387904 := by omega
  unfold ivl at *
  have hd : 0 ≤ (pe - 1) / c := by omega
  have hd' : (pe - 1) / c ≤ 4611686018427387904 := by omega
  go_enter Tryz.func96, Tryz.ntmps96
  go_wp2
  refine bodyPost_ret (v := .tuple #[.agg #[.int .u64 ((pe - 1) / c + 1), .int .u64 b], .bool true]) (by simp [results, Tryz.results96, go_sem, World.cell?_alloc_past]) rfl ⟨rfl, ?_⟩
  exact ((Chg.refl _ _).alloc _).alloc _

set_option maxRecDepth 100000 in
set_option maxHeartbeats 1600000 in
theorem sizes_any (q0 q1 q2 q3 q4 q5 q6 q7 q8 ov : Value) (sh sl ev de qu : Int) (w : World) (h1 : 1 ≤ sh) (h2 : sh ≤ 4) (h3 : 3 ≤ sl) (h4 : sl ≤ 64) (h5 : 1 ≤ ev) (h6 : ev ≤ 4611686018427387904) (h7 : 0 ≤ de) (h8 : de ≤ 4611686018427387904) (h9 : 0 ≤ qu) (h10 : qu ≤ 50) :
    Calls Tryz.prog 95 #[.agg #[q0, q1, q2, q3, q4, q5, q6, q7, q8, ov, .int .i64 sh, .int .i64 sl, .int .i64 ev, .int .i64 de, .int .i64 qu]] w fun e w' => e = .returned (.bool true) ∧ Chg [] w w' := by
  go_enter Tryz.func95, Tryz.ntmps95
  go_wp2
  go_ret
  exact ⟨rfl, (Chg.refl _ _).alloc _⟩

set_option maxRecDepth 100000 in
theorem turnNew_any (w : World) : Calls Tryz.prog 98 #[] w fun e w' => e = .returned (.pointer (some ⟨w.heap.size + 1, 0, none⟩)) ∧ w' = (w.alloc (.map #[] 0)).alloc (.cells #[.map (some w.heap.size), .slice none 0 0] 232) := by
  have hmm := @run_makeMap Tryz.prog
  go_enter Tryz.func98, Tryz.ntmps98
  go_wp2
  go_ret
  exact ⟨rfl, rfl⟩

set_option maxRecDepth 100000 in
theorem queueNew_any (ev de qu : Int) (w : World) (h5 : 1 ≤ ev) (h6 : ev ≤ 4611686018427387904) (h7 : 0 ≤ de) (h8 : de ≤ 4611686018427387904) :
    Calls Tryz.prog 50 #[.int .i64 ev, .int .i64 de, .int .i64 qu] w fun e w' => e = .returned (.pointer (some ⟨w.heap.size + 2, 0, none⟩)) ∧
      w' = ((w.alloc (.map #[] 0)).alloc (.cells #[.map (some w.heap.size), .slice none 0 0] 232)).alloc (.cells #[.int .i32 0, .int .u32 0, .int .u64 ev, .int .u64 de, .int .i64 qu, .pointer (some ⟨w.heap.size + 1, 0, none⟩), .slice none 0 0] 190) := by
  go_enter Tryz.func50, Tryz.ntmps50
  go_wp2_with (go_at_call 98; refine (turnNew_any _).mono ?_; rintro e w' ⟨rfl, rfl⟩)
  go_ret
  exact ⟨rfl, rfl⟩

set_option maxRecDepth 100000 in
theorem shardNew_any (pb : Nat) (slots : Int) (w : World) (h0 : 3 ≤ slots) (h1 : slots ≤ 64) :
    Calls Tryz.prog 51 #[.pointer (some ⟨pb, 0, none⟩), .int .i64 slots] w fun e w' => e = .returned (.pointer (some ⟨w.heap.size + 1, 0, none⟩)) ∧
      w' = (w.alloc (.map #[] 0)).alloc (.cells #[.int .i32 0, .int .u32 0, .pointer (some ⟨pb, 0, none⟩), .int .i64 slots, .map (some w.heap.size)] 193) := by
  have hmm := fun w => run_makeMapN Tryz.underlying191 slots w
  go_enter Tryz.func51, Tryz.ntmps51
  go_wp2
  go_ret
  exact ⟨rfl, rfl⟩
end Go.Proofs.YtbdnhllhdjepcaaGreat
