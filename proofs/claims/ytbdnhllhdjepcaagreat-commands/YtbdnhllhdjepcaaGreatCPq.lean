import Derived.Test.YtbdnhllhdjepcaaGreatCPf
namespace Go.Proofs.YtbdnhllhdjepcaaGreat
set_option linter.unusedVariables false
set_option linter.unusedSimpArgs false
open Go.RowKit Go.Maps Go.MuLone Go.RwLone

set_option maxRecDepth 100000 in
set_option maxHeartbeats 8000000 in
theorem New_ok (c0 p0 b0 c1 p1 b1 c2 p2 b2 sl ev de qu : Int) (n : Nat) (la : Option Addr) (ln cap : Nat) (p : Pln) (w : World) (HPl : Hid (∀ W, Chg [] w W → Calls Tryz.prog 49 #[.agg #[.int .i64 c0, .int .i64 p0, .int .i64 b0, .int .i64 c1, .int .i64 p1, .int .i64 b1, .int .i64 c2, .int .i64 p2, .int .i64 b2, .slice la ln cap, .int .i64 n, .int .i64 sl, .int .i64 ev, .int .i64 de, .int .i64 qu]] W fun e w' => ∃ pb ob : Nat, e = .returned (.tuple #[.pointer (some ⟨pb, 0, none⟩), .int .i64 0]) ∧ PlanAt w' pb ob p ∧ Chg [] W w' ∧ W.heap.size ≤ pb ∧ W.heap.size ≤ ob)) (h1 : 1 ≤ n) (h2 : n ≤ 4) (h3 : 3 ≤ sl) (h4 : sl ≤ 64) (h5 : 1 ≤ ev) (h6 : ev ≤ 4611686018427387904) (h7 : 0 ≤ de) (h8 : de ≤ 4611686018427387904) (h9 : 0 ≤ qu) (h10 : qu ≤ 50) :
    Calls Tryz.prog 20 #[.agg #[.int .i64 c0, .int .i64 p0, .int .i64 b0, .int .i64 c1, .int .i64 p1, .int .i64 b1, .int .i64 c2, .int .i64 p2, .int .i64 b2, .slice la ln cap, .int .i64 n, .int .i64 sl, .int .i64 ev, .int .i64 de, .int .i64 qu]] w fun e w' => ∃ (mb ab qb tb xb pb ob : Nat) (sd : List (Nat × Nat)), e = .returned (.tuple #[.pointer (some ⟨mb, 0, none⟩), .int .i64 0]) ∧ MtrNew w w' mb n sl p ev de qu ab qb tb xb pb ob sd := by
  go_enter Tryz.func20, Tryz.ntmps20
  go_wp2_with fail
  refine (HPl.out _ ((Chg.refl _ _).alloc _)).mono ?_
  rintro e w1 ⟨pb, ob, rfl, hp, hc1, hpb, hob⟩
  have g1 : w1.heap[w.heap.size]? = some (.cells [.int .i64 c0, .int .i64 p0, .int .i64 b0, .int .i64 c1, .int .i64 p1, .int .i64 b1, .int .i64 c2, .int .i64 p2, .int .i64 b2, .slice la ln cap, .int .i64 n, .int .i64 sl, .int .i64 ev, .int .i64 de, .int .i64 qu].toArray 33 (0, 0)) := hc1.blk (heap_alloc_new w _) (by simp)
  have hl1 := lt_of_block g1
  have HS : Hid (∀ W, Chg [] w1 W → (W.cell? ⟨w.heap.size, 10, none⟩ = some (.int .i64 n) ∧ W.cell? ⟨w.heap.size, 12, none⟩ = some (.int .i64 ev) ∧ W.cell? ⟨w.heap.size, 13, none⟩ = some (.int .i64 de) ∧ W.cell? ⟨w.heap.size, 14, none⟩ = some (.int .i64 qu))) := fun W hW => by
    have g2 := hW.blk g1 (by simp)
    exact ⟨blk_cell g2 rfl, blk_cell g2 rfl, blk_cell g2 rfl, blk_cell g2 rfl⟩
  have hmk := mkShards n h1 h2
  have hn0 : (0 : Int) ≤ (n : Int) := by omega
  go_wp2_with fail
  go_region_held3 (fun W => W.cell? ⟨w.heap.size, 10, none⟩ = some (.int .i64 n) ∧ W.cell? ⟨w.heap.size, 12, none⟩ = some (.int .i64 ev) ∧ W.cell? ⟨w.heap.size, 13, none⟩ = some (.int .i64 de) ∧ W.cell? ⟨w.heap.size, 14, none⟩ = some (.int .i64 qu))
    (first | exact HS.out _ ((Chg.refl _ _).drew) | exact HS.out _ (((Chg.refl _ _).drew).trans hcq (by simp)) | exact HS.out _ (((Chg.refl _ _).drew).alloc _) | exact HS.out _ (((Chg.refl _ _).alloc _).drew) | exact HS.out _ ((((Chg.refl _ _).drew).trans hcq (by simp)).alloc _) | exact HS.out _ ((((Chg.refl _ _).alloc _).drew).trans hcq (by simp)) | exact HS.out _ (((((Chg.refl _ _).drew).trans hcq (by simp)).alloc _).alloc _) | exact HS.out _ (((((Chg.refl _ _).alloc _).drew).trans hcq (by simp)).alloc _))
    (first | (go_at_call 50; refine (queueNew_ex ev de qu _ h5 h6 h7 h8).mono ?_; rintro e w2 ⟨qb, tb, xb, rfl, hq, hcq, hqb, htb, hxb⟩))
  · have hw1l := hc1.size
    simp at hw1l
    have hw2l := hcq.size
    simp at hw2l
    have hc2 : Chg [] w1 w2 := (((Chg.refl _ _).alloc _).drew).trans hcq (by simp)
    have hb0 : w2.heap[w1.heap.size]? = some (.cells (arrTo [] n).toArray 129 (0, 0)) := hcq.blk (b := w1.heap.size) (heap_alloc_new _ _) (by simp)
    have hb1 := blk_alloc hb0 (.cells (mcells 0 w1.heap.size n qb).toArray 93)
    have hm1 : (w2.alloc (.cells (mcells 0 w1.heap.size n qb).toArray 93)).heap[w2.heap.size]? = some (.cells (mcells 0 w1.heap.size n qb).toArray 93 (0, 0)) := heap_alloc_new _ _
    have hcW := hc2.alloc (.cells (mcells 0 w1.heap.size n qb).toArray 93)
    have hqW := hq.chg ((Chg.refl [] w2).alloc (.cells (mcells 0 w1.heap.size n qb).toArray 93)) (by simp) (by simp) (by simp)
    have hqb' : w1.heap.size ≤ qb := by simp at hqb; omega
    have htb' : w1.heap.size ≤ tb := by simp at htb; omega
    have hxb' : w1.heap.size ≤ xb := by simp at hxb; omega
    obtain ⟨W0, hW0⟩ : ∃ W0, W0 = (w2.alloc (.cells (mcells 0 w1.heap.size n qb).toArray 93)) := ⟨_, rfl⟩
    rw [← hW0] at hb1 hm1 hcW hqW
    have hsz : W0.heap.size = w2.heap.size + 1 := by rw [hW0]; simp
    have HW0 : Hid ((w2.alloc (.cells (mcells 0 w1.heap.size n qb).toArray 93)) = W0) := hW0.symm
    have hpW := hp.chg hcW (by simp) (by simp)
    have hpl := lt_of_block hp.1
    have hol : ob < w1.heap.size := hp.2.elim fun _ h => h.lt
    have hxl := lt_of_block hqW.2.2
    have gW := hcW.blk g1 (by simp)
    have k7 : W0.cell? ⟨w2.heap.size, 7, none⟩ = some (.slice (some ⟨w1.heap.size, 0, none⟩) n n) := blk_cell (i := 7) hm1 rfl
    clear hW0 HS hq hqb htb hxb
    refine (show _ from ?_)
    rw [show (w2.alloc (.cells #[.int .i32 0, .int .u32 0, .int .u32 0, .int .u32 0, .int .i32 0, .int .i32 0, .int .u64 0, .slice (some ⟨w1.heap.size, 0, none⟩) n n, .pointer (some ⟨qb, 0, none⟩)] 93)) = W0 from HW0.out]
    go_wp2_with fail
    go_loopw [33] (fun i wr => ∃ sd : List (Nat × Nat), sd.length ≤ n ∧ i = .int .i64 sd.length ∧ Chg [w1.heap.size] W0 wr ∧ wr.heap[w1.heap.size]? = some (.cells (arrTo sd n).toArray 129 (0, 0)) ∧ (∀ x ∈ sd, ShardNew wr W0.heap.size pb sl x) ∧ (sd.map (·.2)).Nodup) (fun i _ => n - (intOf i).toNat)
    case atStart => exact ⟨[], by simp, rfl, Chg.refl _ _, hb1, by simp, by simp⟩
    case round =>
      obtain ⟨sd, hk, rfl, hch, hb, hsh, hnd⟩ := hrel
      have hm2 := hch.blk hm1 (by simp <;> omega)
      have g2 := hch.blk gW (by simp <;> omega)
      by_cases hlt : sd.length < n
      · have HS : Hid (∀ W, Chg [w1.heap.size] wr W → (W.cell? ⟨w2.heap.size, 7, none⟩ = some (.slice (some ⟨w1.heap.size, 0, none⟩) n n) ∧ W.cell? ⟨w.heap.size, 11, none⟩ = some (.int .i64 sl))) := fun W hW => by
          have m3 := hW.blk hm2 (by simp <;> omega)
          have g3 := hW.blk g2 (by simp <;> omega)
          exact ⟨blk_cell m3 rfl, blk_cell g3 rfl⟩
        have hk0 : (0 : Int) ≤ (sd.length : Int) := by omega
        have hk1 : (sd.length : Int) < (n : Int) := by omega
        have HB : Hid (wr.heap[w1.heap.size]? = some (.cells (arrTo sd n).toArray 129 (0, 0))) := hb
        have HSH : Hid (∀ x ∈ sd, ShardNew wr W0.heap.size pb sl x) := hsh
        have HND : Hid ((sd.map (·.2)).Nodup) := hnd
        clear hb hsh hnd
        generalize hkk : sd.length = k at *
        have HK : Hid (sd.length = k) := hkk
        clear hkk
        go_wp2_with fail
        go_region_held3 (fun W => W.cell? ⟨w2.heap.size, 7, none⟩ = some (.slice (some ⟨w1.heap.size, 0, none⟩) n n) ∧ W.cell? ⟨w.heap.size, 11, none⟩ = some (.int .i64 sl))
          (first | exact HS.out _ ((Chg.refl _ _).drew) | exact HS.out _ (((Chg.refl _ _).drew).trans hcn (by simp)) | exact HS.out _ ((((Chg.refl _ _).drew).trans hcn (by simp)).set _ _ (Or.inl (by simp))))
          (first | (go_at_call 51; refine (shardNew_ex pb sl _ h3 h4).mono ?_; rintro e w3 ⟨s, d, rfl, hsn, hdn, hcn, hsl, hdl⟩; have a3 := hcn.blk (b := w1.heap.size) HB.out (by simp); have e3 : w3.cell? ⟨w1.heap.size, k, none⟩ = some (.pointer none) := blk_cell (i := k) a3 (by have := arr_at sd n (by rw [HK.out]; omega); rw [HK.out] at this; exact this); have f3 : w3.frozen? ⟨w1.heap.size, k, none⟩ = false := blk_free a3))
        have hcr : Chg [w1.heap.size] wr (w3.setCell ⟨w1.heap.size, k, none⟩ (.pointer (some ⟨s, 0, none⟩))) := (((Chg.refl _ _).drew).trans hcn (by simp)).set _ _ (Or.inl (by simp))
        have hcs : Chg [w1.heap.size] w3 (w3.setCell ⟨w1.heap.size, k, none⟩ (.pointer (some ⟨s, 0, none⟩))) := (Chg.refl _ _).set _ _ (Or.inl (by simp))
        have hszr := hch.size
        have hsl' : wr.heap.size ≤ s := hsl
        have hdl' : wr.heap.size ≤ d := hdl
        have hnew : ShardNew (w3.setCell ⟨w1.heap.size, k, none⟩ (.pointer (some ⟨s, 0, none⟩))) W0.heap.size pb sl (s, d) := ShardNew.chg (l := [w1.heap.size]) (w := w3) ⟨hsn, hdn, by dsimp only; omega, by dsimp only; omega⟩ hcs (by simp <;> omega) (by simp <;> omega)
        have harr := blk_set (i := k) (.pointer (some ⟨s, 0, none⟩)) a3
        go_wp2
        go_roundw
        case rel =>
          refine ⟨sd ++ [(s, d)], by simp [HK.out]; omega, by simp [HK.out], hch.trans hcr (by simp), ?_, ?_, ?_⟩
          · rw [← arr_step sd n (s, d) (by rw [HK.out]; omega), HK.out]
            exact harr
          · intro x hx
            rcases List.mem_append.1 hx with hx | hx
            · have hx' := HSH.out x hx
              exact hx'.chg hcr (by simp; have := hx'.2.2.1; omega) (by simp; have := hx'.2.2.2; omega)
            · rw [List.mem_singleton.1 hx]
              exact hnew
          · rw [List.map_append, List.nodup_append]
            refine ⟨HND.out, by simp, ?_⟩
            intro a ha b hb' e
            obtain ⟨x, hx, rfl⟩ := List.mem_map.1 ha
            have h5' := lt_of_block (HSH.out x hx).2.1
            simp at hb'
            omega
        case measure => simp [intOf]; omega
      · have hsn : sd.length = n := by omega
        have hb' := hb
        rw [← hsn, arr_end] at hb'
        have hszr := hch.size
        go_wp2
        go_ret2
        have A1 : ∀ x ∈ sd, ShardNew wr w.heap.size pb sl x := fun x hx => by
          have h := hsh x hx
          have h1' := h.2.2.1
          have h2' := h.2.2.2
          exact ⟨h.1, h.2.1, by omega, by omega⟩
        have A2 : ∀ x ∈ sd, x.2 ≠ ob := fun x hx => by
          have := (hsh x hx).2.2.2
          omega
        have A3 : ∀ x ∈ sd, x.2 ≠ xb := fun x hx => by
          have := (hsh x hx).2.2.2
          omega
        have A4 := hpW.chg hch (by simp <;> omega) (by simp <;> omega)
        have N1 : qb ≠ w1.heap.size := fun e => by
          have h1' := hqW.1
          rw [e, hb1] at h1'
          simp at h1'
        have N2 : tb ≠ w1.heap.size := fun e => by
          have h1' := hqW.2.1
          rw [e, hb1] at h1'
          simp at h1'
        have N3 : xb ≠ w1.heap.size := fun e => by
          have h1' := hqW.2.2
          rw [e, hb1] at h1'
          simp at h1'
        have A5 := hqW.chg hch (by simpa using N1) (by simpa using N2) (by simpa using N3)
        have A6 : Chg [] w wr := ((((Chg.refl _ _).alloc _).trans hc1 (by simp)).trans hcW (by simp)).trans hch (by intro j hj; simp at hj; right; omega)
        have A7 : w.heap.size ≤ pb := by simp at hpb; omega
        have A8 : w.heap.size ≤ ob := by simp at hob; omega
        exact ⟨w2.heap.size, w1.heap.size, qb, tb, xb, pb, ob, sd, rfl, MtrNew.mk hsn hm2 hb' A1 hnd A2 A3 (by omega) A4 A5 A6 (by omega) (by omega) (by omega) (by omega) (by omega) A7 A8⟩
  · have hw1l := hc1.size
    simp at hw1l
    have hw2l := hcq.size
    simp at hw2l
    have hc2 : Chg [] w1 w2 := ((Chg.refl _ _).drew).trans hcq (by simp)
    have hb1 : ((w2.alloc (.cells (nils n) 129)).alloc (.cells (mcells 0 w2.heap.size n qb).toArray 93)).heap[w2.heap.size]? = some (.cells (arrTo [] n).toArray 129 (0, 0)) := heap_alloc2_old _ _ _
    have hm1 : ((w2.alloc (.cells (nils n) 129)).alloc (.cells (mcells 0 w2.heap.size n qb).toArray 93)).heap[w2.heap.size + 1]? = some (.cells (mcells 0 w2.heap.size n qb).toArray 93 (0, 0)) := heap_alloc2_new _ _ _
    have hcW := (hc2.alloc (.cells (nils n) 129)).alloc (.cells (mcells 0 w2.heap.size n qb).toArray 93)
    have hqW := hq.chg (((Chg.refl [] w2).alloc (.cells (nils n) 129)).alloc (.cells (mcells 0 w2.heap.size n qb).toArray 93)) (by simp) (by simp) (by simp)
    have hqb' : w1.heap.size ≤ qb := hqb
    have htb' : w1.heap.size ≤ tb := htb
    have hxb' : w1.heap.size ≤ xb := hxb
    obtain ⟨W0, hW0⟩ : ∃ W0, W0 = ((w2.alloc (.cells (nils n) 129)).alloc (.cells (mcells 0 w2.heap.size n qb).toArray 93)) := ⟨_, rfl⟩
    rw [← hW0] at hb1 hm1 hcW hqW
    have hsz : W0.heap.size = w2.heap.size + 2 := by rw [hW0]; simp
    have HW0 : Hid (((w2.alloc (.cells (nils n) 129)).alloc (.cells (mcells 0 w2.heap.size n qb).toArray 93)) = W0) := hW0.symm
    have hpW := hp.chg hcW (by simp) (by simp)
    have hpl := lt_of_block hp.1
    have hol : ob < w1.heap.size := hp.2.elim fun _ h => h.lt
    have hxl := lt_of_block hqW.2.2
    have gW := hcW.blk g1 (by simp)
    have k7 : W0.cell? ⟨w2.heap.size + 1, 7, none⟩ = some (.slice (some ⟨w2.heap.size, 0, none⟩) n n) := blk_cell (i := 7) hm1 rfl
    clear hW0 HS hq hqb htb hxb
    refine (show _ from ?_)
    rw [show ((w2.alloc (.cells (nils n) 129)).alloc (.cells #[.int .i32 0, .int .u32 0, .int .u32 0, .int .u32 0, .int .i32 0, .int .i32 0, .int .u64 0, .slice (some ⟨w2.heap.size, 0, none⟩) n n, .pointer (some ⟨qb, 0, none⟩)] 93)) = W0 from HW0.out]
    go_wp2_with fail
    go_loopw [33] (fun i wr => ∃ sd : List (Nat × Nat), sd.length ≤ n ∧ i = .int .i64 sd.length ∧ Chg [w2.heap.size] W0 wr ∧ wr.heap[w2.heap.size]? = some (.cells (arrTo sd n).toArray 129 (0, 0)) ∧ (∀ x ∈ sd, ShardNew wr W0.heap.size pb sl x) ∧ (sd.map (·.2)).Nodup) (fun i _ => n - (intOf i).toNat)
    case atStart => exact ⟨[], by simp, rfl, Chg.refl _ _, hb1, by simp, by simp⟩
    case round =>
      obtain ⟨sd, hk, rfl, hch, hb, hsh, hnd⟩ := hrel
      have hm2 := hch.blk hm1 (by simp <;> omega)
      have g2 := hch.blk gW (by simp <;> omega)
      by_cases hlt : sd.length < n
      · have HS : Hid (∀ W, Chg [w2.heap.size] wr W → (W.cell? ⟨w2.heap.size + 1, 7, none⟩ = some (.slice (some ⟨w2.heap.size, 0, none⟩) n n) ∧ W.cell? ⟨w.heap.size, 11, none⟩ = some (.int .i64 sl))) := fun W hW => by
          have m3 := hW.blk hm2 (by simp <;> omega)
          have g3 := hW.blk g2 (by simp <;> omega)
          exact ⟨blk_cell m3 rfl, blk_cell g3 rfl⟩
        have hk0 : (0 : Int) ≤ (sd.length : Int) := by omega
        have hk1 : (sd.length : Int) < (n : Int) := by omega
        have HB : Hid (wr.heap[w2.heap.size]? = some (.cells (arrTo sd n).toArray 129 (0, 0))) := hb
        have HSH : Hid (∀ x ∈ sd, ShardNew wr W0.heap.size pb sl x) := hsh
        have HND : Hid ((sd.map (·.2)).Nodup) := hnd
        clear hb hsh hnd
        generalize hkk : sd.length = k at *
        have HK : Hid (sd.length = k) := hkk
        clear hkk
        go_wp2_with fail
        go_region_held3 (fun W => W.cell? ⟨w2.heap.size + 1, 7, none⟩ = some (.slice (some ⟨w2.heap.size, 0, none⟩) n n) ∧ W.cell? ⟨w.heap.size, 11, none⟩ = some (.int .i64 sl))
          (first | exact HS.out _ ((Chg.refl _ _).drew) | exact HS.out _ (((Chg.refl _ _).drew).trans hcn (by simp)) | exact HS.out _ ((((Chg.refl _ _).drew).trans hcn (by simp)).set _ _ (Or.inl (by simp))))
          (first | (go_at_call 51; refine (shardNew_ex pb sl _ h3 h4).mono ?_; rintro e w3 ⟨s, d, rfl, hsn, hdn, hcn, hsl, hdl⟩; have a3 := hcn.blk (b := w2.heap.size) HB.out (by simp); have e3 : w3.cell? ⟨w2.heap.size, k, none⟩ = some (.pointer none) := blk_cell (i := k) a3 (by have := arr_at sd n (by rw [HK.out]; omega); rw [HK.out] at this; exact this); have f3 : w3.frozen? ⟨w2.heap.size, k, none⟩ = false := blk_free a3))
        have hcr : Chg [w2.heap.size] wr (w3.setCell ⟨w2.heap.size, k, none⟩ (.pointer (some ⟨s, 0, none⟩))) := (((Chg.refl _ _).drew).trans hcn (by simp)).set _ _ (Or.inl (by simp))
        have hcs : Chg [w2.heap.size] w3 (w3.setCell ⟨w2.heap.size, k, none⟩ (.pointer (some ⟨s, 0, none⟩))) := (Chg.refl _ _).set _ _ (Or.inl (by simp))
        have hszr := hch.size
        have hsl' : wr.heap.size ≤ s := hsl
        have hdl' : wr.heap.size ≤ d := hdl
        have hnew : ShardNew (w3.setCell ⟨w2.heap.size, k, none⟩ (.pointer (some ⟨s, 0, none⟩))) W0.heap.size pb sl (s, d) := ShardNew.chg (l := [w2.heap.size]) (w := w3) ⟨hsn, hdn, by dsimp only; omega, by dsimp only; omega⟩ hcs (by simp <;> omega) (by simp <;> omega)
        have harr := blk_set (i := k) (.pointer (some ⟨s, 0, none⟩)) a3
        go_wp2
        go_roundw
        case rel =>
          refine ⟨sd ++ [(s, d)], by simp [HK.out]; omega, by simp [HK.out], hch.trans hcr (by simp), ?_, ?_, ?_⟩
          · rw [← arr_step sd n (s, d) (by rw [HK.out]; omega), HK.out]
            exact harr
          · intro x hx
            rcases List.mem_append.1 hx with hx | hx
            · have hx' := HSH.out x hx
              exact hx'.chg hcr (by simp; have := hx'.2.2.1; omega) (by simp; have := hx'.2.2.2; omega)
            · rw [List.mem_singleton.1 hx]
              exact hnew
          · rw [List.map_append, List.nodup_append]
            refine ⟨HND.out, by simp, ?_⟩
            intro a ha b hb' e
            obtain ⟨x, hx, rfl⟩ := List.mem_map.1 ha
            have h5' := lt_of_block (HSH.out x hx).2.1
            simp at hb'
            omega
        case measure => simp [intOf]; omega
      · have hsn : sd.length = n := by omega
        have hb' := hb
        rw [← hsn, arr_end] at hb'
        have hszr := hch.size
        go_wp2
        go_ret2
        have A1 : ∀ x ∈ sd, ShardNew wr w.heap.size pb sl x := fun x hx => by
          have h := hsh x hx
          have h1' := h.2.2.1
          have h2' := h.2.2.2
          exact ⟨h.1, h.2.1, by omega, by omega⟩
        have A2 : ∀ x ∈ sd, x.2 ≠ ob := fun x hx => by
          have := (hsh x hx).2.2.2
          omega
        have A3 : ∀ x ∈ sd, x.2 ≠ xb := fun x hx => by
          have := (hsh x hx).2.2.2
          omega
        have A4 := hpW.chg hch (by simp <;> omega) (by simp <;> omega)
        have N1 : qb ≠ w2.heap.size := fun e => by
          have h1' := hqW.1
          rw [e, hb1] at h1'
          simp at h1'
        have N2 : tb ≠ w2.heap.size := fun e => by
          have h1' := hqW.2.1
          rw [e, hb1] at h1'
          simp at h1'
        have N3 : xb ≠ w2.heap.size := fun e => by
          have h1' := hqW.2.2
          rw [e, hb1] at h1'
          simp at h1'
        have A5 := hqW.chg hch (by simpa using N1) (by simpa using N2) (by simpa using N3)
        have A6 : Chg [] w wr := ((((Chg.refl _ _).alloc _).trans hc1 (by simp)).trans hcW (by simp)).trans hch (by intro j hj; simp at hj; right; omega)
        have A7 : w.heap.size ≤ pb := by simp at hpb; omega
        have A8 : w.heap.size ≤ ob := by simp at hob; omega
        exact ⟨w2.heap.size + 1, w2.heap.size, qb, tb, xb, pb, ob, sd, rfl, MtrNew.mk hsn hm2 hb' A1 hnd A2 A3 (by omega) A4 A5 A6 (by omega) (by omega) (by omega) (by omega) (by omega) A7 A8⟩
end Go.Proofs.YtbdnhllhdjepcaaGreat
namespace Go.Proofs.YtbdnhllhdjepcaaGreat
set_option linter.unusedVariables false
set_option linter.unusedSimpArgs false
open Go.RowKit Go.Maps

/-! ### what a plan says, and what the document says -/
open Classical
theorem Ov.key_lit (o : Ov) : WideAt.IsKeyLit o.key := isKey_kl _ _ _ _
theorem plnTo_map (c : Cf) (os : List Ov) : ∀ n, IsMap (plnTo c os n).own
  | 0 => ⟨[], rfl⟩
  | n + 1 => by
    have ih := plnTo_map c os n
    show IsMap (match os[n]? with | some o => (plnTo c os n).with_ o | none => plnTo c os n).own
    cases os[n]? with
    | none => exact ih
    | some o => exact ih.put _ _
theorem at_with {p : Pln} (hm : IsMap p.own) (o : Ov) (L : Nat) (l : Lit) : (p.with_ o).at_ L l = if l = o.key then (ivl o.c o.p, o.b) else p.at_ L l := by
  unfold Pln.at_ Pln.with_
  by_cases h : l = o.key
  · subst h
    simp only [if_true, has_put_same hm o.key_lit, atKey_put_same hm o.key_lit]
    rfl
  · simp only [if_neg h, has_put_other h, atKey_put_other h]
    rfl
theorem has_with {p : Pln} (hm : IsMap p.own) (o : Ov) (l : Lit) : Maps.has (p.with_ o).own l = (decide (l = o.key) || Maps.has p.own l) := by
  unfold Pln.with_
  by_cases h : l = o.key
  · subst h
    simp [has_put_same hm o.key_lit]
  · simp [h, has_put_other h]
theorem plnTo_has (c : Cf) (os : List Ov) (l : Lit) : ∀ n, n ≤ os.length → Maps.has (plnTo c os n).own l = (os.take n).any (fun o => decide (l = o.key))
  | 0, _ => rfl
  | n + 1, h => by
    rw [plnTo_succ c os n (by omega), has_with (plnTo_map c os n), plnTo_has c os l n (by omega), List.take_succ_eq_append_getElem (by omega : n < os.length), List.any_append]
    simp [Bool.or_comm]
theorem wf16 {x : Int} (h : U16 x) : (Lit.int .u16 x).wf = true := WalkArith.wf_u16 h
theorem wf64 {x : Int} (h : I6 x) : (Lit.int .i64 x).wf = true := WalkArith.wf_i64 h
theorem key_inj {o o' : Ov} (h : o.Ok) (h' : o'.Ok) : o.key = o'.key ↔ o.L = o'.L ∧ o.t = o'.t ∧ o.u = o'.u ∧ o.r = o'.r := by
  constructor
  · exact fun e => kl_inj (wf64 h.L) (wf16 h.t) (wf16 h.u) (wf16 h.r) (wf64 h'.L) (wf16 h'.t) (wf16 h'.u) (wf16 h'.r) e
  · rintro ⟨h1, h2, h3, h4⟩
    unfold Ov.key
    rw [h1, h2, h3, h4]
theorem cut16 {L x : Int} (h : U16 x) : U16 (cutU L x) ∧ U16 (cutR L x) := by
  unfold cutU cutR U16 at *
  constructor <;> split <;> omega
theorem plk_eq (t u r : Int) {k : Nat} (hk : k < 3) : plk t u r k = kl k t (cutU k u) (cutR k r) := by
  rcases (show k = 0 ∨ k = 1 ∨ k = 2 from by omega) with rfl | rfl | rfl <;> rfl
theorem plk_key_iff {o : Ov} (h : o.Ok) {t u r : Int} (ht : U16 t) (hu : U16 u) (hr : U16 r) {k : Nat} (hk : k < 3) : plk t u r k = o.key ↔ ovHit k t u r o = true := by
  rw [plk_eq t u r hk]
  unfold ovHit Ov.key
  rw [decide_eq_true_eq]
  constructor
  · intro e
    have := kl_inj (wf64 ⟨by omega, by omega⟩) (wf16 ht) (wf16 (cut16 hu).1) (wf16 (cut16 hr).2) (wf64 h.L) (wf16 h.t) (wf16 h.u) (wf16 h.r) e
    exact ⟨this.1.symm, this.2.1.symm, this.2.2.1.symm, this.2.2.2.symm⟩
  · rintro ⟨h1, h2, h3, h4⟩
    rw [h1, h2, h3, h4]
/-- a plan takes up what the document takes up -/
theorem ovT_iff {c : Cf} {os : List Ov} (hok : ∀ o ∈ os, o.Ok) {k : Nat} (hk : k < os.length) : OvT (plnTo c os k) os[k] ↔ ovFit (os.take k) os[k] = true := by
  unfold OvT ovFit
  rw [plnTo_has c os _ k (by omega), Bool.and_eq_true, @decide_eq_true_eq _ (dOG os[k])]
  refine and_congr_right fun _ => ?_
  rw [List.any_eq_false, List.all_eq_true]
  refine forall_congr' fun x => forall_congr' fun hx => ?_
  have hx' := hok x (List.mem_of_mem_take hx)
  have := key_inj (hok _ (List.getElem_mem hk)) hx'
  unfold sameK
  simp only [decide_eq_true_eq, Bool.not_eq_true', decide_eq_false_iff_not]
  rw [this]
  constructor
  · exact fun h e => h ⟨e.1.symm, e.2.1.symm, e.2.2.1.symm, e.2.2.2.symm⟩
  · exact fun h e => h ⟨e.1.symm, e.2.1.symm, e.2.2.1.symm, e.2.2.2.symm⟩
theorem plOk_iff {c : Cf} {os : List Ov} (hok : ∀ o ∈ os, o.Ok) : PlOk c os ↔ CfOk c os := by
  constructor
  · intro h
    exact ⟨h.q0, h.q1, h.q2, h.len, h.sz.1, h.sz.2.1, fun k hk => (ovT_iff hok hk).1 (h.fit k hk), h.sz.2.2.1, h.sz.2.2.2.1, h.sz.2.2.2.2⟩
  · intro h
    exact ⟨⟨h.sh, h.sl, h.ev, h.de, h.qu⟩, h.len, h.q0, h.q1, h.q2, fun k hk => (ovT_iff hok hk).2 (h.fit k hk)⟩
theorem lev_with (p : Pln) (o : Ov) (L : Nat) : (p.with_ o).lev L = p.lev L := by
  match L with
  | 0 => rfl
  | 1 => rfl
  | n + 2 => rfl
theorem plnTo_lev (c : Cf) (os : List Ov) (L : Nat) : ∀ n, n ≤ os.length → (plnTo c os n).lev L = (ivl (c.quo L).1 (c.quo L).2.1, (c.quo L).2.2)
  | 0, _ => by
    match L with
    | 0 => rfl
    | 1 => rfl
    | n + 2 => rfl
  | n + 1, h => by rw [plnTo_succ c os n (by omega), lev_with, plnTo_lev c os L n (by omega)]
/-- the rate at a place is that of the document's quota -/
theorem plnTo_at {c : Cf} {os : List Ov} (hok : ∀ o ∈ os, o.Ok) (h : CfOk c os) {t u r : Int} (ht : U16 t) (hu : U16 u) (hr : U16 r) {k : Nat} (hk : k < 3) : ∀ n, n ≤ os.length → (plnTo c os n).at_ k (plk t u r k) = (ivl (quoOf c (os.take n) k t u r).1 (quoOf c (os.take n) k t u r).2.1, (quoOf c (os.take n) k t u r).2.2)
  | 0, _ => by
    have : (plnTo c os 0).at_ k (plk t u r k) = (plnTo c os 0).lev k := by unfold Pln.at_; rw [if_neg (by simp [plnTo, Maps.has])]
    rw [this, plnTo_lev c os k 0 (by omega)]
    simp [quoOf]
  | n + 1, hn => by
    have hnl : n < os.length := by omega
    have ih := plnTo_at hok h ht hu hr hk n (by omega)
    rw [plnTo_succ c os n hnl, at_with (plnTo_map c os n), List.take_succ_eq_append_getElem hnl]
    have ho := hok _ (List.getElem_mem hnl)
    by_cases hit : ovHit k t u r os[n] = true
    · rw [if_pos ((plk_key_iff ho ht hu hr hk).2 hit)]
      have hT := (ovT_iff (c := c) hok hnl).2 (h.fit n hnl)
      have hnone : (os.take n).find? (ovHit k t u r) = none := by
        rw [List.find?_eq_none]
        intro x hx hx'
        have hxo := hok x (List.mem_of_mem_take hx)
        have h1 := (plk_key_iff hxo ht hu hr hk).2 hx'
        have h2 := (plk_key_iff ho ht hu hr hk).2 hit
        have h3 := hT.2
        rw [plnTo_has c os _ n (by omega), List.any_eq_false] at h3
        exact h3 x hx (by simp [← h2, h1])
      have : ((os.take n ++ [os[n]]).find? (ovHit k t u r)) = some os[n] := by rw [List.find?_append, hnone]; simp [hit]
      unfold quoOf
      rw [this]
    · rw [if_neg (fun e => hit ((plk_key_iff ho ht hu hr hk).1 e)), ih]
      have : ((os.take n ++ [os[n]]).find? (ovHit k t u r)) = (os.take n).find? (ovHit k t u r) := by rw [List.find?_append]; simp [hit]
      unfold quoOf
      rw [this]
theorem pln_at {c : Cf} {os : List Ov} (hok : ∀ o ∈ os, o.Ok) (h : CfOk c os) {t u r : Int} (ht : U16 t) (hu : U16 u) (hr : U16 r) {k : Nat} (hk : k < 3) : (plnTo c os os.length).at_ k (plk t u r k) = (ivl (quoOf c os k t u r).1 (quoOf c os k t u r).2.1, (quoOf c os k t u r).2.2) := by
  have := plnTo_at hok h ht hu hr hk os.length (Nat.le_refl _)
  rw [List.take_length] at this
  exact this
theorem good_q {c p b : Int} (h : QOk c p b) : Good (ivl c p, b) := ⟨h.2.2.2.2.2.2, h.2.2.2.2.1, by show ivl c p + b ≤ _; have := h.2.2.2.2.2.1; omega⟩
theorem pln_good {c : Cf} {os : List Ov} (h : PlOk c os) (L : Nat) (l : Lit) : ∀ n, n ≤ os.length → Good ((plnTo c os n).at_ L l)
  | 0, _ => by
    have : (plnTo c os 0).at_ L l = (plnTo c os 0).lev L := by unfold Pln.at_; rw [if_neg (by simp [plnTo, Maps.has])]
    rw [this, plnTo_lev c os L 0 (by omega)]
    match L with
    | 0 => exact good_q h.q0
    | 1 => exact good_q h.q1
    | n + 2 => exact good_q h.q2
  | n + 1, hn => by
    rw [plnTo_succ c os n (by omega), at_with (plnTo_map c os n)]
    split
    · exact good_q (h.fit n (by omega)).1.1
    · exact pln_good h L l n (by omega)
end Go.Proofs.YtbdnhllhdjepcaaGreat
