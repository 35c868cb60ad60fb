import Derived.Test.YtbdnhllhdjepcaaPlan
namespace Go.Proofs.Ytbdnhllhdjepcaa
set_option linter.unusedVariables false
set_option linter.unusedSimpArgs false
open Go.RowKit Go.Maps Go.MuLone Go.RwLone

/-- an array of pointers, all nil -/
def nils (n : Nat) : Array Value := (List.replicate n (Value.pointer none)).toArray
theorem mkShards (n : Nat) (h1 : 1 ≤ n) (h4 : n ≤ 4) (W : World) : (Instr.makeSlice 104 (.int .i64 n) (.int .i64 n)).run Try.prog W = .ok (.slice (some ⟨W.heap.size, 0, none⟩) n n) (W.alloc (.cells (nils n) 108)) := by
  rcases (show n = 1 ∨ n = 2 ∨ n = 3 ∨ n = 4 from by omega) with rfl | rfl | rfl | rfl
  · have : ∀ W : World, (Instr.makeSlice 104 (.int .i64 1) (.int .i64 1)).run Try.prog W = .ok (.slice (some ⟨W.heap.size, 0, none⟩) 1 1) (W.alloc (.cells (nils 1) 108)) := fun _ => by kernel_rfl
    exact this W
  · have : ∀ W : World, (Instr.makeSlice 104 (.int .i64 2) (.int .i64 2)).run Try.prog W = .ok (.slice (some ⟨W.heap.size, 0, none⟩) 2 2) (W.alloc (.cells (nils 2) 108)) := fun _ => by kernel_rfl
    exact this W
  · have : ∀ W : World, (Instr.makeSlice 104 (.int .i64 3) (.int .i64 3)).run Try.prog W = .ok (.slice (some ⟨W.heap.size, 0, none⟩) 3 3) (W.alloc (.cells (nils 3) 108)) := fun _ => by kernel_rfl
    exact this W
  · have : ∀ W : World, (Instr.makeSlice 104 (.int .i64 4) (.int .i64 4)).run Try.prog W = .ok (.slice (some ⟨W.heap.size, 0, none⟩) 4 4) (W.alloc (.cells (nils 4) 108)) := fun _ => by kernel_rfl
    exact this W

/-- a queue without items and turns -/
def QueueNew (w : World) (qb tb xb : Nat) (ev de qu : Int) : Prop :=
  w.heap[qb]? = some (.cells [.int .i32 0, .int .u32 0, .int .u64 ev, .int .u64 de, .int .i64 qu, .pointer (some ⟨tb, 0, none⟩), .slice none 0 0].toArray 151 (0, 0)) ∧ w.heap[tb]? = some (.cells [.map (some xb), .slice none 0 0].toArray 189 (0, 0)) ∧ w.heap[xb]? = some (.map #[] 0)
theorem QueueNew.chg {w w' : World} {qb tb xb : Nat} {ev de qu : Int} {l : List Nat} (h : QueueNew w qb tb xb ev de qu) (hc : Chg l w w') (h1 : qb ∉ l) (h2 : tb ∉ l) (h3 : xb ∉ l) : QueueNew w' qb tb xb ev de qu := ⟨hc.blk h.1 h1, hc.blk h.2.1 h2, hc.blk h.2.2 h3⟩
theorem queueNew_ex (ev de qu : Int) (w : World) (h5 : 1 ≤ ev) (h6 : ev ≤ 4611686018427387904) (h7 : 0 ≤ de) (h8 : de ≤ 4611686018427387904) :
    Calls Try.prog 50 #[.int .i64 ev, .int .i64 de, .int .i64 qu] w fun e w' => ∃ qb tb xb : Nat, e = .returned (.pointer (some ⟨qb, 0, none⟩)) ∧ QueueNew w' qb tb xb ev de qu ∧ Chg [] w w' ∧ w.heap.size ≤ qb ∧ w.heap.size ≤ tb ∧ w.heap.size ≤ xb := by
  refine (queueNew_any ev de qu w h5 h6 h7 h8).mono ?_
  rintro e w' ⟨rfl, rfl⟩
  refine ⟨w.heap.size + 2, w.heap.size + 1, w.heap.size, rfl, ⟨?_, ?_, ?_⟩, (((Chg.refl _ _).alloc _).alloc _).alloc _, by omega, by omega, by omega⟩
  · have := heap_alloc2_new (w.alloc (.map #[] 0)) (.cells #[.map (some w.heap.size), .slice none 0 0] 189) (.cells #[.int .i32 0, .int .u32 0, .int .u64 ev, .int .u64 de, .int .i64 qu, .pointer (some ⟨w.heap.size + 1, 0, none⟩), .slice none 0 0] 151)
    simpa using this
  · exact blk_alloc (heap_alloc2_new _ _ _) _
  · exact blk_alloc (heap_alloc2_old _ _ _) _

theorem shardNew_ex (pb : Nat) (slots : Int) (w : World) (h0 : 3 ≤ slots) (h1 : slots ≤ 64) :
    Calls Try.prog 51 #[.pointer (some ⟨pb, 0, none⟩), .int .i64 slots] w fun e w' => ∃ s d : Nat, e = .returned (.pointer (some ⟨s, 0, none⟩)) ∧ ShardAt w' s pb d slots ∧ w'.heap[d]? = some (.map #[] 0) ∧ Chg [] w w' ∧ w.heap.size ≤ s ∧ w.heap.size ≤ d := by
  refine (shardNew_any pb slots w h0 h1).mono ?_
  rintro e w' ⟨rfl, rfl⟩
  exact ⟨w.heap.size + 1, w.heap.size, rfl, heap_alloc2_new _ _ _, heap_alloc2_old _ _ _, ((Chg.refl _ _).alloc _).alloc _, by omega, Nat.le_refl _⟩

def sptr (x : Nat × Nat) : Value := .pointer (some ⟨x.1, 0, none⟩)
/-- a shard that was made, with its map -/
def ShardNew (w : World) (lo pb : Nat) (sl : Int) (x : Nat × Nat) : Prop := ShardAt w x.1 pb x.2 sl ∧ w.heap[x.2]? = some (.map #[] 0) ∧ lo ≤ x.1 ∧ lo ≤ x.2
theorem ShardNew.chg {l : List Nat} {w w' : World} {lo pb : Nat} {sl : Int} {x : Nat × Nat} (h : ShardNew w lo pb sl x) (hc : Chg l w w') (h1 : x.1 ∉ l) (h2 : x.2 ∉ l) : ShardNew w' lo pb sl x := ⟨hc.blk h.1 h1, hc.blk h.2.1 h2, h.2.2⟩
/-- the array of shards behind k rounds -/
def arrTo (sd : List (Nat × Nat)) (n : Nat) : List Value := sd.map sptr ++ List.replicate (n - sd.length) (.pointer none)
theorem arr_step (sd : List (Nat × Nat)) (n : Nat) (x : Nat × Nat) (h : sd.length < n) : (arrTo sd n).set sd.length (sptr x) = arrTo (sd ++ [x]) n := by
  unfold arrTo
  have e : n - sd.length = (n - (sd.length + 1)) + 1 := by omega
  rw [e, List.replicate_succ, List.set_append_right _ _ (by simp)]
  simp
theorem arr_at (sd : List (Nat × Nat)) (n : Nat) (h : sd.length < n) : (arrTo sd n)[sd.length]? = some (.pointer none) := by
  unfold arrTo
  rw [List.getElem?_append_right (by simp)]
  rw [List.getElem?_replicate, if_pos (by simp <;> omega)]
theorem arr_end (sd : List (Nat × Nat)) : arrTo sd sd.length = sd.map sptr := by unfold arrTo; simp

/-- what New makes -/
structure MtrNew (w w' : World) (mb n : Nat) (sl : Int) (p : Pln) (ev de qu : Int) (ab qb tb xb pb ob : Nat) (sd : List (Nat × Nat)) : Prop where
  len : sd.length = n
  meter : MeterAt w' mb 0 ab n qb
  arr : w'.heap[ab]? = some (.cells (sd.map sptr).toArray 108 (0, 0))
  shards : ∀ x ∈ sd, ShardNew w' w.heap.size pb sl x
  apart : (sd.map (·.2)).Nodup
  obd : ∀ x ∈ sd, x.2 ≠ ob
  xbd : ∀ x ∈ sd, x.2 ≠ xb
  xbo : xb ≠ ob
  plan : PlanAt w' pb ob p
  queue : QueueNew w' qb tb xb ev de qu
  chg : Chg [] w w'
  mlo : w.heap.size ≤ mb
  alo : w.heap.size ≤ ab
  qlo : w.heap.size ≤ qb
  tlo : w.heap.size ≤ tb
  xlo : w.heap.size ≤ xb
  plo : w.heap.size ≤ pb
  olo : w.heap.size ≤ ob

set_option maxRecDepth 100000 in
set_option maxHeartbeats 8000000 in
theorem New_nil (c0 p0 b0 c1 p1 b1 c2 p2 b2 sl ev de qu : Int) (n : Nat) (w : World) (hq0 : QOk c0 p0 b0) (hq1 : QOk c1 p1 b1) (hq2 : QOk c2 p2 b2) (h1 : 1 ≤ n) (h2 : n ≤ 4) (h3 : 3 ≤ sl) (h4 : sl ≤ 64) (h5 : 1 ≤ ev) (h6 : ev ≤ 4611686018427387904) (h7 : 0 ≤ de) (h8 : de ≤ 4611686018427387904) (h9 : 0 ≤ qu) (h10 : qu ≤ 50) :
    Calls Try.prog 32 #[.agg #[.int .i64 c0, .int .i64 p0, .int .i64 b0, .int .i64 c1, .int .i64 p1, .int .i64 b1, .int .i64 c2, .int .i64 p2, .int .i64 b2, .slice none 0 0, .int .i64 n, .int .i64 sl, .int .i64 ev, .int .i64 de, .int .i64 qu]] w fun e w' => ∃ (mb ab qb tb xb pb ob : Nat) (sd : List (Nat × Nat)), e = .returned (.tuple #[.pointer (some ⟨mb, 0, none⟩), .int .i64 0]) ∧ MtrNew w w' mb n sl ⟨ivl c0 p0, b0, ivl c1 p1, b1, ivl c2 p2, b2, .map []⟩ ev de qu ab qb tb xb pb ob sd := by
  go_enter Try.func32, Try.ntmps32
  go_wp2_with fail
  refine (planOf_nil c0 p0 b0 c1 p1 b1 c2 p2 b2 n sl ev de qu _ hq0 hq1 hq2 (by omega) (by omega) h3 h4 h5 h6 h7 h8 h9 h10).mono ?_
  rintro e w1 ⟨pb, ob, rfl, hp, hc1, hpb, hob⟩
  have g1 : w1.heap[w.heap.size]? = some (.cells (cfgV c0 p0 b0 c1 p1 b1 c2 p2 b2 n sl ev de qu).toArray 30 (0, 0)) := hc1.blk (heap_alloc_new w _) (by simp)
  have hl1 := lt_of_block g1
  have HS : Hid (∀ W, Chg [] w1 W → (W.cell? ⟨w.heap.size, 10, none⟩ = some (.int .i64 n) ∧ W.cell? ⟨w.heap.size, 12, none⟩ = some (.int .i64 ev) ∧ W.cell? ⟨w.heap.size, 13, none⟩ = some (.int .i64 de) ∧ W.cell? ⟨w.heap.size, 14, none⟩ = some (.int .i64 qu))) := fun W hW => by
    have g2 := hW.blk g1 (by simp)
    exact ⟨blk_cell g2 rfl, blk_cell g2 rfl, blk_cell g2 rfl, blk_cell g2 rfl⟩
  have hmk := mkShards n h1 h2
  have hn0 : (0 : Int) ≤ (n : Int) := by omega
  go_wp2_with fail
  go_region_held3 (fun W => W.cell? ⟨w.heap.size, 10, none⟩ = some (.int .i64 n) ∧ W.cell? ⟨w.heap.size, 12, none⟩ = some (.int .i64 ev) ∧ W.cell? ⟨w.heap.size, 13, none⟩ = some (.int .i64 de) ∧ W.cell? ⟨w.heap.size, 14, none⟩ = some (.int .i64 qu))
    (first | exact HS.out _ ((Chg.refl _ _).drew) | exact HS.out _ (((Chg.refl _ _).drew).trans hcq (by simp)) | exact HS.out _ (((Chg.refl _ _).drew).alloc _) | exact HS.out _ (((Chg.refl _ _).alloc _).drew) | exact HS.out _ ((((Chg.refl _ _).drew).trans hcq (by simp)).alloc _) | exact HS.out _ ((((Chg.refl _ _).alloc _).drew).trans hcq (by simp)) | exact HS.out _ (((((Chg.refl _ _).drew).trans hcq (by simp)).alloc _).alloc _) | exact HS.out _ (((((Chg.refl _ _).alloc _).drew).trans hcq (by simp)).alloc _))
    (first | (go_at_call 50; refine (queueNew_ex ev de qu _ h5 h6 h7 h8).mono ?_; rintro e w2 ⟨qb, tb, xb, rfl, hq, hcq, hqb, htb, hxb⟩))
  · have hw1l := hc1.size
    simp at hw1l
    have hw2l := hcq.size
    simp at hw2l
    have hc2 : Chg [] w1 w2 := (((Chg.refl _ _).alloc _).drew).trans hcq (by simp)
    have hb0 : w2.heap[w1.heap.size]? = some (.cells (arrTo [] n).toArray 108 (0, 0)) := hcq.blk (b := w1.heap.size) (heap_alloc_new _ _) (by simp)
    have hb1 := blk_alloc hb0 (.cells (mcells 0 w1.heap.size n qb).toArray 107)
    have hm1 : (w2.alloc (.cells (mcells 0 w1.heap.size n qb).toArray 107)).heap[w2.heap.size]? = some (.cells (mcells 0 w1.heap.size n qb).toArray 107 (0, 0)) := heap_alloc_new _ _
    have hcW := hc2.alloc (.cells (mcells 0 w1.heap.size n qb).toArray 107)
    have hqW := hq.chg ((Chg.refl [] w2).alloc (.cells (mcells 0 w1.heap.size n qb).toArray 107)) (by simp) (by simp) (by simp)
    have hqb' : w1.heap.size ≤ qb := by simp at hqb; omega
    have htb' : w1.heap.size ≤ tb := by simp at htb; omega
    have hxb' : w1.heap.size ≤ xb := by simp at hxb; omega
    obtain ⟨W0, hW0⟩ : ∃ W0, W0 = (w2.alloc (.cells (mcells 0 w1.heap.size n qb).toArray 107)) := ⟨_, rfl⟩
    rw [← hW0] at hb1 hm1 hcW hqW
    have hsz : W0.heap.size = w2.heap.size + 1 := by rw [hW0]; simp
    have HW0 : Hid ((w2.alloc (.cells (mcells 0 w1.heap.size n qb).toArray 107)) = W0) := hW0.symm
    have hpW := hp.chg hcW (by simp) (by simp)
    have hpl := lt_of_block hp.1
    have hol : ob < w1.heap.size := hp.2.elim fun _ h => h.lt
    have hxl := lt_of_block hqW.2.2
    have gW := hcW.blk g1 (by simp)
    have k7 : W0.cell? ⟨w2.heap.size, 7, none⟩ = some (.slice (some ⟨w1.heap.size, 0, none⟩) n n) := blk_cell (i := 7) hm1 rfl
    clear hW0 HS hq hqb htb hxb
    refine (show _ from ?_)
    rw [show (w2.alloc (.cells #[.int .i32 0, .int .u32 0, .int .u32 0, .int .u32 0, .int .i32 0, .int .i32 0, .int .u64 0, .slice (some ⟨w1.heap.size, 0, none⟩) n n, .pointer (some ⟨qb, 0, none⟩)] 107)) = W0 from HW0.out]
    go_wp2_with fail
    go_loopw [33] (fun i wr => ∃ sd : List (Nat × Nat), sd.length ≤ n ∧ i = .int .i64 sd.length ∧ Chg [w1.heap.size] W0 wr ∧ wr.heap[w1.heap.size]? = some (.cells (arrTo sd n).toArray 108 (0, 0)) ∧ (∀ x ∈ sd, ShardNew wr W0.heap.size pb sl x) ∧ (sd.map (·.2)).Nodup) (fun i _ => n - (intOf i).toNat)
    case atStart => exact ⟨[], by simp, rfl, Chg.refl _ _, hb1, by simp, by simp⟩
    case round =>
      obtain ⟨sd, hk, rfl, hch, hb, hsh, hnd⟩ := hrel
      have hm2 := hch.blk hm1 (by simp <;> omega)
      have g2 := hch.blk gW (by simp <;> omega)
      by_cases hlt : sd.length < n
      · have HS : Hid (∀ W, Chg [w1.heap.size] wr W → (W.cell? ⟨w2.heap.size, 7, none⟩ = some (.slice (some ⟨w1.heap.size, 0, none⟩) n n) ∧ W.cell? ⟨w.heap.size, 11, none⟩ = some (.int .i64 sl))) := fun W hW => by
          have m3 := hW.blk hm2 (by simp <;> omega)
          have g3 := hW.blk g2 (by simp <;> omega)
          exact ⟨blk_cell m3 rfl, blk_cell g3 rfl⟩
        have hk0 : (0 : Int) ≤ (sd.length : Int) := by omega
        have hk1 : (sd.length : Int) < (n : Int) := by omega
        have HB : Hid (wr.heap[w1.heap.size]? = some (.cells (arrTo sd n).toArray 108 (0, 0))) := hb
        have HSH : Hid (∀ x ∈ sd, ShardNew wr W0.heap.size pb sl x) := hsh
        have HND : Hid ((sd.map (·.2)).Nodup) := hnd
        clear hb hsh hnd
        generalize hkk : sd.length = k at *
        have HK : Hid (sd.length = k) := hkk
        clear hkk
        go_wp2_with fail
        go_region_held3 (fun W => W.cell? ⟨w2.heap.size, 7, none⟩ = some (.slice (some ⟨w1.heap.size, 0, none⟩) n n) ∧ W.cell? ⟨w.heap.size, 11, none⟩ = some (.int .i64 sl))
          (first | exact HS.out _ ((Chg.refl _ _).drew) | exact HS.out _ (((Chg.refl _ _).drew).trans hcn (by simp)) | exact HS.out _ ((((Chg.refl _ _).drew).trans hcn (by simp)).set _ _ (Or.inl (by simp))))
          (first | (go_at_call 51; refine (shardNew_ex pb sl _ h3 h4).mono ?_; rintro e w3 ⟨s, d, rfl, hsn, hdn, hcn, hsl, hdl⟩; have a3 := hcn.blk (b := w1.heap.size) HB.out (by simp); have e3 : w3.cell? ⟨w1.heap.size, k, none⟩ = some (.pointer none) := blk_cell (i := k) a3 (by have := arr_at sd n (by rw [HK.out]; omega); rw [HK.out] at this; exact this); have f3 : w3.frozen? ⟨w1.heap.size, k, none⟩ = false := blk_free a3))
        have hcr : Chg [w1.heap.size] wr (w3.setCell ⟨w1.heap.size, k, none⟩ (.pointer (some ⟨s, 0, none⟩))) := (((Chg.refl _ _).drew).trans hcn (by simp)).set _ _ (Or.inl (by simp))
        have hcs : Chg [w1.heap.size] w3 (w3.setCell ⟨w1.heap.size, k, none⟩ (.pointer (some ⟨s, 0, none⟩))) := (Chg.refl _ _).set _ _ (Or.inl (by simp))
        have hszr := hch.size
        have hsl' : wr.heap.size ≤ s := hsl
        have hdl' : wr.heap.size ≤ d := hdl
        have hnew : ShardNew (w3.setCell ⟨w1.heap.size, k, none⟩ (.pointer (some ⟨s, 0, none⟩))) W0.heap.size pb sl (s, d) := ShardNew.chg (l := [w1.heap.size]) (w := w3) ⟨hsn, hdn, by dsimp only; omega, by dsimp only; omega⟩ hcs (by simp <;> omega) (by simp <;> omega)
        have harr := blk_set (i := k) (.pointer (some ⟨s, 0, none⟩)) a3
        go_wp2
        go_roundw
        case rel =>
          refine ⟨sd ++ [(s, d)], by simp [HK.out]; omega, by simp [HK.out], hch.trans hcr (by simp), ?_, ?_, ?_⟩
          · rw [← arr_step sd n (s, d) (by rw [HK.out]; omega), HK.out]
            exact harr
          · intro x hx
            rcases List.mem_append.1 hx with hx | hx
            · have hx' := HSH.out x hx
              exact hx'.chg hcr (by simp; have := hx'.2.2.1; omega) (by simp; have := hx'.2.2.2; omega)
            · rw [List.mem_singleton.1 hx]
              exact hnew
          · rw [List.map_append, List.nodup_append]
            refine ⟨HND.out, by simp, ?_⟩
            intro a ha b hb' e
            obtain ⟨x, hx, rfl⟩ := List.mem_map.1 ha
            have h5' := lt_of_block (HSH.out x hx).2.1
            simp at hb'
            omega
        case measure => simp [intOf]; omega
      · have hsn : sd.length = n := by omega
        have hb' := hb
        rw [← hsn, arr_end] at hb'
        have hszr := hch.size
        go_wp2
        go_ret2
        have A1 : ∀ x ∈ sd, ShardNew wr w.heap.size pb sl x := fun x hx => by
          have h := hsh x hx
          have h1' := h.2.2.1
          have h2' := h.2.2.2
          exact ⟨h.1, h.2.1, by omega, by omega⟩
        have A2 : ∀ x ∈ sd, x.2 ≠ ob := fun x hx => by
          have := (hsh x hx).2.2.2
          omega
        have A3 : ∀ x ∈ sd, x.2 ≠ xb := fun x hx => by
          have := (hsh x hx).2.2.2
          omega
        have A4 := hpW.chg hch (by simp <;> omega) (by simp <;> omega)
        have N1 : qb ≠ w1.heap.size := fun e => by
          have h1' := hqW.1
          rw [e, hb1] at h1'
          simp at h1'
        have N2 : tb ≠ w1.heap.size := fun e => by
          have h1' := hqW.2.1
          rw [e, hb1] at h1'
          simp at h1'
        have N3 : xb ≠ w1.heap.size := fun e => by
          have h1' := hqW.2.2
          rw [e, hb1] at h1'
          simp at h1'
        have A5 := hqW.chg hch (by simpa using N1) (by simpa using N2) (by simpa using N3)
        have A6 : Chg [] w wr := ((((Chg.refl _ _).alloc _).trans hc1 (by simp)).trans hcW (by simp)).trans hch (by intro j hj; simp at hj; right; omega)
        have A7 : w.heap.size ≤ pb := by simp at hpb; omega
        have A8 : w.heap.size ≤ ob := by simp at hob; omega
        exact ⟨w2.heap.size, w1.heap.size, qb, tb, xb, pb, ob, sd, rfl, MtrNew.mk hsn hm2 hb' A1 hnd A2 A3 (by omega) A4 A5 A6 (by omega) (by omega) (by omega) (by omega) (by omega) A7 A8⟩
  · have hw1l := hc1.size
    simp at hw1l
    have hw2l := hcq.size
    simp at hw2l
    have hc2 : Chg [] w1 w2 := ((Chg.refl _ _).drew).trans hcq (by simp)
    have hb1 : ((w2.alloc (.cells (nils n) 108)).alloc (.cells (mcells 0 w2.heap.size n qb).toArray 107)).heap[w2.heap.size]? = some (.cells (arrTo [] n).toArray 108 (0, 0)) := heap_alloc2_old _ _ _
    have hm1 : ((w2.alloc (.cells (nils n) 108)).alloc (.cells (mcells 0 w2.heap.size n qb).toArray 107)).heap[w2.heap.size + 1]? = some (.cells (mcells 0 w2.heap.size n qb).toArray 107 (0, 0)) := heap_alloc2_new _ _ _
    have hcW := (hc2.alloc (.cells (nils n) 108)).alloc (.cells (mcells 0 w2.heap.size n qb).toArray 107)
    have hqW := hq.chg (((Chg.refl [] w2).alloc (.cells (nils n) 108)).alloc (.cells (mcells 0 w2.heap.size n qb).toArray 107)) (by simp) (by simp) (by simp)
    have hqb' : w1.heap.size ≤ qb := hqb
    have htb' : w1.heap.size ≤ tb := htb
    have hxb' : w1.heap.size ≤ xb := hxb
    obtain ⟨W0, hW0⟩ : ∃ W0, W0 = ((w2.alloc (.cells (nils n) 108)).alloc (.cells (mcells 0 w2.heap.size n qb).toArray 107)) := ⟨_, rfl⟩
    rw [← hW0] at hb1 hm1 hcW hqW
    have hsz : W0.heap.size = w2.heap.size + 2 := by rw [hW0]; simp
    have HW0 : Hid (((w2.alloc (.cells (nils n) 108)).alloc (.cells (mcells 0 w2.heap.size n qb).toArray 107)) = W0) := hW0.symm
    have hpW := hp.chg hcW (by simp) (by simp)
    have hpl := lt_of_block hp.1
    have hol : ob < w1.heap.size := hp.2.elim fun _ h => h.lt
    have hxl := lt_of_block hqW.2.2
    have gW := hcW.blk g1 (by simp)
    have k7 : W0.cell? ⟨w2.heap.size + 1, 7, none⟩ = some (.slice (some ⟨w2.heap.size, 0, none⟩) n n) := blk_cell (i := 7) hm1 rfl
    clear hW0 HS hq hqb htb hxb
    refine (show _ from ?_)
    rw [show ((w2.alloc (.cells (nils n) 108)).alloc (.cells #[.int .i32 0, .int .u32 0, .int .u32 0, .int .u32 0, .int .i32 0, .int .i32 0, .int .u64 0, .slice (some ⟨w2.heap.size, 0, none⟩) n n, .pointer (some ⟨qb, 0, none⟩)] 107)) = W0 from HW0.out]
    go_wp2_with fail
    go_loopw [33] (fun i wr => ∃ sd : List (Nat × Nat), sd.length ≤ n ∧ i = .int .i64 sd.length ∧ Chg [w2.heap.size] W0 wr ∧ wr.heap[w2.heap.size]? = some (.cells (arrTo sd n).toArray 108 (0, 0)) ∧ (∀ x ∈ sd, ShardNew wr W0.heap.size pb sl x) ∧ (sd.map (·.2)).Nodup) (fun i _ => n - (intOf i).toNat)
    case atStart => exact ⟨[], by simp, rfl, Chg.refl _ _, hb1, by simp, by simp⟩
    case round =>
      obtain ⟨sd, hk, rfl, hch, hb, hsh, hnd⟩ := hrel
      have hm2 := hch.blk hm1 (by simp <;> omega)
      have g2 := hch.blk gW (by simp <;> omega)
      by_cases hlt : sd.length < n
      · have HS : Hid (∀ W, Chg [w2.heap.size] wr W → (W.cell? ⟨w2.heap.size + 1, 7, none⟩ = some (.slice (some ⟨w2.heap.size, 0, none⟩) n n) ∧ W.cell? ⟨w.heap.size, 11, none⟩ = some (.int .i64 sl))) := fun W hW => by
          have m3 := hW.blk hm2 (by simp <;> omega)
          have g3 := hW.blk g2 (by simp <;> omega)
          exact ⟨blk_cell m3 rfl, blk_cell g3 rfl⟩
        have hk0 : (0 : Int) ≤ (sd.length : Int) := by omega
        have hk1 : (sd.length : Int) < (n : Int) := by omega
        have HB : Hid (wr.heap[w2.heap.size]? = some (.cells (arrTo sd n).toArray 108 (0, 0))) := hb
        have HSH : Hid (∀ x ∈ sd, ShardNew wr W0.heap.size pb sl x) := hsh
        have HND : Hid ((sd.map (·.2)).Nodup) := hnd
        clear hb hsh hnd
        generalize hkk : sd.length = k at *
        have HK : Hid (sd.length = k) := hkk
        clear hkk
        go_wp2_with fail
        go_region_held3 (fun W => W.cell? ⟨w2.heap.size + 1, 7, none⟩ = some (.slice (some ⟨w2.heap.size, 0, none⟩) n n) ∧ W.cell? ⟨w.heap.size, 11, none⟩ = some (.int .i64 sl))
          (first | exact HS.out _ ((Chg.refl _ _).drew) | exact HS.out _ (((Chg.refl _ _).drew).trans hcn (by simp)) | exact HS.out _ ((((Chg.refl _ _).drew).trans hcn (by simp)).set _ _ (Or.inl (by simp))))
          (first | (go_at_call 51; refine (shardNew_ex pb sl _ h3 h4).mono ?_; rintro e w3 ⟨s, d, rfl, hsn, hdn, hcn, hsl, hdl⟩; have a3 := hcn.blk (b := w2.heap.size) HB.out (by simp); have e3 : w3.cell? ⟨w2.heap.size, k, none⟩ = some (.pointer none) := blk_cell (i := k) a3 (by have := arr_at sd n (by rw [HK.out]; omega); rw [HK.out] at this; exact this); have f3 : w3.frozen? ⟨w2.heap.size, k, none⟩ = false := blk_free a3))
        have hcr : Chg [w2.heap.size] wr (w3.setCell ⟨w2.heap.size, k, none⟩ (.pointer (some ⟨s, 0, none⟩))) := (((Chg.refl _ _).drew).trans hcn (by simp)).set _ _ (Or.inl (by simp))
        have hcs : Chg [w2.heap.size] w3 (w3.setCell ⟨w2.heap.size, k, none⟩ (.pointer (some ⟨s, 0, none⟩))) := (Chg.refl _ _).set _ _ (Or.inl (by simp))
        have hszr := hch.size
        have hsl' : wr.heap.size ≤ s := hsl
        have hdl' : wr.heap.size ≤ d := hdl
        have hnew : ShardNew (w3.setCell ⟨w2.heap.size, k, none⟩ (.pointer (some ⟨s, 0, none⟩))) W0.heap.size pb sl (s, d) := ShardNew.chg (l := [w2.heap.size]) (w := w3) ⟨hsn, hdn, by dsimp only; omega, by dsimp only; omega⟩ hcs (by simp <;> omega) (by simp <;> omega)
        have harr := blk_set (i := k) (.pointer (some ⟨s, 0, none⟩)) a3
        go_wp2
        go_roundw
        case rel =>
          refine ⟨sd ++ [(s, d)], by simp [HK.out]; omega, by simp [HK.out], hch.trans hcr (by simp), ?_, ?_, ?_⟩
          · rw [← arr_step sd n (s, d) (by rw [HK.out]; omega), HK.out]
            exact harr
          · intro x hx
            rcases List.mem_append.1 hx with hx | hx
            · have hx' := HSH.out x hx
              exact hx'.chg hcr (by simp; have := hx'.2.2.1; omega) (by simp; have := hx'.2.2.2; omega)
            · rw [List.mem_singleton.1 hx]
              exact hnew
          · rw [List.map_append, List.nodup_append]
            refine ⟨HND.out, by simp, ?_⟩
            intro a ha b hb' e
            obtain ⟨x, hx, rfl⟩ := List.mem_map.1 ha
            have h5' := lt_of_block (HSH.out x hx).2.1
            simp at hb'
            omega
        case measure => simp [intOf]; omega
      · have hsn : sd.length = n := by omega
        have hb' := hb
        rw [← hsn, arr_end] at hb'
        have hszr := hch.size
        go_wp2
        go_ret2
        have A1 : ∀ x ∈ sd, ShardNew wr w.heap.size pb sl x := fun x hx => by
          have h := hsh x hx
          have h1' := h.2.2.1
          have h2' := h.2.2.2
          exact ⟨h.1, h.2.1, by omega, by omega⟩
        have A2 : ∀ x ∈ sd, x.2 ≠ ob := fun x hx => by
          have := (hsh x hx).2.2.2
          omega
        have A3 : ∀ x ∈ sd, x.2 ≠ xb := fun x hx => by
          have := (hsh x hx).2.2.2
          omega
        have A4 := hpW.chg hch (by simp <;> omega) (by simp <;> omega)
        have N1 : qb ≠ w2.heap.size := fun e => by
          have h1' := hqW.1
          rw [e, hb1] at h1'
          simp at h1'
        have N2 : tb ≠ w2.heap.size := fun e => by
          have h1' := hqW.2.1
          rw [e, hb1] at h1'
          simp at h1'
        have N3 : xb ≠ w2.heap.size := fun e => by
          have h1' := hqW.2.2
          rw [e, hb1] at h1'
          simp at h1'
        have A5 := hqW.chg hch (by simpa using N1) (by simpa using N2) (by simpa using N3)
        have A6 : Chg [] w wr := ((((Chg.refl _ _).alloc _).trans hc1 (by simp)).trans hcW (by simp)).trans hch (by intro j hj; simp at hj; right; omega)
        have A7 : w.heap.size ≤ pb := by simp at hpb; omega
        have A8 : w.heap.size ≤ ob := by simp at hob; omega
        exact ⟨w2.heap.size + 1, w2.heap.size, qb, tb, xb, pb, ob, sd, rfl, MtrNew.mk hsn hm2 hb' A1 hnd A2 A3 (by omega) A4 A5 A6 (by omega) (by omega) (by omega) (by omega) (by omega) A7 A8⟩
end Go.Proofs.Ytbdnhllhdjepcaa
