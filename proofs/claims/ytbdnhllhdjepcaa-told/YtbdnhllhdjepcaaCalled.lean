import Derived.Test.YtbdnhllhdjepcaaStp
namespace Go.Proofs.Ytbdnhllhdjepcaa
set_option linter.unusedVariables false
set_option linter.unusedSimpArgs false
open Go.RowKit Go.Maps

/-! ### called -/
theorem be_one {x : Int} (h : 0 ≤ x ∧ x < 256) : be x 1 = bl [x] := by
  have : x % 256 = x := Int.emod_eq_of_lt h.1 h.2
  simp [be, bl, this]
theorem FullAt.lt {w : World} {g : St} {s : Qs} {now : Int} {Ds : Nat → DW} (h : FullAt w g s now Ds) : ∀ b ∈ g.all s, b < w.heap.size := fun b hb => by
  simp only [St.all, List.mem_append, List.mem_cons, List.not_mem_nil, or_false, List.mem_map] at hb
  rcases hb with (((rfl | rfl | rfl | rfl) | ⟨x, hx, rfl⟩) | ⟨x, hx, rfl⟩) | hb
  · exact lt_of_block h.mtr.meter
  · exact lt_of_block h.mtr.arr
  · exact lt_of_block h.mtr.plan.1
  · exact h.mtr.plan.2.elim fun _ hm => hm.lt
  · obtain ⟨i, hi⟩ := List.getElem?_of_mem hx
    exact lt_of_block (h.mtr.shards i x hi).1
  · obtain ⟨i, hi⟩ := List.getElem?_of_mem hx
    exact (h.mtr.shards i x hi).2.lt
  · exact h.q.lt b hb
theorem Stp.chain {w w1 w2 w3 : World} {g : St} {s s' : Qs} (h0 : Chg [] w w1) (h : Stp w1 w2 g s s') (h2 : Chg [] w2 w3) : Stp w w3 g s s' :=
  ⟨((h0.mono (by simp)).trans h.chg (fun j hj => Or.inl hj)).trans h2 (by simp), fun b hb => (h.new b hb).imp id (fun h => Nat.le_trans h0.size h)⟩

set_option maxRecDepth 100000 in
set_option maxHeartbeats 2000000 in
theorem called1 (g : St) (s : Qs) (now : Int) (Ds : Nat → DW) (q : Rq) (x : Int) (tx : ByteArray) (w : World) (h : FullAt w g s now Ds) (H : MS g s now Ds) (hq : q.Ok) (hx : 0 ≤ x ∧ x < 4294967296) (i : Nat) (hi : pk q.t 3 % (g.n : Int) = (i : Int)) : Calls Try.prog 29 #[.pointer (some ⟨g.mb, 0, none⟩), .agg #[.int .i64 1, .int .i64 q.a, .int .i64 q.t, .int .i64 q.u, .int .i64 q.r, .int .i64 q.c, .int .u32 x, .string tx]] w fun e w' => ∃ a, e = .returned (.tuple #[a, .bool true]) ∧ AllP w w' g s now Ds i (1 + pk q.c 4) (pk q.t 3) (pk q.u 2) (pk q.r 2) a := by
  have HB1 : Hid (∀ (n : Int) W, 0 ≤ n → n ≤ 18446744073709551615 → Calls Try.prog 48 #[.int .u64 n, .int .i64 1] W fun e w' => e = .returned (sv (be n 1)) ∧ Chg [] W w') := fun n W h2 h3 => bytes_any 1 n W (by decide) h2 h3
  have HB2 : Hid (∀ (n : Int) W, 0 ≤ n → n ≤ 18446744073709551615 → Calls Try.prog 48 #[.int .u64 n, .int .i64 2] W fun e w' => e = .returned (sv (be n 2)) ∧ Chg [] W w') := fun n W h2 h3 => bytes_any 2 n W (by decide) h2 h3
  have HB4 : Hid (∀ (n : Int) W, 0 ≤ n → n ≤ 18446744073709551615 → Calls Try.prog 48 #[.int .u64 n, .int .i64 4] W fun e w' => e = .returned (sv (be n 4)) ∧ Chg [] W w') := fun n W h2 h3 => bytes_any 4 n W (by decide) h2 h3
  have HB8 : Hid (∀ (n : Int) W, 0 ≤ n → n ≤ 18446744073709551615 → Calls Try.prog 48 #[.int .u64 n, .int .i64 8] W fun e w' => e = .returned (sv (be n 8)) ∧ Chg [] W w') := fun n W h2 h3 => bytes_any 8 n W (by decide) h2 h3
  have HKy : Hid (∀ W, Calls Try.prog 15 #[.agg #[.int .i64 q.a, .int .i64 q.t, .int .i64 q.u, .int .i64 q.r, .int .i64 q.c]] W fun e w' => e = .returned (.agg #[.int .u16 (pk q.t 3), .int .u16 (pk q.u 2), .int .u16 (pk q.r 2)]) ∧ Chg [] W w') := fun W => key_any q.a q.t q.u q.r q.c W hq.2.1 hq.2.2.1 hq.2.2.2.1
  have HCo : Hid (∀ W, Calls Try.prog 16 #[.agg #[.int .i64 q.a, .int .i64 q.t, .int .i64 q.u, .int .i64 q.r, .int .i64 q.c]] W fun e w' => e = .returned (.int .i64 (1 + pk q.c 4)) ∧ Chg [] W w') := fun W => cost_any q.a q.t q.u q.r q.c W hq.2.2.2.2
  have HWa : Hid (∀ W, Calls Try.prog 13 #[.agg #[.int .i64 q.a, .int .i64 q.t, .int .i64 q.u, .int .i64 q.r, .int .i64 q.c]] W fun e w' => e = .returned (.int .i64 (pk q.a 30)) ∧ Chg [] W w') := fun W => wait_any q.a q.t q.u q.r q.c W hq.1
  have HPc : Hid (∀ W, Calls Try.prog 19 #[.int .i64 q.c, .int .i64 4] W fun e w' => e = .returned (.int .i64 (pk q.c 4)) ∧ w' = W) := fun W => pick_any q.c 4 W hq.2.2.2.2.1 hq.2.2.2.2.2 (by decide) (by decide)
  have pt := pk_bd q.t 3 (by decide)
  have pu := pk_bd q.u 2 (by decide)
  have pr := pk_bd q.r 2 (by decide)
  have pc := pk_bd q.c 4 (by decide)
  have pa := pk_bd q.a 30 (by decide)
  have fT : (Lit.int .u16 (pk q.t 3)).wf = true := wf16 (by decide) (by decide)
  have fU : (Lit.int .u16 (pk q.u 2)).wf = true := wf16 (by decide) (by decide)
  have fR : (Lit.int .u16 (pk q.r 2)).wf = true := wf16 (by decide) (by decide)
  generalize pk q.t 3 = T at *
  generalize pk q.u 2 = U at *
  generalize pk q.r 2 = R at *
  generalize pk q.c 4 = C at *
  generalize pk q.a 30 = A at *
  have hbs := ba_size
  have hbl := be_len
  have hba := ba_add
  have HF : Hid (FullAt w g s now Ds) := h
  have HH : Hid (MS g s now Ds) := H
  have HLT : Hid (∀ b ∈ g.all s, b < w.heap.size) := h.lt
  clear h H hq
  have hbd := allowD_bd (HH.out.inv i) (slots := g.sl) (cost := 1 + C) (t := T) (u := U) (r := R) HH.out.ok.good HH.out.h0 HH.out.h1 (by omega)
  have HAll : Hid (∀ W, FullAt W g s now Ds → Calls Try.prog 20 #[.pointer (some ⟨g.mb, 0, none⟩), .agg #[.int .u16 T, .int .u16 U, .int .u16 R], .int .i64 (1 + C)] W fun e w' => e = .returned (.tuple #[.agg (repV (allowD g.p g.sl (Ds i) now (1 + C) T U R).1).toArray, .int .i64 0]) ∧ FullAt w' g s now (fun j => if j = i then (allowD g.p g.sl (Ds i) now (1 + C) T U R).2 else Ds j) ∧ Stp W w' g s s) := fun W hW => FAllow (1 + C) T U R i hW HH.out hi (by omega) (by omega) fT fU fR
  obtain ⟨st, lv, rt, D', hX⟩ : ∃ st lv rt D', allowD g.p g.sl (Ds i) now (1 + C) T U R = ((st, lv, rt), D') := ⟨_, _, _, _, rfl⟩
  simp only [hX, repV] at HAll hbd
  unfold AllP
  simp only [hX]
  clear hX hi
  have wst : IntKind.u64.wrap st = st := by rw [IntKind.wrap_u64]; omega
  have wlv : IntKind.u64.wrap lv = lv := by rw [IntKind.wrap_u64]; omega
  have HSt : Hid (∀ W, Calls Try.prog 48 #[.int .u64 st, .int .i64 1] W fun e w' => e = .returned (sv (be st 1)) ∧ Chg [] W w') := fun W => HB1.out st W (by omega) (by omega)
  have HLv : Hid (∀ W, Calls Try.prog 48 #[.int .u64 lv, .int .i64 1] W fun e w' => e = .returned (sv (be lv 1)) ∧ Chg [] W w') := fun W => HB1.out lv W (by omega) (by omega)
  have HRt : Hid (∀ W, Calls Try.prog 48 #[.int .u64 rt, .int .i64 8] W fun e w' => e = .returned (sv (be rt 8)) ∧ Chg [] W w') := fun W => HB8.out rt W (by omega) (by omega)
  obtain ⟨cc, hcc⟩ : ∃ cc, 1 + C = cc := ⟨_, rfl⟩
  simp only [hcc] at HAll HCo
  clear hcc
  go_enter Try.func29, Try.ntmps29
  go_wp2_with fail
  refine (HKy.out _).mono ?_
  rintro e w1 ⟨rfl, q1⟩
  have k1 : w1.heap[w.heap.size]? = some (.cells [.int .i64 1, .int .i64 q.a, .int .i64 q.t, .int .i64 q.u, .int .i64 q.r, .int .i64 q.c, .int .u32 x, .string tx].toArray 80 (0, 0)) := q1.blk (heap_alloc_new w _) (by simp)
  have c1 : Chg [] w w1 := ((Chg.refl [] w).alloc _).trans q1 (by simp)
  have kB := blk_alloc k1 (.cells [.int .u16 T, .int .u16 U, .int .u16 R].toArray 47)
  have kK := heap_alloc_new w1 (.cells [.int .u16 T, .int .u16 U, .int .u16 R].toArray 47)
  have cB := c1.alloc (.cells [.int .u16 T, .int .u16 U, .int .u16 R].toArray 47)
  obtain ⟨wB, hwB⟩ : ∃ wB, wB = w1.alloc (.cells [.int .u16 T, .int .u16 U, .int .u16 R].toArray 47) := ⟨_, rfl⟩
  rw [← hwB] at kB kK cB
  have HWB : Hid (w1.alloc (.cells [.int .u16 T, .int .u16 U, .int .u16 R].toArray 47) = wB) := hwB.symm
  have s1 := c1.size
  have HS : Hid (∀ W, Chg (g.all s) wB W → (W.cell? ⟨w.heap.size, 1, none⟩ = some (.int .i64 q.a) ∧ W.cell? ⟨w.heap.size, 2, none⟩ = some (.int .i64 q.t) ∧ W.cell? ⟨w.heap.size, 3, none⟩ = some (.int .i64 q.u) ∧ W.cell? ⟨w.heap.size, 4, none⟩ = some (.int .i64 q.r) ∧ W.cell? ⟨w.heap.size, 5, none⟩ = some (.int .i64 q.c) ∧ W.cell? ⟨w.heap.size, 6, none⟩ = some (.int .u32 x) ∧ W.cell? ⟨w1.heap.size, 0, none⟩ = some (.int .u16 T) ∧ W.cell? ⟨w1.heap.size, 1, none⟩ = some (.int .u16 U) ∧ W.cell? ⟨w1.heap.size, 2, none⟩ = some (.int .u16 R))) := fun W hW => by
    have z1 := hW.blk kB (fun hb => by have := HLT.out _ hb; omega)
    have z2 := hW.blk kK (fun hb => by have := HLT.out _ hb; omega)
    exact ⟨blk_cell z1 rfl, blk_cell z1 rfl, blk_cell z1 rfl, blk_cell z1 rfl, blk_cell z1 rfl, blk_cell z1 rfl, blk_cell z2 rfl, blk_cell z2 rfl, blk_cell z2 rfl⟩
  have tK := blk_cell (i := 0) kB rfl
  have HCB : Hid (Chg [] w wB) := cB
  have HFB : Hid (FullAt wB g s now Ds) := HF.out.chg cB (by simp)
  clear hwB k1 kB kK c1 q1
  obtain ⟨t1, t2, t3, t4, t5, t6, u0, u1, u2⟩ := HS.out wB (Chg.refl _ _)
  have hkw := HWB.out
  have sB := cB.size
  clear cB
  have y0 : Chg (g.all s) wB wB.drew := (Chg.refl _ _).drew
  go_upto_region 4 with fail
  go_cut [7, 8] (fun s7 s8 wx => ∃ b : Nat, s7 = .pointer (some ⟨b, 0, none⟩) ∧ s8 = .int .i64 0 ∧ wx.heap[b]? = some (.cells [.int .i64 st, .int .i64 lv, .int .u64 rt].toArray 42 (0, 0)) ∧ FullAt wx g s now (fun j => if j = i then D' else Ds j) ∧ Stp w wx g s s)
  case first =>
    go_region_held3 (fun W => W.cell? ⟨w.heap.size, 1, none⟩ = some (.int .i64 q.a) ∧ W.cell? ⟨w.heap.size, 2, none⟩ = some (.int .i64 q.t) ∧ W.cell? ⟨w.heap.size, 3, none⟩ = some (.int .i64 q.u) ∧ W.cell? ⟨w.heap.size, 4, none⟩ = some (.int .i64 q.r) ∧ W.cell? ⟨w.heap.size, 5, none⟩ = some (.int .i64 q.c) ∧ W.cell? ⟨w.heap.size, 6, none⟩ = some (.int .u32 x) ∧ W.cell? ⟨w1.heap.size, 0, none⟩ = some (.int .u16 T) ∧ W.cell? ⟨w1.heap.size, 1, none⟩ = some (.int .u16 U) ∧ W.cell? ⟨w1.heap.size, 2, none⟩ = some (.int .u16 R))
      (first | with_reducible exact HS.out _ y5 | with_reducible exact HS.out _ y4 | with_reducible exact HS.out _ y0 | with_reducible exact HS.out _ (Chg.alloc y4 _) | with_reducible exact HS.out _ (Chg.drew (Chg.alloc (Chg.refl _ _) _)) | with_reducible exact HS.out _ (Chg.alloc y5 _) | with_reducible exact HS.out _ (Chg.set (Chg.set (Chg.set y5 _ _ (Or.inr (by dsimp only; omega))) _ _ (Or.inr (by dsimp only; omega))) _ _ (Or.inr (by dsimp only; omega))))
      (first | (go_at_call 16; refine (HCo.out _).mono ?_; rintro e w4 ⟨rfl, q4⟩; have c4 : Chg [] wB w4 := (by first | exact ((Chg.refl [] wB).drew).trans q4 (by simp) | exact (((Chg.refl [] wB).alloc _).drew).trans q4 (by simp)); have y4 : Chg (g.all s) wB w4 := c4.mono (by simp); have s4 := c4.size; (try have z4 : w4.heap[wB.heap.size]? = some (.cells [.int .i64 0, .int .i64 0, .int .u64 0].toArray 42 (0, 0)) := q4.blk (b := wB.heap.size) (heap_alloc_new wB _) (by simp))) | (go_at_call 20; refine (HAll.out _ ?_).mono ?_; (first | exact HFB.out.chg c4 (by simp) | exact HFB.out.chg (c4.alloc _) (by simp)); rintro e w5 ⟨rfl, p5, f5⟩; have y5 : Chg (g.all s) wB w5 := (by first | exact y4.trans f5.chg (fun j hj => Or.inl hj) | exact (y4.alloc _).trans f5.chg (fun j hj => Or.inl hj)); have HZ : Hid _ := And.intro p5 f5; clear p5; have s5 := y5.size; (try have z5 : w5.heap[wB.heap.size]? = some (.cells [.int .i64 0, .int .i64 0, .int .u64 0].toArray 42 (0, 0)) := f5.chg.blk z4 (fun hb => by have := HLT.out _ hb; omega)); (try have z5 : w5.heap[w4.heap.size]? = some (.cells [.int .i64 0, .int .i64 0, .int .u64 0].toArray 42 (0, 0)) := f5.chg.blk (b := w4.heap.size) (heap_alloc_new w4 _) (fun hb => by have := HLT.out _ hb; omega)); (try (have z50 := blk_cell (i := 0) z5 rfl; have z51 := blk_cell (i := 1) z5 rfl; have z52 := blk_cell (i := 2) z5 rfl; have z5f := fun i => blk_free (i := i) z5))))
    · go_wp2
      go_meet
      case rel =>
        exact ⟨w5.heap.size, rfl, rfl, heap_alloc_new w5 _, HZ.out.1.chg ((Chg.refl [] _).alloc _) (by simp), ⟨((HCB.out.mono (by simp)).trans y5 (fun j hj => Or.inl hj)).alloc _, fun b hb => Or.inl hb⟩⟩
    · go_wp2
      go_meet
      case rel =>
        have hz := lt_of_block z5
        have rr := blk_set (i := 2) (.int .u64 rt) (blk_set (i := 1) (.int .i64 lv) (blk_set (i := 0) (.int .i64 st) z5))
        have cc := ((((Chg.refl [w4.heap.size] w5)).set ⟨w4.heap.size, 0, none⟩ (.int .i64 st) (Or.inl (by simp))).set ⟨w4.heap.size, 1, none⟩ (.int .i64 lv) (Or.inl (by simp))).set ⟨w4.heap.size, 2, none⟩ (.int .u64 rt) (Or.inl (by simp))
        exact ⟨w4.heap.size, rfl, rfl, rr, HZ.out.1.chg cc (fun b hb => by simp; intro e; have := HLT.out _ hb; omega), ⟨((HCB.out.mono (by simp)).trans y5 (fun j hj => Or.inl hj)).trans cc (fun j hj => by simp at hj; exact Or.inr (by omega)), fun b hb => Or.inl hb⟩⟩
    · go_wp2
      go_meet
      case rel =>
        have hz := lt_of_block z5
        have rr := blk_set (i := 2) (.int .u64 rt) (blk_set (i := 1) (.int .i64 lv) (blk_set (i := 0) (.int .i64 st) z5))
        have cc := ((((Chg.refl [wB.heap.size] w5)).set ⟨wB.heap.size, 0, none⟩ (.int .i64 st) (Or.inl (by simp))).set ⟨wB.heap.size, 1, none⟩ (.int .i64 lv) (Or.inl (by simp))).set ⟨wB.heap.size, 2, none⟩ (.int .u64 rt) (Or.inl (by simp))
        exact ⟨wB.heap.size, rfl, rfl, rr, HZ.out.1.chg cc (fun b hb => by simp; intro e; have := HLT.out _ hb; omega), ⟨((HCB.out.mono (by simp)).trans y5 (fun j hj => Or.inl hj)).trans cc (fun j hj => by simp at hj; exact Or.inr (by omega)), fun b hb => Or.inl hb⟩⟩
  case rest =>
    obtain ⟨bq, rfl, rfl, hq1, hf1, hs1⟩ := hcut
    have p0 := blk_cell (i := 0) hq1 rfl
    have p1 := blk_cell (i := 1) hq1 rfl
    have p2 := blk_cell (i := 2) hq1 rfl
    have HSQ : Hid (∀ W, Chg [] wc W → (W.cell? ⟨bq, 0, none⟩ = some (.int .i64 st) ∧ W.cell? ⟨bq, 1, none⟩ = some (.int .i64 lv) ∧ W.cell? ⟨bq, 2, none⟩ = some (.int .u64 rt))) := fun W hW => by
      have z := hW.blk hq1 (by simp)
      exact ⟨blk_cell z rfl, blk_cell z rfl, blk_cell z rfl⟩
    have HF1 : Hid _ := hf1
    have HS1 : Hid _ := hs1
    have vv : Chg [] wc wc.drew := (Chg.refl _ _).drew
    clear hf1 hs1 hq1 HS HAll HKy HCo t1 t2 t3 t4 t5 t6 u0 u1 u2
    go_upto_region 5 with fail
    go_region_held3 (fun W => W.cell? ⟨bq, 0, none⟩ = some (.int .i64 st) ∧ W.cell? ⟨bq, 1, none⟩ = some (.int .i64 lv) ∧ W.cell? ⟨bq, 2, none⟩ = some (.int .u64 rt))
      (first | with_reducible exact HSQ.out _ vv)
      (first | (go_at_call 48; with_reducible refine (HSt.out _).mono ?_; rintro e wd ⟨rfl, qd⟩; have vv := vv.trans qd (by simp)) | (go_at_call 48; with_reducible refine (HLv.out _).mono ?_; rintro e wd ⟨rfl, qd⟩; have vv := vv.trans qd (by simp)) | (go_at_call 48; with_reducible refine (HRt.out _).mono ?_; rintro e wd ⟨rfl, qd⟩; have vv := vv.trans qd (by simp)))
    go_wp2
    go_ret2
    exact ⟨sv (be st 1 ++ be lv 1 ++ be rt 8), rfl, HF1.out.chg vv (by simp), ⟨HS1.out.chg.trans vv (by simp), HS1.out.new⟩, by rw [be_one hbd.1, be_one hbd.2.1]; rfl⟩

set_option maxRecDepth 100000 in
set_option maxHeartbeats 2000000 in
theorem called2 (g : St) (s : Qs) (now : Int) (Ds : Nat → DW) (q : Rq) (x : Int) (tx : ByteArray) (w : World) (h : FullAt w g s now Ds) (H : MS g s now Ds) (hq : q.Ok) (hx : 0 ≤ x ∧ x < 4294967296) : Calls Try.prog 29 #[.pointer (some ⟨g.mb, 0, none⟩), .agg #[.int .i64 2, .int .i64 q.a, .int .i64 q.t, .int .i64 q.u, .int .i64 q.r, .int .i64 q.c, .int .u32 x, .string tx]] w fun e w' => ∃ a, e = .returned (.tuple #[a, .bool true]) ∧ SubP w w' g s now Ds (pk q.t 3) x a := by
  have HB1 : Hid (∀ (n : Int) W, 0 ≤ n → n ≤ 18446744073709551615 → Calls Try.prog 48 #[.int .u64 n, .int .i64 1] W fun e w' => e = .returned (sv (be n 1)) ∧ Chg [] W w') := fun n W h2 h3 => bytes_any 1 n W (by decide) h2 h3
  have HB2 : Hid (∀ (n : Int) W, 0 ≤ n → n ≤ 18446744073709551615 → Calls Try.prog 48 #[.int .u64 n, .int .i64 2] W fun e w' => e = .returned (sv (be n 2)) ∧ Chg [] W w') := fun n W h2 h3 => bytes_any 2 n W (by decide) h2 h3
  have HB4 : Hid (∀ (n : Int) W, 0 ≤ n → n ≤ 18446744073709551615 → Calls Try.prog 48 #[.int .u64 n, .int .i64 4] W fun e w' => e = .returned (sv (be n 4)) ∧ Chg [] W w') := fun n W h2 h3 => bytes_any 4 n W (by decide) h2 h3
  have HB8 : Hid (∀ (n : Int) W, 0 ≤ n → n ≤ 18446744073709551615 → Calls Try.prog 48 #[.int .u64 n, .int .i64 8] W fun e w' => e = .returned (sv (be n 8)) ∧ Chg [] W w') := fun n W h2 h3 => bytes_any 8 n W (by decide) h2 h3
  have HKy : Hid (∀ W, Calls Try.prog 15 #[.agg #[.int .i64 q.a, .int .i64 q.t, .int .i64 q.u, .int .i64 q.r, .int .i64 q.c]] W fun e w' => e = .returned (.agg #[.int .u16 (pk q.t 3), .int .u16 (pk q.u 2), .int .u16 (pk q.r 2)]) ∧ Chg [] W w') := fun W => key_any q.a q.t q.u q.r q.c W hq.2.1 hq.2.2.1 hq.2.2.2.1
  have HCo : Hid (∀ W, Calls Try.prog 16 #[.agg #[.int .i64 q.a, .int .i64 q.t, .int .i64 q.u, .int .i64 q.r, .int .i64 q.c]] W fun e w' => e = .returned (.int .i64 (1 + pk q.c 4)) ∧ Chg [] W w') := fun W => cost_any q.a q.t q.u q.r q.c W hq.2.2.2.2
  have HWa : Hid (∀ W, Calls Try.prog 13 #[.agg #[.int .i64 q.a, .int .i64 q.t, .int .i64 q.u, .int .i64 q.r, .int .i64 q.c]] W fun e w' => e = .returned (.int .i64 (pk q.a 30)) ∧ Chg [] W w') := fun W => wait_any q.a q.t q.u q.r q.c W hq.1
  have HPc : Hid (∀ W, Calls Try.prog 19 #[.int .i64 q.c, .int .i64 4] W fun e w' => e = .returned (.int .i64 (pk q.c 4)) ∧ w' = W) := fun W => pick_any q.c 4 W hq.2.2.2.2.1 hq.2.2.2.2.2 (by decide) (by decide)
  have pt := pk_bd q.t 3 (by decide)
  have pu := pk_bd q.u 2 (by decide)
  have pr := pk_bd q.r 2 (by decide)
  have pc := pk_bd q.c 4 (by decide)
  have pa := pk_bd q.a 30 (by decide)
  have fT : (Lit.int .u16 (pk q.t 3)).wf = true := wf16 (by decide) (by decide)
  have fU : (Lit.int .u16 (pk q.u 2)).wf = true := wf16 (by decide) (by decide)
  have fR : (Lit.int .u16 (pk q.r 2)).wf = true := wf16 (by decide) (by decide)
  generalize pk q.t 3 = T at *
  generalize pk q.u 2 = U at *
  generalize pk q.r 2 = R at *
  generalize pk q.c 4 = C at *
  generalize pk q.a 30 = A at *
  have hbs := ba_size
  have hbl := be_len
  have hba := ba_add
  have HF : Hid (FullAt w g s now Ds) := h
  have HH : Hid (MS g s now Ds) := H
  have HLT : Hid (∀ b ∈ g.all s, b < w.heap.size) := h.lt
  clear h H hq
  go_enter Try.func29, Try.ntmps29
  go_wp2_with fail
  refine (HKy.out _).mono ?_
  rintro e w1 ⟨rfl, q1⟩
  have k1 : w1.heap[w.heap.size]? = some (.cells [.int .i64 2, .int .i64 q.a, .int .i64 q.t, .int .i64 q.u, .int .i64 q.r, .int .i64 q.c, .int .u32 x, .string tx].toArray 80 (0, 0)) := q1.blk (heap_alloc_new w _) (by simp)
  have c1 : Chg [] w w1 := ((Chg.refl [] w).alloc _).trans q1 (by simp)
  have kB := blk_alloc k1 (.cells [.int .u16 T, .int .u16 U, .int .u16 R].toArray 47)
  have kK := heap_alloc_new w1 (.cells [.int .u16 T, .int .u16 U, .int .u16 R].toArray 47)
  have cB := c1.alloc (.cells [.int .u16 T, .int .u16 U, .int .u16 R].toArray 47)
  obtain ⟨wB, hwB⟩ : ∃ wB, wB = w1.alloc (.cells [.int .u16 T, .int .u16 U, .int .u16 R].toArray 47) := ⟨_, rfl⟩
  rw [← hwB] at kB kK cB
  have HWB : Hid (w1.alloc (.cells [.int .u16 T, .int .u16 U, .int .u16 R].toArray 47) = wB) := hwB.symm
  have s1 := c1.size
  have HS : Hid (∀ W, Chg (g.all s) wB W → (W.cell? ⟨w.heap.size, 1, none⟩ = some (.int .i64 q.a) ∧ W.cell? ⟨w.heap.size, 2, none⟩ = some (.int .i64 q.t) ∧ W.cell? ⟨w.heap.size, 3, none⟩ = some (.int .i64 q.u) ∧ W.cell? ⟨w.heap.size, 4, none⟩ = some (.int .i64 q.r) ∧ W.cell? ⟨w.heap.size, 5, none⟩ = some (.int .i64 q.c) ∧ W.cell? ⟨w.heap.size, 6, none⟩ = some (.int .u32 x) ∧ W.cell? ⟨w1.heap.size, 0, none⟩ = some (.int .u16 T) ∧ W.cell? ⟨w1.heap.size, 1, none⟩ = some (.int .u16 U) ∧ W.cell? ⟨w1.heap.size, 2, none⟩ = some (.int .u16 R))) := fun W hW => by
    have z1 := hW.blk kB (fun hb => by have := HLT.out _ hb; omega)
    have z2 := hW.blk kK (fun hb => by have := HLT.out _ hb; omega)
    exact ⟨blk_cell z1 rfl, blk_cell z1 rfl, blk_cell z1 rfl, blk_cell z1 rfl, blk_cell z1 rfl, blk_cell z1 rfl, blk_cell z2 rfl, blk_cell z2 rfl, blk_cell z2 rfl⟩
  have tK := blk_cell (i := 0) kB rfl
  have HCB : Hid (Chg [] w wB) := cB
  have HFB : Hid (FullAt wB g s now Ds) := HF.out.chg cB (by simp)
  clear hwB k1 kB kK c1 q1
  obtain ⟨t1, t2, t3, t4, t5, t6, u0, u1, u2⟩ := HS.out wB (Chg.refl _ _)
  have hkw := HWB.out
  have sB := cB.size
  clear cB
  have HSB : Hid (∀ W, FullAt W g s now Ds → Calls Try.prog 25 #[.pointer (some ⟨g.mb, 0, none⟩), .int .u16 T, .int .u32 x] W fun e w' => ∃ (s' : Qs) (st d : Int), e = .returned (.tuple #[.int .i64 st, .int .u64 d]) ∧ ((0 ≤ st ∧ st < 256) ∧ 0 ≤ d ∧ d ≤ 18446744073709551615) ∧ FullAt w' g s' now Ds ∧ Stp W w' g s s' ∧ SameQ s s' ∧ s'.n ≤ s.n + 1 ∧ s'.es.length ≤ s.es.length + 1 ∧ Sub s s' T x now (.returned (.tuple #[.int .i64 st, .int .u64 d]))) := fun W hW => FSubmit T x hW HH.out fT
  go_wp2_with fail
  refine (HSB.out _ HFB.out).mono ?_
  rintro e w2 ⟨s', st, d, rfl, hbd, z1, z2, z3⟩
  have wst : IntKind.u64.wrap st = st := by rw [IntKind.wrap_u64]; omega
  have HZ : Hid (FullAt w2 g s' now Ds ∧ Stp wB w2 g s s' ∧ SameQ s s' ∧ s'.n ≤ s.n + 1 ∧ s'.es.length ≤ s.es.length + 1 ∧ Sub s s' T x now (.returned (.tuple #[.int .i64 st, .int .u64 d]))) := ⟨z1, z2, z3⟩
  clear z1 z2 z3 HS
  go_wp2_with fail
  refine (HB1.out _ _ (by omega) (by omega)).mono ?_
  rintro e w3 ⟨rfl, q3⟩
  go_wp2_with fail
  refine (HB8.out _ _ (by omega) (by omega)).mono ?_
  rintro e w4 ⟨rfl, q4⟩
  have q5 : Chg [] w2 w4 := q3.trans q4 (by simp)
  go_wp2
  go_ret2
  obtain ⟨z1, z2, z3, z4, z5, z6⟩ := HZ.out
  exact ⟨sv (be st 1 ++ be d 8), rfl, s', st, d, z1.chg q5 (by simp), Stp.chain HCB.out z2 q5, z3, z4, z5, z6, by rw [be_one hbd.1]⟩

set_option maxRecDepth 100000 in
set_option maxHeartbeats 2000000 in
theorem called3 (g : St) (s : Qs) (now : Int) (Ds : Nat → DW) (q : Rq) (x : Int) (tx : ByteArray) (w : World) (h : FullAt w g s now Ds) (H : MS g s now Ds) (hq : q.Ok) (hx : 0 ≤ x ∧ x < 4294967296) : Calls Try.prog 29 #[.pointer (some ⟨g.mb, 0, none⟩), .agg #[.int .i64 3, .int .i64 q.a, .int .i64 q.t, .int .i64 q.u, .int .i64 q.r, .int .i64 q.c, .int .u32 x, .string tx]] w fun e w' => ∃ a, e = .returned (.tuple #[a, .bool true]) ∧ PolP w w' g s now Ds (pk q.c 4) a := by
  have HB1 : Hid (∀ (n : Int) W, 0 ≤ n → n ≤ 18446744073709551615 → Calls Try.prog 48 #[.int .u64 n, .int .i64 1] W fun e w' => e = .returned (sv (be n 1)) ∧ Chg [] W w') := fun n W h2 h3 => bytes_any 1 n W (by decide) h2 h3
  have HB2 : Hid (∀ (n : Int) W, 0 ≤ n → n ≤ 18446744073709551615 → Calls Try.prog 48 #[.int .u64 n, .int .i64 2] W fun e w' => e = .returned (sv (be n 2)) ∧ Chg [] W w') := fun n W h2 h3 => bytes_any 2 n W (by decide) h2 h3
  have HB4 : Hid (∀ (n : Int) W, 0 ≤ n → n ≤ 18446744073709551615 → Calls Try.prog 48 #[.int .u64 n, .int .i64 4] W fun e w' => e = .returned (sv (be n 4)) ∧ Chg [] W w') := fun n W h2 h3 => bytes_any 4 n W (by decide) h2 h3
  have HB8 : Hid (∀ (n : Int) W, 0 ≤ n → n ≤ 18446744073709551615 → Calls Try.prog 48 #[.int .u64 n, .int .i64 8] W fun e w' => e = .returned (sv (be n 8)) ∧ Chg [] W w') := fun n W h2 h3 => bytes_any 8 n W (by decide) h2 h3
  have HKy : Hid (∀ W, Calls Try.prog 15 #[.agg #[.int .i64 q.a, .int .i64 q.t, .int .i64 q.u, .int .i64 q.r, .int .i64 q.c]] W fun e w' => e = .returned (.agg #[.int .u16 (pk q.t 3), .int .u16 (pk q.u 2), .int .u16 (pk q.r 2)]) ∧ Chg [] W w') := fun W => key_any q.a q.t q.u q.r q.c W hq.2.1 hq.2.2.1 hq.2.2.2.1
  have HCo : Hid (∀ W, Calls Try.prog 16 #[.agg #[.int .i64 q.a, .int .i64 q.t, .int .i64 q.u, .int .i64 q.r, .int .i64 q.c]] W fun e w' => e = .returned (.int .i64 (1 + pk q.c 4)) ∧ Chg [] W w') := fun W => cost_any q.a q.t q.u q.r q.c W hq.2.2.2.2
  have HWa : Hid (∀ W, Calls Try.prog 13 #[.agg #[.int .i64 q.a, .int .i64 q.t, .int .i64 q.u, .int .i64 q.r, .int .i64 q.c]] W fun e w' => e = .returned (.int .i64 (pk q.a 30)) ∧ Chg [] W w') := fun W => wait_any q.a q.t q.u q.r q.c W hq.1
  have HPc : Hid (∀ W, Calls Try.prog 19 #[.int .i64 q.c, .int .i64 4] W fun e w' => e = .returned (.int .i64 (pk q.c 4)) ∧ w' = W) := fun W => pick_any q.c 4 W hq.2.2.2.2.1 hq.2.2.2.2.2 (by decide) (by decide)
  have pt := pk_bd q.t 3 (by decide)
  have pu := pk_bd q.u 2 (by decide)
  have pr := pk_bd q.r 2 (by decide)
  have pc := pk_bd q.c 4 (by decide)
  have pa := pk_bd q.a 30 (by decide)
  have fT : (Lit.int .u16 (pk q.t 3)).wf = true := wf16 (by decide) (by decide)
  have fU : (Lit.int .u16 (pk q.u 2)).wf = true := wf16 (by decide) (by decide)
  have fR : (Lit.int .u16 (pk q.r 2)).wf = true := wf16 (by decide) (by decide)
  generalize pk q.t 3 = T at *
  generalize pk q.u 2 = U at *
  generalize pk q.r 2 = R at *
  generalize pk q.c 4 = C at *
  generalize pk q.a 30 = A at *
  have hbs := ba_size
  have hbl := be_len
  have hba := ba_add
  have HF : Hid (FullAt w g s now Ds) := h
  have HH : Hid (MS g s now Ds) := H
  have HLT : Hid (∀ b ∈ g.all s, b < w.heap.size) := h.lt
  clear h H hq
  have HPo : Hid (∀ W, Chg [] w W → Calls Try.prog 26 #[.pointer (some ⟨g.mb, 0, none⟩), .int .i64 C] W fun e w' => ∃ (ws : List It) (v : Value), e = .returned v ∧ Rw w' 75 3 v ws.length (icells ws) ∧ IWf ws ∧ ws.length ≤ 100 ∧ ∀ W', Chg [] w' W' → PolP w W' g s now Ds C (sv (bl [3, (ws.length : Int)] ++ ib ws))) := fun W hW => by
    refine (FPoll C (HF.out.chg hW (by simp)) HH.out (by omega) (by omega)).mono ?_
    rintro e w' ⟨s', k, v, rfl, z1, z2, z3, z4, z5, z6, z7, z8, z9⟩
    have hkl : (s.ws.take k).length = k := by rw [List.length_take]; have := z8.le; omega
    have h100 := HH.out.ws
    have hle := z8.le
    refine ⟨s.ws.take k, v, rfl, by rw [hkl]; exact z9, fun y hy => HH.out.wf y (List.mem_of_mem_take hy), by omega, fun W' hW' => ⟨s', k, z1.chg hW' (by simp), Stp.chain hW z2 hW', z3, z4, z5, z6, z7, z8, by rw [hkl]⟩⟩
  go_enter Try.func29, Try.ntmps29
  go_wp2_with fail
  refine (HKy.out _).mono ?_
  rintro e w1 ⟨rfl, q1⟩
  have k1 : w1.heap[w.heap.size]? = some (.cells [.int .i64 3, .int .i64 q.a, .int .i64 q.t, .int .i64 q.u, .int .i64 q.r, .int .i64 q.c, .int .u32 x, .string tx].toArray 80 (0, 0)) := q1.blk (heap_alloc_new w _) (by simp)
  have c1 : Chg [] w w1 := ((Chg.refl [] w).alloc _).trans q1 (by simp)
  have kB := blk_alloc k1 (.cells [.int .u16 T, .int .u16 U, .int .u16 R].toArray 47)
  have kK := heap_alloc_new w1 (.cells [.int .u16 T, .int .u16 U, .int .u16 R].toArray 47)
  have cB := c1.alloc (.cells [.int .u16 T, .int .u16 U, .int .u16 R].toArray 47)
  obtain ⟨wB, hwB⟩ : ∃ wB, wB = w1.alloc (.cells [.int .u16 T, .int .u16 U, .int .u16 R].toArray 47) := ⟨_, rfl⟩
  rw [← hwB] at kB kK cB
  have HWB : Hid (w1.alloc (.cells [.int .u16 T, .int .u16 U, .int .u16 R].toArray 47) = wB) := hwB.symm
  have s1 := c1.size
  have HS : Hid (∀ W, Chg (g.all s) wB W → (W.cell? ⟨w.heap.size, 1, none⟩ = some (.int .i64 q.a) ∧ W.cell? ⟨w.heap.size, 2, none⟩ = some (.int .i64 q.t) ∧ W.cell? ⟨w.heap.size, 3, none⟩ = some (.int .i64 q.u) ∧ W.cell? ⟨w.heap.size, 4, none⟩ = some (.int .i64 q.r) ∧ W.cell? ⟨w.heap.size, 5, none⟩ = some (.int .i64 q.c) ∧ W.cell? ⟨w.heap.size, 6, none⟩ = some (.int .u32 x) ∧ W.cell? ⟨w1.heap.size, 0, none⟩ = some (.int .u16 T) ∧ W.cell? ⟨w1.heap.size, 1, none⟩ = some (.int .u16 U) ∧ W.cell? ⟨w1.heap.size, 2, none⟩ = some (.int .u16 R))) := fun W hW => by
    have z1 := hW.blk kB (fun hb => by have := HLT.out _ hb; omega)
    have z2 := hW.blk kK (fun hb => by have := HLT.out _ hb; omega)
    exact ⟨blk_cell z1 rfl, blk_cell z1 rfl, blk_cell z1 rfl, blk_cell z1 rfl, blk_cell z1 rfl, blk_cell z1 rfl, blk_cell z2 rfl, blk_cell z2 rfl, blk_cell z2 rfl⟩
  have tK := blk_cell (i := 0) kB rfl
  have HCB : Hid (Chg [] w wB) := cB
  have HFB : Hid (FullAt wB g s now Ds) := HF.out.chg cB (by simp)
  clear hwB k1 kB kK c1 q1
  obtain ⟨t1, t2, t3, t4, t5, t6, u0, u1, u2⟩ := HS.out wB (Chg.refl _ _)
  have hkw := HWB.out
  have sB := cB.size
  clear cB
  go_wp2_with fail
  refine (HPc.out _).mono ?_
  rintro e wB ⟨rfl, rfl⟩
  go_wp2_with fail
  refine (HPo.out _ HCB.out).mono ?_
  rintro e w2 ⟨ws, v, rfl, hr, hw, hl, hfin⟩
  obtain ⟨bs, cp, hv⟩ := hr.val
  have HR : Hid (Rw w2 75 3 v ws.length (icells ws)) := hr
  have HW : Hid (IWf ws) := hw
  have HFN : Hid (∀ W', Chg [] w2 W' → PolP w W' g s now Ds C (sv (bl [3, (ws.length : Int)] ++ ib ws))) := hfin
  have wln : IntKind.u64.wrap (ws.length : Int) = (ws.length : Int) := by rw [IntKind.wrap_u64]; omega
  subst hv
  clear hr hw hfin HS HKy HCo HWa HPo HPc t1 t2 t3 t4 t5 t6 u0 u1 u2
  go_wp2_with fail
  refine (HB1.out _ _ (by omega) (by omega)).mono ?_
  rintro e w3 ⟨rfl, q3⟩
  have HQ3 : Hid (Chg [] w2 w3) := q3
  have HB0 : Hid (be (ws.length : Int) 1 = bl [(ws.length : Int)]) := be_one ⟨by omega, by omega⟩
  clear q3
  go_wp2_with fail
  go_loopw [12, 13] (fun tv ix wr => ∃ j : Nat, j ≤ ws.length ∧ tv = sv (3 :: (be (ws.length : Int) 1 ++ ib (ws.take j))) ∧ ix = .int .i64 j ∧ Chg [] w2 wr) (fun _ ix _ => ws.length - (intOf ix).toNat)
  case atStart => exact ⟨0, by omega, by simp [ib], rfl, HQ3.out⟩
  case round =>
    obtain ⟨j, hj, rfl, rfl, hch⟩ := hrel
    by_cases hlt : j < ws.length
    · rcases HR.out.2.2 with ⟨_, hz⟩ | ⟨b, cap, P, R', hv, hg, _⟩
      · omega
      · injection hv with e1 e2 e3
        subst e1 e3
        clear e2
        have hgr := hch.blk hg (by simp)
        have hat := ic_at ws j hlt
        have hy := HW.out _ (List.getElem_mem hlt)
        have HTK : Hid (ib (ws.take (j + 1)) = ib (ws.take j) ++ be ws[j].t 2 ++ be ws[j].x 4 ++ be ws[j].d 8) := ib_take ws j hlt
        generalize ws[j] = y at *
        obtain ⟨yt, yx, yd⟩ := y
        simp only at hat hy
        have HSR : Hid (∀ W, Chg [] wr W → (W.cell? ⟨b, P.length + j * 3, none⟩ = some (.int .u16 yt) ∧ W.cell? ⟨b, P.length + j * 3 + 1, none⟩ = some (.int .u32 yx) ∧ W.cell? ⟨b, P.length + j * 3 + 2, none⟩ = some (.int .u64 yd))) := fun W hW => by
          have hgW := hW.blk hgr (by simp)
          exact ⟨Rw.cell (n := 0) (sz := 0) hgW hat.1, by rw [Nat.add_assoc]; exact Rw.cell (n := 0) (sz := 0) hgW hat.2.1, by rw [Nat.add_assoc]; exact Rw.cell (n := 0) (sz := 0) hgW hat.2.2⟩
        obtain ⟨d0, d1, d2⟩ := HSR.out wr (Chg.refl _ _)
        have hjj : (j : Int) < (ws.length : Int) := by omega
        have hw1 : IntKind.u64.wrap yt = yt := by rw [IntKind.wrap_u64]; omega
        have hw2 : IntKind.u64.wrap yx = yx := by rw [IntKind.wrap_u64]; omega
        obtain ⟨Y1, hY1⟩ : ∃ Y : ByteArray, Y = ⟨(be yt 2).toArray⟩ := ⟨_, rfl⟩
        obtain ⟨Y2, hY2⟩ : ∃ Y : ByteArray, Y = ⟨(be yx 4).toArray⟩ := ⟨_, rfl⟩
        obtain ⟨Y3, hY3⟩ : ∃ Y : ByteArray, Y = ⟨(be yd 8).toArray⟩ := ⟨_, rfl⟩
        obtain ⟨F, hF⟩ : ∃ Y : ByteArray, Y = ⟨(3 :: (be (ws.length : Int) 1 ++ ib (ws.take j))).toArray⟩ := ⟨_, rfl⟩
        have HYt : Hid (∀ W, Calls Try.prog 48 #[.int .u64 yt, .int .i64 2] W fun e w' => e = .returned (.string Y1) ∧ Chg [] W w') := fun W => by rw [hY1]; exact HB2.out yt W (by omega) (by omega)
        have HYx : Hid (∀ W, Calls Try.prog 48 #[.int .u64 yx, .int .i64 4] W fun e w' => e = .returned (.string Y2) ∧ Chg [] W w') := fun W => by rw [hY2]; exact HB4.out yx W (by omega) (by omega)
        have HYd : Hid (∀ W, Calls Try.prog 48 #[.int .u64 yd, .int .i64 8] W fun e w' => e = .returned (.string Y3) ∧ Chg [] W w') := fun W => by rw [hY3]; exact HB8.out yd W (by omega) (by omega)
        have hl1 : Y1.size = 2 := by rw [hY1, ba_size, be_len]
        have hl2 : Y2.size = 4 := by rw [hY2, ba_size, be_len]
        have hl3 : Y3.size = 8 := by rw [hY3, ba_size, be_len]
        have hFl : F.size ≤ 2000 := by rw [hF, ba_size, List.length_cons, List.length_append, be_len, ib_len, List.length_take]; omega
        have m1 : F.size + Y1.size ≤ 9223372036854775807 := by omega
        have m2 : F.size + Y1.size + Y2.size ≤ 9223372036854775807 := by omega
        have m3 : F.size + Y1.size + Y2.size + Y3.size ≤ 9223372036854775807 := by omega
        have A1 : ∀ W : World, (Op.stringOp .add F Y1).run Try.prog W = .ok (.string (F ++ Y1)) W := fun W => run_string_add_sum W F Y1 m1
        have A2 : ∀ W : World, (Op.stringOp .add (F ++ Y1) Y2).run Try.prog W = .ok (.string (F ++ Y1 ++ Y2)) W := fun W => run_string_add_sum W _ Y2 (by rw [ByteArray.size_append]; exact m2)
        have A3 : ∀ W : World, (Op.stringOp .add (F ++ Y1 ++ Y2) Y3).run Try.prog W = .ok (.string (F ++ Y1 ++ Y2 ++ Y3)) W := fun W => run_string_add_sum W _ Y3 (by rw [ByteArray.size_append, ByteArray.size_append]; exact m3)
        have heq : F ++ Y1 ++ Y2 ++ Y3 = ⟨(3 :: (be (ws.length : Int) 1 ++ ib (ws.take (j + 1)))).toArray⟩ := by
          rw [HTK.out, hF, hY1, hY2, hY3, ba_add, ba_add, ba_add]
          simp
        have HEQ : Hid _ := heq
        clear heq
        rw [show sv (3 :: (be (ws.length : Int) 1 ++ ib (ws.take j))) = .string F from by rw [hF]]
        have HCH : Hid _ := hch
        have vv : Chg [] wr wr.drew := (Chg.refl _ _).drew
        clear hF hgr hat hg hch hl1 hl2 hl3 hFl m1 m2 m3 hY1 hY2 hY3 hbs hbl hba
        go_upto_region 15 with fail
        go_region_held3 (fun W => W.cell? ⟨b, P.length + j * 3, none⟩ = some (.int .u16 yt) ∧ W.cell? ⟨b, P.length + j * 3 + 1, none⟩ = some (.int .u32 yx) ∧ W.cell? ⟨b, P.length + j * 3 + 2, none⟩ = some (.int .u64 yd))
          (first | with_reducible exact HSR.out _ vv)
          (first | (go_at_call 48; with_reducible refine (HYt.out _).mono ?_; rintro e wd ⟨rfl, qd⟩; have vv := vv.trans qd (by simp)) | (go_at_call 48; with_reducible refine (HYx.out _).mono ?_; rintro e wd ⟨rfl, qd⟩; have vv := vv.trans qd (by simp)) | (go_at_call 48; with_reducible refine (HYd.out _).mono ?_; rintro e wd ⟨rfl, qd⟩; have vv := vv.trans qd (by simp)))
        go_wp2_with fail
        go_roundw
        case rel => exact ⟨j + 1, by omega, by rw [HEQ.out], by go_num, HCH.out.trans vv (by simp)⟩
        case measure => simp [intOf]; omega
    · have hje : ¬ (j : Int) < (ws.length : Int) := by omega
      have hjl : j = ws.length := by omega
      have HCH : Hid _ := hch
      have HJ : Hid (ws.take j = ws) := by rw [hjl]; exact List.take_length
      clear hch hjl
      go_wp2
      go_ret2
      exact ⟨_, rfl, by rw [HJ.out, HB0.out]; exact HFN.out _ HCH.out⟩

set_option maxRecDepth 100000 in
set_option maxHeartbeats 2000000 in
theorem called4 (g : St) (s : Qs) (now : Int) (Ds : Nat → DW) (q : Rq) (x : Int) (tx : ByteArray) (w : World) (h : FullAt w g s now Ds) (H : MS g s now Ds) (hq : q.Ok) (hx : 0 ≤ x ∧ x < 4294967296) : Calls Try.prog 29 #[.pointer (some ⟨g.mb, 0, none⟩), .agg #[.int .i64 4, .int .i64 q.a, .int .i64 q.t, .int .i64 q.u, .int .i64 q.r, .int .i64 q.c, .int .u32 x, .string tx]] w fun e w' => ∃ a, e = .returned (.tuple #[a, .bool true]) ∧ AdvP w w' g s now Ds (pk q.a 30) a := by
  have HB1 : Hid (∀ (n : Int) W, 0 ≤ n → n ≤ 18446744073709551615 → Calls Try.prog 48 #[.int .u64 n, .int .i64 1] W fun e w' => e = .returned (sv (be n 1)) ∧ Chg [] W w') := fun n W h2 h3 => bytes_any 1 n W (by decide) h2 h3
  have HB2 : Hid (∀ (n : Int) W, 0 ≤ n → n ≤ 18446744073709551615 → Calls Try.prog 48 #[.int .u64 n, .int .i64 2] W fun e w' => e = .returned (sv (be n 2)) ∧ Chg [] W w') := fun n W h2 h3 => bytes_any 2 n W (by decide) h2 h3
  have HB4 : Hid (∀ (n : Int) W, 0 ≤ n → n ≤ 18446744073709551615 → Calls Try.prog 48 #[.int .u64 n, .int .i64 4] W fun e w' => e = .returned (sv (be n 4)) ∧ Chg [] W w') := fun n W h2 h3 => bytes_any 4 n W (by decide) h2 h3
  have HB8 : Hid (∀ (n : Int) W, 0 ≤ n → n ≤ 18446744073709551615 → Calls Try.prog 48 #[.int .u64 n, .int .i64 8] W fun e w' => e = .returned (sv (be n 8)) ∧ Chg [] W w') := fun n W h2 h3 => bytes_any 8 n W (by decide) h2 h3
  have HKy : Hid (∀ W, Calls Try.prog 15 #[.agg #[.int .i64 q.a, .int .i64 q.t, .int .i64 q.u, .int .i64 q.r, .int .i64 q.c]] W fun e w' => e = .returned (.agg #[.int .u16 (pk q.t 3), .int .u16 (pk q.u 2), .int .u16 (pk q.r 2)]) ∧ Chg [] W w') := fun W => key_any q.a q.t q.u q.r q.c W hq.2.1 hq.2.2.1 hq.2.2.2.1
  have HCo : Hid (∀ W, Calls Try.prog 16 #[.agg #[.int .i64 q.a, .int .i64 q.t, .int .i64 q.u, .int .i64 q.r, .int .i64 q.c]] W fun e w' => e = .returned (.int .i64 (1 + pk q.c 4)) ∧ Chg [] W w') := fun W => cost_any q.a q.t q.u q.r q.c W hq.2.2.2.2
  have HWa : Hid (∀ W, Calls Try.prog 13 #[.agg #[.int .i64 q.a, .int .i64 q.t, .int .i64 q.u, .int .i64 q.r, .int .i64 q.c]] W fun e w' => e = .returned (.int .i64 (pk q.a 30)) ∧ Chg [] W w') := fun W => wait_any q.a q.t q.u q.r q.c W hq.1
  have HPc : Hid (∀ W, Calls Try.prog 19 #[.int .i64 q.c, .int .i64 4] W fun e w' => e = .returned (.int .i64 (pk q.c 4)) ∧ w' = W) := fun W => pick_any q.c 4 W hq.2.2.2.2.1 hq.2.2.2.2.2 (by decide) (by decide)
  have pt := pk_bd q.t 3 (by decide)
  have pu := pk_bd q.u 2 (by decide)
  have pr := pk_bd q.r 2 (by decide)
  have pc := pk_bd q.c 4 (by decide)
  have pa := pk_bd q.a 30 (by decide)
  have fT : (Lit.int .u16 (pk q.t 3)).wf = true := wf16 (by decide) (by decide)
  have fU : (Lit.int .u16 (pk q.u 2)).wf = true := wf16 (by decide) (by decide)
  have fR : (Lit.int .u16 (pk q.r 2)).wf = true := wf16 (by decide) (by decide)
  generalize pk q.t 3 = T at *
  generalize pk q.u 2 = U at *
  generalize pk q.r 2 = R at *
  generalize pk q.c 4 = C at *
  generalize pk q.a 30 = A at *
  have hbs := ba_size
  have hbl := be_len
  have hba := ba_add
  have HF : Hid (FullAt w g s now Ds) := h
  have HH : Hid (MS g s now Ds) := H
  have HLT : Hid (∀ b ∈ g.all s, b < w.heap.size) := h.lt
  clear h H hq
  have HAd : Hid (∀ W, FullAt W g s now Ds → Calls Try.prog 21 #[.pointer (some ⟨g.mb, 0, none⟩), .int .i64 A] W fun e w' => e = .returned (.int .i64 0) ∧ FullAt w' g s (min (now + A) 9223372036854775807) Ds ∧ Stp W w' g s s) := fun W hW => FAdvance A hW HH.out (by omega) (by omega)
  have HNw : Hid (∀ W, FullAt W g s (min (now + A) 9223372036854775807) Ds → Calls Try.prog 31 #[.pointer (some ⟨g.mb, 0, none⟩)] W fun e w' => e = .returned (.int .u64 (min (now + A) 9223372036854775807)) ∧ Chg [] W w') := fun W hW => FNow hW
  have HTB : Hid (∀ W, Calls Try.prog 48 #[.int .u64 (min (now + A) 9223372036854775807), .int .i64 8] W fun e w' => e = .returned (sv (be (min (now + A) 9223372036854775807) 8)) ∧ Chg [] W w') := fun W => HB8.out _ W (by have := HH.out.h0; omega) (by omega)
  unfold AdvP
  generalize min (now + A) 9223372036854775807 = tm at *
  go_enter Try.func29, Try.ntmps29
  go_wp2_with fail
  refine (HKy.out _).mono ?_
  rintro e w1 ⟨rfl, q1⟩
  have k1 : w1.heap[w.heap.size]? = some (.cells [.int .i64 4, .int .i64 q.a, .int .i64 q.t, .int .i64 q.u, .int .i64 q.r, .int .i64 q.c, .int .u32 x, .string tx].toArray 80 (0, 0)) := q1.blk (heap_alloc_new w _) (by simp)
  have c1 : Chg [] w w1 := ((Chg.refl [] w).alloc _).trans q1 (by simp)
  have kB := blk_alloc k1 (.cells [.int .u16 T, .int .u16 U, .int .u16 R].toArray 47)
  have kK := heap_alloc_new w1 (.cells [.int .u16 T, .int .u16 U, .int .u16 R].toArray 47)
  have cB := c1.alloc (.cells [.int .u16 T, .int .u16 U, .int .u16 R].toArray 47)
  obtain ⟨wB, hwB⟩ : ∃ wB, wB = w1.alloc (.cells [.int .u16 T, .int .u16 U, .int .u16 R].toArray 47) := ⟨_, rfl⟩
  rw [← hwB] at kB kK cB
  have HWB : Hid (w1.alloc (.cells [.int .u16 T, .int .u16 U, .int .u16 R].toArray 47) = wB) := hwB.symm
  have s1 := c1.size
  have HS : Hid (∀ W, Chg (g.all s) wB W → (W.cell? ⟨w.heap.size, 1, none⟩ = some (.int .i64 q.a) ∧ W.cell? ⟨w.heap.size, 2, none⟩ = some (.int .i64 q.t) ∧ W.cell? ⟨w.heap.size, 3, none⟩ = some (.int .i64 q.u) ∧ W.cell? ⟨w.heap.size, 4, none⟩ = some (.int .i64 q.r) ∧ W.cell? ⟨w.heap.size, 5, none⟩ = some (.int .i64 q.c) ∧ W.cell? ⟨w.heap.size, 6, none⟩ = some (.int .u32 x) ∧ W.cell? ⟨w1.heap.size, 0, none⟩ = some (.int .u16 T) ∧ W.cell? ⟨w1.heap.size, 1, none⟩ = some (.int .u16 U) ∧ W.cell? ⟨w1.heap.size, 2, none⟩ = some (.int .u16 R))) := fun W hW => by
    have z1 := hW.blk kB (fun hb => by have := HLT.out _ hb; omega)
    have z2 := hW.blk kK (fun hb => by have := HLT.out _ hb; omega)
    exact ⟨blk_cell z1 rfl, blk_cell z1 rfl, blk_cell z1 rfl, blk_cell z1 rfl, blk_cell z1 rfl, blk_cell z1 rfl, blk_cell z2 rfl, blk_cell z2 rfl, blk_cell z2 rfl⟩
  have tK := blk_cell (i := 0) kB rfl
  have HCB : Hid (Chg [] w wB) := cB
  have HFB : Hid (FullAt wB g s now Ds) := HF.out.chg cB (by simp)
  clear hwB k1 kB kK c1 q1
  obtain ⟨t1, t2, t3, t4, t5, t6, u0, u1, u2⟩ := HS.out wB (Chg.refl _ _)
  have hkw := HWB.out
  have sB := cB.size
  clear cB
  go_wp2_with fail
  refine (HWa.out _).mono ?_
  rintro e w2 ⟨rfl, q2⟩
  have HF2 : Hid (FullAt w2 g s now Ds) := HFB.out.chg q2 (by simp)
  have HC2 : Hid (Chg [] w w2) := HCB.out.trans q2 (by simp)
  clear q2 HS
  go_wp2_with fail
  refine (HAd.out _ HF2.out).mono ?_
  rintro e w3 ⟨rfl, z1, z2⟩
  have HZ : Hid (FullAt w3 g s tm Ds ∧ Stp w2 w3 g s s) := ⟨z1, z2⟩
  clear z1 z2
  go_wp2_with fail
  refine (HNw.out _ HZ.out.1).mono ?_
  rintro e w4 ⟨rfl, q4⟩
  go_wp2_with fail
  refine (HTB.out _).mono ?_
  rintro e w5 ⟨rfl, q5⟩
  have q6 : Chg [] w3 w5 := q4.trans q5 (by simp)
  go_wp2
  go_ret2
  exact ⟨sv (bl [4] ++ be tm 8), rfl, HZ.out.1.chg q6 (by simp), Stp.chain HC2.out HZ.out.2 q6, rfl⟩
end Go.Proofs.Ytbdnhllhdjepcaa
