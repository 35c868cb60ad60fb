import Derived.Test.YtbdnhllhdjepcaaSpw
namespace Go.Proofs.Ytbdnhllhdjepcaa
set_option linter.unusedVariables false
set_option linter.unusedSimpArgs false
open Go.RowKit Go.Maps

set_option maxRecDepth 100000 in
set_option maxHeartbeats 8000000 in
theorem spaced_any (every delay queue : Int) (la : Option Addr) (lb lof len cap : Nat) (w : World) (he : I64 every) (hd : I64 delay) (hq : I64 queue) (hlen : len ≤ 9223372036854775807) (hla : 0 < len → la = some ⟨lb, lof, none⟩ ∧ lb < w.heap.size)
    (hl : ∀ j : Nat, j < len → ∃ q : Snt, q.Ok ∧ SntAt w lb (lof + j * 5) q) :
    Calls Try.prog 8 #[.int .i64 every, .int .i64 delay, .int .i64 queue, .slice la len cap] w fun e w' => e = .returned (.bool true) ∧ Chg [] w w' := by
  obtain ⟨i0, ek⟩ := ek75
  have HEK : Hid (EK 65 75 i0 (.agg #[.int .u16 0, .int .u32 0, .int .u64 0]) 3 16) := ek
  have hev := pk_bd every 20 (by decide)
  have hde := pk_bd delay 60 (by decide)
  have hqu := pk_bd queue 10 (by decide)
  have HP1 : Hid (∀ W, Calls Try.prog 19 #[.int .i64 every, .int .i64 20] W fun e w' => e = .returned (.int .i64 (pk every 20)) ∧ w' = W) := fun W => pick_any every 20 W he.1 he.2 (by decide) (by decide)
  have HP2 : Hid (∀ W, Calls Try.prog 19 #[.int .i64 delay, .int .i64 60] W fun e w' => e = .returned (.int .i64 (pk delay 60)) ∧ w' = W) := fun W => pick_any delay 60 W hd.1 hd.2 (by decide) (by decide)
  have HP3 : Hid (∀ W, Calls Try.prog 19 #[.int .i64 queue, .int .i64 10] W fun e w' => e = .returned (.int .i64 (pk queue 10)) ∧ w' = W) := fun W => pick_any queue 10 W hq.1 hq.2 (by decide) (by decide)
  generalize pk every 20 = ev at *
  generalize pk delay 60 = de at *
  generalize pk queue 10 = qu at *
  have HC : Hid (∀ W, Calls Try.prog 11 #[.agg #[.int .i64 0, .int .i64 0, .int .i64 0], .agg #[.int .i64 0, .int .i64 0, .int .i64 0], .agg #[.int .i64 0, .int .i64 0, .int .i64 0], .int .i64 1, .int .i64 3] W fun e w' => e = .returned (.agg #[.int .i64 1, .int .i64 1, .int .i64 0, .int .i64 1, .int .i64 1, .int .i64 0, .int .i64 1, .int .i64 1, .int .i64 0, .slice none 0 0, .int .i64 1, .int .i64 3, .int .i64 3, .int .i64 20, .int .i64 5]) ∧ Chg [] W w') := fun W => conf_any 0 0 0 0 0 0 0 0 0 1 3 W ⟨i64z, i64z, i64z⟩ ⟨i64z, i64z, i64z⟩ ⟨i64z, i64z, i64z⟩
  have HF : Hid (∀ W, Calls Try.prog 12 #[.agg #[.int .i64 1, .int .i64 1, .int .i64 0, .int .i64 1, .int .i64 1, .int .i64 0, .int .i64 1, .int .i64 1, .int .i64 0, .slice none 0 0, .int .i64 1, .int .i64 3, .int .i64 (1 + ev), .int .i64 de, .int .i64 qu]] W fun e w' => ∃ mb ab s, e = .returned (.tuple #[.pointer (some ⟨mb, 0, none⟩), .bool true]) ∧ IsNewQ W w' mb ab 1 s (1 + ev) de qu) := fun W =>
    freshq_any 1 1 0 1 1 0 1 1 0 3 (1 + ev) de qu 1 W (qok_small (by decide) (by decide) (by decide) (by decide) (by decide) (by decide)) (qok_small (by decide) (by decide) (by decide) (by decide) (by decide) (by decide)) (qok_small (by decide) (by decide) (by decide) (by decide) (by decide) (by decide)) (by decide) (by decide) (by decide) (by decide) (by omega) (by omega) (by omega) (by omega) (by omega) (by omega)
  have HL : Hid (∀ j : Nat, j < len → ∃ q : Snt, q.Ok ∧ SntAt w lb (lof + j * 5) q) := hl
  have HLA : Hid (0 < len → la = some ⟨lb, lof, none⟩ ∧ lb < w.heap.size) := hla
  clear hl he hd hq hla ek
  go_enter Try.func8, Try.ntmps8
  go_wp2_with fail
  refine (begun_any w).mono ?_
  rintro e w1 ⟨rfl, q1⟩
  go_wp2_with fail
  refine (HC.out _).mono ?_
  rintro e w2 ⟨rfl, q2⟩
  have hc2 := q1.trans q2 (by simp)
  clear q1 q2
  go_wp2_with fail
  obtain ⟨wA, hwA⟩ : ∃ wA, wA = w2.alloc (.cells [.int .i64 1, .int .i64 1, .int .i64 0, .int .i64 1, .int .i64 1, .int .i64 0, .int .i64 1, .int .i64 1, .int .i64 0, .slice none 0 0, .int .i64 1, .int .i64 3, .int .i64 3, .int .i64 20, .int .i64 5].toArray 30) := ⟨_, rfl⟩
  have kA : wA.heap[w2.heap.size]? = some (.cells [.int .i64 1, .int .i64 1, .int .i64 0, .int .i64 1, .int .i64 1, .int .i64 0, .int .i64 1, .int .i64 1, .int .i64 0, .slice none 0 0, .int .i64 1, .int .i64 3, .int .i64 3, .int .i64 20, .int .i64 5].toArray 30 (0, 0)) := hwA ▸ heap_alloc_new w2 _
  have hcA : Chg [] w wA := hwA ▸ hc2.alloc _
  have s2 := hc2.size
  rw [show w2.alloc (.cells #[.int .i64 1, .int .i64 1, .int .i64 0, .int .i64 1, .int .i64 1, .int .i64 0, .int .i64 1, .int .i64 1, .int .i64 0, .slice none 0 0, .int .i64 1, .int .i64 3, .int .i64 3, .int .i64 20, .int .i64 5] 30) = wA from hwA.symm]
  clear hwA hc2
  refine (HP1.out _).mono ?_
  rintro e wA ⟨rfl, rfl⟩
  have aF : ∀ i, wA.frozen? ⟨w2.heap.size, i, none⟩ = false := fun i => blk_free kA
  have a12 := blk_cell (i := 12) kA rfl
  go_wp2_with fail
  obtain ⟨wB, hwB⟩ : ∃ wB, wB = wA.setCell ⟨w2.heap.size, 12, none⟩ (.int .i64 (1 + ev)) := ⟨_, rfl⟩
  have kB : wB.heap[w2.heap.size]? = some (.cells [.int .i64 1, .int .i64 1, .int .i64 0, .int .i64 1, .int .i64 1, .int .i64 0, .int .i64 1, .int .i64 1, .int .i64 0, .slice none 0 0, .int .i64 1, .int .i64 3, .int .i64 (1 + ev), .int .i64 20, .int .i64 5].toArray 30 (0, 0)) := hwB ▸ blk_set (i := 12) (.int .i64 (1 + ev)) kA
  have hcB : Chg [] w wB := hwB ▸ hcA.set _ _ (Or.inr s2)
  rw [show wA.setCell ⟨w2.heap.size, 12, none⟩ (.int .i64 (1 + ev)) = wB from hwB.symm]
  clear hwB kA hcA aF a12
  refine (HP2.out _).mono ?_
  rintro e wB ⟨rfl, rfl⟩
  have aF : ∀ i, wB.frozen? ⟨w2.heap.size, i, none⟩ = false := fun i => blk_free kB
  have a13 := blk_cell (i := 13) kB rfl
  go_wp2_with fail
  obtain ⟨wC, hwC⟩ : ∃ wC, wC = wB.setCell ⟨w2.heap.size, 13, none⟩ (.int .i64 de) := ⟨_, rfl⟩
  have kC : wC.heap[w2.heap.size]? = some (.cells [.int .i64 1, .int .i64 1, .int .i64 0, .int .i64 1, .int .i64 1, .int .i64 0, .int .i64 1, .int .i64 1, .int .i64 0, .slice none 0 0, .int .i64 1, .int .i64 3, .int .i64 (1 + ev), .int .i64 de, .int .i64 5].toArray 30 (0, 0)) := hwC ▸ blk_set (i := 13) (.int .i64 de) kB
  have hcC : Chg [] w wC := hwC ▸ hcB.set _ _ (Or.inr s2)
  rw [show wB.setCell ⟨w2.heap.size, 13, none⟩ (.int .i64 de) = wC from hwC.symm]
  clear hwC kB hcB aF a13
  refine (HP3.out _).mono ?_
  rintro e wC ⟨rfl, rfl⟩
  have aF : ∀ i, wC.frozen? ⟨w2.heap.size, i, none⟩ = false := fun i => blk_free kC
  have a14 := blk_cell (i := 14) kC rfl
  have kD : (wC.setCell ⟨w2.heap.size, 14, none⟩ (.int .i64 qu)).heap[w2.heap.size]? = some (.cells [.int .i64 1, .int .i64 1, .int .i64 0, .int .i64 1, .int .i64 1, .int .i64 0, .int .i64 1, .int .i64 1, .int .i64 0, .slice none 0 0, .int .i64 1, .int .i64 3, .int .i64 (1 + ev), .int .i64 de, .int .i64 qu].toArray 30 (0, 0)) := blk_set (i := 14) (.int .i64 qu) kC
  have hcD : Chg [] w (wC.setCell ⟨w2.heap.size, 14, none⟩ (.int .i64 qu)) := hcC.set _ _ (Or.inr s2)
  have dc0 := blk_cell (i := 0) kD rfl
  have dc1 := blk_cell (i := 1) kD rfl
  have dc2 := blk_cell (i := 2) kD rfl
  have dc3 := blk_cell (i := 3) kD rfl
  have dc4 := blk_cell (i := 4) kD rfl
  have dc5 := blk_cell (i := 5) kD rfl
  have dc6 := blk_cell (i := 6) kD rfl
  have dc7 := blk_cell (i := 7) kD rfl
  have dc8 := blk_cell (i := 8) kD rfl
  have dc9 := blk_cell (i := 9) kD rfl
  have dc10 := blk_cell (i := 10) kD rfl
  have dc11 := blk_cell (i := 11) kD rfl
  have dc12 := blk_cell (i := 12) kD rfl
  have dc13 := blk_cell (i := 13) kD rfl
  have dc14 := blk_cell (i := 14) kD rfl
  go_wp2_with fail
  obtain ⟨wD, hwD⟩ : ∃ wD, wD = wC.setCell ⟨w2.heap.size, 14, none⟩ (.int .i64 qu) := ⟨_, rfl⟩
  rw [← hwD] at kD hcD ⊢
  clear hwD kC hcC aF a14 dc0 dc1 dc2 dc3 dc4 dc5 dc6 dc7 dc8 dc9 dc10 dc11 dc12 dc13 dc14 HP1 HP2 HP3 HC
  refine (HF.out _).mono ?_
  rintro e wE ⟨mb, ab, s0, rfl, hnew⟩
  have kE := hnew.chg.blk kD (by simp)
  have hcE := hcD.trans hnew.chg (by simp)
  have sD := hcD.size
  have sE := hnew.chg.size
  have hcbl := lt_of_block kD
  have hst0 : SpW w (wE.alloc (.cells [.int .i64 0, .int .i64 0, .int .i64 0].toArray 66)) mb ab w2.heap.size wE.heap.size s0 [] (.slice none 0 0) [0, 0, 0] 0 0 ev de qu := by
    have hcA := (Chg.refl [] wE).alloc (.cells [.int .i64 0, .int .i64 0, .int .i64 0].toArray 66)
    refine ⟨hcA.blk hnew.mtr (by simp), hnew.at_.chg hcA (by simp), ⟨hnew.ev, hnew.de, hnew.qu, by rw [hnew.ws]; rfl, by simp; omega, by rw [hnew.n0]; exact Nat.le_refl _, by rw [hnew.es]; exact Nat.le_refl _, rfl, fun j hj => ?_, fun j hj => ?_, by simp⟩, ⟨rfl, by simp [icells], .inl ⟨rfl, rfl⟩⟩, by simp [own, Value.ownBlock], fun b hb => by have := hnew.fp b hb; omega, hcA.blk kE (by simp), heap_alloc_new wE _, hcE.alloc _⟩
    · have : j = 0 ∨ j = 1 ∨ j = 2 := by simp at hj; omega
      rcases this with rfl | rfl | rfl <;> simp
    · have e : markOf s0.D (tk j) = 0 := by rw [hnew.D]; rfl
      have : j = 0 ∨ j = 1 ∨ j = 2 := by simp at hj; omega
      rw [e]
      rcases this with rfl | rfl | rfl <;> simp
  have HST0 : Hid _ := hst0
  have hmb : w.heap.size ≤ mb := by have := hnew.mlo; omega
  have har : w.heap.size ≤ wE.heap.size := by omega
  have HSZ : Hid (w.heap.size ≤ w2.heap.size) := s2
  clear hst0 hnew kE hcE kD hcD HF sD sE hcbl s2
  go_wp2_with fail
  go_loopw [13, 15, 16] (fun v nw i wr => ∃ (k : Nat) (now : Int) (s : Qs) (V : List It) (tl : List Int), nw = .int .i64 now ∧ i = .int .i64 k ∧ k ≤ 120 ∧ k ≤ len ∧ 0 ≤ now ∧ now ≤ 15 * k ∧ SpW w wr mb ab w2.heap.size wE.heap.size s V v tl now k ev de qu) (fun _ _ i _ => 120 - (intOf i).toNat)
  case atStart => exact ⟨0, 0, s0, [], [0, 0, 0], rfl, rfl, by omega, by omega, by omega, by omega, HST0.out⟩
  case round =>
    obtain ⟨k, now, s, V, tl, rfl, rfl, hk120, hkl, h0, h1, hst⟩ := hrel
    clear HST0
    have hV9 : V.length ≤ 9 := by have := hst.spc.le; omega
    by_cases hlt : k < len ∧ k < 120
    · obtain ⟨hlt, hlt2⟩ := hlt
      obtain ⟨hla1, hlb⟩ := HLA.out (by omega)
      subst hla1
      obtain ⟨q, hq, hat⟩ := HL.out k hlt
      have hpa := pk_bd q.a 15 (by decide)
      have HQ : Hid q.Ok := hq
      have HAT : Hid (∀ W, Chg [] w W → (W.cell? ⟨lb, lof + k * 5, none⟩ = some (.int .i64 q.a) ∧ W.cell? ⟨lb, lof + k * 5 + 1, none⟩ = some (.int .i64 q.t) ∧ W.cell? ⟨lb, lof + k * 5 + 2, none⟩ = some (.int .u32 q.x) ∧ W.cell? ⟨lb, lof + k * 5 + 3, none⟩ = some (.bool q.p) ∧ W.cell? ⟨lb, lof + k * 5 + 4, none⟩ = some (.int .i64 q.m))) := fun W hW => ⟨hW.cell hat.1 (by simp), hW.cell hat.2.1 (by simp), hW.cell hat.2.2.1 (by simp), hW.cell hat.2.2.2.1 (by simp), hW.cell hat.2.2.2.2 (by simp)⟩
      have HPA : Hid (∀ W, Calls Try.prog 19 #[.int .i64 q.a, .int .i64 15] W fun e w' => e = .returned (.int .i64 (pk q.a 15)) ∧ w' = W) := fun W => pick_any q.a 15 W hq.1.1 hq.1.2 (by decide) (by decide)
      have HPT : Hid (∀ W, Calls Try.prog 19 #[.int .i64 q.t, .int .i64 3] W fun e w' => e = .returned (.int .i64 (pk q.t 3)) ∧ w' = W) := fun W => pick_any q.t 3 W hq.2.1.1 hq.2.1.2 (by decide) (by decide)
      have HPM : Hid (∀ W, Calls Try.prog 19 #[.int .i64 q.m, .int .i64 5] W fun e w' => e = .returned (.int .i64 (pk q.m 5)) ∧ w' = W) := fun W => pick_any q.m 5 W hq.2.2.2.1 hq.2.2.2.2 (by decide) (by decide)
      clear hq hat
      generalize pk q.a 15 = pa at *
      obtain ⟨d0, d1, d2, d3, d4⟩ := HAT.out wr hst.chg
      have HST : Hid (SpW w wr mb ab w2.heap.size wE.heap.size s V u13 tl now k ev de qu) := hst
      clear hst
      have hk1 : (k : Int) < (len : Int) := by omega
      have hk2 : (k : Int) < 120 := by omega
      go_wp2_with fail
      refine (HPA.out _).mono ?_
      rintro e wr ⟨rfl, rfl⟩
      go_wp2_with fail
      refine (HPA.out _).mono ?_
      rintro e wr ⟨rfl, rfl⟩
      go_wp2_with fail
      refine (Advance_any mb ab 1 s.qb now pa wr HST.out.mtr h0 (by omega) hpa.1 (by omega)).mono ?_
      rintro e w4 ⟨rfl, hm4, hc4⟩
      rw [show min (now + pa) 9223372036854775807 = now + pa from by omega] at hm4
      have hst4 := HST.out.adv hc4 hm4 (by omega) hmb
      obtain ⟨d0, d1, d2, d3, d4⟩ := HAT.out w4 hst4.chg
      have HST4 : Hid (SpW w w4 mb ab w2.heap.size wE.heap.size s V u13 tl (now + pa) k ev de qu) := hst4
      clear hst4 hm4 hc4 HST
      cases hqp : q.p
      · rw [hqp] at d3
        have hpt := pk_bd q.t 3 (by decide)
        obtain ⟨kk, hkk⟩ : ∃ kk : Nat, pk q.t 3 = kk := ⟨(pk q.t 3).toNat, by omega⟩
        rw [hkk] at HPT hpt
        have hkk3 : kk < 3 := by omega
        clear hkk
        have h4 := HST4.out
        obtain ⟨bs, cp, hvv⟩ := h4.row.val
        subst hvv
        have hkt : kk < tl.length := by rw [h4.spc.len]; exact hkk3
        obtain ⟨tv, htv⟩ : ∃ tv, tv = tl[kk] := ⟨_, rfl⟩
        have HTV : Hid ((tcl tl)[kk]? = some (.int .i64 tv)) := by show _ = _; unfold tcl; rw [List.getElem?_map, List.getElem?_eq_getElem hkt, htv]; rfl
        have htb := h4.spc.bd kk hkt
        have HMD : Hid (max (markOf s.D (tk kk)) (now + pa) = max tv (now + pa)) := by show _ = _; rw [htv]; exact h4.spc.turn kk hkt
        rw [← htv] at htb
        have HWF : Hid ((Lit.int .u16 (kk : Int)).wf = true) := WalkArith.wf_u16 (by omega)
        have at0 := blk_cell (i := kk) h4.arr HTV.out
        have hwk : IntKind.u16.wrap (kk : Int) = kk := by rw [IntKind.wrap_u16]; omega
        have hkk2 : (kk : Int) < 3 := by omega
        clear h4 htv
        go_wp2_with fail
        refine (HPT.out _).mono ?_
        rintro e w4 ⟨rfl, rfl⟩
        by_cases hgt : now + pa < tv
        · have HSUB : Hid (Calls Try.prog 25 #[.pointer (some ⟨mb, 0, none⟩), .int .u16 kk, .int .u32 q.x] w4 fun e w5 => ∃ s',
              (de < tv - (now + pa) ∧ e = .returned (.tuple #[.int .i64 4, .int .u64 0]) ∧ SpW w w5 mb ab w2.heap.size wE.heap.size s' V (.slice bs V.length cp) tl (now + pa) (k + 1) ev de qu) ∨
              (tv - (now + pa) ≤ de ∧ qu ≤ (V.length : Int) ∧ e = .returned (.tuple #[.int .i64 5, .int .u64 0]) ∧ SpW w w5 mb ab w2.heap.size wE.heap.size s' V (.slice bs V.length cp) tl (now + pa) (k + 1) ev de qu) ∨
              (tv - (now + pa) ≤ de ∧ (V.length : Int) < qu ∧ e = .returned (.tuple #[.int .i64 3, .int .u64 tv]) ∧ w5.heap[w2.heap.size]? = some (.cells (cfc ev de qu).toArray 30 (0, 0)) ∧ w5.heap[wE.heap.size]? = some (.cells (tcl tl).toArray 66 (0, 0)) ∧ Chg [] w w5 ∧ Rw w5 75 3 (.slice bs V.length cp) V.length (icells V) ∧
                ∀ w8 hv', ((w5.setCell ⟨wE.heap.size, kk, none⟩ (.int .i64 (tv + (1 + ev)))).alloc (.cells #[.int .u16 kk, .int .u32 q.x, .int .u64 tv] 75)).grownBy w8 (Value.slice bs V.length cp).ownBlock → Rw w8 75 3 hv' (V.length + 1) (icells V ++ icl ⟨kk, q.x, tv⟩) → (hv'.ownBlock = (Value.slice bs V.length cp).ownBlock ∨ hv'.ownBlock = some (w5.heap.size + 1)) → SpW w w8 mb ab w2.heap.size wE.heap.size s' (V ++ [⟨kk, q.x, tv⟩]) hv' (tl.set kk (tv + (1 + ev))) (now + pa) (k + 1) ev de qu)) := by
            have h4 := HST4.out
            refine (MSubmit mb ab 1 s kk q.x (now + pa) w4 h4.mtr h4.at_ HWF.out (by omega) (by omega) (by rw [h4.spc.ev]; omega) (by rw [h4.spc.ev]; omega) (by rw [h4.spc.de]; omega) (by rw [h4.spc.de]; omega) (by rw [h4.spc.ws, isort_len]; omega) (by have := h4.spc.es; omega) (by have := h4.spc.n; omega)).mono ?_
            rintro e w5 ⟨z0, s', z1, z2, z3, z4, z5, z6, z7⟩
            refine ⟨s', ?_⟩
            have hmd : max (markOf s.D (tk kk)) (now + pa) = tv := HMD.out.trans (by omega)
            unfold Sub at z7
            rw [hmd, h4.spc.de, h4.spc.qu, h4.spc.ws, isort_len] at z7
            rcases z7 with ⟨y1, y2, y3, y4⟩ | ⟨y1, y2, y3, y4, y5⟩ | ⟨y1, y2, y3, y4, y5⟩
            · exact Or.inl ⟨y1, y2, h4.no z0 z1 z2 z3 z4 z5 z6 (y3.trans h4.spc.ws.symm) y4⟩
            · exact Or.inr (Or.inl ⟨y1, y2, y3, h4.no z0 z1 z2 z3 z4 z5 z6 (y4.trans h4.spc.ws.symm) y5⟩)
            · obtain ⟨f1, f2, f3, f4, _⟩ := h4.far
              exact Or.inr (Or.inr ⟨y1, y2, y3, z3.blk h4.cfg f1, z3.blk h4.arr f2, h4.chg.trans z3 (fun j hj => Or.inr (h4.fp j hj)), h4.row.chg z3 (fun b hb => (h4.own_ b (mem_own.2 hb)).2), fun w8 hv' g1 g2 g3 => h4.yes z0 z1 z2 z3 z4 z5 z6 hkk3 (by omega) (by omega) hev y2 (by rw [y4, h4.spc.ws]) y5 g1 g2 g3 har⟩)
          have hwd : IntKind.u64.wrap tv = tv := by rw [IntKind.wrap_u64]; omega
          go_wp2_with fail
          refine (HSUB.out).mono ?_
          rintro e w5 ⟨s', hcase⟩
          clear HSUB HST4 d0 d1 d2 d3 d4 at0
          rcases hcase with ⟨y1, rfl, hst5⟩ | ⟨y1, y2, rfl, hst5⟩ | ⟨y1, y2, rfl, k5, a5, c5, r5, hyes⟩
          · have g13 := blk_cell (i := 13) hst5.cfg rfl
            have g14 := blk_cell (i := 14) hst5.cfg rfl
            have HST5 : Hid (SpW w w5 mb ab w2.heap.size wE.heap.size s' V (.slice bs V.length cp) tl (now + pa) (k + 1) ev de qu) := hst5
            clear hst5
            go_wp2_with fail
            go_roundw
            case rel => exact ⟨k + 1, now + pa, s', V, tl, rfl, by go_num, by omega, by omega, by omega, by omega, HST5.out⟩
            case measure => simp [intOf]; omega
          · have g13 := blk_cell (i := 13) hst5.cfg rfl
            have g14 := blk_cell (i := 14) hst5.cfg rfl
            have HST5 : Hid (SpW w w5 mb ab w2.heap.size wE.heap.size s' V (.slice bs V.length cp) tl (now + pa) (k + 1) ev de qu) := hst5
            clear hst5
            go_wp2_with fail
            go_roundw
            case rel => exact ⟨k + 1, now + pa, s', V, tl, rfl, by go_num, by omega, by omega, by omega, by omega, HST5.out⟩
            case measure => simp [intOf]; omega
          · have g12 := blk_cell (i := 12) k5 rfl
            have g13 := blk_cell (i := 13) k5 rfl
            have g14 := blk_cell (i := 14) k5 rfl
            have gF : ∀ i, w5.frozen? ⟨wE.heap.size, i, none⟩ = false := fun i => blk_free a5
            have gK := blk_cell (i := kk) a5 HTV.out
            obtain ⟨e0, e1, e2, e3, e4⟩ := HAT.out w5 c5
            have hcc := ne_ty k5 a5 (by decide)
            have hl5 : wE.heap.size < w5.heap.size := lt_of_block a5
            have c6 : Chg [wE.heap.size] w5 (w5.setCell ⟨wE.heap.size, kk, none⟩ (.int .i64 (tv + (1 + ev)))) := (Chg.refl _ w5).set _ _ (Or.inl (by simp))
            have hc6w : Chg [] w (w5.setCell ⟨wE.heap.size, kk, none⟩ (.int .i64 (tv + (1 + ev)))) := c5.trans c6 (fun j hj => by simp at hj; subst hj; exact Or.inr har)
            obtain ⟨m0, m1, m2, m3, m4⟩ := HAT.out _ hc6w
            have hno : wE.heap.size ∉ own (.slice bs V.length cp) := own_ty r5 a5 (by decide)
            have r6 := r5.chg (c6.alloc (.cells #[.int .u16 kk, .int .u32 q.x, .int .u64 tv] 75)) (fun b hb => by simp; rintro rfl; exact hno (mem_own.2 hb))
            have hs6 : (w5.setCell ⟨wE.heap.size, kk, none⟩ (.int .i64 (tv + (1 + ev)))).heap.size = w5.heap.size := by simp [World.setCell]
            have nb := heap_alloc_new (w5.setCell ⟨wE.heap.size, kk, none⟩ (.int .i64 (tv + (1 + ev)))) (.cells #[.int .u16 kk, .int .u32 q.x, .int .u64 tv] 75)
            rw [hs6] at nb
            obtain ⟨v8, w8, hr8, hrw8, hgr8, how8⟩ := run_app HEK.out ((w5.setCell ⟨wE.heap.size, kk, none⟩ (.int .i64 (tv + (1 + ev)))).alloc (.cells #[.int .u16 kk, .int .u32 q.x, .int .u64 tv] 75)) 65 (.slice bs V.length cp) V.length (icells V) r6 ⟨w5.heap.size, 0, none⟩ 1 1 (icl ⟨kk, q.x, tv⟩) rfl (fun j u hj => by rw [Addr.add_lit, Nat.zero_add]; exact blk_cell nb hj) (by simp [icl]; exact ⟨rfl, rfl, rfl⟩) (by decide) (by omega)
            have HR8 : Hid ((Builtin.append_ #[65, 65] 65 #[.slice bs V.length cp, .slice (some ⟨w5.heap.size, 0, none⟩) 1 1]).run Try.prog ((w5.setCell ⟨wE.heap.size, kk, none⟩ (.int .i64 (tv + (1 + ev)))).alloc (.cells #[.int .u16 kk, .int .u32 q.x, .int .u64 tv] 75)) = .ok v8 w8) := hr8
            have HST8 : Hid (SpW w w8 mb ab w2.heap.size wE.heap.size s' (V ++ [⟨kk, q.x, tv⟩]) v8 (tl.set kk (tv + (1 + ev))) (now + pa) (k + 1) ev de qu) := hyes w8 v8 hgr8 hrw8 (by rcases how8 with h | h; exact Or.inl h; right; rw [h]; simp [World.setCell])
            clear hyes hgr8 hrw8 how8 hr8 nb r6 r5 a5 k5 c5 c6 hc6w
            go_wp2_with (at_builtin; refine Lib.wpList_append_run _ rfl _ _ _ _ rfl _ _ rfl rfl _ _ HR8.out ?_)
            go_roundw
            case rel => exact ⟨k + 1, now + pa, s', _, _, rfl, by go_num, by omega, by omega, by omega, by omega, HST8.out⟩
            case measure => simp [intOf]; omega
        · have HSUB : Hid (Calls Try.prog 25 #[.pointer (some ⟨mb, 0, none⟩), .int .u16 kk, .int .u32 q.x] w4 fun e w5 => ∃ s',
              (de < (now + pa) - (now + pa) ∧ e = .returned (.tuple #[.int .i64 4, .int .u64 0]) ∧ SpW w w5 mb ab w2.heap.size wE.heap.size s' V (.slice bs V.length cp) tl (now + pa) (k + 1) ev de qu) ∨
              ((now + pa) - (now + pa) ≤ de ∧ qu ≤ (V.length : Int) ∧ e = .returned (.tuple #[.int .i64 5, .int .u64 0]) ∧ SpW w w5 mb ab w2.heap.size wE.heap.size s' V (.slice bs V.length cp) tl (now + pa) (k + 1) ev de qu) ∨
              ((now + pa) - (now + pa) ≤ de ∧ (V.length : Int) < qu ∧ e = .returned (.tuple #[.int .i64 3, .int .u64 (now + pa)]) ∧ w5.heap[w2.heap.size]? = some (.cells (cfc ev de qu).toArray 30 (0, 0)) ∧ w5.heap[wE.heap.size]? = some (.cells (tcl tl).toArray 66 (0, 0)) ∧ Chg [] w w5 ∧ Rw w5 75 3 (.slice bs V.length cp) V.length (icells V) ∧
                ∀ w8 hv', ((w5.setCell ⟨wE.heap.size, kk, none⟩ (.int .i64 ((now + pa) + (1 + ev)))).alloc (.cells #[.int .u16 kk, .int .u32 q.x, .int .u64 (now + pa)] 75)).grownBy w8 (Value.slice bs V.length cp).ownBlock → Rw w8 75 3 hv' (V.length + 1) (icells V ++ icl ⟨kk, q.x, (now + pa)⟩) → (hv'.ownBlock = (Value.slice bs V.length cp).ownBlock ∨ hv'.ownBlock = some (w5.heap.size + 1)) → SpW w w8 mb ab w2.heap.size wE.heap.size s' (V ++ [⟨kk, q.x, (now + pa)⟩]) hv' (tl.set kk ((now + pa) + (1 + ev))) (now + pa) (k + 1) ev de qu)) := by
            have h4 := HST4.out
            refine (MSubmit mb ab 1 s kk q.x (now + pa) w4 h4.mtr h4.at_ HWF.out (by omega) (by omega) (by rw [h4.spc.ev]; omega) (by rw [h4.spc.ev]; omega) (by rw [h4.spc.de]; omega) (by rw [h4.spc.de]; omega) (by rw [h4.spc.ws, isort_len]; omega) (by have := h4.spc.es; omega) (by have := h4.spc.n; omega)).mono ?_
            rintro e w5 ⟨z0, s', z1, z2, z3, z4, z5, z6, z7⟩
            refine ⟨s', ?_⟩
            have hmd : max (markOf s.D (tk kk)) (now + pa) = (now + pa) := HMD.out.trans (by omega)
            unfold Sub at z7
            rw [hmd, h4.spc.de, h4.spc.qu, h4.spc.ws, isort_len] at z7
            rcases z7 with ⟨y1, y2, y3, y4⟩ | ⟨y1, y2, y3, y4, y5⟩ | ⟨y1, y2, y3, y4, y5⟩
            · exact Or.inl ⟨y1, y2, h4.no z0 z1 z2 z3 z4 z5 z6 (y3.trans h4.spc.ws.symm) y4⟩
            · exact Or.inr (Or.inl ⟨y1, y2, y3, h4.no z0 z1 z2 z3 z4 z5 z6 (y4.trans h4.spc.ws.symm) y5⟩)
            · obtain ⟨f1, f2, f3, f4, _⟩ := h4.far
              exact Or.inr (Or.inr ⟨y1, y2, y3, z3.blk h4.cfg f1, z3.blk h4.arr f2, h4.chg.trans z3 (fun j hj => Or.inr (h4.fp j hj)), h4.row.chg z3 (fun b hb => (h4.own_ b (mem_own.2 hb)).2), fun w8 hv' g1 g2 g3 => h4.yes z0 z1 z2 z3 z4 z5 z6 hkk3 (by omega) (by omega) hev y2 (by rw [y4, h4.spc.ws]) y5 g1 g2 g3 har⟩)
          have hwd : IntKind.u64.wrap (now + pa) = (now + pa) := by rw [IntKind.wrap_u64]; omega
          go_wp2_with fail
          refine (HSUB.out).mono ?_
          rintro e w5 ⟨s', hcase⟩
          clear HSUB HST4 d0 d1 d2 d3 d4 at0
          rcases hcase with ⟨y1, rfl, hst5⟩ | ⟨y1, y2, rfl, hst5⟩ | ⟨y1, y2, rfl, k5, a5, c5, r5, hyes⟩
          · exfalso; omega
          · have g13 := blk_cell (i := 13) hst5.cfg rfl
            have g14 := blk_cell (i := 14) hst5.cfg rfl
            have HST5 : Hid (SpW w w5 mb ab w2.heap.size wE.heap.size s' V (.slice bs V.length cp) tl (now + pa) (k + 1) ev de qu) := hst5
            clear hst5
            go_wp2_with fail
            go_roundw
            case rel => exact ⟨k + 1, now + pa, s', V, tl, rfl, by go_num, by omega, by omega, by omega, by omega, HST5.out⟩
            case measure => simp [intOf]; omega
          · have g12 := blk_cell (i := 12) k5 rfl
            have g13 := blk_cell (i := 13) k5 rfl
            have g14 := blk_cell (i := 14) k5 rfl
            have gF : ∀ i, w5.frozen? ⟨wE.heap.size, i, none⟩ = false := fun i => blk_free a5
            have gK := blk_cell (i := kk) a5 HTV.out
            obtain ⟨e0, e1, e2, e3, e4⟩ := HAT.out w5 c5
            have hcc := ne_ty k5 a5 (by decide)
            have hl5 : wE.heap.size < w5.heap.size := lt_of_block a5
            have c6 : Chg [wE.heap.size] w5 (w5.setCell ⟨wE.heap.size, kk, none⟩ (.int .i64 ((now + pa) + (1 + ev)))) := (Chg.refl _ w5).set _ _ (Or.inl (by simp))
            have hc6w : Chg [] w (w5.setCell ⟨wE.heap.size, kk, none⟩ (.int .i64 ((now + pa) + (1 + ev)))) := c5.trans c6 (fun j hj => by simp at hj; subst hj; exact Or.inr har)
            obtain ⟨m0, m1, m2, m3, m4⟩ := HAT.out _ hc6w
            have hno : wE.heap.size ∉ own (.slice bs V.length cp) := own_ty r5 a5 (by decide)
            have r6 := r5.chg (c6.alloc (.cells #[.int .u16 kk, .int .u32 q.x, .int .u64 (now + pa)] 75)) (fun b hb => by simp; rintro rfl; exact hno (mem_own.2 hb))
            have hs6 : (w5.setCell ⟨wE.heap.size, kk, none⟩ (.int .i64 ((now + pa) + (1 + ev)))).heap.size = w5.heap.size := by simp [World.setCell]
            have nb := heap_alloc_new (w5.setCell ⟨wE.heap.size, kk, none⟩ (.int .i64 ((now + pa) + (1 + ev)))) (.cells #[.int .u16 kk, .int .u32 q.x, .int .u64 (now + pa)] 75)
            rw [hs6] at nb
            obtain ⟨v8, w8, hr8, hrw8, hgr8, how8⟩ := run_app HEK.out ((w5.setCell ⟨wE.heap.size, kk, none⟩ (.int .i64 ((now + pa) + (1 + ev)))).alloc (.cells #[.int .u16 kk, .int .u32 q.x, .int .u64 (now + pa)] 75)) 65 (.slice bs V.length cp) V.length (icells V) r6 ⟨w5.heap.size, 0, none⟩ 1 1 (icl ⟨kk, q.x, (now + pa)⟩) rfl (fun j u hj => by rw [Addr.add_lit, Nat.zero_add]; exact blk_cell nb hj) (by simp [icl]; exact ⟨rfl, rfl, rfl⟩) (by decide) (by omega)
            have HR8 : Hid ((Builtin.append_ #[65, 65] 65 #[.slice bs V.length cp, .slice (some ⟨w5.heap.size, 0, none⟩) 1 1]).run Try.prog ((w5.setCell ⟨wE.heap.size, kk, none⟩ (.int .i64 ((now + pa) + (1 + ev)))).alloc (.cells #[.int .u16 kk, .int .u32 q.x, .int .u64 (now + pa)] 75)) = .ok v8 w8) := hr8
            have HST8 : Hid (SpW w w8 mb ab w2.heap.size wE.heap.size s' (V ++ [⟨kk, q.x, (now + pa)⟩]) v8 (tl.set kk ((now + pa) + (1 + ev))) (now + pa) (k + 1) ev de qu) := hyes w8 v8 hgr8 hrw8 (by rcases how8 with h | h; exact Or.inl h; right; rw [h]; simp [World.setCell])
            clear hyes hgr8 hrw8 how8 hr8 nb r6 r5 a5 k5 c5 c6 hc6w
            go_wp2_with (at_builtin; refine Lib.wpList_append_run _ rfl _ _ _ _ rfl _ _ rfl rfl _ _ HR8.out ?_)
            go_roundw
            case rel => exact ⟨k + 1, now + pa, s', _, _, rfl, by go_num, by omega, by omega, by omega, by omega, HST8.out⟩
            case measure => simp [intOf]; omega
      · rw [hqp] at d3
        have hpm := pk_bd q.m 5 (by decide)
        have HPD : Hid (Calls Try.prog 24 #[.pointer (some ⟨mb, 0, none⟩), u13, .int .i64 (pk q.m 5), .int .i64 (now + pa)] w4 fun e w5 => ∃ s' hv' V', e = .returned (.tuple #[hv', .bool true]) ∧ SpW w w5 mb ab w2.heap.size wE.heap.size s' V' hv' tl (now + pa) (k + 1) ev de qu) := by
          have h4 := HST4.out
          refine (polled_any mb ab 1 s (pk q.m 5) (now + pa) V u13 w4 h4.mtr h4.at_ h4.spc.ws h4.row (fun b hb => (h4.own_ b hb).2) (by omega) (by omega) (by omega) (by omega) (by omega)).mono ?_
          rintro e w5 ⟨k', s', hv', V', _, rfl, hp⟩
          exact ⟨s', hv', V', rfl, h4.pol hp⟩
        generalize pk q.m 5 = pm at *
        go_wp2_with fail
        refine (HPM.out _).mono ?_
        rintro e w4 ⟨rfl, rfl⟩
        go_wp2_with fail
        refine (HPD.out).mono ?_
        rintro e w5 ⟨s', hv', V', rfl, hst5⟩
        have HST5 : Hid (SpW w w5 mb ab w2.heap.size wE.heap.size s' V' hv' tl (now + pa) (k + 1) ev de qu) := hst5
        clear hst5 HST4
        go_wp2_with fail
        go_roundw
        case rel => exact ⟨k + 1, now + pa, s', V', tl, rfl, by go_num, by omega, by omega, by omega, by omega, HST5.out⟩
        case measure => simp [intOf]; omega
    · rcases (by omega : ¬ (k < len) ∨ (k < len ∧ ¬ (k < 120))) with hx | ⟨hx, hx2⟩
      all_goals
        have HST : Hid (SpW w wr mb ab w2.heap.size wE.heap.size s V u13 tl now k ev de qu) := hst
        clear hst
        go_wp2_with fail
        refine (Advance_any mb ab 1 s.qb now 1000 wr HST.out.mtr h0 (by omega) (by decide) (by decide)).mono ?_
        rintro e w4 ⟨rfl, hm4, hc4⟩
        rw [show min (now + 1000) 9223372036854775807 = now + 1000 from by omega] at hm4
        have h4 := HST.out.adv hc4 hm4 (by omega) hmb
        have HPD : Hid (Calls Try.prog 24 #[.pointer (some ⟨mb, 0, none⟩), u13, .int .i64 1000, .int .i64 (now + 1000)] w4 fun e w5 => ∃ s' bs cp, e = .returned (.tuple #[.slice bs 0 cp, .bool true]) ∧ MeterAt w5 mb (now + 1000) ab 1 s'.qb ∧ QAt w5 s' ∧ s'.ws = [] ∧ Chg [] w w5 ∧ ∀ b ∈ s'.fp, w.heap.size ≤ b) := by
          refine (polled_any mb ab 1 s 1000 (now + 1000) V u13 w4 h4.mtr h4.at_ h4.spc.ws h4.row (fun b hb => (h4.own_ b hb).2) (by omega) (by omega) (by omega) (by omega) (by omega)).mono ?_
          rintro e w5 ⟨k', s', hv', V', hcn, rfl, hp⟩
          have h5 := h4.pol hp
          have hk' : k' = s.ws.length := by
            have hl : s.ws.length = V.length := by rw [h4.spc.ws, isort_len]
            have := hcn.le
            rcases hcn.stop with h | h | ⟨hk, h⟩
            · omega
            · exact h
            · have hmem : s.ws[k'] ∈ V := by
                obtain ⟨y, hy⟩ : ∃ y, y = s.ws[k'] := ⟨_, rfl⟩
                have hm : y ∈ s.ws := hy ▸ List.getElem_mem hk
                rw [h4.spc.ws] at hm
                rw [← hy]
                exact (mem_isort V y).1 hm
              have := HST.out.spc.due _ hmem
              omega
          have hws : s'.ws = [] := by rw [hp.ws, hk', List.drop_length]
          have hV' : V'.length = 0 := by rw [← isort_len V', ← hp.srt, hws]; rfl
          obtain ⟨bs, cp, hv0⟩ := hp.row.val
          rw [hV'] at hv0
          exact ⟨s', bs, cp, by rw [hv0], h5.mtr, hp.at_, hws, h5.chg, h5.fp⟩
        clear h4 hm4 hc4 HST
        go_wp2_with fail
        refine (HPD.out).mono ?_
        rintro e w5 ⟨s', bs, cp, rfl, hm5, hq5, hws5, hc5, hf5⟩
        have HMP : Hid (Calls Try.prog 26 #[.pointer (some ⟨mb, 0, none⟩), .int .i64 9] w5 fun e w6 => ∃ bs' cp', e = .returned (.slice bs' 0 cp') ∧ Chg [] w w6) := by
          refine (MPoll mb ab 1 s' 9 (now + 1000) w5 hm5 hq5 (by decide) (by decide) (by rw [hws5]; simp)).mono ?_
          rintro e w6 ⟨_, k2, s2, v2, hcn, rfl, hp⟩
          have hk2 : k2 = 0 := by have := hcn.le; rw [hws5] at this; simpa using this
          subst hk2
          obtain ⟨bs', cp', hv'⟩ := hp.told.val
          exact ⟨bs', cp', by rw [hv'], hc5.trans hp.chg (fun j hj => Or.inr (hf5 j hj))⟩
        clear hm5 hq5 hws5 hc5 hf5 HPD
        go_wp2_with fail
        refine (HMP.out).mono ?_
        rintro e w6 ⟨bs', cp', rfl, hc6⟩
        go_wp2
        go_ret
        exact ⟨rfl, hc6⟩
end Go.Proofs.Ytbdnhllhdjepcaa
