import Derived.Test.YtbdnhllhdjepcaaKin
namespace Go.Proofs.Ytbdnhllhdjepcaa
set_option linter.unusedVariables false
set_option linter.unusedSimpArgs false
open Go.RowKit Go.Maps

set_option maxRecDepth 100000 in
set_option maxHeartbeats 4000000 in
theorem told_any (a0 a1 a2 b0 b1 b2 c0 c1 c2 : Int) (la : Option Addr) (lb lof len cap : Nat) (w : World) (ha : Raw a0 a1 a2) (hb : Raw b0 b1 b2) (hc : Raw c0 c1 c2) (hlen : len ≤ 9223372036854775807) (hla : 0 < len → la = some ⟨lb, lof, none⟩ ∧ lb < w.heap.size)
    (hl : ∀ j : Nat, j < len → ∃ q : Wd, q.Ok ∧ WdAt w lb (lof + j * 8) q) :
    Calls Try.prog 9 #[.agg #[.int .i64 a0, .int .i64 a1, .int .i64 a2], .agg #[.int .i64 b0, .int .i64 b1, .int .i64 b2], .agg #[.int .i64 c0, .int .i64 c1, .int .i64 c2], .slice la len cap] w fun e w' => e = .returned (.bool true) ∧ Chg [] w w' := by
  have HC : Hid (∀ W, Calls Try.prog 11 #[.agg #[.int .i64 a0, .int .i64 a1, .int .i64 a2], .agg #[.int .i64 b0, .int .i64 b1, .int .i64 b2], .agg #[.int .i64 c0, .int .i64 c1, .int .i64 c2], .int .i64 2, .int .i64 5] W fun e w' => e = .returned (.agg #[.int .i64 (1 + pk a0 9), .int .i64 (1 + pk a1 60), .int .i64 (pk a2 201), .int .i64 (1 + pk b0 9), .int .i64 (1 + pk b1 60), .int .i64 (pk b2 201), .int .i64 (1 + pk c0 9), .int .i64 (1 + pk c1 60), .int .i64 (pk c2 201), .slice none 0 0, .int .i64 2, .int .i64 5, .int .i64 3, .int .i64 20, .int .i64 5]) ∧ Chg [] W w') := fun W => conf_any a0 a1 a2 b0 b1 b2 c0 c1 c2 2 5 W ha hb hc
  have HF : Hid (∀ W, Calls Try.prog 12 #[.agg #[.int .i64 (1 + pk a0 9), .int .i64 (1 + pk a1 60), .int .i64 (pk a2 201), .int .i64 (1 + pk b0 9), .int .i64 (1 + pk b1 60), .int .i64 (pk b2 201), .int .i64 (1 + pk c0 9), .int .i64 (1 + pk c1 60), .int .i64 (pk c2 201), .slice none 0 0, .int .i64 2, .int .i64 5, .int .i64 3, .int .i64 20, .int .i64 5]] W fun e w' => ∃ g s, e = .returned (.tuple #[.pointer (some ⟨g.mb, 0, none⟩), .bool true]) ∧ NewF W w' g s ⟨ivl (1 + pk a0 9) (1 + pk a1 60), pk a2 201, ivl (1 + pk b0 9) (1 + pk b1 60), pk b2 201, ivl (1 + pk c0 9) (1 + pk c1 60), pk c2 201, .map []⟩) := fun W =>
    freshf_any _ _ _ _ _ _ _ _ _ W (qok_pk a0 a1 a2) (qok_pk b0 b1 b2) (qok_pk c0 c1 c2)
  have HL : Hid (∀ j : Nat, j < len → ∃ q : Wd, q.Ok ∧ WdAt w lb (lof + j * 8) q) := hl
  have HLA : Hid (0 < len → la = some ⟨lb, lof, none⟩ ∧ lb < w.heap.size) := hla
  clear hl ha hb hc hla
  obtain ⟨w0, hw0⟩ : ∃ w0, w0 = ((w.alloc (.cells [.int .i64 a0, .int .i64 a1, .int .i64 a2].toArray 23)).alloc (.cells [.int .i64 b0, .int .i64 b1, .int .i64 b2].toArray 23)).alloc (.cells [.int .i64 c0, .int .i64 c1, .int .i64 c2].toArray 23) := ⟨_, rfl⟩
  have g0 : w0.heap[w.heap.size]? = some (.cells [.int .i64 a0, .int .i64 a1, .int .i64 a2].toArray 23 (0, 0)) := hw0 ▸ blk_alloc (heap_alloc2_old _ _ _) _
  have g1 : w0.heap[w.heap.size + 1]? = some (.cells [.int .i64 b0, .int .i64 b1, .int .i64 b2].toArray 23 (0, 0)) := hw0 ▸ blk_alloc (heap_alloc2_new _ _ _) _
  have g2 : w0.heap[w.heap.size + 2]? = some (.cells [.int .i64 c0, .int .i64 c1, .int .i64 c2].toArray 23 (0, 0)) := by
    rw [hw0]
    have := heap_alloc2_new (w.alloc (.cells [.int .i64 a0, .int .i64 a1, .int .i64 a2].toArray 23)) (.cells [.int .i64 b0, .int .i64 b1, .int .i64 b2].toArray 23) (.cells [.int .i64 c0, .int .i64 c1, .int .i64 c2].toArray 23)
    simpa using this
  have hc0 : Chg [] w w0 := hw0 ▸ (((Chg.refl _ _).alloc _).alloc _).alloc _
  have HW0 : Hid (w0 = ((w.alloc (.cells [.int .i64 a0, .int .i64 a1, .int .i64 a2].toArray 23)).alloc (.cells [.int .i64 b0, .int .i64 b1, .int .i64 b2].toArray 23)).alloc (.cells [.int .i64 c0, .int .i64 c1, .int .i64 c2].toArray 23)) := hw0
  clear hw0
  go_enter Try.func9, Try.ntmps9
  go_wp2_with fail
  rw [show ((w.alloc (.cells #[.int .i64 a0, .int .i64 a1, .int .i64 a2] 23)).alloc (.cells #[.int .i64 b0, .int .i64 b1, .int .i64 b2] 23)).alloc (.cells #[.int .i64 c0, .int .i64 c1, .int .i64 c2] 23) = w0 from HW0.out.symm]
  refine (begun_any w0).mono ?_
  rintro e w1 ⟨rfl, q1⟩
  have k0 := q1.blk g0 (by simp)
  have k1 := q1.blk g1 (by simp)
  have k2 := q1.blk g2 (by simp)
  have x0 := blk_cell (i := 0) k0 rfl
  have x1 := blk_cell (i := 1) k0 rfl
  have x2 := blk_cell (i := 2) k0 rfl
  have x3 := blk_cell (i := 0) k1 rfl
  have x4 := blk_cell (i := 1) k1 rfl
  have x5 := blk_cell (i := 2) k1 rfl
  have x6 := blk_cell (i := 0) k2 rfl
  have x7 := blk_cell (i := 1) k2 rfl
  have x8 := blk_cell (i := 2) k2 rfl
  have hc1 := hc0.trans q1 (by simp)
  clear hc0 q1 g0 g1 g2 k0 k1 k2 HW0
  go_wp2_with fail
  refine (HC.out _).mono ?_
  rintro e w2 ⟨rfl, q2⟩
  have hc2 := hc1.trans q2 (by simp)
  have hbk := heap_alloc_new w2 (.cells [.int .i64 (1 + pk a0 9), .int .i64 (1 + pk a1 60), .int .i64 (pk a2 201), .int .i64 (1 + pk b0 9), .int .i64 (1 + pk b1 60), .int .i64 (pk b2 201), .int .i64 (1 + pk c0 9), .int .i64 (1 + pk c1 60), .int .i64 (pk c2 201), .slice none 0 0, .int .i64 2, .int .i64 5, .int .i64 3, .int .i64 20, .int .i64 5].toArray 30)
  have hcb := hc2.alloc (.cells [.int .i64 (1 + pk a0 9), .int .i64 (1 + pk a1 60), .int .i64 (pk a2 201), .int .i64 (1 + pk b0 9), .int .i64 (1 + pk b1 60), .int .i64 (pk b2 201), .int .i64 (1 + pk c0 9), .int .i64 (1 + pk c1 60), .int .i64 (pk c2 201), .slice none 0 0, .int .i64 2, .int .i64 5, .int .i64 3, .int .i64 20, .int .i64 5].toArray 30)
  clear HC hc1 q2 x0 x1 x2 x3 x4 x5 x6 x7 x8 hc2
  go_wp2_with fail
  refine (HF.out _).mono ?_
  rintro e w3 ⟨gm, sm, rfl, N1⟩
  have hbk3 := N1.chg.blk hbk (by simp)
  have N1' : Hid _ := N1.pre hcb
  clear N1 hbk hcb
  have kc0 := blk_cell (i := 0) hbk3 rfl
  have kc1 := blk_cell (i := 1) hbk3 rfl
  have kc2 := blk_cell (i := 2) hbk3 rfl
  have kc3 := blk_cell (i := 3) hbk3 rfl
  have kc4 := blk_cell (i := 4) hbk3 rfl
  have kc5 := blk_cell (i := 5) hbk3 rfl
  have kc6 := blk_cell (i := 6) hbk3 rfl
  have kc7 := blk_cell (i := 7) hbk3 rfl
  have kc8 := blk_cell (i := 8) hbk3 rfl
  have kc9 := blk_cell (i := 9) hbk3 rfl
  have kc10 := blk_cell (i := 10) hbk3 rfl
  have kc11 := blk_cell (i := 11) hbk3 rfl
  have kc12 := blk_cell (i := 12) hbk3 rfl
  have kc13 := blk_cell (i := 13) hbk3 rfl
  have kc14 := blk_cell (i := 14) hbk3 rfl
  clear hbk3
  go_wp2_with fail
  refine (HF.out _).mono ?_
  rintro e w4 ⟨gn, sn, rfl, N2⟩
  have T0 : Hid (St2 w w4 gm gn 0) := N1'.out.two (Chg.refl _ _) N2
  clear N2 N1' HF kc0 kc1 kc2 kc3 kc4 kc5 kc6 kc7 kc8 kc9 kc10 kc11 kc12 kc13 kc14
  go_wp2_with fail
  go_loopw [15] (fun i wr => ∃ k : Nat, i = .int .i64 k ∧ k ≤ 100 ∧ k ≤ len ∧ St2 w wr gm gn k) (fun i _ => 100 - (intOf i).toNat)
  case atStart => exact ⟨0, rfl, by omega, by omega, T0.out⟩
  case round =>
    obtain ⟨k, rfl, hk100, hkl, hst⟩ := hrel
    clear T0
    by_cases hlt : k < len ∧ k < 100
    · obtain ⟨hlt, hlt2⟩ := hlt
      obtain ⟨hla1, hlb⟩ := HLA.out (by omega)
      subst hla1
      obtain ⟨d, hd, hat⟩ := HL.out k hlt
      have HD : Hid d.Ok := hd
      have HT : Hid (St2 w wr gm gn k) := hst
      obtain ⟨d0, d1, d2, d3, d4, d5, d6, d7⟩ : wr.cell? ⟨lb, lof + k * 8, none⟩ = some (.int .i64 d.k) ∧ wr.cell? ⟨lb, lof + k * 8 + 1, none⟩ = some (.int .i64 d.q.a) ∧ wr.cell? ⟨lb, lof + k * 8 + 2, none⟩ = some (.int .i64 d.q.t) ∧ wr.cell? ⟨lb, lof + k * 8 + 3, none⟩ = some (.int .i64 d.q.u) ∧ wr.cell? ⟨lb, lof + k * 8 + 4, none⟩ = some (.int .i64 d.q.r) ∧ wr.cell? ⟨lb, lof + k * 8 + 5, none⟩ = some (.int .i64 d.q.c) ∧ wr.cell? ⟨lb, lof + k * 8 + 6, none⟩ = some (.int .u32 d.x) ∧ wr.cell? ⟨lb, lof + k * 8 + 7, none⟩ = some (.string d.tx) := ⟨hst.chg.cell hat.1 (by simp), hst.chg.cell hat.2.1 (by simp), hst.chg.cell hat.2.2.1 (by simp), hst.chg.cell hat.2.2.2.1 (by simp), hst.chg.cell hat.2.2.2.2.1 (by simp), hst.chg.cell hat.2.2.2.2.2.1 (by simp), hst.chg.cell hat.2.2.2.2.2.2.1 (by simp), hst.chg.cell hat.2.2.2.2.2.2.2 (by simp)⟩
      clear hd hat hst
      have hk1 : (k : Int) < (len : Int) := by omega
      have hk2 : (k : Int) < 100 := by omega
      have hbx := heap_alloc_new wr (.cells [.int .i64 d.k, .int .i64 d.q.a, .int .i64 d.q.t, .int .i64 d.q.u, .int .i64 d.q.r, .int .i64 d.q.c, .int .u32 d.x, .string d.tx].toArray 80)
      have hcw : Chg [] wr (wr.alloc (.cells [.int .i64 d.k, .int .i64 d.q.a, .int .i64 d.q.t, .int .i64 d.q.u, .int .i64 d.q.r, .int .i64 d.q.c, .int .u32 d.x, .string d.tx].toArray 80)) := (Chg.refl _ _).alloc _
      obtain ⟨wb, hwb⟩ : ∃ wb, wb = wr.alloc (.cells [.int .i64 d.k, .int .i64 d.q.a, .int .i64 d.q.t, .int .i64 d.q.u, .int .i64 d.q.r, .int .i64 d.q.c, .int .u32 d.x, .string d.tx].toArray 80) := ⟨_, rfl⟩
      rw [← hwb] at hbx hcw
      have HWB : Hid (wr.alloc (.cells [.int .i64 d.k, .int .i64 d.q.a, .int .i64 d.q.t, .int .i64 d.q.u, .int .i64 d.q.r, .int .i64 d.q.c, .int .u32 d.x, .string d.tx].toArray 80) = wb) := hwb.symm
      clear hwb
      have e0 := blk_cell (i := 0) hbx rfl
      have e1 := blk_cell (i := 1) hbx rfl
      have e2 := blk_cell (i := 2) hbx rfl
      have e3 := blk_cell (i := 3) hbx rfl
      have e4 := blk_cell (i := 4) hbx rfl
      have e5 := blk_cell (i := 5) hbx rfl
      have e6 := blk_cell (i := 6) hbx rfl
      have e7 := blk_cell (i := 7) hbx rfl
      have HBX : Hid _ := hbx
      clear hbx
      have hkw := HWB.out
      by_cases hK : 1 ≤ d.k ∧ d.k ≤ 4
      · have hK1 := hK.1
        have hK2 := hK.2
        go_wp2_with fail
        refine (HT.out.kind d.k hK hlt2 HD.out.2.1 HD.out.2.2.1 hcw).mono ?_
        rintro e w5 ⟨c, rfl, q5, T1⟩
        have b5 := q5.blk HBX.out (by simp)
        go_wp2_with fail
        refine (T1 w5 (Chg.refl _ _)).mono ?_
        rintro e w6 ⟨t, rfl, kp, T2⟩
        have b6 := kp _ _ (Nat.le_refl _) b5
        have f0 := blk_cell (i := 0) b6 rfl
        have f1 := blk_cell (i := 1) b6 rfl
        have f2 := blk_cell (i := 2) b6 rfl
        have f3 := blk_cell (i := 3) b6 rfl
        have f4 := blk_cell (i := 4) b6 rfl
        have f5 := blk_cell (i := 5) b6 rfl
        have f6 := blk_cell (i := 6) b6 rfl
        have f7 := blk_cell (i := 7) b6 rfl
        clear T1 b5 b6 kp q5
        go_wp2_with fail
        refine (T2 w6 (Chg.refl _ _)).mono ?_
        rintro e w7 ⟨rfl, T3⟩
        go_wp2_with fail
        go_roundw
        case rel => exact ⟨k + 1, by go_num, by omega, by omega, T3⟩
        case measure => simp [intOf]; omega
      · rcases Int.lt_or_le d.k 1 with hK1 | hK1
        · have hK2 : ¬ 1 ≤ d.k := by omega
          go_wp2_with fail
          refine ((HT.out.chg0 hcw).text hlt2 HD.out.2.2.2).mono ?_
          rintro e w5 ⟨o, rfl, q5, T1⟩
          cases o
          · have b5 := q5.blk HBX.out (by simp)
            have f7 := blk_cell (i := 7) b5 rfl
            clear b5
            go_wp2_with fail
            refine (T1 (by simp) w5 (Chg.refl _ _)).mono ?_
            rintro e w6 ⟨rfl, T2⟩
            clear T1
            go_wp2_with fail
            go_roundw
            case rel => exact ⟨k + 1, by go_num, by omega, by omega, T2⟩
            case measure => simp [intOf]; omega
          · clear T1
            go_wp2_with fail
            go_roundw
            case rel => exact ⟨k + 1, by go_num, by omega, by omega, ((HT.out.chg0 hcw).chg0 q5).succ⟩
            case measure => simp [intOf]; omega
        · have hK2 : ¬ d.k ≤ 4 := fun h => hK ⟨hK1, h⟩
          go_wp2_with fail
          refine ((HT.out.chg0 hcw).text hlt2 HD.out.2.2.2).mono ?_
          rintro e w5 ⟨o, rfl, q5, T1⟩
          cases o
          · have b5 := q5.blk HBX.out (by simp)
            have f7 := blk_cell (i := 7) b5 rfl
            clear b5
            go_wp2_with fail
            refine (T1 (by simp) w5 (Chg.refl _ _)).mono ?_
            rintro e w6 ⟨rfl, T2⟩
            clear T1
            go_wp2_with fail
            go_roundw
            case rel => exact ⟨k + 1, by go_num, by omega, by omega, T2⟩
            case measure => simp [intOf]; omega
          · clear T1
            go_wp2_with fail
            go_roundw
            case rel => exact ⟨k + 1, by go_num, by omega, by omega, ((HT.out.chg0 hcw).chg0 q5).succ⟩
            case measure => simp [intOf]; omega
    · by_cases hl1 : k < len
      · have hk1 : (k : Int) < (len : Int) := by omega
        have hk2 : ¬ (k : Int) < 100 := by omega
        obtain ⟨now, hn⟩ := hst.now
        clear hst
        go_wp2_with fail
        refine hn.mono ?_
        rintro e w5 ⟨rfl, h5⟩
        go_wp2_with fail
        refine (h5 w5 (Chg.refl _ _)).mono ?_
        rintro e w6 ⟨rfl, hc6⟩
        go_wp2
        go_ret
        exact ⟨by simp, hc6⟩
      · have hk1 : ¬ (k : Int) < (len : Int) := by omega
        obtain ⟨now, hn⟩ := hst.now
        clear hst
        go_wp2_with fail
        refine hn.mono ?_
        rintro e w5 ⟨rfl, h5⟩
        go_wp2_with fail
        refine (h5 w5 (Chg.refl _ _)).mono ?_
        rintro e w6 ⟨rfl, hc6⟩
        go_wp2
        go_ret
        exact ⟨by simp, hc6⟩
end Go.Proofs.Ytbdnhllhdjepcaa
