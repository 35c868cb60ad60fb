import Derived.Test.YtbdnhllhdjepcaaAsk
namespace Go.Proofs.Ytbdnhllhdjepcaa
set_option linter.unusedVariables false
set_option linter.unusedSimpArgs false
open Go.RowKit Go.Maps

set_option maxRecDepth 100000 in
theorem field47_0 (a b c : Int) (w : World) : Sem.run Try.prog (Instr.field 47 (.agg #[.int .u16 a, .int .u16 b, .int .u16 c]) 0) w = .ok (.int .u16 a) w := by
  simp [Instr.field, Try.underlying47, asAgg, part, isAgg, Try.underlying45]

set_option maxRecDepth 100000 in
set_option maxHeartbeats 8000000 in
theorem apart_any (a0 a1 a2 b0 b1 b2 c0 c1 c2 s who : Int) (la : Option Addr) (lb lof len cap : Nat) (w : World) (ha : Raw a0 a1 a2) (hb : Raw b0 b1 b2) (hc : Raw c0 c1 c2) (hs : I64 s) (hwho : I64 who) (hlen : len ≤ 9223372036854775807) (hla : 0 < len → la = some ⟨lb, lof, none⟩ ∧ lb < w.heap.size)
    (hl : ∀ j : Nat, j < len → ∃ q : Rq, q.Ok ∧ AskAt w lb (lof + j * 5) q) :
    Calls Try.prog 7 #[.agg #[.int .i64 a0, .int .i64 a1, .int .i64 a2], .agg #[.int .i64 b0, .int .i64 b1, .int .i64 b2], .agg #[.int .i64 c0, .int .i64 c1, .int .i64 c2], .int .i64 s, .slice la len cap, .int .i64 who] w fun e w' => e = .returned (.bool true) ∧ Chg [] w w' := by
  have hpk := pk_bd s 9 (by decide)
  have HP : Hid (∀ W, Calls Try.prog 19 #[.int .i64 s, .int .i64 9] W fun e w' => e = .returned (.int .i64 (pk s 9)) ∧ w' = W) := fun W => pick_any s 9 W hs.1 hs.2 (by decide) (by decide)
  obtain ⟨sl, hsl⟩ : ∃ sl, 3 + pk s 9 = sl := ⟨_, rfl⟩
  have HC : Hid (∀ W, Calls Try.prog 11 #[.agg #[.int .i64 a0, .int .i64 a1, .int .i64 a2], .agg #[.int .i64 b0, .int .i64 b1, .int .i64 b2], .agg #[.int .i64 c0, .int .i64 c1, .int .i64 c2], .int .i64 3, .int .i64 (3 + pk s 9)] W fun e w' => e = .returned (.agg #[.int .i64 (1 + pk a0 9), .int .i64 (1 + pk a1 60), .int .i64 (pk a2 201), .int .i64 (1 + pk b0 9), .int .i64 (1 + pk b1 60), .int .i64 (pk b2 201), .int .i64 (1 + pk c0 9), .int .i64 (1 + pk c1 60), .int .i64 (pk c2 201), .slice none 0 0, .int .i64 3, .int .i64 sl, .int .i64 3, .int .i64 20, .int .i64 5]) ∧ Chg [] W w') := fun W => by
    have := conf_any a0 a1 a2 b0 b1 b2 c0 c1 c2 3 (3 + pk s 9) W ha hb hc
    rw [hsl] at this
    rw [hsl]
    exact this
  have hsl3 : 3 ≤ sl ∧ sl ≤ 11 := by omega
  have HF : Hid (∀ W, Calls Try.prog 12 #[.agg #[.int .i64 (1 + pk a0 9), .int .i64 (1 + pk a1 60), .int .i64 (pk a2 201), .int .i64 (1 + pk b0 9), .int .i64 (1 + pk b1 60), .int .i64 (pk b2 201), .int .i64 (1 + pk c0 9), .int .i64 (1 + pk c1 60), .int .i64 (pk c2 201), .slice none 0 0, .int .i64 3, .int .i64 sl, .int .i64 3, .int .i64 20, .int .i64 5]] W fun e w' => ∃ g, e = .returned (.tuple #[.pointer (some ⟨g.mb, 0, none⟩), .bool true]) ∧ IsNew W w' g 3 sl ⟨ivl (1 + pk a0 9) (1 + pk a1 60), pk a2 201, ivl (1 + pk b0 9) (1 + pk b1 60), pk b2 201, ivl (1 + pk c0 9) (1 + pk c1 60), pk c2 201, .map []⟩) := fun W =>
    fresh_any _ _ _ _ _ _ _ _ _ sl 3 20 5 3 W (qok_pk a0 a1 a2) (qok_pk b0 b1 b2) (qok_pk c0 c1 c2) (by decide) (by decide) (by omega) (by omega) (by decide) (by decide) (by decide) (by decide) (by decide) (by decide)
  have wsl : IntKind.i64.wrap (3 + pk s 9) = 3 + pk s 9 := wrapi ⟨by omega, by omega⟩
  have HL : Hid (∀ j : Nat, j < len → ∃ q : Rq, q.Ok ∧ AskAt w lb (lof + j * 5) q) := hl
  generalize pk s 9 = ps at *
  have HLA : Hid (0 < len → la = some ⟨lb, lof, none⟩ ∧ lb < w.heap.size) := hla
  clear hla
  have hpw := pk_bd who 3 (by decide)
  have HPW : Hid (∀ W, Calls Try.prog 19 #[.int .i64 who, .int .i64 3] W fun e w' => e = .returned (.int .i64 (pk who 3)) ∧ w' = W) := fun W => pick_any who 3 W hwho.1 hwho.2 (by decide) (by decide)
  have wwh : IntKind.u16.wrap (pk who 3) = pk who 3 := wrap16 ⟨by omega, by omega⟩
  generalize pk who 3 = tw at *
  obtain ⟨tt, htt⟩ : ∃ tt : Nat, tw = (tt : Int) := ⟨tw.toNat, by omega⟩
  subst htt
  clear hl hs ha hb hc hsl hwho
  obtain ⟨w0, hw0⟩ : ∃ w0, w0 = ((w.alloc (.cells [.int .i64 a0, .int .i64 a1, .int .i64 a2].toArray 23)).alloc (.cells [.int .i64 b0, .int .i64 b1, .int .i64 b2].toArray 23)).alloc (.cells [.int .i64 c0, .int .i64 c1, .int .i64 c2].toArray 23) := ⟨_, rfl⟩
  have g0 : w0.heap[w.heap.size]? = some (.cells [.int .i64 a0, .int .i64 a1, .int .i64 a2].toArray 23 (0, 0)) := hw0 ▸ blk_alloc (heap_alloc2_old _ _ _) _
  have g1 : w0.heap[w.heap.size + 1]? = some (.cells [.int .i64 b0, .int .i64 b1, .int .i64 b2].toArray 23 (0, 0)) := hw0 ▸ blk_alloc (heap_alloc2_new _ _ _) _
  have g2 : w0.heap[w.heap.size + 2]? = some (.cells [.int .i64 c0, .int .i64 c1, .int .i64 c2].toArray 23 (0, 0)) := by
    rw [hw0]
    have := heap_alloc2_new (w.alloc (.cells [.int .i64 a0, .int .i64 a1, .int .i64 a2].toArray 23)) (.cells [.int .i64 b0, .int .i64 b1, .int .i64 b2].toArray 23) (.cells [.int .i64 c0, .int .i64 c1, .int .i64 c2].toArray 23)
    simpa using this
  have hc0 : Chg [] w w0 := hw0 ▸ (((Chg.refl _ _).alloc _).alloc _).alloc _
  have HW0 : Hid (w0 = ((w.alloc (.cells [.int .i64 a0, .int .i64 a1, .int .i64 a2].toArray 23)).alloc (.cells [.int .i64 b0, .int .i64 b1, .int .i64 b2].toArray 23)).alloc (.cells [.int .i64 c0, .int .i64 c1, .int .i64 c2].toArray 23)) := hw0
  clear hw0
  go_enter Try.func7, Try.ntmps7
  go_wp2_with fail
  rw [show ((w.alloc (.cells #[.int .i64 a0, .int .i64 a1, .int .i64 a2] 23)).alloc (.cells #[.int .i64 b0, .int .i64 b1, .int .i64 b2] 23)).alloc (.cells #[.int .i64 c0, .int .i64 c1, .int .i64 c2] 23) = w0 from HW0.out.symm]
  refine (begun_any w0).mono ?_
  rintro e w1 ⟨rfl, q1⟩
  have HS : Hid (∀ W, Chg [] w1 W → (W.cell? ⟨w.heap.size, 0, none⟩ = some (.int .i64 a0) ∧ W.cell? ⟨w.heap.size, 1, none⟩ = some (.int .i64 a1) ∧ W.cell? ⟨w.heap.size, 2, none⟩ = some (.int .i64 a2) ∧ W.cell? ⟨w.heap.size + 1, 0, none⟩ = some (.int .i64 b0) ∧ W.cell? ⟨w.heap.size + 1, 1, none⟩ = some (.int .i64 b1) ∧ W.cell? ⟨w.heap.size + 1, 2, none⟩ = some (.int .i64 b2) ∧ W.cell? ⟨w.heap.size + 2, 0, none⟩ = some (.int .i64 c0) ∧ W.cell? ⟨w.heap.size + 2, 1, none⟩ = some (.int .i64 c1) ∧ W.cell? ⟨w.heap.size + 2, 2, none⟩ = some (.int .i64 c2))) := fun W hW => by
    have k0 := (q1.trans hW (by simp)).blk g0 (by simp)
    have k1 := (q1.trans hW (by simp)).blk g1 (by simp)
    have k2 := (q1.trans hW (by simp)).blk g2 (by simp)
    exact ⟨blk_cell k0 rfl, blk_cell k0 rfl, blk_cell k0 rfl, blk_cell k1 rfl, blk_cell k1 rfl, blk_cell k1 rfl, blk_cell k2 rfl, blk_cell k2 rfl, blk_cell k2 rfl⟩
  have hc1 := hc0.trans q1 (by simp)
  have v1 : Chg [] w1 w1.drew := (Chg.refl _ _).drew
  clear hc0 q1 g0 g1 g2 HW0
  go_upto_region 2 with fail
  go_cut [14] (fun s14 wx => ∃ b : Nat, s14 = .pointer (some ⟨b, 0, none⟩) ∧ wx.heap[b]? = some (.cells [.int .i64 (1 + pk a0 9), .int .i64 (1 + pk a1 60), .int .i64 (pk a2 201), .int .i64 (1 + pk b0 9), .int .i64 (1 + pk b1 60), .int .i64 (pk b2 201), .int .i64 (1 + pk c0 9), .int .i64 (1 + pk c1 60), .int .i64 (pk c2 201), .slice none 0 0, .int .i64 3, .int .i64 sl, .int .i64 3, .int .i64 20, .int .i64 5].toArray 30 (0, 0)) ∧ Chg [] w wx)
  case first =>
    go_region_held3 (fun W => W.cell? ⟨w.heap.size, 0, none⟩ = some (.int .i64 a0) ∧ W.cell? ⟨w.heap.size, 1, none⟩ = some (.int .i64 a1) ∧ W.cell? ⟨w.heap.size, 2, none⟩ = some (.int .i64 a2) ∧ W.cell? ⟨w.heap.size + 1, 0, none⟩ = some (.int .i64 b0) ∧ W.cell? ⟨w.heap.size + 1, 1, none⟩ = some (.int .i64 b1) ∧ W.cell? ⟨w.heap.size + 1, 2, none⟩ = some (.int .i64 b2) ∧ W.cell? ⟨w.heap.size + 2, 0, none⟩ = some (.int .i64 c0) ∧ W.cell? ⟨w.heap.size + 2, 1, none⟩ = some (.int .i64 c1) ∧ W.cell? ⟨w.heap.size + 2, 2, none⟩ = some (.int .i64 c2))
      (first | with_reducible exact HS.out _ v2 | with_reducible exact HS.out _ v1 | with_reducible exact HS.out _ (v1.alloc _) | with_reducible exact HS.out _ (((Chg.refl [] w1).alloc _).drew) | with_reducible exact HS.out _ (v2.alloc _) | with_reducible exact HS.out _ (((((((((((((((v2.set _ _ (Or.inr (by dsimp only; omega))).set _ _ (Or.inr (by dsimp only; omega))).set _ _ (Or.inr (by dsimp only; omega))).set _ _ (Or.inr (by dsimp only; omega))).set _ _ (Or.inr (by dsimp only; omega))).set _ _ (Or.inr (by dsimp only; omega))).set _ _ (Or.inr (by dsimp only; omega))).set _ _ (Or.inr (by dsimp only; omega))).set _ _ (Or.inr (by dsimp only; omega))).set _ _ (Or.inr (by dsimp only; omega))).set _ _ (Or.inr (by dsimp only; omega))).set _ _ (Or.inr (by dsimp only; omega))).set _ _ (Or.inr (by dsimp only; omega))).set _ _ (Or.inr (by dsimp only; omega))).set _ _ (Or.inr (by dsimp only; omega))))
      (first | (go_at_call 19; refine (HP.out _).mono ?_; rintro e w' ⟨rfl, rfl⟩) | (go_at_call 11; refine (HC.out _).mono ?_; rintro e w2 ⟨rfl, q2⟩; have v2 : Chg [] w1 w2 := (by first | exact v1.trans q2 (by simp) | exact (((Chg.refl [] w1).alloc _).drew).trans q2 (by simp)); (try have z2 : w2.heap[w1.heap.size]? = some (.cells [.int .i64 0, .int .i64 0, .int .i64 0, .int .i64 0, .int .i64 0, .int .i64 0, .int .i64 0, .int .i64 0, .int .i64 0, .slice none 0 0, .int .i64 0, .int .i64 0, .int .i64 0, .int .i64 0, .int .i64 0].toArray 30 (0, 0)) := q2.blk (b := w1.heap.size) (heap_alloc_new w1 _) (by simp)); (try (have z2c0 := blk_cell (i := 0) z2 rfl; have z2c1 := blk_cell (i := 1) z2 rfl; have z2c2 := blk_cell (i := 2) z2 rfl; have z2c3 := blk_cell (i := 3) z2 rfl; have z2c4 := blk_cell (i := 4) z2 rfl; have z2c5 := blk_cell (i := 5) z2 rfl; have z2c6 := blk_cell (i := 6) z2 rfl; have z2c7 := blk_cell (i := 7) z2 rfl; have z2c8 := blk_cell (i := 8) z2 rfl; have z2c9 := blk_cell (i := 9) z2 rfl; have z2c10 := blk_cell (i := 10) z2 rfl; have z2c11 := blk_cell (i := 11) z2 rfl; have z2c12 := blk_cell (i := 12) z2 rfl; have z2c13 := blk_cell (i := 13) z2 rfl; have z2c14 := blk_cell (i := 14) z2 rfl; have z2f := fun i => blk_free (i := i) z2))))
    · go_wp2
      go_meet
      case rel => exact ⟨w2.heap.size, rfl, heap_alloc_new w2 _, (hc1.trans v2 (by simp)).alloc _⟩
    all_goals
      go_wp2
      go_meet
      case rel =>
        have hw1s := hc1.size
        have rr := blk_set (i := 14) (.int .i64 5) (blk_set (i := 13) (.int .i64 20) (blk_set (i := 12) (.int .i64 3) (blk_set (i := 11) (.int .i64 sl) (blk_set (i := 10) (.int .i64 3) (blk_set (i := 9) (.slice none 0 0) (blk_set (i := 8) (.int .i64 (pk c2 201)) (blk_set (i := 7) (.int .i64 (1 + pk c1 60)) (blk_set (i := 6) (.int .i64 (1 + pk c0 9)) (blk_set (i := 5) (.int .i64 (pk b2 201)) (blk_set (i := 4) (.int .i64 (1 + pk b1 60)) (blk_set (i := 3) (.int .i64 (1 + pk b0 9)) (blk_set (i := 2) (.int .i64 (pk a2 201)) (blk_set (i := 1) (.int .i64 (1 + pk a1 60)) (blk_set (i := 0) (.int .i64 (1 + pk a0 9)) z2))))))))))))))
        exact ⟨w1.heap.size, rfl, rr, ((((((((((((((((hc1.trans v2 (by simp)).set _ _ (Or.inr (by dsimp only; omega))).set _ _ (Or.inr (by dsimp only; omega))).set _ _ (Or.inr (by dsimp only; omega))).set _ _ (Or.inr (by dsimp only; omega))).set _ _ (Or.inr (by dsimp only; omega))).set _ _ (Or.inr (by dsimp only; omega))).set _ _ (Or.inr (by dsimp only; omega))).set _ _ (Or.inr (by dsimp only; omega))).set _ _ (Or.inr (by dsimp only; omega))).set _ _ (Or.inr (by dsimp only; omega))).set _ _ (Or.inr (by dsimp only; omega))).set _ _ (Or.inr (by dsimp only; omega))).set _ _ (Or.inr (by dsimp only; omega))).set _ _ (Or.inr (by dsimp only; omega))).set _ _ (Or.inr (by dsimp only; omega)))⟩
  case rest =>
    obtain ⟨b, rfl, hbk, hcx⟩ := hcut
    clear HS HP HC v1 wsl
    have kc0 := blk_cell (i := 0) hbk rfl
    have kc1 := blk_cell (i := 1) hbk rfl
    have kc2 := blk_cell (i := 2) hbk rfl
    have kc3 := blk_cell (i := 3) hbk rfl
    have kc4 := blk_cell (i := 4) hbk rfl
    have kc5 := blk_cell (i := 5) hbk rfl
    have kc6 := blk_cell (i := 6) hbk rfl
    have kc7 := blk_cell (i := 7) hbk rfl
    have kc8 := blk_cell (i := 8) hbk rfl
    have kc9 := blk_cell (i := 9) hbk rfl
    have kc10 := blk_cell (i := 10) hbk rfl
    have kc11 := blk_cell (i := 11) hbk rfl
    have kc12 := blk_cell (i := 12) hbk rfl
    have kc13 := blk_cell (i := 13) hbk rfl
    have kc14 := blk_cell (i := 14) hbk rfl
    go_wp2_with fail
    refine (HF.out _).mono ?_
    rintro e w3 ⟨gm, rfl, okm, hm3, hc3, hmlo, hmhi, hmn, hms, hmp⟩
    have hbk3 := hc3.blk hbk (by simp)
    have hcx3 := hcx.trans hc3 (by simp)
    clear hbk kc0 kc1 kc2 kc3 kc4 kc5 kc6 kc7 kc8 kc9 kc10 kc11 kc12 kc13 kc14
    have kc0 := blk_cell (i := 0) hbk3 rfl
    have kc1 := blk_cell (i := 1) hbk3 rfl
    have kc2 := blk_cell (i := 2) hbk3 rfl
    have kc3 := blk_cell (i := 3) hbk3 rfl
    have kc4 := blk_cell (i := 4) hbk3 rfl
    have kc5 := blk_cell (i := 5) hbk3 rfl
    have kc6 := blk_cell (i := 6) hbk3 rfl
    have kc7 := blk_cell (i := 7) hbk3 rfl
    have kc8 := blk_cell (i := 8) hbk3 rfl
    have kc9 := blk_cell (i := 9) hbk3 rfl
    have kc10 := blk_cell (i := 10) hbk3 rfl
    have kc11 := blk_cell (i := 11) hbk3 rfl
    have kc12 := blk_cell (i := 12) hbk3 rfl
    have kc13 := blk_cell (i := 13) hbk3 rfl
    have kc14 := blk_cell (i := 14) hbk3 rfl
    go_wp2_with fail
    refine (HF.out _).mono ?_
    rintro e w4 ⟨gn, rfl, okn, hn4, hc4, hnlo, hnhi, hnn, hns, hnp⟩
    have hm4 := hm3.chg0 hc4
    have hcx4 := hcx3.trans hc4 (by simp)
    have hw3s := hcx3.size
    have hwcs := hcx.size
    have hw4s := hc4.size
    clear hbk3 kc0 kc1 kc2 kc3 kc4 kc5 kc6 kc7 kc8 kc9 kc10 kc11 kc12 kc13 kc14 hm3 hc3 HF
    go_wp2_with fail
    refine (HPW.out _).mono ?_
    rintro e w' ⟨rfl, rfl⟩
    go_wp2_with fail
    have hwm : w.heap.size ≤ gm.lo := by omega
    have hnr : gn.lo ≤ gn.hi := by have := okn.mr; omega
    have hmnl : gm.hi ≤ gn.lo := by omega
    have hwn : w.heap.size ≤ gn.lo := by omega
    have HPS : Hid (gn.p = gm.p ∧ gn.sl = gm.sl) := ⟨hnp.trans hmp.symm, hns.trans hms.symm⟩
    clear hms hmp hns hnp hnlo hmlo hmhi hw3s hwcs hw4s hcx3 hc4
    go_loopw [20] (fun i wr => ∃ (k : Nat) (now : Int) (Dm Dn : Nat → DW), i = .int .i64 k ∧ k ≤ 80 ∧ k ≤ len ∧ 0 ≤ now ∧ now ≤ 30 * k ∧ MtrAt wr gm now Dm ∧ MtrAt wr gn now Dn ∧ (∀ j, Inv now (Dm j)) ∧ (∀ j, Inv now (Dn j)) ∧ fgt now (Dm tt) = fgt now (Dn tt) ∧ Chg [] w wr ∧ gn.hi ≤ wr.heap.size) (fun i _ => 80 - (intOf i).toNat)
    case atStart => exact ⟨0, 0, fun _ => .map [], fun _ => .map [], rfl, by omega, by omega, by omega, by omega, hm4, hn4, fun _ => Inv.empty, fun _ => Inv.empty, rfl, hcx4, hnhi⟩
    case round =>
      obtain ⟨k, now, Dm, Dn, rfl, hk80, hkl, h0, h1, hmm, hmn', im, inn, hfg, hcr, hhr⟩ := hrel
      clear hm4 hn4 hcx4 hnhi
      by_cases hlt : k < len
      · by_cases hlt2 : k < 80
        · obtain ⟨hla1, hlb⟩ := HLA.out (by omega)
          subst hla1
          obtain ⟨q, hq, hat⟩ := HL.out k hlt
          have hpa := pk_bd q.a 30 (by decide)
          have hpc := pk_bd q.c 4 (by decide)
          have HFG : Hid (fgt now (Dm tt) = fgt now (Dn tt)) := hfg
          have hpt := pk_bd q.t 3 (by decide)
          have HQ : Hid q.Ok := hq
          have HAT : Hid (∀ W, Chg [] w W → (W.cell? ⟨lb, lof + k * 5, none⟩ = some (.int .i64 q.a) ∧ W.cell? ⟨lb, lof + k * 5 + 1, none⟩ = some (.int .i64 q.t) ∧ W.cell? ⟨lb, lof + k * 5 + 2, none⟩ = some (.int .i64 q.u) ∧ W.cell? ⟨lb, lof + k * 5 + 3, none⟩ = some (.int .i64 q.r) ∧ W.cell? ⟨lb, lof + k * 5 + 4, none⟩ = some (.int .i64 q.c))) := fun W hW => ⟨hW.cell hat.1 (by simp), hW.cell hat.2.1 (by simp), hW.cell hat.2.2.1 (by simp), hW.cell hat.2.2.2.1 (by simp), hW.cell hat.2.2.2.2 (by simp)⟩
          have HI : Hid ((∀ j, Inv now (Dm j)) ∧ (∀ j, Inv now (Dn j))) := ⟨im, inn⟩
          obtain ⟨d0, d1, d2, d3, d4⟩ := HAT.out wr hcr
          clear hfg hq hat im inn
          have hk0 : (0 : Int) ≤ (k : Int) := by omega
          have hk1 : (k : Int) < (len : Int) := by omega
          have hk2 : (k : Int) < 80 := by omega
          obtain ⟨i, hi⟩ : ∃ i : Nat, pk q.t 3 = (i : Int) := ⟨(pk q.t 3).toNat, by omega⟩
          have HI3 : Hid (∀ g : St, g.n = 3 → pk q.t 3 % (g.n : Int) = (i : Int)) := fun g hg => by rw [hg]; omega
          have HTI : Hid (pk q.t 3 = (i : Int)) := hi
          clear hi
          go_wp2_with fail
          refine (asked_any gm now Dm q.a q.t q.u q.r q.c i wr hmm okm (by omega) HQ.out.1 HQ.out.2.1 HQ.out.2.2.1 HQ.out.2.2.2.1 HQ.out.2.2.2.2 h0 (by omega) (HI3.out gm hmn) (HI.out.1 i)).mono ?_
          rintro e w5 ⟨rfl, hm5, f5, i5⟩
          obtain ⟨st, lv, rt, D', hX⟩ : ∃ st lv rt D', allowD gm.p gm.sl (Dm i) (now + pk q.a 30) (1 + pk q.c 4) (pk q.t 3) (pk q.u 2) (pk q.r 2) = ((st, lv, rt), D') := ⟨_, _, _, _, rfl⟩
          have HX : Hid (allowD gm.p gm.sl (Dm i) (now + pk q.a 30) (1 + pk q.c 4) (pk q.t 3) (pk q.u 2) (pk q.r 2) = ((st, lv, rt), D')) := hX
          rw [hX] at hm5 i5 ⊢
          clear hX
          simp only [repV]
          simp only at hm5 i5
          have hn5 := hmn'.fr okn f5 (Or.inr hmnl)
          have hc5 := hcr.fr2 f5 hwm
          have s5 := f5.size
          obtain ⟨d0, d1, d2, d3, d4⟩ := HAT.out _ hc5
          have hlb5 : lb < w5.heap.size := by have := hc5.size; omega
          have hm5' := hm5.chg0 ((Chg.refl [] w5).alloc (.cells [.int .i64 st, .int .i64 lv, .int .u64 rt].toArray 42))
          have hn5' := hn5.chg0 ((Chg.refl [] w5).alloc (.cells [.int .i64 st, .int .i64 lv, .int .u64 rt].toArray 42))
          have r5 := heap_alloc_new w5 (.cells [.int .i64 st, .int .i64 lv, .int .u64 rt].toArray 42)
          have hc5' := hc5.alloc (.cells [.int .i64 st, .int .i64 lv, .int .u64 rt].toArray 42)
          have HM5 : Hid (MtrAt (w5.alloc (.cells [.int .i64 st, .int .i64 lv, .int .u64 rt].toArray 42)) gm (now + pk q.a 30) (fun j => if j = i then D' else Dm j) ∧ MtrAt (w5.alloc (.cells [.int .i64 st, .int .i64 lv, .int .u64 rt].toArray 42)) gn now Dn) := ⟨hm5', hn5'⟩
          clear hm5 hn5 hc5 hmm hmn' f5 hm5' hn5'
          go_wp2_with fail
          refine (wait_any q.a q.t q.u q.r q.c _ HQ.out.1).mono ?_
          rintro e w6 ⟨rfl, q6⟩
          have hm6 := HM5.out.1.chg0 q6
          have hn6 := HM5.out.2.chg0 q6
          have r6 := q6.blk r5 (by simp)
          have hc6 := hc5'.trans q6 (by simp)
          have s6 := q6.size
          simp at s6
          clear HM5 q6 r5 hc5' d0 d1 d2 d3 d4
          go_wp2_with fail
          refine (MAdvance gn now (pk q.a 30) _ w6 hn6 okn h0 (by omega) hpa.1 (by omega)).mono ?_
          rintro e w7a ⟨rfl, hn7, f7⟩
          rw [show min (now + pk q.a 30) 9223372036854775807 = now + pk q.a 30 from by omega] at hn7
          have hm7 := hm6.fr okm f7 (Or.inl hmnl)
          have r7 := f7.blk r6 (Or.inr (by omega))
          have hc7 := hc6.fr2 f7 hwn
          have s7 := f7.size
          clear hm6 hn6 r6 hc6 f7
          obtain ⟨d0, d1, d2, d3, d4⟩ := HAT.out _ hc7
          go_wp2_with fail
          refine (key_any q.a q.t q.u q.r q.c _ HQ.out.2.1 HQ.out.2.2.1 HQ.out.2.2.2.1).mono ?_
          rintro e w7 ⟨rfl, q7⟩
          replace hm7 := hm7.chg0 q7
          replace hn7 := hn7.chg0 q7
          replace r7 := q7.blk r7 (by simp)
          replace hc7 := hc7.trans q7 (by simp)
          have s7b := q7.size
          have r70 := blk_cell (i := 0) r7 rfl
          have r71 := blk_cell (i := 1) r7 rfl
          have r72 := blk_cell (i := 2) r7 rfl
          clear q7 d0 d1 d2 d3 d4
          go_wp2_with fail
          rw [field47_0]
          simp only [Result.andThen]
          by_cases hti : i = tt
          · subst hti
            have hte : (pk q.t 3 != (i : Int)) = false := by rw [HTI.out]; simp
            have hte' : (pk q.t 3 == (i : Int)) = true := by rw [HTI.out]; simp
            have HXN : Hid (allowD gn.p gn.sl (Dn i) (now + pk q.a 30) (1 + pk q.c 4) (pk q.t 3) (pk q.u 2) (pk q.r 2) = ((st, lv, rt), D')) := by
              show _ = _
              rw [HPS.out.1, HPS.out.2, ← HX.out]
              exact allowD_fgt (by omega) _ _ _ _ _ _ _ _ HFG.out.symm
            have HAll : Hid (∀ W, MtrAt W gn (now + pk q.a 30) Dn → Calls Try.prog 20 #[.pointer (some ⟨gn.mb, 0, none⟩), .agg #[.int .u16 (pk q.t 3), .int .u16 (pk q.u 2), .int .u16 (pk q.r 2)], .int .i64 (1 + pk q.c 4)] W fun e w' =>
                e = .returned (.tuple #[.agg #[.int .i64 st, .int .i64 lv, .int .u64 rt], .int .i64 0]) ∧ MtrAt w' gn (now + pk q.a 30) (fun j => if j = i then D' else Dn j) ∧ Fr gn.lo gn.hi W w' ∧ Inv (now + pk q.a 30) D') := fun W hW => by
              have := MAllow gn (now + pk q.a 30) (1 + pk q.c 4) (pk q.t 3) (pk q.u 2) (pk q.r 2) Dn i W hW okn (HI3.out gn hnn) ((HI.out.2 i).mono (by omega)) (by omega) (by omega) (by omega) (by omega) (wf16 (by decide) (by decide)) (wf16 (by decide) (by decide)) (wf16 (by decide) (by decide))
              rw [HXN.out] at this
              exact this
            have HKy : Hid (∀ W, Calls Try.prog 15 #[.agg #[.int .i64 q.a, .int .i64 q.t, .int .i64 q.u, .int .i64 q.r, .int .i64 q.c]] W fun e w' => e = .returned (.agg #[.int .u16 (pk q.t 3), .int .u16 (pk q.u 2), .int .u16 (pk q.r 2)]) ∧ Chg [] W w') := fun W => key_any q.a q.t q.u q.r q.c W HQ.out.2.1 HQ.out.2.2.1 HQ.out.2.2.2.1
            have HCo : Hid (∀ W, Calls Try.prog 16 #[.agg #[.int .i64 q.a, .int .i64 q.t, .int .i64 q.u, .int .i64 q.r, .int .i64 q.c]] W fun e w' => e = .returned (.int .i64 (1 + pk q.c 4)) ∧ Chg [] W w') := fun W => cost_any q.a q.t q.u q.r q.c W HQ.out.2.2.2.2
            have HS : Hid (∀ W, Fr gn.lo gn.hi w7 W → (W.cell? ⟨lb, lof + k * 5, none⟩ = some (.int .i64 q.a) ∧ W.cell? ⟨lb, lof + k * 5 + 1, none⟩ = some (.int .i64 q.t) ∧ W.cell? ⟨lb, lof + k * 5 + 2, none⟩ = some (.int .i64 q.u) ∧ W.cell? ⟨lb, lof + k * 5 + 3, none⟩ = some (.int .i64 q.r) ∧ W.cell? ⟨lb, lof + k * 5 + 4, none⟩ = some (.int .i64 q.c))) := fun W hW => HAT.out W (hc7.fr2 hW hwn)
            have y7 : Fr gn.lo gn.hi w7 w7.drew := ((Chg.refl [] _).drew).fr (by simp)
            go_upto_region 16 with fail
            go_cut [23, 24] (fun s23 s24 wx => ∃ b : Nat, s23 = .int .i64 0 ∧ s24 = .pointer (some ⟨b, 0, none⟩) ∧ wx.heap[b]? = some (.cells [.int .i64 st, .int .i64 lv, .int .u64 rt].toArray 42 (0, 0)) ∧ wx.heap[w5.heap.size]? = some (.cells [.int .i64 st, .int .i64 lv, .int .u64 rt].toArray 42 (0, 0)) ∧ MtrAt wx gm (now + pk q.a 30) (fun j => if j = i then D' else Dm j) ∧ MtrAt wx gn (now + pk q.a 30) (fun j => if j = i then D' else Dn j) ∧ Inv (now + pk q.a 30) D' ∧ Chg [] w wx ∧ gn.hi ≤ wx.heap.size)
            case first =>
              go_region_held3 (fun W => W.cell? ⟨lb, lof + k * 5, none⟩ = some (.int .i64 q.a) ∧ W.cell? ⟨lb, lof + k * 5 + 1, none⟩ = some (.int .i64 q.t) ∧ W.cell? ⟨lb, lof + k * 5 + 2, none⟩ = some (.int .i64 q.u) ∧ W.cell? ⟨lb, lof + k * 5 + 3, none⟩ = some (.int .i64 q.r) ∧ W.cell? ⟨lb, lof + k * 5 + 4, none⟩ = some (.int .i64 q.c))
                (first | with_reducible exact HS.out _ y10 | with_reducible exact HS.out _ y9 | with_reducible exact HS.out _ y8 | with_reducible exact HS.out _ y7 | with_reducible exact HS.out _ (FrA y9 _) | with_reducible exact HS.out _ (FrA y8 _) | with_reducible exact HS.out _ (FrD w7 _) | with_reducible exact HS.out _ (FrA y10 _) | with_reducible exact HS.out _ (FrS (FrS (FrS y10 _ _ (by dsimp only; omega)) _ _ (by dsimp only; omega)) _ _ (by dsimp only; omega)))
                (first | (go_at_call 15; refine (HKy.out _).mono ?_; rintro e w8 ⟨rfl, q8⟩; have c8 : Chg [] w7 w8 := (by first | exact ((Chg.refl [] w7).drew).trans q8 (by simp) | exact (((Chg.refl [] w7).alloc _).drew).trans q8 (by simp)); have y8 := c8.fr (lo := gn.lo) (hi := gn.hi) (by simp); have s8 := c8.size; (try have z8 : w8.heap[w7.heap.size]? = some (.cells [.int .i64 0, .int .i64 0, .int .u64 0].toArray 42 (0, 0)) := q8.blk (b := w7.heap.size) (heap_alloc_new w7 _) (by simp))) | (go_at_call 16; refine (HCo.out _).mono ?_; rintro e w9 ⟨rfl, q9⟩; have c9 : Chg [] w7 w9 := (by first | exact c8.trans q9 (by simp) | exact (c8.alloc _).trans q9 (by simp)); have y9 := c9.fr (lo := gn.lo) (hi := gn.hi) (by simp); have s9 := q9.size; (try have z9 : w9.heap[w7.heap.size]? = some (.cells [.int .i64 0, .int .i64 0, .int .u64 0].toArray 42 (0, 0)) := q9.blk z8 (by simp)); (try have z9 : w9.heap[w8.heap.size]? = some (.cells [.int .i64 0, .int .i64 0, .int .u64 0].toArray 42 (0, 0)) := q9.blk (b := w8.heap.size) (heap_alloc_new w8 _) (by simp))) | (go_at_call 20; refine (HAll.out _ ?_).mono ?_; (first | exact hn7.chg0 c9 | exact hn7.chg0 (c9.alloc _)); rintro e w10 ⟨rfl, hn10, f10, i10⟩; have y10 : Fr gn.lo gn.hi w7 w10 := (by first | exact y9.trans f10 | exact (FrA y9 _).trans f10); have s10 := f10.size; (try have z10 : w10.heap[w7.heap.size]? = some (.cells [.int .i64 0, .int .i64 0, .int .u64 0].toArray 42 (0, 0)) := f10.blk z9 (Or.inr (by omega))); (try have z10 : w10.heap[w8.heap.size]? = some (.cells [.int .i64 0, .int .i64 0, .int .u64 0].toArray 42 (0, 0)) := f10.blk z9 (Or.inr (by omega))); (try have z10 : w10.heap[w9.heap.size]? = some (.cells [.int .i64 0, .int .i64 0, .int .u64 0].toArray 42 (0, 0)) := f10.blk (b := w9.heap.size) (heap_alloc_new w9 _) (Or.inr (by omega))); (try (have z100 := blk_cell (i := 0) z10 rfl; have z101 := blk_cell (i := 1) z10 rfl; have z102 := blk_cell (i := 2) z10 rfl; have z10f := fun i => blk_free (i := i) z10))))
              · go_wp2
                go_meet
                case rel =>
                  have hfin : Fr gn.hi (w10.heap.size + 1) w10 (w10.alloc (.cells [.int .i64 st, .int .i64 lv, .int .u64 rt].toArray 42)) := (((Chg.refl [] w10).alloc _).fr (by simp))
                  exact ⟨w10.heap.size, rfl, rfl, heap_alloc_new w10 _, blk_alloc (y10.blk r7 (Or.inr (by omega))) _, (hm7.fr okm y10 (Or.inl hmnl)).fr okm hfin (Or.inl (by omega)), hn10.fr okn hfin (Or.inl (Nat.le_refl _)), i10, (hc7.fr2 y10 hwn).alloc _, by simp; omega⟩
              · go_wp2
                go_meet
                case rel =>
                  have hz := lt_of_block z10
                  have hws := hc7.size
                  have rr := blk_set (i := 2) (.int .u64 rt) (blk_set (i := 1) (.int .i64 lv) (blk_set (i := 0) (.int .i64 st) (z10)))
                  have ff := blk_set_far (k := w9.heap.size) (i := 2) (u := .int .u64 rt) (blk_set_far (k := w9.heap.size) (i := 1) (u := .int .i64 lv) (blk_set_far (k := w9.heap.size) (i := 0) (u := .int .i64 st) (y10.blk r7 (Or.inr (by omega))) (by omega)) (by omega)) (by omega)
                  have cc := ((((Chg.refl [w9.heap.size] w10)).set ⟨w9.heap.size, 0, none⟩ (.int .i64 st) (Or.inl (by simp))).set ⟨w9.heap.size, 1, none⟩ (.int .i64 lv) (Or.inl (by simp))).set ⟨w9.heap.size, 2, none⟩ (.int .u64 rt) (Or.inl (by simp))
                  have hfin : Fr gn.hi (w10.heap.size + 1) w10 _ := cc.fr (by intro j hj; simp at hj; omega)
                  have hsz := cc.size
                  exact ⟨w9.heap.size, rfl, rfl, rr, ff, (hm7.fr okm y10 (Or.inl hmnl)).fr okm hfin (Or.inl (by omega)), hn10.fr okn hfin (Or.inl (Nat.le_refl _)), i10, ((((hc7.fr2 y10 hwn)).set _ _ (Or.inr (by dsimp only; omega))).set _ _ (Or.inr (by dsimp only; omega))).set _ _ (Or.inr (by dsimp only; omega)), by omega⟩
              · go_wp2
                go_meet
                case rel =>
                  have hz := lt_of_block z10
                  have hws := hc7.size
                  have rr := blk_set (i := 2) (.int .u64 rt) (blk_set (i := 1) (.int .i64 lv) (blk_set (i := 0) (.int .i64 st) (z10)))
                  have ff := blk_set_far (k := w8.heap.size) (i := 2) (u := .int .u64 rt) (blk_set_far (k := w8.heap.size) (i := 1) (u := .int .i64 lv) (blk_set_far (k := w8.heap.size) (i := 0) (u := .int .i64 st) (y10.blk r7 (Or.inr (by omega))) (by omega)) (by omega)) (by omega)
                  have cc := ((((Chg.refl [w8.heap.size] w10)).set ⟨w8.heap.size, 0, none⟩ (.int .i64 st) (Or.inl (by simp))).set ⟨w8.heap.size, 1, none⟩ (.int .i64 lv) (Or.inl (by simp))).set ⟨w8.heap.size, 2, none⟩ (.int .u64 rt) (Or.inl (by simp))
                  have hfin : Fr gn.hi (w10.heap.size + 1) w10 _ := cc.fr (by intro j hj; simp at hj; omega)
                  have hsz := cc.size
                  exact ⟨w8.heap.size, rfl, rfl, rr, ff, (hm7.fr okm y10 (Or.inl hmnl)).fr okm hfin (Or.inl (by omega)), hn10.fr okn hfin (Or.inl (Nat.le_refl _)), i10, ((((hc7.fr2 y10 hwn)).set _ _ (Or.inr (by dsimp only; omega))).set _ _ (Or.inr (by dsimp only; omega))).set _ _ (Or.inr (by dsimp only; omega)), by omega⟩
              · go_wp2
                go_meet
                case rel =>
                  have hz := lt_of_block z10
                  have hws := hc7.size
                  have rr := blk_set (i := 2) (.int .u64 rt) (blk_set (i := 1) (.int .i64 lv) (blk_set (i := 0) (.int .i64 st) (z10)))
                  have ff := blk_set_far (k := w7.heap.size) (i := 2) (u := .int .u64 rt) (blk_set_far (k := w7.heap.size) (i := 1) (u := .int .i64 lv) (blk_set_far (k := w7.heap.size) (i := 0) (u := .int .i64 st) (y10.blk r7 (Or.inr (by omega))) (by omega)) (by omega)) (by omega)
                  have cc := ((((Chg.refl [w7.heap.size] w10)).set ⟨w7.heap.size, 0, none⟩ (.int .i64 st) (Or.inl (by simp))).set ⟨w7.heap.size, 1, none⟩ (.int .i64 lv) (Or.inl (by simp))).set ⟨w7.heap.size, 2, none⟩ (.int .u64 rt) (Or.inl (by simp))
                  have hfin : Fr gn.hi (w10.heap.size + 1) w10 _ := cc.fr (by intro j hj; simp at hj; omega)
                  have hsz := cc.size
                  exact ⟨w7.heap.size, rfl, rfl, rr, ff, (hm7.fr okm y10 (Or.inl hmnl)).fr okm hfin (Or.inl (by omega)), hn10.fr okn hfin (Or.inl (Nat.le_refl _)), i10, ((((hc7.fr2 y10 hwn)).set _ _ (Or.inr (by dsimp only; omega))).set _ _ (Or.inr (by dsimp only; omega))).set _ _ (Or.inr (by dsimp only; omega)), by omega⟩
            case rest =>
              obtain ⟨bq, rfl, rfl, hq1, hr1, hm1, hn1, i1, hc1', hh1⟩ := hcut
              have p0 := blk_cell (i := 0) hq1 rfl
              have p1 := blk_cell (i := 1) hq1 rfl
              have p2 := blk_cell (i := 2) hq1 rfl
              have o0 := blk_cell (i := 0) hr1 rfl
              have o1 := blk_cell (i := 1) hr1 rfl
              have o2 := blk_cell (i := 2) hr1 rfl
              clear hm7 hn7 r7 r70 r71 r72 HKy HCo HAll HS y7
              go_wp2_with fail
              refine (same_refl st lv rt _).mono ?_
              rintro e w11 ⟨rfl, q11⟩
              have hm11 := hm1.chg0 q11
              have hn11 := hn1.chg0 q11
              have hc11 := hc1'.trans q11 (by simp)
              have s11 := q11.size
              clear hm1 hn1 hc1' q11
              go_wp2_with fail
              go_roundw
              case rel => exact ⟨k + 1, now + pk q.a 30, _, _, by go_num, by omega, by omega, by omega, by omega, hm11, hn11, fun j => by by_cases hj : j = i; (rw [if_pos hj]; exact i1); (rw [if_neg hj]; exact (HI.out.1 j).mono (by omega)), fun j => by by_cases hj : j = i; (rw [if_pos hj]; exact i1); (rw [if_neg hj]; exact (HI.out.2 j).mono (by omega)), by rw [if_pos rfl, if_pos rfl], hc11, by omega⟩
              case measure => simp [intOf]; omega
          · have hte : (pk q.t 3 != (tt : Int)) = true := by rw [HTI.out]; simpa using (by omega : (i : Int) ≠ tt)
            have hte' : (pk q.t 3 == (tt : Int)) = false := by rw [HTI.out]; simpa using (by omega : (i : Int) ≠ tt)
            go_wp2_with fail
            go_roundw
            case rel =>
              have hee : fgt (now + pk q.a 30) (if tt = i then D' else Dm tt) = fgt (now + pk q.a 30) (Dn tt) := by
                rw [if_neg (Ne.symm hti), ← fgt_fgt (show now ≤ now + pk q.a 30 from by omega) (Dm tt), HFG.out, fgt_fgt (show now ≤ now + pk q.a 30 from by omega) (Dn tt)]
              exact ⟨k + 1, now + pk q.a 30, _, Dn, by go_num, by omega, by omega, by omega, by omega, hm7, hn7, fun j => by by_cases hj : j = i; (rw [if_pos hj]; exact i5); (rw [if_neg hj]; exact (HI.out.1 j).mono (by omega)), fun j => (HI.out.2 j).mono (by omega), hee, hc7, by omega⟩
            case measure => simp [intOf]; omega
        · go_wp2
          go_ret
          exact ⟨rfl, hcr⟩
      · go_wp2
        go_ret
        exact ⟨rfl, hcr⟩
end Go.Proofs.Ytbdnhllhdjepcaa
