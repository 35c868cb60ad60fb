import Derived.Test.YtbdnhllhdjepcaaRetry
namespace Go.Proofs.Ytbdnhllhdjepcaa
set_option linter.unusedVariables false
set_option linter.unusedSimpArgs false
open Go.RowKit Go.Maps

set_option maxRecDepth 100000 in
set_option maxHeartbeats 16000000 in
theorem retried_any (a0 a1 a2 b0 b1 b2 c0 c1 c2 : Int) (la : Option Addr) (lb lof len cap : Nat) (l : Rq) (w : World) (ha : Raw a0 a1 a2) (hb : Raw b0 b1 b2) (hc : Raw c0 c1 c2) (hlen : len ≤ 9223372036854775807) (hla : 0 < len → la = some ⟨lb, lof, none⟩ ∧ lb < w.heap.size)
    (hl : ∀ j : Nat, j < len → ∃ q : Rq, q.Ok ∧ AskAt w lb (lof + j * 5) q) (hlo : l.Ok) :
    Calls Try.prog 4 #[.agg #[.int .i64 a0, .int .i64 a1, .int .i64 a2], .agg #[.int .i64 b0, .int .i64 b1, .int .i64 b2], .agg #[.int .i64 c0, .int .i64 c1, .int .i64 c2], .slice la len cap, .agg #[.int .i64 l.a, .int .i64 l.t, .int .i64 l.u, .int .i64 l.r, .int .i64 l.c]] w fun e w' => e = .returned (.bool true) ∧ Chg [] w w' := by
  have HC : Hid (∀ W, Calls Try.prog 11 #[.agg #[.int .i64 a0, .int .i64 a1, .int .i64 a2], .agg #[.int .i64 b0, .int .i64 b1, .int .i64 b2], .agg #[.int .i64 c0, .int .i64 c1, .int .i64 c2], .int .i64 1, .int .i64 64] W fun e w' => e = .returned (.agg #[.int .i64 (1 + pk a0 9), .int .i64 (1 + pk a1 60), .int .i64 (pk a2 201), .int .i64 (1 + pk b0 9), .int .i64 (1 + pk b1 60), .int .i64 (pk b2 201), .int .i64 (1 + pk c0 9), .int .i64 (1 + pk c1 60), .int .i64 (pk c2 201), .slice none 0 0, .int .i64 1, .int .i64 64, .int .i64 3, .int .i64 20, .int .i64 5]) ∧ Chg [] W w') := fun W => conf_any a0 a1 a2 b0 b1 b2 c0 c1 c2 1 64 W ha hb hc
  have HF : Hid (∀ W, Calls Try.prog 12 #[.agg #[.int .i64 (1 + pk a0 9), .int .i64 (1 + pk a1 60), .int .i64 (pk a2 201), .int .i64 (1 + pk b0 9), .int .i64 (1 + pk b1 60), .int .i64 (pk b2 201), .int .i64 (1 + pk c0 9), .int .i64 (1 + pk c1 60), .int .i64 (pk c2 201), .slice none 0 0, .int .i64 1, .int .i64 64, .int .i64 3, .int .i64 20, .int .i64 5]] W fun e w' => ∃ g, e = .returned (.tuple #[.pointer (some ⟨g.mb, 0, none⟩), .bool true]) ∧ IsNew W w' g 1 64 ⟨ivl (1 + pk a0 9) (1 + pk a1 60), pk a2 201, ivl (1 + pk b0 9) (1 + pk b1 60), pk b2 201, ivl (1 + pk c0 9) (1 + pk c1 60), pk c2 201, .map []⟩) := fun W =>
    fresh_any _ _ _ _ _ _ _ _ _ 64 3 20 5 1 W (qok_pk a0 a1 a2) (qok_pk b0 b1 b2) (qok_pk c0 c1 c2) (by decide) (by decide) (by omega) (by omega) (by decide) (by decide) (by decide) (by decide) (by decide) (by decide)
  have HSM : Hid (Sm 300 ⟨ivl (1 + pk a0 9) (1 + pk a1 60), pk a2 201, ivl (1 + pk b0 9) (1 + pk b1 60), pk b2 201, ivl (1 + pk c0 9) (1 + pk c1 60), pk c2 201, .map []⟩) := sm_pk a0 a1 a2 b0 b1 b2 c0 c1 c2
  have HL : Hid (∀ j : Nat, j < len → ∃ q : Rq, q.Ok ∧ AskAt w lb (lof + j * 5) q) := hl
  have HLA : Hid (0 < len → la = some ⟨lb, lof, none⟩ ∧ lb < w.heap.size) := hla
  have hplc := pk_bd l.c 60 (by decide)
  have HLO : Hid l.Ok := hlo
  have HPC : Hid (∀ W, Calls Try.prog 19 #[.int .i64 l.c, .int .i64 60] W fun e w' => e = .returned (.int .i64 (pk l.c 60)) ∧ w' = W) := fun W => pick_any l.c 60 W hlo.2.2.2.2.1 hlo.2.2.2.2.2 (by decide) (by decide)
  have LC : Hid (1 ≤ 1 + pk l.c 60) := (by omega : 1 ≤ 1 + pk l.c 60)
  have hwc : IntKind.i64.wrap (1 + pk l.c 60) = 1 + pk l.c 60 := wrapi ⟨by omega, by omega⟩
  clear hl ha hb hc hla hlo
  obtain ⟨w0, hw0⟩ : ∃ w0, w0 = ((((w.alloc (.cells [.int .i64 a0, .int .i64 a1, .int .i64 a2].toArray 23)).alloc (.cells [.int .i64 b0, .int .i64 b1, .int .i64 b2].toArray 23)).alloc (.cells [.int .i64 c0, .int .i64 c1, .int .i64 c2].toArray 23)).alloc (.cells [.int .i64 l.a, .int .i64 l.t, .int .i64 l.u, .int .i64 l.r, .int .i64 l.c].toArray 38)) := ⟨_, rfl⟩
  have g0 : w0.heap[w.heap.size]? = some (.cells [.int .i64 a0, .int .i64 a1, .int .i64 a2].toArray 23 (0, 0)) := hw0 ▸ blk_alloc (blk_alloc (heap_alloc2_old _ _ _) _) _
  have g1 : w0.heap[w.heap.size + 1]? = some (.cells [.int .i64 b0, .int .i64 b1, .int .i64 b2].toArray 23 (0, 0)) := hw0 ▸ blk_alloc (blk_alloc (heap_alloc2_new _ _ _) _) _
  have g2 : w0.heap[w.heap.size + 2]? = some (.cells [.int .i64 c0, .int .i64 c1, .int .i64 c2].toArray 23 (0, 0)) := by
    rw [hw0]
    have := heap_alloc2_new (w.alloc (.cells [.int .i64 a0, .int .i64 a1, .int .i64 a2].toArray 23)) (.cells [.int .i64 b0, .int .i64 b1, .int .i64 b2].toArray 23) (.cells [.int .i64 c0, .int .i64 c1, .int .i64 c2].toArray 23)
    exact blk_alloc (by simpa using this) _
  have g3 : w0.heap[w.heap.size + 3]? = some (.cells [.int .i64 l.a, .int .i64 l.t, .int .i64 l.u, .int .i64 l.r, .int .i64 l.c].toArray 38 (0, 0)) := by
    rw [hw0]
    have := heap_alloc2_new ((w.alloc (.cells [.int .i64 a0, .int .i64 a1, .int .i64 a2].toArray 23)).alloc (.cells [.int .i64 b0, .int .i64 b1, .int .i64 b2].toArray 23)) (.cells [.int .i64 c0, .int .i64 c1, .int .i64 c2].toArray 23) (.cells [.int .i64 l.a, .int .i64 l.t, .int .i64 l.u, .int .i64 l.r, .int .i64 l.c].toArray 38)
    simpa using this
  have hc0 : Chg [] w w0 := hw0 ▸ ((((Chg.refl _ _).alloc _).alloc _).alloc _).alloc _
  have HW0 : Hid (w0 = ((((w.alloc (.cells [.int .i64 a0, .int .i64 a1, .int .i64 a2].toArray 23)).alloc (.cells [.int .i64 b0, .int .i64 b1, .int .i64 b2].toArray 23)).alloc (.cells [.int .i64 c0, .int .i64 c1, .int .i64 c2].toArray 23)).alloc (.cells [.int .i64 l.a, .int .i64 l.t, .int .i64 l.u, .int .i64 l.r, .int .i64 l.c].toArray 38))) := hw0
  clear hw0
  go_enter Try.func4, Try.ntmps4
  go_wp2_with fail
  rw [show ((((w.alloc (.cells #[.int .i64 a0, .int .i64 a1, .int .i64 a2] 23)).alloc (.cells #[.int .i64 b0, .int .i64 b1, .int .i64 b2] 23)).alloc (.cells #[.int .i64 c0, .int .i64 c1, .int .i64 c2] 23)).alloc (.cells #[.int .i64 l.a, .int .i64 l.t, .int .i64 l.u, .int .i64 l.r, .int .i64 l.c] 38)) = w0 from HW0.out.symm]
  refine (begun_any w0).mono ?_
  rintro e w1 ⟨rfl, q1⟩
  obtain ⟨x0, x1, x2, x3, x4, x5, x6, x7, x8⟩ : (w1.cell? ⟨w.heap.size, 0, none⟩ = some (.int .i64 a0) ∧ w1.cell? ⟨w.heap.size, 1, none⟩ = some (.int .i64 a1) ∧ w1.cell? ⟨w.heap.size, 2, none⟩ = some (.int .i64 a2) ∧ w1.cell? ⟨w.heap.size + 1, 0, none⟩ = some (.int .i64 b0) ∧ w1.cell? ⟨w.heap.size + 1, 1, none⟩ = some (.int .i64 b1) ∧ w1.cell? ⟨w.heap.size + 1, 2, none⟩ = some (.int .i64 b2) ∧ w1.cell? ⟨w.heap.size + 2, 0, none⟩ = some (.int .i64 c0) ∧ w1.cell? ⟨w.heap.size + 2, 1, none⟩ = some (.int .i64 c1) ∧ w1.cell? ⟨w.heap.size + 2, 2, none⟩ = some (.int .i64 c2)) := by
    have k0 := q1.blk g0 (by simp)
    have k1 := q1.blk g1 (by simp)
    have k2 := q1.blk g2 (by simp)
    exact ⟨blk_cell k0 rfl, blk_cell k0 rfl, blk_cell k0 rfl, blk_cell k1 rfl, blk_cell k1 rfl, blk_cell k1 rfl, blk_cell k2 rfl, blk_cell k2 rfl, blk_cell k2 rfl⟩
  have hc1 := hc0.trans q1 (by simp)
  have G3 := q1.blk g3 (by simp)
  clear hc0 q1 g0 g1 g2 g3 HW0
  go_wp2_with fail
  refine (HC.out _).mono ?_
  rintro e w2 ⟨rfl, q2⟩
  have hc2 := hc1.trans q2 (by simp)
  have g32 := q2.blk G3 (by simp)
  have s12 := q2.size
  have s1 := hc1.size
  clear HC hc1 q2 G3 x0 x1 x2 x3 x4 x5 x6 x7 x8
  go_wp2_with fail
  refine (HF.out _).mono ?_
  rintro e w3 ⟨gm, rfl, okm, hm3, hc3, hmlo, hmhi, hmn, hms, hmp⟩
  have hcx3 := (hc2.alloc _).trans hc3 (by simp)
  have g33 := hc3.blk (blk_alloc g32 _) (by simp)
  have h3lt := lt_of_block g32
  simp at hmlo
  have hwm : w.heap.size + 3 < gm.lo := by omega
  have HPM : Hid (Sm 300 gm.p) := by rw [hmp]; exact HSM.out
  have HA : Hid (∀ W now D, MtrAt W gm now (fun _ => D) → Inv now D → 0 ≤ now → now ≤ 9223372036854775807 → Calls Try.prog 20 #[.pointer (some ⟨gm.mb, 0, none⟩), .agg #[.int .u16 (pk l.t 3), .int .u16 (pk l.u 2), .int .u16 (pk l.r 2)], .int .i64 (1 + pk l.c 60)] W fun e w' =>
      e = .returned (.tuple #[.agg (repV (allowD gm.p 64 D now (1 + pk l.c 60) (pk l.t 3) (pk l.u 2) (pk l.r 2)).1).toArray, .int .i64 0]) ∧ MtrAt w' gm now (fun _ => (allowD gm.p 64 D now (1 + pk l.c 60) (pk l.t 3) (pk l.u 2) (pk l.r 2)).2) ∧ Fr gm.lo gm.hi W w' ∧ Inv now (allowD gm.p 64 D now (1 + pk l.c 60) (pk l.t 3) (pk l.u 2) (pk l.r 2)).2) := fun W now D hW hI h0 h1 => by
    have := MAllow1 gm now (1 + pk l.c 60) (pk l.t 3) (pk l.u 2) (pk l.r 2) D W hW okm hmn hI h0 h1 (by omega) (by omega) (wf16 (by decide) (by decide)) (wf16 (by decide) (by decide)) (wf16 (by decide) (by decide))
    rw [hms] at this
    exact this
  clear hc2 g32 hc3 HF hmp HSM
  go_wp2_with fail
  go_loopw [11, 15] (fun okk i wr => ∃ (k : Nat) (now : Int) (D : DW), okk = .bool true ∧ i = .int .i64 k ∧ k ≤ 30 ∧ k ≤ len ∧ 0 ≤ now ∧ now ≤ 30 * k ∧ MtrAt wr gm now (fun _ => D) ∧ Inv now D ∧ Tm 300 now D ∧ Chg [] w wr ∧ gm.hi ≤ wr.heap.size ∧ wr.heap[w.heap.size + 3]? = some (.cells [.int .i64 l.a, .int .i64 l.t, .int .i64 l.u, .int .i64 l.r, .int .i64 l.c].toArray 38 (0, 0))) (fun _ i _ => 30 - (intOf i).toNat)
  case atStart => exact ⟨0, 0, .map [], rfl, rfl, by omega, by omega, by omega, by omega, hm3, Inv.empty, Tm.empty, hcx3, hmhi, g33⟩
  case round =>
    obtain ⟨k, now, D, rfl, rfl, hk30, hkl, h0, h1, hmm, hinv, htm, hcr, hhr, g3r⟩ := hrel
    clear hm3 hcx3 hmhi g33
    by_cases hlt : k < len ∧ k < 30
    · obtain ⟨hlt, hlt2⟩ := hlt
      obtain ⟨hla1, hlb⟩ := HLA.out (by omega)
      subst hla1
      obtain ⟨q, hq, hat⟩ := HL.out k hlt
      have hpa := pk_bd q.a 30 (by decide)
      have HQ : Hid q.Ok := hq
      obtain ⟨d0, d1, d2, d3, d4⟩ : (wr.cell? ⟨lb, lof + k * 5, none⟩ = some (.int .i64 q.a) ∧ wr.cell? ⟨lb, lof + k * 5 + 1, none⟩ = some (.int .i64 q.t) ∧ wr.cell? ⟨lb, lof + k * 5 + 2, none⟩ = some (.int .i64 q.u) ∧ wr.cell? ⟨lb, lof + k * 5 + 3, none⟩ = some (.int .i64 q.r) ∧ wr.cell? ⟨lb, lof + k * 5 + 4, none⟩ = some (.int .i64 q.c)) := ⟨hcr.cell hat.1 (by simp), hcr.cell hat.2.1 (by simp), hcr.cell hat.2.2.1 (by simp), hcr.cell hat.2.2.2.1 (by simp), hcr.cell hat.2.2.2.2 (by simp)⟩
      have HTM : Hid (Tm 300 now D) := htm
      clear hq hat htm
      have hk0 : (0 : Int) ≤ (k : Int) := by omega
      have hk1 : (k : Int) < (len : Int) := by omega
      have hk2 : (k : Int) < 30 := by omega
      go_wp2_with fail
      refine (asked1 gm now D q.a q.t q.u q.r q.c wr hmm okm hmn (by omega) HQ.out.1 HQ.out.2.1 HQ.out.2.2.1 HQ.out.2.2.2.1 HQ.out.2.2.2.2 h0 (by omega) hinv).mono ?_
      rintro e w5 ⟨rfl, hm5, f5, i5⟩
      have htm5 : Tm 300 (now + pk q.a 30) (allowD gm.p gm.sl D (now + pk q.a 30) (1 + pk q.c 4) (pk q.t 3) (pk q.u 2) (pk q.r 2)).2 := by
        rw [hms]
        exact HTM.out.allow (by decide) (by omega) h0 HPM.out (by have := pk_bd q.c 4 (by decide); omega) (pk_bd q.t 3 (by decide)) (pk_bd q.u 2 (by decide)) (pk_bd q.r 2 (by decide))
      generalize allowD gm.p gm.sl D (now + pk q.a 30) (1 + pk q.c 4) (pk q.t 3) (pk q.u 2) (pk q.r 2) = X at *
      obtain ⟨⟨st, lv, rt⟩, D'⟩ := X
      simp only [repV]
      simp only at hm5 i5 htm5
      have hc5 := hcr.fr2 f5 (by omega)
      have s5 := f5.size
      have g35 := f5.blk g3r (Or.inl hwm)
      clear hmm f5 HTM
      go_wp2_with fail
      go_roundw
      case rel => exact ⟨k + 1, now + pk q.a 30, D', rfl, by go_num, by omega, by omega, by omega, by omega, hm5, i5, htm5, hc5, by omega, g35⟩
      case measure => simp [intOf]; omega
    · have hnow : now ≤ 900 := by omega
      rcases (by omega : ¬ (k < len) ∨ (k < len ∧ ¬ (k < 30))) with hx | ⟨hx, hx2⟩
      all_goals
        have HRE := retr htm h0 HPM.out LC.out (t := pk l.t 3) (u := pk l.u 2) (r := pk l.r 2)
        obtain ⟨st, lv, rt, D', hX, hcase⟩ := HRE
        have HA1 := HA.out
        have l0 := blk_cell (i := 0) g3r rfl
        have l1 := blk_cell (i := 1) g3r rfl
        have l2 := blk_cell (i := 2) g3r rfl
        have l3 := blk_cell (i := 3) g3r rfl
        have l4 := blk_cell (i := 4) g3r rfl
        go_wp2_with fail
        refine (key_any l.a l.t l.u l.r l.c _ HLO.out.2.1 HLO.out.2.2.1 HLO.out.2.2.2.1).mono ?_
        rintro e w5 ⟨rfl, q5⟩
        have hm5 := hmm.chg0 q5
        have hc5 := hcr.trans q5 (by simp)
        have s5 := q5.size
        have g35 := q5.blk g3r (by simp)
        have l0 := blk_cell (i := 0) g35 rfl
        have l1 := blk_cell (i := 1) g35 rfl
        have l2 := blk_cell (i := 2) g35 rfl
        have l3 := blk_cell (i := 3) g35 rfl
        have l4 := blk_cell (i := 4) g35 rfl
        have hl5 : w.heap.size + 3 < w5.heap.size := World.block_lt_of_cell? _ _ l0
        clear hmm hcr q5
        go_wp2_with fail
        refine (HPC.out _).mono ?_
        rintro e w' ⟨rfl, rfl⟩
        have HX : Hid (allowD gm.p 64 D now (1 + pk l.c 60) (pk l.t 3) (pk l.u 2) (pk l.r 2) = ((st, lv, rt), D')) := hX
        have HT : Hid (Tm 300 now D) := htm
        clear hX htm
        have hm6 := hm5.chg0 ((Chg.refl [] w5).alloc (.cells #[.int .u16 (pk l.t 3), .int .u16 (pk l.u 2), .int .u16 (pk l.r 2)] 47))
        have hc6 := hc5.alloc (.cells #[.int .u16 (pk l.t 3), .int .u16 (pk l.u 2), .int .u16 (pk l.r 2)] 47)
        have r6 := heap_alloc_new w5 (.cells #[.int .u16 (pk l.t 3), .int .u16 (pk l.u 2), .int .u16 (pk l.r 2)] 47)
        have s6 : w5.heap.size + 1 = (w5.alloc (.cells #[.int .u16 (pk l.t 3), .int .u16 (pk l.u 2), .int .u16 (pk l.r 2)] 47)).heap.size := by simp
        clear hm5 hc5 l0 l1 l2 l3 l4
        go_wp2_with fail
        refine (HA1 _ now D hm6 hinv h0 (by omega)).mono ?_
        rintro e w7 ⟨rfl, hm7, f7, i7⟩
        rw [HX.out] at hm7 i7 ⊢
        simp only [repV]
        simp only at hm7 i7
        have r7 := f7.blk r6 (Or.inr (by omega))
        have c7 := hc6.fr2 f7 (by omega)
        have s7 := f7.size
        rw [← s6] at s7
        have k0 := blk_cell (i := 0) r7 rfl
        have k1 := blk_cell (i := 1) r7 rfl
        have k2 := blk_cell (i := 2) r7 rfl
        have hl7 := lt_of_block r7
        clear hm6 hc6 r6 f7
        rcases hcase with ⟨rfl, rfl, rfl⟩ | ⟨rfl, rfl, rfl, hev⟩ | ⟨rfl, rfl, hr1, hr2, hca, hcb⟩
        · go_wp2
          go_ret
          exact ⟨rfl, c7.alloc _⟩
        · obtain ⟨lv', hev⟩ := hev 4611686018427387904 (by decide)
          have HEV : Hid ((allowD gm.p 64 (fgt now D) (now + 4611686018427387904) (1 + pk l.c 60) (pk l.t 3) (pk l.u 2) (pk l.r 2)).1 = (1, lv', never)) := hev
          clear hev
          have hm8 := hm7.chg0 ((Chg.refl [] w7).alloc (.cells #[.int .i64 1, .int .i64 lv, .int .u64 never] 42))
          have c8 := c7.alloc (.cells #[.int .i64 1, .int .i64 lv, .int .u64 never] 42)
          have r8 := blk_alloc r7 (.cells #[.int .i64 1, .int .i64 lv, .int .u64 never] 42)
          have hnev : never = 18446744073709551615 := rfl
          go_wp2_with fail
          refine (MAdvance gm now 4611686018427387904 _ _ hm8 okm h0 (by omega) (by decide) (by decide)).mono ?_
          rintro e w9 ⟨rfl, hm9, f9⟩
          rw [show min (now + 4611686018427387904) 9223372036854775807 = now + 4611686018427387904 from by omega] at hm9
          have r9 := f9.blk r8 (Or.inr (by omega))
          have c9 := c8.fr2 f9 (by omega)
          have s9 := f9.size
          simp at s9
          have k0 := blk_cell (i := 0) r9 rfl
          have k1 := blk_cell (i := 1) r9 rfl
          have k2 := blk_cell (i := 2) r9 rfl
          clear hm7 hm8 r7 r8 c7 c8 f9
          go_wp2_with fail
          refine (HA1 _ (now + 4611686018427387904) _ hm9 (i7.mono (by omega)) (by omega) (by omega)).mono ?_
          rintro e w10 ⟨rfl, hm10, f10, i10⟩
          rw [HEV.out]
          simp only [repV]
          have c10 := c9.fr2 f10 (by omega)
          go_wp2
          go_ret
          exact ⟨rfl, c10.alloc _⟩
        · obtain ⟨lv1, hca⟩ := hca
          obtain ⟨lv2, rt2, hcb⟩ := hcb
          have HCA : Hid (allowD gm.p 64 (fgt now D) (now + (rt - 1)) (1 + pk l.c 60) (pk l.t 3) (pk l.u 2) (pk l.r 2) = ((1, lv1, 1), fgt (now + (rt - 1)) (fgt now D))) := hca
          have HCB : Hid ((allowD gm.p 64 (fgt (now + (rt - 1)) (fgt now D)) (now + (rt - 1) + 1) (1 + pk l.c 60) (pk l.t 3) (pk l.u 2) (pk l.r 2)).1 = (0, lv2, rt2)) := hcb
          clear hca hcb
          have hm8 := hm7.chg0 ((Chg.refl [] w7).alloc (.cells #[.int .i64 1, .int .i64 lv, .int .u64 rt] 42))
          have c8 := c7.alloc (.cells #[.int .i64 1, .int .i64 lv, .int .u64 rt] 42)
          have r8 := blk_alloc r7 (.cells #[.int .i64 1, .int .i64 lv, .int .u64 rt] 42)
          have hne : (rt == 18446744073709551615) = false := by simp; omega
          have hlt1 : decide (rt < 1) = false := by simp; omega
          have hgt1 : decide (rt > 100000) = false := by simp; omega
          have hw1 : IntKind.i64.wrap rt = rt := wrapi ⟨by omega, by omega⟩
          have hw2 : IntKind.i64.wrap (rt - 1) = rt - 1 := wrapi ⟨by omega, by omega⟩
          go_wp2_with fail
          refine (MAdvance gm now (rt - 1) _ _ hm8 okm h0 (by omega) (by omega) (by omega)).mono ?_
          rintro e w9 ⟨rfl, hm9, f9⟩
          rw [show min (now + (rt - 1)) 9223372036854775807 = now + (rt - 1) from by omega] at hm9
          have r9 := f9.blk r8 (Or.inr (by omega))
          have c9 := c8.fr2 f9 (by omega)
          have s9 := f9.size
          simp at s9
          have k0 := blk_cell (i := 0) r9 rfl
          have k1 := blk_cell (i := 1) r9 rfl
          have k2 := blk_cell (i := 2) r9 rfl
          clear hm7 hm8 r7 r8 c7 c8 f9
          go_wp2_with fail
          refine (HA1 _ (now + (rt - 1)) _ hm9 (i7.mono (by omega)) (by omega) (by omega)).mono ?_
          rintro e w10 ⟨rfl, hm10, f10, i10⟩
          rw [HCA.out] at hm10 i10 ⊢
          simp only [repV]
          simp only at hm10 i10
          have r10 := f10.blk r9 (Or.inr (by omega))
          have c10 := c9.fr2 f10 (by omega)
          have s10 := f10.size
          have hm11 := hm10.chg0 ((Chg.refl [] w10).alloc (.cells #[.int .i64 1, .int .i64 lv1, .int .u64 1] 42))
          have c11 := c10.alloc (.cells #[.int .i64 1, .int .i64 lv1, .int .u64 1] 42)
          have r11 := blk_alloc r10 (.cells #[.int .i64 1, .int .i64 lv1, .int .u64 1] 42)
          have v11 := heap_alloc_new w10 (.cells #[.int .i64 1, .int .i64 lv1, .int .u64 1] 42)
          clear hm9 r9 c9 f10 hm10 c10 r10
          go_wp2_with fail
          refine (MAdvance gm (now + (rt - 1)) 1 _ _ hm11 okm (by omega) (by omega) (by omega) (by omega)).mono ?_
          rintro e w12 ⟨rfl, hm12, f12⟩
          rw [show min (now + (rt - 1) + 1) 9223372036854775807 = now + (rt - 1) + 1 from by omega] at hm12
          have r12 := f12.blk r11 (Or.inr (by omega))
          have v12 := f12.blk v11 (Or.inr (by omega))
          have c12 := c11.fr2 f12 (by omega)
          have s12 := f12.size
          simp at s12
          have k0 := blk_cell (i := 0) r12 rfl
          have k1 := blk_cell (i := 1) r12 rfl
          have k2 := blk_cell (i := 2) r12 rfl
          clear hm11 c11 r11 v11 f12
          go_wp2_with fail
          refine (HA1 _ (now + (rt - 1) + 1) _ hm12 (i10.mono (by omega)) (by omega) (by omega)).mono ?_
          rintro e w13 ⟨rfl, hm13, f13, i13⟩
          rw [HCB.out]
          simp only [repV]
          have c13 := c12.fr2 f13 (by omega)
          have v13 := f13.blk v12 (Or.inr (by omega))
          have k0 := blk_cell (i := 0) v13 rfl
          have k1 := blk_cell (i := 1) v13 rfl
          have k2 := blk_cell (i := 2) v13 rfl
          have hl13 := lt_of_block v13
          clear hm12 hm13 f13 i13
          go_wp2
          go_ret
          exact ⟨rfl, c13.alloc _⟩
end Go.Proofs.Ytbdnhllhdjepcaa
