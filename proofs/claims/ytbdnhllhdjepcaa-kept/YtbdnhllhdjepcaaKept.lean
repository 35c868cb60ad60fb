import Derived.Test.YtbdnhllhdjepcaaRow5
namespace Go.Proofs.Ytbdnhllhdjepcaa
set_option linter.unusedVariables false
set_option linter.unusedSimpArgs false
open Go.RowKit Go.Maps

set_option maxRecDepth 100000 in
set_option maxHeartbeats 16000000 in
theorem kept_any (a0 a1 a2 b0 b1 b2 c0 c1 c2 : Int) (la : Option Addr) (lb lof len cap : Nat) (w : World) (ha : Raw a0 a1 a2) (hb : Raw b0 b1 b2) (hc : Raw c0 c1 c2) (hlen : len ≤ 9223372036854775807) (hla : 0 < len → la = some ⟨lb, lof, none⟩ ∧ lb < w.heap.size)
    (hl : ∀ j : Nat, j < len → ∃ q : Rq, q.Ok ∧ AskAt w lb (lof + j * 5) q) :
    Calls Try.prog 3 #[.agg #[.int .i64 a0, .int .i64 a1, .int .i64 a2], .agg #[.int .i64 b0, .int .i64 b1, .int .i64 b2], .agg #[.int .i64 c0, .int .i64 c1, .int .i64 c2], .slice la len cap] w fun e w' => e = .returned (.bool true) ∧ Chg [] w w' := by
  obtain ⟨i0, hi, hz0, hz1, hz2⟩ := info_parts Try.info50
  have HC : Hid (∀ W, Calls Try.prog 11 #[.agg #[.int .i64 a0, .int .i64 a1, .int .i64 a2], .agg #[.int .i64 b0, .int .i64 b1, .int .i64 b2], .agg #[.int .i64 c0, .int .i64 c1, .int .i64 c2], .int .i64 1, .int .i64 64] W fun e w' => e = .returned (.agg #[.int .i64 (1 + pk a0 9), .int .i64 (1 + pk a1 60), .int .i64 (pk a2 201), .int .i64 (1 + pk b0 9), .int .i64 (1 + pk b1 60), .int .i64 (pk b2 201), .int .i64 (1 + pk c0 9), .int .i64 (1 + pk c1 60), .int .i64 (pk c2 201), .slice none 0 0, .int .i64 1, .int .i64 64, .int .i64 3, .int .i64 20, .int .i64 5]) ∧ Chg [] W w') := fun W => conf_any a0 a1 a2 b0 b1 b2 c0 c1 c2 1 64 W ha hb hc
  have HF : Hid (∀ W, Calls Try.prog 12 #[.agg #[.int .i64 (1 + pk a0 9), .int .i64 (1 + pk a1 60), .int .i64 (pk a2 201), .int .i64 (1 + pk b0 9), .int .i64 (1 + pk b1 60), .int .i64 (pk b2 201), .int .i64 (1 + pk c0 9), .int .i64 (1 + pk c1 60), .int .i64 (pk c2 201), .slice none 0 0, .int .i64 1, .int .i64 64, .int .i64 3, .int .i64 20, .int .i64 5]] W fun e w' => ∃ g, e = .returned (.tuple #[.pointer (some ⟨g.mb, 0, none⟩), .bool true]) ∧ IsNew W w' g 1 64 ⟨ivl (1 + pk a0 9) (1 + pk a1 60), pk a2 201, ivl (1 + pk b0 9) (1 + pk b1 60), pk b2 201, ivl (1 + pk c0 9) (1 + pk c1 60), pk c2 201, .map []⟩) := fun W =>
    fresh_any _ _ _ _ _ _ _ _ _ 64 3 20 5 1 W (qok_pk a0 a1 a2) (qok_pk b0 b1 b2) (qok_pk c0 c1 c2) (by decide) (by decide) (by omega) (by omega) (by decide) (by decide) (by decide) (by decide) (by decide) (by decide)
  have HSM : Hid (Sm 300 ⟨ivl (1 + pk a0 9) (1 + pk a1 60), pk a2 201, ivl (1 + pk b0 9) (1 + pk b1 60), pk b2 201, ivl (1 + pk c0 9) (1 + pk c1 60), pk c2 201, .map []⟩) := sm_pk a0 a1 a2 b0 b1 b2 c0 c1 c2
  have HSQ : Hid (Sq (1 + pk a0 9) (1 + pk a1 60) (pk a2 201) ∧ Sq (1 + pk b0 9) (1 + pk b1 60) (pk b2 201) ∧ Sq (1 + pk c0 9) (1 + pk c1 60) (pk c2 201)) := ⟨sq_pk _ _ _, sq_pk _ _ _, sq_pk _ _ _⟩
  have HWT : Hid (∀ la lb cap gs now W, GsAt W la lb gs → gs.length ≤ 100 → (∀ g ∈ gs, 0 ≤ g.c ∧ g.c ≤ 1000) → (∀ g ∈ gs, 0 ≤ g.t ∧ g.t ≤ 1000000) → 0 ≤ now → now ≤ 1000000 → (∀ a : Nat, a < 3 → Wi gs ((⟨ivl (1 + pk a0 9) (1 + pk a1 60), pk a2 201, ivl (1 + pk b0 9) (1 + pk b1 60), pk b2 201, ivl (1 + pk c0 9) (1 + pk c1 60), pk c2 201, .map []⟩ : Pln).lev a).1 ((⟨ivl (1 + pk a0 9) (1 + pk a1 60), pk a2 201, ivl (1 + pk b0 9) (1 + pk b1 60), pk b2 201, ivl (1 + pk c0 9) (1 + pk c1 60), pk c2 201, .map []⟩ : Pln).lev a).2 a now) →
      Calls Try.prog 17 #[.slice la gs.length cap, .agg #[.int .i64 (1 + pk a0 9), .int .i64 (1 + pk a1 60), .int .i64 (pk a2 201), .int .i64 (1 + pk b0 9), .int .i64 (1 + pk b1 60), .int .i64 (pk b2 201), .int .i64 (1 + pk c0 9), .int .i64 (1 + pk c1 60), .int .i64 (pk c2 201), .slice none 0 0, .int .i64 1, .int .i64 64, .int .i64 3, .int .i64 20, .int .i64 5], .int .i64 now] W fun e w' => e = .returned (.bool true) ∧ Chg [] W w') := fun la lb cap gs now W h1 h2 h3 h4 h5 h6 h7 =>
    within_any la lb cap gs _ _ _ _ _ _ _ _ _ 1 64 3 20 5 now W h1 h2 h3 h4 HSQ.out h5 h6 ⟨h7 0 (by decide), h7 1 (by decide), h7 2 (by decide)⟩
  have HND : Hid (∀ la lb cap gs t u r cost now W (a : Nat), a < 3 → GsAt W la lb gs → gs.length ≤ 100 → (∀ g ∈ gs, 0 ≤ g.c ∧ g.c ≤ 1000) → (∀ g ∈ gs, 0 ≤ g.t ∧ g.t ≤ 1000000) → 0 ≤ cost → cost ≤ 1000 → 0 ≤ now → now ≤ 1000000 →
      Calls Try.prog 18 #[.slice la gs.length cap, .agg #[.int .i64 (1 + pk a0 9), .int .i64 (1 + pk a1 60), .int .i64 (pk a2 201), .int .i64 (1 + pk b0 9), .int .i64 (1 + pk b1 60), .int .i64 (pk b2 201), .int .i64 (1 + pk c0 9), .int .i64 (1 + pk c1 60), .int .i64 (pk c2 201), .slice none 0 0, .int .i64 1, .int .i64 64, .int .i64 3, .int .i64 20, .int .i64 5], .int .i64 a, .agg #[.int .u16 t, .int .u16 u, .int .u16 r], .int .i64 cost, .int .i64 now] W fun e w' => e = .returned (.bool (neededL gs ((⟨ivl (1 + pk a0 9) (1 + pk a1 60), pk a2 201, ivl (1 + pk b0 9) (1 + pk b1 60), pk b2 201, ivl (1 + pk c0 9) (1 + pk c1 60), pk c2 201, .map []⟩ : Pln).lev a).1 ((⟨ivl (1 + pk a0 9) (1 + pk a1 60), pk a2 201, ivl (1 + pk b0 9) (1 + pk b1 60), pk b2 201, ivl (1 + pk c0 9) (1 + pk c1 60), pk c2 201, .map []⟩ : Pln).lev a).2 a t u r cost now)) ∧ Chg [] W w') := fun la lb cap gs t u r cost now W a ha h1 h2 h3 h4 h5 h6 h7 h8 => by
    rcases (show a = 0 ∨ a = 1 ∨ a = 2 from by omega) with rfl | rfl | rfl
    · exact needed0 la lb cap gs _ _ _ _ _ _ _ _ _ 1 64 3 20 5 t u r cost now W h1 h2 h3 h4 HSQ.out.1 h5 h6 h7 h8
    · exact needed1 la lb cap gs _ _ _ _ _ _ _ _ _ 1 64 3 20 5 t u r cost now W h1 h2 h3 h4 HSQ.out.2.1 h5 h6 h7 h8
    · exact needed2 la lb cap gs _ _ _ _ _ _ _ _ _ 1 64 3 20 5 t u r cost now W h1 h2 h3 h4 HSQ.out.2.2 h5 h6 h7 h8
  have HKE : Hid (KI ⟨ivl (1 + pk a0 9) (1 + pk a1 60), pk a2 201, ivl (1 + pk b0 9) (1 + pk b1 60), pk b2 201, ivl (1 + pk c0 9) (1 + pk c1 60), pk c2 201, .map []⟩ 0 (.map []) []) := KI.empty (fun a => by
    have h := (HSM.out a (kl 0 0 0 0)).1
    rw [at_lev rfl] at h
    exact ⟨by have := h.1; omega, h.2.1⟩)
  have HL : Hid (∀ j : Nat, j < len → ∃ q : Rq, q.Ok ∧ AskAt w lb (lof + j * 5) q) := hl
  have HLA : Hid (0 < len → la = some ⟨lb, lof, none⟩ ∧ lb < w.heap.size) := hla
  have HI0 : Hid (Try.prog.info? 50 = some i0 ∧ i0.zero = some (.agg #[.int .i64 0, .int .u16 0, .int .u16 0, .int .u16 0, .int .i64 0]) ∧ i0.size = 5 ∧ i0.bytes = 24) := ⟨hi, hz0, hz1, hz2⟩
  clear hl ha hb hc hla hi hz0 hz1 hz2
  obtain ⟨w0, hw0⟩ : ∃ w0, w0 = (((w.alloc (.cells [.int .i64 a0, .int .i64 a1, .int .i64 a2].toArray 23)).alloc (.cells [.int .i64 b0, .int .i64 b1, .int .i64 b2].toArray 23)).alloc (.cells [.int .i64 c0, .int .i64 c1, .int .i64 c2].toArray 23)) := ⟨_, rfl⟩
  have g0 : w0.heap[w.heap.size]? = some (.cells [.int .i64 a0, .int .i64 a1, .int .i64 a2].toArray 23 (0, 0)) := hw0 ▸ blk_alloc (heap_alloc2_old _ _ _) _
  have g1 : w0.heap[w.heap.size + 1]? = some (.cells [.int .i64 b0, .int .i64 b1, .int .i64 b2].toArray 23 (0, 0)) := hw0 ▸ blk_alloc (heap_alloc2_new _ _ _) _
  have g2 : w0.heap[w.heap.size + 2]? = some (.cells [.int .i64 c0, .int .i64 c1, .int .i64 c2].toArray 23 (0, 0)) := by
    rw [hw0]
    have := heap_alloc2_new (w.alloc (.cells [.int .i64 a0, .int .i64 a1, .int .i64 a2].toArray 23)) (.cells [.int .i64 b0, .int .i64 b1, .int .i64 b2].toArray 23) (.cells [.int .i64 c0, .int .i64 c1, .int .i64 c2].toArray 23)
    simpa using this
  have hc0 : Chg [] w w0 := hw0 ▸ (((Chg.refl _ _).alloc _).alloc _).alloc _
  have HW0 : Hid (w0 = (((w.alloc (.cells [.int .i64 a0, .int .i64 a1, .int .i64 a2].toArray 23)).alloc (.cells [.int .i64 b0, .int .i64 b1, .int .i64 b2].toArray 23)).alloc (.cells [.int .i64 c0, .int .i64 c1, .int .i64 c2].toArray 23))) := hw0
  clear hw0
  go_enter Try.func3, Try.ntmps3
  go_wp2_with fail
  rw [show (((w.alloc (.cells #[.int .i64 a0, .int .i64 a1, .int .i64 a2] 23)).alloc (.cells #[.int .i64 b0, .int .i64 b1, .int .i64 b2] 23)).alloc (.cells #[.int .i64 c0, .int .i64 c1, .int .i64 c2] 23)) = w0 from HW0.out.symm]
  refine (begun_any w0).mono ?_
  rintro e w1 ⟨rfl, q1⟩
  obtain ⟨x0, x1, x2, x3, x4, x5, x6, x7, x8⟩ : (w1.cell? ⟨w.heap.size, 0, none⟩ = some (.int .i64 a0) ∧ w1.cell? ⟨w.heap.size, 1, none⟩ = some (.int .i64 a1) ∧ w1.cell? ⟨w.heap.size, 2, none⟩ = some (.int .i64 a2) ∧ w1.cell? ⟨w.heap.size + 1, 0, none⟩ = some (.int .i64 b0) ∧ w1.cell? ⟨w.heap.size + 1, 1, none⟩ = some (.int .i64 b1) ∧ w1.cell? ⟨w.heap.size + 1, 2, none⟩ = some (.int .i64 b2) ∧ w1.cell? ⟨w.heap.size + 2, 0, none⟩ = some (.int .i64 c0) ∧ w1.cell? ⟨w.heap.size + 2, 1, none⟩ = some (.int .i64 c1) ∧ w1.cell? ⟨w.heap.size + 2, 2, none⟩ = some (.int .i64 c2)) := by
    have k0 := q1.blk g0 (by simp)
    have k1 := q1.blk g1 (by simp)
    have k2 := q1.blk g2 (by simp)
    exact ⟨blk_cell k0 rfl, blk_cell k0 rfl, blk_cell k0 rfl, blk_cell k1 rfl, blk_cell k1 rfl, blk_cell k1 rfl, blk_cell k2 rfl, blk_cell k2 rfl, blk_cell k2 rfl⟩
  have hc1 := hc0.trans q1 (by simp)
  clear hc0 q1 g0 g1 g2 HW0
  go_wp2_with fail
  refine (HC.out _).mono ?_
  rintro e w2 ⟨rfl, q2⟩
  have hc2 := hc1.trans q2 (by simp)
  have s2 := hc2.size
  clear HC hc1 q2 x0 x1 x2 x3 x4 x5 x6 x7 x8
  go_wp2_with fail
  refine (HF.out _).mono ?_
  rintro e w3 ⟨gm, rfl, okm, hm3, hc3, hmlo, hmhi, hmn, hms, hmp⟩
  have hcx3 := (hc2.alloc _).trans hc3 (by simp)
  have CB3 := hc3.blk (heap_alloc_new w2 (.cells [.int .i64 (1 + pk a0 9), .int .i64 (1 + pk a1 60), .int .i64 (pk a2 201), .int .i64 (1 + pk b0 9), .int .i64 (1 + pk b1 60), .int .i64 (pk b2 201), .int .i64 (1 + pk c0 9), .int .i64 (1 + pk c1 60), .int .i64 (pk c2 201), .slice none 0 0, .int .i64 1, .int .i64 64, .int .i64 3, .int .i64 20, .int .i64 5].toArray 30)) (by simp)
  simp at hmlo
  have hw2m : w2.heap.size < gm.lo := by omega
  have hwm : w.heap.size ≤ gm.lo := by omega
  have hml : gm.lo < gm.hi := by have := okm.mr; omega
  have HPM : Hid (gm.p = ⟨ivl (1 + pk a0 9) (1 + pk a1 60), pk a2 201, ivl (1 + pk b0 9) (1 + pk b1 60), pk b2 201, ivl (1 + pk c0 9) (1 + pk c1 60), pk c2 201, .map []⟩) := hmp
  clear hc2 hc3 HF hmp
  go_wp2_with fail
  go_loopw [13, 14, 15] (fun v nw i wr => ∃ (k : Nat) (now : Int) (D : DW) (gs : List Gr), nw = .int .i64 now ∧ i = .int .i64 k ∧ k ≤ 60 ∧ k ≤ len ∧ gs.length ≤ k ∧ 0 ≤ now ∧ now ≤ 30 * k ∧ MtrAt wr gm now (fun _ => D) ∧ Inv now D ∧ KI ⟨ivl (1 + pk a0 9) (1 + pk a1 60), pk a2 201, ivl (1 + pk b0 9) (1 + pk b1 60), pk b2 201, ivl (1 + pk c0 9) (1 + pk c1 60), pk c2 201, .map []⟩ now D gs ∧ Chg [] w wr ∧ gm.hi ≤ wr.heap.size ∧ wr.heap[w2.heap.size]? = some (.cells [.int .i64 (1 + pk a0 9), .int .i64 (1 + pk a1 60), .int .i64 (pk a2 201), .int .i64 (1 + pk b0 9), .int .i64 (1 + pk b1 60), .int .i64 (pk b2 201), .int .i64 (1 + pk c0 9), .int .i64 (1 + pk c1 60), .int .i64 (pk c2 201), .slice none 0 0, .int .i64 1, .int .i64 64, .int .i64 3, .int .i64 20, .int .i64 5].toArray 30 (0, 0)) ∧ wr.ownsRow gm.hi 50 5 v gs.length (gcells gs)) (fun _ _ i _ => 60 - (intOf i).toNat)
  case atStart => exact ⟨0, 0, .map [], [], rfl, rfl, by omega, by omega, by simp, by omega, by omega, hm3, Inv.empty, HKE.out, hcx3, hmhi, CB3, World.ownsRow_nil _ _ _ _⟩
  case round =>
    obtain ⟨k, now, D, gs, rfl, rfl, hk60, hkl, hgl, h0, h1, hmm, hinv, hki, hcr, hhr, CB, hown⟩ := hrel
    clear hm3 hcx3 hmhi CB3
    by_cases hlt : k < len ∧ k < 60
    · obtain ⟨hlt, hlt2⟩ := hlt
      obtain ⟨hla1, hlb⟩ := HLA.out (by omega)
      subst hla1
      obtain ⟨q, hq, hat⟩ := HL.out k hlt
      have hpa := pk_bd q.a 30 (by decide)
      have hpc := pk_bd q.c 4 (by decide)
      have HQ : Hid q.Ok := hq
      have HAT : Hid (∀ W, Chg [] w W → (W.cell? ⟨lb, lof + k * 5, none⟩ = some (.int .i64 q.a) ∧ W.cell? ⟨lb, lof + k * 5 + 1, none⟩ = some (.int .i64 q.t) ∧ W.cell? ⟨lb, lof + k * 5 + 2, none⟩ = some (.int .i64 q.u) ∧ W.cell? ⟨lb, lof + k * 5 + 3, none⟩ = some (.int .i64 q.r) ∧ W.cell? ⟨lb, lof + k * 5 + 4, none⟩ = some (.int .i64 q.c))) := fun W hW => ⟨hW.cell hat.1 (by simp), hW.cell hat.2.1 (by simp), hW.cell hat.2.2.1 (by simp), hW.cell hat.2.2.2.1 (by simp), hW.cell hat.2.2.2.2 (by simp)⟩
      have HST := (hki.mono (show now ≤ now + pk q.a 30 from by omega)).step (by omega) rfl HSM.out (cost := 1 + pk q.c 4) (t := pk q.t 3) (u := pk q.u 2) (r := pk q.r 2) (by omega) (by omega) ⟨pk_bd q.t 3 (by decide), pk_bd q.u 2 (by decide), pk_bd q.r 2 (by decide)⟩
      obtain ⟨d0, d1, d2, d3, d4⟩ := HAT.out wr hcr
      obtain ⟨st, lv, rt, D', hX, hcase⟩ := HST
      have HX : Hid (allowD ⟨ivl (1 + pk a0 9) (1 + pk a1 60), pk a2 201, ivl (1 + pk b0 9) (1 + pk b1 60), pk b2 201, ivl (1 + pk c0 9) (1 + pk c1 60), pk c2 201, .map []⟩ 64 D (now + pk q.a 30) (1 + pk q.c 4) (pk q.t 3) (pk q.u 2) (pk q.r 2) = ((st, lv, rt), D')) := hX
      have HCA : Hid _ := hcase
      have HOW : Hid (wr.ownsRow gm.hi 50 5 u13 gs.length (gcells gs)) := hown
      have HIV : Hid (Inv now D) := hinv
      clear hq hat hki hX hcase hown hinv
      have hk0 : (0 : Int) ≤ (k : Int) := by omega
      have hk1 : (k : Int) < (len : Int) := by omega
      have hk2 : (k : Int) < 60 := by omega
      go_wp2_with fail
      refine (wait_any q.a q.t q.u q.r q.c _ HQ.out.1).mono ?_
      rintro e w4 ⟨rfl, q4⟩
      have hm4 := hmm.chg0 q4
      have hc4 := hcr.trans q4 (by simp)
      have CB4 := q4.blk CB (by simp)
      have HO4 : Hid (w4.ownsRow gm.hi 50 5 u13 gs.length (gcells gs)) := own_chg HOW.out q4
      have s4 := q4.size
      obtain ⟨d0, d1, d2, d3, d4⟩ := HAT.out w4 hc4
      clear hmm hcr CB HOW q4
      go_wp2_with fail
      refine (asked1 gm now D q.a q.t q.u q.r q.c w4 hm4 okm hmn (by omega) HQ.out.1 HQ.out.2.1 HQ.out.2.2.1 HQ.out.2.2.2.1 HQ.out.2.2.2.2 h0 (by omega) HIV.out).mono ?_
      rintro e w5 ⟨rfl, hm5, f5, i5⟩
      rw [HPM.out, hms, HX.out] at hm5 i5 ⊢
      simp only [repV]
      simp only at hm5 i5
      have hc5 := hc4.fr2 f5 (by omega)
      have s5 := f5.size
      have CB5 := f5.blk CB4 (Or.inl hw2m)
      have HO5 : Hid (w5.ownsRow gm.hi 50 5 u13 gs.length (gcells gs)) := own_fr HO4.out f5 (Nat.le_refl _)
      have hmA := hm5.chg0 ((Chg.refl [] w5).alloc (.cells [.int .i64 st, .int .i64 lv, .int .u64 rt].toArray 42))
      have hcA := hc5.alloc (.cells [.int .i64 st, .int .i64 lv, .int .u64 rt].toArray 42)
      have CBA := blk_alloc CB5 (.cells [.int .i64 st, .int .i64 lv, .int .u64 rt].toArray 42)
      have rA := heap_alloc_new w5 (.cells [.int .i64 st, .int .i64 lv, .int .u64 rt].toArray 42)
      obtain ⟨d0, d1, d2, d3, d4⟩ := HAT.out w5 hc5
      have hlb5 : lb < w5.heap.size := by have := hc5.size; omega
      clear hm4 hc4 CB4 HO4 f5 hm5 hc5 CB5
      go_wp2_with fail
      refine (key_any q.a q.t q.u q.r q.c _ HQ.out.2.1 HQ.out.2.2.1 HQ.out.2.2.2.1).mono ?_
      rintro e w6 ⟨rfl, q6⟩
      have hm6 := hmA.chg0 q6
      have hc6 := hcA.trans q6 (by simp)
      have CB6 := q6.blk CBA (by simp)
      have r6 := q6.blk rA (by simp)
      have s6 := q6.size
      simp at s6
      have HO6 : Hid (w6.ownsRow gm.hi 50 5 u13 gs.length (gcells gs)) := own_chg (HO5.out.alloc _) q6
      have hmB := hm6.chg0 ((Chg.refl [] w6).alloc (.cells [.int .u16 (pk q.t 3), .int .u16 (pk q.u 2), .int .u16 (pk q.r 2)].toArray 47))
      have hcB := hc6.alloc (.cells [.int .u16 (pk q.t 3), .int .u16 (pk q.u 2), .int .u16 (pk q.r 2)].toArray 47)
      have CBB := blk_alloc CB6 (.cells [.int .u16 (pk q.t 3), .int .u16 (pk q.u 2), .int .u16 (pk q.r 2)].toArray 47)
      have rB := blk_alloc r6 (.cells [.int .u16 (pk q.t 3), .int .u16 (pk q.u 2), .int .u16 (pk q.r 2)].toArray 47)
      have kB := heap_alloc_new w6 (.cells [.int .u16 (pk q.t 3), .int .u16 (pk q.u 2), .int .u16 (pk q.r 2)].toArray 47)
      obtain ⟨d0, d1, d2, d3, d4⟩ := HAT.out w6 hc6
      have hlb6 : lb < w6.heap.size := by have := hc6.size; omega
      clear hmA hcA CBA rA HO5 q6 hm6 hc6 CB6 r6
      go_wp2_with fail
      refine (cost_any q.a q.t q.u q.r q.c _ HQ.out.2.2.2.2).mono ?_
      rintro e w7 ⟨rfl, q7⟩
      have hm7 := hmB.chg0 q7
      have hc7 := hcB.trans q7 (by simp)
      have CB := q7.blk CBB (by simp)
      have r7 := q7.blk rB (by simp)
      have k7 := q7.blk kB (by simp)
      have s7 := q7.size
      simp at s7
      have HO7 : Hid (w7.ownsRow gm.hi 50 5 u13 gs.length (gcells gs)) := own_chg (HO6.out.alloc _) q7
      clear hmB hcB CBB rB kB HO6 q7 d0 d1 d2 d3 d4
      have r70 := blk_cell (i := 0) r7 rfl
      have r71 := blk_cell (i := 1) r7 rfl
      have k70 := blk_cell (i := 0) k7 rfl
      have k71 := blk_cell (i := 1) k7 rfl
      have k72 := blk_cell (i := 2) k7 rfl
      have hkl7 := lt_of_block k7
      have kc0 := blk_cell (i := 0) CB rfl
      have kc1 := blk_cell (i := 1) CB rfl
      have kc2 := blk_cell (i := 2) CB rfl
      have kc3 := blk_cell (i := 3) CB rfl
      have kc4 := blk_cell (i := 4) CB rfl
      have kc5 := blk_cell (i := 5) CB rfl
      have kc6 := blk_cell (i := 6) CB rfl
      have kc7 := blk_cell (i := 7) CB rfl
      have kc8 := blk_cell (i := 8) CB rfl
      have kc9 := blk_cell (i := 9) CB rfl
      have kc10 := blk_cell (i := 10) CB rfl
      have kc11 := blk_cell (i := 11) CB rfl
      have kc12 := blk_cell (i := 12) CB rfl
      have kc13 := blk_cell (i := 13) CB rfl
      have kc14 := blk_cell (i := 14) CB rfl
      rcases HCA.out with ⟨rfl, rfl, hki', hwi⟩ | ⟨rfl, kk, rfl, hk3, hki', hnj, hnk⟩
      · have HKI : Hid (KI ⟨ivl (1 + pk a0 9) (1 + pk a1 60), pk a2 201, ivl (1 + pk b0 9) (1 + pk b1 60), pk b2 201, ivl (1 + pk c0 9) (1 + pk c1 60), pk c2 201, .map []⟩ (now + pk q.a 30) D' (gs ++ [(⟨now + pk q.a 30, pk q.t 3, pk q.u 2, pk q.r 2, 1 + pk q.c 4⟩ : Gr)])) := hki'
        have HWI : Hid (∀ a : Nat, a < 3 → Wi (gs ++ [(⟨now + pk q.a 30, pk q.t 3, pk q.u 2, pk q.r 2, 1 + pk q.c 4⟩ : Gr)]) ((⟨ivl (1 + pk a0 9) (1 + pk a1 60), pk a2 201, ivl (1 + pk b0 9) (1 + pk b1 60), pk b2 201, ivl (1 + pk c0 9) (1 + pk c1 60), pk c2 201, .map []⟩ : Pln).lev a).1 ((⟨ivl (1 + pk a0 9) (1 + pk a1 60), pk a2 201, ivl (1 + pk b0 9) (1 + pk b1 60), pk b2 201, ivl (1 + pk c0 9) (1 + pk c1 60), pk c2 201, .map []⟩ : Pln).lev a).2 a (now + pk q.a 30)) := hwi
        clear hki' hwi HCA
        go_wp2_with (first
          | (at_builtin; refine wpList_append_own _ rfl _ _ 35 rfl gm.hi 50 i0 (.agg #[.int .i64 0, .int .u16 0, .int .u16 0, .int .u16 0, .int .i64 0]) 5 24 Try.underlying35 HI0.out.1 HI0.out.2.1 HI0.out.2.2.1 HI0.out.2.2.2 rfl (by decide) _ _ _ rfl (HO7.out.alloc _) ⟨w7.heap.size, 0, none⟩ 1 1 (Gr.cells (⟨now + pk q.a 30, pk q.t 3, pk q.u 2, pk q.r 2, 1 + pk q.c 4⟩ : Gr)) rfl rfl ?c1 ?c2 ?c3 ?c4 ?c5 ?_))
        case c1 =>
          intro j u hj
          have e : (⟨w7.heap.size, 0, none⟩ : Addr).add j = ⟨w7.heap.size, j, none⟩ := by unfold Addr.add; split <;> simp_all
          rw [e]
          have hj5 : j < 5 := by have := (List.getElem?_eq_some_iff.1 hj).1; simpa [Gr.cells] using this
          simp only [Gr.cells] at hj
          exact blk_cell (heap_alloc_new w7 _) hj
        case c2 => intro u hu; simp [Gr.cells] at hu; rcases hu with rfl | rfl | rfl | rfl | rfl <;> rfl
        case c3 => unfold maxLen; omega
        case c4 => omega
        case c5 => simp; omega
        · intro v' w8 hown' hgrow _
          have f8 := grown_fr (HO7.out.alloc _) hgrow
          have hmC := hm7.chg0 ((Chg.refl [] w7).alloc (.cells (Gr.cells (⟨now + pk q.a 30, pk q.t 3, pk q.u 2, pk q.r 2, 1 + pk q.c 4⟩ : Gr)).toArray 50))
          have hm8 := hmC.fr okm f8 (Or.inl (Nat.le_refl _))
          have hc8 := (hc7.alloc (.cells (Gr.cells (⟨now + pk q.a 30, pk q.t 3, pk q.u 2, pk q.r 2, 1 + pk q.c 4⟩ : Gr)).toArray 50)).fr2 f8 (by omega)
          have CB8 := f8.blk (blk_alloc CB (.cells (Gr.cells (⟨now + pk q.a 30, pk q.t 3, pk q.u 2, pk q.r 2, 1 + pk q.c 4⟩ : Gr)).toArray 50)) (Or.inl (by omega))
          have s8 := f8.size
          simp at s8
          rw [← gcells_snoc] at hown'
          have hgl' : (gs ++ [(⟨now + pk q.a 30, pk q.t 3, pk q.u 2, pk q.r 2, 1 + pk q.c 4⟩ : Gr)]).length = gs.length + 1 := by simp
          rw [← hgl'] at hown'
          have HKI2 := HKI.out
          have HWI2 := HWI.out
          generalize gs ++ [(⟨now + pk q.a 30, pk q.t 3, pk q.u 2, pk q.r 2, 1 + pk q.c 4⟩ : Gr)] = gs' at *
          have HGL : Hid (gs'.length = gs.length + 1) := hgl'
          have hgl2 : gs'.length ≤ k + 1 := by omega
          clear hgl'
          obtain ⟨la', lb', cap', hv', hgs'⟩ := gsAt_own hown'
          subst hv'
          have HO8 : Hid (w8.ownsRow gm.hi 50 5 (.slice la' gs'.length cap') gs'.length (gcells gs')) := hown'
          have HWC : Hid (Calls Try.prog 17 #[.slice la' gs'.length cap', .agg #[.int .i64 (1 + pk a0 9), .int .i64 (1 + pk a1 60), .int .i64 (pk a2 201), .int .i64 (1 + pk b0 9), .int .i64 (1 + pk b1 60), .int .i64 (pk b2 201), .int .i64 (1 + pk c0 9), .int .i64 (1 + pk c1 60), .int .i64 (pk c2 201), .slice none 0 0, .int .i64 1, .int .i64 64, .int .i64 3, .int .i64 20, .int .i64 5], .int .i64 (now + pk q.a 30)] w8 fun e w' => e = .returned (.bool true) ∧ Chg [] w8 w') :=
            HWT.out la' lb' cap' gs' _ w8 hgs' (by omega) (fun g hg => by have := (HKI2.rng g hg).2.1; omega) (fun g hg => by have := (HKI2.rng g hg).2.2; omega) (by omega) (by omega) HWI2
          have HK3 : Hid (KI ⟨ivl (1 + pk a0 9) (1 + pk a1 60), pk a2 201, ivl (1 + pk b0 9) (1 + pk b1 60), pk b2 201, ivl (1 + pk c0 9) (1 + pk c1 60), pk c2 201, .map []⟩ (now + pk q.a 30) D' gs') := HKI2
          clear hown' hgrow f8 hmC hm7 hc7 CB HO7 HKI2 HWI2 hgs' HWI HKI kc0 kc1 kc2 kc3 kc4 kc5 kc6 kc7 kc8 kc9 kc10 kc11 kc12 kc13 kc14
          have kc0 := blk_cell (i := 0) CB8 rfl
          have kc1 := blk_cell (i := 1) CB8 rfl
          have kc2 := blk_cell (i := 2) CB8 rfl
          have kc3 := blk_cell (i := 3) CB8 rfl
          have kc4 := blk_cell (i := 4) CB8 rfl
          have kc5 := blk_cell (i := 5) CB8 rfl
          have kc6 := blk_cell (i := 6) CB8 rfl
          have kc7 := blk_cell (i := 7) CB8 rfl
          have kc8 := blk_cell (i := 8) CB8 rfl
          have kc9 := blk_cell (i := 9) CB8 rfl
          have kc10 := blk_cell (i := 10) CB8 rfl
          have kc11 := blk_cell (i := 11) CB8 rfl
          have kc12 := blk_cell (i := 12) CB8 rfl
          have kc13 := blk_cell (i := 13) CB8 rfl
          have kc14 := blk_cell (i := 14) CB8 rfl
          go_wp2_with fail
          refine (HWC.out).mono ?_
          rintro e w9 ⟨rfl, q9⟩
          have hm9 := hm8.chg0 q9
          have hc9 := hc8.trans q9 (by simp)
          have CB9 := q9.blk CB8 (by simp)
          have s9 := q9.size
          have HO9 : Hid (w9.ownsRow gm.hi 50 5 (.slice la' gs'.length cap') gs'.length (gcells gs')) := own_chg HO8.out q9
          clear hm8 hc8 CB8 HO8 q9 kc0 kc1 kc2 kc3 kc4 kc5 kc6 kc7 kc8 kc9 kc10 kc11 kc12 kc13 kc14
          go_wp2_with fail
          go_roundw
          case rel => exact ⟨k + 1, now + pk q.a 30, D', gs', rfl, by go_num, by omega, by omega, by omega, by omega, by omega, hm9, i5, HK3.out, hc9, by omega, CB9, HO9.out⟩
          case measure => simp [intOf]; omega
      · obtain ⟨la', lb', cap', hv', hgs'⟩ := gsAt_own HO7.out
        subst hv'
        have HKI : Hid (KI ⟨ivl (1 + pk a0 9) (1 + pk a1 60), pk a2 201, ivl (1 + pk b0 9) (1 + pk b1 60), pk b2 201, ivl (1 + pk c0 9) (1 + pk c1 60), pk c2 201, .map []⟩ (now + pk q.a 30) D' gs) := hki'
        have HNF : Hid (∀ (j : Nat) W, j ≤ kk → Chg [] w7 W → Calls Try.prog 18 #[.slice la' gs.length cap', .agg #[.int .i64 (1 + pk a0 9), .int .i64 (1 + pk a1 60), .int .i64 (pk a2 201), .int .i64 (1 + pk b0 9), .int .i64 (1 + pk b1 60), .int .i64 (pk b2 201), .int .i64 (1 + pk c0 9), .int .i64 (1 + pk c1 60), .int .i64 (pk c2 201), .slice none 0 0, .int .i64 1, .int .i64 64, .int .i64 3, .int .i64 20, .int .i64 5], .int .i64 j, .agg #[.int .u16 (pk q.t 3), .int .u16 (pk q.u 2), .int .u16 (pk q.r 2)], .int .i64 (1 + pk q.c 4), .int .i64 (now + pk q.a 30)] W fun e w' => e = .returned (.bool (decide (j = kk))) ∧ Chg [] W w') := fun j W hj hW => by
          have hh := HND.out la' lb' cap' gs (pk q.t 3) (pk q.u 2) (pk q.r 2) (1 + pk q.c 4) (now + pk q.a 30) W j (by omega) (hgs'.chg hW (by simp)) (by omega) (fun g hg => by have := (hki'.rng g hg).2.1; omega) (fun g hg => by have := (hki'.rng g hg).2.2; omega) (by omega) (by omega) (by omega) (by omega)
          by_cases hjk : j = kk
          · subst hjk
            rw [hnk] at hh
            simpa using hh
          · rw [hnj j (by omega)] at hh
            simpa [hjk] using hh
        clear hki' hnj hnk HCA hgs'
        go_wp2_with fail
        go_loopw [20] (fun i wr => ∃ j : Nat, j ≤ kk + 1 ∧ i = .int .i64 j ∧ Chg [] w7 wr) (fun i _ => 4 - (intOf i).toNat)
        case atStart => exact ⟨0, by omega, rfl, Chg.refl _ _⟩
        case round =>
          obtain ⟨j, hj, rfl, hcj⟩ := hrel
          have HW7 : Hid (∀ W, Chg [] w7 W → ∃ (_ : MtrAt W gm (now + pk q.a 30) (fun _ => D')) (_ : Chg [] w W) (_ : W.heap[w2.heap.size]? = some (.cells [.int .i64 (1 + pk a0 9), .int .i64 (1 + pk a1 60), .int .i64 (pk a2 201), .int .i64 (1 + pk b0 9), .int .i64 (1 + pk b1 60), .int .i64 (pk b2 201), .int .i64 (1 + pk c0 9), .int .i64 (1 + pk c1 60), .int .i64 (pk c2 201), .slice none 0 0, .int .i64 1, .int .i64 64, .int .i64 3, .int .i64 20, .int .i64 5].toArray 30 (0, 0))), W.ownsRow gm.hi 50 5 (.slice la' gs.length cap') gs.length (gcells gs)) := fun W hW => ⟨hm7.chg0 hW, hc7.trans hW (by simp), hW.blk CB (by simp), own_chg HO7.out hW⟩
          have rj := hcj.blk r7 (by simp)
          have kj := hcj.blk k7 (by simp)
          have CBj := hcj.blk CB (by simp)
          have sj := hcj.size
          clear r7 k7 CB hm7 hc7 r70 r71 k70 k71 k72 kc0 kc1 kc2 kc3 kc4 kc5 kc6 kc7 kc8 kc9 kc10 kc11 kc12 kc13 kc14
          have r70 := blk_cell (i := 0) rj rfl
          have r71 := blk_cell (i := 1) rj rfl
          have k70 := blk_cell (i := 0) kj rfl
          have k71 := blk_cell (i := 1) kj rfl
          have k72 := blk_cell (i := 2) kj rfl
          have kc0 := blk_cell (i := 0) CBj rfl
          have kc1 := blk_cell (i := 1) CBj rfl
          have kc2 := blk_cell (i := 2) CBj rfl
          have kc3 := blk_cell (i := 3) CBj rfl
          have kc4 := blk_cell (i := 4) CBj rfl
          have kc5 := blk_cell (i := 5) CBj rfl
          have kc6 := blk_cell (i := 6) CBj rfl
          have kc7 := blk_cell (i := 7) CBj rfl
          have kc8 := blk_cell (i := 8) CBj rfl
          have kc9 := blk_cell (i := 9) CBj rfl
          have kc10 := blk_cell (i := 10) CBj rfl
          have kc11 := blk_cell (i := 11) CBj rfl
          have kc12 := blk_cell (i := 12) CBj rfl
          have kc13 := blk_cell (i := 13) CBj rfl
          have kc14 := blk_cell (i := 14) CBj rfl
          by_cases hjk : j ≤ kk
          · have hjj : (j : Int) ≤ (kk : Int) := by omega
            go_wp2_with fail
            refine (HNF.out j _ hjk hcj).mono ?_
            rintro e w8 ⟨rfl, q8⟩
            have hc8 := hcj.trans q8 (by simp)
            have r8 := q8.blk rj (by simp)
            have r80 := blk_cell (i := 0) r8 rfl
            have r81 := blk_cell (i := 1) r8 rfl
            clear r70 r71 k70 k71 k72 rj kj CBj kc0 kc1 kc2 kc3 kc4 kc5 kc6 kc7 kc8 kc9 kc10 kc11 kc12 kc13 kc14
            by_cases hje : j = kk
            · have e1 : decide (j = kk) = true := by simp [hje]
              have e2 : ((j : Int) == (kk : Int)) = true := by simp [hje]
              rw [e1]
              go_wp2_with fail
              go_roundw
              case rel => exact ⟨j + 1, by omega, by go_num, hc8⟩
              case measure => simp [intOf]; omega
            · have e1 : decide (j = kk) = false := by simp [hje]
              have e2 : ((j : Int) == (kk : Int)) = false := by simp; omega
              rw [e1]
              go_wp2_with fail
              go_roundw
              case rel => exact ⟨j + 1, by omega, by go_num, hc8⟩
              case measure => simp [intOf]; omega
          · have hjj : ¬ (j : Int) ≤ (kk : Int) := by omega
            go_wp2_with fail
            go_roundw
            case rel =>
              obtain ⟨z1, z2, z3, z4⟩ := HW7.out _ hcj
              exact ⟨k + 1, now + pk q.a 30, D', gs, rfl, by go_num, by omega, by omega, by omega, by omega, by omega, z1, i5, HKI.out, z2, by omega, z3, z4⟩
            case measure => simp [intOf]; omega
    · rcases (by omega : ¬ (k < len) ∨ (k < len ∧ ¬ (k < 60))) with hx | ⟨hx, hx2⟩
      all_goals
        go_wp2
        go_ret
        exact ⟨rfl, hcr⟩
end Go.Proofs.Ytbdnhllhdjepcaa
