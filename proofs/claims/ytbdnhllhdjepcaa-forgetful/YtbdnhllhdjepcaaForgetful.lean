import Derived.Test.YtbdnhllhdjepcaaPlaces
import Derived.Test.YtbdnhllhdjepcaaGrow
namespace Go.Proofs.Ytbdnhllhdjepcaa
set_option linter.unusedVariables false
set_option linter.unusedSimpArgs false
open Go.RowKit Go.Maps

set_option maxRecDepth 100000 in
set_option maxHeartbeats 16000000 in
theorem forgetful_any (a0 a1 a2 b0 b1 b2 c0 c1 c2 s : Int) (la : Option Addr) (lb lof len cap : Nat) (w : World) (ha : Raw a0 a1 a2) (hb : Raw b0 b1 b2) (hc : Raw c0 c1 c2) (hs : I64 s) (hlen : len ≤ 9223372036854775807) (hla : 0 < len → la = some ⟨lb, lof, none⟩ ∧ lb < w.heap.size)
    (hl : ∀ j : Nat, j < len → ∃ q : Rq, q.Ok ∧ AskAt w lb (lof + j * 5) q) :
    Calls Try.prog 6 #[.agg #[.int .i64 a0, .int .i64 a1, .int .i64 a2], .agg #[.int .i64 b0, .int .i64 b1, .int .i64 b2], .agg #[.int .i64 c0, .int .i64 c1, .int .i64 c2], .int .i64 s, .slice la len cap] w fun e w' => e = .returned (.bool true) ∧ Chg [] w w' := by
  obtain ⟨i0, hi, hz0, hz1, hz2⟩ := info_parts Try.info50
  have hps := pk_bd s 9 (by decide)
  have HP : Hid (∀ W, Calls Try.prog 19 #[.int .i64 s, .int .i64 9] W fun e w' => e = .returned (.int .i64 (pk s 9)) ∧ w' = W) := fun W => pick_any s 9 W hs.1 hs.2 (by decide) (by decide)
  generalize pk s 9 = ps at *
  have HC : Hid (∀ W, Calls Try.prog 11 #[.agg #[.int .i64 a0, .int .i64 a1, .int .i64 a2], .agg #[.int .i64 b0, .int .i64 b1, .int .i64 b2], .agg #[.int .i64 c0, .int .i64 c1, .int .i64 c2], .int .i64 1, .int .i64 (3 + ps)] W fun e w' => e = .returned (.agg #[.int .i64 (1 + pk a0 9), .int .i64 (1 + pk a1 60), .int .i64 (pk a2 201), .int .i64 (1 + pk b0 9), .int .i64 (1 + pk b1 60), .int .i64 (pk b2 201), .int .i64 (1 + pk c0 9), .int .i64 (1 + pk c1 60), .int .i64 (pk c2 201), .slice none 0 0, .int .i64 1, .int .i64 (3 + ps), .int .i64 3, .int .i64 20, .int .i64 5]) ∧ Chg [] W w') := fun W => conf_any a0 a1 a2 b0 b1 b2 c0 c1 c2 1 (3 + ps) W ha hb hc
  have HC64 : Hid (∀ W, Calls Try.prog 11 #[.agg #[.int .i64 a0, .int .i64 a1, .int .i64 a2], .agg #[.int .i64 b0, .int .i64 b1, .int .i64 b2], .agg #[.int .i64 c0, .int .i64 c1, .int .i64 c2], .int .i64 1, .int .i64 64] W fun e w' => e = .returned (.agg #[.int .i64 (1 + pk a0 9), .int .i64 (1 + pk a1 60), .int .i64 (pk a2 201), .int .i64 (1 + pk b0 9), .int .i64 (1 + pk b1 60), .int .i64 (pk b2 201), .int .i64 (1 + pk c0 9), .int .i64 (1 + pk c1 60), .int .i64 (pk c2 201), .slice none 0 0, .int .i64 1, .int .i64 64, .int .i64 3, .int .i64 20, .int .i64 5]) ∧ Chg [] W w') := fun W => conf_any a0 a1 a2 b0 b1 b2 c0 c1 c2 1 64 W ha hb hc
  have HF : Hid (∀ W, Calls Try.prog 12 #[.agg #[.int .i64 (1 + pk a0 9), .int .i64 (1 + pk a1 60), .int .i64 (pk a2 201), .int .i64 (1 + pk b0 9), .int .i64 (1 + pk b1 60), .int .i64 (pk b2 201), .int .i64 (1 + pk c0 9), .int .i64 (1 + pk c1 60), .int .i64 (pk c2 201), .slice none 0 0, .int .i64 1, .int .i64 (3 + ps), .int .i64 3, .int .i64 20, .int .i64 5]] W fun e w' => ∃ g, e = .returned (.tuple #[.pointer (some ⟨g.mb, 0, none⟩), .bool true]) ∧ IsNew W w' g 1 (3 + ps) ⟨ivl (1 + pk a0 9) (1 + pk a1 60), pk a2 201, ivl (1 + pk b0 9) (1 + pk b1 60), pk b2 201, ivl (1 + pk c0 9) (1 + pk c1 60), pk c2 201, .map []⟩) := fun W =>
    fresh_any _ _ _ _ _ _ _ _ _ (3 + ps) 3 20 5 1 W (qok_pk a0 a1 a2) (qok_pk b0 b1 b2) (qok_pk c0 c1 c2) (by decide) (by decide) (by omega) (by omega) (by decide) (by decide) (by decide) (by decide) (by decide) (by decide)
  have HF64 : Hid (∀ W, Calls Try.prog 12 #[.agg #[.int .i64 (1 + pk a0 9), .int .i64 (1 + pk a1 60), .int .i64 (pk a2 201), .int .i64 (1 + pk b0 9), .int .i64 (1 + pk b1 60), .int .i64 (pk b2 201), .int .i64 (1 + pk c0 9), .int .i64 (1 + pk c1 60), .int .i64 (pk c2 201), .slice none 0 0, .int .i64 1, .int .i64 64, .int .i64 3, .int .i64 20, .int .i64 5]] W fun e w' => ∃ g, e = .returned (.tuple #[.pointer (some ⟨g.mb, 0, none⟩), .bool true]) ∧ IsNew W w' g 1 64 ⟨ivl (1 + pk a0 9) (1 + pk a1 60), pk a2 201, ivl (1 + pk b0 9) (1 + pk b1 60), pk b2 201, ivl (1 + pk c0 9) (1 + pk c1 60), pk c2 201, .map []⟩) := fun W =>
    fresh_any _ _ _ _ _ _ _ _ _ 64 3 20 5 1 W (qok_pk a0 a1 a2) (qok_pk b0 b1 b2) (qok_pk c0 c1 c2) (by decide) (by decide) (by omega) (by omega) (by decide) (by decide) (by decide) (by decide) (by decide) (by decide)
  have HSM : Hid (Sm 300 ⟨ivl (1 + pk a0 9) (1 + pk a1 60), pk a2 201, ivl (1 + pk b0 9) (1 + pk b1 60), pk b2 201, ivl (1 + pk c0 9) (1 + pk c1 60), pk c2 201, .map []⟩) := sm_pk a0 a1 a2 b0 b1 b2 c0 c1 c2
  have HSQ : Hid (Sq (1 + pk a0 9) (1 + pk a1 60) (pk a2 201) ∧ Sq (1 + pk b0 9) (1 + pk b1 60) (pk b2 201) ∧ Sq (1 + pk c0 9) (1 + pk c1 60) (pk c2 201)) := ⟨sq_pk _ _ _, sq_pk _ _ _, sq_pk _ _ _⟩
  have HPL : Hid (∀ la lb cap gs t u r now W, GsAt W la lb gs → gs.length ≤ 100 → (∀ g ∈ gs, 0 ≤ g.c ∧ g.c ≤ 1000) → (∀ g ∈ gs, 0 ≤ g.t ∧ g.t ≤ 1000000) → 0 ≤ now → now ≤ 1000000 →
      Calls Try.prog 23 #[.slice la gs.length cap, .agg #[.int .i64 (1 + pk a0 9), .int .i64 (1 + pk a1 60), .int .i64 (pk a2 201), .int .i64 (1 + pk b0 9), .int .i64 (1 + pk b1 60), .int .i64 (pk b2 201), .int .i64 (1 + pk c0 9), .int .i64 (1 + pk c1 60), .int .i64 (pk c2 201), .slice none 0 0, .int .i64 1, .int .i64 (3 + ps), .int .i64 3, .int .i64 20, .int .i64 5], .agg #[.int .u16 t, .int .u16 u, .int .u16 r], .int .i64 now] W fun e w' => e = .returned (.int .i64 (placesL gs ⟨ivl (1 + pk a0 9) (1 + pk a1 60), pk a2 201, ivl (1 + pk b0 9) (1 + pk b1 60), pk b2 201, ivl (1 + pk c0 9) (1 + pk c1 60), pk c2 201, .map []⟩ t u r now 3)) ∧ Chg [] W w') := fun la lb cap gs t u r now W h1 h2 h3 h4 h5 h6 =>
    places_any la lb cap gs _ _ _ _ _ _ _ _ _ 1 (3 + ps) 3 20 5 t u r now W h1 h2 h3 h4 HSQ.out h5 h6
  have HKE : Hid (KI ⟨ivl (1 + pk a0 9) (1 + pk a1 60), pk a2 201, ivl (1 + pk b0 9) (1 + pk b1 60), pk b2 201, ivl (1 + pk c0 9) (1 + pk c1 60), pk c2 201, .map []⟩ 0 (.map []) []) := KI.empty (fun a => by
    have h := (HSM.out a (kl 0 0 0 0)).1
    rw [at_lev rfl] at h
    exact ⟨by have := h.1; omega, h.2.1⟩)
  have HL : Hid (∀ j : Nat, j < len → ∃ q : Rq, q.Ok ∧ AskAt w lb (lof + j * 5) q) := hl
  have HLA : Hid (0 < len → la = some ⟨lb, lof, none⟩ ∧ lb < w.heap.size) := hla
  have HI0 : Hid (Try.prog.info? 50 = some i0 ∧ i0.zero = some (.agg #[.int .i64 0, .int .u16 0, .int .u16 0, .int .u16 0, .int .i64 0]) ∧ i0.size = 5 ∧ i0.bytes = 24) := ⟨hi, hz0, hz1, hz2⟩
  clear hl ha hb hc hla hi hz0 hz1 hz2 hs HSQ
  obtain ⟨w0, hw0⟩ : ∃ w0, w0 = (((w.alloc (.cells [.int .i64 a0, .int .i64 a1, .int .i64 a2].toArray 23)).alloc (.cells [.int .i64 b0, .int .i64 b1, .int .i64 b2].toArray 23)).alloc (.cells [.int .i64 c0, .int .i64 c1, .int .i64 c2].toArray 23)) := ⟨_, rfl⟩
  have g0 : w0.heap[w.heap.size]? = some (.cells [.int .i64 a0, .int .i64 a1, .int .i64 a2].toArray 23 (0, 0)) := hw0 ▸ blk_alloc (heap_alloc2_old _ _ _) _
  have g1 : w0.heap[w.heap.size + 1]? = some (.cells [.int .i64 b0, .int .i64 b1, .int .i64 b2].toArray 23 (0, 0)) := hw0 ▸ blk_alloc (heap_alloc2_new _ _ _) _
  have g2 : w0.heap[w.heap.size + 2]? = some (.cells [.int .i64 c0, .int .i64 c1, .int .i64 c2].toArray 23 (0, 0)) := by
    rw [hw0]
    have := heap_alloc2_new (w.alloc (.cells [.int .i64 a0, .int .i64 a1, .int .i64 a2].toArray 23)) (.cells [.int .i64 b0, .int .i64 b1, .int .i64 b2].toArray 23) (.cells [.int .i64 c0, .int .i64 c1, .int .i64 c2].toArray 23)
    simpa using this
  have hc0 : Chg [] w w0 := hw0 ▸ (((Chg.refl _ _).alloc _).alloc _).alloc _
  have HW0 : Hid (w0 = (((w.alloc (.cells [.int .i64 a0, .int .i64 a1, .int .i64 a2].toArray 23)).alloc (.cells [.int .i64 b0, .int .i64 b1, .int .i64 b2].toArray 23)).alloc (.cells [.int .i64 c0, .int .i64 c1, .int .i64 c2].toArray 23))) := hw0
  have HB0 : Hid (∀ W, Chg [] w0 W → (W.cell? ⟨w.heap.size, 0, none⟩ = some (.int .i64 a0) ∧ W.cell? ⟨w.heap.size, 1, none⟩ = some (.int .i64 a1) ∧ W.cell? ⟨w.heap.size, 2, none⟩ = some (.int .i64 a2) ∧ W.cell? ⟨w.heap.size + 1, 0, none⟩ = some (.int .i64 b0) ∧ W.cell? ⟨w.heap.size + 1, 1, none⟩ = some (.int .i64 b1) ∧ W.cell? ⟨w.heap.size + 1, 2, none⟩ = some (.int .i64 b2) ∧ W.cell? ⟨w.heap.size + 2, 0, none⟩ = some (.int .i64 c0) ∧ W.cell? ⟨w.heap.size + 2, 1, none⟩ = some (.int .i64 c1) ∧ W.cell? ⟨w.heap.size + 2, 2, none⟩ = some (.int .i64 c2))) := fun W hW => by
    have k0 := hW.blk g0 (by simp)
    have k1 := hW.blk g1 (by simp)
    have k2 := hW.blk g2 (by simp)
    exact ⟨blk_cell k0 rfl, blk_cell k0 rfl, blk_cell k0 rfl, blk_cell k1 rfl, blk_cell k1 rfl, blk_cell k1 rfl, blk_cell k2 rfl, blk_cell k2 rfl, blk_cell k2 rfl⟩
  have hs0 := hc0.size
  have HC0 : Hid (Chg [] w w0) := hc0
  clear hw0 g0 g1 g2 hc0
  go_enter Try.func6, Try.ntmps6
  go_wp2_with fail
  rw [show (((w.alloc (.cells #[.int .i64 a0, .int .i64 a1, .int .i64 a2] 23)).alloc (.cells #[.int .i64 b0, .int .i64 b1, .int .i64 b2] 23)).alloc (.cells #[.int .i64 c0, .int .i64 c1, .int .i64 c2] 23)) = w0 from HW0.out.symm]
  refine (begun_any w0).mono ?_
  rintro e w1 ⟨rfl, q1⟩
  clear HW0
  go_wp2_with fail
  refine (HP.out _).mono ?_
  rintro e w1 ⟨rfl, rfl⟩
  obtain ⟨x0, x1, x2, x3, x4, x5, x6, x7, x8⟩ := HB0.out w1 q1
  go_wp2_with fail
  refine (HC.out _).mono ?_
  rintro e w2 ⟨rfl, q2⟩
  have c2 := q1.trans q2 (by simp)
  have s2 := c2.size
  clear q1 q2 x0 x1 x2 x3 x4 x5 x6 x7 x8 HP
  go_wp2_with fail
  refine (HF.out _).mono ?_
  rintro e w3 ⟨gm, rfl, okm, hm3, hc3, hmlo, hmhi, hmn, hms, hmp⟩
  have c3 := c2.trans hc3 (by simp)
  have s3 := hc3.size
  obtain ⟨x0, x1, x2, x3, x4, x5, x6, x7, x8⟩ := HB0.out w3 c3
  clear c2 hc3 HF
  go_wp2_with fail
  refine (HC64.out _).mono ?_
  rintro e w4 ⟨rfl, q4⟩
  have c4 := c3.trans q4 (by simp)
  have hm4 := hm3.chg0 q4
  have s4 := q4.size
  clear c3 q4 hm3 x0 x1 x2 x3 x4 x5 x6 x7 x8 HC64
  go_wp2_with fail
  refine (HF64.out _).mono ?_
  rintro e w5 ⟨gn, rfl, okn, hn5, hc5, hnlo, hnhi, hnn, hns, hnp⟩
  have c5 := c4.trans hc5 (by simp)
  have hm5 := hm4.chg0 hc5
  have hwm : w0.heap.size ≤ gm.lo := by omega
  have hml : gm.lo < gm.hi := by have := okm.mr; omega
  have hnl : gn.lo < gn.hi := by have := okn.mr; omega
  have hmnl : gm.hi ≤ gn.lo := by omega
  have hwn : w0.heap.size ≤ gn.lo := by omega
  have HPM : Hid (gm.p = ⟨ivl (1 + pk a0 9) (1 + pk a1 60), pk a2 201, ivl (1 + pk b0 9) (1 + pk b1 60), pk b2 201, ivl (1 + pk c0 9) (1 + pk c1 60), pk c2 201, .map []⟩ ∧ gm.sl = 3 + ps ∧ gn.p = ⟨ivl (1 + pk a0 9) (1 + pk a1 60), pk a2 201, ivl (1 + pk b0 9) (1 + pk b1 60), pk b2 201, ivl (1 + pk c0 9) (1 + pk c1 60), pk c2 201, .map []⟩ ∧ gn.sl = 64) := ⟨hmp, hms, hnp, hns⟩
  clear hc5 HF64 hmp hms hnp hns c4 hm4 s2 s3 s4 hmlo hmhi hnlo
  go_wp2_with fail
  go_loopw [17, 18, 19] (fun v nw i wr => ∃ (k : Nat) (now : Int) (Dm Dn : DW) (gs : List Gr), nw = .int .i64 now ∧ i = .int .i64 k ∧ k ≤ 80 ∧ k ≤ len ∧ gs.length ≤ k ∧ 0 ≤ now ∧ now ≤ 30 * k ∧ MtrAt wr gm now (fun _ => Dm) ∧ MtrAt wr gn now (fun _ => Dn) ∧ Inv now Dm ∧ Inv now Dn ∧ KI ⟨ivl (1 + pk a0 9) (1 + pk a1 60), pk a2 201, ivl (1 + pk b0 9) (1 + pk b1 60), pk b2 201, ivl (1 + pk c0 9) (1 + pk c1 60), pk c2 201, .map []⟩ now Dm gs ∧ KI ⟨ivl (1 + pk a0 9) (1 + pk a1 60), pk a2 201, ivl (1 + pk b0 9) (1 + pk b1 60), pk b2 201, ivl (1 + pk c0 9) (1 + pk c1 60), pk c2 201, .map []⟩ now Dn gs ∧ Chg [] w0 wr ∧ gn.hi ≤ wr.heap.size ∧ wr.ownsRow gn.hi 50 5 v gs.length (gcells gs)) (fun _ _ i _ => 80 - (intOf i).toNat)
  case atStart => exact ⟨0, 0, .map [], .map [], [], rfl, rfl, by omega, by omega, by simp, by omega, by omega, hm5, hn5, Inv.empty, Inv.empty, HKE.out, HKE.out, c5, hnhi, World.ownsRow_nil _ _ _ _⟩
  case round =>
    obtain ⟨k, now, Dm, Dn, gs, rfl, rfl, hk80, hkl, hgl, h0, h1, hmm, hmn', im, inn, kim, kin, hcr, hhr, hown⟩ := hrel
    clear hm5 hn5 c5 hnhi
    by_cases hlt : k < len ∧ k < 80
    · obtain ⟨hlt, hlt2⟩ := hlt
      obtain ⟨hla1, hlb⟩ := HLA.out (by omega)
      subst hla1
      obtain ⟨q, hq, hat⟩ := HL.out k hlt
      have hpa := pk_bd q.a 30 (by decide)
      have hpc := pk_bd q.c 4 (by decide)
      have HQ : Hid q.Ok := hq
      have HAT : Hid (∀ W, Chg [] w0 W → (W.cell? ⟨lb, lof + k * 5, none⟩ = some (.int .i64 q.a) ∧ W.cell? ⟨lb, lof + k * 5 + 1, none⟩ = some (.int .i64 q.t) ∧ W.cell? ⟨lb, lof + k * 5 + 2, none⟩ = some (.int .i64 q.u) ∧ W.cell? ⟨lb, lof + k * 5 + 3, none⟩ = some (.int .i64 q.r) ∧ W.cell? ⟨lb, lof + k * 5 + 4, none⟩ = some (.int .i64 q.c))) := fun W hW => by
        have hW := HC0.out.trans hW (by simp)
        exact ⟨hW.cell hat.1 (by simp), hW.cell hat.2.1 (by simp), hW.cell hat.2.2.1 (by simp), hW.cell hat.2.2.2.1 (by simp), hW.cell hat.2.2.2.2 (by simp)⟩
      have hRG : Rng (pk q.t 3) (pk q.u 2) (pk q.r 2) := ⟨pk_bd q.t 3 (by decide), pk_bd q.u 2 (by decide), pk_bd q.r 2 (by decide)⟩
      have KM := kim.mono (show now ≤ now + pk q.a 30 from by omega)
      have KN := kin.mono (show now ≤ now + pk q.a 30 from by omega)
      have HTW : Hid _ := KM.two KN (by omega) (s := 3 + ps) (cost := 1 + pk q.c 4) hRG
      have HSTM : Hid _ := KM.step (by omega) rfl HSM.out (cost := 1 + pk q.c 4) (by omega) (by omega) hRG
      have HSTN : Hid _ := KN.step (by omega) rfl HSM.out (cost := 1 + pk q.c 4) (by omega) (by omega) hRG
      have HKM : Hid (KI ⟨ivl (1 + pk a0 9) (1 + pk a1 60), pk a2 201, ivl (1 + pk b0 9) (1 + pk b1 60), pk b2 201, ivl (1 + pk c0 9) (1 + pk c1 60), pk c2 201, .map []⟩ (now + pk q.a 30) Dm gs) := KM
      have HKN : Hid (KI ⟨ivl (1 + pk a0 9) (1 + pk a1 60), pk a2 201, ivl (1 + pk b0 9) (1 + pk b1 60), pk b2 201, ivl (1 + pk c0 9) (1 + pk c1 60), pk c2 201, .map []⟩ (now + pk q.a 30) Dn gs) := KN
      have HOW : Hid (wr.ownsRow gn.hi 50 5 u17 gs.length (gcells gs)) := hown
      have HIV : Hid (Inv now Dm ∧ Inv now Dn) := ⟨im, inn⟩
      clear hq hat kim kin KM KN hown im inn hRG
      obtain ⟨d0, d1, d2, d3, d4⟩ := HAT.out wr hcr
      have hk0 : (0 : Int) ≤ (k : Int) := by omega
      have hk1 : (k : Int) < (len : Int) := by omega
      have hk2 : (k : Int) < 80 := by omega
      go_wp2_with fail
      refine (wait_any q.a q.t q.u q.r q.c _ HQ.out.1).mono ?_
      rintro e w4 ⟨rfl, q4⟩
      have hm4 := hmm.chg0 q4
      have hn4 := hmn'.chg0 q4
      have hc4 := hcr.trans q4 (by simp)
      have HO4 : Hid (w4.ownsRow gn.hi 50 5 u17 gs.length (gcells gs)) := own_chg HOW.out q4
      have s4 := q4.size
      obtain ⟨d0, d1, d2, d3, d4⟩ := HAT.out w4 hc4
      clear hmm hmn' hcr HOW q4
      go_wp2_with fail
      refine (asked1 gm now Dm q.a q.t q.u q.r q.c w4 hm4 okm hmn (by omega) HQ.out.1 HQ.out.2.1 HQ.out.2.2.1 HQ.out.2.2.2.1 HQ.out.2.2.2.2 h0 (by omega) HIV.out.1).mono ?_
      rintro e w5 ⟨rfl, hm5, f5, i5⟩
      rw [HPM.out.1, HPM.out.2.1] at hm5 i5 ⊢
      obtain ⟨st, lv, rt, D', hX⟩ : ∃ st lv rt D', allowD ⟨ivl (1 + pk a0 9) (1 + pk a1 60), pk a2 201, ivl (1 + pk b0 9) (1 + pk b1 60), pk b2 201, ivl (1 + pk c0 9) (1 + pk c1 60), pk c2 201, .map []⟩ (3 + ps) Dm (now + pk q.a 30) (1 + pk q.c 4) (pk q.t 3) (pk q.u 2) (pk q.r 2) = ((st, lv, rt), D') := ⟨_, _, _, _, rfl⟩
      rw [hX] at hm5 i5 ⊢
      have HX : Hid (allowD ⟨ivl (1 + pk a0 9) (1 + pk a1 60), pk a2 201, ivl (1 + pk b0 9) (1 + pk b1 60), pk b2 201, ivl (1 + pk c0 9) (1 + pk c1 60), pk c2 201, .map []⟩ (3 + ps) Dm (now + pk q.a 30) (1 + pk q.c 4) (pk q.t 3) (pk q.u 2) (pk q.r 2) = ((st, lv, rt), D')) := hX
      clear hX
      simp only [repV]
      simp only at hm5 i5
      have hn5 := hn4.fr okn f5 (Or.inr hmnl)
      have hc5 := hc4.fr2 f5 hwm
      have s5 := f5.size
      have HO5 : Hid (w5.ownsRow gn.hi 50 5 u17 gs.length (gcells gs)) := own_fr HO4.out f5 (by omega)
      obtain ⟨d0, d1, d2, d3, d4⟩ := HAT.out _ hc5
      have hlb5 : lb < w5.heap.size := by have := hc5.size; omega
      have hm5' := hm5.chg0 ((Chg.refl [] w5).alloc (.cells [.int .i64 st, .int .i64 lv, .int .u64 rt].toArray 42))
      have hn5' := hn5.chg0 ((Chg.refl [] w5).alloc (.cells [.int .i64 st, .int .i64 lv, .int .u64 rt].toArray 42))
      have r5 := heap_alloc_new w5 (.cells [.int .i64 st, .int .i64 lv, .int .u64 rt].toArray 42)
      have hc5' := hc5.alloc (.cells [.int .i64 st, .int .i64 lv, .int .u64 rt].toArray 42)
      clear hm4 hn4 hc4 HO4 f5 hm5 hn5 hc5
      go_wp2_with fail
      refine (wait_any q.a q.t q.u q.r q.c _ HQ.out.1).mono ?_
      rintro e w6 ⟨rfl, q6⟩
      have hm6 := hm5'.chg0 q6
      have hn6 := hn5'.chg0 q6
      have r6 := q6.blk r5 (by simp)
      have hc6 := hc5'.trans q6 (by simp)
      have s6 := q6.size
      simp at s6
      have HO6 : Hid (w6.ownsRow gn.hi 50 5 u17 gs.length (gcells gs)) := own_chg (HO5.out.alloc _) q6
      clear hm5' hn5' q6 r5 hc5' HO5 d0 d1 d2 d3 d4
      go_wp2_with fail
      refine (MAdvance gn now (pk q.a 30) _ w6 hn6 okn h0 (by omega) hpa.1 (by omega)).mono ?_
      rintro e w7 ⟨rfl, hn7, f7⟩
      rw [show min (now + pk q.a 30) 9223372036854775807 = now + pk q.a 30 from by omega] at hn7
      have hm7 := hm6.fr okm f7 (Or.inl hmnl)
      have r7 := f7.blk r6 (Or.inr (by omega))
      have hc7 := hc6.fr2 f7 hwn
      have s7 := f7.size
      have HO7 : Hid (w7.ownsRow gn.hi 50 5 u17 gs.length (gcells gs)) := own_fr HO6.out f7 (Nat.le_refl _)
      clear hm6 hn6 r6 hc6 f7 HO6
      obtain ⟨la', lb', cap', hv', hgs'⟩ := gsAt_own HO7.out
      have HPC : Hid (∀ W, Chg [] w7 W → Calls Try.prog 23 #[.slice la' gs.length cap', .agg #[.int .i64 (1 + pk a0 9), .int .i64 (1 + pk a1 60), .int .i64 (pk a2 201), .int .i64 (1 + pk b0 9), .int .i64 (1 + pk b1 60), .int .i64 (pk b2 201), .int .i64 (1 + pk c0 9), .int .i64 (1 + pk c1 60), .int .i64 (pk c2 201), .slice none 0 0, .int .i64 1, .int .i64 (3 + ps), .int .i64 3, .int .i64 20, .int .i64 5], .agg #[.int .u16 (pk q.t 3), .int .u16 (pk q.u 2), .int .u16 (pk q.r 2)], .int .i64 (now + pk q.a 30)] W fun e w' => e = .returned (.int .i64 (placesL gs ⟨ivl (1 + pk a0 9) (1 + pk a1 60), pk a2 201, ivl (1 + pk b0 9) (1 + pk b1 60), pk b2 201, ivl (1 + pk c0 9) (1 + pk c1 60), pk c2 201, .map []⟩ (pk q.t 3) (pk q.u 2) (pk q.r 2) (now + pk q.a 30) 3)) ∧ Chg [] W w') := fun W hW =>
        HPL.out la' lb' cap' gs _ _ _ _ W (hgs'.chg hW (by simp)) (by omega) (fun g hg => by have := (HKM.out.rng g hg).2.1; omega) (fun g hg => by have := (HKM.out.rng g hg).2.2; omega) (by omega) (by omega)
      clear hgs'
      generalize placesL gs ⟨ivl (1 + pk a0 9) (1 + pk a1 60), pk a2 201, ivl (1 + pk b0 9) (1 + pk b1 60), pk b2 201, ivl (1 + pk c0 9) (1 + pk c1 60), pk c2 201, .map []⟩ (pk q.t 3) (pk q.u 2) (pk q.r 2) (now + pk q.a 30) 3 = np at HPC HTW
      subst hv'
      have HKy : Hid (∀ W, Calls Try.prog 15 #[.agg #[.int .i64 q.a, .int .i64 q.t, .int .i64 q.u, .int .i64 q.r, .int .i64 q.c]] W fun e w' => e = .returned (.agg #[.int .u16 (pk q.t 3), .int .u16 (pk q.u 2), .int .u16 (pk q.r 2)]) ∧ Chg [] W w') := fun W => key_any q.a q.t q.u q.r q.c W HQ.out.2.1 HQ.out.2.2.1 HQ.out.2.2.2.1
      have HCo : Hid (∀ W, Calls Try.prog 16 #[.agg #[.int .i64 q.a, .int .i64 q.t, .int .i64 q.u, .int .i64 q.r, .int .i64 q.c]] W fun e w' => e = .returned (.int .i64 (1 + pk q.c 4)) ∧ Chg [] W w') := fun W => cost_any q.a q.t q.u q.r q.c W HQ.out.2.2.2.2
      have HS : Hid (∀ W, Chg [] w7 W → ((W.cell? ⟨w.heap.size, 0, none⟩ = some (.int .i64 a0) ∧ W.cell? ⟨w.heap.size, 1, none⟩ = some (.int .i64 a1) ∧ W.cell? ⟨w.heap.size, 2, none⟩ = some (.int .i64 a2) ∧ W.cell? ⟨w.heap.size + 1, 0, none⟩ = some (.int .i64 b0) ∧ W.cell? ⟨w.heap.size + 1, 1, none⟩ = some (.int .i64 b1) ∧ W.cell? ⟨w.heap.size + 1, 2, none⟩ = some (.int .i64 b2) ∧ W.cell? ⟨w.heap.size + 2, 0, none⟩ = some (.int .i64 c0) ∧ W.cell? ⟨w.heap.size + 2, 1, none⟩ = some (.int .i64 c1) ∧ W.cell? ⟨w.heap.size + 2, 2, none⟩ = some (.int .i64 c2)) ∧ (W.cell? ⟨lb, lof + k * 5, none⟩ = some (.int .i64 q.a) ∧ W.cell? ⟨lb, lof + k * 5 + 1, none⟩ = some (.int .i64 q.t) ∧ W.cell? ⟨lb, lof + k * 5 + 2, none⟩ = some (.int .i64 q.u) ∧ W.cell? ⟨lb, lof + k * 5 + 3, none⟩ = some (.int .i64 q.r) ∧ W.cell? ⟨lb, lof + k * 5 + 4, none⟩ = some (.int .i64 q.c)))) := fun W hW => ⟨HB0.out W (hc7.trans hW (by simp)), HAT.out W (hc7.trans hW (by simp))⟩
      have v7 : Chg [] w7 w7.drew := (Chg.refl _ _).drew
      obtain ⟨⟨x0, x1, x2, x3, x4, x5, x6, x7, x8⟩, d0, d1, d2, d3, d4⟩ := HS.out w7 (Chg.refl _ _)
      go_upto_region 17 with fail
      go_region_held3 (fun W => (W.cell? ⟨w.heap.size, 0, none⟩ = some (.int .i64 a0) ∧ W.cell? ⟨w.heap.size, 1, none⟩ = some (.int .i64 a1) ∧ W.cell? ⟨w.heap.size, 2, none⟩ = some (.int .i64 a2) ∧ W.cell? ⟨w.heap.size + 1, 0, none⟩ = some (.int .i64 b0) ∧ W.cell? ⟨w.heap.size + 1, 1, none⟩ = some (.int .i64 b1) ∧ W.cell? ⟨w.heap.size + 1, 2, none⟩ = some (.int .i64 b2) ∧ W.cell? ⟨w.heap.size + 2, 0, none⟩ = some (.int .i64 c0) ∧ W.cell? ⟨w.heap.size + 2, 1, none⟩ = some (.int .i64 c1) ∧ W.cell? ⟨w.heap.size + 2, 2, none⟩ = some (.int .i64 c2)) ∧ (W.cell? ⟨lb, lof + k * 5, none⟩ = some (.int .i64 q.a) ∧ W.cell? ⟨lb, lof + k * 5 + 1, none⟩ = some (.int .i64 q.t) ∧ W.cell? ⟨lb, lof + k * 5 + 2, none⟩ = some (.int .i64 q.u) ∧ W.cell? ⟨lb, lof + k * 5 + 3, none⟩ = some (.int .i64 q.r) ∧ W.cell? ⟨lb, lof + k * 5 + 4, none⟩ = some (.int .i64 q.c)))
        (first | with_reducible exact HS.out _ v10 | with_reducible exact HS.out _ v9 | with_reducible exact HS.out _ v8 | with_reducible exact HS.out _ v7)
        (first | (go_at_call 11; refine (HC.out _).mono ?_; rintro e w8 ⟨rfl, q8⟩; have v8 : Chg [] w7 w8 := v7.trans q8 (by simp)) | (go_at_call 15; refine (HKy.out _).mono ?_; rintro e w9 ⟨rfl, q9⟩; have v9 : Chg [] w7 w9 := v8.trans q9 (by simp)) | (go_at_call 23; refine (HPC.out _ v9).mono ?_; rintro e w10 ⟨rfl, q10⟩; have v10 : Chg [] w7 w10 := v9.trans q10 (by simp)))
      clear x0 x1 x2 x3 x4 x5 x6 x7 x8 d0 d1 d2 d3 d4 HPC
      have hm10 := hm7.chg0 v10
      have hn10 := hn7.chg0 v10
      have r10 := v10.blk r7 (by simp)
      have hc10 := hc7.trans v10 (by simp)
      have s10 := v10.size
      have HO10 : Hid (w10.ownsRow gn.hi 50 5 (.slice la' gs.length cap') gs.length (gcells gs)) := own_chg HO7.out v10
      have r100 := blk_cell (i := 0) r10 rfl
      clear HS v7 v8 v9 v10 hm7 hn7 hc7 r7 HO7
      by_cases hfull : 3 + ps < np
      · have hXF := HTW.out.1 hfull
        rw [HX.out] at hXF
        have hst2 : st = 2 := by injection hXF with e1 e2; injection e1
        have hD' : D' = fgt (now + pk q.a 30) Dm := by injection hXF
        subst hst2
        have HDD : Hid (D' = fgt (now + pk q.a 30) Dm) := hD'
        clear hXF hD'
        go_wp2_with fail
        go_roundw
        case rel => exact ⟨k + 1, now + pk q.a 30, D', Dn, gs, rfl, by go_num, by omega, by omega, by omega, by omega, by omega, hm10, hn10, i5, HIV.out.2.mono (by omega), by rw [HDD.out]; exact HKM.out.fgt (by omega), HKN.out, hc10, by omega, HO10.out⟩
        case measure => simp [intOf]; omega
      · have hnf : np ≤ 3 + ps := by omega
        have hX64 := HTW.out.2.1 hnf
        rw [HX.out] at hX64
        obtain ⟨st', lv', rt', Dm', e1, hca⟩ := HSTM.out
        rw [← hX64] at e1
        injection e1 with e2 e3
        injection e2 with e4 e5
        injection e5 with e6 e7
        subst e4 e6 e7 e3
        obtain ⟨st2, lv2, rt2, Dn', e1, hcb⟩ := HSTN.out
        have e8 := HTW.out.2.2
        rw [← hX64, e1] at e8
        injection e8 with e4 e5
        injection e5 with e6 e7
        subst e4 e6 e7
        have HXN : Hid (allowD gn.p gn.sl Dn (now + pk q.a 30) (1 + pk q.c 4) (pk q.t 3) (pk q.u 2) (pk q.r 2) = ((st, lv, rt), Dn')) := by
          show _ = _
          rw [HPM.out.2.2.1, HPM.out.2.2.2]
          exact e1
        have HCC : Hid ((st = 0 ∧ KI ⟨ivl (1 + pk a0 9) (1 + pk a1 60), pk a2 201, ivl (1 + pk b0 9) (1 + pk b1 60), pk b2 201, ivl (1 + pk c0 9) (1 + pk c1 60), pk c2 201, .map []⟩ (now + pk q.a 30) D' (gs ++ [(⟨now + pk q.a 30, pk q.t 3, pk q.u 2, pk q.r 2, 1 + pk q.c 4⟩ : Gr)]) ∧ KI ⟨ivl (1 + pk a0 9) (1 + pk a1 60), pk a2 201, ivl (1 + pk b0 9) (1 + pk b1 60), pk b2 201, ivl (1 + pk c0 9) (1 + pk c1 60), pk c2 201, .map []⟩ (now + pk q.a 30) Dn' (gs ++ [(⟨now + pk q.a 30, pk q.t 3, pk q.u 2, pk q.r 2, 1 + pk q.c 4⟩ : Gr)])) ∨ (st = 1 ∧ KI ⟨ivl (1 + pk a0 9) (1 + pk a1 60), pk a2 201, ivl (1 + pk b0 9) (1 + pk b1 60), pk b2 201, ivl (1 + pk c0 9) (1 + pk c1 60), pk c2 201, .map []⟩ (now + pk q.a 30) D' gs ∧ KI ⟨ivl (1 + pk a0 9) (1 + pk a1 60), pk a2 201, ivl (1 + pk b0 9) (1 + pk b1 60), pk b2 201, ivl (1 + pk c0 9) (1 + pk c1 60), pk c2 201, .map []⟩ (now + pk q.a 30) Dn' gs)) := by
          rcases hca with ⟨x1, _, x2, _⟩ | ⟨x1, kk, _, _, x2, _⟩
          · rcases hcb with ⟨y1, _, y2, _⟩ | ⟨y1, kk, _, _, y2, _⟩
            · exact Or.inl ⟨x1, x2, y2⟩
            · omega
          · rcases hcb with ⟨y1, _, y2, _⟩ | ⟨y1, kk2, _, _, y2, _⟩
            · omega
            · exact Or.inr ⟨x1, x2, y2⟩
        clear e1 hca hcb hX64 HTW HSTM HSTN
        have hst01 : st = 0 ∨ st = 1 := by rcases HCC.out with ⟨h, _⟩ | ⟨h, _⟩ <;> omega
        have hst2 : (st == 2) = false := by simp; omega
        have hfl : decide (np > 3 + ps) = false := by simp; omega
        have HAll : Hid (∀ W, MtrAt W gn (now + pk q.a 30) (fun _ => Dn) → Calls Try.prog 20 #[.pointer (some ⟨gn.mb, 0, none⟩), .agg #[.int .u16 (pk q.t 3), .int .u16 (pk q.u 2), .int .u16 (pk q.r 2)], .int .i64 (1 + pk q.c 4)] W fun e w' =>
            e = .returned (.tuple #[.agg #[.int .i64 st, .int .i64 lv, .int .u64 rt], .int .i64 0]) ∧ MtrAt w' gn (now + pk q.a 30) (fun _ => Dn') ∧ Fr gn.lo gn.hi W w' ∧ Inv (now + pk q.a 30) Dn') := fun W hW => by
          have := MAllow1 gn (now + pk q.a 30) (1 + pk q.c 4) (pk q.t 3) (pk q.u 2) (pk q.r 2) Dn W hW okn hnn (HIV.out.2.mono (by omega)) (by omega) (by omega) (by omega) (by omega) (wf16 (by decide) (by decide)) (wf16 (by decide) (by decide)) (wf16 (by decide) (by decide))
          rw [HXN.out] at this
          exact this
        have HS : Hid (∀ W, Fr gn.lo gn.hi w10 W → (W.cell? ⟨lb, lof + k * 5, none⟩ = some (.int .i64 q.a) ∧ W.cell? ⟨lb, lof + k * 5 + 1, none⟩ = some (.int .i64 q.t) ∧ W.cell? ⟨lb, lof + k * 5 + 2, none⟩ = some (.int .i64 q.u) ∧ W.cell? ⟨lb, lof + k * 5 + 3, none⟩ = some (.int .i64 q.r) ∧ W.cell? ⟨lb, lof + k * 5 + 4, none⟩ = some (.int .i64 q.c))) := fun W hW => HAT.out W (hc10.fr2 hW hwn)
        have y7 : Fr gn.lo gn.hi w10 w10.drew := ((Chg.refl [] _).drew).fr (by simp)
        obtain ⟨d0, d1, d2, d3, d4⟩ := HAT.out w10 hc10
        have hlb10 : lb < w10.heap.size := by have := hc10.size; omega
        go_upto_region 21 with fail
        go_cut [22, 24] (fun s22 s24 wx => ∃ b : Nat, s22 = .int .i64 0 ∧ s24 = .pointer (some ⟨b, 0, none⟩) ∧ wx.heap[b]? = some (.cells [.int .i64 st, .int .i64 lv, .int .u64 rt].toArray 42 (0, 0)) ∧ wx.heap[w5.heap.size]? = some (.cells [.int .i64 st, .int .i64 lv, .int .u64 rt].toArray 42 (0, 0)) ∧ MtrAt wx gm (now + pk q.a 30) (fun _ => D') ∧ MtrAt wx gn (now + pk q.a 30) (fun _ => Dn') ∧ Inv (now + pk q.a 30) Dn' ∧ Chg [] w0 wx ∧ gn.hi ≤ wx.heap.size ∧ wx.ownsRow gn.hi 50 5 (.slice la' gs.length cap') gs.length (gcells gs))
        case first =>
          have HBL : Hid (∀ b, (.slice la' gs.length cap' : Value).ownBlock = some b → b < w10.heap.size) := own_lt HO10.out
          go_region_held3 (fun W => W.cell? ⟨lb, lof + k * 5, none⟩ = some (.int .i64 q.a) ∧ W.cell? ⟨lb, lof + k * 5 + 1, none⟩ = some (.int .i64 q.t) ∧ W.cell? ⟨lb, lof + k * 5 + 2, none⟩ = some (.int .i64 q.u) ∧ W.cell? ⟨lb, lof + k * 5 + 3, none⟩ = some (.int .i64 q.r) ∧ W.cell? ⟨lb, lof + k * 5 + 4, none⟩ = some (.int .i64 q.c))
            (first | with_reducible exact HS.out _ y10 | with_reducible exact HS.out _ y9 | with_reducible exact HS.out _ y8 | with_reducible exact HS.out _ y7 | with_reducible exact HS.out _ (FrA y9 _) | with_reducible exact HS.out _ (FrA y8 _) | with_reducible exact HS.out _ (FrD w10 _) | with_reducible exact HS.out _ (FrA y10 _) | with_reducible exact HS.out _ (FrS (FrS (FrS y10 _ _ (by dsimp only; omega)) _ _ (by dsimp only; omega)) _ _ (by dsimp only; omega)))
            (first | (go_at_call 15; refine (HKy.out _).mono ?_; rintro e wa ⟨rfl, q8⟩; have c8 : Chg [] w10 wa := (by first | exact ((Chg.refl [] w10).drew).trans q8 (by simp) | exact (((Chg.refl [] w10).alloc _).drew).trans q8 (by simp)); have y8 := c8.fr (lo := gn.lo) (hi := gn.hi) (by simp); have s8 := c8.size; (try have z8 : wa.heap[w10.heap.size]? = some (.cells [.int .i64 0, .int .i64 0, .int .u64 0].toArray 42 (0, 0)) := q8.blk (b := w10.heap.size) (heap_alloc_new w10 _) (by simp))) | (go_at_call 16; refine (HCo.out _).mono ?_; rintro e wb ⟨rfl, q9⟩; have c9 : Chg [] w10 wb := (by first | exact c8.trans q9 (by simp) | exact (c8.alloc _).trans q9 (by simp)); have y9 := c9.fr (lo := gn.lo) (hi := gn.hi) (by simp); have s9 := q9.size; (try have z9 : wb.heap[w10.heap.size]? = some (.cells [.int .i64 0, .int .i64 0, .int .u64 0].toArray 42 (0, 0)) := q9.blk z8 (by simp)); (try have z9 : wb.heap[wa.heap.size]? = some (.cells [.int .i64 0, .int .i64 0, .int .u64 0].toArray 42 (0, 0)) := q9.blk (b := wa.heap.size) (heap_alloc_new wa _) (by simp))) | (go_at_call 20; refine (HAll.out _ ?_).mono ?_; (first | exact hn10.chg0 c9 | exact hn10.chg0 (c9.alloc _)); rintro e wz ⟨rfl, hn11, f10, i11⟩; have y10 : Fr gn.lo gn.hi w10 wz := (by first | exact y9.trans f10 | exact (FrA y9 _).trans f10); have s10' := f10.size; (try have z10 : wz.heap[w10.heap.size]? = some (.cells [.int .i64 0, .int .i64 0, .int .u64 0].toArray 42 (0, 0)) := f10.blk z9 (Or.inr (by omega))); (try have z10 : wz.heap[wa.heap.size]? = some (.cells [.int .i64 0, .int .i64 0, .int .u64 0].toArray 42 (0, 0)) := f10.blk z9 (Or.inr (by omega))); (try have z10 : wz.heap[wb.heap.size]? = some (.cells [.int .i64 0, .int .i64 0, .int .u64 0].toArray 42 (0, 0)) := f10.blk (b := wb.heap.size) (heap_alloc_new wb _) (Or.inr (by omega))); (try (have z100 := blk_cell (i := 0) z10 rfl; have z101 := blk_cell (i := 1) z10 rfl; have z102 := blk_cell (i := 2) z10 rfl; have z10f := fun i => blk_free (i := i) z10))))
          · go_wp2
            go_meet
            case rel =>
              have hfin : Fr gn.hi (wz.heap.size + 1) wz (wz.alloc (.cells [.int .i64 st, .int .i64 lv, .int .u64 rt].toArray 42)) := (((Chg.refl [] wz).alloc _).fr (by simp))
              exact ⟨wz.heap.size, rfl, rfl, heap_alloc_new wz _, blk_alloc (y10.blk r10 (Or.inr (by omega))) _, (hm10.fr okm y10 (Or.inl hmnl)).fr okm hfin (Or.inl (by omega)), hn11.fr okn hfin (Or.inl (Nat.le_refl _)), i11, (hc10.fr2 y10 hwn).alloc _, by simp; omega, (own_fr HO10.out y10 (Nat.le_refl _)).alloc _⟩
          · go_wp2
            go_meet
            case rel =>
              have hz := lt_of_block z10
              have hws := hc10.size
              have rr := blk_set (i := 2) (.int .u64 rt) (blk_set (i := 1) (.int .i64 lv) (blk_set (i := 0) (.int .i64 st) (z10)))
              have ff := blk_set_far (k := wb.heap.size) (i := 2) (u := .int .u64 rt) (blk_set_far (k := wb.heap.size) (i := 1) (u := .int .i64 lv) (blk_set_far (k := wb.heap.size) (i := 0) (u := .int .i64 st) (y10.blk r10 (Or.inr (by omega))) (by omega)) (by omega)) (by omega)
              have cc := ((((Chg.refl [wb.heap.size] wz)).set ⟨wb.heap.size, 0, none⟩ (.int .i64 st) (Or.inl (by simp))).set ⟨wb.heap.size, 1, none⟩ (.int .i64 lv) (Or.inl (by simp))).set ⟨wb.heap.size, 2, none⟩ (.int .u64 rt) (Or.inl (by simp))
              have hfin : Fr gn.hi (wz.heap.size + 1) wz _ := cc.fr (by intro j hj; simp at hj; omega)
              have hsz := cc.size
              have hon := own_chg2 (own_fr HO10.out y10 (Nat.le_refl _)) cc (b := wb.heap.size) (by omega) HBL.out
              exact ⟨wb.heap.size, rfl, rfl, rr, ff, (hm10.fr okm y10 (Or.inl hmnl)).fr okm hfin (Or.inl (by omega)), hn11.fr okn hfin (Or.inl (Nat.le_refl _)), i11, ((((hc10.fr2 y10 hwn)).set _ _ (Or.inr (by dsimp only; omega))).set _ _ (Or.inr (by dsimp only; omega))).set _ _ (Or.inr (by dsimp only; omega)), by omega, hon⟩
          · go_wp2
            go_meet
            case rel =>
              have hz := lt_of_block z10
              have hws := hc10.size
              have rr := blk_set (i := 2) (.int .u64 rt) (blk_set (i := 1) (.int .i64 lv) (blk_set (i := 0) (.int .i64 st) (z10)))
              have ff := blk_set_far (k := wa.heap.size) (i := 2) (u := .int .u64 rt) (blk_set_far (k := wa.heap.size) (i := 1) (u := .int .i64 lv) (blk_set_far (k := wa.heap.size) (i := 0) (u := .int .i64 st) (y10.blk r10 (Or.inr (by omega))) (by omega)) (by omega)) (by omega)
              have cc := ((((Chg.refl [wa.heap.size] wz)).set ⟨wa.heap.size, 0, none⟩ (.int .i64 st) (Or.inl (by simp))).set ⟨wa.heap.size, 1, none⟩ (.int .i64 lv) (Or.inl (by simp))).set ⟨wa.heap.size, 2, none⟩ (.int .u64 rt) (Or.inl (by simp))
              have hfin : Fr gn.hi (wz.heap.size + 1) wz _ := cc.fr (by intro j hj; simp at hj; omega)
              have hsz := cc.size
              have hon := own_chg2 (own_fr HO10.out y10 (Nat.le_refl _)) cc (b := wa.heap.size) (by omega) HBL.out
              exact ⟨wa.heap.size, rfl, rfl, rr, ff, (hm10.fr okm y10 (Or.inl hmnl)).fr okm hfin (Or.inl (by omega)), hn11.fr okn hfin (Or.inl (Nat.le_refl _)), i11, ((((hc10.fr2 y10 hwn)).set _ _ (Or.inr (by dsimp only; omega))).set _ _ (Or.inr (by dsimp only; omega))).set _ _ (Or.inr (by dsimp only; omega)), by omega, hon⟩
          · go_wp2
            go_meet
            case rel =>
              have hz := lt_of_block z10
              have hws := hc10.size
              have rr := blk_set (i := 2) (.int .u64 rt) (blk_set (i := 1) (.int .i64 lv) (blk_set (i := 0) (.int .i64 st) (z10)))
              have ff := blk_set_far (k := w10.heap.size) (i := 2) (u := .int .u64 rt) (blk_set_far (k := w10.heap.size) (i := 1) (u := .int .i64 lv) (blk_set_far (k := w10.heap.size) (i := 0) (u := .int .i64 st) (y10.blk r10 (Or.inr (by omega))) (by omega)) (by omega)) (by omega)
              have cc := ((((Chg.refl [w10.heap.size] wz)).set ⟨w10.heap.size, 0, none⟩ (.int .i64 st) (Or.inl (by simp))).set ⟨w10.heap.size, 1, none⟩ (.int .i64 lv) (Or.inl (by simp))).set ⟨w10.heap.size, 2, none⟩ (.int .u64 rt) (Or.inl (by simp))
              have hfin : Fr gn.hi (wz.heap.size + 1) wz _ := cc.fr (by intro j hj; simp at hj; omega)
              have hsz := cc.size
              have hon := own_chg2 (own_fr HO10.out y10 (Nat.le_refl _)) cc (b := w10.heap.size) (by omega) HBL.out
              exact ⟨w10.heap.size, rfl, rfl, rr, ff, (hm10.fr okm y10 (Or.inl hmnl)).fr okm hfin (Or.inl (by omega)), hn11.fr okn hfin (Or.inl (Nat.le_refl _)), i11, ((((hc10.fr2 y10 hwn)).set _ _ (Or.inr (by dsimp only; omega))).set _ _ (Or.inr (by dsimp only; omega))).set _ _ (Or.inr (by dsimp only; omega)), by omega, hon⟩
        case rest =>
          obtain ⟨bq, rfl, rfl, hq1, hr1, hm1, hn1, i1, hc1', hh1, ho1⟩ := hcut
          have HO1 : Hid (wc.ownsRow gn.hi 50 5 (.slice la' gs.length cap') gs.length (gcells gs)) := ho1
          have p0 := blk_cell (i := 0) hq1 rfl
          have p1 := blk_cell (i := 1) hq1 rfl
          have p2 := blk_cell (i := 2) hq1 rfl
          have o0 := blk_cell (i := 0) hr1 rfl
          have o1 := blk_cell (i := 1) hr1 rfl
          have o2 := blk_cell (i := 2) hr1 rfl
          clear ho1 hm10 hn10 r10 r100 HAll HS y7 HO10 hc10 d0 d1 d2 d3 d4
          go_wp2_with fail
          refine (same_refl st lv rt _).mono ?_
          rintro e w11 ⟨rfl, q11⟩
          have hm11 := hm1.chg0 q11
          have hn11 := hn1.chg0 q11
          have hc11 := hc1'.trans q11 (by simp)
          have s11 := q11.size
          have r11 := q11.blk hr1 (by simp)
          have r110 := blk_cell (i := 0) r11 rfl
          have HO11 : Hid (w11.ownsRow gn.hi 50 5 (.slice la' gs.length cap') gs.length (gcells gs)) := own_chg HO1.out q11
          clear hm1 hn1 hc1' q11 p0 p1 p2 o0 o1 o2 hq1 hr1 HO1
          rcases HCC.out with ⟨rfl, kA, kB⟩ | ⟨rfl, kA, kB⟩
          · have HKA : Hid (KI ⟨ivl (1 + pk a0 9) (1 + pk a1 60), pk a2 201, ivl (1 + pk b0 9) (1 + pk b1 60), pk b2 201, ivl (1 + pk c0 9) (1 + pk c1 60), pk c2 201, .map []⟩ (now + pk q.a 30) D' (gs ++ [(⟨now + pk q.a 30, pk q.t 3, pk q.u 2, pk q.r 2, 1 + pk q.c 4⟩ : Gr)]) ∧ KI ⟨ivl (1 + pk a0 9) (1 + pk a1 60), pk a2 201, ivl (1 + pk b0 9) (1 + pk b1 60), pk b2 201, ivl (1 + pk c0 9) (1 + pk c1 60), pk c2 201, .map []⟩ (now + pk q.a 30) Dn' (gs ++ [(⟨now + pk q.a 30, pk q.t 3, pk q.u 2, pk q.r 2, 1 + pk q.c 4⟩ : Gr)])) := ⟨kA, kB⟩
            clear kA kB HCC
            have HS : Hid (∀ W, Chg [] w11 W → (W.cell? ⟨lb, lof + k * 5, none⟩ = some (.int .i64 q.a) ∧ W.cell? ⟨lb, lof + k * 5 + 1, none⟩ = some (.int .i64 q.t) ∧ W.cell? ⟨lb, lof + k * 5 + 2, none⟩ = some (.int .i64 q.u) ∧ W.cell? ⟨lb, lof + k * 5 + 3, none⟩ = some (.int .i64 q.r) ∧ W.cell? ⟨lb, lof + k * 5 + 4, none⟩ = some (.int .i64 q.c))) := fun W hW => HAT.out W (hc11.trans hW (by simp))
            have v11 : Chg [] w11 w11.drew := (Chg.refl _ _).drew
            obtain ⟨d0, d1, d2, d3, d4⟩ := HAT.out w11 hc11
            have hlb11 : lb < w11.heap.size := by have := hc11.size; omega
            have HSF : Hid (∀ W, Fr gn.hi W.heap.size w11 W → (W.cell? ⟨lb, lof + k * 5, none⟩ = some (.int .i64 q.a) ∧ W.cell? ⟨lb, lof + k * 5 + 1, none⟩ = some (.int .i64 q.t) ∧ W.cell? ⟨lb, lof + k * 5 + 2, none⟩ = some (.int .i64 q.u) ∧ W.cell? ⟨lb, lof + k * 5 + 3, none⟩ = some (.int .i64 q.r) ∧ W.cell? ⟨lb, lof + k * 5 + 4, none⟩ = some (.int .i64 q.c))) := fun W hW => HAT.out W (hc11.fr2 hW (by omega))
            have hgl80 : gs.length ≤ 100 := by omega
            go_upto_region 26 with fail
            go_region_held3 (fun W => W.cell? ⟨lb, lof + k * 5, none⟩ = some (.int .i64 q.a) ∧ W.cell? ⟨lb, lof + k * 5 + 1, none⟩ = some (.int .i64 q.t) ∧ W.cell? ⟨lb, lof + k * 5 + 2, none⟩ = some (.int .i64 q.u) ∧ W.cell? ⟨lb, lof + k * 5 + 3, none⟩ = some (.int .i64 q.r) ∧ W.cell? ⟨lb, lof + k * 5 + 4, none⟩ = some (.int .i64 q.c))
              (first | with_reducible exact HSF.out _ z14 | with_reducible exact HS.out _ (v13.alloc _) | with_reducible exact HS.out _ v13 | with_reducible exact HS.out _ v12 | with_reducible exact HS.out _ v11)
              (first | (go_at_call 15; refine (HKy.out _).mono ?_; rintro e w12 ⟨rfl, q12⟩; have v12 : Chg [] w11 w12 := v11.trans q12 (by simp)) | (go_at_call 16; refine (HCo.out _).mono ?_; rintro e w13 ⟨rfl, q13⟩; have v13 : Chg [] w11 w13 := v12.trans q13 (by simp); have s13 := v13.size) | (refine step_grant rfl (.tmp 146) (.tmp 159) rfl gn.hi i0 HI0.out (.slice la' gs.length cap') gs (by simp [Act.eval, Act.put]) ((own_chg HO11.out v13).alloc _) w13.heap.size (by simp [Act.eval, Act.put]) (⟨now + pk q.a 30, pk q.t 3, pk q.u 2, pk q.r 2, 1 + pk q.c 4⟩ : Gr) (heap_alloc_new w13 _) hgl80 (by simp; omega) ?_; intro v' w14 hown' f14; have z14 : Fr gn.hi w14.heap.size w11 w14 := frz (v13.alloc _) f14))
            clear d0 d1 d2 d3 d4
            have hm14 := hm11.fr okm z14 (Or.inl (by omega))
            have hn14 := hn11.fr okn z14 (Or.inl (Nat.le_refl _))
            have hc14 := hc11.fr2 z14 (by omega)
            have s14 := z14.size
            have HO14 : Hid (w14.ownsRow gn.hi 50 5 v' (gs ++ [(⟨now + pk q.a 30, pk q.t 3, pk q.u 2, pk q.r 2, 1 + pk q.c 4⟩ : Gr)]).length (gcells (gs ++ [(⟨now + pk q.a 30, pk q.t 3, pk q.u 2, pk q.r 2, 1 + pk q.c 4⟩ : Gr)]))) := hown'
            have HGL : Hid ((gs ++ [(⟨now + pk q.a 30, pk q.t 3, pk q.u 2, pk q.r 2, 1 + pk q.c 4⟩ : Gr)]).length = gs.length + 1) := by show _ = _; simp
            clear hown' f14
            have HK2 := HKA.out
            generalize gs ++ [(⟨now + pk q.a 30, pk q.t 3, pk q.u 2, pk q.r 2, 1 + pk q.c 4⟩ : Gr)] = gs' at *
            have HK3 : Hid (KI ⟨ivl (1 + pk a0 9) (1 + pk a1 60), pk a2 201, ivl (1 + pk b0 9) (1 + pk b1 60), pk b2 201, ivl (1 + pk c0 9) (1 + pk c1 60), pk c2 201, .map []⟩ (now + pk q.a 30) D' gs' ∧ KI ⟨ivl (1 + pk a0 9) (1 + pk a1 60), pk a2 201, ivl (1 + pk b0 9) (1 + pk b1 60), pk b2 201, ivl (1 + pk c0 9) (1 + pk c1 60), pk c2 201, .map []⟩ (now + pk q.a 30) Dn' gs') := HK2
            clear HK2 HKA
            go_wp2_with fail
            go_roundw
            case rel => exact ⟨k + 1, now + pk q.a 30, D', Dn', gs', rfl, by go_num, by omega, by omega, by have := HGL.out; omega, by omega, by omega, hm14, hn14, i5, i1, HK3.out.1, HK3.out.2, hc14, by omega, HO14.out⟩
            case measure => simp [intOf]; omega
          · have HKA : Hid (KI ⟨ivl (1 + pk a0 9) (1 + pk a1 60), pk a2 201, ivl (1 + pk b0 9) (1 + pk b1 60), pk b2 201, ivl (1 + pk c0 9) (1 + pk c1 60), pk c2 201, .map []⟩ (now + pk q.a 30) D' gs ∧ KI ⟨ivl (1 + pk a0 9) (1 + pk a1 60), pk a2 201, ivl (1 + pk b0 9) (1 + pk b1 60), pk b2 201, ivl (1 + pk c0 9) (1 + pk c1 60), pk c2 201, .map []⟩ (now + pk q.a 30) Dn' gs) := ⟨kA, kB⟩
            clear kA kB HCC
            go_wp2_with fail
            go_roundw
            case rel => exact ⟨k + 1, now + pk q.a 30, D', Dn', gs, rfl, by go_num, by omega, by omega, by omega, by omega, by omega, hm11, hn11, i5, i1, HKA.out.1, HKA.out.2, hc11, by omega, HO11.out⟩
            case measure => simp [intOf]; omega
    · rcases (by omega : ¬ (k < len) ∨ (k < len ∧ ¬ (k < 80))) with hx | ⟨hx, hx2⟩
      all_goals
        go_wp2
        go_ret
        exact ⟨rfl, HC0.out.trans hcr (by simp)⟩
end Go.Proofs.Ytbdnhllhdjepcaa
