import Derived.Test.YtbdnhllhdjepcaaNeeded
namespace Go.Proofs.Ytbdnhllhdjepcaa
set_option linter.unusedVariables false
set_option linter.unusedSimpArgs false
open Go.RowKit Go.Maps

/-- of each key, from each time on, the rate of a level is kept -/
def Wi (gs : List Gr) (iv bu lv now : Int) : Prop := ∀ j (hj : j < gs.length), spentL gs lv gs[j].kt gs[j].ku gs[j].kr gs[j].t * iv ≤ now - gs[j].t + bu + iv

set_option maxRecDepth 100000 in
set_option maxHeartbeats 8000000 in
theorem within_any (la : Option Addr) (lb cap : Nat) (gs : List Gr) (c0 p0 b0 c1 p1 b1 c2 p2 b2 sh sl ev de qu : Int) (now : Int) (w : World) (hgs : GsAt w la lb gs) (hlen : gs.length ≤ 100) (hcs : ∀ g ∈ gs, 0 ≤ g.c ∧ g.c ≤ 1000) (hts : ∀ g ∈ gs, 0 ≤ g.t ∧ g.t ≤ 1000000) (hq : Sq c0 p0 b0 ∧ Sq c1 p1 b1 ∧ Sq c2 p2 b2) (hn : 0 ≤ now) (hn' : now ≤ 1000000)
    (hwi : Wi gs (ivl c0 p0) b0 0 now ∧ Wi gs (ivl c1 p1) b1 1 now ∧ Wi gs (ivl c2 p2) b2 2 now) :
    Calls Try.prog 17 #[.slice la gs.length cap, .agg #[.int .i64 c0, .int .i64 p0, .int .i64 b0, .int .i64 c1, .int .i64 p1, .int .i64 b1, .int .i64 c2, .int .i64 p2, .int .i64 b2, .slice none 0 0, .int .i64 sh, .int .i64 sl, .int .i64 ev, .int .i64 de, .int .i64 qu], .int .i64 now] w fun e w' => e = .returned (.bool true) ∧ Chg [] w w' := by
  obtain ⟨len, hlen'⟩ : ∃ len, len = gs.length := ⟨_, rfl⟩
  have HSP : Hid (∀ lv t u r frm W, 0 ≤ lv ∧ lv < 3 → Chg [] w W → Calls Try.prog 35 #[.slice la len cap, .int .i64 lv, .agg #[.int .u16 t, .int .u16 u, .int .u16 r], .int .i64 frm] W fun e w' => e = .returned (.int .i64 (spentL gs lv t u r frm)) ∧ Chg [] W w') := fun lv t u r frm W hlv hW => by
    rw [hlen']
    exact spent_any la lb cap gs lv t u r frm W (hgs.chg hW (by simp)) hlv (by omega) hcs
  rw [← hlen']
  have HLEN : Hid (len = gs.length) := hlen'
  rw [← hlen'] at hlen
  have HGS : Hid (GsAt w la lb gs) := hgs
  have HCS : Hid (∀ g ∈ gs, 0 ≤ g.c ∧ g.c ≤ 1000) := hcs
  have HTS : Hid (∀ g ∈ gs, 0 ≤ g.t ∧ g.t ≤ 1000000) := hts
  have HQ : Hid (Sq c0 p0 b0 ∧ Sq c1 p1 b1 ∧ Sq c2 p2 b2) := hq
  have HWA : Hid (Wi gs (ivl c0 p0) b0 0 now ∧ Wi gs (ivl c1 p1) b1 1 now ∧ Wi gs (ivl c2 p2) b2 2 now) := hwi
  clear hlen' hgs hcs hts hq hwi
  go_enter Try.func17, Try.ntmps17
  go_wp2_with fail
  go_loopw [7] (fun i wr => ∃ lv : Nat, lv ≤ 3 ∧ i = .int .i64 lv ∧ Chg [] w wr ∧ wr.heap[w.heap.size]? = some (.cells [.int .i64 c0, .int .i64 p0, .int .i64 b0, .int .i64 c1, .int .i64 p1, .int .i64 b1, .int .i64 c2, .int .i64 p2, .int .i64 b2, .slice none 0 0, .int .i64 sh, .int .i64 sl, .int .i64 ev, .int .i64 de, .int .i64 qu].toArray 30 (0, 0))) (fun i _ => 3 - (intOf i).toNat)
  case atStart => exact ⟨0, by omega, rfl, (Chg.refl _ _).alloc _, heap_alloc_new w _⟩
  case round =>
    obtain ⟨lv, hlv, rfl, hcr, hbx⟩ := hrel
    by_cases hl3 : lv < 3
    · rcases (show lv = 0 ∨ lv = 1 ∨ lv = 2 from by omega) with rfl | rfl | rfl
      · have f0 := blk_cell (i := 0) hbx rfl
        have f1 := blk_cell (i := 1) hbx rfl
        have f2 := blk_cell (i := 2) hbx rfl
        have hiv := HQ.out.1.iv
        have hb0 := HQ.out.1.2.2.2.2
        have HIV : Hid (∀ W, Calls Try.prog 34 #[.agg #[.int .i64 c0, .int .i64 p0, .int .i64 b0]] W fun e w' => e = .returned (.int .i64 (ivl c0 p0)) ∧ Chg [] W w') := fun W => interval_any c0 p0 b0 W HQ.out.1.1 HQ.out.1.2.1 HQ.out.1.2.2.1 HQ.out.1.2.2.2.1
        have HWI : Hid (Wi gs (ivl c0 p0) b0 0 now) := HWA.out.1
        generalize ivl c0 p0 = iv at HIV HWI hiv
        go_wp2_with fail
        refine (HIV.out _).mono ?_
        rintro e w1 ⟨rfl, q1⟩
        have hc1 := hcr.trans q1 (by simp)
        have hb1 := q1.blk hbx (by simp)
        clear hcr hbx q1 f0 f1 f2 HIV
        go_wp2_with fail
        go_loopw [9] (fun i wr => ∃ k : Nat, k ≤ len ∧ i = .int .i64 k ∧ Chg [] w wr ∧ wr.heap[w.heap.size]? = some (.cells [.int .i64 c0, .int .i64 p0, .int .i64 b0, .int .i64 c1, .int .i64 p1, .int .i64 b1, .int .i64 c2, .int .i64 p2, .int .i64 b2, .slice none 0 0, .int .i64 sh, .int .i64 sl, .int .i64 ev, .int .i64 de, .int .i64 qu].toArray 30 (0, 0))) (fun i _ => len - (intOf i).toNat)
        case atStart => exact ⟨0, by omega, rfl, hc1, hb1⟩
        case round =>
          obtain ⟨k, hk, rfl, hci, hbi⟩ := hrel
          clear hc1 hb1
          by_cases hlt : k < len
          · have hkl : k < gs.length := by rw [← HLEN.out]; exact hlt
            obtain ⟨hla, hlb⟩ := HGS.out.1 (by omega)
            subst hla
            have hat := HGS.out.2 k hkl
            have htt := HTS.out _ (List.getElem_mem hkl)
            have hsb := spentL_bd 0 gs[k].kt gs[k].ku gs[k].kr gs[k].t gs HCS.out
            have hwk := HWI.out k hkl
            generalize gs[k] = g at *
            have hss : 0 ≤ spentL gs 0 g.kt g.ku g.kr g.t ∧ spentL gs 0 g.kt g.ku g.kr g.t ≤ 100000 := by have := HLEN.out; omega
            clear hsb
            have HAT : Hid (∀ W, Chg [] wr W → (W.cell? ⟨lb, k * 5, none⟩ = some (.int .i64 g.t) ∧ W.cell? ⟨lb, k * 5 + 1, none⟩ = some (.int .u16 g.kt) ∧ W.cell? ⟨lb, k * 5 + 2, none⟩ = some (.int .u16 g.ku) ∧ W.cell? ⟨lb, k * 5 + 3, none⟩ = some (.int .u16 g.kr) ∧ W.cell? ⟨w.heap.size, 2, none⟩ = some (.int .i64 b0))) := fun W hW => by
              have h1 := hat.chg (hci.trans hW (by simp)) (by simp)
              have h2 := hW.blk hbi (by simp)
              exact ⟨h1.1, h1.2.1, h1.2.2.1, h1.2.2.2.1, blk_cell h2 rfl⟩
            obtain ⟨sp, hsp⟩ : ∃ sp, spentL gs 0 g.kt g.ku g.kr g.t = sp := ⟨_, rfl⟩
            rw [hsp] at hss hwk
            have HSP2 : Hid (∀ W, Chg [] w W → Calls Try.prog 35 #[.slice (some ⟨lb, 0, none⟩) len cap, .int .i64 0, .agg #[.int .u16 g.kt, .int .u16 g.ku, .int .u16 g.kr], .int .i64 g.t] W fun e w' => e = .returned (.int .i64 sp) ∧ Chg [] W w') := fun W hW => by
              have := HSP.out 0 g.kt g.ku g.kr g.t W (by decide) hW
              rw [hsp] at this
              exact this
            have hm1 := mul_small hss.1 hss.2 (show 0 ≤ iv from by omega) hiv.2
            clear hat hsp
            have v0 : Chg [] wr wr.drew := (Chg.refl _ _).drew
            obtain ⟨d0, d1, d2, d3, d4⟩ := HAT.out wr (Chg.refl _ _)
            have hk1 : (k : Int) < (len : Int) := by omega
            go_upto_region 8 with fail
            go_region_held3 (fun W => W.cell? ⟨lb, k * 5, none⟩ = some (.int .i64 g.t) ∧ W.cell? ⟨lb, k * 5 + 1, none⟩ = some (.int .u16 g.kt) ∧ W.cell? ⟨lb, k * 5 + 2, none⟩ = some (.int .u16 g.ku) ∧ W.cell? ⟨lb, k * 5 + 3, none⟩ = some (.int .u16 g.kr) ∧ W.cell? ⟨w.heap.size, 2, none⟩ = some (.int .i64 b0))
              (first | with_reducible exact HAT.out _ v1 | with_reducible exact HAT.out _ v0)
              (first | (go_at_call 35; refine (HSP2.out _ (hci.trans v0 (by simp))).mono ?_; rintro e w2 ⟨rfl, q2⟩; have v1 : Chg [] wr w2 := v0.trans q2 (by simp)))
            have hc2 := hci.trans v1 (by simp)
            have hb2 := v1.blk hbi (by simp)
            obtain ⟨d0, d1, d2, d3, d4⟩ := HAT.out w2 v1
            have hdec : decide (sp * iv > now - g.t + b0 + iv) = false := by simp; omega
            have hb2' := hb2
            go_upto_region 9 with fail
            go_region
            go_wp2
            go_roundw
            case rel => exact ⟨k + 1, by omega, by go_num, hc2.drew, hb2⟩
            case measure => simp [intOf]; omega
          · go_wp2
            go_roundw
            case rel => exact ⟨1, by omega, by go_num, hci, hbi⟩
            case measure => simp [intOf]
      · have f0 := blk_cell (i := 3) hbx rfl
        have f1 := blk_cell (i := 4) hbx rfl
        have f2 := blk_cell (i := 5) hbx rfl
        have hiv := HQ.out.2.1.iv
        have hb0 := HQ.out.2.1.2.2.2.2
        have HIV : Hid (∀ W, Calls Try.prog 34 #[.agg #[.int .i64 c1, .int .i64 p1, .int .i64 b1]] W fun e w' => e = .returned (.int .i64 (ivl c1 p1)) ∧ Chg [] W w') := fun W => interval_any c1 p1 b1 W HQ.out.2.1.1 HQ.out.2.1.2.1 HQ.out.2.1.2.2.1 HQ.out.2.1.2.2.2.1
        have HWI : Hid (Wi gs (ivl c1 p1) b1 1 now) := HWA.out.2.1
        generalize ivl c1 p1 = iv at HIV HWI hiv
        go_wp2_with fail
        refine (HIV.out _).mono ?_
        rintro e w1 ⟨rfl, q1⟩
        have hc1 := hcr.trans q1 (by simp)
        have hb1 := q1.blk hbx (by simp)
        clear hcr hbx q1 f0 f1 f2 HIV
        go_wp2_with fail
        go_loopw [9] (fun i wr => ∃ k : Nat, k ≤ len ∧ i = .int .i64 k ∧ Chg [] w wr ∧ wr.heap[w.heap.size]? = some (.cells [.int .i64 c0, .int .i64 p0, .int .i64 b0, .int .i64 c1, .int .i64 p1, .int .i64 b1, .int .i64 c2, .int .i64 p2, .int .i64 b2, .slice none 0 0, .int .i64 sh, .int .i64 sl, .int .i64 ev, .int .i64 de, .int .i64 qu].toArray 30 (0, 0))) (fun i _ => len - (intOf i).toNat)
        case atStart => exact ⟨0, by omega, rfl, hc1, hb1⟩
        case round =>
          obtain ⟨k, hk, rfl, hci, hbi⟩ := hrel
          clear hc1 hb1
          by_cases hlt : k < len
          · have hkl : k < gs.length := by rw [← HLEN.out]; exact hlt
            obtain ⟨hla, hlb⟩ := HGS.out.1 (by omega)
            subst hla
            have hat := HGS.out.2 k hkl
            have htt := HTS.out _ (List.getElem_mem hkl)
            have hsb := spentL_bd 1 gs[k].kt gs[k].ku gs[k].kr gs[k].t gs HCS.out
            have hwk := HWI.out k hkl
            generalize gs[k] = g at *
            have hss : 0 ≤ spentL gs 1 g.kt g.ku g.kr g.t ∧ spentL gs 1 g.kt g.ku g.kr g.t ≤ 100000 := by have := HLEN.out; omega
            clear hsb
            have HAT : Hid (∀ W, Chg [] wr W → (W.cell? ⟨lb, k * 5, none⟩ = some (.int .i64 g.t) ∧ W.cell? ⟨lb, k * 5 + 1, none⟩ = some (.int .u16 g.kt) ∧ W.cell? ⟨lb, k * 5 + 2, none⟩ = some (.int .u16 g.ku) ∧ W.cell? ⟨lb, k * 5 + 3, none⟩ = some (.int .u16 g.kr) ∧ W.cell? ⟨w.heap.size, 5, none⟩ = some (.int .i64 b1))) := fun W hW => by
              have h1 := hat.chg (hci.trans hW (by simp)) (by simp)
              have h2 := hW.blk hbi (by simp)
              exact ⟨h1.1, h1.2.1, h1.2.2.1, h1.2.2.2.1, blk_cell h2 rfl⟩
            obtain ⟨sp, hsp⟩ : ∃ sp, spentL gs 1 g.kt g.ku g.kr g.t = sp := ⟨_, rfl⟩
            rw [hsp] at hss hwk
            have HSP2 : Hid (∀ W, Chg [] w W → Calls Try.prog 35 #[.slice (some ⟨lb, 0, none⟩) len cap, .int .i64 1, .agg #[.int .u16 g.kt, .int .u16 g.ku, .int .u16 g.kr], .int .i64 g.t] W fun e w' => e = .returned (.int .i64 sp) ∧ Chg [] W w') := fun W hW => by
              have := HSP.out 1 g.kt g.ku g.kr g.t W (by decide) hW
              rw [hsp] at this
              exact this
            have hm1 := mul_small hss.1 hss.2 (show 0 ≤ iv from by omega) hiv.2
            clear hat hsp
            have v0 : Chg [] wr wr.drew := (Chg.refl _ _).drew
            obtain ⟨d0, d1, d2, d3, d4⟩ := HAT.out wr (Chg.refl _ _)
            have hk1 : (k : Int) < (len : Int) := by omega
            go_upto_region 8 with fail
            go_region_held3 (fun W => W.cell? ⟨lb, k * 5, none⟩ = some (.int .i64 g.t) ∧ W.cell? ⟨lb, k * 5 + 1, none⟩ = some (.int .u16 g.kt) ∧ W.cell? ⟨lb, k * 5 + 2, none⟩ = some (.int .u16 g.ku) ∧ W.cell? ⟨lb, k * 5 + 3, none⟩ = some (.int .u16 g.kr) ∧ W.cell? ⟨w.heap.size, 5, none⟩ = some (.int .i64 b1))
              (first | with_reducible exact HAT.out _ v1 | with_reducible exact HAT.out _ v0)
              (first | (go_at_call 35; refine (HSP2.out _ (hci.trans v0 (by simp))).mono ?_; rintro e w2 ⟨rfl, q2⟩; have v1 : Chg [] wr w2 := v0.trans q2 (by simp)))
            have hc2 := hci.trans v1 (by simp)
            have hb2 := v1.blk hbi (by simp)
            obtain ⟨d0, d1, d2, d3, d4⟩ := HAT.out w2 v1
            have hdec : decide (sp * iv > now - g.t + b1 + iv) = false := by simp; omega
            have hb2' := hb2
            go_upto_region 9 with fail
            go_region
            go_wp2
            go_roundw
            case rel => exact ⟨k + 1, by omega, by go_num, hc2.drew, hb2⟩
            case measure => simp [intOf]; omega
          · go_wp2
            go_roundw
            case rel => exact ⟨2, by omega, by go_num, hci, hbi⟩
            case measure => simp [intOf]
      · have f0 := blk_cell (i := 6) hbx rfl
        have f1 := blk_cell (i := 7) hbx rfl
        have f2 := blk_cell (i := 8) hbx rfl
        have hiv := HQ.out.2.2.iv
        have hb0 := HQ.out.2.2.2.2.2.2
        have HIV : Hid (∀ W, Calls Try.prog 34 #[.agg #[.int .i64 c2, .int .i64 p2, .int .i64 b2]] W fun e w' => e = .returned (.int .i64 (ivl c2 p2)) ∧ Chg [] W w') := fun W => interval_any c2 p2 b2 W HQ.out.2.2.1 HQ.out.2.2.2.1 HQ.out.2.2.2.2.1 HQ.out.2.2.2.2.2.1
        have HWI : Hid (Wi gs (ivl c2 p2) b2 2 now) := HWA.out.2.2
        generalize ivl c2 p2 = iv at HIV HWI hiv
        go_wp2_with fail
        refine (HIV.out _).mono ?_
        rintro e w1 ⟨rfl, q1⟩
        have hc1 := hcr.trans q1 (by simp)
        have hb1 := q1.blk hbx (by simp)
        clear hcr hbx q1 f0 f1 f2 HIV
        go_wp2_with fail
        go_loopw [9] (fun i wr => ∃ k : Nat, k ≤ len ∧ i = .int .i64 k ∧ Chg [] w wr ∧ wr.heap[w.heap.size]? = some (.cells [.int .i64 c0, .int .i64 p0, .int .i64 b0, .int .i64 c1, .int .i64 p1, .int .i64 b1, .int .i64 c2, .int .i64 p2, .int .i64 b2, .slice none 0 0, .int .i64 sh, .int .i64 sl, .int .i64 ev, .int .i64 de, .int .i64 qu].toArray 30 (0, 0))) (fun i _ => len - (intOf i).toNat)
        case atStart => exact ⟨0, by omega, rfl, hc1, hb1⟩
        case round =>
          obtain ⟨k, hk, rfl, hci, hbi⟩ := hrel
          clear hc1 hb1
          by_cases hlt : k < len
          · have hkl : k < gs.length := by rw [← HLEN.out]; exact hlt
            obtain ⟨hla, hlb⟩ := HGS.out.1 (by omega)
            subst hla
            have hat := HGS.out.2 k hkl
            have htt := HTS.out _ (List.getElem_mem hkl)
            have hsb := spentL_bd 2 gs[k].kt gs[k].ku gs[k].kr gs[k].t gs HCS.out
            have hwk := HWI.out k hkl
            generalize gs[k] = g at *
            have hss : 0 ≤ spentL gs 2 g.kt g.ku g.kr g.t ∧ spentL gs 2 g.kt g.ku g.kr g.t ≤ 100000 := by have := HLEN.out; omega
            clear hsb
            have HAT : Hid (∀ W, Chg [] wr W → (W.cell? ⟨lb, k * 5, none⟩ = some (.int .i64 g.t) ∧ W.cell? ⟨lb, k * 5 + 1, none⟩ = some (.int .u16 g.kt) ∧ W.cell? ⟨lb, k * 5 + 2, none⟩ = some (.int .u16 g.ku) ∧ W.cell? ⟨lb, k * 5 + 3, none⟩ = some (.int .u16 g.kr) ∧ W.cell? ⟨w.heap.size, 8, none⟩ = some (.int .i64 b2))) := fun W hW => by
              have h1 := hat.chg (hci.trans hW (by simp)) (by simp)
              have h2 := hW.blk hbi (by simp)
              exact ⟨h1.1, h1.2.1, h1.2.2.1, h1.2.2.2.1, blk_cell h2 rfl⟩
            obtain ⟨sp, hsp⟩ : ∃ sp, spentL gs 2 g.kt g.ku g.kr g.t = sp := ⟨_, rfl⟩
            rw [hsp] at hss hwk
            have HSP2 : Hid (∀ W, Chg [] w W → Calls Try.prog 35 #[.slice (some ⟨lb, 0, none⟩) len cap, .int .i64 2, .agg #[.int .u16 g.kt, .int .u16 g.ku, .int .u16 g.kr], .int .i64 g.t] W fun e w' => e = .returned (.int .i64 sp) ∧ Chg [] W w') := fun W hW => by
              have := HSP.out 2 g.kt g.ku g.kr g.t W (by decide) hW
              rw [hsp] at this
              exact this
            have hm1 := mul_small hss.1 hss.2 (show 0 ≤ iv from by omega) hiv.2
            clear hat hsp
            have v0 : Chg [] wr wr.drew := (Chg.refl _ _).drew
            obtain ⟨d0, d1, d2, d3, d4⟩ := HAT.out wr (Chg.refl _ _)
            have hk1 : (k : Int) < (len : Int) := by omega
            go_upto_region 8 with fail
            go_region_held3 (fun W => W.cell? ⟨lb, k * 5, none⟩ = some (.int .i64 g.t) ∧ W.cell? ⟨lb, k * 5 + 1, none⟩ = some (.int .u16 g.kt) ∧ W.cell? ⟨lb, k * 5 + 2, none⟩ = some (.int .u16 g.ku) ∧ W.cell? ⟨lb, k * 5 + 3, none⟩ = some (.int .u16 g.kr) ∧ W.cell? ⟨w.heap.size, 8, none⟩ = some (.int .i64 b2))
              (first | with_reducible exact HAT.out _ v1 | with_reducible exact HAT.out _ v0)
              (first | (go_at_call 35; refine (HSP2.out _ (hci.trans v0 (by simp))).mono ?_; rintro e w2 ⟨rfl, q2⟩; have v1 : Chg [] wr w2 := v0.trans q2 (by simp)))
            have hc2 := hci.trans v1 (by simp)
            have hb2 := v1.blk hbi (by simp)
            obtain ⟨d0, d1, d2, d3, d4⟩ := HAT.out w2 v1
            have hdec : decide (sp * iv > now - g.t + b2 + iv) = false := by simp; omega
            have hb2' := hb2
            go_upto_region 9 with fail
            go_region
            go_wp2
            go_roundw
            case rel => exact ⟨k + 1, by omega, by go_num, hc2.drew, hb2⟩
            case measure => simp [intOf]; omega
          · go_wp2
            go_roundw
            case rel => exact ⟨3, by omega, by go_num, hci, hbi⟩
            case measure => simp [intOf]
    · obtain rfl : lv = 3 := by omega
      go_wp2
      go_ret
      exact ⟨rfl, hcr⟩
end Go.Proofs.Ytbdnhllhdjepcaa
