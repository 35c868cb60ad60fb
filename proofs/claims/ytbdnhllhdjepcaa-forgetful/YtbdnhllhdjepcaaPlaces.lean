import Derived.Test.YtbdnhllhdjepcaaFmath
import Derived.Test.YtbdnhllhdjepcaaUntil
import Derived.Deep.DeepCutAuto
namespace Go.Proofs.Ytbdnhllhdjepcaa
set_option linter.unusedVariables false
set_option linter.unusedSimpArgs false
open Go.RowKit Go.Maps

set_option maxRecDepth 100000 in
set_option maxHeartbeats 8000000 in
theorem places_any (la : Option Addr) (lb cap : Nat) (gs : List Gr) (c0 p0 b0 c1 p1 b1 c2 p2 b2 sh sl ev de qu : Int) (t u r now : Int) (w : World) (hgs : GsAt w la lb gs) (hlen : gs.length ≤ 100) (hcs : ∀ g ∈ gs, 0 ≤ g.c ∧ g.c ≤ 1000) (hts : ∀ g ∈ gs, 0 ≤ g.t ∧ g.t ≤ 1000000) (hq : Sq c0 p0 b0 ∧ Sq c1 p1 b1 ∧ Sq c2 p2 b2) (hn : 0 ≤ now) (hn' : now ≤ 1000000) :
    Calls Try.prog 23 #[.slice la gs.length cap, .agg #[.int .i64 c0, .int .i64 p0, .int .i64 b0, .int .i64 c1, .int .i64 p1, .int .i64 b1, .int .i64 c2, .int .i64 p2, .int .i64 b2, .slice none 0 0, .int .i64 sh, .int .i64 sl, .int .i64 ev, .int .i64 de, .int .i64 qu], .agg #[.int .u16 t, .int .u16 u, .int .u16 r], .int .i64 now] w fun e w' => e = .returned (.int .i64 (placesL gs (⟨ivl c0 p0, b0, ivl c1 p1, b1, ivl c2 p2, b2, .map []⟩ : Pln) t u r now 3)) ∧ Chg [] w w' := by
  obtain ⟨len, hlen'⟩ : ∃ len, len = gs.length := ⟨_, rfl⟩
  have HUA : Hid (∀ (lv iv t u r : Int) W, 0 ≤ lv ∧ lv < 3 → 0 ≤ iv → iv ≤ 1000 → Chg [] w W → Calls Try.prog 41 #[.slice la len cap, .int .i64 lv, .agg #[.int .u16 t, .int .u16 u, .int .u16 r], .int .i64 iv] W fun e w' => e = .returned (.int .i64 (untilL gs lv t u r iv)) ∧ Chg [] W w') := fun lv iv t u r W h1 h2 h3 hW => by
    rw [hlen']
    exact until_any la lb cap gs lv t u r iv W (hgs.chg hW (by simp)) h1 (by omega) hcs hts h2 h3
  rw [← hlen']
  have HLEN : Hid (len = gs.length) := hlen'
  rw [← hlen'] at hlen
  have HGS : Hid (GsAt w la lb gs) := hgs
  have HQ : Hid (Sq c0 p0 b0 ∧ Sq c1 p1 b1 ∧ Sq c2 p2 b2) := hq
  clear hlen' hgs hcs hts hq
  go_enter Try.func23, Try.ntmps23
  go_wp2_with fail
  go_loopw [9, 10] (fun n i wr => ∃ (lv : Nat) (x : Int), lv ≤ 3 ∧ i = .int .i64 lv ∧ n = .int .i64 x ∧ x = placesL gs (⟨ivl c0 p0, b0, ivl c1 p1, b1, ivl c2 p2, b2, .map []⟩ : Pln) t u r now lv ∧ 0 ≤ x ∧ x ≤ 200 * lv ∧ Chg [] w wr ∧ wr.heap[w.heap.size]? = some (.cells [.int .i64 c0, .int .i64 p0, .int .i64 b0, .int .i64 c1, .int .i64 p1, .int .i64 b1, .int .i64 c2, .int .i64 p2, .int .i64 b2, .slice none 0 0, .int .i64 sh, .int .i64 sl, .int .i64 ev, .int .i64 de, .int .i64 qu].toArray 30 (0, 0)) ∧ wr.heap[w.heap.size + 1]? = some (.cells [.int .u16 t, .int .u16 u, .int .u16 r].toArray 47 (0, 0))) (fun _ i _ => 3 - (intOf i).toNat)
  case atStart => exact ⟨0, 0, by omega, rfl, rfl, rfl, by omega, by omega, ((Chg.refl _ _).alloc _).alloc _, heap_alloc2_old _ _ _, heap_alloc2_new _ _ _⟩
  case round =>
    obtain ⟨lv, x, hlv, rfl, rfl, hx, hx0, hx1, hcr, hbx, hby⟩ := hrel
    have HX : Hid (x = placesL gs (⟨ivl c0 p0, b0, ivl c1 p1, b1, ivl c2 p2, b2, .map []⟩ : Pln) t u r now lv) := hx
    clear hx
    by_cases hl3 : lv < 3
    · obtain ⟨iv, hiv⟩ : ∃ iv, iv = ((⟨ivl c0 p0, b0, ivl c1 p1, b1, ivl c2 p2, b2, .map []⟩ : Pln).lev lv).1 := ⟨_, rfl⟩
      have hiv1 : 1 ≤ iv ∧ iv ≤ 1000 := by
        rw [hiv]
        rcases (show lv = 0 ∨ lv = 1 ∨ lv = 2 from by omega) with rfl | rfl | rfl
        · exact HQ.out.1.iv
        · exact HQ.out.2.1.iv
        · exact HQ.out.2.2.iv
      have HIVE : Hid (iv = ((⟨ivl c0 p0, b0, ivl c1 p1, b1, ivl c2 p2, b2, .map []⟩ : Pln).lev lv).1) := hiv
      have HNX : Hid (placesL gs (⟨ivl c0 p0, b0, ivl c1 p1, b1, ivl c2 p2, b2, .map []⟩ : Pln) t u r now (lv + 1) = placesL gs (⟨ivl c0 p0, b0, ivl c1 p1, b1, ivl c2 p2, b2, .map []⟩ : Pln) t u r now lv + slp gs lv iv t u r now + cnt gs lv iv now gs.length) := by show _ = _; rw [hiv]; rfl
      clear hiv
      have hl3' : (lv : Int) < 3 := by omega
      go_upto_region 5 with fail
      go_cut [11] (fun s11 wx => s11 = .int .i64 iv ∧ Chg [] w wx ∧ wx.heap[w.heap.size]? = some (.cells [.int .i64 c0, .int .i64 p0, .int .i64 b0, .int .i64 c1, .int .i64 p1, .int .i64 b1, .int .i64 c2, .int .i64 p2, .int .i64 b2, .slice none 0 0, .int .i64 sh, .int .i64 sl, .int .i64 ev, .int .i64 de, .int .i64 qu].toArray 30 (0, 0)) ∧ wx.heap[w.heap.size + 1]? = some (.cells [.int .u16 t, .int .u16 u, .int .u16 r].toArray 47 (0, 0)))
      case first =>
        rcases (show lv = 0 ∨ lv = 1 ∨ lv = 2 from by omega) with rfl | rfl | rfl
        · have f0 := blk_cell (i := 0) hbx rfl
          have f1 := blk_cell (i := 1) hbx rfl
          have f2 := blk_cell (i := 2) hbx rfl
          have HIV : Hid (∀ W, Calls Try.prog 34 #[.agg #[.int .i64 c0, .int .i64 p0, .int .i64 b0]] W fun e w' => e = .returned (.int .i64 (ivl c0 p0)) ∧ Chg [] W w') := fun W => interval_any c0 p0 b0 W HQ.out.1.1 HQ.out.1.2.1 HQ.out.1.2.2.1 HQ.out.1.2.2.2.1
          have HIV2 : Hid (.int .i64 (ivl c0 p0) = Value.int .i64 iv) := by show _ = _; rw [HIVE.out]; rfl
          go_wp2_with fail
          refine (HIV.out _).mono ?_
          rintro e w1 ⟨rfl, q1⟩
          go_wp2_with fail
          go_meet
          case rel => exact ⟨HIV2.out, hcr.trans q1 (by simp), q1.blk hbx (by simp), q1.blk hby (by simp)⟩
        · have f0 := blk_cell (i := 3) hbx rfl
          have f1 := blk_cell (i := 4) hbx rfl
          have f2 := blk_cell (i := 5) hbx rfl
          have HIV : Hid (∀ W, Calls Try.prog 34 #[.agg #[.int .i64 c1, .int .i64 p1, .int .i64 b1]] W fun e w' => e = .returned (.int .i64 (ivl c1 p1)) ∧ Chg [] W w') := fun W => interval_any c1 p1 b1 W HQ.out.2.1.1 HQ.out.2.1.2.1 HQ.out.2.1.2.2.1 HQ.out.2.1.2.2.2.1
          have HIV2 : Hid (.int .i64 (ivl c1 p1) = Value.int .i64 iv) := by show _ = _; rw [HIVE.out]; rfl
          go_wp2_with fail
          refine (HIV.out _).mono ?_
          rintro e w1 ⟨rfl, q1⟩
          go_wp2_with fail
          go_meet
          case rel => exact ⟨HIV2.out, hcr.trans q1 (by simp), q1.blk hbx (by simp), q1.blk hby (by simp)⟩
        · have f0 := blk_cell (i := 6) hbx rfl
          have f1 := blk_cell (i := 7) hbx rfl
          have f2 := blk_cell (i := 8) hbx rfl
          have HIV : Hid (∀ W, Calls Try.prog 34 #[.agg #[.int .i64 c2, .int .i64 p2, .int .i64 b2]] W fun e w' => e = .returned (.int .i64 (ivl c2 p2)) ∧ Chg [] W w') := fun W => interval_any c2 p2 b2 W HQ.out.2.2.1 HQ.out.2.2.2.1 HQ.out.2.2.2.2.1 HQ.out.2.2.2.2.2.1
          have HIV2 : Hid (.int .i64 (ivl c2 p2) = Value.int .i64 iv) := by show _ = _; rw [HIVE.out]; rfl
          go_wp2_with fail
          refine (HIV.out _).mono ?_
          rintro e w1 ⟨rfl, q1⟩
          go_wp2_with fail
          go_meet
          case rel => exact ⟨HIV2.out, hcr.trans q1 (by simp), q1.blk hbx (by simp), q1.blk hby (by simp)⟩
      case rest =>
        obtain ⟨rfl, hc1, hb1, hk1⟩ := hcut
        clear hcr hbx hby HIVE HQ
        have HU : Hid (∀ (t u r : Int) W, Chg [] w W → Calls Try.prog 41 #[.slice la len cap, .int .i64 lv, .agg #[.int .u16 t, .int .u16 u, .int .u16 r], .int .i64 iv] W fun e w' => e = .returned (.int .i64 (untilL gs lv t u r iv)) ∧ Chg [] W w') := fun t u r W hW => HUA.out lv iv t u r W (by omega) (by omega) hiv1.2 hW
        clear HUA
        have k0 := blk_cell (i := 0) hk1 rfl
        have k1 := blk_cell (i := 1) hk1 rfl
        have k2 := blk_cell (i := 2) hk1 rfl
        obtain ⟨o, ho⟩ : ∃ o, untilL gs lv t u r iv = o := ⟨_, rfl⟩
        have HUO : Hid (∀ W, Chg [] w W → Calls Try.prog 41 #[.slice la len cap, .int .i64 lv, .agg #[.int .u16 t, .int .u16 u, .int .u16 r], .int .i64 iv] W fun e w' => e = .returned (.int .i64 o) ∧ Chg [] W w') := fun W hW => by
          have := HU.out t u r W hW
          rw [ho] at this
          exact this
        have HSL : Hid (slp gs lv iv t u r now = if o ≤ now then 1 else 0) := by show _ = _; rw [← ho]; rfl
        clear ho
        go_wp2_with fail
        refine (HUO.out _ hc1).mono ?_
        rintro e w2 ⟨rfl, q2⟩
        have hc2 := hc1.trans q2 (by simp)
        have hb2 := q2.blk hb1 (by simp)
        have hk2 := q2.blk hk1 (by simp)
        clear hc1 hb1 hk1 q2 k0 k1 k2 HUO
        obtain ⟨s, hs⟩ : ∃ s, slp gs lv iv t u r now = s := ⟨_, rfl⟩
        have hs01 : 0 ≤ s ∧ s ≤ 1 := hs ▸ slp_bd gs lv iv t u r now
        rw [hs] at HSL HNX
        clear hs
        by_cases hoo : o ≤ now
        · have hs1 : s = 1 := by have := HSL.out; rw [if_pos hoo] at this; exact this
          clear HSL
          subst hs1
          go_wp2_with fail
          go_loopw [9, 13] (fun n i wr => ∃ (k : Nat) (y : Int), k ≤ len ∧ i = .int .i64 k ∧ n = .int .i64 y ∧ y = x + 1 + cnt gs lv iv now k ∧ 0 ≤ y ∧ y ≤ x + 1 + k ∧ Chg [] w wr ∧ wr.heap[w.heap.size]? = some (.cells [.int .i64 c0, .int .i64 p0, .int .i64 b0, .int .i64 c1, .int .i64 p1, .int .i64 b1, .int .i64 c2, .int .i64 p2, .int .i64 b2, .slice none 0 0, .int .i64 sh, .int .i64 sl, .int .i64 ev, .int .i64 de, .int .i64 qu].toArray 30 (0, 0)) ∧ wr.heap[w.heap.size + 1]? = some (.cells [.int .u16 t, .int .u16 u, .int .u16 r].toArray 47 (0, 0))) (fun _ i _ => len - (intOf i).toNat)
          case atStart => exact ⟨0, x + 1, by omega, rfl, by first | rfl | go_num, by simp [cnt], by omega, by omega, hc2, hb2, hk2⟩
          case round =>
            obtain ⟨k, y, hk, rfl, rfl, hy, hy0, hy1, hci, hbi, hki⟩ := hrel
            have HY : Hid (y = x + 1 + cnt gs lv iv now k) := hy
            clear hy hc2 hb2 hk2
            by_cases hlt : k < len
            · have hkl : k < gs.length := by rw [← HLEN.out]; exact hlt
              obtain ⟨hla, hlb⟩ := HGS.out.1 (by omega)
              subst hla
              have HAW := awk_at gs lv iv now k hkl
              have HCN : Hid (cnt gs lv iv now (k + 1) = cnt gs lv iv now k + (if awk gs lv iv now k then 1 else 0)) := rfl
              have hkk : (k : Int) < (len : Int) := by omega
              have HGK : Hid (GrAt w lb (k * 5) gs[k]) := HGS.out.2 k hkl
              have HLT : Hid (∀ j (hj : j < k), lone (gs.take (j + 1)) lv gs[k].kt gs[k].ku gs[k].kr = (lone (gs.take j) lv gs[k].kt gs[k].ku gs[k].kr && !(shr lv (gs[j]'(by omega)).kt (gs[j]'(by omega)).ku (gs[j]'(by omega)).kr gs[k].kt gs[k].ku gs[k].kr))) := fun j hj => lone_take gs lv _ _ _ j (by omega)
              have HAW2 : Hid (awk gs lv iv now k = (lone (gs.take k) lv gs[k].kt gs[k].ku gs[k].kr && decide (now < untilL gs lv gs[k].kt gs[k].ku gs[k].kr iv))) := HAW
              clear HAW
              generalize gs[k] = g at *
              go_wp2_with fail
              go_loopw [14, 15] (fun f i wr => ∃ (j : Nat), j ≤ k ∧ i = .int .i64 j ∧ f = .bool (lone (gs.take j) lv g.kt g.ku g.kr) ∧ Chg [] w wr ∧ wr.heap[w.heap.size]? = some (.cells [.int .i64 c0, .int .i64 p0, .int .i64 b0, .int .i64 c1, .int .i64 p1, .int .i64 b1, .int .i64 c2, .int .i64 p2, .int .i64 b2, .slice none 0 0, .int .i64 sh, .int .i64 sl, .int .i64 ev, .int .i64 de, .int .i64 qu].toArray 30 (0, 0)) ∧ wr.heap[w.heap.size + 1]? = some (.cells [.int .u16 t, .int .u16 u, .int .u16 r].toArray 47 (0, 0))) (fun _ i _ => k - (intOf i).toNat)
              case atStart => exact ⟨0, by omega, rfl, by simp [lone], hci, hbi, hki⟩
              case round =>
                obtain ⟨j, hj, rfl, rfl, hcj, hbj, hkj⟩ := hrel
                clear hci hbi hki
                by_cases hjk : j < k
                · have hjl : j < gs.length := by omega
                  have HGJ : Hid (GrAt w lb (j * 5) gs[j]) := HGS.out.2 j hjl
                  have HLO : Hid (lone (gs.take (j + 1)) lv g.kt g.ku g.kr = (lone (gs.take j) lv g.kt g.ku g.kr && !(shr lv gs[j].kt gs[j].ku gs[j].kr g.kt g.ku g.kr))) := HLT.out j hjk
                  generalize gs[j] = h at *
                  have HAT : Hid (∀ W, Chg [] wr W → (W.cell? ⟨lb, j * 5 + 1, none⟩ = some (.int .u16 h.kt) ∧ W.cell? ⟨lb, j * 5 + 2, none⟩ = some (.int .u16 h.ku) ∧ W.cell? ⟨lb, j * 5 + 3, none⟩ = some (.int .u16 h.kr) ∧ W.cell? ⟨lb, k * 5 + 1, none⟩ = some (.int .u16 g.kt) ∧ W.cell? ⟨lb, k * 5 + 2, none⟩ = some (.int .u16 g.ku) ∧ W.cell? ⟨lb, k * 5 + 3, none⟩ = some (.int .u16 g.kr))) := fun W hW => by
                    have h1 := HGJ.out.chg (hcj.trans hW (by simp)) (by simp)
                    have h2 := HGK.out.chg (hcj.trans hW (by simp)) (by simp)
                    exact ⟨h1.2.1, h1.2.2.1, h1.2.2.2.1, h2.2.1, h2.2.2.1, h2.2.2.2.1⟩
                  have HSH : Hid (∀ W, Calls Try.prog 42 #[.int .i64 lv, .agg #[.int .u16 h.kt, .int .u16 h.ku, .int .u16 h.kr], .agg #[.int .u16 g.kt, .int .u16 g.ku, .int .u16 g.kr]] W fun e w' => e = .returned (.bool (shr lv h.kt h.ku h.kr g.kt g.ku g.kr)) ∧ Chg [] W w') := fun W => shares_any lv _ _ _ _ _ _ W (by omega)
                  generalize shr lv h.kt h.ku h.kr g.kt g.ku g.kr = sb at HSH HLO
                  generalize lone (gs.take j) lv g.kt g.ku g.kr = f0 at HLO ⊢
                  have v0 : Chg [] wr wr.drew := (Chg.refl _ _).drew
                  obtain ⟨d1, d2, d3, d5, d6, d7⟩ := HAT.out wr (Chg.refl _ _)
                  have hj1 : (j : Int) < (k : Int) := by omega
                  have hj2 : (j : Int) < (len : Int) := by omega
                  have hj3 : j < len := by omega
                  go_upto_region 16 with fail
                  go_region_held3 (fun W => W.cell? ⟨lb, j * 5 + 1, none⟩ = some (.int .u16 h.kt) ∧ W.cell? ⟨lb, j * 5 + 2, none⟩ = some (.int .u16 h.ku) ∧ W.cell? ⟨lb, j * 5 + 3, none⟩ = some (.int .u16 h.kr) ∧ W.cell? ⟨lb, k * 5 + 1, none⟩ = some (.int .u16 g.kt) ∧ W.cell? ⟨lb, k * 5 + 2, none⟩ = some (.int .u16 g.ku) ∧ W.cell? ⟨lb, k * 5 + 3, none⟩ = some (.int .u16 g.kr))
                    (first | with_reducible exact HAT.out _ v1 | with_reducible exact HAT.out _ v0)
                    (first | (go_at_call 42; refine (HSH.out _).mono ?_; rintro e w3 ⟨rfl, q3⟩; have v1 : Chg [] wr w3 := v0.trans q3 (by simp)))
                  have hc3 := hcj.trans v1 (by simp)
                  have hb3 := v1.blk hbj (by simp)
                  have hk3 := v1.blk hkj (by simp)
                  clear hcj hbj hkj d1 d2 d3 d5 d6 d7
                  cases f0 <;> cases sb
                  all_goals
                    go_wp2
                    go_roundw
                    case rel => exact ⟨j + 1, by omega, by go_num, by rw [HLO.out]; rfl, hc3, hb3, hk3⟩
                    case measure => simp [intOf]; omega
                · obtain rfl : j = k := by omega
                  have HUG : Hid (∀ W, Chg [] w W → Calls Try.prog 41 #[.slice (some ⟨lb, 0, none⟩) len cap, .int .i64 lv, .agg #[.int .u16 g.kt, .int .u16 g.ku, .int .u16 g.kr], .int .i64 iv] W fun e w' => e = .returned (.int .i64 (untilL gs lv g.kt g.ku g.kr iv)) ∧ Chg [] W w') := fun W hW => HU.out _ _ _ W hW
                  generalize untilL gs lv g.kt g.ku g.kr iv = o2 at HUG HAW2
                  generalize lone (gs.take j) lv g.kt g.ku g.kr = f0 at HAW2 ⊢
                  generalize awk gs lv iv now j = ab at HAW2 HCN
                  have h2 := HGK.out.chg hcj (by simp)
                  have d5 := h2.2.1
                  have d6 := h2.2.2.1
                  have d7 := h2.2.2.2.1
                  clear h2
                  cases f0
                  · have HAB : Hid (ab = false) := (by have := HAW2.out; simpa using this : ab = false)
                    go_wp2
                    go_roundw
                    case rel => exact ⟨j + 1, y, by omega, by go_num, rfl, by rw [HCN.out, HAB.out, HY.out]; simp, by omega, by omega, hcj, hbj, hkj⟩
                    case measure => simp [intOf]; omega
                  · go_wp2_with fail
                    refine (HUG.out _ hcj).mono ?_
                    rintro e w4 ⟨rfl, q4⟩
                    have hc4 := hcj.trans q4 (by simp)
                    have hb4 := q4.blk hbj (by simp)
                    have hk4 := q4.blk hkj (by simp)
                    clear hcj hbj hkj q4 d5 d6 d7
                    by_cases hno : now < o2
                    · have HAB : Hid (ab = true) := (by have := HAW2.out; simpa [hno] using this : ab = true)
                      go_wp2
                      go_roundw
                      case rel => exact ⟨j + 1, y + 1, by omega, by go_num, by first | rfl | go_num, by rw [HCN.out, HAB.out, HY.out]; simp; omega, by omega, by omega, hc4, hb4, hk4⟩
                      case measure => simp [intOf]; omega
                    · have HAB : Hid (ab = false) := (by have := HAW2.out; simpa [hno] using this : ab = false)
                      go_wp2
                      go_roundw
                      case rel => exact ⟨j + 1, y, by omega, by go_num, rfl, by rw [HCN.out, HAB.out, HY.out]; simp, by omega, by omega, hc4, hb4, hk4⟩
                      case measure => simp [intOf]; omega
            · go_wp2
              go_roundw
              case rel =>
                have hkk : k = gs.length := by have := HLEN.out; omega
                exact ⟨lv + 1, y, by omega, by go_num, rfl, by rw [HNX.out, HY.out, HX.out, hkk], by omega, by omega, hci, hbi, hki⟩
              case measure => simp [intOf]; omega
        · have hs1 : s = 0 := by have := HSL.out; rw [if_neg hoo] at this; exact this
          clear HSL
          subst hs1
          go_wp2_with fail
          go_loopw [9, 13] (fun n i wr => ∃ (k : Nat) (y : Int), k ≤ len ∧ i = .int .i64 k ∧ n = .int .i64 y ∧ y = x + 0 + cnt gs lv iv now k ∧ 0 ≤ y ∧ y ≤ x + 1 + k ∧ Chg [] w wr ∧ wr.heap[w.heap.size]? = some (.cells [.int .i64 c0, .int .i64 p0, .int .i64 b0, .int .i64 c1, .int .i64 p1, .int .i64 b1, .int .i64 c2, .int .i64 p2, .int .i64 b2, .slice none 0 0, .int .i64 sh, .int .i64 sl, .int .i64 ev, .int .i64 de, .int .i64 qu].toArray 30 (0, 0)) ∧ wr.heap[w.heap.size + 1]? = some (.cells [.int .u16 t, .int .u16 u, .int .u16 r].toArray 47 (0, 0))) (fun _ i _ => len - (intOf i).toNat)
          case atStart => exact ⟨0, x, by omega, rfl, by first | rfl | go_num, by simp [cnt], by omega, by omega, hc2, hb2, hk2⟩
          case round =>
            obtain ⟨k, y, hk, rfl, rfl, hy, hy0, hy1, hci, hbi, hki⟩ := hrel
            have HY : Hid (y = x + 0 + cnt gs lv iv now k) := hy
            clear hy hc2 hb2 hk2
            by_cases hlt : k < len
            · have hkl : k < gs.length := by rw [← HLEN.out]; exact hlt
              obtain ⟨hla, hlb⟩ := HGS.out.1 (by omega)
              subst hla
              have HAW := awk_at gs lv iv now k hkl
              have HCN : Hid (cnt gs lv iv now (k + 1) = cnt gs lv iv now k + (if awk gs lv iv now k then 1 else 0)) := rfl
              have hkk : (k : Int) < (len : Int) := by omega
              have HGK : Hid (GrAt w lb (k * 5) gs[k]) := HGS.out.2 k hkl
              have HLT : Hid (∀ j (hj : j < k), lone (gs.take (j + 1)) lv gs[k].kt gs[k].ku gs[k].kr = (lone (gs.take j) lv gs[k].kt gs[k].ku gs[k].kr && !(shr lv (gs[j]'(by omega)).kt (gs[j]'(by omega)).ku (gs[j]'(by omega)).kr gs[k].kt gs[k].ku gs[k].kr))) := fun j hj => lone_take gs lv _ _ _ j (by omega)
              have HAW2 : Hid (awk gs lv iv now k = (lone (gs.take k) lv gs[k].kt gs[k].ku gs[k].kr && decide (now < untilL gs lv gs[k].kt gs[k].ku gs[k].kr iv))) := HAW
              clear HAW
              generalize gs[k] = g at *
              go_wp2_with fail
              go_loopw [14, 15] (fun f i wr => ∃ (j : Nat), j ≤ k ∧ i = .int .i64 j ∧ f = .bool (lone (gs.take j) lv g.kt g.ku g.kr) ∧ Chg [] w wr ∧ wr.heap[w.heap.size]? = some (.cells [.int .i64 c0, .int .i64 p0, .int .i64 b0, .int .i64 c1, .int .i64 p1, .int .i64 b1, .int .i64 c2, .int .i64 p2, .int .i64 b2, .slice none 0 0, .int .i64 sh, .int .i64 sl, .int .i64 ev, .int .i64 de, .int .i64 qu].toArray 30 (0, 0)) ∧ wr.heap[w.heap.size + 1]? = some (.cells [.int .u16 t, .int .u16 u, .int .u16 r].toArray 47 (0, 0))) (fun _ i _ => k - (intOf i).toNat)
              case atStart => exact ⟨0, by omega, rfl, by simp [lone], hci, hbi, hki⟩
              case round =>
                obtain ⟨j, hj, rfl, rfl, hcj, hbj, hkj⟩ := hrel
                clear hci hbi hki
                by_cases hjk : j < k
                · have hjl : j < gs.length := by omega
                  have HGJ : Hid (GrAt w lb (j * 5) gs[j]) := HGS.out.2 j hjl
                  have HLO : Hid (lone (gs.take (j + 1)) lv g.kt g.ku g.kr = (lone (gs.take j) lv g.kt g.ku g.kr && !(shr lv gs[j].kt gs[j].ku gs[j].kr g.kt g.ku g.kr))) := HLT.out j hjk
                  generalize gs[j] = h at *
                  have HAT : Hid (∀ W, Chg [] wr W → (W.cell? ⟨lb, j * 5 + 1, none⟩ = some (.int .u16 h.kt) ∧ W.cell? ⟨lb, j * 5 + 2, none⟩ = some (.int .u16 h.ku) ∧ W.cell? ⟨lb, j * 5 + 3, none⟩ = some (.int .u16 h.kr) ∧ W.cell? ⟨lb, k * 5 + 1, none⟩ = some (.int .u16 g.kt) ∧ W.cell? ⟨lb, k * 5 + 2, none⟩ = some (.int .u16 g.ku) ∧ W.cell? ⟨lb, k * 5 + 3, none⟩ = some (.int .u16 g.kr))) := fun W hW => by
                    have h1 := HGJ.out.chg (hcj.trans hW (by simp)) (by simp)
                    have h2 := HGK.out.chg (hcj.trans hW (by simp)) (by simp)
                    exact ⟨h1.2.1, h1.2.2.1, h1.2.2.2.1, h2.2.1, h2.2.2.1, h2.2.2.2.1⟩
                  have HSH : Hid (∀ W, Calls Try.prog 42 #[.int .i64 lv, .agg #[.int .u16 h.kt, .int .u16 h.ku, .int .u16 h.kr], .agg #[.int .u16 g.kt, .int .u16 g.ku, .int .u16 g.kr]] W fun e w' => e = .returned (.bool (shr lv h.kt h.ku h.kr g.kt g.ku g.kr)) ∧ Chg [] W w') := fun W => shares_any lv _ _ _ _ _ _ W (by omega)
                  generalize shr lv h.kt h.ku h.kr g.kt g.ku g.kr = sb at HSH HLO
                  generalize lone (gs.take j) lv g.kt g.ku g.kr = f0 at HLO ⊢
                  have v0 : Chg [] wr wr.drew := (Chg.refl _ _).drew
                  obtain ⟨d1, d2, d3, d5, d6, d7⟩ := HAT.out wr (Chg.refl _ _)
                  have hj1 : (j : Int) < (k : Int) := by omega
                  have hj2 : (j : Int) < (len : Int) := by omega
                  have hj3 : j < len := by omega
                  go_upto_region 16 with fail
                  go_region_held3 (fun W => W.cell? ⟨lb, j * 5 + 1, none⟩ = some (.int .u16 h.kt) ∧ W.cell? ⟨lb, j * 5 + 2, none⟩ = some (.int .u16 h.ku) ∧ W.cell? ⟨lb, j * 5 + 3, none⟩ = some (.int .u16 h.kr) ∧ W.cell? ⟨lb, k * 5 + 1, none⟩ = some (.int .u16 g.kt) ∧ W.cell? ⟨lb, k * 5 + 2, none⟩ = some (.int .u16 g.ku) ∧ W.cell? ⟨lb, k * 5 + 3, none⟩ = some (.int .u16 g.kr))
                    (first | with_reducible exact HAT.out _ v1 | with_reducible exact HAT.out _ v0)
                    (first | (go_at_call 42; refine (HSH.out _).mono ?_; rintro e w3 ⟨rfl, q3⟩; have v1 : Chg [] wr w3 := v0.trans q3 (by simp)))
                  have hc3 := hcj.trans v1 (by simp)
                  have hb3 := v1.blk hbj (by simp)
                  have hk3 := v1.blk hkj (by simp)
                  clear hcj hbj hkj d1 d2 d3 d5 d6 d7
                  cases f0 <;> cases sb
                  all_goals
                    go_wp2
                    go_roundw
                    case rel => exact ⟨j + 1, by omega, by go_num, by rw [HLO.out]; rfl, hc3, hb3, hk3⟩
                    case measure => simp [intOf]; omega
                · obtain rfl : j = k := by omega
                  have HUG : Hid (∀ W, Chg [] w W → Calls Try.prog 41 #[.slice (some ⟨lb, 0, none⟩) len cap, .int .i64 lv, .agg #[.int .u16 g.kt, .int .u16 g.ku, .int .u16 g.kr], .int .i64 iv] W fun e w' => e = .returned (.int .i64 (untilL gs lv g.kt g.ku g.kr iv)) ∧ Chg [] W w') := fun W hW => HU.out _ _ _ W hW
                  generalize untilL gs lv g.kt g.ku g.kr iv = o2 at HUG HAW2
                  generalize lone (gs.take j) lv g.kt g.ku g.kr = f0 at HAW2 ⊢
                  generalize awk gs lv iv now j = ab at HAW2 HCN
                  have h2 := HGK.out.chg hcj (by simp)
                  have d5 := h2.2.1
                  have d6 := h2.2.2.1
                  have d7 := h2.2.2.2.1
                  clear h2
                  cases f0
                  · have HAB : Hid (ab = false) := (by have := HAW2.out; simpa using this : ab = false)
                    go_wp2
                    go_roundw
                    case rel => exact ⟨j + 1, y, by omega, by go_num, rfl, by rw [HCN.out, HAB.out, HY.out]; simp, by omega, by omega, hcj, hbj, hkj⟩
                    case measure => simp [intOf]; omega
                  · go_wp2_with fail
                    refine (HUG.out _ hcj).mono ?_
                    rintro e w4 ⟨rfl, q4⟩
                    have hc4 := hcj.trans q4 (by simp)
                    have hb4 := q4.blk hbj (by simp)
                    have hk4 := q4.blk hkj (by simp)
                    clear hcj hbj hkj q4 d5 d6 d7
                    by_cases hno : now < o2
                    · have HAB : Hid (ab = true) := (by have := HAW2.out; simpa [hno] using this : ab = true)
                      go_wp2
                      go_roundw
                      case rel => exact ⟨j + 1, y + 1, by omega, by go_num, by first | rfl | go_num, by rw [HCN.out, HAB.out, HY.out]; simp; omega, by omega, by omega, hc4, hb4, hk4⟩
                      case measure => simp [intOf]; omega
                    · have HAB : Hid (ab = false) := (by have := HAW2.out; simpa [hno] using this : ab = false)
                      go_wp2
                      go_roundw
                      case rel => exact ⟨j + 1, y, by omega, by go_num, rfl, by rw [HCN.out, HAB.out, HY.out]; simp, by omega, by omega, hc4, hb4, hk4⟩
                      case measure => simp [intOf]; omega
            · go_wp2
              go_roundw
              case rel =>
                have hkk : k = gs.length := by have := HLEN.out; omega
                exact ⟨lv + 1, y, by omega, by go_num, rfl, by rw [HNX.out, HY.out, HX.out, hkk], by omega, by omega, hci, hbi, hki⟩
              case measure => simp [intOf]; omega
    · obtain rfl : lv = 3 := by omega
      go_wp2
      go_ret
      exact ⟨congrArg (fun y => Ending.returned (.int .i64 y)) HX.out, hcr⟩
end Go.Proofs.Ytbdnhllhdjepcaa
