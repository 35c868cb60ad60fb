import Derived.Test.YtbdnhllhdjepcaaGreatCRm
namespace Go.Proofs.YtbdnhllhdjepcaaGreat
set_option linter.unusedVariables false
set_option linter.unusedSimpArgs false
open Go.RowKit Go.Maps

/-! ### which quota holds -/
def ovHit (L t u r : Int) (o : Ov) : Bool := decide (o.L = L ∧ o.t = t ∧ o.u = cutU L u ∧ o.r = cutR L r)
def Cf.quo (c : Cf) : Nat → Int × Int × Int
  | 0 => (c.c0, c.p0, c.b0)
  | 1 => (c.c1, c.p1, c.b1)
  | _ => (c.c2, c.p2, c.b2)
def quoOf (c : Cf) (os : List Ov) (L : Nat) (t u r : Int) : Int × Int × Int := match os.find? (ovHit L t u r) with | some o => (o.c, o.p, o.b) | none => c.quo L
abbrev quoV (q : Int × Int × Int) : Value := .agg #[.int .i64 q.1, .int .i64 q.2.1, .int .i64 q.2.2]
theorem quo_hit {c : Cf} {os : List Ov} {L : Nat} {t u r : Int} {j : Nat} (hj : j < os.length) (h : ovHit L t u r os[j] = true) (hn : ∀ i (hi : i < os.length), i < j → ovHit L t u r os[i] = false) : quoOf c os L t u r = (os[j].c, os[j].p, os[j].b) := by
  have : os.find? (ovHit L t u r) = some os[j] := by
    rw [List.find?_eq_some_iff_getElem]
    exact ⟨h, j, hj, rfl, fun i hi => by simp [hn i (by omega) hi]⟩
  unfold quoOf
  rw [this]
theorem quo_none {c : Cf} {os : List Ov} {L : Nat} {t u r : Int} (hn : ∀ i (hi : i < os.length), ovHit L t u r os[i] = false) : quoOf c os L t u r = c.quo L := by
  have : os.find? (ovHit L t u r) = none := by
    rw [List.find?_eq_none]
    intro x hx
    obtain ⟨i, hi, rfl⟩ := List.mem_iff_getElem.1 hx
    simp [hn i hi]
  unfold quoOf
  rw [this]
theorem load29 {W : World} {b : Nat} {x y z : Value} (h : W.heap[b]? = some (.cells [x, y, z].toArray 29 (0, 0))) (h1 : x.oneCell' = true) (h2 : y.oneCell' = true) (h3 : z.oneCell' = true) : (loadVar 29 ⟨b, 0, none⟩).run Tryz.prog W = .ok (.agg #[x, y, z]) W := by
  have c0 := blk_cell (i := 0) h rfl
  have c1 := blk_cell (i := 1) h rfl
  have c2 := blk_cell (i := 2) h rfl
  simp [go_sem, c0, c1, c2]

set_option maxRecDepth 100000 in
set_option maxHeartbeats 4000000 in
theorem quota_ref (yb : Nat) (s : Rf) (L : Nat) (t u r : Int) (w : World) (h : RefAt w yb s) (hL : L < 3) :
    Calls Tryz.prog 130 #[.pointer (some ⟨yb, 0, none⟩), .int .i64 L, .agg #[.int .u16 t, .int .u16 u, .int .u16 r]] w fun e w' => e = .returned (quoV (quoOf s.c s.os L t u r)) ∧ Chg [] w w' := by
  have h0 : 0 ≤ (L : Int) := by omega
  obtain ⟨la, lb, lof, cap, hv, hla, hlen, hlt, hcell⟩ := h.ovs.laid
  have hyl := lt_of_block h.blk
  have y9 : w.cell? ⟨yb, 9, none⟩ = some s.ov := blk_cell (i := 9) h.blk rfl
  rw [hv] at y9
  have HY : Hid (w.cell? ⟨yb, 9, none⟩ = some (.slice la s.os.length cap)) := y9
  have HYB : Hid (w.heap[yb]? = some (.cells (rfc s).toArray 114 (0, 0))) := h.blk
  have HCE : Hid (∀ j u, (ovcells s.os)[j]? = some u → w.cell? ⟨lb, lof + j, none⟩ = some u) := hcell
  have HLA : Hid (0 < s.os.length → la = some ⟨lb, lof, none⟩ ∧ s.ov.ownBlock = some lb) := hla
  have HLT : Hid (0 < s.os.length → lb < w.heap.size) := hlt
  obtain ⟨cu, hcu⟩ : ∃ cu, cu = cutU L u := ⟨_, rfl⟩
  obtain ⟨cr, hcr'⟩ : ∃ cr, cr = cutR L r := ⟨_, rfl⟩
  have HCut : Hid (∀ W, Calls Tryz.prog 87 #[.int .i64 L, .agg #[.int .u16 t, .int .u16 u, .int .u16 r]] W fun e w' => e = .returned (.agg #[.int .u16 t, .int .u16 cu, .int .u16 cr]) ∧ Chg [] W w') := fun W => by
    rw [hcu, hcr']
    exact cut_any L t u r W h0
  have HHIT : Hid (∀ x : Ov, ovHit L t u r x = decide (x.L = L ∧ x.t = t ∧ x.u = cu ∧ x.r = cr)) := fun x => by rw [hcu, hcr']; rfl
  clear h hcell hla hlt hv hcu hcr' y9
  obtain ⟨wb, hwb⟩ : ∃ wb, wb = (w.alloc (.cells [.int .u16 t, .int .u16 u, .int .u16 r].toArray 60)).alloc (.cells [.int .i64 0, .int .i64 0, .int .i64 0].toArray 29) := ⟨_, rfl⟩
  have HBX : Hid (wb.heap[w.heap.size]? = some (.cells [.int .u16 t, .int .u16 u, .int .u16 r].toArray 60 (0, 0))) := hwb ▸ heap_alloc2_old _ _ _
  have HBR : Hid (wb.heap[w.heap.size + 1]? = some (.cells [.int .i64 0, .int .i64 0, .int .i64 0].toArray 29 (0, 0))) := hwb ▸ heap_alloc2_new _ _ _
  have HCW : Hid (Chg [] w wb) := hwb ▸ ((Chg.refl _ _).alloc _).alloc _
  have hkw : (w.alloc (.cells #[.int .u16 t, .int .u16 u, .int .u16 r] 60)).alloc (.cells #[.int .i64 0, .int .i64 0, .int .i64 0] 29) = wb := hwb.symm
  clear hwb
  go_enter Tryz.func130, Tryz.ntmps130
  go_wp2_with fail
  go_loopw [7] (fun i wr => ∃ j : Nat, i = .int .i64 j ∧ j ≤ s.os.length ∧ Chg [] wb wr ∧ ∀ i (hi : i < s.os.length), i < j → ovHit L t u r s.os[i] = false) (fun i _ => s.os.length - (intOf i).toNat)
  case atStart => exact ⟨0, rfl, by omega, Chg.refl _ _, fun i hi h => absurd h (by omega)⟩
  case round =>
    obtain ⟨j, rfl, hjl, hcr, hno⟩ := hrel
    have HCR : Hid (Chg [] wb wr) := hcr
    have HCA : Hid (Chg [] w wr) := HCW.out.trans hcr (by simp)
    have HNO : Hid (∀ i (hi : i < s.os.length), i < j → ovHit L t u r s.os[i] = false) := hno
    have z9 := HCA.out.cell HY.out (by simp)
    have hwr := HCR.out.size
    have hwbs := lt_of_block HBR.out
    have HRB := HCR.out.blk HBR.out (by simp)
    have r0 := blk_cell (i := 0) HRB rfl
    have r1 := blk_cell (i := 1) HRB rfl
    have r2 := blk_cell (i := 2) HRB rfl
    have rf := fun i => blk_free (i := i) HRB
    have HRB' : Hid _ := HRB
    clear hcr hno HRB
    by_cases hlt : j < s.os.length
    · obtain ⟨rfl, _⟩ := HLA.out (by omega)
      have hlb := HLT.out (by omega)
      obtain ⟨x, hx⟩ : ∃ x, x = s.os[j] := ⟨_, rfl⟩
      have hat : ∀ i, i < 7 → ∀ v, (ovc x)[i]? = some v → wr.cell? ⟨lb, lof + j * 7 + i, none⟩ = some v := fun i hi v hv => by
        refine HCA.out.cell ?_ (by simp)
        rw [Nat.add_assoc]
        refine HCE.out _ _ ?_
        rw [ov_at _ j hlt i hi, ← hx]
        exact hv
      have HX : Hid (x = s.os[j]) := hx
      have d0 : wr.cell? ⟨lb, lof + j * 7, none⟩ = some (.int .i64 x.L) := hat 0 (by decide) _ rfl
      have d1 : wr.cell? ⟨lb, lof + j * 7 + 1, none⟩ = some (.int .u16 x.t) := hat 1 (by decide) _ rfl
      have d2 : wr.cell? ⟨lb, lof + j * 7 + 2, none⟩ = some (.int .u16 x.u) := hat 2 (by decide) _ rfl
      have d3 : wr.cell? ⟨lb, lof + j * 7 + 3, none⟩ = some (.int .u16 x.r) := hat 3 (by decide) _ rfl
      have d4 : wr.cell? ⟨lb, lof + j * 7 + 4, none⟩ = some (.int .i64 x.c) := hat 4 (by decide) _ rfl
      have d5 : wr.cell? ⟨lb, lof + j * 7 + 5, none⟩ = some (.int .i64 x.p) := hat 5 (by decide) _ rfl
      have d6 : wr.cell? ⟨lb, lof + j * 7 + 6, none⟩ = some (.int .i64 x.b) := hat 6 (by decide) _ rfl
      clear hat hx
      have hbx := heap_alloc_new wr (.cells [.int .i64 x.L, .int .u16 x.t, .int .u16 x.u, .int .u16 x.r, .int .i64 x.c, .int .i64 x.p, .int .i64 x.b].toArray 158)
      have hcx : Chg [] wr (wr.alloc (.cells [.int .i64 x.L, .int .u16 x.t, .int .u16 x.u, .int .u16 x.r, .int .i64 x.c, .int .i64 x.p, .int .i64 x.b].toArray 158)) := (Chg.refl _ _).alloc _
      obtain ⟨wx, hwx⟩ : ∃ wx, wx = wr.alloc (.cells [.int .i64 x.L, .int .u16 x.t, .int .u16 x.u, .int .u16 x.r, .int .i64 x.c, .int .i64 x.p, .int .i64 x.b].toArray 158) := ⟨_, rfl⟩
      rw [← hwx] at hbx hcx
      have hkx : wr.alloc (.cells #[.int .i64 x.L, .int .u16 x.t, .int .u16 x.u, .int .u16 x.r, .int .i64 x.c, .int .i64 x.p, .int .i64 x.b] 158) = wx := hwx.symm
      clear hwx
      have HCX : Hid (Chg [] wr wx) := hcx
      have HOB : Hid _ := hbx
      have HSX : Hid (∀ W, Chg [] wx W → (W.cell? ⟨w.heap.size, 0, none⟩ = some (.int .u16 t) ∧ W.cell? ⟨w.heap.size, 1, none⟩ = some (.int .u16 u) ∧ W.cell? ⟨w.heap.size, 2, none⟩ = some (.int .u16 r) ∧ W.cell? ⟨wr.heap.size, 0, none⟩ = some (.int .i64 x.L) ∧ W.cell? ⟨wr.heap.size, 1, none⟩ = some (.int .u16 x.t) ∧ W.cell? ⟨wr.heap.size, 2, none⟩ = some (.int .u16 x.u) ∧ W.cell? ⟨wr.heap.size, 3, none⟩ = some (.int .u16 x.r))) := fun W hW => by
        have zb := ((HCR.out.trans hcx (by simp)).trans hW (by simp)).blk HBX.out (by simp)
        have zo := hW.blk HOB.out (by simp)
        exact ⟨blk_cell zb rfl, blk_cell zb rfl, blk_cell zb rfl, blk_cell zo rfl, blk_cell zo rfl, blk_cell zo rfl, blk_cell zo rfl⟩
      obtain ⟨y0, y1, y2, y3, y4, y5, y6⟩ := HSX.out wx (Chg.refl _ _)
      clear hbx
      have hj2 : (j : Int) < (s.os.length : Int) := by omega
      have v1 : Chg [] wx wx.drew := (Chg.refl _ _).drew
      by_cases hxl : x.L = L
      · have hxb : (x.L == (L : Int)) = true := by simpa using hxl
        by_cases hsm : x.t = t ∧ x.u = cu ∧ x.r = cr
        · have HSm : Hid (∀ W, Calls Tryz.prog 131 #[.agg #[.int .u16 x.t, .int .u16 x.u, .int .u16 x.r], .agg #[.int .u16 t, .int .u16 cu, .int .u16 cr]] W fun e w' => e = .returned (.bool true) ∧ Chg [] W w') := fun W => by
            refine (same_any x.t x.u x.r t cu cr W).mono ?_
            rintro e w' ⟨rfl, hc⟩
            exact ⟨by rw [decide_eq_true hsm], hc⟩
          have HF : Hid (quoOf s.c s.os L t u r = (x.c, x.p, x.b)) := by
            show _ = _
            rw [quo_hit hlt (by rw [HHIT.out, ← HX.out]; exact decide_eq_true ⟨hxl, hsm⟩) HNO.out, ← HX.out]
          clear hsm hxl
          go_upto_region 5 with fail
          go_region_held3 (fun W => W.cell? ⟨w.heap.size, 0, none⟩ = some (.int .u16 t) ∧ W.cell? ⟨w.heap.size, 1, none⟩ = some (.int .u16 u) ∧ W.cell? ⟨w.heap.size, 2, none⟩ = some (.int .u16 r) ∧ W.cell? ⟨wr.heap.size, 0, none⟩ = some (.int .i64 x.L) ∧ W.cell? ⟨wr.heap.size, 1, none⟩ = some (.int .u16 x.t) ∧ W.cell? ⟨wr.heap.size, 2, none⟩ = some (.int .u16 x.u) ∧ W.cell? ⟨wr.heap.size, 3, none⟩ = some (.int .u16 x.r))
            (first | with_reducible exact HSX.out _ v3 | with_reducible exact HSX.out _ v2 | with_reducible exact HSX.out _ v1)
            (first | (go_at_call 87; refine (HCut.out _).mono ?_; rintro e w2 ⟨rfl, q2⟩; have v2 : Chg [] wx w2 := v1.trans q2 (by simp)) | (go_at_call 131; refine (HSm.out _).mono ?_; rintro e w3 ⟨rfl, q3⟩; have v3 : Chg [] wx w3 := v2.trans q3 (by simp)))
          have zo := v3.blk HOB.out (by simp)
          have zr := (hcx.trans v3 (by simp)).blk HRB'.out (by simp)
          have o4 := blk_cell (i := 4) zo rfl
          have o5 := blk_cell (i := 5) zo rfl
          have o6 := blk_cell (i := 6) zo rfl
          have s0 := blk_cell (i := 0) zr rfl
          have s1 := blk_cell (i := 1) zr rfl
          have s2 := blk_cell (i := 2) zr rfl
          have sf := fun i => blk_free (i := i) zr
          have HZR : Hid _ := zr
          have HZC : Hid (Chg [] w w3) := (HCA.out.trans hcx (by simp)).trans v3 (by simp)
          clear zo zr
          go_wp2
          have rr := blk_set (i := 2) (.int .i64 x.b) (blk_set (i := 1) (.int .i64 x.p) (blk_set (i := 0) (.int .i64 x.c) HZR.out))
          exact bodyPost_ret (v := .agg #[.int .i64 x.c, .int .i64 x.p, .int .i64 x.b]) (results_cell1 rfl rfl (load29 rr rfl rfl rfl)) rfl ⟨by rw [HF.out], ((HZC.out.set _ _ (Or.inr (by dsimp only; omega))).set _ _ (Or.inr (by dsimp only; omega))).set _ _ (Or.inr (by dsimp only; omega))⟩
        · have HSm : Hid (∀ W, Calls Tryz.prog 131 #[.agg #[.int .u16 x.t, .int .u16 x.u, .int .u16 x.r], .agg #[.int .u16 t, .int .u16 cu, .int .u16 cr]] W fun e w' => e = .returned (.bool false) ∧ Chg [] W w') := fun W => by
            refine (same_any x.t x.u x.r t cu cr W).mono ?_
            rintro e w' ⟨rfl, hc⟩
            exact ⟨by rw [decide_eq_false hsm], hc⟩
          have HF : Hid (ovHit L t u r x = false) := by show _ = _; rw [HHIT.out]; exact decide_eq_false (fun h => hsm h.2)
          clear hsm hxl
          go_upto_region 5 with fail
          go_region_held3 (fun W => W.cell? ⟨w.heap.size, 0, none⟩ = some (.int .u16 t) ∧ W.cell? ⟨w.heap.size, 1, none⟩ = some (.int .u16 u) ∧ W.cell? ⟨w.heap.size, 2, none⟩ = some (.int .u16 r) ∧ W.cell? ⟨wr.heap.size, 0, none⟩ = some (.int .i64 x.L) ∧ W.cell? ⟨wr.heap.size, 1, none⟩ = some (.int .u16 x.t) ∧ W.cell? ⟨wr.heap.size, 2, none⟩ = some (.int .u16 x.u) ∧ W.cell? ⟨wr.heap.size, 3, none⟩ = some (.int .u16 x.r))
            (first | with_reducible exact HSX.out _ v3 | with_reducible exact HSX.out _ v2 | with_reducible exact HSX.out _ v1)
            (first | (go_at_call 87; refine (HCut.out _).mono ?_; rintro e w2 ⟨rfl, q2⟩; have v2 : Chg [] wx w2 := v1.trans q2 (by simp)) | (go_at_call 131; refine (HSm.out _).mono ?_; rintro e w3 ⟨rfl, q3⟩; have v3 : Chg [] wx w3 := v2.trans q3 (by simp)))
          all_goals
            go_wp2_with fail
            go_roundw
            case rel => exact ⟨j + 1, by go_num, by omega, (HCR.out.trans hcx (by simp)).trans v3 (by simp), fun i hi hij => by rcases Nat.lt_or_ge i j with h' | h'; (exact HNO.out i hi h'); (have : i = j := by omega); (subst this; rw [← HX.out]; exact HF.out)⟩
            case measure => simp [intOf]; omega
      · have hxb : (x.L == (L : Int)) = false := by simpa using hxl
        have HF : Hid (ovHit L t u r x = false) := by show _ = _; rw [HHIT.out]; exact decide_eq_false (fun h => hxl h.1)
        go_wp2_with fail
        go_region
        go_wp2_with fail
        go_roundw
        case rel => exact ⟨j + 1, by go_num, by omega, (HCR.out.trans hcx (by simp)).trans v1 (by simp), fun i hi hij => by rcases Nat.lt_or_ge i j with h' | h'; (exact HNO.out i hi h'); (have : i = j := by omega); (subst this; rw [← HX.out]; exact HF.out)⟩
        case measure => simp [intOf]; omega
    · have hj2 : ¬ (j : Int) < (s.os.length : Int) := by omega
      have HF : Hid (quoOf s.c s.os L t u r = s.c.quo L) := quo_none (fun i hi => HNO.out i hi (by omega))
      have zy := HCA.out.blk HYB.out (by simp)
      have k0 := blk_cell (i := 0) zy rfl
      have k1 := blk_cell (i := 1) zy rfl
      have k2 := blk_cell (i := 2) zy rfl
      have k3 := blk_cell (i := 3) zy rfl
      have k4 := blk_cell (i := 4) zy rfl
      have k5 := blk_cell (i := 5) zy rfl
      have k6 := blk_cell (i := 6) zy rfl
      have k7 := blk_cell (i := 7) zy rfl
      have k8 := blk_cell (i := 8) zy rfl
      clear zy
      rcases (show L = 0 ∨ L = 1 ∨ L = 2 from by omega) with rfl | rfl | rfl
      · go_wp2
        have rr := blk_set (i := 2) (.int .i64 s.c.b0) (blk_set (i := 1) (.int .i64 s.c.p0) (blk_set (i := 0) (.int .i64 s.c.c0) HRB'.out))
        exact bodyPost_ret (v := .agg #[.int .i64 s.c.c0, .int .i64 s.c.p0, .int .i64 s.c.b0]) (results_cell1 rfl rfl (load29 rr rfl rfl rfl)) rfl ⟨by rw [HF.out]; rfl, ((HCA.out.set _ _ (Or.inr (by dsimp only; omega))).set _ _ (Or.inr (by dsimp only; omega))).set _ _ (Or.inr (by dsimp only; omega))⟩
      · go_wp2
        have rr := blk_set (i := 2) (.int .i64 s.c.b1) (blk_set (i := 1) (.int .i64 s.c.p1) (blk_set (i := 0) (.int .i64 s.c.c1) HRB'.out))
        exact bodyPost_ret (v := .agg #[.int .i64 s.c.c1, .int .i64 s.c.p1, .int .i64 s.c.b1]) (results_cell1 rfl rfl (load29 rr rfl rfl rfl)) rfl ⟨by rw [HF.out]; rfl, ((HCA.out.set _ _ (Or.inr (by dsimp only; omega))).set _ _ (Or.inr (by dsimp only; omega))).set _ _ (Or.inr (by dsimp only; omega))⟩
      · go_wp2
        have rr := blk_set (i := 2) (.int .i64 s.c.b2) (blk_set (i := 1) (.int .i64 s.c.p2) (blk_set (i := 0) (.int .i64 s.c.c2) HRB'.out))
        exact bodyPost_ret (v := .agg #[.int .i64 s.c.c2, .int .i64 s.c.p2, .int .i64 s.c.b2]) (results_cell1 rfl rfl (load29 rr rfl rfl rfl)) rfl ⟨by rw [HF.out]; rfl, ((HCA.out.set _ _ (Or.inr (by dsimp only; omega))).set _ _ (Or.inr (by dsimp only; omega))).set _ _ (Or.inr (by dsimp only; omega))⟩
end Go.Proofs.YtbdnhllhdjepcaaGreat
namespace Go.Proofs.YtbdnhllhdjepcaaGreat
set_option linter.unusedVariables false
set_option linter.unusedSimpArgs false
open Go.RowKit Go.Maps

/-! ### how many keys are awake -/
structure Mk.Ok (m : Mk) : Prop where
  L : 0 ≤ m.L ∧ m.L ≤ 2
  t : U16 m.t
  u : U16 m.u
  r : U16 m.r
  m : 0 ≤ m.m ∧ m.m ≤ 18446744073709551615
def awkP (sh T k : Int) (m : Mk) : Bool := decide (m.t % sh = k) && decide (T < m.m)
def awk (ms : List Mk) (sh T k : Int) : Nat := ms.countP (awkP sh T k)
theorem awk_le (ms : List Mk) (sh T k : Int) : awk ms sh T k ≤ ms.length := List.countP_le_length
theorem awk_take {ms : List Mk} {sh T k : Int} {j : Nat} (hj : j < ms.length) : awk (ms.take (j + 1)) sh T k = awk (ms.take j) sh T k + (if awkP sh T k ms[j] then 1 else 0) := by
  unfold awk
  rw [List.take_succ_eq_append_getElem hj, List.countP_append, List.countP_singleton]

set_option maxRecDepth 100000 in
set_option maxHeartbeats 4000000 in
theorem awake_ref (yb : Nat) (s : Rf) (k : Int) (w : World) (h : RefAt w yb s) (hok : ∀ m ∈ s.ms, m.Ok) (hsh : 1 ≤ s.c.sh ∧ s.c.sh ≤ 4) (hlen : s.ms.length ≤ 10000000000000) :
    Calls Tryz.prog 129 #[.pointer (some ⟨yb, 0, none⟩), .int .i64 k] w fun e w' => e = .returned (.int .i64 (awk s.ms s.c.sh s.T k)) ∧ Chg [] w w' := by
  obtain ⟨la, lb, lof, cap, hv, hla, _, hlt, hcell⟩ := h.mks.laid
  obtain ⟨hs1, hs4⟩ := hsh
  have hyl := lt_of_block h.blk
  have y16 : w.cell? ⟨yb, 16, none⟩ = some s.mv := blk_cell (i := 16) h.blk rfl
  rw [hv] at y16
  have y15 : w.cell? ⟨yb, 15, none⟩ = some (.int .u64 s.T) := blk_cell (i := 15) h.blk rfl
  have y10 : w.cell? ⟨yb, 10, none⟩ = some (.int .i64 s.c.sh) := blk_cell (i := 10) h.blk rfl
  have HCE : Hid (∀ j u, (mkcells s.ms)[j]? = some u → w.cell? ⟨lb, lof + j, none⟩ = some u) := hcell
  have HLA : Hid (0 < s.ms.length → la = some ⟨lb, lof, none⟩ ∧ s.mv.ownBlock = some lb) := hla
  have HLT : Hid (0 < s.ms.length → lb < w.heap.size) := hlt
  clear h hcell hla hlt hv
  go_enter Tryz.func129, Tryz.ntmps129
  go_wp2_with fail
  go_loopw [5, 6] (fun n i wr => ∃ j : Nat, n = .int .i64 (awk (s.ms.take j) s.c.sh s.T k) ∧ i = .int .i64 j ∧ j ≤ s.ms.length ∧ Chg [] w wr) (fun _ i _ => s.ms.length - (intOf i).toNat)
  case atStart => exact ⟨0, rfl, rfl, by omega, Chg.refl _ _⟩
  case round =>
    obtain ⟨j, rfl, rfl, hjl, hcr⟩ := hrel
    have z16 := hcr.cell y16 (by simp)
    have z15 := hcr.cell y15 (by simp)
    have z10 := hcr.cell y10 (by simp)
    have HCR : Hid (Chg [] w wr) := hcr
    by_cases hlt : j < s.ms.length
    · obtain ⟨rfl, _⟩ := HLA.out (by omega)
      have hlb := HLT.out (by omega)
      obtain ⟨x, hx⟩ : ∃ x, x = s.ms[j] := ⟨_, rfl⟩
      have hat : ∀ i, i < 5 → ∀ v, (mkc x)[i]? = some v → wr.cell? ⟨lb, lof + j * 5 + i, none⟩ = some v := fun i hi v hv => by
        refine hcr.cell ?_ (by simp)
        rw [Nat.add_assoc]
        refine HCE.out _ _ ?_
        rw [mk_at _ j hlt i hi, ← hx]
        exact hv
      have d0 : wr.cell? ⟨lb, lof + j * 5, none⟩ = some (.int .i64 x.L) := hat 0 (by decide) _ rfl
      have d1 : wr.cell? ⟨lb, lof + j * 5 + 1, none⟩ = some (.int .u16 x.t) := hat 1 (by decide) _ rfl
      have d2 : wr.cell? ⟨lb, lof + j * 5 + 2, none⟩ = some (.int .u16 x.u) := hat 2 (by decide) _ rfl
      have d3 : wr.cell? ⟨lb, lof + j * 5 + 3, none⟩ = some (.int .u16 x.r) := hat 3 (by decide) _ rfl
      have d4 : wr.cell? ⟨lb, lof + j * 5 + 4, none⟩ = some (.int .u64 x.m) := hat 4 (by decide) _ rfl
      have hxo : x.Ok := hok x (hx ▸ List.getElem_mem hlt)
      have HTK := awk_take (sh := s.c.sh) (T := s.T) (k := k) hlt
      rw [← hx] at HTK
      have HT : Hid _ := HTK
      have hle := awk_le (s.ms.take j) s.c.sh s.T k
      rw [List.length_take] at hle
      have hx1 := hxo.t.1
      have hx2 := hxo.t.2
      have wx : IntKind.i64.wrap x.t = x.t := by rw [IntKind.wrap_i64]; omega
      have hmd : Int.tmod x.t s.c.sh = x.t % s.c.sh := Int.tmod_eq_emod_of_nonneg hx1
      clear hat hx hcr HTK hxo
      have hj2 : (j : Int) < (s.ms.length : Int) := by omega
      generalize awk (s.ms.take j) s.c.sh s.T k = n at *
      have hn : (n : Int) ≤ 10000000000000 := by omega
      by_cases hm : x.t % s.c.sh = k
      · have hmb : (x.t % s.c.sh == k) = true := by simpa using hm
        by_cases hm2 : s.T < x.m
        · have HQ : Hid (awkP s.c.sh s.T k x = true) := by show _ = _; unfold awkP; simp [hm, hm2]
          clear hm
          go_wp2_with fail
          go_region
          go_wp2_with fail
          go_roundw
          case rel => exact ⟨j + 1, by rw [HT.out, HQ.out]; go_num, by go_num, by omega, HCR.out.drew⟩
          case measure => simp [intOf]; omega
        · have HQ : Hid (awkP s.c.sh s.T k x = false) := by show _ = _; unfold awkP; simp [hm2]
          clear hm
          go_wp2_with fail
          go_region
          go_wp2_with fail
          go_roundw
          case rel => exact ⟨j + 1, by rw [HT.out, HQ.out]; go_num, by go_num, by omega, HCR.out.drew⟩
          case measure => simp [intOf]; omega
      · have hmb : (x.t % s.c.sh == k) = false := by simpa using hm
        have HQ : Hid (awkP s.c.sh s.T k x = false) := by show _ = _; unfold awkP; simp [hm]
        clear hm
        go_wp2_with fail
        go_region
        go_wp2_with fail
        go_roundw
        case rel => exact ⟨j + 1, by rw [HT.out, HQ.out]; go_num, by go_num, by omega, HCR.out.drew⟩
        case measure => simp [intOf]; omega
    · have hj2 : ¬ (j : Int) < (s.ms.length : Int) := by omega
      have HF : Hid (s.ms.take j = s.ms) := List.take_of_length_le (by omega)
      go_wp2
      go_ret
      exact ⟨by rw [HF.out]; rfl, hcr⟩
end Go.Proofs.YtbdnhllhdjepcaaGreat
namespace Go.Proofs.YtbdnhllhdjepcaaGreat
set_option linter.unusedVariables false
set_option linter.unusedSimpArgs false
open Go.RowKit Go.Maps

/-! ### what a level says -/
def vdUp (x : Int × Int) : Int := if x.2 = 0 then x.1 else 0
theorem mkM_some {ms : List Mk} {L t u r : Int} {i : Nat} (h : mkI ms L t u r = some i) : ∃ hi : i < ms.length, mkM ms L t u r = ms[i].m ∧ hit L t u r ms[i] = true := by
  unfold mkI at h
  obtain ⟨hi, h1, h2⟩ := List.findIdx?_eq_some_iff_getElem.1 h
  refine ⟨hi, ?_, h1⟩
  have : ms.find? (hit L t u r) = some ms[i] := by
    rw [List.find?_eq_some_iff_getElem]
    exact ⟨h1, i, hi, rfl, fun j hj => by simpa using h2 j hj⟩
  unfold mkM
  rw [this]
theorem mkM_none {ms : List Mk} {L t u r : Int} (h : mkI ms L t u r = none) : mkM ms L t u r = 0 := by
  unfold mkI at h
  rw [List.findIdx?_eq_none_iff] at h
  have : ms.find? (hit L t u r) = none := by
    rw [List.find?_eq_none]
    intro x hx
    simpa using h x hx
  unfold mkM
  rw [this]

set_option maxRecDepth 100000 in
set_option maxHeartbeats 4000000 in
theorem verdict_ref (yb : Nat) (s : Rf) (L : Nat) (t u r cost : Int) (w : World) (h : RefAt w yb s) (hL : L < 3) (hT : 0 ≤ s.T ∧ s.T ≤ 9223372036854775807) (hmk : ∀ m ∈ s.ms, 0 ≤ m.m ∧ m.m ≤ 13835058055282163711)
    {c p b : Int} (hq : quoOf s.c s.os L t u r = (c, p, b)) (hqk : QOk c p b) (hcost : 1 ≤ cost ∧ cost ≤ 1000) :
    Calls Tryz.prog 85 #[.pointer (some ⟨yb, 0, none⟩), .int .i64 L, .agg #[.int .u16 t, .int .u16 u, .int .u16 r], .int .i64 cost] w fun e w' => e = .returned (.tuple #[.int .u64 (ask (ivl c p) b (mkM s.ms L t u r) s.T cost).2, .int .u64 (vdUp (ask (ivl c p) b (mkM s.ms L t u r) s.T cost))]) ∧ Chg [] w w' := by
  obtain ⟨hc1, hc2⟩ := hcost
  obtain ⟨hT1, hT2⟩ := hT
  obtain ⟨k1, k2, k3, k4, hb0, hb1, hv1⟩ := id hqk
  have HIv : Hid (∀ W, Calls Tryz.prog 127 #[.agg #[.int .i64 c, .int .i64 p, .int .i64 b]] W fun e w' => e = .returned (.tuple #[.int .i64 (ivl c p), .bool true]) ∧ Chg [] W w') := fun W => by
    refine (interval_any c p b W ⟨by omega, by omega⟩ ⟨by omega, by omega⟩ ⟨by omega, by omega⟩).mono ?_
    rintro e w' ⟨⟨t, rfl, ht⟩, hc⟩
    exact ⟨by rw [@decide_eq_true _ (dQ c p b) hqk, ht hqk], hc⟩
  have HQu : Hid (∀ W, RefAt W yb s → Calls Tryz.prog 130 #[.pointer (some ⟨yb, 0, none⟩), .int .i64 L, .agg #[.int .u16 t, .int .u16 u, .int .u16 r]] W fun e w' => e = .returned (.agg #[.int .i64 c, .int .i64 p, .int .i64 b]) ∧ Chg [] W w') := fun W hW => by
    have := quota_ref yb s L t u r W hW hL
    rw [hq] at this
    exact this
  have HMr : Hid (∀ W, RefAt W yb s → Calls Tryz.prog 86 #[.pointer (some ⟨yb, 0, none⟩), .int .i64 L, .agg #[.int .u16 t, .int .u16 u, .int .u16 r]] W fun e w' => e = .returned (.int .i64 (mkR s.ms L t u r)) ∧ Chg [] W w') := fun W hW => mark_ref yb s L t u r W hW (by omega)
  clear hqk hq k1 k2 k3 k4
  generalize hv : ivl c p = v at *
  clear hv
  have hyl := lt_of_block h.blk
  obtain ⟨la, lb, lof, cap, hv, hla, hlen, hlt, hcell⟩ := h.mks.laid
  have y16 : w.cell? ⟨yb, 16, none⟩ = some s.mv := blk_cell (i := 16) h.blk rfl
  rw [hv] at y16
  have y15 : w.cell? ⟨yb, 15, none⟩ = some (.int .u64 s.T) := blk_cell (i := 15) h.blk rfl
  have HY : Hid (∀ W, Chg [] w W → W.cell? ⟨yb, 16, none⟩ = some (.slice la s.ms.length cap) ∧ W.cell? ⟨yb, 15, none⟩ = some (.int .u64 s.T)) := fun W hW => ⟨hW.cell y16 (by simp), hW.cell y15 (by simp)⟩
  have HR : Hid (RefAt w yb s) := h
  clear y15 y16 h
  have hbx := heap_alloc_new w (.cells [.int .u16 t, .int .u16 u, .int .u16 r].toArray 60)
  have hcw : Chg [] w (w.alloc (.cells [.int .u16 t, .int .u16 u, .int .u16 r].toArray 60)) := (Chg.refl _ _).alloc _
  obtain ⟨wb, hwb⟩ : ∃ wb, wb = w.alloc (.cells [.int .u16 t, .int .u16 u, .int .u16 r].toArray 60) := ⟨_, rfl⟩
  rw [← hwb] at hbx hcw
  have hkw : w.alloc (.cells #[.int .u16 t, .int .u16 u, .int .u16 r] 60) = wb := hwb.symm
  clear hwb
  have g0 := blk_cell (i := 0) hbx rfl
  have g1 := blk_cell (i := 1) hbx rfl
  have g2 := blk_cell (i := 2) hbx rfl
  go_enter Tryz.func85, Tryz.ntmps85
  go_wp2_with fail
  refine (HQu.out _ (HR.out.chg hcw (by simp))).mono ?_
  rintro e w1 ⟨rfl, q1⟩
  have b1 := blk_alloc (q1.blk hbx (by simp)) (.cells [.int .i64 c, .int .i64 p, .int .i64 b].toArray 29)
  have k1 := heap_alloc_new w1 (.cells [.int .i64 c, .int .i64 p, .int .i64 b].toArray 29)
  have c1 : Chg [] w (w1.alloc (.cells [.int .i64 c, .int .i64 p, .int .i64 b].toArray 29)) := (hcw.trans q1 (by simp)).alloc _
  clear hbx hcw q1 g0 g1 g2
  go_wp2_with fail
  refine (HIv.out _).mono ?_
  rintro e w2 ⟨rfl, q2⟩
  have b2 := q2.blk b1 (by simp)
  have k2 := q2.blk k1 (by simp)
  have c2 := c1.trans q2 (by simp)
  have g0 := blk_cell (i := 0) b2 rfl
  have g1 := blk_cell (i := 1) b2 rfl
  have g2 := blk_cell (i := 2) b2 rfl
  obtain ⟨_, e15⟩ := HY.out _ c2
  have HC2 : Hid (Chg [] w w2) := c2
  clear b1 k1 c1 q2 c2
  go_wp2_with fail
  refine (HMr.out _ (HR.out.chg HC2.out (by simp))).mono ?_
  rintro e w3 ⟨rfl, q3⟩
  have k3 := q3.blk k2 (by simp)
  have HC3 : Hid (Chg [] w w3) := HC2.out.trans q3 (by simp)
  obtain ⟨z16, z15⟩ := HY.out _ HC3.out
  have u0 := blk_cell (i := 0) k3 rfl
  have u1 := blk_cell (i := 1) k3 rfl
  have u2 := blk_cell (i := 2) k3 rfl
  clear b2 k2 q3 k3 g0 g1 g2 e15 HIv HQu HMr
  cases hI : mkI s.ms L t u r with
  | none =>
    have HMK : Hid (mkM s.ms L t u r = 0) := mkM_none hI
    have hmr : mkR s.ms L t u r = -1 := by unfold mkR; rw [hI]
    rw [hmr]
    clear hmr hI hcell hla hlt hmk
    have HW1 : Hid (Chg [] w w3) := HC3.out
    by_cases hnv : b / v < cost - 1
    · have HF : Hid (ask v b (mkM s.ms L t u r) s.T cost = (0, never)) := by show _ = _; unfold ask; rw [if_pos hnv]
      go_wp2
      go_ret2
      exact ⟨by rw [HF.out]; rfl, HW1.out⟩
    · have hmb := mul_bd hv1 hb0 hc1 hnv
      have hma : max (mkM s.ms L t u r) s.T = s.T := by rw [HMK.out]; omega
      have wc1 : wrap64 (cost * v) = cost * v := by unfold wrap64; omega
      have wc2 : IntKind.u64.wrap (cost * v) = cost * v := by rw [IntKind.wrap_u64]; omega
      have wc3 : IntKind.u64.wrap (s.T + cost * v) = s.T + cost * v := by rw [IntKind.wrap_u64]; omega
      have wc5 : IntKind.u64.wrap (b + v) = b + v := by rw [IntKind.wrap_u64]; omega
      have wc6 : IntKind.u64.wrap (s.T + (b + v)) = s.T + (b + v) := by rw [IntKind.wrap_u64]; omega
      have HMA : Hid (max (mkM s.ms L t u r) s.T = s.T) := hma
      by_cases hup : s.T + cost * v ≤ s.T + (b + v)
      · have HF : Hid (ask v b (mkM s.ms L t u r) s.T cost = (s.T + cost * v, 0)) := by show _ = _; unfold ask; rw [if_neg hnv, HMA.out, if_pos (by omega)]
        clear hma HMA
        go_wp2_with fail
        go_region
        go_wp2
        go_ret2
        exact ⟨by rw [HF.out]; rfl, HW1.out.drew⟩
      · exfalso
        have := hmb.1
        omega
  | some i =>
    obtain ⟨hi, hM, hh⟩ := mkM_some hI
    have hmr : mkR s.ms L t u r = (i : Int) := by unfold mkR; rw [hI]
    rw [hmr]
    obtain ⟨rfl, _⟩ := hla (by omega)
    have hlb := hlt (by omega)
    obtain ⟨x, hx⟩ : ∃ x, x = s.ms[i] := ⟨_, rfl⟩
    have hxm := hmk x (hx ▸ List.getElem_mem hi)
    have d4 : w3.cell? ⟨lb, lof + i * 5 + 4, none⟩ = some (.int .u64 x.m) := HC3.out.cell (by
      rw [Nat.add_assoc]
      refine hcell _ _ ?_
      rw [mk_at _ i hi 4 (by decide), ← hx]
      rfl) (by simp)
    have HMK : Hid (mkM s.ms L t u r = x.m) := by rw [hx]; exact hM
    have hi2 : (i : Int) < (s.ms.length : Int) := by omega
    have hi0 : (0 : Int) ≤ (i : Int) := by omega
    clear hmr hI hcell hla hlt hmk hM hx hh hi
    by_cases hbig : s.T < x.m
    · have HW1 : Hid (Chg [] w w3) := HC3.out
      by_cases hnv : b / v < cost - 1
      · have HF : Hid (ask v b (mkM s.ms L t u r) s.T cost = (0, never)) := by show _ = _; unfold ask; rw [if_pos hnv]
        go_wp2
        go_ret2
        exact ⟨by rw [HF.out]; rfl, HW1.out⟩
      · have hmb := mul_bd hv1 hb0 hc1 hnv
        have hma : max (mkM s.ms L t u r) s.T = x.m := by rw [HMK.out]; omega
        have wc1 : wrap64 (cost * v) = cost * v := by unfold wrap64; omega
        have wc2 : IntKind.u64.wrap (cost * v) = cost * v := by rw [IntKind.wrap_u64]; omega
        have wc3 : IntKind.u64.wrap (x.m + cost * v) = x.m + cost * v := by rw [IntKind.wrap_u64]; omega
        have wc5 : IntKind.u64.wrap (b + v) = b + v := by rw [IntKind.wrap_u64]; omega
        have wc6 : IntKind.u64.wrap (s.T + (b + v)) = s.T + (b + v) := by rw [IntKind.wrap_u64]; omega
        have HMA : Hid (max (mkM s.ms L t u r) s.T = x.m) := hma
        by_cases hup : x.m + cost * v ≤ s.T + (b + v)
        · have HF : Hid (ask v b (mkM s.ms L t u r) s.T cost = (x.m + cost * v, 0)) := by show _ = _; unfold ask; rw [if_neg hnv, HMA.out, if_pos (by omega)]
          clear hma HMA
          go_wp2_with fail
          go_region
          go_wp2
          go_ret2
          exact ⟨by rw [HF.out]; rfl, HW1.out.drew⟩
        · have HF : Hid (ask v b (mkM s.ms L t u r) s.T cost = (x.m + cost * v, x.m + cost * v - (s.T + (b + v)))) := by show _ = _; unfold ask; rw [if_neg hnv, HMA.out, if_neg (by omega)]; congr 1; omega
          have wc7 : IntKind.u64.wrap (x.m + cost * v - (s.T + (b + v))) = x.m + cost * v - (s.T + (b + v)) := by rw [IntKind.wrap_u64]; omega
          have HNZ : Hid (x.m + cost * v - (s.T + (b + v)) ≠ 0) := by show _ ≠ _; omega
          clear hma HMA
          go_wp2_with fail
          go_region
          go_wp2
          go_ret2
          exact ⟨by rw [HF.out]; simp only [vdUp, if_neg HNZ.out]; rfl, HW1.out.drew⟩
    · have HW1 : Hid (Chg [] w w3) := HC3.out
      by_cases hnv : b / v < cost - 1
      · have HF : Hid (ask v b (mkM s.ms L t u r) s.T cost = (0, never)) := by show _ = _; unfold ask; rw [if_pos hnv]
        go_wp2
        go_ret2
        exact ⟨by rw [HF.out]; rfl, HW1.out⟩
      · have hmb := mul_bd hv1 hb0 hc1 hnv
        have hma : max (mkM s.ms L t u r) s.T = s.T := by rw [HMK.out]; omega
        have wc1 : wrap64 (cost * v) = cost * v := by unfold wrap64; omega
        have wc2 : IntKind.u64.wrap (cost * v) = cost * v := by rw [IntKind.wrap_u64]; omega
        have wc3 : IntKind.u64.wrap (s.T + cost * v) = s.T + cost * v := by rw [IntKind.wrap_u64]; omega
        have wc5 : IntKind.u64.wrap (b + v) = b + v := by rw [IntKind.wrap_u64]; omega
        have wc6 : IntKind.u64.wrap (s.T + (b + v)) = s.T + (b + v) := by rw [IntKind.wrap_u64]; omega
        have HMA : Hid (max (mkM s.ms L t u r) s.T = s.T) := hma
        by_cases hup : s.T + cost * v ≤ s.T + (b + v)
        · have HF : Hid (ask v b (mkM s.ms L t u r) s.T cost = (s.T + cost * v, 0)) := by show _ = _; unfold ask; rw [if_neg hnv, HMA.out, if_pos (by omega)]
          clear hma HMA
          go_wp2_with fail
          go_region
          go_wp2
          go_ret2
          exact ⟨by rw [HF.out]; rfl, HW1.out.drew⟩
        · exfalso
          have := hmb.1
          omega
end Go.Proofs.YtbdnhllhdjepcaaGreat
