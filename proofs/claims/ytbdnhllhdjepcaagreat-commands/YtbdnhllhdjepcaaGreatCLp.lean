import Derived.Test.YtbdnhllhdjepcaaGreatCLg
namespace Go.Proofs.YtbdnhllhdjepcaaGreat
set_option linter.unusedVariables false
set_option linter.unusedSimpArgs false
open Go.RowKit Go.Maps

/-! ### what was handed in stands as it did -/
def set7 (cs : List Value) (j : Nat) (o : Ov) : List Value := ((((((cs.set j (.int .i64 o.L)).set (j + 1) (.int .u16 o.t)).set (j + 2) (.int .u16 o.u)).set (j + 3) (.int .u16 o.r)).set (j + 4) (.int .i64 o.c)).set (j + 5) (.int .i64 o.p)).set (j + 6) (.int .i64 o.b)
theorem set7_left (a b : List Value) (o : Ov) (h : a.length = 7) : set7 (a ++ b) 0 o = ovc o ++ b := by
  match a, h with
  | [x0, x1, x2, x3, x4, x5, x6], _ => rfl
theorem set7_right (a b : List Value) (j : Nat) (o : Ov) : set7 (a ++ b) (a.length + j) o = a ++ set7 b j o := by
  unfold set7
  simp only [Nat.add_assoc]
  repeat rw [List.set_append_right _ _ (by omega)]
  simp only [Nat.add_sub_cancel_left]
theorem ov_set7 (o : Ov) : ∀ (l : List Ov) (k : Nat), k < l.length → set7 (ovcells l) (k * 7) o = ovcells (l.set k o)
  | [], k, h => by simp at h
  | a :: l, 0, _ => by
    show set7 (ovc a ++ ovcells l) (0 * 7) o = ovc o ++ ovcells l
    rw [Nat.zero_mul]
    exact set7_left _ _ _ rfl
  | a :: l, k + 1, h => by
    show set7 (ovc a ++ ovcells l) ((k + 1) * 7) o = ovc a ++ ovcells (l.set k o)
    rw [show (k + 1) * 7 = (ovc a).length + k * 7 from by rw [ovc_len, Nat.add_mul]; omega, set7_right, ov_set7 o l k (by simpa using h)]
/-- an override of a row is written over -/
theorem Rw.over {w : World} {lb lof n cap : Nat} {l : List Ov} (h : Rw w 158 7 (.slice (some ⟨lb, lof, none⟩) n cap) n (ovcells l)) {k : Nat} (hk : k < l.length) (o : Ov) :
    Rw (((((((w.setCell ⟨lb, lof + k * 7, none⟩ (.int .i64 o.L)).setCell ⟨lb, lof + k * 7 + 1, none⟩ (.int .u16 o.t)).setCell ⟨lb, lof + k * 7 + 2, none⟩ (.int .u16 o.u)).setCell ⟨lb, lof + k * 7 + 3, none⟩ (.int .u16 o.r)).setCell ⟨lb, lof + k * 7 + 4, none⟩ (.int .i64 o.c)).setCell ⟨lb, lof + k * 7 + 5, none⟩ (.int .i64 o.p)).setCell ⟨lb, lof + k * 7 + 6, none⟩ (.int .i64 o.b)) 158 7 (.slice (some ⟨lb, lof, none⟩) n cap) n (ovcells (l.set k o)) := by
  have hl : (ovcells l).length = l.length * 7 := ovcells_len l
  have h0 := h.set (j := k * 7) (u := .int .i64 o.L) (by omega) rfl
  have h1 := h0.set (j := k * 7 + 1) (u := .int .u16 o.t) (by simp; omega) rfl
  have h2 := h1.set (j := k * 7 + 2) (u := .int .u16 o.u) (by simp; omega) rfl
  have h3 := h2.set (j := k * 7 + 3) (u := .int .u16 o.r) (by simp; omega) rfl
  have h4 := h3.set (j := k * 7 + 4) (u := .int .i64 o.c) (by simp; omega) rfl
  have h5 := h4.set (j := k * 7 + 5) (u := .int .i64 o.p) (by simp; omega) rfl
  have h6 := h5.set (j := k * 7 + 6) (u := .int .i64 o.b) (by simp; omega) rfl
  have e := ov_set7 o l k hk
  unfold set7 at e
  rw [e] at h6
  simp only [← Nat.add_assoc] at h6
  exact h6
end Go.Proofs.YtbdnhllhdjepcaaGreat
namespace Go.Proofs.YtbdnhllhdjepcaaGreat
set_option linter.unusedVariables false
set_option linter.unusedSimpArgs false
open Go.RowKit Go.Maps

def rowTo (os : List Ov) : Nat → List Ov
  | 0 => os ++ spares
  | k + 1 => (rowTo os k).set k spareO
theorem rowTo_len (os : List Ov) : ∀ k, (rowTo os k).length = os.length + 3
  | 0 => by simp [rowTo, spares]
  | k + 1 => by unfold rowTo; rw [List.length_set, rowTo_len os k]
theorem rowTo_at (os : List Ov) (j : Nat) : ∀ k, k ≤ j → (rowTo os k)[j]? = (os ++ spares)[j]?
  | 0, _ => rfl
  | k + 1, h => by unfold rowTo; rw [List.getElem?_set_ne (by omega), rowTo_at os j k (by omega)]
set_option maxRecDepth 100000 in
set_option maxHeartbeats 4000000 in
theorem still_any (c : Cf) (lb lof capg : Nat) (la : Option Addr) (lc lco cap : Nat) (os : List Ov) (w : World) (hr : Rw w 158 7 (.slice (some ⟨lb, lof, none⟩) (os.length + 3) capg) (os.length + 3) (ovcells (os ++ spares))) (h : OvsAt w la lc lco os) (hne : 0 < os.length → lc ≠ lb) (hlen : os.length ≤ 3518437208780) :
    Calls Tryz.prog 33 #[.agg #[.int .i64 c.c0, .int .i64 c.p0, .int .i64 c.b0, .int .i64 c.c1, .int .i64 c.p1, .int .i64 c.b1, .int .i64 c.c2, .int .i64 c.p2, .int .i64 c.b2, .slice (some ⟨lb, lof, none⟩) os.length capg, .int .i64 c.sh, .int .i64 c.sl, .int .i64 c.ev, .int .i64 c.de, .int .i64 c.qu], .agg #[.int .i64 c.c0, .int .i64 c.p0, .int .i64 c.b0, .int .i64 c.c1, .int .i64 c.p1, .int .i64 c.b1, .int .i64 c.c2, .int .i64 c.p2, .int .i64 c.b2, .slice la os.length cap, .int .i64 c.sh, .int .i64 c.sl, .int .i64 c.ev, .int .i64 c.de, .int .i64 c.qu]] w fun e w' => e = .returned (.bool true) ∧ Chg [lb] w w' := by
  have hlb : lb < w.heap.size := hr.lt rfl
  have hcap : os.length + 3 ≤ capg := by
    rcases hr.2.2 with ⟨hv, _⟩ | ⟨b', cap', P, R, hv, hg, hle, _⟩
    · cases hv
    · injection hv with _ _ e3
      omega
  have HOV : Hid (OvsAt w la lc lco os) := h
  have HNE : Hid (0 < os.length → lc ≠ lb) := hne
  have HRW0 : Hid (Rw w 158 7 (.slice (some ⟨lb, lof, none⟩) (os.length + 3) capg) (os.length + 3) (ovcells (os ++ spares))) := hr
  obtain ⟨wb, hwb⟩ : ∃ wb, wb = (w.alloc (.cells [.int .i64 c.c0, .int .i64 c.p0, .int .i64 c.b0, .int .i64 c.c1, .int .i64 c.p1, .int .i64 c.b1, .int .i64 c.c2, .int .i64 c.p2, .int .i64 c.b2, .slice (some ⟨lb, lof, none⟩) os.length capg, .int .i64 c.sh, .int .i64 c.sl, .int .i64 c.ev, .int .i64 c.de, .int .i64 c.qu].toArray 33)).alloc (.cells [.int .i64 c.c0, .int .i64 c.p0, .int .i64 c.b0, .int .i64 c.c1, .int .i64 c.p1, .int .i64 c.b1, .int .i64 c.c2, .int .i64 c.p2, .int .i64 c.b2, .slice la os.length cap, .int .i64 c.sh, .int .i64 c.sl, .int .i64 c.ev, .int .i64 c.de, .int .i64 c.qu].toArray 33) := ⟨_, rfl⟩
  have HBG : Hid (wb.heap[w.heap.size]? = some (.cells (cfc c (.slice (some ⟨lb, lof, none⟩) os.length capg)).toArray 33 (0, 0))) := hwb ▸ heap_alloc2_old _ _ _
  have HBC : Hid (wb.heap[w.heap.size + 1]? = some (.cells (cfc c (.slice la os.length cap)).toArray 33 (0, 0))) := hwb ▸ heap_alloc2_new _ _ _
  have HCW : Hid (Chg [] w wb) := hwb ▸ ((Chg.refl _ _).alloc _).alloc _
  have hkw : (w.alloc (.cells #[.int .i64 c.c0, .int .i64 c.p0, .int .i64 c.b0, .int .i64 c.c1, .int .i64 c.p1, .int .i64 c.b1, .int .i64 c.c2, .int .i64 c.p2, .int .i64 c.b2, .slice (some ⟨lb, lof, none⟩) os.length capg, .int .i64 c.sh, .int .i64 c.sl, .int .i64 c.ev, .int .i64 c.de, .int .i64 c.qu] 33)).alloc (.cells #[.int .i64 c.c0, .int .i64 c.p0, .int .i64 c.b0, .int .i64 c.c1, .int .i64 c.p1, .int .i64 c.b1, .int .i64 c.c2, .int .i64 c.p2, .int .i64 c.b2, .slice la os.length cap, .int .i64 c.sh, .int .i64 c.sl, .int .i64 c.ev, .int .i64 c.de, .int .i64 c.qu] 33) = wb := hwb.symm
  clear hwb h hr hne
  have g9 : wb.cell? ⟨w.heap.size, 9, none⟩ = some (.slice (some ⟨lb, lof, none⟩) os.length capg) := blk_cell (i := 9) HBG.out rfl
  have c9 : wb.cell? ⟨w.heap.size + 1, 9, none⟩ = some (.slice la os.length cap) := blk_cell (i := 9) HBC.out rfl
  have hi1 : ((os.length : Int) + 3) ≤ (capg : Int) := by omega
  have hi0 : (0 : Int) ≤ (os.length : Int) + 3 := by omega
  have hwi : IntKind.i64.wrap ((os.length : Int) + 3) = (os.length : Int) + 3 := by rw [IntKind.wrap_i64]; omega
  go_enter Tryz.func33, Tryz.ntmps33
  go_wp2_with fail
  refine (spare_any _).mono ?_
  rintro e w2 ⟨rfl, q2⟩
  have hbs := heap_alloc_new w2 (.cells [.int .i64 9, .int .u16 9, .int .u16 0, .int .u16 0, .int .i64 0, .int .i64 0, .int .i64 0].toArray 158)
  have hcq : Chg [] wb (w2.alloc (.cells [.int .i64 9, .int .u16 9, .int .u16 0, .int .u16 0, .int .i64 0, .int .i64 0, .int .i64 0].toArray 158)) := q2.alloc _
  obtain ⟨wq, hwq⟩ : ∃ wq, wq = w2.alloc (.cells [.int .i64 9, .int .u16 9, .int .u16 0, .int .u16 0, .int .i64 0, .int .i64 0, .int .i64 0].toArray 158) := ⟨_, rfl⟩
  rw [← hwq] at hbs hcq
  have HWQ : Hid (w2.alloc (.cells #[.int .i64 9, .int .u16 9, .int .u16 0, .int .u16 0, .int .i64 0, .int .i64 0, .int .i64 0] 158) = wq) := hwq.symm
  have HBS : Hid (wq.heap[w2.heap.size]? = some (.cells [.int .i64 9, .int .u16 9, .int .u16 0, .int .u16 0, .int .i64 0, .int .i64 0, .int .i64 0].toArray 158 (0, 0))) := hbs
  have HCQ : Hid (Chg [] wb wq) := hcq
  have hs2 := q2.size
  have hsb := HCW.out.size
  have hbc := lt_of_block HBC.out
  clear hwq hbs hcq q2 g9 c9
  go_wp2_with fail
  go_loopw [8] (fun i wr => ∃ k : Nat, i = .int .i64 k ∧ k ≤ os.length + 3 ∧ Chg [lb] wq wr ∧ Rw wr 158 7 (.slice (some ⟨lb, lof, none⟩) (os.length + 3) capg) (os.length + 3) (ovcells (rowTo os k))) (fun i _ => os.length + 3 - (intOf i).toNat)
  case atStart =>
    rw [show w2.alloc (.cells #[.int .i64 9, .int .u16 9, .int .u16 0, .int .u16 0, .int .i64 0, .int .i64 0, .int .i64 0] 158) = wq from HWQ.out]
    exact ⟨0, rfl, by omega, Chg.refl _ _, HRW0.out.chg (HCW.out.trans HCQ.out (by simp)) (by simp)⟩
  case round =>
    obtain ⟨k, rfl, hk, hq, hrw⟩ := hrel
    have HQ : Hid (Chg [lb] wq wr) := hq
    have HRW : Hid (Rw wr 158 7 (.slice (some ⟨lb, lof, none⟩) (os.length + 3) capg) (os.length + 3) (ovcells (rowTo os k))) := hrw
    have HSB : Hid (wr.heap[w2.heap.size]? = some (.cells [.int .i64 9, .int .u16 9, .int .u16 0, .int .u16 0, .int .i64 0, .int .i64 0, .int .i64 0].toArray 158 (0, 0))) := hq.blk HBS.out (by simp; omega)
    have HCC : Hid (wr.heap[w.heap.size + 1]? = some (.cells (cfc c (.slice la os.length cap)).toArray 33 (0, 0))) := hq.blk (HCQ.out.blk HBC.out (by simp)) (by simp; omega)
    have HCA : Hid (Chg [lb] w wr) := ((HCW.out.trans HCQ.out (by simp)).mono (by simp)).trans hq (fun j hj => Or.inl hj)
    have hlbr : lb < wr.heap.size := hrw.lt rfl
    clear hq hrw
    by_cases hlt : k < os.length + 3
    · have hk1 : (k : Int) < (os.length : Int) + 3 := by omega
      have hk2 : (k : Int) < ((os.length + 3 : Nat) : Int) := by omega
      have t0 := blk_cell (i := 0) HSB.out rfl
      have t1 := blk_cell (i := 1) HSB.out rfl
      have t2 := blk_cell (i := 2) HSB.out rfl
      have t3 := blk_cell (i := 3) HSB.out rfl
      have t4 := blk_cell (i := 4) HSB.out rfl
      have t5 := blk_cell (i := 5) HSB.out rfl
      have t6 := blk_cell (i := 6) HSB.out rfl
      have c9 : wr.cell? ⟨w.heap.size + 1, 9, none⟩ = some (.slice la os.length cap) := blk_cell (i := 9) HCC.out rfl
      have hsbl := lt_of_block HSB.out
      have hccl := lt_of_block HCC.out
      have hrl : ∀ x : Ov, (os ++ spares)[k]? = some x → ∀ i, i < 7 → ∀ v, (ovc x)[i]? = some v → wr.cell? ⟨lb, lof + k * 7 + i, none⟩ = some v := fun x hx i hi v hv => by
        rcases HRW.out.2.2 with ⟨hv', _⟩ | ⟨b', cap', P, R, hv', hg, _⟩
        · cases hv'
        · injection hv' with x1 x2 x3
          injection x1 with x1
          injection x1 with x1 x4
          subst x1 x4
          rw [Nat.add_assoc]
          refine Rw.cell (n := 0) (sz := 0) hg ?_
          have hkl : k < (rowTo os k).length := by rw [rowTo_len]; omega
          rw [ov_at _ k hkl i hi]
          have := rowTo_at os k k (Nat.le_refl _)
          rw [List.getElem?_eq_getElem hkl, hx] at this
          cases this
          exact hv
      by_cases hkn : k < os.length
      · have hkn1 : (k : Int) < (os.length : Int) := by omega
        have hla := HOV.out.at_ (by omega)
        subst hla
        obtain ⟨x, hx⟩ : ∃ x, x = os[k] := ⟨_, rfl⟩
        have hat := hrl x (by rw [List.getElem?_append_left hkn, List.getElem?_eq_getElem hkn, hx])
        have hlc := Nat.lt_of_lt_of_le (HOV.out.lt (by omega)) HCA.out.size
        obtain ⟨d0, d1, d2, d3, d4, d5, d6⟩ := (hx ▸ HOV.out.each k hkn : OvAt w lc (lco + k * 7) x).chg HCA.out (by simpa using HNE.out (by omega))
        clear hrl hx
        have hbx := heap_alloc_new wr (.cells [.int .i64 x.L, .int .u16 x.t, .int .u16 x.u, .int .u16 x.r, .int .i64 x.c, .int .i64 x.p, .int .i64 x.b].toArray 158)
        have hcx : Chg [] wr (wr.alloc (.cells [.int .i64 x.L, .int .u16 x.t, .int .u16 x.u, .int .u16 x.r, .int .i64 x.c, .int .i64 x.p, .int .i64 x.b].toArray 158)) := (Chg.refl _ _).alloc _
        obtain ⟨wx, hwx⟩ : ∃ wx, wx = wr.alloc (.cells [.int .i64 x.L, .int .u16 x.t, .int .u16 x.u, .int .u16 x.r, .int .i64 x.c, .int .i64 x.p, .int .i64 x.b].toArray 158) := ⟨_, rfl⟩
        rw [← hwx] at hbx hcx
        have hkx : wr.alloc (.cells #[.int .i64 x.L, .int .u16 x.t, .int .u16 x.u, .int .u16 x.r, .int .i64 x.c, .int .i64 x.p, .int .i64 x.b] 158) = wx := hwx.symm
        clear hwx
        have HBX : Hid (wx.heap[wr.heap.size]? = some (.cells (ovc x).toArray 158 (0, 0))) := hbx
        have HCX : Hid (Chg [] wr wx) := hcx
        clear hbx hcx
        have HSX : Hid (∀ W, Chg [] wx W → (W.cell? ⟨lb, lof + k * 7, none⟩ = some (.int .i64 x.L) ∧ W.cell? ⟨lb, lof + k * 7 + 1, none⟩ = some (.int .u16 x.t) ∧ W.cell? ⟨lb, lof + k * 7 + 2, none⟩ = some (.int .u16 x.u) ∧ W.cell? ⟨lb, lof + k * 7 + 3, none⟩ = some (.int .u16 x.r) ∧ W.cell? ⟨lb, lof + k * 7 + 4, none⟩ = some (.int .i64 x.c) ∧ W.cell? ⟨lb, lof + k * 7 + 5, none⟩ = some (.int .i64 x.p) ∧ W.cell? ⟨lb, lof + k * 7 + 6, none⟩ = some (.int .i64 x.b) ∧ W.cell? ⟨wr.heap.size, 0, none⟩ = some (.int .i64 x.L) ∧ W.cell? ⟨wr.heap.size, 1, none⟩ = some (.int .u16 x.t) ∧ W.cell? ⟨wr.heap.size, 2, none⟩ = some (.int .u16 x.u) ∧ W.cell? ⟨wr.heap.size, 3, none⟩ = some (.int .u16 x.r) ∧ W.cell? ⟨wr.heap.size, 4, none⟩ = some (.int .i64 x.c) ∧ W.cell? ⟨wr.heap.size, 5, none⟩ = some (.int .i64 x.p) ∧ W.cell? ⟨wr.heap.size, 6, none⟩ = some (.int .i64 x.b))) := fun W hW => by
          have zc : Chg [] wr W := HCX.out.trans hW (by simp)
          have zb := hW.blk HBX.out (by simp)
          exact ⟨zc.cell (hat 0 (by decide) _ rfl) (by simp), zc.cell (hat 1 (by decide) _ rfl) (by simp), zc.cell (hat 2 (by decide) _ rfl) (by simp), zc.cell (hat 3 (by decide) _ rfl) (by simp), zc.cell (hat 4 (by decide) _ rfl) (by simp), zc.cell (hat 5 (by decide) _ rfl) (by simp), zc.cell (hat 6 (by decide) _ rfl) (by simp), blk_cell zb rfl, blk_cell zb rfl, blk_cell zb rfl, blk_cell zb rfl, blk_cell zb rfl, blk_cell zb rfl, blk_cell zb rfl⟩
        obtain ⟨y0, y1, y2, y3, y4, y5, y6, y7, y8, y9, y10, y11, y12, y13⟩ := HSX.out wx (Chg.refl _ _)
        have HSO : Hid (∀ W, Calls Tryz.prog 82 #[.agg #[.int .i64 x.L, .int .u16 x.t, .int .u16 x.u, .int .u16 x.r, .int .i64 x.c, .int .i64 x.p, .int .i64 x.b], .agg #[.int .i64 x.L, .int .u16 x.t, .int .u16 x.u, .int .u16 x.r, .int .i64 x.c, .int .i64 x.p, .int .i64 x.b]] W fun e w' => e = .returned (.bool true) ∧ Chg [] W w') := fun W => sameOver_refl x W
        have v1 : Chg [] wx wx.drew := (Chg.refl _ _).drew
        go_upto_region 10 with fail
        go_region_held3 (fun W => W.cell? ⟨lb, lof + k * 7, none⟩ = some (.int .i64 x.L) ∧ W.cell? ⟨lb, lof + k * 7 + 1, none⟩ = some (.int .u16 x.t) ∧ W.cell? ⟨lb, lof + k * 7 + 2, none⟩ = some (.int .u16 x.u) ∧ W.cell? ⟨lb, lof + k * 7 + 3, none⟩ = some (.int .u16 x.r) ∧ W.cell? ⟨lb, lof + k * 7 + 4, none⟩ = some (.int .i64 x.c) ∧ W.cell? ⟨lb, lof + k * 7 + 5, none⟩ = some (.int .i64 x.p) ∧ W.cell? ⟨lb, lof + k * 7 + 6, none⟩ = some (.int .i64 x.b) ∧ W.cell? ⟨wr.heap.size, 0, none⟩ = some (.int .i64 x.L) ∧ W.cell? ⟨wr.heap.size, 1, none⟩ = some (.int .u16 x.t) ∧ W.cell? ⟨wr.heap.size, 2, none⟩ = some (.int .u16 x.u) ∧ W.cell? ⟨wr.heap.size, 3, none⟩ = some (.int .u16 x.r) ∧ W.cell? ⟨wr.heap.size, 4, none⟩ = some (.int .i64 x.c) ∧ W.cell? ⟨wr.heap.size, 5, none⟩ = some (.int .i64 x.p) ∧ W.cell? ⟨wr.heap.size, 6, none⟩ = some (.int .i64 x.b))
          (first | with_reducible exact HSX.out _ v2 | with_reducible exact HSX.out _ v1 | fail)
          (first | (go_at_call 82; refine (HSO.out _).mono ?_; rintro e w5 ⟨rfl, q5⟩; have v2 : Chg [] wx w5 := v1.trans q5 (by simp)) | fail)
        have HC5 : Hid (Chg [] wr w5) := HCX.out.trans v2 (by simp)
        have zs := HC5.out.blk HSB.out (by simp)
        have s0 := blk_cell (i := 0) zs rfl
        have s1 := blk_cell (i := 1) zs rfl
        have s2 := blk_cell (i := 2) zs rfl
        have s3 := blk_cell (i := 3) zs rfl
        have s4 := blk_cell (i := 4) zs rfl
        have s5 := blk_cell (i := 5) zs rfl
        have s6 := blk_cell (i := 6) zs rfl
        have HR5 : Hid (Rw w5 158 7 (.slice (some ⟨lb, lof, none⟩) (os.length + 3) capg) (os.length + 3) (ovcells (rowTo os k))) := HRW.out.chg HC5.out (by simp)
        have hat5 : ∀ i, i < 7 → ∀ v, (ovc x)[i]? = some v → w5.cell? ⟨lb, lof + k * 7 + i, none⟩ = some v := fun i hi v hv => HC5.out.cell (hat i hi v hv) (by simp)
        have a0 : w5.cell? ⟨lb, lof + k * 7, none⟩ = some (.int .i64 x.L) := hat5 0 (by decide) _ rfl
        have a1 : w5.cell? ⟨lb, lof + k * 7 + 1, none⟩ = some (.int .u16 x.t) := hat5 1 (by decide) _ rfl
        have a2 : w5.cell? ⟨lb, lof + k * 7 + 2, none⟩ = some (.int .u16 x.u) := hat5 2 (by decide) _ rfl
        have a3 : w5.cell? ⟨lb, lof + k * 7 + 3, none⟩ = some (.int .u16 x.r) := hat5 3 (by decide) _ rfl
        have a4 : w5.cell? ⟨lb, lof + k * 7 + 4, none⟩ = some (.int .i64 x.c) := hat5 4 (by decide) _ rfl
        have a5 : w5.cell? ⟨lb, lof + k * 7 + 5, none⟩ = some (.int .i64 x.p) := hat5 5 (by decide) _ rfl
        have a6 : w5.cell? ⟨lb, lof + k * 7 + 6, none⟩ = some (.int .i64 x.b) := hat5 6 (by decide) _ rfl
        have fz : ∀ i, w5.frozen? ⟨lb, i, none⟩ = false := fun i => by
          rcases HR5.out.2.2 with ⟨hv, _⟩ | ⟨b', cap', P, R, hv, hg, _⟩
          · cases hv
          · injection hv with x1
            injection x1 with x1
            injection x1 with x1
            subst x1
            exact blk_free hg
        clear zs hat5
        go_wp2_with fail
        go_roundw
        case rel =>
          have hov := HR5.out.over (k := k) (by rw [rowTo_len]; omega) spareO
          exact ⟨k + 1, by go_num, by omega, by
            have c7 := (HQ.out.trans (HC5.out.mono (by simp)) (fun j hj => Or.inl hj))
            exact ((((((c7.set _ _ (Or.inl (by simp))).set _ _ (Or.inl (by simp))).set _ _ (Or.inl (by simp))).set _ _ (Or.inl (by simp))).set _ _ (Or.inl (by simp))).set _ _ (Or.inl (by simp))).set _ _ (Or.inl (by simp)), hov⟩
        case measure => simp [intOf]; omega
      · have hkn1 : ¬ (k : Int) < (os.length : Int) := by omega
        have hsx : (os ++ spares)[k]? = some spareO := by
          rw [List.getElem?_append_right (by omega)]
          rcases (show k - os.length = 0 ∨ k - os.length = 1 ∨ k - os.length = 2 from by omega) with e | e | e <;> rw [e] <;> rfl
        have hat := hrl spareO hsx
        obtain ⟨wx, hwx⟩ : ∃ wx, wx = wr.alloc (.cells [.int .i64 9, .int .u16 9, .int .u16 0, .int .u16 0, .int .i64 0, .int .i64 0, .int .i64 0].toArray 158) := ⟨_, rfl⟩
        have HBX : Hid (wx.heap[wr.heap.size]? = some (.cells (ovc spareO).toArray 158 (0, 0))) := by rw [hwx]; exact heap_alloc_new wr _
        have HCX : Hid (Chg [] wr wx) := by rw [hwx]; exact (Chg.refl _ _).alloc _
        have HWX : Hid (wr.alloc (.cells #[.int .i64 9, .int .u16 9, .int .u16 0, .int .u16 0, .int .i64 0, .int .i64 0, .int .i64 0] 158) = wx) := hwx.symm
        clear hrl hsx hwx
        have HSX : Hid (∀ W, Chg [] wx W → (W.cell? ⟨lb, lof + k * 7, none⟩ = some (.int .i64 9) ∧ W.cell? ⟨lb, lof + k * 7 + 1, none⟩ = some (.int .u16 9) ∧ W.cell? ⟨lb, lof + k * 7 + 2, none⟩ = some (.int .u16 0) ∧ W.cell? ⟨lb, lof + k * 7 + 3, none⟩ = some (.int .u16 0) ∧ W.cell? ⟨lb, lof + k * 7 + 4, none⟩ = some (.int .i64 0) ∧ W.cell? ⟨lb, lof + k * 7 + 5, none⟩ = some (.int .i64 0) ∧ W.cell? ⟨lb, lof + k * 7 + 6, none⟩ = some (.int .i64 0) ∧ W.cell? ⟨wr.heap.size, 0, none⟩ = some (.int .i64 9) ∧ W.cell? ⟨wr.heap.size, 1, none⟩ = some (.int .u16 9) ∧ W.cell? ⟨wr.heap.size, 2, none⟩ = some (.int .u16 0) ∧ W.cell? ⟨wr.heap.size, 3, none⟩ = some (.int .u16 0) ∧ W.cell? ⟨wr.heap.size, 4, none⟩ = some (.int .i64 0) ∧ W.cell? ⟨wr.heap.size, 5, none⟩ = some (.int .i64 0) ∧ W.cell? ⟨wr.heap.size, 6, none⟩ = some (.int .i64 0))) := fun W hW => by
          have zc : Chg [] wr W := HCX.out.trans hW (by simp)
          have zb := hW.blk HBX.out (by simp)
          exact ⟨zc.cell (hat 0 (by decide) _ rfl) (by simp), zc.cell (hat 1 (by decide) _ rfl) (by simp), zc.cell (hat 2 (by decide) _ rfl) (by simp), zc.cell (hat 3 (by decide) _ rfl) (by simp), zc.cell (hat 4 (by decide) _ rfl) (by simp), zc.cell (hat 5 (by decide) _ rfl) (by simp), zc.cell (hat 6 (by decide) _ rfl) (by simp), blk_cell zb rfl, blk_cell zb rfl, blk_cell zb rfl, blk_cell zb rfl, blk_cell zb rfl, blk_cell zb rfl, blk_cell zb rfl⟩
        obtain ⟨y0, y1, y2, y3, y4, y5, y6, y7, y8, y9, y10, y11, y12, y13⟩ := HSX.out wx (Chg.refl _ _)
        have HSO : Hid (∀ W, Calls Tryz.prog 82 #[.agg #[.int .i64 9, .int .u16 9, .int .u16 0, .int .u16 0, .int .i64 0, .int .i64 0, .int .i64 0], .agg #[.int .i64 9, .int .u16 9, .int .u16 0, .int .u16 0, .int .i64 0, .int .i64 0, .int .i64 0]] W fun e w' => e = .returned (.bool true) ∧ Chg [] W w') := fun W => sameOver_refl spareO W
        have v1 : Chg [] wx wx.drew := (Chg.refl _ _).drew
        go_upto_region 10 with fail
        rw [show wr.alloc (.cells #[.int .i64 9, .int .u16 9, .int .u16 0, .int .u16 0, .int .i64 0, .int .i64 0, .int .i64 0] 158) = wx from HWX.out]
        go_region_held3 (fun W => W.cell? ⟨lb, lof + k * 7, none⟩ = some (.int .i64 9) ∧ W.cell? ⟨lb, lof + k * 7 + 1, none⟩ = some (.int .u16 9) ∧ W.cell? ⟨lb, lof + k * 7 + 2, none⟩ = some (.int .u16 0) ∧ W.cell? ⟨lb, lof + k * 7 + 3, none⟩ = some (.int .u16 0) ∧ W.cell? ⟨lb, lof + k * 7 + 4, none⟩ = some (.int .i64 0) ∧ W.cell? ⟨lb, lof + k * 7 + 5, none⟩ = some (.int .i64 0) ∧ W.cell? ⟨lb, lof + k * 7 + 6, none⟩ = some (.int .i64 0) ∧ W.cell? ⟨wr.heap.size, 0, none⟩ = some (.int .i64 9) ∧ W.cell? ⟨wr.heap.size, 1, none⟩ = some (.int .u16 9) ∧ W.cell? ⟨wr.heap.size, 2, none⟩ = some (.int .u16 0) ∧ W.cell? ⟨wr.heap.size, 3, none⟩ = some (.int .u16 0) ∧ W.cell? ⟨wr.heap.size, 4, none⟩ = some (.int .i64 0) ∧ W.cell? ⟨wr.heap.size, 5, none⟩ = some (.int .i64 0) ∧ W.cell? ⟨wr.heap.size, 6, none⟩ = some (.int .i64 0))
          (first | with_reducible exact HSX.out _ v2 | with_reducible exact HSX.out _ v1 | fail)
          (first | (go_at_call 82; refine (HSO.out _).mono ?_; rintro e w5 ⟨rfl, q5⟩; have v2 : Chg [] wx w5 := v1.trans q5 (by simp)) | fail)
        have HC5 : Hid (Chg [] wr w5) := HCX.out.trans v2 (by simp)
        have zs := HC5.out.blk HSB.out (by simp)
        have s0 := blk_cell (i := 0) zs rfl
        have s1 := blk_cell (i := 1) zs rfl
        have s2 := blk_cell (i := 2) zs rfl
        have s3 := blk_cell (i := 3) zs rfl
        have s4 := blk_cell (i := 4) zs rfl
        have s5 := blk_cell (i := 5) zs rfl
        have s6 := blk_cell (i := 6) zs rfl
        have HR5 : Hid (Rw w5 158 7 (.slice (some ⟨lb, lof, none⟩) (os.length + 3) capg) (os.length + 3) (ovcells (rowTo os k))) := HRW.out.chg HC5.out (by simp)
        have hat5 : ∀ i, i < 7 → ∀ v, (ovc spareO)[i]? = some v → w5.cell? ⟨lb, lof + k * 7 + i, none⟩ = some v := fun i hi v hv => HC5.out.cell (hat i hi v hv) (by simp)
        have a0 : w5.cell? ⟨lb, lof + k * 7, none⟩ = some (.int .i64 9) := hat5 0 (by decide) _ rfl
        have a1 : w5.cell? ⟨lb, lof + k * 7 + 1, none⟩ = some (.int .u16 9) := hat5 1 (by decide) _ rfl
        have a2 : w5.cell? ⟨lb, lof + k * 7 + 2, none⟩ = some (.int .u16 0) := hat5 2 (by decide) _ rfl
        have a3 : w5.cell? ⟨lb, lof + k * 7 + 3, none⟩ = some (.int .u16 0) := hat5 3 (by decide) _ rfl
        have a4 : w5.cell? ⟨lb, lof + k * 7 + 4, none⟩ = some (.int .i64 0) := hat5 4 (by decide) _ rfl
        have a5 : w5.cell? ⟨lb, lof + k * 7 + 5, none⟩ = some (.int .i64 0) := hat5 5 (by decide) _ rfl
        have a6 : w5.cell? ⟨lb, lof + k * 7 + 6, none⟩ = some (.int .i64 0) := hat5 6 (by decide) _ rfl
        have fz : ∀ i, w5.frozen? ⟨lb, i, none⟩ = false := fun i => by
          rcases HR5.out.2.2 with ⟨hv, _⟩ | ⟨b', cap', P, R, hv, hg, _⟩
          · cases hv
          · injection hv with x1
            injection x1 with x1
            injection x1 with x1
            subst x1
            exact blk_free hg
        clear zs hat5
        go_wp2_with fail
        go_roundw
        case rel =>
          have hov := HR5.out.over (k := k) (by rw [rowTo_len]; omega) spareO
          exact ⟨k + 1, by go_num, by omega, by
            have c7 := (HQ.out.trans (HC5.out.mono (by simp)) (fun j hj => Or.inl hj))
            exact ((((((c7.set _ _ (Or.inl (by simp))).set _ _ (Or.inl (by simp))).set _ _ (Or.inl (by simp))).set _ _ (Or.inl (by simp))).set _ _ (Or.inl (by simp))).set _ _ (Or.inl (by simp))).set _ _ (Or.inl (by simp)), hov⟩
        case measure => simp [intOf]; omega
    · have hk1 : ¬ (k : Int) < (os.length : Int) + 3 := by omega
      have hk2 : ¬ (k : Int) < ((os.length + 3 : Nat) : Int) := by omega
      go_wp2
      go_ret
      exact ⟨rfl, HCA.out⟩
end Go.Proofs.YtbdnhllhdjepcaaGreat
namespace Go.Proofs.YtbdnhllhdjepcaaGreat
set_option linter.unusedVariables false
set_option linter.unusedSimpArgs false
open Go.RowKit Go.Maps

/-! ### the bounds are kept -/
theorem mkPut_ok {ms : List Mk} {B : Int} (h : ∀ m ∈ ms, m.Ok ∧ m.m ≤ B) {L t u r x : Int} (hL : 0 ≤ L ∧ L ≤ 2) (ht : U16 t) (hu : U16 u) (hr : U16 r) (hx : 0 ≤ x ∧ x ≤ B) (hB : B ≤ 18446744073709551615) : ∀ m ∈ mkPut ms L t u r x, m.Ok ∧ m.m ≤ B := by
  intro m hm
  unfold mkPut at hm
  cases hI : mkI ms L t u r with
  | some a =>
    obtain ⟨ha, _, _⟩ := mkM_some hI
    rw [hI] at hm
    simp only at hm
    rw [modify_set ms a ha x] at hm
    rcases List.mem_or_eq_of_mem_set hm with hm | rfl
    · exact h m hm
    · have := (h _ (List.getElem_mem ha)).1
      exact ⟨⟨this.L, this.t, this.u, this.r, ⟨hx.1, by show x ≤ _; omega⟩⟩, hx.2⟩
  | none =>
    rw [hI] at hm
    rcases List.mem_append.1 hm with hm | hm
    · exact h m hm
    · rw [List.mem_singleton] at hm
      subst hm
      exact ⟨⟨hL, ht, (cut16 hu).1, (cut16 hr).2, ⟨hx.1, by show x ≤ _; omega⟩⟩, hx.2⟩
theorem msTo_ok {ms : List Mk} {B : Int} (h : ∀ m ∈ ms, m.Ok ∧ m.m ≤ B) {t u r : Int} (ht : U16 t) (hu : U16 u) (hr : U16 r) {f : Nat → Int × Int} (hB : B ≤ 18446744073709551615) : ∀ k, k ≤ 3 → (∀ j, j < k → 0 ≤ (f j).1 ∧ (f j).1 ≤ B) → ∀ m ∈ msTo ms t u r f k, m.Ok ∧ m.m ≤ B
  | 0, _, _ => h
  | k + 1, hk, hf => mkPut_ok (msTo_ok h ht hu hr hB k (by omega) (fun j hj => hf j (by omega))) ⟨by omega, by omega⟩ ht hu hr (hf k (by omega)) hB
theorem Rf.Ok.f_bd {s : Rf} (ok : s.Ok) {t u r cost : Int} (hc : 1 ≤ cost) (k : Nat) : 0 ≤ (s.f cost t u r k).1 ∧ 0 ≤ (s.f cost t u r k).2 ∧ ((s.f cost t u r k).2 = 0 → (s.f cost t u r k).1 ≤ s.T + 4611686018427387904) := by
  have hq := quo_ok ok.c k t u r
  have hm : 0 ≤ mkM s.ms k t u r ∧ mkM s.ms k t u r ≤ 13835058055282163711 := by
    cases hI : mkI s.ms k t u r with
    | none => rw [mkM_none hI]; omega
    | some i =>
      obtain ⟨hi, hM, _⟩ := mkM_some hI
      rw [hM]
      have := (ok.ms _ (List.getElem_mem hi)).m
      have := ok.le _ (List.getElem_mem hi)
      have := ok.T.2
      exact ⟨by omega, by omega⟩
  have := ask_bd (iv := ivl (quoOf s.c s.os k t u r).1 (quoOf s.c s.os k t u r).2.1) (bu := (quoOf s.c s.os k t u r).2.2) (mark := mkM s.ms k t u r) (now := s.T) (cost := cost) hq.2.2.2.2.2.2 hq.2.2.2.2.1 (by have := hq.2.2.2.2.2.1; omega) hm.1 hm.2 ok.T.1 ok.T.2 hc
  exact ⟨this.1, this.2.2.1, fun hz => (this.2.2.2.2 hz).1⟩
theorem Rf.Ok.allow {s : Rf} (ok : s.Ok) {t u r cost : Int} (hc : 1 ≤ cost) (ht : U16 t) (hu : U16 u) (hr : U16 r) (v : Value) : (s.marked v (s.ms' cost t u r)).Ok := by
  have hall : ∀ m ∈ s.ms' cost t u r, m.Ok ∧ m.m ≤ s.T + 4611686018427387904 := by
    unfold Rf.ms'
    split
    · rename_i h
      have hz := repTo_ok (f := s.f cost t u r) (fun j => (ok.f_bd hc j).2.1) h.2
      exact msTo_ok (fun m hm => ⟨ok.ms m hm, ok.le m hm⟩) ht hu hr (by have := ok.T.2; omega) 3 (Nat.le_refl _) (fun j hj => ⟨(ok.f_bd hc j).1, (ok.f_bd hc j).2.2 (hz j hj)⟩)
    · exact fun m hm => ⟨ok.ms m hm, ok.le m hm⟩
  exact ⟨ok.c, ok.T, fun m hm => (hall m hm).1, fun m hm => (hall m hm).2, ok.ov⟩
theorem Rf.Ok.adv {s : Rf} (ok : s.Ok) {n : Int} (hn : 0 ≤ n) : (s.adv n).Ok := by
  have h := ok.T
  refine ⟨ok.c, ⟨by show 0 ≤ min _ _; omega, by show min _ _ ≤ _; omega⟩, ok.ms, fun m hm => ?_, ok.ov⟩
  have := ok.le m hm
  show m.m ≤ min _ _ + _
  omega
theorem Rf.Ok.new {c : Cf} {os : List Ov} (h : CfOk c os) (hov : ∀ o ∈ os, o.Ok) (v : Value) : (Rf.new c v os).Ok :=
  ⟨h, ⟨Int.le_refl 0, by show (0 : Int) ≤ _; decide⟩, fun m hm => (by simp [Rf.new] at hm), fun m hm => (by simp [Rf.new] at hm), hov⟩
set_option maxRecDepth 100000 in
set_option maxHeartbeats 2000000 in
theorem first_any (w : World) : Calls Tryz.prog 17 #[] w fun e w' => e = .returned (.agg #[.int .i64 1, .int .i64 5, .int .i64 5, .int .i64 1, .int .i64 5, .int .i64 5, .int .i64 1, .int .i64 5, .int .i64 5, .slice none 0 0, .int .i64 2, .int .i64 4, .int .i64 3, .int .i64 5, .int .i64 3]) ∧ Chg [] w w' := by
  go_enter Tryz.func17, Tryz.ntmps17
  go_wp2
  refine bodyPost_ret (v := .agg #[.int .i64 1, .int .i64 5, .int .i64 5, .int .i64 1, .int .i64 5, .int .i64 5, .int .i64 1, .int .i64 5, .int .i64 5, .slice none 0 0, .int .i64 2, .int .i64 4, .int .i64 3, .int .i64 5, .int .i64 3]) (by simp [results, Tryz.results17, go_sem, World.cell?_alloc_past]) rfl ⟨rfl, ((Chg.refl _ _).alloc _).alloc _⟩
end Go.Proofs.YtbdnhllhdjepcaaGreat
namespace Go.Proofs.YtbdnhllhdjepcaaGreat
set_option linter.unusedVariables false
set_option linter.unusedSimpArgs false
open Go.RowKit Go.Maps

/-! ### meterlaw: which of the meters; what is refused -/
set_option maxHeartbeats 400000 in
theorem pick36 (c n : Int) (w : World) (hc : I6 c) (hn : 1 ≤ n) (hn' : n ≤ 1000000000000000) :
    Calls Tryz.prog 36 #[.int .i64 c, .int .i64 n] w fun e w' => e = .returned (.int .i64 (pk c n)) ∧ w' = w := by
  obtain ⟨hc1, hc2⟩ := hc
  by_cases h : c < 0
  · have HP : Hid (pk c n = -((c + 1).tmod n)) := pk_neg c n h
    go_enter Tryz.func36, Tryz.ntmps36
    go_wp2
    go_ret
    exact ⟨ret_int HP.out.symm, rfl⟩
  · have HP : Hid (pk c n = c % n) := pk_pos c n h
    go_enter Tryz.func36, Tryz.ntmps36
    go_wp2
    go_ret
    exact ⟨ret_int HP.out.symm, rfl⟩
set_option maxRecDepth 100000 in
set_option maxHeartbeats 2000000 in
theorem Allow_bad (mb : Nat) (t u r cost : Int) (w : World) (hbad : cost < 1 ∨ 1000 < cost) :
    Calls Tryz.prog 21 #[.pointer (some ⟨mb, 0, none⟩), .agg #[.int .u16 t, .int .u16 u, .int .u16 r], .int .i64 cost] w fun e w' => e = .returned (.tuple #[.agg #[.int .i64 0, .int .i64 0, .int .u64 0], .int .i64 1]) ∧ Chg [] w w' := by
  obtain ⟨wb, hwb⟩ : ∃ wb, wb = (w.alloc (.cells [.int .u16 t, .int .u16 u, .int .u16 r].toArray 60)).alloc (.cells [.int .i64 0, .int .i64 0, .int .u64 0].toArray 68) := ⟨_, rfl⟩
  have HBR : Hid (wb.heap[w.heap.size + 1]? = some (.cells [.int .i64 0, .int .i64 0, .int .u64 0].toArray 68 (0, 0))) := hwb ▸ heap_alloc2_new _ _ _
  have HCW : Hid (Chg [] w wb) := hwb ▸ ((Chg.refl _ _).alloc _).alloc _
  have hkw : (w.alloc (.cells #[.int .u16 t, .int .u16 u, .int .u16 r] 60)).alloc (.cells #[.int .i64 0, .int .i64 0, .int .u64 0] 68) = wb := hwb.symm
  have hwbs := lt_of_block HBR.out
  clear hwb
  have r0 := blk_cell (i := 0) HBR.out rfl
  have r1 := blk_cell (i := 1) HBR.out rfl
  have r2 := blk_cell (i := 2) HBR.out rfl
  have rf := fun i => blk_free (i := i) HBR.out
  have rr := blk_set (i := 2) (.int .u64 0) (blk_set (i := 1) (.int .i64 0) (blk_set (i := 0) (.int .i64 0) HBR.out))
  have HRR : Hid _ := rr
  clear rr
  have HCR : Hid (Chg [] w (((wb.setCell ⟨w.heap.size + 1, 0, none⟩ (.int .i64 0)).setCell ⟨w.heap.size + 1, 1, none⟩ (.int .i64 0)).setCell ⟨w.heap.size + 1, 2, none⟩ (.int .u64 0))) := ((HCW.out.set _ _ (Or.inr (by dsimp only; omega))).set _ _ (Or.inr (by dsimp only; omega))).set _ _ (Or.inr (by dsimp only; omega))
  go_enter_defers Tryz.func21, Tryz.ntmps21
  go_wp2
  all_goals first
    | (exfalso; omega)
    | exact ⟨.tuple #[.agg #[.int .i64 0, .int .i64 0, .int .u64 0], .int .i64 1], results_cell2 rfl rfl rfl (load42 HRR.out rfl rfl rfl), rfl, HCR.out⟩
    | skip
end Go.Proofs.YtbdnhllhdjepcaaGreat
