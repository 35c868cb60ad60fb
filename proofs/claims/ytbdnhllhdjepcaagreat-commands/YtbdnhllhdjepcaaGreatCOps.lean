import Derived.Test.YtbdnhllhdjepcaaGreatCRo
namespace Go.Proofs.YtbdnhllhdjepcaaGreat
set_option linter.unusedVariables false
set_option linter.unusedSimpArgs false
open Go.RowKit Go.Maps

/-! ### configs -/
structure Cf where
  c0 : Int
  p0 : Int
  b0 : Int
  c1 : Int
  p1 : Int
  b1 : Int
  c2 : Int
  p2 : Int
  b2 : Int
  sh : Int
  sl : Int
  ev : Int
  de : Int
  qu : Int
structure Cf.Ok (c : Cf) : Prop where
  c0 : I6 c.c0
  p0 : I6 c.p0
  b0 : I6 c.b0
  c1 : I6 c.c1
  p1 : I6 c.p1
  b1 : I6 c.b1
  c2 : I6 c.c2
  p2 : I6 c.p2
  b2 : I6 c.b2
  sh : I6 c.sh
  sl : I6 c.sl
  ev : I6 c.ev
  de : I6 c.de
  qu : I6 c.qu
def cfc (c : Cf) (ov : Value) : List Value := [.int .i64 c.c0, .int .i64 c.p0, .int .i64 c.b0, .int .i64 c.c1, .int .i64 c.p1, .int .i64 c.b1, .int .i64 c.c2, .int .i64 c.p2, .int .i64 c.b2, ov, .int .i64 c.sh, .int .i64 c.sl, .int .i64 c.ev, .int .i64 c.de, .int .i64 c.qu]
/-- each of the overrides may be -/
def OvsFit (os : List Ov) : Prop := ∀ k (hk : k < os.length), ovFit (os.take k) os[k] = true
structure CfOk (c : Cf) (os : List Ov) : Prop where
  q0 : QOk c.c0 c.p0 c.b0
  q1 : QOk c.c1 c.p1 c.b1
  q2 : QOk c.c2 c.p2 c.b2
  len : os.length ≤ 8
  sh : 1 ≤ c.sh ∧ c.sh ≤ 4
  sl : 3 ≤ c.sl ∧ c.sl ≤ 64
  fit : OvsFit os
  ev : 1 ≤ c.ev ∧ c.ev ≤ 4611686018427387904
  de : 0 ≤ c.de ∧ c.de ≤ 4611686018427387904
  qu : 0 ≤ c.qu ∧ c.qu ≤ 50
/-- whether it may be, as it was told -/
def CfB (c : Cf) (os : List Ov) (e : Ending) : Prop := ∃ b, e = .returned (.bool b) ∧ (b = true ↔ CfOk c os)
theorem CfB.no {c : Cf} {os : List Ov} (h : ¬ CfOk c os) : CfB c os (.returned (.bool false)) := ⟨false, rfl, by simp [h]⟩
theorem CfB.yes {c : Cf} {os : List Ov} (h : CfOk c os) : CfB c os (.returned (.bool true)) := ⟨true, rfl, by simp [h]⟩
/-- a quota of three -/
def Cf.qk (c : Cf) : Nat → Prop
  | 0 => QOk c.c0 c.p0 c.b0
  | 1 => QOk c.c1 c.p1 c.b1
  | _ => QOk c.c2 c.p2 c.b2

set_option maxRecDepth 100000 in
set_option maxHeartbeats 4000000 in
theorem config_ref (c : Cf) (la : Option Addr) (lb lof cap : Nat) (os : List Ov) (w : World) (h : OvsAt w la lb lof os) (hok : ∀ o ∈ os, o.Ok) (hc : c.Ok) :
    Calls Tryz.prog 83 #[.agg #[.int .i64 c.c0, .int .i64 c.p0, .int .i64 c.b0, .int .i64 c.c1, .int .i64 c.p1, .int .i64 c.b1, .int .i64 c.c2, .int .i64 c.p2, .int .i64 c.b2, .slice la os.length cap, .int .i64 c.sh, .int .i64 c.sl, .int .i64 c.ev, .int .i64 c.de, .int .i64 c.qu]] w fun e w' => CfB c os e ∧ Chg [] w w' := by
  have hlen := h.len
  have hbx := heap_alloc_new w (.cells (cfc c (.slice la os.length cap)).toArray 33)
  have hcw : Chg [] w (w.alloc (.cells (cfc c (.slice la os.length cap)).toArray 33)) := (Chg.refl _ _).alloc _
  obtain ⟨wb, hwb⟩ : ∃ wb, wb = w.alloc (.cells (cfc c (.slice la os.length cap)).toArray 33) := ⟨_, rfl⟩
  rw [← hwb] at hbx hcw
  have hkw : w.alloc (.cells #[.int .i64 c.c0, .int .i64 c.p0, .int .i64 c.b0, .int .i64 c.c1, .int .i64 c.p1, .int .i64 c.b1, .int .i64 c.c2, .int .i64 c.p2, .int .i64 c.b2, .slice la os.length cap, .int .i64 c.sh, .int .i64 c.sl, .int .i64 c.ev, .int .i64 c.de, .int .i64 c.qu] 33) = wb := hwb.symm
  clear hwb
  have HBX : Hid (wb.heap[w.heap.size]? = some (.cells (cfc c (.slice la os.length cap)).toArray 33 (0, 0))) := hbx
  have HCW : Hid (Chg [] w wb) := hcw
  have HOV : Hid (OvsAt w la lb lof os) := h
  clear hbx hcw h
  go_enter Tryz.func83, Tryz.ntmps83
  go_wp2_with fail
  go_loopw [3] (fun i wr => ∃ k : Nat, i = .int .i64 k ∧ k ≤ 3 ∧ Chg [] wb wr ∧ ∀ j, j < k → c.qk j) (fun i _ => 3 - (intOf i).toNat)
  case atStart => exact ⟨0, rfl, by omega, Chg.refl _ _, fun j hj => absurd hj (by omega)⟩
  case round =>
    obtain ⟨k, rfl, hk3, hcr, hall⟩ := hrel
    have hbr := hcr.blk HBX.out (by simp)
    have g0 := blk_cell (i := 0) hbr rfl
    have g1 := blk_cell (i := 1) hbr rfl
    have g2 := blk_cell (i := 2) hbr rfl
    have g3 := blk_cell (i := 3) hbr rfl
    have g4 := blk_cell (i := 4) hbr rfl
    have g5 := blk_cell (i := 5) hbr rfl
    have g6 := blk_cell (i := 6) hbr rfl
    have g7 := blk_cell (i := 7) hbr rfl
    have g8 := blk_cell (i := 8) hbr rfl
    have g9 := blk_cell (i := 9) hbr rfl
    have g10 := blk_cell (i := 10) hbr rfl
    have g11 := blk_cell (i := 11) hbr rfl
    have g12 := blk_cell (i := 12) hbr rfl
    have g13 := blk_cell (i := 13) hbr rfl
    have g14 := blk_cell (i := 14) hbr rfl
    have HCR : Hid (Chg [] w wr) := HCW.out.trans hcr (by simp)
    have HCB : Hid (Chg [] wb wr) := hcr
    have HAL : Hid (∀ j, j < k → c.qk j) := hall
    have HBR : Hid _ := hbr
    clear hcr hall hbr
    by_cases hlt : k < 3
    · rcases (show k = 0 ∨ k = 1 ∨ k = 2 from by omega) with rfl | rfl | rfl
      · go_wp2_with fail
        refine (interval_any c.c0 c.p0 c.b0 wr hc.c0 hc.p0 hc.b0).mono ?_
        rintro e w2 ⟨⟨t, rfl, _⟩, q2⟩
        by_cases hq : QOk c.c0 c.p0 c.b0
        · rw [@decide_eq_true _ (dQ _ _ _) hq]
          have HQ : Hid (c.qk 0) := hq
          clear hq
          go_wp2_with fail
          go_roundw
          case rel => exact ⟨1, by go_num, by omega, HCB.out.trans q2 (by simp), fun j hj => by rcases Nat.lt_or_ge j 0 with h' | h'; (exact HAL.out j h'); (have : j = 0 := by omega); (rw [this]; exact HQ.out)⟩
          case measure => simp [intOf]
        · rw [@decide_eq_false _ (dQ _ _ _) hq]
          have HN : Hid (¬ CfOk c os) := fun h => hq h.q0
          clear hq
          go_wp2
          go_ret
          exact ⟨CfB.no HN.out, HCR.out.trans q2 (by simp)⟩
      · go_wp2_with fail
        refine (interval_any c.c1 c.p1 c.b1 wr hc.c1 hc.p1 hc.b1).mono ?_
        rintro e w2 ⟨⟨t, rfl, _⟩, q2⟩
        by_cases hq : QOk c.c1 c.p1 c.b1
        · rw [@decide_eq_true _ (dQ _ _ _) hq]
          have HQ : Hid (c.qk 1) := hq
          clear hq
          go_wp2_with fail
          go_roundw
          case rel => exact ⟨2, by go_num, by omega, HCB.out.trans q2 (by simp), fun j hj => by rcases Nat.lt_or_ge j 1 with h' | h'; (exact HAL.out j h'); (have : j = 1 := by omega); (rw [this]; exact HQ.out)⟩
          case measure => simp [intOf]
        · rw [@decide_eq_false _ (dQ _ _ _) hq]
          have HN : Hid (¬ CfOk c os) := fun h => hq h.q1
          clear hq
          go_wp2
          go_ret
          exact ⟨CfB.no HN.out, HCR.out.trans q2 (by simp)⟩
      · go_wp2_with fail
        refine (interval_any c.c2 c.p2 c.b2 wr hc.c2 hc.p2 hc.b2).mono ?_
        rintro e w2 ⟨⟨t, rfl, _⟩, q2⟩
        by_cases hq : QOk c.c2 c.p2 c.b2
        · rw [@decide_eq_true _ (dQ _ _ _) hq]
          have HQ : Hid (c.qk 2) := hq
          clear hq
          go_wp2_with fail
          go_roundw
          case rel => exact ⟨3, by go_num, by omega, HCB.out.trans q2 (by simp), fun j hj => by rcases Nat.lt_or_ge j 2 with h' | h'; (exact HAL.out j h'); (have : j = 2 := by omega); (rw [this]; exact HQ.out)⟩
          case measure => simp [intOf]
        · rw [@decide_eq_false _ (dQ _ _ _) hq]
          have HN : Hid (¬ CfOk c os) := fun h => hq h.q2
          clear hq
          go_wp2
          go_ret
          exact ⟨CfB.no HN.out, HCR.out.trans q2 (by simp)⟩
    · obtain rfl : k = 3 := by omega
      have HQ : Hid (QOk c.c0 c.p0 c.b0 ∧ QOk c.c1 c.p1 c.b1 ∧ QOk c.c2 c.p2 c.b2) := ⟨HAL.out 0 (by omega), HAL.out 1 (by omega), HAL.out 2 (by omega)⟩
      clear hlt HAL
      by_cases hin : os.length ≤ 8 ∧ (1 ≤ c.sh ∧ c.sh ≤ 4) ∧ 3 ≤ c.sl ∧ c.sl ≤ 64
      case neg =>
        have HN : Hid (¬ CfOk c os) := fun h => hin ⟨h.len, h.sh, h.sl⟩
        have hi2 : 8 < (os.length : Int) ∨ c.sh < 1 ∨ 4 < c.sh ∨ c.sl < 3 ∨ 64 < c.sl := by omega
        go_wp2
        all_goals first | (exfalso; omega) | (go_ret; exact ⟨CfB.no HN.out, HCR.out⟩)
      obtain ⟨hl8, ⟨hs1, hs4⟩, hl3, hl64⟩ := hin
      have hl8' : (os.length : Int) ≤ 8 := by omega
      go_wp2_with fail
      go_loopw [6] (fun i wx => ∃ k : Nat, i = .int .i64 k ∧ k ≤ os.length ∧ Chg [] wb wx ∧ ∀ j (hj : j < os.length), j < k → ovFit (os.take j) os[j] = true) (fun i _ => os.length - (intOf i).toNat)
      case atStart => exact ⟨0, rfl, by omega, HCB.out, fun j hj h0 => absurd h0 (by omega)⟩
      case round =>
        obtain ⟨k, rfl, hkl, hcx, hfit⟩ := hrel
        have HCX : Hid (Chg [] w wr) := HCW.out.trans hcx (by simp)
        have HRX : Hid (Chg [] wb wr) := hcx
        have HFT : Hid (∀ j (hj : j < os.length), j < k → ovFit (os.take j) os[j] = true) := hfit
        have hbr2 := hcx.blk HBX.out (by simp)
        have u9 := blk_cell (i := 9) hbr2 rfl
        have u12 := blk_cell (i := 12) hbr2 rfl
        have u13 := blk_cell (i := 13) hbr2 rfl
        have u14 := blk_cell (i := 14) hbr2 rfl
        clear hcx hfit hbr2
        by_cases hlt : k < os.length
        · have hk1 : (k : Int) < (os.length : Int) := by omega
          go_wp2_with fail
          refine (override_ref la lb lof cap k os wr (HOV.out.chg HCX.out (by simp)) hok hlt).mono ?_
          rintro e w5 ⟨rfl, q5⟩
          cases hv : ovFit (os.take k) os[k]
          · have HN : Hid (¬ CfOk c os) := fun h => by have := h.fit k hlt; rw [hv] at this; cases this
            clear hv
            go_wp2
            go_ret
            exact ⟨CfB.no HN.out, HCX.out.trans q5 (by simp)⟩
          · have HV : Hid (ovFit (os.take k) os[k] = true) := hv
            clear hv
            go_wp2_with fail
            go_roundw
            case rel => exact ⟨k + 1, by go_num, by omega, HRX.out.trans q5 (by simp), fun j hj hjk => by rcases Nat.lt_or_ge j k with h' | h'; (exact HFT.out j hj h'); (have : j = k := by omega); (subst this; exact HV.out)⟩
            case measure => simp [intOf]; omega
        · have hk1 : ¬ (k : Int) < (os.length : Int) := by omega
          have HFI : Hid (OvsFit os) := fun j hj => HFT.out j hj (by omega)
          by_cases hfin : (1 ≤ c.ev ∧ c.ev ≤ 4611686018427387904) ∧ (0 ≤ c.de ∧ c.de ≤ 4611686018427387904) ∧ 0 ≤ c.qu ∧ c.qu ≤ 50
          · have HY : Hid (CfOk c os) := ⟨HQ.out.1, HQ.out.2.1, HQ.out.2.2, hl8, ⟨hs1, hs4⟩, ⟨hl3, hl64⟩, HFI.out, hfin.1, hfin.2.1, hfin.2.2⟩
            obtain ⟨⟨m1, m2⟩, ⟨m3, m4⟩, m5, m6⟩ := hfin
            go_wp2
            all_goals first | (exfalso; omega) | (go_ret; refine ⟨?_, HCX.out⟩; have hb := CfB.yes HY.out; simp [*])
          · have HN : Hid (¬ CfOk c os) := fun h => hfin ⟨h.ev, h.de, h.qu⟩
            have hf2 : c.ev < 1 ∨ 4611686018427387904 < c.ev ∨ c.de < 0 ∨ 4611686018427387904 < c.de ∨ c.qu < 0 ∨ 50 < c.qu := by omega
            go_wp2
            all_goals first | (exfalso; omega) | (go_ret; refine ⟨⟨_, rfl, ?_⟩, HCX.out⟩; have hn := HN.out; simp only [hn, iff_false]; simp; try omega)
end Go.Proofs.YtbdnhllhdjepcaaGreat
namespace Go.Proofs.YtbdnhllhdjepcaaGreat
set_option linter.unusedVariables false
set_option linter.unusedSimpArgs false
open Go.RowKit Go.Maps

/-! ### a script -/
structure Op where
  k : Int
  m : Int
  c : Cf
  la : Option Addr
  lb : Nat
  lof : Nat
  cap : Nat
  os : List Ov
  t : Int
  u : Int
  r : Int
  a : Int
  it : Int
  tx : ByteArray
  ll : Option Addr
  ln : Nat
  lc : Nat
def opc (o : Op) : List Value := [.int .i64 o.k, .int .i64 o.m, .int .i64 o.c.c0, .int .i64 o.c.p0, .int .i64 o.c.b0, .int .i64 o.c.c1, .int .i64 o.c.p1, .int .i64 o.c.b1, .int .i64 o.c.c2, .int .i64 o.c.p2, .int .i64 o.c.b2, .slice o.la o.os.length o.cap, .int .i64 o.c.sh, .int .i64 o.c.sl, .int .i64 o.c.ev, .int .i64 o.c.de, .int .i64 o.c.qu, .int .u16 o.t, .int .u16 o.u, .int .u16 o.r, .int .i64 o.a, .int .u32 o.it, .string o.tx, .slice o.ll o.ln o.lc]
structure Op.Ok (o : Op) : Prop where
  k : I6 o.k
  m : I6 o.m
  c : o.c.Ok
  os : ∀ x ∈ o.os, x.Ok
  len : o.os.length ≤ 3518437208780
  t : U16 o.t
  u : U16 o.u
  r : U16 o.r
  a : I6 o.a
  it : 0 ≤ o.it ∧ o.it ≤ 4294967295
  tx : o.tx.size ≤ 9223372036854775807
structure OpAt (w : World) (b f : Nat) (o : Op) : Prop where
  cells : ∀ i v, (opc o)[i]? = some v → w.cell? ⟨b, f + i, none⟩ = some v
  ovs : OvsAt w o.la o.lb o.lof o.os
theorem OpAt.chg {w w' : World} {b f : Nat} {o : Op} (h : OpAt w b f o) (hc : Chg [] w w') : OpAt w' b f o := ⟨fun i v hv => hc.cell (h.cells i v hv) (by simp), h.ovs.chg hc (by simp)⟩
end Go.Proofs.YtbdnhllhdjepcaaGreat
