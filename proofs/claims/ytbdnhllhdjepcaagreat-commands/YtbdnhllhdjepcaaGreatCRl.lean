import Derived.Test.YtbdnhllhdjepcaaGreatCRs
import Derived.Test.YtbdnhllhdjepcaaGreatCQpoll
namespace Go.Proofs.YtbdnhllhdjepcaaGreat
set_option linter.unusedVariables false
set_option linter.unusedSimpArgs false
open Go.RowKit Go.Maps

/-! ### a request, by the document -/
def Rf.f (s : Rf) (cost t u r : Int) (k : Nat) : Int × Int := ask (ivl (quoOf s.c s.os k t u r).1 (quoOf s.c s.os k t u r).2.1) (quoOf s.c s.os k t u r).2.2 (mkM s.ms k t u r) s.T cost
def upsTo (f : Nat → Int × Int) : Nat → List Value
  | 0 => [.int .u64 0, .int .u64 0, .int .u64 0]
  | 1 => [.int .u64 (vdUp (f 0)), .int .u64 0, .int .u64 0]
  | 2 => [.int .u64 (vdUp (f 0)), .int .u64 (vdUp (f 1)), .int .u64 0]
  | _ => [.int .u64 (vdUp (f 0)), .int .u64 (vdUp (f 1)), .int .u64 (vdUp (f 2))]
theorem ups_set (f : Nat → Int × Int) (k : Nat) (hk : k < 3) : (upsTo f k).set k (.int .u64 (vdUp (f k))) = upsTo f (k + 1) := by
  rcases (show k = 0 ∨ k = 1 ∨ k = 2 from by omega) with rfl | rfl | rfl <;> rfl
theorem ups_zero (f : Nat → Int × Int) (k : Nat) (hk : k < 3) : (upsTo f k)[k]? = some (.int .u64 0) := by
  rcases (show k = 0 ∨ k = 1 ∨ k = 2 from by omega) with rfl | rfl | rfl <;> rfl
theorem ups_at (f : Nat → Int × Int) (k : Nat) (hk : k < 3) : (upsTo f 3)[k]? = some (.int .u64 (vdUp (f k))) := by
  rcases (show k = 0 ∨ k = 1 ∨ k = 2 from by omega) with rfl | rfl | rfl <;> rfl
/-- the first level that denies; -1: none -/
def fstOf (x : Int × Int × Int) : Int := if x.1 = 0 then -1 else x.2.1
theorem rep_st {f : Nat → Int × Int} (hf : ∀ k, k < 3 → 0 ≤ (f k).2) : ∀ k, k ≤ 3 → ((repTo f k).1 = 0 ∧ (repTo f k).2.1 = 0 ∧ (repTo f k).2.2 = 0) ∨ ((repTo f k).1 = 1 ∧ 0 ≤ (repTo f k).2.1 ∧ 0 ≤ (repTo f k).2.2)
  | 0, _ => Or.inl ⟨rfl, rfl, rfl⟩
  | k + 1, hk => by
    have ih := rep_st hf k (by omega)
    have h0 := hf k (by omega)
    unfold repTo
    by_cases hz : (f k).2 = 0
    · rw [if_pos hz]; exact ih
    · rw [if_neg hz]
      rcases ih with ⟨h1, h2, h3⟩ | ⟨h1, h2, h3⟩
      · rw [if_pos h1]
        exact Or.inr ⟨rfl, by simp, by simp only; omega⟩
      · rw [if_neg (by omega)]
        exact Or.inr ⟨h1, h2, by simp only; omega⟩
def msTo (ms : List Mk) (t u r : Int) (f : Nat → Int × Int) : Nat → List Mk
  | 0 => ms
  | k + 1 => mkPut (msTo ms t u r f k) k t u r (f k).1
theorem msTo_len (ms : List Mk) (t u r : Int) (f : Nat → Int × Int) : ∀ k, (msTo ms t u r f k).length ≤ ms.length + k
  | 0 => Nat.le_refl _
  | k + 1 => by have := msTo_len ms t u r f k; have := mkPut_len (msTo ms t u r f k) k t u r (f k).1; unfold msTo; omega
/-- what becomes of a request -/
def Rf.rep (s : Rf) (cost t u r : Int) : Int × Int × Int := if roomN s t u r ≤ s.c.sl then repTo (s.f cost t u r) 3 else (2, 0, 0)
def Rf.ms' (s : Rf) (cost t u r : Int) : List Mk := if roomN s t u r ≤ s.c.sl ∧ (repTo (s.f cost t u r) 3).1 = 0 then msTo s.ms t u r (s.f cost t u r) 3 else s.ms
/-- what holds of the document's meter -/
structure Rf.Ok (s : Rf) : Prop where
  c : CfOk s.c s.os
  T : 0 ≤ s.T ∧ s.T ≤ 9223372036854775807
  ms : ∀ m ∈ s.ms, m.Ok
  le : ∀ m ∈ s.ms, m.m ≤ s.T + 4611686018427387904
  ov : ∀ o ∈ s.os, o.Ok
def AllR (w w' : World) (yb : Nat) (s : Rf) (cost t u r : Int) (e : Ending) : Prop :=
  ((cost < 1 ∨ 1000 < cost) → e = .returned (.tuple #[.agg #[.int .i64 0, .int .i64 0, .int .u64 0], .int .i64 1]) ∧ Chg [] w w') ∧
  (1 ≤ cost → cost ≤ 1000 → e = .returned (.tuple #[.agg (repV (s.rep cost t u r)).toArray, .int .i64 0]) ∧ ∃ v, RefAt w' yb (s.marked v (s.ms' cost t u r)) ∧ RStp w w' yb s (s.marked v (s.ms' cost t u r)))
theorem AllR.bad {w w' : World} {yb : Nat} {s : Rf} {cost t u r : Int} (h : cost < 1 ∨ 1000 < cost) (hc : Chg [] w w') : AllR w w' yb s cost t u r (.returned (.tuple #[.agg #[.int .i64 0, .int .i64 0, .int .u64 0], .int .i64 1])) := ⟨fun _ => ⟨rfl, hc⟩, fun h1 h2 => by omega⟩
theorem Rf.marked_self (s : Rf) : s.marked s.mv s.ms = s := rfl
theorem AllR.same {w w' : World} {yb : Nat} {s : Rf} {cost t u r : Int} {x : Int × Int × Int} (h1 : 1 ≤ cost) (h2 : cost ≤ 1000) (hr : RefAt w yb s) (hc : Chg [] w w') (hx : s.rep cost t u r = x) (hm : s.ms' cost t u r = s.ms) : AllR w w' yb s cost t u r (.returned (.tuple #[.agg (repV x).toArray, .int .i64 0])) :=
  ⟨fun h => by omega, fun _ _ => ⟨by rw [hx], s.mv, by rw [hm]; exact hr.chg hc (by simp), by rw [hm]; exact RStp.of0 hc⟩⟩
/-- the marks on their way -/
def Mid2 (wl w : World) (yb : Nat) (s : Rf) (ms : List Mk) : Prop := ∃ v, RefAt w yb (s.marked v ms) ∧ RStp wl w yb s (s.marked v ms)
theorem quo_ok {c : Cf} {os : List Ov} (h : CfOk c os) (k : Nat) (t u r : Int) : QOk (quoOf c os k t u r).1 (quoOf c os k t u r).2.1 (quoOf c os k t u r).2.2 := by
  unfold quoOf
  cases hf : os.find? (ovHit k t u r) with
  | none =>
    match k with
    | 0 => exact h.q0
    | 1 => exact h.q1
    | n + 2 => exact h.q2
  | some o =>
    obtain ⟨i, hi, rfl⟩ := List.mem_iff_getElem.1 (List.mem_of_find?_eq_some hf)
    have := h.fit i hi
    unfold ovFit OvGood at this
    rw [Bool.and_eq_true] at this
    exact (@of_decide_eq_true _ (dOG _) this.1).1

set_option maxRecDepth 100000 in
set_option maxHeartbeats 4000000 in
theorem allow_ref (yb : Nat) (s : Rf) (cost t u r : Int) (w : World) (h : RefAt w yb s) (ok : s.Ok) (ht : U16 t) (hlen : s.ms.length ≤ 5000000000000) (hcost : I6 cost) :
    Calls Tryz.prog 38 #[.pointer (some ⟨yb, 0, none⟩), .agg #[.int .u16 t, .int .u16 u, .int .u16 r], .int .i64 cost] w fun e w' => AllR w w' yb s cost t u r e := by
  have hyl := lt_of_block h.blk
  have HR : Hid (RefAt w yb s) := h
  have HOK : Hid s.Ok := ok
  have HLT : Hid (∀ b ∈ s.fp yb, b < w.heap.size) := h.lt
  obtain ⟨wb, hwb⟩ : ∃ wb, wb = (w.alloc (.cells [.int .u16 t, .int .u16 u, .int .u16 r].toArray 60)).alloc (.cells [.int .i64 0, .int .i64 0, .int .u64 0].toArray 68) := ⟨_, rfl⟩
  have HBX : Hid (wb.heap[w.heap.size]? = some (.cells [.int .u16 t, .int .u16 u, .int .u16 r].toArray 60 (0, 0))) := hwb ▸ heap_alloc2_old _ _ _
  have HBR : Hid (wb.heap[w.heap.size + 1]? = some (.cells [.int .i64 0, .int .i64 0, .int .u64 0].toArray 68 (0, 0))) := hwb ▸ heap_alloc2_new _ _ _
  have HCW : Hid (Chg [] w wb) := hwb ▸ ((Chg.refl _ _).alloc _).alloc _
  have hkw : (w.alloc (.cells #[.int .u16 t, .int .u16 u, .int .u16 r] 60)).alloc (.cells #[.int .i64 0, .int .i64 0, .int .u64 0] 68) = wb := hwb.symm
  have hwbs := lt_of_block HBR.out
  clear hwb h ok
  have b0 := blk_cell (i := 0) HBX.out rfl
  have b1 := blk_cell (i := 1) HBX.out rfl
  have b2 := blk_cell (i := 2) HBX.out rfl
  by_cases hin : 1 ≤ cost ∧ cost ≤ 1000
  case neg =>
    have hbad : cost < 1 ∨ 1000 < cost := by omega
    have HBD : Hid (cost < 1 ∨ 1000 < cost) := hbad
    have r0 := blk_cell (i := 0) HBR.out rfl
    have r1 := blk_cell (i := 1) HBR.out rfl
    have r2 := blk_cell (i := 2) HBR.out rfl
    have rf := fun i => blk_free (i := i) HBR.out
    go_enter Tryz.func38, Tryz.ntmps38
    go_wp2
    all_goals first
      | (exfalso; omega)
      | (have rr := blk_set (i := 2) (.int .u64 0) (blk_set (i := 1) (.int .i64 0) (blk_set (i := 0) (.int .i64 0) HBR.out))
         exact bodyPost_ret (v := .tuple #[.agg #[.int .i64 0, .int .i64 0, .int .u64 0], .int .i64 1]) (results_cell2 rfl rfl rfl (load42 rr rfl rfl rfl)) rfl (AllR.bad HBD.out (((HCW.out.set _ _ (Or.inr (by dsimp only; omega))).set _ _ (Or.inr (by dsimp only; omega))).set _ _ (Or.inr (by dsimp only; omega)))))
  obtain ⟨hc1, hc2⟩ := hin
  have HRm : Hid (∀ W, RefAt W yb s → Calls Tryz.prog 84 #[.pointer (some ⟨yb, 0, none⟩), .agg #[.int .u16 t, .int .u16 u, .int .u16 r]] W fun e w' => e = .returned (.bool (decide (roomN s t u r ≤ s.c.sl))) ∧ Chg [] W w') := fun W hW => room_ref yb s t u r W hW HOK.out.ms HOK.out.c.sh (by omega) ht HOK.out.T.1
  have HVd : Hid (∀ (k : Nat) W, k < 3 → RefAt W yb s → Calls Tryz.prog 85 #[.pointer (some ⟨yb, 0, none⟩), .int .i64 k, .agg #[.int .u16 t, .int .u16 u, .int .u16 r], .int .i64 cost] W fun e w' => e = .returned (.tuple #[.int .u64 (s.f cost t u r k).2, .int .u64 (vdUp (s.f cost t u r k))]) ∧ Chg [] W w') := fun k W hk hW =>
    verdict_ref yb s k t u r cost W hW hk HOK.out.T (fun m hm => ⟨(HOK.out.ms m hm).m.1, by have := HOK.out.le m hm; have := HOK.out.T.2; omega⟩) rfl (quo_ok HOK.out.c k t u r) ⟨hc1, hc2⟩
  have HF0 : Hid (∀ k, k < 3 → 0 ≤ (s.f cost t u r k).2 ∧ (s.f cost t u r k).2 ≤ 18446744073709551615) := fun k hk => by
    have hq := quo_ok HOK.out.c k t u r
    have hm : 0 ≤ mkM s.ms k t u r ∧ mkM s.ms k t u r ≤ 13835058055282163711 := by
      cases hI : mkI s.ms k t u r with
      | none => rw [mkM_none hI]; omega
      | some i =>
        obtain ⟨hi, hM, _⟩ := mkM_some hI
        rw [hM]
        have := (HOK.out.ms _ (List.getElem_mem hi)).m
        have := HOK.out.le _ (List.getElem_mem hi)
        have := HOK.out.T.2
        exact ⟨by omega, by omega⟩
    have := ask_bd (iv := ivl (quoOf s.c s.os k t u r).1 (quoOf s.c s.os k t u r).2.1) (bu := (quoOf s.c s.os k t u r).2.2) (mark := mkM s.ms k t u r) (now := s.T) (cost := cost) hq.2.2.2.2.2.2 hq.2.2.2.2.1 (by have := hq.2.2.2.2.2.1; omega) hm.1 hm.2 HOK.out.T.1 HOK.out.T.2 hc1
    exact ⟨this.2.2.1, this.2.2.2.1⟩
  have HREP : Hid (s.rep cost t u r = if roomN s t u r ≤ s.c.sl then repTo (s.f cost t u r) 3 else (2, 0, 0)) := rfl
  have HMS : Hid (s.ms' cost t u r = if roomN s t u r ≤ s.c.sl ∧ (repTo (s.f cost t u r) 3).1 = 0 then msTo s.ms t u r (s.f cost t u r) 3 else s.ms) := rfl
  have HFB : Hid (∀ k, 0 ≤ (s.f cost t u r k).2) := fun k => by
    have hq := quo_ok HOK.out.c k t u r
    unfold Rf.f ask
    split
    · decide
    · split
      · exact Int.le_refl 0
      · simp only; omega
  generalize s.f cost t u r = f at *
  go_enter Tryz.func38, Tryz.ntmps38
  go_wp2_with fail
  refine (HRm.out _ (HR.out.chg HCW.out (by simp))).mono ?_
  rintro e w2 ⟨rfl, q2⟩
  have HC2 : Hid (Chg [] w w2) := HCW.out.trans q2 (by simp)
  have HB2 : Hid (w2.heap[w.heap.size]? = some (.cells [.int .u16 t, .int .u16 u, .int .u16 r].toArray 60 (0, 0))) := q2.blk HBX.out (by simp)
  have HR2 : Hid (w2.heap[w.heap.size + 1]? = some (.cells [.int .i64 0, .int .i64 0, .int .u64 0].toArray 68 (0, 0))) := q2.blk HBR.out (by simp)
  have s2 := q2.size
  clear q2 b0 b1 b2 HRm
  by_cases hroom : roomN s t u r ≤ s.c.sl
  case neg =>
    rw [decide_eq_false hroom]
    have HX : Hid (s.rep cost t u r = (2, 0, 0)) := by show _ = _; rw [HREP.out, if_neg hroom]
    have HM : Hid (s.ms' cost t u r = s.ms) := by show _ = _; rw [HMS.out, if_neg (fun h => hroom h.1)]
    clear hroom
    have r0 := blk_cell (i := 0) HR2.out rfl
    have r1 := blk_cell (i := 1) HR2.out rfl
    have r2 := blk_cell (i := 2) HR2.out rfl
    have rf := fun i => blk_free (i := i) HR2.out
    go_wp2
    have rr := blk_set (i := 2) (.int .u64 0) (blk_set (i := 1) (.int .i64 0) (blk_set (i := 0) (.int .i64 2) HR2.out))
    exact bodyPost_ret (v := .tuple #[.agg #[.int .i64 2, .int .i64 0, .int .u64 0], .int .i64 0]) (results_cell2 rfl rfl rfl (load42 rr rfl rfl rfl)) rfl (AllR.same hc1 hc2 HR.out (((HC2.out.set _ _ (Or.inr (by dsimp only; omega))).set _ _ (Or.inr (by dsimp only; omega))).set _ _ (Or.inr (by dsimp only; omega))) HX.out HM.out)
  rw [decide_eq_true hroom]
  have HRO : Hid (roomN s t u r ≤ s.c.sl) := hroom
  clear hroom
  have hub := heap_alloc_new w2 (.cells [.int .u64 0, .int .u64 0, .int .u64 0].toArray 162)
  obtain ⟨wu, hwu⟩ : ∃ wu, wu = w2.alloc (.cells [.int .u64 0, .int .u64 0, .int .u64 0].toArray 162) := ⟨_, rfl⟩
  rw [← hwu] at hub
  have hku : w2.alloc (.cells #[.int .u64 0, .int .u64 0, .int .u64 0] 162) = wu := hwu.symm
  have HU : Hid (Chg [] w2 wu ∧ wu.heap.size = w2.heap.size + 1) := ⟨hwu ▸ (Chg.refl _ _).alloc _, by rw [hwu]; simp⟩
  have HUB : Hid (wu.heap[w2.heap.size]? = some (.cells (upsTo f 0).toArray 162 (0, 0))) := hub
  clear hwu hub
  go_wp2_with fail
  go_loopw [9, 10, 12] (fun a b i wr => ∃ k : Nat, a = .int .i64 (fstOf (repTo f k)) ∧ b = .int .u64 (repTo f k).2.2 ∧ i = .int .i64 k ∧ k ≤ 3 ∧ Chg [w2.heap.size] wu wr ∧ wr.heap[w2.heap.size]? = some (.cells (upsTo f k).toArray 162 (0, 0))) (fun _ _ i _ => 3 - (intOf i).toNat)
  case atStart => exact ⟨0, rfl, rfl, rfl, by omega, Chg.refl _ _, HUB.out⟩
  case round =>
    obtain ⟨k, rfl, rfl, rfl, hk3, hcr, hup⟩ := hrel
    have HCR : Hid (Chg [w2.heap.size] wu wr) := hcr
    have HW2 : Hid (Chg [] w2 wr) := HU.out.1.trans hcr (fun j hj => by simp at hj; subst hj; exact Or.inr (Nat.le_refl _))
    have HWr : Hid (Chg [] w wr) := HC2.out.trans HW2.out (by simp)
    have zb := HW2.out.blk HB2.out (by simp)
    have f0 := blk_cell (i := 0) zb rfl
    have f1 := blk_cell (i := 1) zb rfl
    have f2 := blk_cell (i := 2) zb rfl
    have HUP : Hid (wr.heap[w2.heap.size]? = some (.cells (upsTo f k).toArray 162 (0, 0))) := hup
    clear hcr zb hup
    by_cases hlt : k < 3
    · have hk1 : (k : Int) < 3 := by omega
      have hfk := HF0.out k hlt
      have hst := rep_st (f := f) (fun k hk => (HF0.out k hk).1) k hk3
      have HSC : Hid (repTo f (k + 1) = if (f k).2 = 0 then repTo f k else if (repTo f k).1 = 0 then (1, (k : Int), max (repTo f k).2.2 (f k).2) else ((repTo f k).1, (repTo f k).2.1, max (repTo f k).2.2 (f k).2)) := rfl
      have HUS := ups_set f k hlt
      have HUZ := ups_zero f k hlt
      have HUS' : Hid _ := HUS
      have HUZ' : Hid _ := HUZ
      clear HUS HUZ
      obtain ⟨xa, xb, xc, hxx⟩ : ∃ xa xb xc, repTo f k = (xa, xb, xc) := ⟨_, _, _, rfl⟩
      rw [hxx] at HSC hst ⊢
      simp only at hst
      obtain ⟨fa, fb, hfx⟩ : ∃ fa fb, f k = (fa, fb) := ⟨_, _, rfl⟩
      have HFX : Hid (f k = (fa, fb)) := hfx
      rw [hfx] at HSC hfk
      simp only at hfk
      have HVk : Hid (∀ W, RefAt W yb s → Calls Tryz.prog 85 #[.pointer (some ⟨yb, 0, none⟩), .int .i64 k, .agg #[.int .u16 t, .int .u16 u, .int .u16 r], .int .i64 cost] W fun e w' => e = .returned (.tuple #[.int .u64 fb, .int .u64 (vdUp (fa, fb))]) ∧ Chg [] W w') := fun W hW => by
        have := HVd.out k W hlt hW
        rw [hfx] at this
        exact this
      clear hxx hfx
      go_wp2_with fail
      refine (HVk.out _ (HR.out.chg HWr.out (by simp))).mono ?_
      rintro e w4 ⟨rfl, q4⟩
      have z4 := q4.blk HUP.out (by simp)
      have g4 : w4.cell? ⟨w2.heap.size, k, none⟩ = some (.int .u64 0) := blk_cell (i := k) z4 HUZ'.out
      have gf := fun i => blk_free (i := i) z4
      have HNX : Hid (Chg [w2.heap.size] wu (w4.setCell ⟨w2.heap.size, k, none⟩ (.int .u64 (vdUp (fa, fb)))) ∧ (w4.setCell ⟨w2.heap.size, k, none⟩ (.int .u64 (vdUp (fa, fb)))).heap[w2.heap.size]? = some (.cells (upsTo f (k + 1)).toArray 162 (0, 0))) := by
        refine ⟨(HCR.out.trans q4 (by simp)).set _ _ (Or.inl (by simp)), ?_⟩
        have := blk_set (i := k) (.int .u64 (vdUp (fa, fb))) z4
        rw [← HFX.out, HUS'.out] at this
        rw [← HFX.out]
        exact this
      clear z4 f0 f1 f2 q4
      generalize vdUp (fa, fb) = ups at *
      have hk0 : (0 : Int) ≤ (k : Int) := by omega
      by_cases hz : fb = 0
      · subst hz
        have HSC' : Hid (repTo f (k + 1) = (xa, xb, xc)) := by show _ = _; rw [HSC.out, if_pos rfl]
        have hxc : ¬ xc < 0 := by omega
        clear HSC
        go_wp2_with fail
        go_roundw
        case rel => exact ⟨k + 1, by rw [HSC'.out], by rw [HSC'.out], by go_num, by omega, HNX.out.1, HNX.out.2⟩
        case measure => simp [intOf]; omega
      · have hpos : 0 < fb := by omega
        rcases hst with ⟨rfl, rfl, rfl⟩ | ⟨rfl, hb0, hc0⟩
        · have HSC' : Hid (repTo f (k + 1) = (1, (k : Int), fb)) := by show _ = _; rw [HSC.out, if_neg hz, if_pos rfl]; congr 2; omega
          have hfo : fstOf (0, 0, 0) = -1 := rfl
          rw [hfo]
          clear HSC hz
          go_wp2_with fail
          go_roundw
          case rel => exact ⟨k + 1, by rw [HSC'.out]; rfl, by rw [HSC'.out], by go_num, by omega, HNX.out.1, HNX.out.2⟩
          case measure => simp [intOf]; omega
        · have hfo : fstOf (1, xb, xc) = xb := rfl
          rw [hfo]
          have hxb : ¬ xb < 0 := by omega
          by_cases hmx : xc < fb
          · have HSC' : Hid (repTo f (k + 1) = (1, xb, fb)) := by show _ = _; rw [HSC.out, if_neg hz, if_neg (by decide)]; congr 2; omega
            clear HSC hz
            go_wp2_with fail
            go_roundw
            case rel => exact ⟨k + 1, by rw [HSC'.out]; rfl, by rw [HSC'.out], by go_num, by omega, HNX.out.1, HNX.out.2⟩
            case measure => simp [intOf]; omega
          · have HSC' : Hid (repTo f (k + 1) = (1, xb, xc)) := by show _ = _; rw [HSC.out, if_neg hz, if_neg (by decide)]; congr 2; omega
            clear HSC hz
            go_wp2_with fail
            go_roundw
            case rel => exact ⟨k + 1, by rw [HSC'.out]; rfl, by rw [HSC'.out], by go_num, by omega, HNX.out.1, HNX.out.2⟩
            case measure => simp [intOf]; omega
    · obtain rfl : k = 3 := by omega
      have hst := rep_st (f := f) (fun k hk => (HF0.out k hk).1) 3 (by omega)
      have zr := HW2.out.blk HR2.out (by simp)
      have r0 := blk_cell (i := 0) zr rfl
      have r1 := blk_cell (i := 1) zr rfl
      have r2 := blk_cell (i := 2) zr rfl
      have rf := fun i => blk_free (i := i) zr
      have HZR : Hid _ := zr
      clear zr hlt
      obtain ⟨xa, xb, xc, hxx⟩ : ∃ xa xb xc, repTo f 3 = (xa, xb, xc) := ⟨_, _, _, rfl⟩
      rw [hxx] at hst ⊢
      simp only at hst
      rcases hst with ⟨rfl, rfl, rfl⟩ | ⟨rfl, hb0, hc0⟩
      · have hfo : fstOf (0, 0, 0) = -1 := rfl
        have h33 : ((3 : Nat) : Int) = (3 : Int) := rfl
        rw [hfo, h33]
        clear h33 hfo
        have HX : Hid (s.rep cost t u r = (0, 0, 0)) := by show _ = _; rw [HREP.out, if_pos HRO.out, hxx]
        have HM : Hid (s.ms' cost t u r = msTo s.ms t u r f 3) := by show _ = _; rw [HMS.out, if_pos ⟨HRO.out, by rw [hxx]⟩]
        have HZ : Hid (∀ k, k < 3 → (f k).2 = 0) := fun k hk => repTo_ok (f := f) (fun j => by
          rcases Nat.lt_or_ge j 3 with h | h
          · exact (HF0.out j h).1
          · exact (HFB.out j)) (by rw [hxx]) k hk
        have HRr : Hid (RefAt wr yb s) := HR.out.chg HWr.out (by simp)
        have hwrs := HWr.out.size
        have hw2s := HW2.out.size
        have hul := lt_of_block HUP.out
        obtain ⟨wl, hwl⟩ : ∃ wl, wl = wr := ⟨_, rfl⟩
        have HBl : Hid (wl.heap[w.heap.size]? = some (.cells [.int .u16 t, .int .u16 u, .int .u16 r].toArray 60 (0, 0))) := hwl ▸ HW2.out.blk HB2.out (by simp)
        have HRl : Hid (wl.heap[w.heap.size + 1]? = some (.cells [.int .i64 0, .int .i64 0, .int .u64 0].toArray 68 (0, 0))) := hwl ▸ HZR.out
        have HUl : Hid (wl.heap[w2.heap.size]? = some (.cells (upsTo f 3).toArray 162 (0, 0))) := hwl ▸ HUP.out
        have HRf : Hid (RefAt wl yb s) := hwl ▸ HRr.out
        have HWl : Hid (Chg [] w wl) := hwl ▸ HWr.out
        have hlw : wr = wl := hwl.symm
        clear hxx hwl
        rw [hlw] at hwrs hw2s hul ⊢
        have HFP : Hid (∀ b ∈ s.fp yb, b < w.heap.size) := HLT.out
        clear hlw r0 r1 r2 rf f0 f1 f2 HUP HZR HRr HWr HW2 HCR
        go_wp2_with fail
        go_loopw [15] (fun i wr => ∃ k : Nat, i = .int .i64 k ∧ k ≤ 3 ∧ Mid2 wl wr yb s (msTo s.ms t u r f k)) (fun i _ => 3 - (intOf i).toNat)
        case atStart => exact ⟨0, rfl, by omega, s.mv, HRf.out, RStp.refl _ _ _⟩
        case round =>
          obtain ⟨k, rfl, hk3, v, hra, hrs⟩ := hrel
          have HBk : Hid (wr.heap[w.heap.size]? = some (.cells [.int .u16 t, .int .u16 u, .int .u16 r].toArray 60 (0, 0))) := hrs.chg.blk HBl.out (fun hb => by have := HFP.out _ hb; omega)
          have HRk : Hid (wr.heap[w.heap.size + 1]? = some (.cells [.int .i64 0, .int .i64 0, .int .u64 0].toArray 68 (0, 0))) := hrs.chg.blk HRl.out (fun hb => by have := HFP.out _ hb; omega)
          have HUk : Hid (wr.heap[w2.heap.size]? = some (.cells (upsTo f 3).toArray 162 (0, 0))) := hrs.chg.blk HUl.out (fun hb => by have := HFP.out _ hb; omega)
          have HRS : Hid (RStp wl wr yb s (s.marked v (msTo s.ms t u r f k))) := hrs
          have hwk := hrs.chg.size
          by_cases hlt : k < 3
          · have hk1 : (k : Int) < 3 := by omega
            have hk0 : (0 : Int) ≤ (k : Int) := by omega
            have hfz := HZ.out k hlt
            have hml := msTo_len s.ms t u r f k
            have HSU : Hid (msTo s.ms t u r f (k + 1) = mkPut (msTo s.ms t u r f k) k t u r (f k).1) := rfl
            have HUA : Hid ((upsTo f 3)[k]? = some (.int .u64 (f k).1)) := by
              show _ = _
              rw [ups_at f k hlt]
              unfold vdUp
              rw [if_pos hfz]
            generalize (f k).1 = up at *
            generalize msTo s.ms t u r f k = mk at *
            obtain ⟨sk, hsk⟩ : ∃ sk, sk = s.marked v mk := ⟨_, rfl⟩
            have HSK : Hid (sk = s.marked v mk) := hsk
            have hskm : sk.ms = mk := by rw [hsk]; rfl
            have hskv : sk.mv = v := by rw [hsk]; rfl
            have HRA : Hid (RefAt wr yb sk) := by rw [hsk]; exact hra
            have HMr : Hid (Calls Tryz.prog 86 #[.pointer (some ⟨yb, 0, none⟩), .int .i64 k, .agg #[.int .u16 t, .int .u16 u, .int .u16 r]] wr fun e w' => e = .returned (.int .i64 (mkR mk k t u r)) ∧ Chg [] wr w') := by
              have := mark_ref yb sk k t u r wr HRA.out hk0
              rw [hskm] at this
              exact this
            have e0 := blk_cell (i := 0) HBk.out rfl
            have e1 := blk_cell (i := 1) HBk.out rfl
            have e2 := blk_cell (i := 2) HBk.out rfl
            clear hra hrs hsk
            go_wp2_with fail
            refine HMr.out.mono ?_
            rintro e w5 ⟨rfl, q5⟩
            have HR5 : Hid (RefAt w5 yb sk) := HRA.out.chg q5 (by simp)
            have HS5 : Hid (RStp wl w5 yb s sk) := by rw [HSK.out]; exact ⟨HRS.out.chg.trans q5 (by simp), HRS.out.new⟩
            have HB5 : Hid _ := q5.blk HBk.out (by simp)
            have HK5 : Hid _ := q5.blk HRk.out (by simp)
            have HU5 : Hid (w5.heap[w2.heap.size]? = some (.cells (upsTo f 3).toArray 162 (0, 0))) := q5.blk HUk.out (by simp)
            have hw5 := q5.size
            have hyl5 := lt_of_block HR5.out.blk
            have HMKS : Hid (Rw w5 168 5 v mk.length (mkcells mk)) := by have := HR5.out.mks; rw [hskm, hskv] at this; exact this
            have y16 : w5.cell? ⟨yb, 16, none⟩ = some v := by have := blk_cell (i := 16) HR5.out.blk rfl; rw [hskv] at this; exact this
            have yf : w5.frozen? ⟨yb, 16, none⟩ = false := blk_free HR5.out.blk
            have gu : w5.cell? ⟨w2.heap.size, k, none⟩ = some (.int .u64 up) := blk_cell (i := k) HU5.out HUA.out
            clear q5 e0 e1 e2 HMr
            cases hI : mkI mk k t u r with
            | some i =>
              obtain ⟨hi, hM1, hM2⟩ := mkM_some hI
              have hmr : mkR mk k t u r = (i : Int) := by unfold mkR; rw [hI]
              rw [hmr]
              have HPU : Hid (mkPut mk k t u r up = mk.set i (mk[i].to up)) := by show _ = _; unfold mkPut; rw [hI]; exact modify_set mk i hi up
              obtain ⟨la, lb, lof, cap, hv, hla, hlen', hlt', hcell⟩ := HMKS.out.laid
              obtain ⟨rfl, hob⟩ := hla (by omega)
              have hlb := hlt' (by omega)
              subst hv
              have d4 : w5.cell? ⟨lb, lof + i * 5 + 4, none⟩ = some (.int .u64 (mk)[i].m) := by
                rw [Nat.add_assoc]
                exact hcell _ _ (by rw [mk_at _ i hi 4 (by decide)]; rfl)
              have df : w5.frozen? ⟨lb, lof + i * 5 + 4, none⟩ = false := by
                rcases HMKS.out.2.2 with ⟨hv, _⟩ | ⟨b', cap', P, R, hv, hg, _⟩
                · cases hv
                · injection hv with x1
                  injection x1 with x1
                  injection x1 with x1
                  subst x1
                  exact blk_free hg
              have HEND : Hid (∀ W, Chg [] (w5.setCell ⟨lb, lof + i * 5 + 4, none⟩ (.int .u64 up)) W → RefAt W yb (s.marked (.slice (some ⟨lb, lof, none⟩) mk.length cap) (mk.set i (mk[i].to up))) ∧ RStp wl W yb s (s.marked (.slice (some ⟨lb, lof, none⟩) mk.length cap) (mk.set i (mk[i].to up)))) := fun W hW => by
                have hset := HMKS.out.set (j := i * 5 + 4) (u := .int .u64 up) (by rw [HMKS.out.1]; omega) rfl
                rw [mk_set mk i hi up, ← Nat.add_assoc] at hset
                have hcc : Chg (own sk.mv) w5 (w5.setCell ⟨lb, lof + i * 5 + 4, none⟩ (.int .u64 up)) := (Chg.refl _ _).set _ _ (Or.inl (by rw [hskv]; exact mem_own.2 hob))
                obtain ⟨p1, p2⟩ := HR5.out.inPlace (ms := mk.set i (mk[i].to up)) hcc (by rw [hskv, List.length_set]; exact hset)
                have ee : sk.marked sk.mv (mk.set i (mk[i].to up)) = s.marked (.slice (some ⟨lb, lof, none⟩) mk.length cap) (mk.set i (mk[i].to up)) := by rw [hskv, HSK.out]; rfl
                rw [ee] at p1 p2
                exact ⟨p1.chg hW (by simp), (HS5.out.trans p2).trans (RStp.of0 hW)⟩
              have hi2 : (i : Int) < (mk.length : Int) := by omega
              have hi0 : (0 : Int) ≤ (i : Int) := by omega
              clear hcell hI hmr hla hlt' hob hM1 hM2
              go_wp2_with fail
              go_region
              go_wp2_with fail
              go_roundw
              case rel =>
                obtain ⟨p1, p2⟩ := HEND.out _ ((Chg.refl _ _).drew)
                exact ⟨k + 1, by go_num, by omega, by rw [HSU.out, HPU.out]; exact ⟨_, p1, p2⟩⟩
              case measure => simp [intOf]; omega
            | none =>
              have hmr : mkR mk k t u r = -1 := by unfold mkR; rw [hI]
              rw [hmr]
              obtain ⟨cu, hcu⟩ : ∃ cu, cu = cutU k u := ⟨_, rfl⟩
              obtain ⟨cr, hcr'⟩ : ∃ cr, cr = cutR k r := ⟨_, rfl⟩
              have HCut : Hid (∀ W, Calls Tryz.prog 87 #[.int .i64 k, .agg #[.int .u16 t, .int .u16 u, .int .u16 r]] W fun e w' => e = .returned (.agg #[.int .u16 t, .int .u16 cu, .int .u16 cr]) ∧ Chg [] W w') := fun W => by
                rw [hcu, hcr']
                exact cut_any k t u r W hk0
              have HPU : Hid (mkPut mk k t u r up = mk ++ [⟨k, t, cu, cr, up⟩]) := by show _ = _; unfold mkPut; rw [hI, hcu, hcr']
              clear hcu hcr'
              have hmv : ∃ bs cp, v = .slice bs mk.length cp := HMKS.out.val
              obtain ⟨bs, cp, hvs⟩ := hmv
              have nb1 : w.heap.size ∉ own v := own_ty HMKS.out HB5.out (by decide)
              have nb2 : yb ∉ own v := own_ty HMKS.out HR5.out.blk (by decide)
              have nb3 : w2.heap.size ∉ own v := own_ty HMKS.out HU5.out (by decide)
              have nb4 : w.heap.size + 1 ∉ own v := own_ty HMKS.out HK5.out (by decide)
              have HAP : Hid (∀ W, Chg [] w5 W → ∃ la8 cp8 w', (Builtin.append_ #[110, 110] 110 #[v, .slice (some ⟨W.heap.size, 0, none⟩) 1 1]).run Tryz.prog (W.alloc (.cells #[.int .i64 k, .int .u16 t, .int .u16 cu, .int .u16 cr, .int .u64 0] 168)) = .ok (.slice la8 (mk.length + 1) cp8) w' ∧ Rw w' 168 5 (.slice la8 (mk.length + 1) cp8) (mk.length + 1) (mkcells mk ++ [.int .i64 k, .int .u16 t, .int .u16 cu, .int .u16 cr, .int .u64 0]) ∧ (W.alloc (.cells #[.int .i64 k, .int .u16 t, .int .u16 cu, .int .u16 cr, .int .u64 0] 168)).grownBy w' v.ownBlock ∧ ((Value.slice la8 (mk.length + 1) cp8).ownBlock = v.ownBlock ∨ (Value.slice la8 (mk.length + 1) cp8).ownBlock = some (W.alloc (.cells #[.int .i64 k, .int .u16 t, .int .u16 cu, .int .u16 cr, .int .u64 0] 168)).heap.size)) := fun W hW => by
                obtain ⟨i0, ek⟩ := ek168
                have hc := heap_alloc_new W (.cells [.int .i64 k, .int .u16 t, .int .u16 cu, .int .u16 cr, .int .u64 0].toArray 168)
                obtain ⟨v', w', h1, h2, h3, h4⟩ := run_app ek (W.alloc (.cells #[.int .i64 k, .int .u16 t, .int .u16 cu, .int .u16 cr, .int .u64 0] 168)) 110 v mk.length (mkcells mk) (HMKS.out.chg (hW.alloc _) (by simp)) ⟨W.heap.size, 0, none⟩ 1 1 [.int .i64 k, .int .u16 t, .int .u16 cu, .int .u16 cr, .int .u64 0] rfl (fun j x hj => by rw [Addr.add_mid, Nat.zero_add]; exact blk_cell hc hj) (fun x hx => by simp at hx; rcases hx with rfl | rfl | rfl | rfl | rfl <;> rfl) (by decide) (by omega)
                obtain ⟨la8, cp8, rfl⟩ := h2.val
                exact ⟨la8, cp8, w', h1, h2, h3, h4⟩
              have HS6 : Hid (∀ W, Chg [] w5 W → (W.cell? ⟨w.heap.size, 0, none⟩ = some (.int .u16 t) ∧ W.cell? ⟨w.heap.size, 1, none⟩ = some (.int .u16 u) ∧ W.cell? ⟨w.heap.size, 2, none⟩ = some (.int .u16 r) ∧ W.cell? ⟨yb, 16, none⟩ = some sk.mv)) := fun W hW => by
                have z := hW.blk HB5.out (by simp)
                exact ⟨blk_cell z rfl, blk_cell z rfl, blk_cell z rfl, by rw [hskv]; exact hW.cell y16 (by simp)⟩
              have HS8 : Hid (∀ W w8, Chg [] w5 W → (W.alloc (.cells #[.int .i64 k, .int .u16 t, .int .u16 cu, .int .u16 cr, .int .u64 0] 168)).grownBy w8 v.ownBlock → (w8.cell? ⟨w.heap.size, 0, none⟩ = some (.int .u16 t) ∧ w8.cell? ⟨w.heap.size, 1, none⟩ = some (.int .u16 u) ∧ w8.cell? ⟨w.heap.size, 2, none⟩ = some (.int .u16 r) ∧ w8.cell? ⟨yb, 16, none⟩ = some sk.mv)) := fun W w8 hW hg => by
                have c8 : Chg (own v) w5 w8 := ((hW.alloc _).mono (by simp)).trans (Chg.of_grown hg (fun b hb => mem_own.2 hb)) (fun j hj => Or.inl hj)
                have z := c8.blk HB5.out nb1
                exact ⟨blk_cell z rfl, blk_cell z rfl, blk_cell z rfl, by rw [hskv]; exact c8.cell y16 nb2⟩
              have HY8 : Hid (∀ W w8, Chg [] w5 W → (W.alloc (.cells #[.int .i64 k, .int .u16 t, .int .u16 cu, .int .u16 cr, .int .u64 0] 168)).grownBy w8 v.ownBlock → w8.heap[yb]? = some (.cells (rfc sk).toArray 114 (0, 0))) := fun W w8 hW hg => (((hW.alloc _).mono (by simp)).trans (Chg.of_grown hg (fun b hb => mem_own.2 hb)) (fun j hj => Or.inl hj)).blk HR5.out.blk nb2
              subst hvs
              have v1 : Chg [] w5 w5.drew := (Chg.refl _ _).drew
              have HS9b : Hid (∀ W w8 x, Chg [] w5 W → (W.alloc (.cells #[.int .i64 k, .int .u16 t, .int .u16 cu, .int .u16 cr, .int .u64 0] 168)).grownBy w8 (Value.slice bs mk.length cp).ownBlock → ((w8.setCell ⟨yb, 16, none⟩ x).cell? ⟨w.heap.size, 0, none⟩ = some (.int .u16 t) ∧ (w8.setCell ⟨yb, 16, none⟩ x).cell? ⟨w.heap.size, 1, none⟩ = some (.int .u16 u) ∧ (w8.setCell ⟨yb, 16, none⟩ x).cell? ⟨w.heap.size, 2, none⟩ = some (.int .u16 r))) := fun W w8 x hW hg => by
                have c8 : Chg (yb :: own (.slice bs mk.length cp)) w5 (w8.setCell ⟨yb, 16, none⟩ x) := (((hW.alloc _).mono (by simp)).trans (Chg.of_grown hg (l := yb :: own (.slice bs mk.length cp)) (fun b hb => List.mem_cons_of_mem _ (mem_own.2 hb))) (fun j hj => Or.inl hj)).set _ _ (Or.inl (by simp))
                have hyw : w.heap.size ≠ yb := fun e => by have := HFP.out yb (by simp [Rf.fp]); omega
                have z := c8.blk HB5.out (by simp only [List.mem_cons, not_or]; exact ⟨hyw, nb1⟩)
                exact ⟨blk_cell z rfl, blk_cell z rfl, blk_cell z rfl⟩
              have HSB : Hid (∀ W, Chg [] w5 W → (W.cell? ⟨w.heap.size, 0, none⟩ = some (.int .u16 t) ∧ W.cell? ⟨w.heap.size, 1, none⟩ = some (.int .u16 u) ∧ W.cell? ⟨w.heap.size, 2, none⟩ = some (.int .u16 r))) := fun W hW => by
                obtain ⟨x1, x2, x3, _⟩ := HS6.out W hW
                exact ⟨x1, x2, x3⟩
              have HSB8 : Hid (∀ W w8, Chg [] w5 W → (W.alloc (.cells #[.int .i64 k, .int .u16 t, .int .u16 cu, .int .u16 cr, .int .u64 0] 168)).grownBy w8 (Value.slice bs mk.length cp).ownBlock → (w8.cell? ⟨w.heap.size, 0, none⟩ = some (.int .u16 t) ∧ w8.cell? ⟨w.heap.size, 1, none⟩ = some (.int .u16 u) ∧ w8.cell? ⟨w.heap.size, 2, none⟩ = some (.int .u16 r))) := fun W w8 hW hg => by
                obtain ⟨x1, x2, x3, _⟩ := HS8.out W w8 hW hg
                exact ⟨x1, x2, x3⟩
              obtain ⟨e0, e1, e2, _⟩ := HS6.out w5 (Chg.refl _ _)
              go_upto_region 25 with fail
              go_region_law (first | (go_simp; go_at_call 87; refine (HCut.out _).mono ?_; rintro e w6 ⟨rfl, q6⟩; have v6 : Chg [] w5 w6 := v1.trans q6 (by simp); obtain ⟨a60, a61, a62, a63⟩ := HS6.out _ v6; have y6 : w6.cell? ⟨yb, 16, none⟩ = some (.slice bs mk.length cp) := v6.cell y16 (by simp); have hy6 : yb < w6.heap.size := Nat.lt_of_lt_of_le hyl5 v6.size; dsimp only) | (obtain ⟨la8, cp8, w8, hr8, p8⟩ := HAP.out _ v6; refine step_app_run rfl (.tmp 75) (.tmp 81) 110 110 rfl (.slice bs mk.length cp) (.slice (some ⟨w6.heap.size, 0, none⟩) 1 1) (by simp [Act.eval, Act.put]) (by simp [Act.eval, Act.put]) hr8 ?_; obtain ⟨z80, z81, z82, z83⟩ := HS8.out _ _ v6 p8.2.1; have yf8 : w8.frozen? ⟨yb, 16, none⟩ = false := blk_free (HY8.out _ _ v6 p8.2.1)) | fail)
              all_goals
                have HR6 : RefAt (w6.alloc (.cells #[.int .i64 k, .int .u16 t, .int .u16 cu, .int .u16 cr, .int .u64 0] 168)) yb sk := HR5.out.chg (v6.alloc _) (by simp)
                have hcat : mkcells mk ++ [.int .i64 k, .int .u16 t, .int .u16 cu, .int .u16 cr, .int .u64 0] = mkcells (mk ++ [⟨k, t, cu, cr, 0⟩]) := by simp [mkcells, mkc]
                obtain ⟨P1, P2⟩ := HR6.laid (ms := mk ++ [⟨k, t, cu, cr, 0⟩]) (v := .slice la8 (mk.length + 1) cp8) (by rw [hskv]; exact p8.2.1) (by have := p8.1; rw [hcat] at this; simpa using this) (by rw [hskv]; exact p8.2.2.elim Or.inl (fun h => Or.inr ⟨_, h, Nat.le_refl _⟩))
                have c9 : Chg (yb :: own (.slice bs mk.length cp)) w5 (w8.setCell ⟨yb, 16, none⟩ (.slice la8 (mk.length + 1) cp8)) := (((v6.alloc _).mono (by simp)).trans (Chg.of_grown p8.2.1 (l := yb :: own (.slice bs mk.length cp)) (fun b hb => List.mem_cons_of_mem _ (mem_own.2 hb))) (fun j hj => Or.inl hj)).set _ _ (Or.inl (by simp))
                have HS9 : Hid (RStp wl (w8.setCell ⟨yb, 16, none⟩ (.slice la8 (mk.length + 1) cp8)) yb s (s.marked (.slice la8 (mk.length + 1) cp8) (mk ++ [⟨k, t, cu, cr, 0⟩]))) := by
                  have e9 : sk.marked (.slice la8 (mk.length + 1) cp8) (mk ++ [⟨k, t, cu, cr, 0⟩]) = s.marked (.slice la8 (mk.length + 1) cp8) (mk ++ [⟨k, t, cu, cr, 0⟩]) := by rw [HSK.out]; rfl
                  rw [e9] at P2
                  exact (HS5.out.trans (RStp.of0 (v6.alloc _))).trans P2
                have HR9 : Hid (RefAt (w8.setCell ⟨yb, 16, none⟩ (.slice la8 (mk.length + 1) cp8)) yb (s.marked (.slice la8 (mk.length + 1) cp8) (mk ++ [⟨k, t, cu, cr, 0⟩]))) := by
                  have e9 : sk.marked (.slice la8 (mk.length + 1) cp8) (mk ++ [⟨k, t, cu, cr, 0⟩]) = s.marked (.slice la8 (mk.length + 1) cp8) (mk ++ [⟨k, t, cu, cr, 0⟩]) := by rw [HSK.out]; rfl
                  rw [e9] at P1
                  exact P1
                have hyw2 : yb ≠ w2.heap.size := fun e => by have := HFP.out yb (by simp [Rf.fp]); omega
                have gu9 : (w8.setCell ⟨yb, 16, none⟩ (.slice la8 (mk.length + 1) cp8)).cell? ⟨w2.heap.size, k, none⟩ = some (.int .u64 up) := c9.cell gu (by simp only [List.mem_cons, not_or]; exact ⟨Ne.symm hyw2, nb3⟩)
                clear e0 e1 e2 a60 a61 a62 a63
                have HW9 : Hid (wl.heap.size ≤ (w8.setCell ⟨yb, 16, none⟩ (.slice la8 (mk.length + 1) cp8)).heap.size) := HS9.out.chg.size
                clear P1 P2 HR6 hcat c9 z80 z81 z82 z83 yf8 p8 hr8 y16 yf gu
                obtain ⟨w9, hw9⟩ : ∃ w9, w9 = w8.setCell ⟨yb, 16, none⟩ (.slice la8 (mk.length + 1) cp8) := ⟨_, rfl⟩
                rw [← hw9] at HS9 HR9 gu9 HW9 ⊢
                have HMK9 : Hid (Rw w9 168 5 (.slice la8 (mk.length + 1) cp8) (mk ++ [(⟨k, t, cu, cr, 0⟩ : Mk)]).length (mkcells (mk ++ [(⟨k, t, cu, cr, 0⟩ : Mk)]))) := HR9.out.mks
                obtain ⟨m9, hm9⟩ : ∃ m9 : List Mk, m9 = mk ++ [⟨k, t, cu, cr, 0⟩] := ⟨_, rfl⟩
                have hi : mk.length < m9.length := by rw [hm9]; simp
                have hl9 : m9.length = mk.length + 1 := by rw [hm9]; simp
                have HPU9 : Hid (mkPut mk k t u r up = m9.set mk.length (m9[mk.length].to up)) := by
                  show _ = _
                  rw [HPU.out]
                  simp only [hm9]
                  rw [List.set_append_right _ _ (Nat.le_refl _)]
                  simp [Mk.to]
                rw [← hm9] at HMK9 HS9 HR9
                have y16 : w9.cell? ⟨yb, 16, none⟩ = some (.slice la8 (mk.length + 1) cp8) := blk_cell (i := 16) HR9.out.blk rfl
                have hyl9 := lt_of_block HR9.out.blk
                clear hm9 hw9
                rw [hl9] at HMK9
                obtain ⟨la, lb, lof, cap, hv, hla, hlen', hlt', hcell⟩ := HMK9.out.laid
                obtain ⟨rfl, hob⟩ := hla (by omega)
                have hlb := hlt' (by omega)
                injection hv with q1 q2 q3
                subst q1 q3
                clear q2
                have d4 : w9.cell? ⟨lb, lof + mk.length * 5 + 4, none⟩ = some (.int .u64 m9[mk.length].m) := by
                  rw [Nat.add_assoc]
                  exact hcell _ _ (by rw [mk_at _ (mk.length) hi 4 (by decide)]; rfl)
                have df : w9.frozen? ⟨lb, lof + mk.length * 5 + 4, none⟩ = false := by
                  rcases HMK9.out.2.2 with ⟨hv, _⟩ | ⟨b', cap', P, R, hv, hg, _⟩
                  · cases hv
                  · injection hv with x1
                    injection x1 with x1
                    injection x1 with x1
                    subst x1
                    exact blk_free hg
                have HEND : Hid (∀ W, Chg [] (w9.setCell ⟨lb, lof + mk.length * 5 + 4, none⟩ (.int .u64 up)) W → RefAt W yb (s.marked (.slice (some ⟨lb, lof, none⟩) (mk.length + 1) cp8) (m9.set mk.length (m9[mk.length].to up))) ∧ RStp wl W yb s (s.marked (.slice (some ⟨lb, lof, none⟩) (mk.length + 1) cp8) (m9.set mk.length (m9[mk.length].to up)))) := fun W hW => by
                  have hset := HMK9.out.set (j := mk.length * 5 + 4) (u := .int .u64 up) (by rw [HMK9.out.1]; omega) rfl
                  rw [mk_set m9 mk.length hi up, ← Nat.add_assoc] at hset
                  have hcc : Chg (own (s.marked (.slice (some ⟨lb, lof, none⟩) (mk.length + 1) cp8) m9).mv) w9 (w9.setCell ⟨lb, lof + mk.length * 5 + 4, none⟩ (.int .u64 up)) := (Chg.refl _ _).set _ _ (Or.inl (mem_own.2 hob))
                  obtain ⟨p1, p2⟩ := HR9.out.inPlace (ms := m9.set mk.length (m9[mk.length].to up)) hcc (by rw [List.length_set, hl9]; exact hset)
                  exact ⟨RefAt.chg (s := s.marked (.slice (some ⟨lb, lof, none⟩) (mk.length + 1) cp8) (m9.set mk.length (m9[mk.length].to up))) p1 hW (by simp), (HS9.out.trans p2).trans (RStp.of0 hW)⟩
                have hi2 : (mk.length : Int) < ((mk.length + 1 : Nat) : Int) := by omega
                clear hcell hla hlt' hob
                go_wp2_with fail
                go_region
                go_wp2_with fail
                go_roundw
                case rel =>
                  obtain ⟨p1, p2⟩ := HEND.out _ ((Chg.refl _ _).drew)
                  exact ⟨k + 1, by go_num, by omega, by rw [HSU.out, HPU9.out]; exact ⟨_, p1, p2⟩⟩
                case measure => simp [intOf]; omega
          · obtain rfl : k = 3 := by omega
            have r0 := blk_cell (i := 0) HRk.out rfl
            have r1 := blk_cell (i := 1) HRk.out rfl
            have r2 := blk_cell (i := 2) HRk.out rfl
            have rf := fun i => blk_free (i := i) HRk.out
            have HRA : Hid (RefAt wr yb (s.marked v (msTo s.ms t u r f 3))) := hra
            clear hra hrs
            go_wp2
            have rr := blk_set (i := 2) (.int .u64 0) (blk_set (i := 1) (.int .i64 0) (blk_set (i := 0) (.int .i64 0) HRk.out))
            have cc : Chg [w.heap.size + 1] wr (((wr.setCell ⟨w.heap.size + 1, 0, none⟩ (.int .i64 0)).setCell ⟨w.heap.size + 1, 1, none⟩ (.int .i64 0)).setCell ⟨w.heap.size + 1, 2, none⟩ (.int .u64 0)) := (((Chg.refl _ _).set _ _ (Or.inl (by simp))).set _ _ (Or.inl (by simp))).set _ _ (Or.inl (by simp))
            have hnf : ∀ b ∈ (s.marked v (msTo s.ms t u r f 3)).fp yb, b ∉ [w.heap.size + 1] := fun b hb => by
              simp only [List.mem_cons, List.not_mem_nil, or_false]
              rintro rfl
              rcases HRS.out.new _ hb with h1 | h1
              · have := HFP.out _ h1; omega
              · have := lt_of_block HRl.out; omega
            refine bodyPost_ret (v := .tuple #[.agg #[.int .i64 0, .int .i64 0, .int .u64 0], .int .i64 0]) (results_cell2 rfl rfl rfl (load42 rr rfl rfl rfl)) rfl ⟨fun h => by omega, fun _ _ => ⟨by rw [HX.out]; rfl, v, ?_, ?_⟩⟩
            · rw [HM.out]
              exact HRA.out.chg cc hnf
            · rw [HM.out]
              exact ⟨((HWl.out.mono (by simp)).trans HRS.out.chg (fun j hj => Or.inl hj)).trans cc (fun j hj => by simp at hj; subst hj; exact Or.inr (by omega)), fun b hb => by
                rcases HRS.out.new b hb with h1 | h1
                · exact Or.inl h1
                · exact Or.inr (by omega)⟩
      · have hfo : fstOf (1, xb, xc) = xb := rfl
        rw [hfo]
        have HX : Hid (s.rep cost t u r = (1, xb, xc)) := by show _ = _; rw [HREP.out, if_pos HRO.out, hxx]
        have HM : Hid (s.ms' cost t u r = s.ms) := by show _ = _; rw [HMS.out, if_neg (fun h => by rw [hxx] at h; exact absurd h.2 (by simp))]
        clear hxx
        go_wp2
        have rr := blk_set (i := 2) (.int .u64 xc) (blk_set (i := 1) (.int .i64 xb) (blk_set (i := 0) (.int .i64 1) HZR.out))
        exact bodyPost_ret (v := .tuple #[.agg #[.int .i64 1, .int .i64 xb, .int .u64 xc], .int .i64 0]) (results_cell2 rfl rfl rfl (load42 rr rfl rfl rfl)) rfl (AllR.same hc1 hc2 HR.out (((HWr.out.set _ _ (Or.inr (by dsimp only; omega))).set _ _ (Or.inr (by dsimp only; omega))).set _ _ (Or.inr (by dsimp only; omega))) HX.out HM.out)
end Go.Proofs.YtbdnhllhdjepcaaGreat
