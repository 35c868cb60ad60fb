import Derived.Test.YtbdnhllhdjepcaaGreatCRate
import Derived.Test.YtbdnhllhdjepcaaGreatProg
import Derived.Conc.RwLib
import Derived.Conc.MuData
import Derived.KernelRfl
import Derived.Conc.MuLone
namespace Go.Proofs.YtbdnhllhdjepcaaGreat
set_option linter.unusedVariables false
set_option linter.unusedSimpArgs false
open Go.RowKit Go.Maps

/-- the mark at a key: 0, if none is kept -/
def markOf (D : DW) (l : Lit) : Int := num (D.atKey l (lu 0))
/-- what a level says of a request: the mark that it would leave, and the wait -/
def askAt (p : Pln) (D : DW) (now cost t u r : Int) (k : Nat) : Int × Int := ask (p.at_ k (plk t u r k)).1 (p.at_ k (plk t u r k)).2 (markOf D (plk t u r k)) now cost
/-- the reply behind the first k levels -/
def repTo (f : Nat → Int × Int) : Nat → Int × Int × Int
  | 0 => (0, 0, 0)
  | k + 1 => if (f k).2 = 0 then repTo f k else if (repTo f k).1 = 0 then (1, (k : Int), max (repTo f k).2.2 (f k).2) else ((repTo f k).1, (repTo f k).2.1, max (repTo f k).2.2 (f k).2)
def nxtTo (f : Nat → Int × Int) : Nat → List Value
  | 0 => [.int .u64 0, .int .u64 0, .int .u64 0]
  | 1 => [.int .u64 (f 0).1, .int .u64 0, .int .u64 0]
  | 2 => [.int .u64 (f 0).1, .int .u64 (f 1).1, .int .u64 0]
  | _ => [.int .u64 (f 0).1, .int .u64 (f 1).1, .int .u64 (f 2).1]
def repV (x : Int × Int × Int) : List Value := [.int .i64 x.1, .int .i64 x.2.1, .int .u64 x.2.2]

theorem bd_u64 {n : Int} (h : (Lit.int .u64 n).wf = true) : 0 ≤ n ∧ n ≤ 18446744073709551615 := by
  simp [Lit.wf, IntKind.min, IntKind.max, IntKind.signed, IntKind.bits] at h
  omega
theorem repTo_bd (f : Nat → Int × Int) (hf : ∀ j, 0 ≤ (f j).2 ∧ (f j).2 ≤ 18446744073709551615) (k : Nat) : 0 ≤ (repTo f k).1 ∧ (repTo f k).1 ≤ 1 ∧ 0 ≤ (repTo f k).2.2 ∧ (repTo f k).2.2 ≤ 18446744073709551615 := by
  induction k with
  | zero => simp [repTo]
  | succ k ih =>
    have := hf k
    unfold repTo
    split
    · exact ih
    · split
      · simp only; omega
      · simp only; omega

theorem lookm {w : World} {db n : Nat} {D : DW} {key : Value} {l : Lit} (hown : w.ownsMap Tryz.prog 196 (plainElem Tryz.prog 44) db n D) (hkey : keyOf Tryz.prog 196 key = some l) :
    0 ≤ markOf D l ∧ markOf D l ≤ 18446744073709551615 ∧ ∀ W, W.ownsMap Tryz.prog 196 (plainElem Tryz.prog 44) db n D → (Instr.lookup 191 (.map (some db)) key false).run Tryz.prog W = .ok (.int .u64 (markOf D l)) W := by
  obtain ⟨c, _, hat, hw⟩ := hown.lookup_int law140 Tryz.underlying191 Tryz.underlying44 (Tryz.zeroValue44 _) hkey
  have e : markOf D l = c := by unfold markOf lu; rw [hat]; rfl
  have hb := bd_u64 hw
  refine ⟨by omega, by omega, fun W hW => ?_⟩
  obtain ⟨c', hr, hat', _⟩ := hW.lookup_int law140 Tryz.underlying191 Tryz.underlying44 (Tryz.zeroValue44 _) hkey
  rw [hat] at hat'
  simp at hat'
  rw [e, hat']
  exact hr

set_option maxRecDepth 100000 in
set_option maxHeartbeats 4000000 in
theorem decide_any (sb pb ob db n : Nat) (p : Pln) (t u r cost now : Int) (D : DW) (w : World) (c2 : w.cell? ⟨sb, 2, none⟩ = some (.pointer (some ⟨pb, 0, none⟩))) (c4 : w.cell? ⟨sb, 4, none⟩ = some (.map (some db)))
    (hp : PlanAt w pb ob p) (hown : w.ownsMap Tryz.prog 196 (plainElem Tryz.prog 44) db n D) (ht : (Lit.int .u16 t).wf = true) (hu : (Lit.int .u16 u).wf = true) (hr : (Lit.int .u16 r).wf = true)
    (hgd : ∀ L l, Good (p.at_ L l)) (hmk : ∀ l, markOf D l ≤ 13835058055282163711) (hn : 0 ≤ now) (hn' : now ≤ 9223372036854775807) (hc : 1 ≤ cost) (hc' : cost ≤ 1000) :
    Calls Tryz.prog 102 #[.pointer (some ⟨sb, 0, none⟩), .agg (plv t u r), .int .i64 cost, .int .u64 now] w fun e w' =>
      e = .returned (.tuple #[.agg (nxtTo (askAt p D now cost t u r) 3).toArray, .agg (repV (repTo (askAt p D now cost t u r) 3)).toArray]) ∧ Chg [] w w' := by
  obtain ⟨f, hf⟩ : ∃ f, f = askAt p D now cost t u r := ⟨_, rfl⟩
  rw [← hf]
  have HF : Hid (f = askAt p D now cost t u r) := hf
  clear hf
  have hfb : ∀ j, 0 ≤ (f j).1 ∧ (f j).1 ≤ 18446744073709551615 ∧ 0 ≤ (f j).2 ∧ (f j).2 ≤ 18446744073709551615 := fun j => by
    have hg := hgd j (plk t u r j)
    have hm := lookm hown (plk_key ht hu hr j)
    have := ask_bd (mark := markOf D (plk t u r j)) hg.1 hg.2.1 hg.2.2 hm.1 (hmk _) hn hn' hc
    rw [HF.out]
    exact ⟨this.1, this.2.1, this.2.2.1, this.2.2.2.1⟩
  go_enter Tryz.func102, Tryz.ntmps102
  go_wp2_with fail
  go_loopw [18] (fun i wr => ∃ k : Nat, k ≤ 3 ∧ i = .int .i64 k ∧ Chg [] w wr ∧ wr.heap[w.heap.size + 1]? = some (.cells [.int .u64 0, .int .u64 0, .int .u64 0].toArray 162 (0, 0)) ∧ wr.heap[w.heap.size + 2]? = some (.cells [.int .i64 0, .int .i64 0, .int .u64 0].toArray 68 (0, 0)) ∧
      wr.heap[w.heap.size + 3]? = some (.cells (nxtTo f k).toArray 162 (0, 0)) ∧ wr.heap[w.heap.size + 4]? = some (.cells (repV (repTo f k)).toArray 68 (0, 0))) (fun i _ => 3 - (intOf i).toNat)
  case atStart =>
    refine ⟨0, by omega, rfl, ((((((Chg.refl _ _).alloc _).alloc _).alloc _).alloc _).alloc _), ?_, ?_, ?_, ?_⟩
    · exact blk_alloc (blk_alloc (blk_alloc (heap_alloc2_new _ _ _) _) _) _
    · exact blk_alloc (blk_alloc (b := w.heap.size + 2) (by have := heap_alloc2_new (w.alloc (.cells (plv t u r) 197)) (.cells #[.int .u64 0, .int .u64 0, .int .u64 0] 162) (.cells #[.int .i64 0, .int .i64 0, .int .u64 0] 68); simpa using this) _) _
    · exact blk_alloc (b := w.heap.size + 3) (by have := heap_alloc2_new ((w.alloc (.cells (plv t u r) 197)).alloc (.cells #[.int .u64 0, .int .u64 0, .int .u64 0] 162)) (.cells #[.int .i64 0, .int .i64 0, .int .u64 0] 68) (.cells #[.int .u64 0, .int .u64 0, .int .u64 0] 162); simpa [nxtTo] using this) _
    · have := heap_alloc2_new (((w.alloc (.cells (plv t u r) 197)).alloc (.cells #[.int .u64 0, .int .u64 0, .int .u64 0] 162)).alloc (.cells #[.int .i64 0, .int .i64 0, .int .u64 0] 68)) (.cells #[.int .u64 0, .int .u64 0, .int .u64 0] 162) (.cells #[.int .i64 0, .int .i64 0, .int .u64 0] 68)
      simpa [repV, repTo] using this
  case round =>
    obtain ⟨k, hk, rfl, hch, b1, b2, b3, b4⟩ := hrel
    by_cases hlt : k < 3
    · rcases (show k = 0 ∨ k = 1 ∨ k = 2 from by omega) with rfl | rfl | rfl
      · have hix := index0 t u r
        have hkey : keyOf Tryz.prog 196 (.agg #[.int .i64 0, .int .u16 t, .int .u16 0, .int .u16 0]) = some (kl 0 t 0 0) := keyOf_kl (by decide) ht (by decide) (by decide)
        have hownr := hch.map hown (by simp)
        have hlm := lookm hownr hkey
        have hmark := hmk (kl 0 t 0 0)
        have hg := hgd 0 (kl 0 t 0 0)
        have HFK : Hid (f 0 = ask (p.at_ 0 (kl 0 t 0 0)).1 (p.at_ 0 (kl 0 t 0 0)).2 (markOf D (kl 0 t 0 0)) now cost) := by show f 0 = _; rw [HF.out]; rfl
        have hfk := hfb 0
        have hrb := repTo_bd f (fun j => ⟨(hfb j).2.2.1, (hfb j).2.2.2⟩) 0
        have hS : ∀ W, Chg [] (wr.alloc (.cells #[.int .i64 0, .int .u16 t, .int .u16 0, .int .u16 0] 196)) W → (W.cell? ⟨sb, 2, none⟩ = some (.pointer (some ⟨pb, 0, none⟩)) ∧ W.cell? ⟨sb, 4, none⟩ = some (.map (some db)) ∧ W.cell? ⟨wr.heap.size, 0, none⟩ = some (.int .i64 0) ∧ W.cell? ⟨wr.heap.size, 1, none⟩ = some (.int .u16 t) ∧ W.cell? ⟨wr.heap.size, 2, none⟩ = some (.int .u16 0) ∧ W.cell? ⟨wr.heap.size, 3, none⟩ = some (.int .u16 0) ∧
            (Instr.lookup 191 (.map (some db)) (.agg #[.int .i64 0, .int .u16 t, .int .u16 0, .int .u16 0]) false).run Tryz.prog W = .ok (.int .u64 (markOf D (kl 0 t 0 0))) W) := fun W hW => by
          have hW' : Chg [] w W := (hch.alloc _).trans hW (by simp)
          have hb0 := hW.blk (heap_alloc_new wr (.cells [.int .i64 0, .int .u16 t, .int .u16 0, .int .u16 0].toArray 196)) (by simp)
          exact ⟨hW'.cell c2 (by simp), hW'.cell c4 (by simp), blk_cell hb0 rfl, blk_cell hb0 rfl, blk_cell hb0 rfl, blk_cell hb0 rfl, hlm.2.2 W (hW'.map hown (by simp))⟩
        have hP : ∀ W, Chg [] (wr.alloc (.cells #[.int .i64 0, .int .u16 t, .int .u16 0, .int .u16 0] 196)) W → PlanAt W pb ob p := fun W hW => hp.chg ((hch.alloc _).trans hW (by simp)) (by simp) (by simp)
        have hlm0 := hlm.1
        have hg1 := hg.1
        have hg2 := hg.2.1
        have hg3 := hg.2.2
        have hR := fun W hW => rateAt0 pb ob p t 0 0 W (hP W hW) hkey
        obtain ⟨iv, bu, hrt⟩ : ∃ iv bu, p.at_ 0 (kl 0 t 0 0) = (iv, bu) := ⟨_, _, rfl⟩
        rw [hrt] at hg1 hg2 hg3 HFK
        simp only [hrt] at hR
        simp only at hg1 hg2 hg3
        generalize hM : markOf D (kl 0 t 0 0) = m at *
        obtain ⟨x, y, hxy⟩ : ∃ x y, ask iv bu m now cost = (x, y) := ⟨_, _, rfl⟩
        have HXY : Hid (f 0 = (x, y)) := by show f 0 = _; rw [HFK.out]; exact hxy
        rw [HXY.out] at hfk
        simp only at hfk
        have hA := fun W => ask_any iv bu m now cost W hg1 hg2 hg3 hlm0 hmark hn hn' hc hc'
        rw [hxy] at hA
        have HA : Hid (∀ W, Calls Tryz.prog 139 #[.agg #[.int .u64 iv, .int .u64 bu], .int .u64 m, .int .u64 now, .int .i64 cost] W fun e w' => e = .returned (.tuple #[.int .u64 x, .int .u64 y]) ∧ Chg [] W w') := hA
        have HR : Hid (∀ W, Chg [] (wr.alloc (.cells #[.int .i64 0, .int .u16 t, .int .u16 0, .int .u16 0] 196)) W → Calls Tryz.prog 138 #[.pointer (some ⟨pb, 0, none⟩), .agg #[.int .i64 0, .int .u16 t, .int .u16 0, .int .u16 0]] W fun e w' => e = .returned (.agg #[.int .u64 iv, .int .u64 bu]) ∧ Chg [] W w') := hR
        have HS : Hid (∀ W, Chg [] (wr.alloc (.cells #[.int .i64 0, .int .u16 t, .int .u16 0, .int .u16 0] 196)) W → (W.cell? ⟨sb, 2, none⟩ = some (.pointer (some ⟨pb, 0, none⟩)) ∧ W.cell? ⟨sb, 4, none⟩ = some (.map (some db)) ∧ W.cell? ⟨wr.heap.size, 0, none⟩ = some (.int .i64 0) ∧ W.cell? ⟨wr.heap.size, 1, none⟩ = some (.int .u16 t) ∧ W.cell? ⟨wr.heap.size, 2, none⟩ = some (.int .u16 0) ∧ W.cell? ⟨wr.heap.size, 3, none⟩ = some (.int .u16 0) ∧
            (Instr.lookup 191 (.map (some db)) (.agg #[.int .i64 0, .int .u16 t, .int .u16 0, .int .u16 0]) false).run Tryz.prog W = .ok (.int .u64 m) W)) := hS
        clear hA hR hS hxy HFK hP HF hrt hM hlm hg hmk hgd hfb hkey hmark hg1 hg2 hg3 hlm0 hownr
        obtain ⟨st, lv, rt, hrep⟩ : ∃ st lv rt, repTo f 0 = (st, lv, rt) := ⟨_, _, _, rfl⟩
        have HREP : Hid (repTo f 0 = (st, lv, rt)) := hrep
        rw [hrep] at b4 hrb
        simp only [repV] at b4 hrb
        clear hrep
        go_wp2_with fail
        go_region_held3 (fun W => W.cell? ⟨sb, 2, none⟩ = some (.pointer (some ⟨pb, 0, none⟩)) ∧ W.cell? ⟨sb, 4, none⟩ = some (.map (some db)) ∧ W.cell? ⟨wr.heap.size, 0, none⟩ = some (.int .i64 0) ∧ W.cell? ⟨wr.heap.size, 1, none⟩ = some (.int .u16 t) ∧ W.cell? ⟨wr.heap.size, 2, none⟩ = some (.int .u16 0) ∧ W.cell? ⟨wr.heap.size, 3, none⟩ = some (.int .u16 0) ∧
            (Instr.lookup 191 (.map (some db)) (.agg #[.int .i64 0, .int .u16 t, .int .u16 0, .int .u16 0]) false).run Tryz.prog W = .ok (.int .u64 m) W)
          (first | exact HS.out _ ((Chg.refl _ _).drew) | exact HS.out _ (((Chg.refl _ _).drew).trans hg4 (by simp)) | exact HS.out _ ((((Chg.refl _ _).drew).trans hg4 (by simp)).trans hg5 (by simp)))
          (first | (go_at_call 138; refine (HR.out _ ((Chg.refl _ _).drew)).mono ?_; rintro e w2 ⟨rfl, hg4⟩) | (go_at_call 139; refine (HA.out _).mono ?_; rintro e w3 ⟨rfl, hg5⟩))
        all_goals
          have hq : Chg [] wr w3 := ((((Chg.refl _ _).alloc _).drew).trans hg4 (by simp)).trans hg5 (by simp)
          have b1' := hq.blk b1 (by simp)
          have b2' := hq.blk b2 (by simp)
          have b3' := hq.blk b3 (by simp)
          have b4' := hq.blk b4 (by simp)
          have hch3 := hch.trans hq (by simp)
          have e3 : w3.cell? ⟨w.heap.size + 3, 0, none⟩ = some (.int .u64 0) := blk_cell (i := 0) b3' rfl
          have f3 : w3.frozen? ⟨w.heap.size + 3, 0, none⟩ = false := blk_free b3'
          have e40 := blk_cell (i := 0) b4' rfl
          have e41 := blk_cell (i := 1) b4' rfl
          have e42 := blk_cell (i := 2) b4' rfl
          have f40 : w3.frozen? ⟨w.heap.size + 4, 0, none⟩ = false := blk_free b4'
          have f41 : w3.frozen? ⟨w.heap.size + 4, 1, none⟩ = false := blk_free b4'
          have f42 : w3.frozen? ⟨w.heap.size + 4, 2, none⟩ = false := blk_free b4'
          have hl3 := lt_of_block b4'
          have HB1 : Hid (w3.heap[w.heap.size + 1]? = some (.cells [.int .u64 0, .int .u64 0, .int .u64 0].toArray 162 (0, 0))) := b1'
          have HB2 : Hid (w3.heap[w.heap.size + 2]? = some (.cells [.int .i64 0, .int .i64 0, .int .u64 0].toArray 68 (0, 0))) := b2'
          have HB3 : Hid (w3.heap[w.heap.size + 3]? = some (.cells (nxtTo f 0).toArray 162 (0, 0))) := b3'
          have HB4 : Hid (w3.heap[w.heap.size + 4]? = some (.cells [.int .i64 st, .int .i64 lv, .int .u64 rt].toArray 68 (0, 0))) := b4'
          clear b1' b2' b3' b4' hq hg4 hg5 HS HA HR hix
          by_cases hy : y = 0
          · have HR2 : Hid (repTo f 1 = (st, lv, rt)) := by show _ = _; unfold repTo; rw [HXY.out, HREP.out]; simp [hy]
            go_wp2
            go_roundw
            case rel =>
              refine ⟨1, by omega, by go_num, (hch3).set _ _ (Or.inr (by dsimp only; omega)), ?_, ?_, ?_, ?_⟩
              · exact blk_set_far (HB1.out) (by omega)
              · exact blk_set_far (HB2.out) (by omega)
              · rw [show nxtTo f 1 = (nxtTo f 0).set 0 (.int .u64 x) from by simp [nxtTo, HXY.out]]
                exact blk_set (i := 0) (.int .u64 x) HB3.out
              · rw [HR2.out]
                exact blk_set_far (HB4.out) (by omega)
            case measure => simp [intOf]
          · by_cases hs : st = 0
            · have HR2 : Hid (repTo f 1 = (1, 0, max rt y)) := by show _ = _; unfold repTo; rw [HXY.out, HREP.out]; simp [hy, hs]
              go_wp2
              go_roundw
              case rel =>
                refine ⟨1, by omega, by go_num, ((((hch3).set _ _ (Or.inr (by dsimp only; omega))).set _ _ (Or.inr (by dsimp only; omega))).set _ _ (Or.inr (by dsimp only; omega))).set _ _ (Or.inr (by dsimp only; omega)), ?_, ?_, ?_, ?_⟩
                · exact blk_set_far (blk_set_far (blk_set_far (blk_set_far (HB1.out) (by omega)) (by omega)) (by omega)) (by omega)
                · exact blk_set_far (blk_set_far (blk_set_far (blk_set_far (HB2.out) (by omega)) (by omega)) (by omega)) (by omega)
                · rw [show nxtTo f 1 = (nxtTo f 0).set 0 (.int .u64 x) from by simp [nxtTo, HXY.out]]
                  exact blk_set_far (blk_set_far (blk_set_far (blk_set (i := 0) (.int .u64 x) HB3.out) (by omega)) (by omega)) (by omega)
                · rw [HR2.out]
                  have hb4 := blk_set (i := 2) (.int .u64 (max rt y)) (blk_set (i := 1) (.int .i64 0) (blk_set (i := 0) (.int .i64 1) (blk_set_far (k := w.heap.size + 3) (i := 0) (u := .int .u64 x) HB4.out (by omega))))
                  exact hb4
              case measure => simp [intOf]
            · have HR2 : Hid (repTo f 1 = (st, lv, max rt y)) := by show _ = _; unfold repTo; rw [HXY.out, HREP.out]; simp [hy, hs]
              go_wp2
              go_roundw
              case rel =>
                refine ⟨1, by omega, by go_num, ((hch3).set _ _ (Or.inr (by dsimp only; omega))).set _ _ (Or.inr (by dsimp only; omega)), ?_, ?_, ?_, ?_⟩
                · exact blk_set_far (blk_set_far (HB1.out) (by omega)) (by omega)
                · exact blk_set_far (blk_set_far (HB2.out) (by omega)) (by omega)
                · rw [show nxtTo f 1 = (nxtTo f 0).set 0 (.int .u64 x) from by simp [nxtTo, HXY.out]]
                  exact blk_set_far (blk_set (i := 0) (.int .u64 x) HB3.out) (by omega)
                · rw [HR2.out]
                  have hb4 := blk_set (i := 2) (.int .u64 (max rt y)) (blk_set_far (k := w.heap.size + 3) (i := 0) (u := .int .u64 x) HB4.out (by omega))
                  exact hb4
              case measure => simp [intOf]
      · have hix := index1 t u r
        have hkey : keyOf Tryz.prog 196 (.agg #[.int .i64 1, .int .u16 t, .int .u16 u, .int .u16 0]) = some (kl 1 t u 0) := keyOf_kl (by decide) ht hu (by decide)
        have hownr := hch.map hown (by simp)
        have hlm := lookm hownr hkey
        have hmark := hmk (kl 1 t u 0)
        have hg := hgd 1 (kl 1 t u 0)
        have HFK : Hid (f 1 = ask (p.at_ 1 (kl 1 t u 0)).1 (p.at_ 1 (kl 1 t u 0)).2 (markOf D (kl 1 t u 0)) now cost) := by show f 1 = _; rw [HF.out]; rfl
        have hfk := hfb 1
        have hrb := repTo_bd f (fun j => ⟨(hfb j).2.2.1, (hfb j).2.2.2⟩) 1
        have hS : ∀ W, Chg [] (wr.alloc (.cells #[.int .i64 1, .int .u16 t, .int .u16 u, .int .u16 0] 196)) W → (W.cell? ⟨sb, 2, none⟩ = some (.pointer (some ⟨pb, 0, none⟩)) ∧ W.cell? ⟨sb, 4, none⟩ = some (.map (some db)) ∧ W.cell? ⟨wr.heap.size, 0, none⟩ = some (.int .i64 1) ∧ W.cell? ⟨wr.heap.size, 1, none⟩ = some (.int .u16 t) ∧ W.cell? ⟨wr.heap.size, 2, none⟩ = some (.int .u16 u) ∧ W.cell? ⟨wr.heap.size, 3, none⟩ = some (.int .u16 0) ∧
            (Instr.lookup 191 (.map (some db)) (.agg #[.int .i64 1, .int .u16 t, .int .u16 u, .int .u16 0]) false).run Tryz.prog W = .ok (.int .u64 (markOf D (kl 1 t u 0))) W) := fun W hW => by
          have hW' : Chg [] w W := (hch.alloc _).trans hW (by simp)
          have hb0 := hW.blk (heap_alloc_new wr (.cells [.int .i64 1, .int .u16 t, .int .u16 u, .int .u16 0].toArray 196)) (by simp)
          exact ⟨hW'.cell c2 (by simp), hW'.cell c4 (by simp), blk_cell hb0 rfl, blk_cell hb0 rfl, blk_cell hb0 rfl, blk_cell hb0 rfl, hlm.2.2 W (hW'.map hown (by simp))⟩
        have hP : ∀ W, Chg [] (wr.alloc (.cells #[.int .i64 1, .int .u16 t, .int .u16 u, .int .u16 0] 196)) W → PlanAt W pb ob p := fun W hW => hp.chg ((hch.alloc _).trans hW (by simp)) (by simp) (by simp)
        have hlm0 := hlm.1
        have hg1 := hg.1
        have hg2 := hg.2.1
        have hg3 := hg.2.2
        have hR := fun W hW => rateAt1 pb ob p t u 0 W (hP W hW) hkey
        obtain ⟨iv, bu, hrt⟩ : ∃ iv bu, p.at_ 1 (kl 1 t u 0) = (iv, bu) := ⟨_, _, rfl⟩
        rw [hrt] at hg1 hg2 hg3 HFK
        simp only [hrt] at hR
        simp only at hg1 hg2 hg3
        generalize hM : markOf D (kl 1 t u 0) = m at *
        obtain ⟨x, y, hxy⟩ : ∃ x y, ask iv bu m now cost = (x, y) := ⟨_, _, rfl⟩
        have HXY : Hid (f 1 = (x, y)) := by show f 1 = _; rw [HFK.out]; exact hxy
        rw [HXY.out] at hfk
        simp only at hfk
        have hA := fun W => ask_any iv bu m now cost W hg1 hg2 hg3 hlm0 hmark hn hn' hc hc'
        rw [hxy] at hA
        have HA : Hid (∀ W, Calls Tryz.prog 139 #[.agg #[.int .u64 iv, .int .u64 bu], .int .u64 m, .int .u64 now, .int .i64 cost] W fun e w' => e = .returned (.tuple #[.int .u64 x, .int .u64 y]) ∧ Chg [] W w') := hA
        have HR : Hid (∀ W, Chg [] (wr.alloc (.cells #[.int .i64 1, .int .u16 t, .int .u16 u, .int .u16 0] 196)) W → Calls Tryz.prog 138 #[.pointer (some ⟨pb, 0, none⟩), .agg #[.int .i64 1, .int .u16 t, .int .u16 u, .int .u16 0]] W fun e w' => e = .returned (.agg #[.int .u64 iv, .int .u64 bu]) ∧ Chg [] W w') := hR
        have HS : Hid (∀ W, Chg [] (wr.alloc (.cells #[.int .i64 1, .int .u16 t, .int .u16 u, .int .u16 0] 196)) W → (W.cell? ⟨sb, 2, none⟩ = some (.pointer (some ⟨pb, 0, none⟩)) ∧ W.cell? ⟨sb, 4, none⟩ = some (.map (some db)) ∧ W.cell? ⟨wr.heap.size, 0, none⟩ = some (.int .i64 1) ∧ W.cell? ⟨wr.heap.size, 1, none⟩ = some (.int .u16 t) ∧ W.cell? ⟨wr.heap.size, 2, none⟩ = some (.int .u16 u) ∧ W.cell? ⟨wr.heap.size, 3, none⟩ = some (.int .u16 0) ∧
            (Instr.lookup 191 (.map (some db)) (.agg #[.int .i64 1, .int .u16 t, .int .u16 u, .int .u16 0]) false).run Tryz.prog W = .ok (.int .u64 m) W)) := hS
        clear hA hR hS hxy HFK hP HF hrt hM hlm hg hmk hgd hfb hkey hmark hg1 hg2 hg3 hlm0 hownr
        obtain ⟨st, lv, rt, hrep⟩ : ∃ st lv rt, repTo f 1 = (st, lv, rt) := ⟨_, _, _, rfl⟩
        have HREP : Hid (repTo f 1 = (st, lv, rt)) := hrep
        rw [hrep] at b4 hrb
        simp only [repV] at b4 hrb
        clear hrep
        go_wp2_with fail
        go_region_held3 (fun W => W.cell? ⟨sb, 2, none⟩ = some (.pointer (some ⟨pb, 0, none⟩)) ∧ W.cell? ⟨sb, 4, none⟩ = some (.map (some db)) ∧ W.cell? ⟨wr.heap.size, 0, none⟩ = some (.int .i64 1) ∧ W.cell? ⟨wr.heap.size, 1, none⟩ = some (.int .u16 t) ∧ W.cell? ⟨wr.heap.size, 2, none⟩ = some (.int .u16 u) ∧ W.cell? ⟨wr.heap.size, 3, none⟩ = some (.int .u16 0) ∧
            (Instr.lookup 191 (.map (some db)) (.agg #[.int .i64 1, .int .u16 t, .int .u16 u, .int .u16 0]) false).run Tryz.prog W = .ok (.int .u64 m) W)
          (first | exact HS.out _ ((Chg.refl _ _).drew) | exact HS.out _ (((Chg.refl _ _).drew).trans hg4 (by simp)) | exact HS.out _ ((((Chg.refl _ _).drew).trans hg4 (by simp)).trans hg5 (by simp)))
          (first | (go_at_call 138; refine (HR.out _ ((Chg.refl _ _).drew)).mono ?_; rintro e w2 ⟨rfl, hg4⟩) | (go_at_call 139; refine (HA.out _).mono ?_; rintro e w3 ⟨rfl, hg5⟩))
        all_goals
          have hq : Chg [] wr w3 := ((((Chg.refl _ _).alloc _).drew).trans hg4 (by simp)).trans hg5 (by simp)
          have b1' := hq.blk b1 (by simp)
          have b2' := hq.blk b2 (by simp)
          have b3' := hq.blk b3 (by simp)
          have b4' := hq.blk b4 (by simp)
          have hch3 := hch.trans hq (by simp)
          have e3 : w3.cell? ⟨w.heap.size + 3, 1, none⟩ = some (.int .u64 0) := blk_cell (i := 1) b3' rfl
          have f3 : w3.frozen? ⟨w.heap.size + 3, 1, none⟩ = false := blk_free b3'
          have e40 := blk_cell (i := 0) b4' rfl
          have e41 := blk_cell (i := 1) b4' rfl
          have e42 := blk_cell (i := 2) b4' rfl
          have f40 : w3.frozen? ⟨w.heap.size + 4, 0, none⟩ = false := blk_free b4'
          have f41 : w3.frozen? ⟨w.heap.size + 4, 1, none⟩ = false := blk_free b4'
          have f42 : w3.frozen? ⟨w.heap.size + 4, 2, none⟩ = false := blk_free b4'
          have hl3 := lt_of_block b4'
          have HB1 : Hid (w3.heap[w.heap.size + 1]? = some (.cells [.int .u64 0, .int .u64 0, .int .u64 0].toArray 162 (0, 0))) := b1'
          have HB2 : Hid (w3.heap[w.heap.size + 2]? = some (.cells [.int .i64 0, .int .i64 0, .int .u64 0].toArray 68 (0, 0))) := b2'
          have HB3 : Hid (w3.heap[w.heap.size + 3]? = some (.cells (nxtTo f 1).toArray 162 (0, 0))) := b3'
          have HB4 : Hid (w3.heap[w.heap.size + 4]? = some (.cells [.int .i64 st, .int .i64 lv, .int .u64 rt].toArray 68 (0, 0))) := b4'
          clear b1' b2' b3' b4' hq hg4 hg5 HS HA HR hix
          by_cases hy : y = 0
          · have HR2 : Hid (repTo f 2 = (st, lv, rt)) := by show _ = _; unfold repTo; rw [HXY.out, HREP.out]; simp [hy]
            go_wp2
            go_roundw
            case rel =>
              refine ⟨2, by omega, by go_num, (hch3).set _ _ (Or.inr (by dsimp only; omega)), ?_, ?_, ?_, ?_⟩
              · exact blk_set_far (HB1.out) (by omega)
              · exact blk_set_far (HB2.out) (by omega)
              · rw [show nxtTo f 2 = (nxtTo f 1).set 1 (.int .u64 x) from by simp [nxtTo, HXY.out]]
                exact blk_set (i := 1) (.int .u64 x) HB3.out
              · rw [HR2.out]
                exact blk_set_far (HB4.out) (by omega)
            case measure => simp [intOf]
          · by_cases hs : st = 0
            · have HR2 : Hid (repTo f 2 = (1, 1, max rt y)) := by show _ = _; unfold repTo; rw [HXY.out, HREP.out]; simp [hy, hs]
              go_wp2
              go_roundw
              case rel =>
                refine ⟨2, by omega, by go_num, ((((hch3).set _ _ (Or.inr (by dsimp only; omega))).set _ _ (Or.inr (by dsimp only; omega))).set _ _ (Or.inr (by dsimp only; omega))).set _ _ (Or.inr (by dsimp only; omega)), ?_, ?_, ?_, ?_⟩
                · exact blk_set_far (blk_set_far (blk_set_far (blk_set_far (HB1.out) (by omega)) (by omega)) (by omega)) (by omega)
                · exact blk_set_far (blk_set_far (blk_set_far (blk_set_far (HB2.out) (by omega)) (by omega)) (by omega)) (by omega)
                · rw [show nxtTo f 2 = (nxtTo f 1).set 1 (.int .u64 x) from by simp [nxtTo, HXY.out]]
                  exact blk_set_far (blk_set_far (blk_set_far (blk_set (i := 1) (.int .u64 x) HB3.out) (by omega)) (by omega)) (by omega)
                · rw [HR2.out]
                  have hb4 := blk_set (i := 2) (.int .u64 (max rt y)) (blk_set (i := 1) (.int .i64 1) (blk_set (i := 0) (.int .i64 1) (blk_set_far (k := w.heap.size + 3) (i := 1) (u := .int .u64 x) HB4.out (by omega))))
                  exact hb4
              case measure => simp [intOf]
            · have HR2 : Hid (repTo f 2 = (st, lv, max rt y)) := by show _ = _; unfold repTo; rw [HXY.out, HREP.out]; simp [hy, hs]
              go_wp2
              go_roundw
              case rel =>
                refine ⟨2, by omega, by go_num, ((hch3).set _ _ (Or.inr (by dsimp only; omega))).set _ _ (Or.inr (by dsimp only; omega)), ?_, ?_, ?_, ?_⟩
                · exact blk_set_far (blk_set_far (HB1.out) (by omega)) (by omega)
                · exact blk_set_far (blk_set_far (HB2.out) (by omega)) (by omega)
                · rw [show nxtTo f 2 = (nxtTo f 1).set 1 (.int .u64 x) from by simp [nxtTo, HXY.out]]
                  exact blk_set_far (blk_set (i := 1) (.int .u64 x) HB3.out) (by omega)
                · rw [HR2.out]
                  have hb4 := blk_set (i := 2) (.int .u64 (max rt y)) (blk_set_far (k := w.heap.size + 3) (i := 1) (u := .int .u64 x) HB4.out (by omega))
                  exact hb4
              case measure => simp [intOf]
      · have hix := index2 t u r
        have hkey : keyOf Tryz.prog 196 (.agg #[.int .i64 2, .int .u16 t, .int .u16 u, .int .u16 r]) = some (kl 2 t u r) := keyOf_kl (by decide) ht hu hr
        have hownr := hch.map hown (by simp)
        have hlm := lookm hownr hkey
        have hmark := hmk (kl 2 t u r)
        have hg := hgd 2 (kl 2 t u r)
        have HFK : Hid (f 2 = ask (p.at_ 2 (kl 2 t u r)).1 (p.at_ 2 (kl 2 t u r)).2 (markOf D (kl 2 t u r)) now cost) := by show f 2 = _; rw [HF.out]; rfl
        have hfk := hfb 2
        have hrb := repTo_bd f (fun j => ⟨(hfb j).2.2.1, (hfb j).2.2.2⟩) 2
        have hS : ∀ W, Chg [] (wr.alloc (.cells #[.int .i64 2, .int .u16 t, .int .u16 u, .int .u16 r] 196)) W → (W.cell? ⟨sb, 2, none⟩ = some (.pointer (some ⟨pb, 0, none⟩)) ∧ W.cell? ⟨sb, 4, none⟩ = some (.map (some db)) ∧ W.cell? ⟨wr.heap.size, 0, none⟩ = some (.int .i64 2) ∧ W.cell? ⟨wr.heap.size, 1, none⟩ = some (.int .u16 t) ∧ W.cell? ⟨wr.heap.size, 2, none⟩ = some (.int .u16 u) ∧ W.cell? ⟨wr.heap.size, 3, none⟩ = some (.int .u16 r) ∧
            (Instr.lookup 191 (.map (some db)) (.agg #[.int .i64 2, .int .u16 t, .int .u16 u, .int .u16 r]) false).run Tryz.prog W = .ok (.int .u64 (markOf D (kl 2 t u r))) W) := fun W hW => by
          have hW' : Chg [] w W := (hch.alloc _).trans hW (by simp)
          have hb0 := hW.blk (heap_alloc_new wr (.cells [.int .i64 2, .int .u16 t, .int .u16 u, .int .u16 r].toArray 196)) (by simp)
          exact ⟨hW'.cell c2 (by simp), hW'.cell c4 (by simp), blk_cell hb0 rfl, blk_cell hb0 rfl, blk_cell hb0 rfl, blk_cell hb0 rfl, hlm.2.2 W (hW'.map hown (by simp))⟩
        have hP : ∀ W, Chg [] (wr.alloc (.cells #[.int .i64 2, .int .u16 t, .int .u16 u, .int .u16 r] 196)) W → PlanAt W pb ob p := fun W hW => hp.chg ((hch.alloc _).trans hW (by simp)) (by simp) (by simp)
        have hlm0 := hlm.1
        have hg1 := hg.1
        have hg2 := hg.2.1
        have hg3 := hg.2.2
        have hR := fun W hW => rateAt2 pb ob p t u r W (hP W hW) hkey
        obtain ⟨iv, bu, hrt⟩ : ∃ iv bu, p.at_ 2 (kl 2 t u r) = (iv, bu) := ⟨_, _, rfl⟩
        rw [hrt] at hg1 hg2 hg3 HFK
        simp only [hrt] at hR
        simp only at hg1 hg2 hg3
        generalize hM : markOf D (kl 2 t u r) = m at *
        obtain ⟨x, y, hxy⟩ : ∃ x y, ask iv bu m now cost = (x, y) := ⟨_, _, rfl⟩
        have HXY : Hid (f 2 = (x, y)) := by show f 2 = _; rw [HFK.out]; exact hxy
        rw [HXY.out] at hfk
        simp only at hfk
        have hA := fun W => ask_any iv bu m now cost W hg1 hg2 hg3 hlm0 hmark hn hn' hc hc'
        rw [hxy] at hA
        have HA : Hid (∀ W, Calls Tryz.prog 139 #[.agg #[.int .u64 iv, .int .u64 bu], .int .u64 m, .int .u64 now, .int .i64 cost] W fun e w' => e = .returned (.tuple #[.int .u64 x, .int .u64 y]) ∧ Chg [] W w') := hA
        have HR : Hid (∀ W, Chg [] (wr.alloc (.cells #[.int .i64 2, .int .u16 t, .int .u16 u, .int .u16 r] 196)) W → Calls Tryz.prog 138 #[.pointer (some ⟨pb, 0, none⟩), .agg #[.int .i64 2, .int .u16 t, .int .u16 u, .int .u16 r]] W fun e w' => e = .returned (.agg #[.int .u64 iv, .int .u64 bu]) ∧ Chg [] W w') := hR
        have HS : Hid (∀ W, Chg [] (wr.alloc (.cells #[.int .i64 2, .int .u16 t, .int .u16 u, .int .u16 r] 196)) W → (W.cell? ⟨sb, 2, none⟩ = some (.pointer (some ⟨pb, 0, none⟩)) ∧ W.cell? ⟨sb, 4, none⟩ = some (.map (some db)) ∧ W.cell? ⟨wr.heap.size, 0, none⟩ = some (.int .i64 2) ∧ W.cell? ⟨wr.heap.size, 1, none⟩ = some (.int .u16 t) ∧ W.cell? ⟨wr.heap.size, 2, none⟩ = some (.int .u16 u) ∧ W.cell? ⟨wr.heap.size, 3, none⟩ = some (.int .u16 r) ∧
            (Instr.lookup 191 (.map (some db)) (.agg #[.int .i64 2, .int .u16 t, .int .u16 u, .int .u16 r]) false).run Tryz.prog W = .ok (.int .u64 m) W)) := hS
        clear hA hR hS hxy HFK hP HF hrt hM hlm hg hmk hgd hfb hkey hmark hg1 hg2 hg3 hlm0 hownr
        obtain ⟨st, lv, rt, hrep⟩ : ∃ st lv rt, repTo f 2 = (st, lv, rt) := ⟨_, _, _, rfl⟩
        have HREP : Hid (repTo f 2 = (st, lv, rt)) := hrep
        rw [hrep] at b4 hrb
        simp only [repV] at b4 hrb
        clear hrep
        go_wp2_with fail
        go_region_held3 (fun W => W.cell? ⟨sb, 2, none⟩ = some (.pointer (some ⟨pb, 0, none⟩)) ∧ W.cell? ⟨sb, 4, none⟩ = some (.map (some db)) ∧ W.cell? ⟨wr.heap.size, 0, none⟩ = some (.int .i64 2) ∧ W.cell? ⟨wr.heap.size, 1, none⟩ = some (.int .u16 t) ∧ W.cell? ⟨wr.heap.size, 2, none⟩ = some (.int .u16 u) ∧ W.cell? ⟨wr.heap.size, 3, none⟩ = some (.int .u16 r) ∧
            (Instr.lookup 191 (.map (some db)) (.agg #[.int .i64 2, .int .u16 t, .int .u16 u, .int .u16 r]) false).run Tryz.prog W = .ok (.int .u64 m) W)
          (first | exact HS.out _ ((Chg.refl _ _).drew) | exact HS.out _ (((Chg.refl _ _).drew).trans hg4 (by simp)) | exact HS.out _ ((((Chg.refl _ _).drew).trans hg4 (by simp)).trans hg5 (by simp)))
          (first | (go_at_call 138; refine (HR.out _ ((Chg.refl _ _).drew)).mono ?_; rintro e w2 ⟨rfl, hg4⟩) | (go_at_call 139; refine (HA.out _).mono ?_; rintro e w3 ⟨rfl, hg5⟩))
        all_goals
          have hq : Chg [] wr w3 := ((((Chg.refl _ _).alloc _).drew).trans hg4 (by simp)).trans hg5 (by simp)
          have b1' := hq.blk b1 (by simp)
          have b2' := hq.blk b2 (by simp)
          have b3' := hq.blk b3 (by simp)
          have b4' := hq.blk b4 (by simp)
          have hch3 := hch.trans hq (by simp)
          have e3 : w3.cell? ⟨w.heap.size + 3, 2, none⟩ = some (.int .u64 0) := blk_cell (i := 2) b3' rfl
          have f3 : w3.frozen? ⟨w.heap.size + 3, 2, none⟩ = false := blk_free b3'
          have e40 := blk_cell (i := 0) b4' rfl
          have e41 := blk_cell (i := 1) b4' rfl
          have e42 := blk_cell (i := 2) b4' rfl
          have f40 : w3.frozen? ⟨w.heap.size + 4, 0, none⟩ = false := blk_free b4'
          have f41 : w3.frozen? ⟨w.heap.size + 4, 1, none⟩ = false := blk_free b4'
          have f42 : w3.frozen? ⟨w.heap.size + 4, 2, none⟩ = false := blk_free b4'
          have hl3 := lt_of_block b4'
          have HB1 : Hid (w3.heap[w.heap.size + 1]? = some (.cells [.int .u64 0, .int .u64 0, .int .u64 0].toArray 162 (0, 0))) := b1'
          have HB2 : Hid (w3.heap[w.heap.size + 2]? = some (.cells [.int .i64 0, .int .i64 0, .int .u64 0].toArray 68 (0, 0))) := b2'
          have HB3 : Hid (w3.heap[w.heap.size + 3]? = some (.cells (nxtTo f 2).toArray 162 (0, 0))) := b3'
          have HB4 : Hid (w3.heap[w.heap.size + 4]? = some (.cells [.int .i64 st, .int .i64 lv, .int .u64 rt].toArray 68 (0, 0))) := b4'
          clear b1' b2' b3' b4' hq hg4 hg5 HS HA HR hix
          by_cases hy : y = 0
          · have HR2 : Hid (repTo f 3 = (st, lv, rt)) := by show _ = _; unfold repTo; rw [HXY.out, HREP.out]; simp [hy]
            go_wp2
            go_roundw
            case rel =>
              refine ⟨3, by omega, by go_num, (hch3).set _ _ (Or.inr (by dsimp only; omega)), ?_, ?_, ?_, ?_⟩
              · exact blk_set_far (HB1.out) (by omega)
              · exact blk_set_far (HB2.out) (by omega)
              · rw [show nxtTo f 3 = (nxtTo f 2).set 2 (.int .u64 x) from by simp [nxtTo, HXY.out]]
                exact blk_set (i := 2) (.int .u64 x) HB3.out
              · rw [HR2.out]
                exact blk_set_far (HB4.out) (by omega)
            case measure => simp [intOf]
          · by_cases hs : st = 0
            · have HR2 : Hid (repTo f 3 = (1, 2, max rt y)) := by show _ = _; unfold repTo; rw [HXY.out, HREP.out]; simp [hy, hs]
              go_wp2
              go_roundw
              case rel =>
                refine ⟨3, by omega, by go_num, ((((hch3).set _ _ (Or.inr (by dsimp only; omega))).set _ _ (Or.inr (by dsimp only; omega))).set _ _ (Or.inr (by dsimp only; omega))).set _ _ (Or.inr (by dsimp only; omega)), ?_, ?_, ?_, ?_⟩
                · exact blk_set_far (blk_set_far (blk_set_far (blk_set_far (HB1.out) (by omega)) (by omega)) (by omega)) (by omega)
                · exact blk_set_far (blk_set_far (blk_set_far (blk_set_far (HB2.out) (by omega)) (by omega)) (by omega)) (by omega)
                · rw [show nxtTo f 3 = (nxtTo f 2).set 2 (.int .u64 x) from by simp [nxtTo, HXY.out]]
                  exact blk_set_far (blk_set_far (blk_set_far (blk_set (i := 2) (.int .u64 x) HB3.out) (by omega)) (by omega)) (by omega)
                · rw [HR2.out]
                  have hb4 := blk_set (i := 2) (.int .u64 (max rt y)) (blk_set (i := 1) (.int .i64 2) (blk_set (i := 0) (.int .i64 1) (blk_set_far (k := w.heap.size + 3) (i := 2) (u := .int .u64 x) HB4.out (by omega))))
                  exact hb4
              case measure => simp [intOf]
            · have HR2 : Hid (repTo f 3 = (st, lv, max rt y)) := by show _ = _; unfold repTo; rw [HXY.out, HREP.out]; simp [hy, hs]
              go_wp2
              go_roundw
              case rel =>
                refine ⟨3, by omega, by go_num, ((hch3).set _ _ (Or.inr (by dsimp only; omega))).set _ _ (Or.inr (by dsimp only; omega)), ?_, ?_, ?_, ?_⟩
                · exact blk_set_far (blk_set_far (HB1.out) (by omega)) (by omega)
                · exact blk_set_far (blk_set_far (HB2.out) (by omega)) (by omega)
                · rw [show nxtTo f 3 = (nxtTo f 2).set 2 (.int .u64 x) from by simp [nxtTo, HXY.out]]
                  exact blk_set_far (blk_set (i := 2) (.int .u64 x) HB3.out) (by omega)
                · rw [HR2.out]
                  have hb4 := blk_set (i := 2) (.int .u64 (max rt y)) (blk_set_far (k := w.heap.size + 3) (i := 2) (u := .int .u64 x) HB4.out (by omega))
                  exact hb4
              case measure => simp [intOf]
    · obtain rfl : k = 3 := by omega
      simp only [nxtTo] at b3
      simp only [repV] at b4
      have g10 := blk_cell (i := 0) b1 rfl
      have g11 := blk_cell (i := 1) b1 rfl
      have g12 := blk_cell (i := 2) b1 rfl
      have g20 := blk_cell (i := 0) b2 rfl
      have g21 := blk_cell (i := 1) b2 rfl
      have g22 := blk_cell (i := 2) b2 rfl
      have g30 := blk_cell (i := 0) b3 rfl
      have g31 := blk_cell (i := 1) b3 rfl
      have g32 := blk_cell (i := 2) b3 rfl
      have g40 := blk_cell (i := 0) b4 rfl
      have g41 := blk_cell (i := 1) b4 rfl
      have g42 := blk_cell (i := 2) b4 rfl
      have f1 : ∀ i, wr.frozen? ⟨w.heap.size + 1, i, none⟩ = false := fun i => blk_free b1
      have f2 : ∀ i, wr.frozen? ⟨w.heap.size + 2, i, none⟩ = false := fun i => blk_free b2
      clear b1 b2 b3 b4 hfb hgd hmk
      go_wp2_with fail
      go_region
      go_wp2
      refine bodyPost_ret (v := .tuple #[.agg #[.int .u64 (f 0).1, .int .u64 (f 1).1, .int .u64 (f 2).1], .agg #[.int .i64 (repTo f 3).1, .int .i64 (repTo f 3).2.1, .int .u64 (repTo f 3).2.2]]) (by simp [results, Tryz.results102, go_sem, g10, g11, g12, g20, g21, g22]) rfl ⟨rfl, (((((((hch).set _ _ (Or.inr (by dsimp only; omega))).set _ _ (Or.inr (by dsimp only; omega))).set _ _ (Or.inr (by dsimp only; omega))).set _ _ (Or.inr (by dsimp only; omega))).set _ _ (Or.inr (by dsimp only; omega))).set _ _ (Or.inr (by dsimp only; omega))).drew⟩
end Go.Proofs.YtbdnhllhdjepcaaGreat
namespace Go.Proofs
set_option linter.unusedVariables false
set_option linter.unusedSimpArgs false
abbrev Tryz.muLink : Go.Conc.Locks.MuLink := { lock := 64, unlock := 73, ilock := 112, iunlock := 114, lockSlow := 141, unlockSlow := 142, disable := 63, enable := 67, acquire := 68, relMerge := 70, cas32 := 140, add32 := 113, tMutex := 84, tIMutex := 82, tPMutex := 143, tPIMutex := 236, tPI32 := 210, tUP := 142, tNoCopy := 80, tU32 := 53 }
theorem Tryz.muLib : Go.Conc.Locks.MuLib Tryz.prog Tryz.muLink :=
  ⟨Tryz.func64, Tryz.func73, Tryz.func112, Tryz.func114, Tryz.func63, Tryz.func67, Tryz.func68, Tryz.func70, Tryz.func140, Tryz.func113, Tryz.underlying82, Tryz.runUnderlying82, Tryz.sizeOf82, Tryz.isAgg82, Tryz.zeroValue82, Tryz.underlying84, Tryz.runUnderlying84, Tryz.sizeOf84, Tryz.isAgg84, Tryz.zeroValue84, Tryz.underlying143, Tryz.runUnderlying143, Tryz.sizeOf143, Tryz.isAgg143, Tryz.zeroValue143, Tryz.underlying236, Tryz.runUnderlying236, Tryz.sizeOf236, Tryz.isAgg236, Tryz.zeroValue236, Tryz.underlying210, Tryz.runUnderlying210, Tryz.sizeOf210, Tryz.isAgg210, Tryz.zeroValue210, Tryz.underlying142, Tryz.runUnderlying142, Tryz.sizeOf142, Tryz.isAgg142, Tryz.zeroValue142, Tryz.underlying80, Tryz.runUnderlying80, Tryz.sizeOf80, Tryz.isAgg80, Tryz.zeroValue80, Tryz.underlying21, Tryz.runUnderlying21, Tryz.sizeOf21, Tryz.isAgg21, Tryz.zeroValue21, (by kernel_rfl)⟩
abbrev Tryz.rwLink : Go.Conc.Locks.RwLink := { lock := 64, unlock := 73, ilock := 112, iunlock := 114, lockSlow := 141, unlockSlow := 142, disable := 63, enable := 67, acquire := 68, relMerge := 70, cas32 := 140, add32 := 113, tMutex := 84, tIMutex := 82, tPMutex := 143, tPIMutex := 236, tPI32 := 210, tUP := 142, tNoCopy := 80, tU32 := 53, rlock := 30, runlock := 31, wlock := 26, wunlock := 27, i32add := 65, raceRead := 62, release := 69, rUnlockSlow := 80, semacqR := 79, semacqW := 66, semrel := 72, sfatal := 71, tRW := 89, tPRW := 140, tAI32 := 87, tPAI32 := 208, tPU32 := 146, tANoCopy := 85 }
theorem Tryz.rwCore : Go.Conc.Locks.RwCore Tryz.prog Tryz.rwLink :=
  ⟨Tryz.func65, Tryz.func62, Tryz.func63, Tryz.func67, Tryz.func68, Tryz.func70, Tryz.func113, Tryz.underlying89, Tryz.runUnderlying89, Tryz.sizeOf89, Tryz.isAgg89, Tryz.zeroValue89, Tryz.underlying87, Tryz.runUnderlying87, Tryz.sizeOf87, Tryz.isAgg87, Tryz.zeroValue87, Tryz.underlying140, Tryz.runUnderlying140, Tryz.sizeOf140, Tryz.isAgg140, Tryz.zeroValue140, Tryz.underlying208, Tryz.runUnderlying208, Tryz.sizeOf208, Tryz.isAgg208, Tryz.zeroValue208, Tryz.underlying146, Tryz.runUnderlying146, Tryz.sizeOf146, Tryz.isAgg146, Tryz.zeroValue146, Tryz.underlying85, Tryz.runUnderlying85, Tryz.sizeOf85, Tryz.isAgg85, Tryz.zeroValue85, Tryz.underlying53, Tryz.runUnderlying53, Tryz.sizeOf53, Tryz.isAgg53, Tryz.zeroValue53, Tryz.underlying84, Tryz.runUnderlying84, Tryz.sizeOf84, Tryz.isAgg84, Tryz.zeroValue84, Tryz.underlying143, Tryz.runUnderlying143, Tryz.sizeOf143, Tryz.isAgg143, Tryz.zeroValue143, Tryz.underlying210, Tryz.runUnderlying210, Tryz.sizeOf210, Tryz.isAgg210, Tryz.zeroValue210, Tryz.underlying142, Tryz.runUnderlying142, Tryz.sizeOf142, Tryz.isAgg142, Tryz.zeroValue142, Tryz.underlying21, Tryz.runUnderlying21, Tryz.sizeOf21, Tryz.isAgg21, Tryz.zeroValue21, (by kernel_rfl), (by kernel_rfl)⟩
theorem Tryz.rwRLib : Go.Conc.Locks.RwRLib Tryz.prog Tryz.rwLink := ⟨Tryz.rwCore, Tryz.func30, Tryz.func31⟩
theorem Tryz.rwWLib : Go.Conc.Locks.RwWLib Tryz.prog Tryz.rwLink := ⟨Tryz.rwCore, Tryz.muLib, Tryz.func26, Tryz.func27, Tryz.func69, Tryz.underlying3, Tryz.runUnderlying3, Tryz.sizeOf3, Tryz.isAgg3, Tryz.zeroValue3⟩
end Go.Proofs
namespace Go.Proofs.YtbdnhllhdjepcaaGreat
set_option linter.unusedVariables false
set_option linter.unusedSimpArgs false
open Go.RowKit Go.Maps Go.MuLone

abbrev OM (w : World) (db n : Nat) (D : DW) : Prop := w.ownsMap Tryz.prog 196 (plainElem Tryz.prog 44) db n D
theorem tight {w : World} {db n : Nat} {D : DW} (h : OM w db n D) : OM w db (Maps.size D) D := by
  obtain ⟨es, clock, hb, F, hs, rfl⟩ := h
  refine ⟨es, clock, hb, F, ?_, rfl⟩
  rw [size_eq, length_read]
  exact Nat.le_refl _
/-- the map of marks in memory -/
def MapAt (w : World) (db : Nat) (D : DW) : Prop := ∃ n, OM w db n D
theorem MapAt.chg {l : List Nat} {w w' : World} {db : Nat} {D : DW} (h : MapAt w db D) (hc : Chg l w w') (hn : db ∉ l) : MapAt w' db D := h.imp fun _ hm => hc.map hm hn
theorem MapAt.lt {w : World} {db : Nat} {D : DW} (h : MapAt w db D) : db < w.heap.size := h.elim fun _ hm => hm.lt
theorem MapAt.ne {w : World} {db b : Nat} {D : DW} (h : MapAt w db D) {cs : Array Value} {t : TypeId} {fr : Nat × Nat} (hb : w.heap[b]? = some (.cells cs t fr)) : b ≠ db := fun e => by
  obtain ⟨_, _, _, hm, _⟩ := h
  rw [e, hm] at hb
  cases hb

/-- what a request does to a shard: the reply, and the marks behind it -/
def allowD (p : Pln) (slots : Int) (D : DW) (now cost t u r : Int) : (Int × Int × Int) × DW :=
  if (Maps.size (fgt now D) : Int) + miss (fgt now D) t u r 3 ≤ slots then
    if (repTo (askAt p (fgt now D) now cost t u r) 3).1 = 0 then
      (repTo (askAt p (fgt now D) now cost t u r) 3, putTo (fgt now D) t u r (askAt p (fgt now D) now cost t u r 0).1 (askAt p (fgt now D) now cost t u r 1).1 (askAt p (fgt now D) now cost t u r 2).1 3)
    else (repTo (askAt p (fgt now D) now cost t u r) 3, fgt now D)
  else ((2, 0, 0), fgt now D)

abbrev shardV (lk : Int) (pb db : Nat) (slots : Int) : List Value := [.int .i32 lk, .int .u32 0, .pointer (some ⟨pb, 0, none⟩), .int .i64 slots, .map (some db)]
def ShardAt (w : World) (sb pb db : Nat) (slots : Int) : Prop := w.heap[sb]? = some (.cells (shardV 0 pb db slots).toArray 193 (0, 0))

theorem size_fgt (now : Int) (D : DW) : Maps.size (fgt now D) ≤ Maps.size D := by
  cases D <;> simp [fgt, Maps.size]
  exact List.length_filter_le _ _
theorem forget_D (sb db n : Nat) (now : Int) (D : DW) (w : World) (c4 : w.cell? ⟨sb, 4, none⟩ = some (.map (some db))) (hown : OM w db n D) :
    Calls Tryz.prog 99 #[.pointer (some ⟨sb, 0, none⟩), .int .u64 now] w fun e w' => e = .returned (.tuple #[]) ∧ OM w' db n (fgt now D) ∧ Chg [db] w w' := by
  obtain ⟨es, rfl, _, _⟩ := hown.entries law140
  exact forget_any sb db n now es w c4 hown

theorem results_cell1 {fn : Func} {p : Tmp} {ty : TypeId} {tmps : Array Value} {P : Program} {w : World} {a : Addr} {v : Value} (h : fn.results = #[.cell p ty]) (ha : tmps.getD p undef = .pointer (some a)) (hl : (loadVar ty a).run P w = .ok v w) :
    (results fn tmps).run P w = .ok v w := by
  have e : (results fn tmps).run P w = ((asAddr (tmps.getD p undef)).run P w).andThen fun a w₁ => (loadVar ty a).run P w₁ := by
    simp only [results, h]
    simp [Sem.run_bind, Result.andThen]
  have e2 : (asAddr (.pointer (some a))).run P w = .ok a w := by simp [go_sem]
  rw [e, ha, e2]
  simp [Result.andThen, hl]
theorem load42 {W : World} {b : Nat} {x y z : Value} (h : W.heap[b]? = some (.cells [x, y, z].toArray 68 (0, 0))) (h1 : x.oneCell' = true) (h2 : y.oneCell' = true) (h3 : z.oneCell' = true) : (loadVar 68 ⟨b, 0, none⟩).run Tryz.prog W = .ok (.agg #[x, y, z]) W := by
  have c0 := blk_cell (i := 0) h rfl
  have c1 := blk_cell (i := 1) h rfl
  have c2 := blk_cell (i := 2) h rfl
  simp [go_sem, c0, c1, c2]

set_option maxRecDepth 100000 in
set_option maxHeartbeats 4000000 in
theorem sallow_any (sb pb ob db : Nat) (slots : Int) (p : Pln) (t u r cost now : Int) (D : DW) (w : World) (hs : ShardAt w sb pb db slots) (hp : PlanAt w pb ob p) (hm : MapAt w db D) (hod : ob ≠ db) (hsz : Maps.size D ≤ 999990)
    (ht : (Lit.int .u16 t).wf = true) (hu : (Lit.int .u16 u).wf = true) (hr : (Lit.int .u16 r).wf = true)
    (hgd : ∀ L l, Good (p.at_ L l)) (hmk : ∀ l, markOf (fgt now D) l ≤ 13835058055282163711) (hn : 0 ≤ now) (hn' : now ≤ 9223372036854775807) (hc : 1 ≤ cost) (hc' : cost ≤ 1000) :
    Calls Tryz.prog 53 #[.pointer (some ⟨sb, 0, none⟩), .agg #[.int .u16 t, .int .u16 u, .int .u16 r], .int .i64 cost, .int .u64 now] w fun e w' =>
      e = .returned (.agg (repV (allowD p slots D now cost t u r).1).toArray) ∧ MapAt w' db (allowD p slots D now cost t u r).2 ∧ Chg [db] w w' := by
  obtain ⟨n, hm0⟩ := hm
  have hown := tight hm0
  have hsd : sb ≠ db := MapAt.ne ⟨n, hm0⟩ hs
  have hsl := lt_of_block hs
  have hdl := hown.lt
  have hpl := lt_of_block hp.1
  have hpo : ob < w.heap.size := hp.2.elim fun _ h => h.lt
  have hpd : pb ≠ db := MapAt.ne ⟨n, hm0⟩ hp.1
  obtain ⟨w1, hw1⟩ : ∃ w1, w1 = (w.alloc (.cells [.int .u16 t, .int .u16 u, .int .u16 r].toArray 60)).alloc (.cells [.int .i64 0, .int .i64 0, .int .u64 0].toArray 68) := ⟨_, rfl⟩
  have hs1 : w1.heap[sb]? = some (.cells (shardV 0 pb db slots).toArray 193 (0, 0)) := hw1 ▸ blk_alloc (blk_alloc hs _) _
  have hk1 : w1.heap[w.heap.size]? = some (.cells [.int .u16 t, .int .u16 u, .int .u16 r].toArray 60 (0, 0)) := hw1 ▸ heap_alloc2_old _ _ _
  have hr1 : w1.heap[w.heap.size + 1]? = some (.cells [.int .i64 0, .int .i64 0, .int .u64 0].toArray 68 (0, 0)) := hw1 ▸ heap_alloc2_new _ _ _
  have ho1 : OM w1 db (Maps.size D) D := hw1 ▸ (hown.alloc _).alloc _
  have hch1 : Chg [sb, db] w w1 := hw1 ▸ ((Chg.refl _ _).alloc _).alloc _
  have hsz1 : w.heap.size + 2 ≤ w1.heap.size := by rw [hw1]; simp
  have HW1 : Hid (w1 = (w.alloc (.cells [.int .u16 t, .int .u16 u, .int .u16 r].toArray 60)).alloc (.cells [.int .i64 0, .int .i64 0, .int .u64 0].toArray 68)) := hw1
  clear hw1
  go_enter_defers Tryz.func53, Tryz.ntmps53
  go_wp2_with fail
  rw [show (w.alloc (.cells #[.int .u16 t, .int .u16 u, .int .u16 r] 60)).alloc (.cells #[.int .i64 0, .int .i64 0, .int .u64 0] 68) = w1 from HW1.out.symm]
  refine (lock_free Tryz.muLib ⟨sb, 0, none⟩ w1 (blk_cell (i := 0) hs1 rfl) (blk_free hs1)).mono ?_
  rintro e w2 ⟨rfl, hw2⟩
  have hs2 : w2.heap[sb]? = some (.cells (shardV 1 pb db slots).toArray 193 (0, 0)) := hw2 ▸ blk_set (i := 0) (.int .i32 1) hs1
  have hk2 : w2.heap[w.heap.size]? = some (.cells [.int .u16 t, .int .u16 u, .int .u16 r].toArray 60 (0, 0)) := hw2 ▸ blk_set_far hk1 (by omega)
  have hr2 : w2.heap[w.heap.size + 1]? = some (.cells [.int .i64 0, .int .i64 0, .int .u64 0].toArray 68 (0, 0)) := hw2 ▸ blk_set_far hr1 (by omega)
  have ho2 : OM w2 db (Maps.size D) D := hw2 ▸ ho1.setCell (a := ⟨sb, 0, none⟩) (Ne.symm hsd) _
  have hch2 : Chg [sb, db] w w2 := hw2 ▸ hch1.set _ _ (Or.inl (by simp))
  clear hw2 HW1 hs1 hk1 hr1 ho1 hch1 hsz1
  go_wp2_with fail
  refine (forget_D sb db _ now D w2 (blk_cell (i := 4) hs2 rfl) ho2).mono ?_
  rintro e w3 ⟨rfl, ho3, hc3⟩
  have hs3 := hc3.blk hs2 (by simpa using hsd)
  have hk3 := hc3.blk hk2 (by simp; omega)
  have hr3 := hc3.blk hr2 (by simp; omega)
  have hch3 : Chg [sb, db] w w3 := hch2.trans hc3 (by simp)
  have k30 := blk_cell (i := 0) hk3 rfl
  have k31 := blk_cell (i := 1) hk3 rfl
  have k32 := blk_cell (i := 2) hk3 rfl
  clear hs2 hk2 hr2 ho2 hch2 hc3 hk3
  go_wp2_with fail
  refine (all_any t u r w3).mono ?_
  rintro e w4 ⟨rfl, hc4⟩
  have hs4 := hc4.blk hs3 (by simp)
  have hr4 := hc4.blk hr3 (by simp)
  have ho4 := hc4.map ho3 (by simp)
  have hch4 : Chg [sb, db] w w4 := hch3.trans hc4 (by simp)
  clear hs3 hr3 ho3 hch3 hc4 k30 k31 k32
  go_wp2_with fail
  refine (hasRoom_any sb db _ slots t u r (fgt now D) (w4.alloc (.cells (plv t u r) 197)) (blk_cell (i := 3) (blk_alloc hs4 _) rfl) (blk_cell (i := 4) (blk_alloc hs4 _) rfl) (ho4.alloc _) (by omega) ht hu hr).mono ?_
  rintro e w5 ⟨rfl, hc5⟩
  have hs5 := hc5.blk (blk_alloc hs4 _) (by simp)
  have hr5 := hc5.blk (blk_alloc hr4 _) (by simp)
  have ho5 := hc5.map (ho4.alloc _) (by simp)
  have hch5 : Chg [sb, db] w w5 := (hch4.alloc _).trans hc5 (by simp)
  have hb5 : w5.heap[w4.heap.size]? = some (.cells (plv t u r).toList.toArray 197 (0, 0)) := hc5.blk (heap_alloc_new w4 _) (by simp)
  have hr4l := lt_of_block hr4
  clear hs4 hr4 ho4 hc5
  have q50 : w5.cell? ⟨w4.heap.size, 0, none⟩ = some (.int .i64 0) := blk_cell (i := 0) hb5 rfl
  have q51 : w5.cell? ⟨w4.heap.size, 1, none⟩ = some (.int .u16 t) := blk_cell (i := 1) hb5 rfl
  have q52 : w5.cell? ⟨w4.heap.size, 2, none⟩ = some (.int .u16 0) := blk_cell (i := 2) hb5 rfl
  have q53 : w5.cell? ⟨w4.heap.size, 3, none⟩ = some (.int .u16 0) := blk_cell (i := 3) hb5 rfl
  have q54 : w5.cell? ⟨w4.heap.size, 4, none⟩ = some (.int .i64 1) := blk_cell (i := 4) hb5 rfl
  have q55 : w5.cell? ⟨w4.heap.size, 5, none⟩ = some (.int .u16 t) := blk_cell (i := 5) hb5 rfl
  have q56 : w5.cell? ⟨w4.heap.size, 6, none⟩ = some (.int .u16 u) := blk_cell (i := 6) hb5 rfl
  have q57 : w5.cell? ⟨w4.heap.size, 7, none⟩ = some (.int .u16 0) := blk_cell (i := 7) hb5 rfl
  have q58 : w5.cell? ⟨w4.heap.size, 8, none⟩ = some (.int .i64 2) := blk_cell (i := 8) hb5 rfl
  have q59 : w5.cell? ⟨w4.heap.size, 9, none⟩ = some (.int .u16 t) := blk_cell (i := 9) hb5 rfl
  have q510 : w5.cell? ⟨w4.heap.size, 10, none⟩ = some (.int .u16 u) := blk_cell (i := 10) hb5 rfl
  have q511 : w5.cell? ⟨w4.heap.size, 11, none⟩ = some (.int .u16 r) := blk_cell (i := 11) hb5 rfl
  have r50 := blk_cell (i := 0) hr5 rfl
  have r51 := blk_cell (i := 1) hr5 rfl
  have r52 := blk_cell (i := 2) hr5 rfl
  have g50 : ∀ i, w5.frozen? ⟨w.heap.size + 1, i, none⟩ = false := fun i => blk_free hr5
  have s50 := blk_cell (i := 0) hs5 rfl
  have t50 : w5.frozen? ⟨sb, 0, none⟩ = false := blk_free hs5
  by_cases hroom : (Maps.size (fgt now D) : Int) + miss (fgt now D) t u r 3 ≤ slots
  · have hps : pb ≠ sb := fun e => by have := hp.1; rw [e] at this; unfold ShardAt at hs; rw [hs] at this; simp at this
    have hos : ob ≠ sb := fun e => by obtain ⟨_, _, _, h, _⟩ := hp.2; rw [e] at h; unfold ShardAt at hs; rw [hs] at h; cases h
    have hp5 : PlanAt w5 pb ob p := hp.chg hch5 (by simp; exact ⟨hps, hpd⟩) (by simp; exact ⟨hos, hod⟩)
    have hD := decide_any sb pb ob db _ p t u r cost now (fgt now D) w5 (blk_cell (i := 2) hs5 rfl) (blk_cell (i := 4) hs5 rfl) hp5 ho5 ht hu hr hgd hmk hn hn' hc hc'
    have hfb : ∀ j, 0 ≤ (askAt p (fgt now D) now cost t u r j).1 ∧ (askAt p (fgt now D) now cost t u r j).1 ≤ 18446744073709551615 := fun j => by
      have hg := hgd j (plk t u r j)
      have hmm := lookm ho5 (plk_key ht hu hr j)
      have := ask_bd (mark := markOf (fgt now D) (plk t u r j)) hg.1 hg.2.1 hg.2.2 hmm.1 (hmk _) hn hn' hc
      exact ⟨this.1, this.2.1⟩
    have HA : Hid (allowD p slots D now cost t u r = if (repTo (askAt p (fgt now D) now cost t u r) 3).1 = 0 then
      (repTo (askAt p (fgt now D) now cost t u r) 3, putTo (fgt now D) t u r (askAt p (fgt now D) now cost t u r 0).1 (askAt p (fgt now D) now cost t u r 1).1 (askAt p (fgt now D) now cost t u r 2).1 3)
      else (repTo (askAt p (fgt now D) now cost t u r) 3, fgt now D)) := by show _ = _; unfold allowD; rw [if_pos hroom]
    have hrb : decide ((Maps.size (fgt now D) : Int) + miss (fgt now D) t u r 3 ≤ slots) = true := by simpa using hroom
    rw [hrb]
    generalize askAt p (fgt now D) now cost t u r = f at *
    obtain ⟨st, lv, rt, hrep⟩ : ∃ st lv rt, repTo f 3 = (st, lv, rt) := ⟨_, _, _, rfl⟩
    rw [hrep] at hD HA
    obtain ⟨n0, hn0⟩ : ∃ n0, (f 0).1 = n0 := ⟨_, rfl⟩
    obtain ⟨n1, hn1⟩ : ∃ n1, (f 1).1 = n1 := ⟨_, rfl⟩
    obtain ⟨n2, hn2⟩ : ∃ n2, (f 2).1 = n2 := ⟨_, rfl⟩
    have hb0 := hfb 0
    have hb1 := hfb 1
    have hb2 := hfb 2
    simp only [nxtTo, repV, hn0, hn1, hn2] at hD
    simp only [hn0, hn1, hn2] at HA hb0 hb1 hb2
    clear hroom hrb hfb hn0 hn1 hn2 hrep hgd hmk hp5
    go_wp2_with fail
    refine hD.mono ?_
    clear hD
    rintro e w6 ⟨rfl, hc6⟩
    have hs6 := hc6.blk hs5 (by simp)
    have hr6 := hc6.blk hr5 (by simp)
    have hb6 := hc6.blk hb5 (by simp)
    have ho6 := hc6.map ho5 (by simp)
    have hch6 : Chg [sb, db] w w6 := hch5.trans hc6 (by simp)
    have hl6 := lt_of_block hr6
    have q60 : ∀ o1 o2, ((w6.alloc o1).alloc o2).cell? ⟨w4.heap.size, 0, none⟩ = some (.int .i64 0) := fun o1 o2 => blk_cell (i := 0) (blk_alloc (blk_alloc hb6 o1) o2) rfl
    have q61 : ∀ o1 o2, ((w6.alloc o1).alloc o2).cell? ⟨w4.heap.size, 1, none⟩ = some (.int .u16 t) := fun o1 o2 => blk_cell (i := 1) (blk_alloc (blk_alloc hb6 o1) o2) rfl
    have q62 : ∀ o1 o2, ((w6.alloc o1).alloc o2).cell? ⟨w4.heap.size, 2, none⟩ = some (.int .u16 0) := fun o1 o2 => blk_cell (i := 2) (blk_alloc (blk_alloc hb6 o1) o2) rfl
    have q63 : ∀ o1 o2, ((w6.alloc o1).alloc o2).cell? ⟨w4.heap.size, 3, none⟩ = some (.int .u16 0) := fun o1 o2 => blk_cell (i := 3) (blk_alloc (blk_alloc hb6 o1) o2) rfl
    have q64 : ∀ o1 o2, ((w6.alloc o1).alloc o2).cell? ⟨w4.heap.size, 4, none⟩ = some (.int .i64 1) := fun o1 o2 => blk_cell (i := 4) (blk_alloc (blk_alloc hb6 o1) o2) rfl
    have q65 : ∀ o1 o2, ((w6.alloc o1).alloc o2).cell? ⟨w4.heap.size, 5, none⟩ = some (.int .u16 t) := fun o1 o2 => blk_cell (i := 5) (blk_alloc (blk_alloc hb6 o1) o2) rfl
    have q66 : ∀ o1 o2, ((w6.alloc o1).alloc o2).cell? ⟨w4.heap.size, 6, none⟩ = some (.int .u16 u) := fun o1 o2 => blk_cell (i := 6) (blk_alloc (blk_alloc hb6 o1) o2) rfl
    have q67 : ∀ o1 o2, ((w6.alloc o1).alloc o2).cell? ⟨w4.heap.size, 7, none⟩ = some (.int .u16 0) := fun o1 o2 => blk_cell (i := 7) (blk_alloc (blk_alloc hb6 o1) o2) rfl
    have q68 : ∀ o1 o2, ((w6.alloc o1).alloc o2).cell? ⟨w4.heap.size, 8, none⟩ = some (.int .i64 2) := fun o1 o2 => blk_cell (i := 8) (blk_alloc (blk_alloc hb6 o1) o2) rfl
    have q69 : ∀ o1 o2, ((w6.alloc o1).alloc o2).cell? ⟨w4.heap.size, 9, none⟩ = some (.int .u16 t) := fun o1 o2 => blk_cell (i := 9) (blk_alloc (blk_alloc hb6 o1) o2) rfl
    have q610 : ∀ o1 o2, ((w6.alloc o1).alloc o2).cell? ⟨w4.heap.size, 10, none⟩ = some (.int .u16 u) := fun o1 o2 => blk_cell (i := 10) (blk_alloc (blk_alloc hb6 o1) o2) rfl
    have q611 : ∀ o1 o2, ((w6.alloc o1).alloc o2).cell? ⟨w4.heap.size, 11, none⟩ = some (.int .u16 r) := fun o1 o2 => blk_cell (i := 11) (blk_alloc (blk_alloc hb6 o1) o2) rfl
    clear q50 q51 q52 q53 q54 q55 q56 q57 q58 q59 q510 q511 r50 r51 r52 g50 s50 t50 hs5 hr5 hb5 ho5 hch5 hc6
    by_cases hst : st = 0
    · rw [if_pos hst] at HA
      subst hst
      go_wp2_with fail
      refine (keep_any sb db _ t u r n0 n1 n2 (fgt now D) _ (blk_cell (i := 4) (blk_alloc (blk_alloc hs6 _) _) rfl) ((ho6.alloc _).alloc _) hsz ht hu hr (WalkArith.wf_u64 hb0) (WalkArith.wf_u64 hb1) (WalkArith.wf_u64 hb2)).mono ?_
      rintro e w8 ⟨rfl, ho8, hc8⟩
      have hs7 := hc8.blk (blk_alloc (blk_alloc hs6 _) _) (by simpa using hsd)
      have hr7 := hc8.blk (blk_alloc (blk_alloc hr6 _) _) (by simp; omega)
      have hch7 : Chg [sb, db] w w8 := ((hch6.alloc _).alloc _).trans hc8 (by simp)
      have ht7 := hc8.blk (b := w6.heap.size + 1) (heap_alloc2_new _ _ _) (by simp; omega)
      have t70 : w8.cell? ⟨w6.heap.size + 1, 0, none⟩ = some (.int .i64 0) := blk_cell (cs := [.int .i64 0, .int .i64 lv, .int .u64 rt]) (i := 0) ht7 rfl
      have t71 : w8.cell? ⟨w6.heap.size + 1, 1, none⟩ = some (.int .i64 lv) := blk_cell (cs := [.int .i64 0, .int .i64 lv, .int .u64 rt]) (i := 1) ht7 rfl
      have t72 : w8.cell? ⟨w6.heap.size + 1, 2, none⟩ = some (.int .u64 rt) := blk_cell (cs := [.int .i64 0, .int .i64 lv, .int .u64 rt]) (i := 2) ht7 rfl
      have r70 := blk_cell (i := 0) hr7 rfl
      have r71 := blk_cell (i := 1) hr7 rfl
      have r72 := blk_cell (i := 2) hr7 rfl
      have g7 : ∀ i, w8.frozen? ⟨w.heap.size + 1, i, none⟩ = false := fun i => blk_free hr7
      clear ht7 hc8
      have hs8 := blk_set_far (k := w.heap.size + 1) (i := 2) (u := .int .u64 rt) (blk_set_far (k := w.heap.size + 1) (i := 1) (u := .int .i64 lv) (blk_set_far (k := w.heap.size + 1) (i := 0) (u := .int .i64 0) (hs7) (by omega)) (by omega)) (by omega)
      have hr8 := blk_set (i := 2) (.int .u64 rt) (blk_set (i := 1) (.int .i64 lv) (blk_set (i := 0) (.int .i64 0) (hr7)))
      have ho8' := (((ho8).setCell (a := ⟨w.heap.size + 1, 0, none⟩) (by dsimp only; omega) (.int .i64 0)).setCell (a := ⟨w.heap.size + 1, 1, none⟩) (by dsimp only; omega) (.int .i64 lv)).setCell (a := ⟨w.heap.size + 1, 2, none⟩) (by dsimp only; omega) (.int .u64 rt)
      have hch8 := (((hch7).set ⟨w.heap.size + 1, 0, none⟩ (.int .i64 0) (Or.inr (by dsimp only; omega))).set ⟨w.heap.size + 1, 1, none⟩ (.int .i64 lv) (Or.inr (by dsimp only; omega))).set ⟨w.heap.size + 1, 2, none⟩ (.int .u64 rt) (Or.inr (by dsimp only; omega))
      go_wp2_with fail
      refine leaves_cons (f := 73) (args := #[.pointer (some ⟨sb, 0, none⟩)]) (by simp) (by simp [go_sem]) ?_
      refine (unlock_deferred Tryz.muLib ⟨sb, 0, none⟩ .returning _ (blk_cell (i := 0) hs8 rfl) (blk_free hs8)).mono ?_
      rintro e u' w'' ⟨rfl, rfl, rfl⟩
      have hs9 := blk_set (i := 0) (.int .i32 0) hs8
      have hr9 := blk_set_far (k := sb) (i := 0) (u := .int .i32 0) hr8 (by omega)
      refine ⟨.agg #[.int .i64 0, .int .i64 lv, .int .u64 rt], results_cell1 rfl rfl (load42 hr9 rfl rfl rfl), ?_⟩
      rw [HA.out]
      exact ⟨rfl, ⟨_, ho8'.setCell (a := ⟨sb, 0, none⟩) (Ne.symm hsd) _⟩, (hch8.set ⟨sb, 0, none⟩ (.int .i32 0) (Or.inl (by simp))).back (fun j hj => by
        rcases List.mem_cons.1 hj with rfl | hj
        · exact Or.inr (hs9.trans hs.symm)
        · exact Or.inl hj)⟩
    · rw [if_neg hst] at HA
      have r70 : ∀ o1 o2, ((w6.alloc o1).alloc o2).cell? ⟨w.heap.size + 1, 0, none⟩ = some (.int .i64 0) := fun o1 o2 => blk_cell (i := 0) (blk_alloc (blk_alloc hr6 o1) o2) rfl
      have r71 : ∀ o1 o2, ((w6.alloc o1).alloc o2).cell? ⟨w.heap.size + 1, 1, none⟩ = some (.int .i64 0) := fun o1 o2 => blk_cell (i := 1) (blk_alloc (blk_alloc hr6 o1) o2) rfl
      have r72 : ∀ o1 o2, ((w6.alloc o1).alloc o2).cell? ⟨w.heap.size + 1, 2, none⟩ = some (.int .u64 0) := fun o1 o2 => blk_cell (i := 2) (blk_alloc (blk_alloc hr6 o1) o2) rfl
      have g7 : ∀ o1 o2 i, ((w6.alloc o1).alloc o2).frozen? ⟨w.heap.size + 1, i, none⟩ = false := fun o1 o2 i => blk_free (blk_alloc (blk_alloc hr6 o1) o2)
      have hst' : (st == 0) = false := by simpa using hst
      have hs8 := blk_set_far (k := w.heap.size + 1) (i := 2) (u := .int .u64 rt) (blk_set_far (k := w.heap.size + 1) (i := 1) (u := .int .i64 lv) (blk_set_far (k := w.heap.size + 1) (i := 0) (u := .int .i64 st) (blk_alloc (blk_alloc hs6 (.cells #[.int .u64 n0, .int .u64 n1, .int .u64 n2] 162)) (.cells #[.int .i64 st, .int .i64 lv, .int .u64 rt] 68)) (by omega)) (by omega)) (by omega)
      have hr8 := blk_set (i := 2) (.int .u64 rt) (blk_set (i := 1) (.int .i64 lv) (blk_set (i := 0) (.int .i64 st) (blk_alloc (blk_alloc hr6 (.cells #[.int .u64 n0, .int .u64 n1, .int .u64 n2] 162)) (.cells #[.int .i64 st, .int .i64 lv, .int .u64 rt] 68))))
      have ho8' := ((((ho6.alloc (.cells #[.int .u64 n0, .int .u64 n1, .int .u64 n2] 162)).alloc (.cells #[.int .i64 st, .int .i64 lv, .int .u64 rt] 68)).setCell (a := ⟨w.heap.size + 1, 0, none⟩) (by dsimp only; omega) (.int .i64 st)).setCell (a := ⟨w.heap.size + 1, 1, none⟩) (by dsimp only; omega) (.int .i64 lv)).setCell (a := ⟨w.heap.size + 1, 2, none⟩) (by dsimp only; omega) (.int .u64 rt)
      have hch8 := ((((hch6.alloc (.cells #[.int .u64 n0, .int .u64 n1, .int .u64 n2] 162)).alloc (.cells #[.int .i64 st, .int .i64 lv, .int .u64 rt] 68)).set ⟨w.heap.size + 1, 0, none⟩ (.int .i64 st) (Or.inr (by dsimp only; omega))).set ⟨w.heap.size + 1, 1, none⟩ (.int .i64 lv) (Or.inr (by dsimp only; omega))).set ⟨w.heap.size + 1, 2, none⟩ (.int .u64 rt) (Or.inr (by dsimp only; omega))
      go_wp2_with fail
      refine leaves_cons (f := 73) (args := #[.pointer (some ⟨sb, 0, none⟩)]) (by simp) (by simp [go_sem]) ?_
      refine (unlock_deferred Tryz.muLib ⟨sb, 0, none⟩ .returning _ (blk_cell (i := 0) hs8 rfl) (blk_free hs8)).mono ?_
      rintro e u' w'' ⟨rfl, rfl, rfl⟩
      have hs9 := blk_set (i := 0) (.int .i32 0) hs8
      have hr9 := blk_set_far (k := sb) (i := 0) (u := .int .i32 0) hr8 (by omega)
      refine ⟨.agg #[.int .i64 st, .int .i64 lv, .int .u64 rt], results_cell1 rfl rfl (load42 hr9 rfl rfl rfl), ?_⟩
      rw [HA.out]
      exact ⟨rfl, ⟨_, ho8'.setCell (a := ⟨sb, 0, none⟩) (Ne.symm hsd) _⟩, (hch8.set ⟨sb, 0, none⟩ (.int .i32 0) (Or.inl (by simp))).back (fun j hj => by
        rcases List.mem_cons.1 hj with rfl | hj
        · exact Or.inr (hs9.trans hs.symm)
        · exact Or.inl hj)⟩
  · have HA : Hid (allowD p slots D now cost t u r = ((2, 0, 0), fgt now D)) := by show _ = _; unfold allowD; rw [if_neg hroom]
    have hrb : decide ((Maps.size (fgt now D) : Int) + miss (fgt now D) t u r 3 ≤ slots) = false := by simpa using hroom
    rw [hrb]
    clear hroom hrb
    have hs6 := blk_set_far (k := w.heap.size + 1) (i := 2) (u := .int .u64 0) (blk_set_far (k := w.heap.size + 1) (i := 1) (u := .int .i64 0) (blk_set_far (k := w.heap.size + 1) (i := 0) (u := .int .i64 2) hs5 (by omega)) (by omega)) (by omega)
    have hr6 := blk_set (i := 2) (.int .u64 0) (blk_set (i := 1) (.int .i64 0) (blk_set (i := 0) (.int .i64 2) hr5))
    have ho6 := ((ho5.setCell (a := ⟨w.heap.size + 1, 0, none⟩) (by dsimp only; omega) (.int .i64 2)).setCell (a := ⟨w.heap.size + 1, 1, none⟩) (by dsimp only; omega) (.int .i64 0)).setCell (a := ⟨w.heap.size + 1, 2, none⟩) (by dsimp only; omega) (.int .u64 0)
    have hch6 := ((hch5.set ⟨w.heap.size + 1, 0, none⟩ (.int .i64 2) (Or.inr (by dsimp only; omega))).set ⟨w.heap.size + 1, 1, none⟩ (.int .i64 0) (Or.inr (by dsimp only; omega))).set ⟨w.heap.size + 1, 2, none⟩ (.int .u64 0) (Or.inr (by dsimp only; omega))
    go_wp2_with fail
    refine leaves_cons (f := 73) (args := #[.pointer (some ⟨sb, 0, none⟩)]) (by simp) (by simp [go_sem]) ?_
    refine (unlock_deferred Tryz.muLib ⟨sb, 0, none⟩ .returning _ (blk_cell (i := 0) hs6 rfl) (blk_free hs6)).mono ?_
    rintro e u' w'' ⟨rfl, rfl, rfl⟩
    have hs7 := blk_set (i := 0) (.int .i32 0) hs6
    have hr7 := blk_set_far (k := sb) (i := 0) (u := .int .i32 0) hr6 (by omega)
    refine ⟨.agg #[.int .i64 2, .int .i64 0, .int .u64 0], results_cell1 rfl rfl (load42 hr7 rfl rfl rfl), ?_⟩
    rw [HA.out]
    exact ⟨rfl, ⟨_, ho6.setCell (a := ⟨sb, 0, none⟩) (Ne.symm hsd) _⟩, (hch6.set ⟨sb, 0, none⟩ (.int .i32 0) (Or.inl (by simp))).back (fun j hj => by
      rcases List.mem_cons.1 hj with rfl | hj
      · exact Or.inr (hs7.trans hs.symm)
      · exact Or.inl hj)⟩
end Go.Proofs.YtbdnhllhdjepcaaGreat
