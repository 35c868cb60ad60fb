import Derived.Test.YtbdnhllhdjepcaaRate
namespace Go.Proofs.Ytbdnhllhdjepcaa
set_option linter.unusedVariables false
set_option linter.unusedSimpArgs false
open Go.RowKit Go.Maps

/-- the mark at a key: 0, if none is kept -/
def markOf (D : DW) (l : Lit) : Int := num (D.atKey l (lu 0))
/-- what a level says of a request: the mark that it would leave, and the wait -/
def askAt (p : Pln) (D : DW) (now cost t u r : Int) (k : Nat) : Int × Int := ask (p.at_ k (plk t u r k)).1 (p.at_ k (plk t u r k)).2 (markOf D (plk t u r k)) now cost
/-- the reply behind the first k levels -/
def repTo (f : Nat → Int × Int) : Nat → Int × Int × Int
  | 0 => (0, 0, 0)
  | k + 1 => if (f k).2 = 0 then repTo f k else if (repTo f k).1 = 0 then (1, (k : Int), max (repTo f k).2.2 (f k).2) else ((repTo f k).1, (repTo f k).2.1, max (repTo f k).2.2 (f k).2)
def nxtTo (f : Nat → Int × Int) : Nat → List Value
  | 0 => [.int .u64 0, .int .u64 0, .int .u64 0]
  | 1 => [.int .u64 (f 0).1, .int .u64 0, .int .u64 0]
  | 2 => [.int .u64 (f 0).1, .int .u64 (f 1).1, .int .u64 0]
  | _ => [.int .u64 (f 0).1, .int .u64 (f 1).1, .int .u64 (f 2).1]
def repV (x : Int × Int × Int) : List Value := [.int .i64 x.1, .int .i64 x.2.1, .int .u64 x.2.2]

theorem bd_u64 {n : Int} (h : (Lit.int .u64 n).wf = true) : 0 ≤ n ∧ n ≤ 18446744073709551615 := by
  simp [Lit.wf, IntKind.min, IntKind.max, IntKind.signed, IntKind.bits] at h
  omega
theorem repTo_bd (f : Nat → Int × Int) (hf : ∀ j, 0 ≤ (f j).2 ∧ (f j).2 ≤ 18446744073709551615) (k : Nat) : 0 ≤ (repTo f k).1 ∧ (repTo f k).1 ≤ 1 ∧ 0 ≤ (repTo f k).2.2 ∧ (repTo f k).2.2 ≤ 18446744073709551615 := by
  induction k with
  | zero => simp [repTo]
  | succ k ih =>
    have := hf k
    unfold repTo
    split
    · exact ih
    · split
      · simp only; omega
      · simp only; omega

theorem lookm {w : World} {db n : Nat} {D : DW} {key : Value} {l : Lit} (hown : w.ownsMap Try.prog 140 (plainElem Try.prog 40) db n D) (hkey : keyOf Try.prog 140 key = some l) :
    0 ≤ markOf D l ∧ markOf D l ≤ 18446744073709551615 ∧ ∀ W, W.ownsMap Try.prog 140 (plainElem Try.prog 40) db n D → (Instr.lookup 135 (.map (some db)) key false).run Try.prog W = .ok (.int .u64 (markOf D l)) W := by
  obtain ⟨c, _, hat, hw⟩ := hown.lookup_int law140 Try.underlying135 Try.underlying40 (Try.zeroValue40 _) hkey
  have e : markOf D l = c := by unfold markOf lu; rw [hat]; rfl
  have hb := bd_u64 hw
  refine ⟨by omega, by omega, fun W hW => ?_⟩
  obtain ⟨c', hr, hat', _⟩ := hW.lookup_int law140 Try.underlying135 Try.underlying40 (Try.zeroValue40 _) hkey
  rw [hat] at hat'
  simp at hat'
  rw [e, hat']
  exact hr

set_option maxRecDepth 100000 in
set_option maxHeartbeats 4000000 in
theorem decide_any (sb pb ob db n : Nat) (p : Pln) (t u r cost now : Int) (D : DW) (w : World) (c2 : w.cell? ⟨sb, 2, none⟩ = some (.pointer (some ⟨pb, 0, none⟩))) (c4 : w.cell? ⟨sb, 4, none⟩ = some (.map (some db)))
    (hp : PlanAt w pb ob p) (hown : w.ownsMap Try.prog 140 (plainElem Try.prog 40) db n D) (ht : (Lit.int .u16 t).wf = true) (hu : (Lit.int .u16 u).wf = true) (hr : (Lit.int .u16 r).wf = true)
    (hgd : ∀ L l, Good (p.at_ L l)) (hmk : ∀ l, markOf D l ≤ 13835058055282163711) (hn : 0 ≤ now) (hn' : now ≤ 9223372036854775807) (hc : 1 ≤ cost) (hc' : cost ≤ 1000) :
    Calls Try.prog 65 #[.pointer (some ⟨sb, 0, none⟩), .agg (plv t u r), .int .i64 cost, .int .u64 now] w fun e w' =>
      e = .returned (.tuple #[.agg (nxtTo (askAt p D now cost t u r) 3).toArray, .agg (repV (repTo (askAt p D now cost t u r) 3)).toArray]) ∧ Chg [] w w' := by
  obtain ⟨f, hf⟩ : ∃ f, f = askAt p D now cost t u r := ⟨_, rfl⟩
  rw [← hf]
  have HF : Hid (f = askAt p D now cost t u r) := hf
  clear hf
  have hfb : ∀ j, 0 ≤ (f j).1 ∧ (f j).1 ≤ 18446744073709551615 ∧ 0 ≤ (f j).2 ∧ (f j).2 ≤ 18446744073709551615 := fun j => by
    have hg := hgd j (plk t u r j)
    have hm := lookm hown (plk_key ht hu hr j)
    have := ask_bd (mark := markOf D (plk t u r j)) hg.1 hg.2.1 hg.2.2 hm.1 (hmk _) hn hn' hc
    rw [HF.out]
    exact ⟨this.1, this.2.1, this.2.2.1, this.2.2.2.1⟩
  go_enter Try.func65, Try.ntmps65
  go_wp2_with fail
  go_loopw [18] (fun i wr => ∃ k : Nat, k ≤ 3 ∧ i = .int .i64 k ∧ Chg [] w wr ∧ wr.heap[w.heap.size + 1]? = some (.cells [.int .u64 0, .int .u64 0, .int .u64 0].toArray 144 (0, 0)) ∧ wr.heap[w.heap.size + 2]? = some (.cells [.int .i64 0, .int .i64 0, .int .u64 0].toArray 42 (0, 0)) ∧
      wr.heap[w.heap.size + 3]? = some (.cells (nxtTo f k).toArray 144 (0, 0)) ∧ wr.heap[w.heap.size + 4]? = some (.cells (repV (repTo f k)).toArray 42 (0, 0))) (fun i _ => 3 - (intOf i).toNat)
  case atStart =>
    refine ⟨0, by omega, rfl, ((((((Chg.refl _ _).alloc _).alloc _).alloc _).alloc _).alloc _), ?_, ?_, ?_, ?_⟩
    · exact blk_alloc (blk_alloc (blk_alloc (heap_alloc2_new _ _ _) _) _) _
    · exact blk_alloc (blk_alloc (b := w.heap.size + 2) (by have := heap_alloc2_new (w.alloc (.cells (plv t u r) 141)) (.cells #[.int .u64 0, .int .u64 0, .int .u64 0] 144) (.cells #[.int .i64 0, .int .i64 0, .int .u64 0] 42); simpa using this) _) _
    · exact blk_alloc (b := w.heap.size + 3) (by have := heap_alloc2_new ((w.alloc (.cells (plv t u r) 141)).alloc (.cells #[.int .u64 0, .int .u64 0, .int .u64 0] 144)) (.cells #[.int .i64 0, .int .i64 0, .int .u64 0] 42) (.cells #[.int .u64 0, .int .u64 0, .int .u64 0] 144); simpa [nxtTo] using this) _
    · have := heap_alloc2_new (((w.alloc (.cells (plv t u r) 141)).alloc (.cells #[.int .u64 0, .int .u64 0, .int .u64 0] 144)).alloc (.cells #[.int .i64 0, .int .i64 0, .int .u64 0] 42)) (.cells #[.int .u64 0, .int .u64 0, .int .u64 0] 144) (.cells #[.int .i64 0, .int .i64 0, .int .u64 0] 42)
      simpa [repV, repTo] using this
  case round =>
    obtain ⟨k, hk, rfl, hch, b1, b2, b3, b4⟩ := hrel
    by_cases hlt : k < 3
    · rcases (show k = 0 ∨ k = 1 ∨ k = 2 from by omega) with rfl | rfl | rfl
      · have hix := index0 t u r
        have hkey : keyOf Try.prog 140 (.agg #[.int .i64 0, .int .u16 t, .int .u16 0, .int .u16 0]) = some (kl 0 t 0 0) := keyOf_kl (by decide) ht (by decide) (by decide)
        have hownr := hch.map hown (by simp)
        have hlm := lookm hownr hkey
        have hmark := hmk (kl 0 t 0 0)
        have hg := hgd 0 (kl 0 t 0 0)
        have HFK : Hid (f 0 = ask (p.at_ 0 (kl 0 t 0 0)).1 (p.at_ 0 (kl 0 t 0 0)).2 (markOf D (kl 0 t 0 0)) now cost) := by show f 0 = _; rw [HF.out]; rfl
        have hfk := hfb 0
        have hrb := repTo_bd f (fun j => ⟨(hfb j).2.2.1, (hfb j).2.2.2⟩) 0
        have hS : ∀ W, Chg [] (wr.alloc (.cells #[.int .i64 0, .int .u16 t, .int .u16 0, .int .u16 0] 140)) W → (W.cell? ⟨sb, 2, none⟩ = some (.pointer (some ⟨pb, 0, none⟩)) ∧ W.cell? ⟨sb, 4, none⟩ = some (.map (some db)) ∧ W.cell? ⟨wr.heap.size, 0, none⟩ = some (.int .i64 0) ∧ W.cell? ⟨wr.heap.size, 1, none⟩ = some (.int .u16 t) ∧ W.cell? ⟨wr.heap.size, 2, none⟩ = some (.int .u16 0) ∧ W.cell? ⟨wr.heap.size, 3, none⟩ = some (.int .u16 0) ∧
            (Instr.lookup 135 (.map (some db)) (.agg #[.int .i64 0, .int .u16 t, .int .u16 0, .int .u16 0]) false).run Try.prog W = .ok (.int .u64 (markOf D (kl 0 t 0 0))) W) := fun W hW => by
          have hW' : Chg [] w W := (hch.alloc _).trans hW (by simp)
          have hb0 := hW.blk (heap_alloc_new wr (.cells [.int .i64 0, .int .u16 t, .int .u16 0, .int .u16 0].toArray 140)) (by simp)
          exact ⟨hW'.cell c2 (by simp), hW'.cell c4 (by simp), blk_cell hb0 rfl, blk_cell hb0 rfl, blk_cell hb0 rfl, blk_cell hb0 rfl, hlm.2.2 W (hW'.map hown (by simp))⟩
        have hP : ∀ W, Chg [] (wr.alloc (.cells #[.int .i64 0, .int .u16 t, .int .u16 0, .int .u16 0] 140)) W → PlanAt W pb ob p := fun W hW => hp.chg ((hch.alloc _).trans hW (by simp)) (by simp) (by simp)
        have hlm0 := hlm.1
        have hg1 := hg.1
        have hg2 := hg.2.1
        have hg3 := hg.2.2
        have hR := fun W hW => rateAt0 pb ob p t 0 0 W (hP W hW) hkey
        obtain ⟨iv, bu, hrt⟩ : ∃ iv bu, p.at_ 0 (kl 0 t 0 0) = (iv, bu) := ⟨_, _, rfl⟩
        rw [hrt] at hg1 hg2 hg3 HFK
        simp only [hrt] at hR
        simp only at hg1 hg2 hg3
        generalize hM : markOf D (kl 0 t 0 0) = m at *
        obtain ⟨x, y, hxy⟩ : ∃ x y, ask iv bu m now cost = (x, y) := ⟨_, _, rfl⟩
        have HXY : Hid (f 0 = (x, y)) := by show f 0 = _; rw [HFK.out]; exact hxy
        rw [HXY.out] at hfk
        simp only at hfk
        have hA := fun W => ask_any iv bu m now cost W hg1 hg2 hg3 hlm0 hmark hn hn' hc hc'
        rw [hxy] at hA
        have HA : Hid (∀ W, Calls Try.prog 94 #[.agg #[.int .u64 iv, .int .u64 bu], .int .u64 m, .int .u64 now, .int .i64 cost] W fun e w' => e = .returned (.tuple #[.int .u64 x, .int .u64 y]) ∧ Chg [] W w') := hA
        have HR : Hid (∀ W, Chg [] (wr.alloc (.cells #[.int .i64 0, .int .u16 t, .int .u16 0, .int .u16 0] 140)) W → Calls Try.prog 93 #[.pointer (some ⟨pb, 0, none⟩), .agg #[.int .i64 0, .int .u16 t, .int .u16 0, .int .u16 0]] W fun e w' => e = .returned (.agg #[.int .u64 iv, .int .u64 bu]) ∧ Chg [] W w') := hR
        have HS : Hid (∀ W, Chg [] (wr.alloc (.cells #[.int .i64 0, .int .u16 t, .int .u16 0, .int .u16 0] 140)) W → (W.cell? ⟨sb, 2, none⟩ = some (.pointer (some ⟨pb, 0, none⟩)) ∧ W.cell? ⟨sb, 4, none⟩ = some (.map (some db)) ∧ W.cell? ⟨wr.heap.size, 0, none⟩ = some (.int .i64 0) ∧ W.cell? ⟨wr.heap.size, 1, none⟩ = some (.int .u16 t) ∧ W.cell? ⟨wr.heap.size, 2, none⟩ = some (.int .u16 0) ∧ W.cell? ⟨wr.heap.size, 3, none⟩ = some (.int .u16 0) ∧
            (Instr.lookup 135 (.map (some db)) (.agg #[.int .i64 0, .int .u16 t, .int .u16 0, .int .u16 0]) false).run Try.prog W = .ok (.int .u64 m) W)) := hS
        clear hA hR hS hxy HFK hP HF hrt hM hlm hg hmk hgd hfb hkey hmark hg1 hg2 hg3 hlm0 hownr
        obtain ⟨st, lv, rt, hrep⟩ : ∃ st lv rt, repTo f 0 = (st, lv, rt) := ⟨_, _, _, rfl⟩
        have HREP : Hid (repTo f 0 = (st, lv, rt)) := hrep
        rw [hrep] at b4 hrb
        simp only [repV] at b4 hrb
        clear hrep
        go_wp2_with fail
        go_region_held3 (fun W => W.cell? ⟨sb, 2, none⟩ = some (.pointer (some ⟨pb, 0, none⟩)) ∧ W.cell? ⟨sb, 4, none⟩ = some (.map (some db)) ∧ W.cell? ⟨wr.heap.size, 0, none⟩ = some (.int .i64 0) ∧ W.cell? ⟨wr.heap.size, 1, none⟩ = some (.int .u16 t) ∧ W.cell? ⟨wr.heap.size, 2, none⟩ = some (.int .u16 0) ∧ W.cell? ⟨wr.heap.size, 3, none⟩ = some (.int .u16 0) ∧
            (Instr.lookup 135 (.map (some db)) (.agg #[.int .i64 0, .int .u16 t, .int .u16 0, .int .u16 0]) false).run Try.prog W = .ok (.int .u64 m) W)
          (first | exact HS.out _ ((Chg.refl _ _).drew) | exact HS.out _ (((Chg.refl _ _).drew).trans hg4 (by simp)) | exact HS.out _ ((((Chg.refl _ _).drew).trans hg4 (by simp)).trans hg5 (by simp)))
          (first | (go_at_call 93; refine (HR.out _ ((Chg.refl _ _).drew)).mono ?_; rintro e w2 ⟨rfl, hg4⟩) | (go_at_call 94; refine (HA.out _).mono ?_; rintro e w3 ⟨rfl, hg5⟩))
        all_goals
          have hq : Chg [] wr w3 := ((((Chg.refl _ _).alloc _).drew).trans hg4 (by simp)).trans hg5 (by simp)
          have b1' := hq.blk b1 (by simp)
          have b2' := hq.blk b2 (by simp)
          have b3' := hq.blk b3 (by simp)
          have b4' := hq.blk b4 (by simp)
          have hch3 := hch.trans hq (by simp)
          have e3 : w3.cell? ⟨w.heap.size + 3, 0, none⟩ = some (.int .u64 0) := blk_cell (i := 0) b3' rfl
          have f3 : w3.frozen? ⟨w.heap.size + 3, 0, none⟩ = false := blk_free b3'
          have e40 := blk_cell (i := 0) b4' rfl
          have e41 := blk_cell (i := 1) b4' rfl
          have e42 := blk_cell (i := 2) b4' rfl
          have f40 : w3.frozen? ⟨w.heap.size + 4, 0, none⟩ = false := blk_free b4'
          have f41 : w3.frozen? ⟨w.heap.size + 4, 1, none⟩ = false := blk_free b4'
          have f42 : w3.frozen? ⟨w.heap.size + 4, 2, none⟩ = false := blk_free b4'
          have hl3 := lt_of_block b4'
          have HB1 : Hid (w3.heap[w.heap.size + 1]? = some (.cells [.int .u64 0, .int .u64 0, .int .u64 0].toArray 144 (0, 0))) := b1'
          have HB2 : Hid (w3.heap[w.heap.size + 2]? = some (.cells [.int .i64 0, .int .i64 0, .int .u64 0].toArray 42 (0, 0))) := b2'
          have HB3 : Hid (w3.heap[w.heap.size + 3]? = some (.cells (nxtTo f 0).toArray 144 (0, 0))) := b3'
          have HB4 : Hid (w3.heap[w.heap.size + 4]? = some (.cells [.int .i64 st, .int .i64 lv, .int .u64 rt].toArray 42 (0, 0))) := b4'
          clear b1' b2' b3' b4' hq hg4 hg5 HS HA HR hix
          by_cases hy : y = 0
          · have HR2 : Hid (repTo f 1 = (st, lv, rt)) := by show _ = _; unfold repTo; rw [HXY.out, HREP.out]; simp [hy]
            go_wp2
            go_roundw
            case rel =>
              refine ⟨1, by omega, by go_num, (hch3).set _ _ (Or.inr (by dsimp only; omega)), ?_, ?_, ?_, ?_⟩
              · exact blk_set_far (HB1.out) (by omega)
              · exact blk_set_far (HB2.out) (by omega)
              · rw [show nxtTo f 1 = (nxtTo f 0).set 0 (.int .u64 x) from by simp [nxtTo, HXY.out]]
                exact blk_set (i := 0) (.int .u64 x) HB3.out
              · rw [HR2.out]
                exact blk_set_far (HB4.out) (by omega)
            case measure => simp [intOf]
          · by_cases hs : st = 0
            · have HR2 : Hid (repTo f 1 = (1, 0, max rt y)) := by show _ = _; unfold repTo; rw [HXY.out, HREP.out]; simp [hy, hs]
              go_wp2
              go_roundw
              case rel =>
                refine ⟨1, by omega, by go_num, ((((hch3).set _ _ (Or.inr (by dsimp only; omega))).set _ _ (Or.inr (by dsimp only; omega))).set _ _ (Or.inr (by dsimp only; omega))).set _ _ (Or.inr (by dsimp only; omega)), ?_, ?_, ?_, ?_⟩
                · exact blk_set_far (blk_set_far (blk_set_far (blk_set_far (HB1.out) (by omega)) (by omega)) (by omega)) (by omega)
                · exact blk_set_far (blk_set_far (blk_set_far (blk_set_far (HB2.out) (by omega)) (by omega)) (by omega)) (by omega)
                · rw [show nxtTo f 1 = (nxtTo f 0).set 0 (.int .u64 x) from by simp [nxtTo, HXY.out]]
                  exact blk_set_far (blk_set_far (blk_set_far (blk_set (i := 0) (.int .u64 x) HB3.out) (by omega)) (by omega)) (by omega)
                · rw [HR2.out]
                  have hb4 := blk_set (i := 2) (.int .u64 (max rt y)) (blk_set (i := 1) (.int .i64 0) (blk_set (i := 0) (.int .i64 1) (blk_set_far (k := w.heap.size + 3) (i := 0) (u := .int .u64 x) HB4.out (by omega))))
                  exact hb4
              case measure => simp [intOf]
            · have HR2 : Hid (repTo f 1 = (st, lv, max rt y)) := by show _ = _; unfold repTo; rw [HXY.out, HREP.out]; simp [hy, hs]
              go_wp2
              go_roundw
              case rel =>
                refine ⟨1, by omega, by go_num, ((hch3).set _ _ (Or.inr (by dsimp only; omega))).set _ _ (Or.inr (by dsimp only; omega)), ?_, ?_, ?_, ?_⟩
                · exact blk_set_far (blk_set_far (HB1.out) (by omega)) (by omega)
                · exact blk_set_far (blk_set_far (HB2.out) (by omega)) (by omega)
                · rw [show nxtTo f 1 = (nxtTo f 0).set 0 (.int .u64 x) from by simp [nxtTo, HXY.out]]
                  exact blk_set_far (blk_set (i := 0) (.int .u64 x) HB3.out) (by omega)
                · rw [HR2.out]
                  have hb4 := blk_set (i := 2) (.int .u64 (max rt y)) (blk_set_far (k := w.heap.size + 3) (i := 0) (u := .int .u64 x) HB4.out (by omega))
                  exact hb4
              case measure => simp [intOf]
      · have hix := index1 t u r
        have hkey : keyOf Try.prog 140 (.agg #[.int .i64 1, .int .u16 t, .int .u16 u, .int .u16 0]) = some (kl 1 t u 0) := keyOf_kl (by decide) ht hu (by decide)
        have hownr := hch.map hown (by simp)
        have hlm := lookm hownr hkey
        have hmark := hmk (kl 1 t u 0)
        have hg := hgd 1 (kl 1 t u 0)
        have HFK : Hid (f 1 = ask (p.at_ 1 (kl 1 t u 0)).1 (p.at_ 1 (kl 1 t u 0)).2 (markOf D (kl 1 t u 0)) now cost) := by show f 1 = _; rw [HF.out]; rfl
        have hfk := hfb 1
        have hrb := repTo_bd f (fun j => ⟨(hfb j).2.2.1, (hfb j).2.2.2⟩) 1
        have hS : ∀ W, Chg [] (wr.alloc (.cells #[.int .i64 1, .int .u16 t, .int .u16 u, .int .u16 0] 140)) W → (W.cell? ⟨sb, 2, none⟩ = some (.pointer (some ⟨pb, 0, none⟩)) ∧ W.cell? ⟨sb, 4, none⟩ = some (.map (some db)) ∧ W.cell? ⟨wr.heap.size, 0, none⟩ = some (.int .i64 1) ∧ W.cell? ⟨wr.heap.size, 1, none⟩ = some (.int .u16 t) ∧ W.cell? ⟨wr.heap.size, 2, none⟩ = some (.int .u16 u) ∧ W.cell? ⟨wr.heap.size, 3, none⟩ = some (.int .u16 0) ∧
            (Instr.lookup 135 (.map (some db)) (.agg #[.int .i64 1, .int .u16 t, .int .u16 u, .int .u16 0]) false).run Try.prog W = .ok (.int .u64 (markOf D (kl 1 t u 0))) W) := fun W hW => by
          have hW' : Chg [] w W := (hch.alloc _).trans hW (by simp)
          have hb0 := hW.blk (heap_alloc_new wr (.cells [.int .i64 1, .int .u16 t, .int .u16 u, .int .u16 0].toArray 140)) (by simp)
          exact ⟨hW'.cell c2 (by simp), hW'.cell c4 (by simp), blk_cell hb0 rfl, blk_cell hb0 rfl, blk_cell hb0 rfl, blk_cell hb0 rfl, hlm.2.2 W (hW'.map hown (by simp))⟩
        have hP : ∀ W, Chg [] (wr.alloc (.cells #[.int .i64 1, .int .u16 t, .int .u16 u, .int .u16 0] 140)) W → PlanAt W pb ob p := fun W hW => hp.chg ((hch.alloc _).trans hW (by simp)) (by simp) (by simp)
        have hlm0 := hlm.1
        have hg1 := hg.1
        have hg2 := hg.2.1
        have hg3 := hg.2.2
        have hR := fun W hW => rateAt1 pb ob p t u 0 W (hP W hW) hkey
        obtain ⟨iv, bu, hrt⟩ : ∃ iv bu, p.at_ 1 (kl 1 t u 0) = (iv, bu) := ⟨_, _, rfl⟩
        rw [hrt] at hg1 hg2 hg3 HFK
        simp only [hrt] at hR
        simp only at hg1 hg2 hg3
        generalize hM : markOf D (kl 1 t u 0) = m at *
        obtain ⟨x, y, hxy⟩ : ∃ x y, ask iv bu m now cost = (x, y) := ⟨_, _, rfl⟩
        have HXY : Hid (f 1 = (x, y)) := by show f 1 = _; rw [HFK.out]; exact hxy
        rw [HXY.out] at hfk
        simp only at hfk
        have hA := fun W => ask_any iv bu m now cost W hg1 hg2 hg3 hlm0 hmark hn hn' hc hc'
        rw [hxy] at hA
        have HA : Hid (∀ W, Calls Try.prog 94 #[.agg #[.int .u64 iv, .int .u64 bu], .int .u64 m, .int .u64 now, .int .i64 cost] W fun e w' => e = .returned (.tuple #[.int .u64 x, .int .u64 y]) ∧ Chg [] W w') := hA
        have HR : Hid (∀ W, Chg [] (wr.alloc (.cells #[.int .i64 1, .int .u16 t, .int .u16 u, .int .u16 0] 140)) W → Calls Try.prog 93 #[.pointer (some ⟨pb, 0, none⟩), .agg #[.int .i64 1, .int .u16 t, .int .u16 u, .int .u16 0]] W fun e w' => e = .returned (.agg #[.int .u64 iv, .int .u64 bu]) ∧ Chg [] W w') := hR
        have HS : Hid (∀ W, Chg [] (wr.alloc (.cells #[.int .i64 1, .int .u16 t, .int .u16 u, .int .u16 0] 140)) W → (W.cell? ⟨sb, 2, none⟩ = some (.pointer (some ⟨pb, 0, none⟩)) ∧ W.cell? ⟨sb, 4, none⟩ = some (.map (some db)) ∧ W.cell? ⟨wr.heap.size, 0, none⟩ = some (.int .i64 1) ∧ W.cell? ⟨wr.heap.size, 1, none⟩ = some (.int .u16 t) ∧ W.cell? ⟨wr.heap.size, 2, none⟩ = some (.int .u16 u) ∧ W.cell? ⟨wr.heap.size, 3, none⟩ = some (.int .u16 0) ∧
            (Instr.lookup 135 (.map (some db)) (.agg #[.int .i64 1, .int .u16 t, .int .u16 u, .int .u16 0]) false).run Try.prog W = .ok (.int .u64 m) W)) := hS
        clear hA hR hS hxy HFK hP HF hrt hM hlm hg hmk hgd hfb hkey hmark hg1 hg2 hg3 hlm0 hownr
        obtain ⟨st, lv, rt, hrep⟩ : ∃ st lv rt, repTo f 1 = (st, lv, rt) := ⟨_, _, _, rfl⟩
        have HREP : Hid (repTo f 1 = (st, lv, rt)) := hrep
        rw [hrep] at b4 hrb
        simp only [repV] at b4 hrb
        clear hrep
        go_wp2_with fail
        go_region_held3 (fun W => W.cell? ⟨sb, 2, none⟩ = some (.pointer (some ⟨pb, 0, none⟩)) ∧ W.cell? ⟨sb, 4, none⟩ = some (.map (some db)) ∧ W.cell? ⟨wr.heap.size, 0, none⟩ = some (.int .i64 1) ∧ W.cell? ⟨wr.heap.size, 1, none⟩ = some (.int .u16 t) ∧ W.cell? ⟨wr.heap.size, 2, none⟩ = some (.int .u16 u) ∧ W.cell? ⟨wr.heap.size, 3, none⟩ = some (.int .u16 0) ∧
            (Instr.lookup 135 (.map (some db)) (.agg #[.int .i64 1, .int .u16 t, .int .u16 u, .int .u16 0]) false).run Try.prog W = .ok (.int .u64 m) W)
          (first | exact HS.out _ ((Chg.refl _ _).drew) | exact HS.out _ (((Chg.refl _ _).drew).trans hg4 (by simp)) | exact HS.out _ ((((Chg.refl _ _).drew).trans hg4 (by simp)).trans hg5 (by simp)))
          (first | (go_at_call 93; refine (HR.out _ ((Chg.refl _ _).drew)).mono ?_; rintro e w2 ⟨rfl, hg4⟩) | (go_at_call 94; refine (HA.out _).mono ?_; rintro e w3 ⟨rfl, hg5⟩))
        all_goals
          have hq : Chg [] wr w3 := ((((Chg.refl _ _).alloc _).drew).trans hg4 (by simp)).trans hg5 (by simp)
          have b1' := hq.blk b1 (by simp)
          have b2' := hq.blk b2 (by simp)
          have b3' := hq.blk b3 (by simp)
          have b4' := hq.blk b4 (by simp)
          have hch3 := hch.trans hq (by simp)
          have e3 : w3.cell? ⟨w.heap.size + 3, 1, none⟩ = some (.int .u64 0) := blk_cell (i := 1) b3' rfl
          have f3 : w3.frozen? ⟨w.heap.size + 3, 1, none⟩ = false := blk_free b3'
          have e40 := blk_cell (i := 0) b4' rfl
          have e41 := blk_cell (i := 1) b4' rfl
          have e42 := blk_cell (i := 2) b4' rfl
          have f40 : w3.frozen? ⟨w.heap.size + 4, 0, none⟩ = false := blk_free b4'
          have f41 : w3.frozen? ⟨w.heap.size + 4, 1, none⟩ = false := blk_free b4'
          have f42 : w3.frozen? ⟨w.heap.size + 4, 2, none⟩ = false := blk_free b4'
          have hl3 := lt_of_block b4'
          have HB1 : Hid (w3.heap[w.heap.size + 1]? = some (.cells [.int .u64 0, .int .u64 0, .int .u64 0].toArray 144 (0, 0))) := b1'
          have HB2 : Hid (w3.heap[w.heap.size + 2]? = some (.cells [.int .i64 0, .int .i64 0, .int .u64 0].toArray 42 (0, 0))) := b2'
          have HB3 : Hid (w3.heap[w.heap.size + 3]? = some (.cells (nxtTo f 1).toArray 144 (0, 0))) := b3'
          have HB4 : Hid (w3.heap[w.heap.size + 4]? = some (.cells [.int .i64 st, .int .i64 lv, .int .u64 rt].toArray 42 (0, 0))) := b4'
          clear b1' b2' b3' b4' hq hg4 hg5 HS HA HR hix
          by_cases hy : y = 0
          · have HR2 : Hid (repTo f 2 = (st, lv, rt)) := by show _ = _; unfold repTo; rw [HXY.out, HREP.out]; simp [hy]
            go_wp2
            go_roundw
            case rel =>
              refine ⟨2, by omega, by go_num, (hch3).set _ _ (Or.inr (by dsimp only; omega)), ?_, ?_, ?_, ?_⟩
              · exact blk_set_far (HB1.out) (by omega)
              · exact blk_set_far (HB2.out) (by omega)
              · rw [show nxtTo f 2 = (nxtTo f 1).set 1 (.int .u64 x) from by simp [nxtTo, HXY.out]]
                exact blk_set (i := 1) (.int .u64 x) HB3.out
              · rw [HR2.out]
                exact blk_set_far (HB4.out) (by omega)
            case measure => simp [intOf]
          · by_cases hs : st = 0
            · have HR2 : Hid (repTo f 2 = (1, 1, max rt y)) := by show _ = _; unfold repTo; rw [HXY.out, HREP.out]; simp [hy, hs]
              go_wp2
              go_roundw
              case rel =>
                refine ⟨2, by omega, by go_num, ((((hch3).set _ _ (Or.inr (by dsimp only; omega))).set _ _ (Or.inr (by dsimp only; omega))).set _ _ (Or.inr (by dsimp only; omega))).set _ _ (Or.inr (by dsimp only; omega)), ?_, ?_, ?_, ?_⟩
                · exact blk_set_far (blk_set_far (blk_set_far (blk_set_far (HB1.out) (by omega)) (by omega)) (by omega)) (by omega)
                · exact blk_set_far (blk_set_far (blk_set_far (blk_set_far (HB2.out) (by omega)) (by omega)) (by omega)) (by omega)
                · rw [show nxtTo f 2 = (nxtTo f 1).set 1 (.int .u64 x) from by simp [nxtTo, HXY.out]]
                  exact blk_set_far (blk_set_far (blk_set_far (blk_set (i := 1) (.int .u64 x) HB3.out) (by omega)) (by omega)) (by omega)
                · rw [HR2.out]
                  have hb4 := blk_set (i := 2) (.int .u64 (max rt y)) (blk_set (i := 1) (.int .i64 1) (blk_set (i := 0) (.int .i64 1) (blk_set_far (k := w.heap.size + 3) (i := 1) (u := .int .u64 x) HB4.out (by omega))))
                  exact hb4
              case measure => simp [intOf]
            · have HR2 : Hid (repTo f 2 = (st, lv, max rt y)) := by show _ = _; unfold repTo; rw [HXY.out, HREP.out]; simp [hy, hs]
              go_wp2
              go_roundw
              case rel =>
                refine ⟨2, by omega, by go_num, ((hch3).set _ _ (Or.inr (by dsimp only; omega))).set _ _ (Or.inr (by dsimp only; omega)), ?_, ?_, ?_, ?_⟩
                · exact blk_set_far (blk_set_far (HB1.out) (by omega)) (by omega)
                · exact blk_set_far (blk_set_far (HB2.out) (by omega)) (by omega)
                · rw [show nxtTo f 2 = (nxtTo f 1).set 1 (.int .u64 x) from by simp [nxtTo, HXY.out]]
                  exact blk_set_far (blk_set (i := 1) (.int .u64 x) HB3.out) (by omega)
                · rw [HR2.out]
                  have hb4 := blk_set (i := 2) (.int .u64 (max rt y)) (blk_set_far (k := w.heap.size + 3) (i := 1) (u := .int .u64 x) HB4.out (by omega))
                  exact hb4
              case measure => simp [intOf]
      · have hix := index2 t u r
        have hkey : keyOf Try.prog 140 (.agg #[.int .i64 2, .int .u16 t, .int .u16 u, .int .u16 r]) = some (kl 2 t u r) := keyOf_kl (by decide) ht hu hr
        have hownr := hch.map hown (by simp)
        have hlm := lookm hownr hkey
        have hmark := hmk (kl 2 t u r)
        have hg := hgd 2 (kl 2 t u r)
        have HFK : Hid (f 2 = ask (p.at_ 2 (kl 2 t u r)).1 (p.at_ 2 (kl 2 t u r)).2 (markOf D (kl 2 t u r)) now cost) := by show f 2 = _; rw [HF.out]; rfl
        have hfk := hfb 2
        have hrb := repTo_bd f (fun j => ⟨(hfb j).2.2.1, (hfb j).2.2.2⟩) 2
        have hS : ∀ W, Chg [] (wr.alloc (.cells #[.int .i64 2, .int .u16 t, .int .u16 u, .int .u16 r] 140)) W → (W.cell? ⟨sb, 2, none⟩ = some (.pointer (some ⟨pb, 0, none⟩)) ∧ W.cell? ⟨sb, 4, none⟩ = some (.map (some db)) ∧ W.cell? ⟨wr.heap.size, 0, none⟩ = some (.int .i64 2) ∧ W.cell? ⟨wr.heap.size, 1, none⟩ = some (.int .u16 t) ∧ W.cell? ⟨wr.heap.size, 2, none⟩ = some (.int .u16 u) ∧ W.cell? ⟨wr.heap.size, 3, none⟩ = some (.int .u16 r) ∧
            (Instr.lookup 135 (.map (some db)) (.agg #[.int .i64 2, .int .u16 t, .int .u16 u, .int .u16 r]) false).run Try.prog W = .ok (.int .u64 (markOf D (kl 2 t u r))) W) := fun W hW => by
          have hW' : Chg [] w W := (hch.alloc _).trans hW (by simp)
          have hb0 := hW.blk (heap_alloc_new wr (.cells [.int .i64 2, .int .u16 t, .int .u16 u, .int .u16 r].toArray 140)) (by simp)
          exact ⟨hW'.cell c2 (by simp), hW'.cell c4 (by simp), blk_cell hb0 rfl, blk_cell hb0 rfl, blk_cell hb0 rfl, blk_cell hb0 rfl, hlm.2.2 W (hW'.map hown (by simp))⟩
        have hP : ∀ W, Chg [] (wr.alloc (.cells #[.int .i64 2, .int .u16 t, .int .u16 u, .int .u16 r] 140)) W → PlanAt W pb ob p := fun W hW => hp.chg ((hch.alloc _).trans hW (by simp)) (by simp) (by simp)
        have hlm0 := hlm.1
        have hg1 := hg.1
        have hg2 := hg.2.1
        have hg3 := hg.2.2
        have hR := fun W hW => rateAt2 pb ob p t u r W (hP W hW) hkey
        obtain ⟨iv, bu, hrt⟩ : ∃ iv bu, p.at_ 2 (kl 2 t u r) = (iv, bu) := ⟨_, _, rfl⟩
        rw [hrt] at hg1 hg2 hg3 HFK
        simp only [hrt] at hR
        simp only at hg1 hg2 hg3
        generalize hM : markOf D (kl 2 t u r) = m at *
        obtain ⟨x, y, hxy⟩ : ∃ x y, ask iv bu m now cost = (x, y) := ⟨_, _, rfl⟩
        have HXY : Hid (f 2 = (x, y)) := by show f 2 = _; rw [HFK.out]; exact hxy
        rw [HXY.out] at hfk
        simp only at hfk
        have hA := fun W => ask_any iv bu m now cost W hg1 hg2 hg3 hlm0 hmark hn hn' hc hc'
        rw [hxy] at hA
        have HA : Hid (∀ W, Calls Try.prog 94 #[.agg #[.int .u64 iv, .int .u64 bu], .int .u64 m, .int .u64 now, .int .i64 cost] W fun e w' => e = .returned (.tuple #[.int .u64 x, .int .u64 y]) ∧ Chg [] W w') := hA
        have HR : Hid (∀ W, Chg [] (wr.alloc (.cells #[.int .i64 2, .int .u16 t, .int .u16 u, .int .u16 r] 140)) W → Calls Try.prog 93 #[.pointer (some ⟨pb, 0, none⟩), .agg #[.int .i64 2, .int .u16 t, .int .u16 u, .int .u16 r]] W fun e w' => e = .returned (.agg #[.int .u64 iv, .int .u64 bu]) ∧ Chg [] W w') := hR
        have HS : Hid (∀ W, Chg [] (wr.alloc (.cells #[.int .i64 2, .int .u16 t, .int .u16 u, .int .u16 r] 140)) W → (W.cell? ⟨sb, 2, none⟩ = some (.pointer (some ⟨pb, 0, none⟩)) ∧ W.cell? ⟨sb, 4, none⟩ = some (.map (some db)) ∧ W.cell? ⟨wr.heap.size, 0, none⟩ = some (.int .i64 2) ∧ W.cell? ⟨wr.heap.size, 1, none⟩ = some (.int .u16 t) ∧ W.cell? ⟨wr.heap.size, 2, none⟩ = some (.int .u16 u) ∧ W.cell? ⟨wr.heap.size, 3, none⟩ = some (.int .u16 r) ∧
            (Instr.lookup 135 (.map (some db)) (.agg #[.int .i64 2, .int .u16 t, .int .u16 u, .int .u16 r]) false).run Try.prog W = .ok (.int .u64 m) W)) := hS
        clear hA hR hS hxy HFK hP HF hrt hM hlm hg hmk hgd hfb hkey hmark hg1 hg2 hg3 hlm0 hownr
        obtain ⟨st, lv, rt, hrep⟩ : ∃ st lv rt, repTo f 2 = (st, lv, rt) := ⟨_, _, _, rfl⟩
        have HREP : Hid (repTo f 2 = (st, lv, rt)) := hrep
        rw [hrep] at b4 hrb
        simp only [repV] at b4 hrb
        clear hrep
        go_wp2_with fail
        go_region_held3 (fun W => W.cell? ⟨sb, 2, none⟩ = some (.pointer (some ⟨pb, 0, none⟩)) ∧ W.cell? ⟨sb, 4, none⟩ = some (.map (some db)) ∧ W.cell? ⟨wr.heap.size, 0, none⟩ = some (.int .i64 2) ∧ W.cell? ⟨wr.heap.size, 1, none⟩ = some (.int .u16 t) ∧ W.cell? ⟨wr.heap.size, 2, none⟩ = some (.int .u16 u) ∧ W.cell? ⟨wr.heap.size, 3, none⟩ = some (.int .u16 r) ∧
            (Instr.lookup 135 (.map (some db)) (.agg #[.int .i64 2, .int .u16 t, .int .u16 u, .int .u16 r]) false).run Try.prog W = .ok (.int .u64 m) W)
          (first | exact HS.out _ ((Chg.refl _ _).drew) | exact HS.out _ (((Chg.refl _ _).drew).trans hg4 (by simp)) | exact HS.out _ ((((Chg.refl _ _).drew).trans hg4 (by simp)).trans hg5 (by simp)))
          (first | (go_at_call 93; refine (HR.out _ ((Chg.refl _ _).drew)).mono ?_; rintro e w2 ⟨rfl, hg4⟩) | (go_at_call 94; refine (HA.out _).mono ?_; rintro e w3 ⟨rfl, hg5⟩))
        all_goals
          have hq : Chg [] wr w3 := ((((Chg.refl _ _).alloc _).drew).trans hg4 (by simp)).trans hg5 (by simp)
          have b1' := hq.blk b1 (by simp)
          have b2' := hq.blk b2 (by simp)
          have b3' := hq.blk b3 (by simp)
          have b4' := hq.blk b4 (by simp)
          have hch3 := hch.trans hq (by simp)
          have e3 : w3.cell? ⟨w.heap.size + 3, 2, none⟩ = some (.int .u64 0) := blk_cell (i := 2) b3' rfl
          have f3 : w3.frozen? ⟨w.heap.size + 3, 2, none⟩ = false := blk_free b3'
          have e40 := blk_cell (i := 0) b4' rfl
          have e41 := blk_cell (i := 1) b4' rfl
          have e42 := blk_cell (i := 2) b4' rfl
          have f40 : w3.frozen? ⟨w.heap.size + 4, 0, none⟩ = false := blk_free b4'
          have f41 : w3.frozen? ⟨w.heap.size + 4, 1, none⟩ = false := blk_free b4'
          have f42 : w3.frozen? ⟨w.heap.size + 4, 2, none⟩ = false := blk_free b4'
          have hl3 := lt_of_block b4'
          have HB1 : Hid (w3.heap[w.heap.size + 1]? = some (.cells [.int .u64 0, .int .u64 0, .int .u64 0].toArray 144 (0, 0))) := b1'
          have HB2 : Hid (w3.heap[w.heap.size + 2]? = some (.cells [.int .i64 0, .int .i64 0, .int .u64 0].toArray 42 (0, 0))) := b2'
          have HB3 : Hid (w3.heap[w.heap.size + 3]? = some (.cells (nxtTo f 2).toArray 144 (0, 0))) := b3'
          have HB4 : Hid (w3.heap[w.heap.size + 4]? = some (.cells [.int .i64 st, .int .i64 lv, .int .u64 rt].toArray 42 (0, 0))) := b4'
          clear b1' b2' b3' b4' hq hg4 hg5 HS HA HR hix
          by_cases hy : y = 0
          · have HR2 : Hid (repTo f 3 = (st, lv, rt)) := by show _ = _; unfold repTo; rw [HXY.out, HREP.out]; simp [hy]
            go_wp2
            go_roundw
            case rel =>
              refine ⟨3, by omega, by go_num, (hch3).set _ _ (Or.inr (by dsimp only; omega)), ?_, ?_, ?_, ?_⟩
              · exact blk_set_far (HB1.out) (by omega)
              · exact blk_set_far (HB2.out) (by omega)
              · rw [show nxtTo f 3 = (nxtTo f 2).set 2 (.int .u64 x) from by simp [nxtTo, HXY.out]]
                exact blk_set (i := 2) (.int .u64 x) HB3.out
              · rw [HR2.out]
                exact blk_set_far (HB4.out) (by omega)
            case measure => simp [intOf]
          · by_cases hs : st = 0
            · have HR2 : Hid (repTo f 3 = (1, 2, max rt y)) := by show _ = _; unfold repTo; rw [HXY.out, HREP.out]; simp [hy, hs]
              go_wp2
              go_roundw
              case rel =>
                refine ⟨3, by omega, by go_num, ((((hch3).set _ _ (Or.inr (by dsimp only; omega))).set _ _ (Or.inr (by dsimp only; omega))).set _ _ (Or.inr (by dsimp only; omega))).set _ _ (Or.inr (by dsimp only; omega)), ?_, ?_, ?_, ?_⟩
                · exact blk_set_far (blk_set_far (blk_set_far (blk_set_far (HB1.out) (by omega)) (by omega)) (by omega)) (by omega)
                · exact blk_set_far (blk_set_far (blk_set_far (blk_set_far (HB2.out) (by omega)) (by omega)) (by omega)) (by omega)
                · rw [show nxtTo f 3 = (nxtTo f 2).set 2 (.int .u64 x) from by simp [nxtTo, HXY.out]]
                  exact blk_set_far (blk_set_far (blk_set_far (blk_set (i := 2) (.int .u64 x) HB3.out) (by omega)) (by omega)) (by omega)
                · rw [HR2.out]
                  have hb4 := blk_set (i := 2) (.int .u64 (max rt y)) (blk_set (i := 1) (.int .i64 2) (blk_set (i := 0) (.int .i64 1) (blk_set_far (k := w.heap.size + 3) (i := 2) (u := .int .u64 x) HB4.out (by omega))))
                  exact hb4
              case measure => simp [intOf]
            · have HR2 : Hid (repTo f 3 = (st, lv, max rt y)) := by show _ = _; unfold repTo; rw [HXY.out, HREP.out]; simp [hy, hs]
              go_wp2
              go_roundw
              case rel =>
                refine ⟨3, by omega, by go_num, ((hch3).set _ _ (Or.inr (by dsimp only; omega))).set _ _ (Or.inr (by dsimp only; omega)), ?_, ?_, ?_, ?_⟩
                · exact blk_set_far (blk_set_far (HB1.out) (by omega)) (by omega)
                · exact blk_set_far (blk_set_far (HB2.out) (by omega)) (by omega)
                · rw [show nxtTo f 3 = (nxtTo f 2).set 2 (.int .u64 x) from by simp [nxtTo, HXY.out]]
                  exact blk_set_far (blk_set (i := 2) (.int .u64 x) HB3.out) (by omega)
                · rw [HR2.out]
                  have hb4 := blk_set (i := 2) (.int .u64 (max rt y)) (blk_set_far (k := w.heap.size + 3) (i := 2) (u := .int .u64 x) HB4.out (by omega))
                  exact hb4
              case measure => simp [intOf]
    · obtain rfl : k = 3 := by omega
      simp only [nxtTo] at b3
      simp only [repV] at b4
      have g10 := blk_cell (i := 0) b1 rfl
      have g11 := blk_cell (i := 1) b1 rfl
      have g12 := blk_cell (i := 2) b1 rfl
      have g20 := blk_cell (i := 0) b2 rfl
      have g21 := blk_cell (i := 1) b2 rfl
      have g22 := blk_cell (i := 2) b2 rfl
      have g30 := blk_cell (i := 0) b3 rfl
      have g31 := blk_cell (i := 1) b3 rfl
      have g32 := blk_cell (i := 2) b3 rfl
      have g40 := blk_cell (i := 0) b4 rfl
      have g41 := blk_cell (i := 1) b4 rfl
      have g42 := blk_cell (i := 2) b4 rfl
      have f1 : ∀ i, wr.frozen? ⟨w.heap.size + 1, i, none⟩ = false := fun i => blk_free b1
      have f2 : ∀ i, wr.frozen? ⟨w.heap.size + 2, i, none⟩ = false := fun i => blk_free b2
      clear b1 b2 b3 b4 hfb hgd hmk
      go_wp2_with fail
      go_region
      go_wp2
      refine bodyPost_ret (v := .tuple #[.agg #[.int .u64 (f 0).1, .int .u64 (f 1).1, .int .u64 (f 2).1], .agg #[.int .i64 (repTo f 3).1, .int .i64 (repTo f 3).2.1, .int .u64 (repTo f 3).2.2]]) (by simp [results, Try.results65, go_sem, g10, g11, g12, g20, g21, g22]) rfl ⟨rfl, (((((((hch).set _ _ (Or.inr (by dsimp only; omega))).set _ _ (Or.inr (by dsimp only; omega))).set _ _ (Or.inr (by dsimp only; omega))).set _ _ (Or.inr (by dsimp only; omega))).set _ _ (Or.inr (by dsimp only; omega))).set _ _ (Or.inr (by dsimp only; omega))).drew⟩
end Go.Proofs.Ytbdnhllhdjepcaa
