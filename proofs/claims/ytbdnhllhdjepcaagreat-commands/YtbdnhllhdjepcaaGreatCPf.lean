import Derived.Test.YtbdnhllhdjepcaaGreatCPo
namespace Go.Proofs.YtbdnhllhdjepcaaGreat
set_option linter.unusedVariables false
set_option linter.unusedSimpArgs false
open Go.RowKit Go.Maps

/-! ### an override is taken up -/
theorem at_any (L t u r : Int) (w : World) (h0 : 0 ≤ L) (h2 : L ≤ 2) : Calls Tryz.prog 137 #[.int .i64 L, .agg #[.int .u16 t, .int .u16 u, .int .u16 r]] w fun e w' => e = .returned (.agg #[.int .i64 L, .int .u16 t, .int .u16 (cutU L u), .int .u16 (cutR L r)]) ∧ Chg [] w w' := by
  rcases (show L = 0 ∨ L = 1 ∨ L = 2 from by omega) with rfl | rfl | rfl
  · refine (at0 t u r w).mono ?_
    rintro e w' ⟨rfl, rfl⟩
    exact ⟨rfl, ((Chg.refl _ _).alloc _).alloc _⟩
  · refine (at1 t u r w).mono ?_
    rintro e w' ⟨rfl, rfl⟩
    exact ⟨rfl, ((Chg.refl _ _).alloc _).alloc _⟩
  · refine (at2 t u r w).mono ?_
    rintro e w' ⟨rfl, rfl⟩
    exact ⟨rfl, ((Chg.refl _ _).alloc _).alloc _⟩
abbrev plB (p : Pln) (ob : Nat) : List Value := [.int .u64 p.i0, .int .u64 p.b0, .int .u64 p.i1, .int .u64 p.b1, .int .u64 p.i2, .int .u64 p.b2, .map (some ob)]
/-- the plan in memory, its map so often stored into -/
structure PlanN (w : World) (pb ob n : Nat) (p : Pln) : Prop where
  blk : w.heap[pb]? = some (.cells (plB p ob).toArray 183 (0, 0))
  own : w.ownsMap Tryz.prog 196 rateElem ob n p.own
theorem PlanN.at_ {w : World} {pb ob n : Nat} {p : Pln} (h : PlanN w pb ob n p) : PlanAt w pb ob p := ⟨h.blk, n, h.own⟩
theorem PlanN.chg {l : List Nat} {w w' : World} {pb ob n : Nat} {p : Pln} (h : PlanN w pb ob n p) (hc : Chg l w w') (h1 : pb ∉ l) (h2 : ob ∉ l) : PlanN w' pb ob n p := ⟨hc.blk h.blk h1, hc.map h.own h2⟩
def Ov.key (o : Ov) : Lit := kl o.L o.t o.u o.r
def Pln.with_ (p : Pln) (o : Ov) : Pln := { p with own := p.own.put o.key (.agg [lu (ivl o.c o.p), lu o.b]) }
def OvT (p : Pln) (o : Ov) : Prop := OvGood o ∧ Maps.has p.own o.key = false
def OvrP (w w' : World) (pb ob n : Nat) (p : Pln) (o : Ov) (e : Ending) : Prop := (OvT p o → e = .returned (.bool true) ∧ PlanN w' pb ob (n + 1) (p.with_ o) ∧ Chg [ob] w w') ∧ (¬ OvT p o → e = .returned (.bool false) ∧ Chg [] w w')
theorem OvrP.no {w w' : World} {pb ob n : Nat} {p : Pln} {o : Ov} (h : ¬ OvT p o) (hc : Chg [] w w') : OvrP w w' pb ob n p o (.returned (.bool false)) := ⟨fun h' => absurd h' h, fun _ => ⟨rfl, hc⟩⟩
set_option maxRecDepth 100000 in
set_option maxHeartbeats 4000000 in
theorem override_plan (pb ob n : Nat) (p : Pln) (o : Ov) (w : World) (h : PlanN w pb ob n p) (ho : o.Ok) (hn : n ≤ 1000) :
    Calls Tryz.prog 97 #[.pointer (some ⟨pb, 0, none⟩), .agg #[.int .i64 o.L, .int .u16 o.t, .int .u16 o.u, .int .u16 o.r, .int .i64 o.c, .int .i64 o.p, .int .i64 o.b]] w fun e w' => OvrP w w' pb ob n p o e := by
  have hpl := lt_of_block h.blk
  have hol := h.own.lt
  have hpo : pb ≠ ob := fun e => by obtain ⟨_, _, hb, _⟩ := h.own; rw [← e, h.blk] at hb; cases hb
  have HP : Hid (PlanN w pb ob n p) := h
  have c6 : w.cell? ⟨pb, 6, none⟩ = some (.map (some ob)) := blk_cell (i := 6) h.blk rfl
  have hbx := heap_alloc_new w (.cells (ovc o).toArray 158)
  have hcw : Chg [] w (w.alloc (.cells (ovc o).toArray 158)) := (Chg.refl _ _).alloc _
  obtain ⟨wb, hwb⟩ : ∃ wb, wb = w.alloc (.cells (ovc o).toArray 158) := ⟨_, rfl⟩
  rw [← hwb] at hbx hcw
  have hkw : w.alloc (.cells #[.int .i64 o.L, .int .u16 o.t, .int .u16 o.u, .int .u16 o.r, .int .i64 o.c, .int .i64 o.p, .int .i64 o.b] 158) = wb := hwb.symm
  clear hwb h
  have b0 := blk_cell (i := 0) hbx rfl
  have b1 := blk_cell (i := 1) hbx rfl
  have b2 := blk_cell (i := 2) hbx rfl
  have b3 := blk_cell (i := 3) hbx rfl
  have b4 := blk_cell (i := 4) hbx rfl
  have b5 := blk_cell (i := 5) hbx rfl
  have b6 := blk_cell (i := 6) hbx rfl
  have HBX : Hid (wb.heap[w.heap.size]? = some (.cells (ovc o).toArray 158 (0, 0))) := hbx
  have HCW : Hid (Chg [] w wb) := hcw
  clear hbx hcw
  by_cases hL : 0 ≤ o.L ∧ o.L ≤ 2
  case neg =>
    have HN : Hid (¬ OvT p o) := fun h => hL ⟨h.1.2.1, h.1.2.2.1⟩
    have hl : o.L < 0 ∨ 2 < o.L := by omega
    go_enter Tryz.func97, Tryz.ntmps97
    go_wp2
    all_goals first
      | (exfalso; omega)
      | (go_ret; exact OvrP.no HN.out HCW.out)
  obtain ⟨hL0, hL2⟩ := hL
  have hdL0 : decide (o.L < 0) = false := decide_eq_false (by omega)
  have hdL2 : decide (2 < o.L) = false := decide_eq_false (by omega)
  obtain ⟨cu, hcu⟩ : ∃ cu, cu = cutU o.L o.u := ⟨_, rfl⟩
  obtain ⟨cr, hcr'⟩ : ∃ cr, cr = cutR o.L o.r := ⟨_, rfl⟩
  have HAt : Hid (∀ W, Calls Tryz.prog 137 #[.int .i64 o.L, .agg #[.int .u16 o.t, .int .u16 o.u, .int .u16 o.r]] W fun e w' => e = .returned (.agg #[.int .i64 o.L, .int .u16 o.t, .int .u16 cu, .int .u16 cr]) ∧ Chg [] W w') := fun W => by
    rw [hcu, hcr']
    exact at_any o.L o.t o.u o.r W hL0 hL2
  have HG : Hid (OvGood o ↔ QOk o.c o.p o.b ∧ o.u = cu ∧ o.r = cr) := by
    show _ ↔ _
    unfold OvGood
    rw [hcu, hcr']
    unfold cutU cutR
    constructor
    · rintro ⟨z0, _, _, z1, z2⟩
      exact ⟨z0, by split; (exact z1 (by assumption)); rfl, by split; (exact z2 (by assumption)); rfl⟩
    · rintro ⟨z0, z1, z2⟩
      exact ⟨z0, hL0, hL2, fun hh => by rw [if_pos hh] at z1; exact z1, fun hh => by rw [if_pos hh] at z2; exact z2⟩
  clear hcu hcr'
  go_enter Tryz.func97, Tryz.ntmps97
  go_wp2_with fail
  refine (HAt.out _).mono ?_
  rintro e w1 ⟨rfl, q1⟩
  have HC1 : Hid (Chg [] w w1) := HCW.out.trans q1 (by simp)
  have z1 := q1.blk HBX.out (by simp)
  have f1 := blk_cell (i := 1) z1 rfl
  have f2 := blk_cell (i := 2) z1 rfl
  have f3 := blk_cell (i := 3) z1 rfl
  have hw1 := lt_of_block z1
  have hpl1 : pb < w1.heap.size := Nat.lt_of_lt_of_le hpl HC1.out.size
  have d6 : w1.cell? ⟨pb, 6, none⟩ = some (.map (some ob)) := HC1.out.cell c6 (by simp)
  by_cases hkey : o.u = cu ∧ o.r = cr
  case neg =>
    have HN : Hid (¬ OvT p o) := fun h => hkey (HG.out.1 h.1).2
    have hkk : cu = o.u → ¬ cr = o.r := fun h1 h2 => hkey ⟨h1.symm, h2.symm⟩
    go_wp2
    all_goals
      go_ret
      exact OvrP.no HN.out (HC1.out.alloc _)
  obtain ⟨rfl, rfl⟩ := hkey
  have HG' : Hid (OvGood o ↔ QOk o.c o.p o.b) := HG.out.trans ⟨fun h => h.1, fun h => ⟨h, rfl, rfl⟩⟩
  have hkeyE : keyOf Tryz.prog 196 (.agg #[.int .i64 o.L, .int .u16 o.t, .int .u16 o.u, .int .u16 o.r]) = some o.key := keyOf_kl (WalkArith.wf_i64 ⟨by omega, by omega⟩) (WalkArith.wf_u16 ho.t) (WalkArith.wf_u16 ho.u) (WalkArith.wf_u16 ho.r)
  have HKE : Hid (keyOf Tryz.prog 196 (.agg #[.int .i64 o.L, .int .u16 o.t, .int .u16 o.u, .int .u16 o.r]) = some o.key) := hkeyE
  obtain ⟨ra, rb, _, hrun0⟩ := lookr (p := p) ⟨n, HP.out.own⟩ hkeyE
  have hbp := heap_alloc_new w1 (.cells [.int .i64 o.L, .int .u16 o.t, .int .u16 o.u, .int .u16 o.r].toArray 196)
  have hbo := blk_alloc z1 (.cells [.int .i64 o.L, .int .u16 o.t, .int .u16 o.u, .int .u16 o.r].toArray 196)
  have hc2 := HC1.out.alloc (.cells [.int .i64 o.L, .int .u16 o.t, .int .u16 o.u, .int .u16 o.r].toArray 196)
  obtain ⟨w2, hw2⟩ : ∃ w2, w2 = w1.alloc (.cells [.int .i64 o.L, .int .u16 o.t, .int .u16 o.u, .int .u16 o.r].toArray 196) := ⟨_, rfl⟩
  rw [← hw2] at hbp hbo hc2
  have hk2 : w1.alloc (.cells #[.int .i64 o.L, .int .u16 o.t, .int .u16 o.u, .int .u16 o.r] 196) = w2 := hw2.symm
  clear hw2
  have hrun := hrun0 _ hc2.drew
  have hrun2 := fun o1 => hrun0 _ ((hc2.alloc o1).drew)
  have HC2 : Hid (Chg [] w w2) := hc2
  have HBO : Hid (w2.heap[w.heap.size]? = some (.cells (ovc o).toArray 158 (0, 0))) := hbo
  have HBP : Hid (w2.heap[w1.heap.size]? = some (.cells [.int .i64 o.L, .int .u16 o.t, .int .u16 o.u, .int .u16 o.r].toArray 196 (0, 0))) := hbp
  have g1 := blk_cell (i := 1) hbo rfl
  have g2 := blk_cell (i := 2) hbo rfl
  have g3 := blk_cell (i := 3) hbo rfl
  have g4 := blk_cell (i := 4) hbo rfl
  have g5 := blk_cell (i := 5) hbo rfl
  have g6 := blk_cell (i := 6) hbo rfl
  have p0 := blk_cell (i := 0) hbp rfl
  have p1 := blk_cell (i := 1) hbp rfl
  have p2 := blk_cell (i := 2) hbp rfl
  have p3 := blk_cell (i := 3) hbp rfl
  have d62 : w2.cell? ⟨pb, 6, none⟩ = some (.map (some ob)) := hc2.cell c6 (by simp)
  have hlp := lt_of_block hbp
  have hlo := lt_of_block hbo
  have hpl2 : pb < w2.heap.size := Nat.lt_of_lt_of_le hpl hc2.size
  clear z1 f1 f2 f3 d6 c6 hrun0 hbp hbo hc2 hkeyE b0 b1 b2 b3 b4 b5 b6
  generalize hhv : Maps.has p.own o.key = hh at *
  have HHV : Hid (Maps.has p.own o.key = hh) := hhv
  clear hhv
  cases hh
  case true =>
    have HN : Hid (¬ OvT p o) := fun h => by have := h.2; rw [HHV.out] at this; cases this
    go_wp2_with fail
    go_region
    go_wp2
    all_goals
      go_ret
      refine OvrP.no HN.out ?_
      repeat (first | exact HC2.out | refine Chg.drew ?_ | refine Chg.alloc ?_ _ | refine Chg.set ?_ _ _ (Or.inr (by dsimp only; omega)))
  case false =>
    by_cases hq : QOk o.c o.p o.b
    case neg =>
      have HN : Hid (¬ OvT p o) := fun h => hq (HG'.out.1 h.1)
      have HRt : Hid (∀ W, Calls Tryz.prog 96 #[.agg #[.int .i64 o.c, .int .i64 o.p, .int .i64 o.b]] W fun e w' => e = .returned (.tuple #[.agg #[.int .u64 0, .int .u64 0], .bool false]) ∧ Chg [] W w') := fun W => rateOf_no o.c o.p o.b W ho.c ho.p ho.b hq
      clear hq
      go_wp2_with fail
      go_region
      all_goals
        go_wp2_with fail
        refine (HRt.out _).mono ?_
        rintro e w5 ⟨rfl, q5⟩
        have HC5 : Hid (Chg [] w2 w5) := Chg.trans (by repeat (first | exact Chg.refl _ _ | refine Chg.drew ?_ | refine Chg.alloc ?_ _ | refine Chg.set ?_ _ _ (Or.inr (by dsimp only; omega)))) q5 (by simp)
        clear q5
        go_wp2
        go_ret
        refine OvrP.no HN.out ?_
        refine Chg.alloc ?_ _
        exact HC2.out.trans HC5.out (by simp)
    case pos =>
      have HY : Hid (OvT p o) := ⟨HG'.out.2 hq, HHV.out⟩
      obtain ⟨k1, k2, k3, k4, k5, k6, k7⟩ := id hq
      have HRt : Hid (∀ W, Calls Tryz.prog 96 #[.agg #[.int .i64 o.c, .int .i64 o.p, .int .i64 o.b]] W fun e w' => e = .returned (.tuple #[.agg #[.int .u64 (ivl o.c o.p), .int .u64 o.b], .bool true]) ∧ Chg [] W w') := fun W => rateOf_any o.c o.p o.b W k1 k2 k3 k4 k5 k6 k7
      have HUP : Hid (∀ w5, Chg [] w2 w5 → ∃ w7, (Instr.mapUpdate 178 (.map (some ob)) (.agg #[.int .i64 o.L, .int .u16 o.t, .int .u16 o.u, .int .u16 o.r]) (.agg #[.int .u64 (ivl o.c o.p), .int .u64 o.b])).run Tryz.prog (w5.alloc (.cells #[.int .u64 (ivl o.c o.p), .int .u64 o.b] 180)).drew = .ok () w7 ∧ PlanN w7 pb ob (n + 1) (p.with_ o) ∧ Chg [ob] w w7) := fun w5 h5 => by
        have hcc : Chg [] w (w5.alloc (.cells #[.int .u64 (ivl o.c o.p), .int .u64 o.b] 180)).drew := ((HC2.out.trans h5 (by simp)).alloc _).drew
        have hpn := HP.out.chg hcc (by simp) (by simp)
        obtain ⟨w7, h1, h2, h3⟩ := hpn.own.store law140 Tryz.underlying178 (by unfold maxLen; omega) HKE.out (rateElem_mk (a := ivl o.c o.p) (b := o.b) (WalkArith.wf_u64 ⟨by omega, by omega⟩) (WalkArith.wf_u64 ⟨by omega, by omega⟩))
        have hg : Chg [ob] (w5.alloc (.cells #[.int .u64 (ivl o.c o.p), .int .u64 o.b] 180)).drew w7 := Chg.ofGrown h3.grown
        exact ⟨w7, h1, ⟨hg.blk hpn.blk (by simpa using hpo), h2⟩, (hcc.mono (by simp)).trans hg (fun j hj => Or.inl hj)⟩
      clear hq k1 k2 k3 k4 k5 k6 k7
      generalize ivl o.c o.p = iv at *
      go_wp2_with fail
      go_region
      all_goals
        go_wp2_with fail
        refine (HRt.out _).mono ?_
        rintro e w5 ⟨rfl, q5⟩
        have HC5 : Hid (Chg [] w2 w5) := Chg.trans (by repeat (first | exact Chg.refl _ _ | refine Chg.drew ?_ | refine Chg.alloc ?_ _ | refine Chg.set ?_ _ _ (Or.inr (by dsimp only; omega)))) q5 (by simp)
        obtain ⟨w7, hu7, hp7, hc7⟩ := HUP.out w5 HC5.out
        have HP7 : Hid _ := hp7
        have HC7 : Hid _ := hc7
        have zp := HC5.out.blk HBP.out (by simp)
        have s0 := blk_cell (i := 0) zp rfl
        have s1 := blk_cell (i := 1) zp rfl
        have s2 := blk_cell (i := 2) zp rfl
        have s3 := blk_cell (i := 3) zp rfl
        have s6 : w5.cell? ⟨pb, 6, none⟩ = some (.map (some ob)) := HC5.out.cell d62 (by simp)
        have hl5 := HC5.out.size
        have hlz := lt_of_block zp
        have hpl5 : pb < w5.heap.size := by omega
        clear q5 zp hp7 hc7
        go_wp2_with fail
        go_region
        all_goals
          go_wp2
          go_ret
          exact ⟨fun _ => ⟨rfl, HP7.out, HC7.out⟩, fun h => absurd HY.out h⟩
end Go.Proofs.YtbdnhllhdjepcaaGreat
namespace Go.Proofs.YtbdnhllhdjepcaaGreat
set_option linter.unusedVariables false
set_option linter.unusedSimpArgs false
open Go.RowKit Go.Maps

/-! ### a plan is made -/
def plnTo (c : Cf) (os : List Ov) : Nat → Pln
  | 0 => ⟨ivl c.c0 c.p0, c.b0, ivl c.c1 c.p1, c.b1, ivl c.c2 c.p2, c.b2, .map []⟩
  | k + 1 => match os[k]? with | some o => (plnTo c os k).with_ o | none => plnTo c os k
theorem plnTo_succ (c : Cf) (os : List Ov) (k : Nat) (hk : k < os.length) : plnTo c os (k + 1) = (plnTo c os k).with_ os[k] := by
  show (match os[k]? with | some o => (plnTo c os k).with_ o | none => plnTo c os k) = _
  rw [List.getElem?_eq_getElem hk]
structure PlOk (c : Cf) (os : List Ov) : Prop where
  sz : szOk c.sh c.sl c.ev c.de c.qu
  len : os.length ≤ 8
  q0 : QOk c.c0 c.p0 c.b0
  q1 : QOk c.c1 c.p1 c.b1
  q2 : QOk c.c2 c.p2 c.b2
  fit : ∀ k (hk : k < os.length), OvT (plnTo c os k) os[k]
def PofP (w w' : World) (c : Cf) (os : List Ov) (e : Ending) : Prop := Chg [] w w' ∧ (PlOk c os → ∃ pb ob n, e = .returned (.tuple #[.pointer (some ⟨pb, 0, none⟩), .int .i64 0]) ∧ PlanN w' pb ob n (plnTo c os os.length) ∧ w.heap.size ≤ pb ∧ w.heap.size ≤ ob) ∧ (¬ PlOk c os → e = .returned (.tuple #[.pointer none, .int .i64 1]))
theorem PofP.no {w w' : World} {c : Cf} {os : List Ov} (h : ¬ PlOk c os) (hc : Chg [] w w') : PofP w w' c os (.returned (.tuple #[.pointer none, .int .i64 1])) := ⟨hc, fun h' => absurd h' h, fun _ => rfl⟩

set_option maxRecDepth 100000 in
set_option maxHeartbeats 4000000 in
theorem planOf_any (c : Cf) (la : Option Addr) (lb lof cap : Nat) (os : List Ov) (w : World) (h : OvsAt w la lb lof os) (hok : ∀ o ∈ os, o.Ok) (hc : c.Ok) :
    Calls Tryz.prog 49 #[.agg #[.int .i64 c.c0, .int .i64 c.p0, .int .i64 c.b0, .int .i64 c.c1, .int .i64 c.p1, .int .i64 c.b1, .int .i64 c.c2, .int .i64 c.p2, .int .i64 c.b2, .slice la os.length cap, .int .i64 c.sh, .int .i64 c.sl, .int .i64 c.ev, .int .i64 c.de, .int .i64 c.qu]] w fun e w' => PofP w w' c os e := by
  have hmm := fun w => run_makeMapN Tryz.underlying178 os.length w
  have hlen := h.len
  have HOV : Hid (OvsAt w la lb lof os) := h
  have HOK : Hid (∀ o ∈ os, o.Ok) := hok
  have hbx := heap_alloc_new w (.cells (cfc c (.slice la os.length cap)).toArray 33)
  have hcw : Chg [] w (w.alloc (.cells (cfc c (.slice la os.length cap)).toArray 33)) := (Chg.refl _ _).alloc _
  obtain ⟨wb, hwb⟩ : ∃ wb, wb = w.alloc (.cells (cfc c (.slice la os.length cap)).toArray 33) := ⟨_, rfl⟩
  rw [← hwb] at hbx hcw
  have hkw : w.alloc (.cells #[.int .i64 c.c0, .int .i64 c.p0, .int .i64 c.b0, .int .i64 c.c1, .int .i64 c.p1, .int .i64 c.b1, .int .i64 c.c2, .int .i64 c.p2, .int .i64 c.b2, .slice la os.length cap, .int .i64 c.sh, .int .i64 c.sl, .int .i64 c.ev, .int .i64 c.de, .int .i64 c.qu] 33) = wb := hwb.symm
  clear hwb h hok
  have b0 := blk_cell (i := 0) hbx rfl
  have b1 := blk_cell (i := 1) hbx rfl
  have b2 := blk_cell (i := 2) hbx rfl
  have b3 := blk_cell (i := 3) hbx rfl
  have b4 := blk_cell (i := 4) hbx rfl
  have b5 := blk_cell (i := 5) hbx rfl
  have b6 := blk_cell (i := 6) hbx rfl
  have b7 := blk_cell (i := 7) hbx rfl
  have b8 := blk_cell (i := 8) hbx rfl
  have b9 := blk_cell (i := 9) hbx rfl
  have b10 := blk_cell (i := 10) hbx rfl
  have b11 := blk_cell (i := 11) hbx rfl
  have b12 := blk_cell (i := 12) hbx rfl
  have b13 := blk_cell (i := 13) hbx rfl
  have b14 := blk_cell (i := 14) hbx rfl
  have HBX : Hid (wb.heap[w.heap.size]? = some (.cells (cfc c (.slice la os.length cap)).toArray 33 (0, 0))) := hbx
  have HCW : Hid (Chg [] w wb) := hcw
  clear hbx hcw
  by_cases hsz : szOk c.sh c.sl c.ev c.de c.qu
  case neg =>
    have HN : Hid (¬ PlOk c os) := fun h => hsz h.sz
    have HSz : Hid (∀ W, Calls Tryz.prog 95 #[.agg #[.int .i64 c.c0, .int .i64 c.p0, .int .i64 c.b0, .int .i64 c.c1, .int .i64 c.p1, .int .i64 c.b1, .int .i64 c.c2, .int .i64 c.p2, .int .i64 c.b2, .slice la os.length cap, .int .i64 c.sh, .int .i64 c.sl, .int .i64 c.ev, .int .i64 c.de, .int .i64 c.qu]] W fun e w' => e = .returned (.bool false) ∧ Chg [] W w') := fun W => sizes_no _ _ _ _ _ _ _ _ _ _ c.sh c.sl c.ev c.de c.qu W hsz
    clear hsz
    go_enter Tryz.func49, Tryz.ntmps49
    go_wp2_with fail
    refine (HSz.out _).mono ?_
    rintro e w1 ⟨rfl, q1⟩
    go_wp2
    go_ret2
    exact PofP.no HN.out (HCW.out.trans q1 (by simp))
  obtain ⟨⟨z1, z2⟩, ⟨z3, z4⟩, ⟨z5, z6⟩, ⟨z7, z8⟩, z9, z10⟩ := id hsz
  have HSz : Hid (∀ W, Calls Tryz.prog 95 #[.agg #[.int .i64 c.c0, .int .i64 c.p0, .int .i64 c.b0, .int .i64 c.c1, .int .i64 c.p1, .int .i64 c.b1, .int .i64 c.c2, .int .i64 c.p2, .int .i64 c.b2, .slice la os.length cap, .int .i64 c.sh, .int .i64 c.sl, .int .i64 c.ev, .int .i64 c.de, .int .i64 c.qu]] W fun e w' => e = .returned (.bool true) ∧ Chg [] W w') := fun W => sizes_any _ _ _ _ _ _ _ _ _ _ c.sh c.sl c.ev c.de c.qu W z1 z2 z3 z4 z5 z6 z7 z8 z9 z10
  have HSZ : Hid (szOk c.sh c.sl c.ev c.de c.qu) := hsz
  clear hsz
  go_enter Tryz.func49, Tryz.ntmps49
  go_wp2_with fail
  refine (HSz.out _).mono ?_
  rintro e w1 ⟨rfl, q1⟩
  have HC1 : Hid (Chg [] w w1) := HCW.out.trans q1 (by simp)
  have g1 := q1.blk HBX.out (by simp)
  have k0 := blk_cell (i := 0) g1 rfl
  have k1 := blk_cell (i := 1) g1 rfl
  have k2 := blk_cell (i := 2) g1 rfl
  have k3 := blk_cell (i := 3) g1 rfl
  have k4 := blk_cell (i := 4) g1 rfl
  have k5 := blk_cell (i := 5) g1 rfl
  have k6 := blk_cell (i := 6) g1 rfl
  have k7 := blk_cell (i := 7) g1 rfl
  have k8 := blk_cell (i := 8) g1 rfl
  have k9 := blk_cell (i := 9) g1 rfl
  have k10 := blk_cell (i := 10) g1 rfl
  have k11 := blk_cell (i := 11) g1 rfl
  have k12 := blk_cell (i := 12) g1 rfl
  have k13 := blk_cell (i := 13) g1 rfl
  have k14 := blk_cell (i := 14) g1 rfl
  have hl1 := lt_of_block g1
  clear q1 b0 b1 b2 b3 b4 b5 b6 b7 b8 b9 b10 b11 b12 b13 b14
  by_cases hl8 : os.length ≤ 8
  case neg =>
    have HN : Hid (¬ PlOk c os) := fun h => hl8 h.len
    have hl9 : 8 < (os.length : Int) := by omega
    go_wp2
    all_goals first
      | (exfalso; omega)
      | (go_ret2; exact PofP.no HN.out HC1.out)
  have hl9 : ¬ 8 < (os.length : Int) := by omega
  have hl0 : (0 : Int) ≤ (os.length : Int) := by omega
  go_wp2_with fail
  go_loopw [28] (fun i wr => ∃ k : Nat, i = .int .i64 k ∧ k ≤ 3 ∧ Chg [] w1 wr ∧ wr.heap[w1.heap.size + 1]? = some (.cells (ratesTo c.c0 c.p0 c.b0 c.c1 c.p1 c.b1 c.c2 c.p2 c.b2 w1.heap.size k).toArray 183 (0, 0)) ∧ wr.ownsMap Tryz.prog 196 rateElem w1.heap.size 0 (.map []) ∧ ∀ j, j < k → c.qk j) (fun i _ => 3 - (intOf i).toNat)
  case atStart => exact ⟨0, rfl, by omega, ((Chg.refl _ _).alloc _).alloc _, heap_alloc2_new _ _ _, (World.ownsMap_made _ _ _ _).alloc _, fun j hj => absurd hj (by omega)⟩
  case round =>
    obtain ⟨k, rfl, hk, hch, hb, ho, hqs⟩ := hrel
    have HQS : Hid (∀ j, j < k → c.qk j) := hqs
    clear hqs
    by_cases hlt : k < 3
    · rcases (show k = 0 ∨ k = 1 ∨ k = 2 from by omega) with rfl | rfl | rfl
      · have hix := qindex0 c.c0 c.p0 c.b0 c.c1 c.p1 c.b1 c.c2 c.p2 c.b2
        by_cases hq : QOk c.c0 c.p0 c.b0
        case neg =>
          have HN : Hid (¬ PlOk c os) := fun h => hq h.q0
          go_wp2_with fail
          refine (rateOf_no c.c0 c.p0 c.b0 _ hc.c0 hc.p0 hc.b0 hq).mono ?_
          rintro e w2 ⟨rfl, hc2⟩
          have HQ2 : Hid (Chg [] wr w2) := ((Chg.refl _ _).alloc _).trans hc2 (by simp)
          clear hc2
          go_wp2
          go_ret2
          exact PofP.no HN.out (((HC1.out.trans hch (by simp)).trans HQ2.out (by simp)).alloc _)
        have HQQ : Hid (c.qk 0) := hq
        go_wp2_with fail
        refine (rateOf_any c.c0 c.p0 c.b0 _ hq.1 hq.2.1 hq.2.2.1 hq.2.2.2.1 hq.2.2.2.2.1 hq.2.2.2.2.2.1 hq.2.2.2.2.2.2).mono ?_
        rintro e w2 ⟨rfl, hc2⟩
        have hqq : Chg [] wr w2 := ((Chg.refl _ _).alloc _).trans hc2 (by simp)
        have b2' := hqq.blk hb (by simp)
        have o2' := hqq.map ho (by simp)
        have hch2 := hch.trans hqq (by simp)
        have e0 : w2.cell? ⟨w1.heap.size + 1, 0, none⟩ = some (.int .u64 0) := blk_cell (i := 0) b2' rfl
        have e1 : w2.cell? ⟨w1.heap.size + 1, 1, none⟩ = some (.int .u64 0) := blk_cell (i := 1) b2' rfl
        have f0 : ∀ i, w2.frozen? ⟨w1.heap.size + 1, i, none⟩ = false := fun i => blk_free b2'
        have hl2 := lt_of_block b2'
        have HB : Hid (w2.heap[w1.heap.size + 1]? = some (.cells (ratesTo c.c0 c.p0 c.b0 c.c1 c.p1 c.b1 c.c2 c.p2 c.b2 w1.heap.size 0).toArray 183 (0, 0))) := b2'
        clear b2' hc2 hb hq
        go_wp2_with fail
        go_region
        go_wp2
        go_roundw
        case rel =>
          have r1 := blk_alloc (blk_set (i := 1) (.int .u64 c.b0) (blk_set (i := 0) (.int .u64 (ivl c.c0 c.p0)) HB.out)) (.cells #[.int .u64 (ivl c.c0 c.p0), .int .u64 c.b0] 180)
          exact ⟨1, by go_num, by omega, (((hch2.set _ _ (Or.inr (by dsimp only; omega))).set _ _ (Or.inr (by dsimp only; omega))).alloc _).drew, r1, ((o2'.setCell (by dsimp only; omega) _).setCell (by dsimp only; omega) _).alloc _, fun j hj => by rcases Nat.lt_or_ge j 0 with h' | h'; (exact HQS.out j h'); (have : j = 0 := by omega); (rw [this]; exact HQQ.out)⟩
        case measure => simp [intOf]
      · have hix := qindex1 c.c0 c.p0 c.b0 c.c1 c.p1 c.b1 c.c2 c.p2 c.b2
        by_cases hq : QOk c.c1 c.p1 c.b1
        case neg =>
          have HN : Hid (¬ PlOk c os) := fun h => hq h.q1
          go_wp2_with fail
          refine (rateOf_no c.c1 c.p1 c.b1 _ hc.c1 hc.p1 hc.b1 hq).mono ?_
          rintro e w2 ⟨rfl, hc2⟩
          have HQ2 : Hid (Chg [] wr w2) := ((Chg.refl _ _).alloc _).trans hc2 (by simp)
          clear hc2
          go_wp2
          go_ret2
          exact PofP.no HN.out (((HC1.out.trans hch (by simp)).trans HQ2.out (by simp)).alloc _)
        have HQQ : Hid (c.qk 1) := hq
        go_wp2_with fail
        refine (rateOf_any c.c1 c.p1 c.b1 _ hq.1 hq.2.1 hq.2.2.1 hq.2.2.2.1 hq.2.2.2.2.1 hq.2.2.2.2.2.1 hq.2.2.2.2.2.2).mono ?_
        rintro e w2 ⟨rfl, hc2⟩
        have hqq : Chg [] wr w2 := ((Chg.refl _ _).alloc _).trans hc2 (by simp)
        have b2' := hqq.blk hb (by simp)
        have o2' := hqq.map ho (by simp)
        have hch2 := hch.trans hqq (by simp)
        have e0 : w2.cell? ⟨w1.heap.size + 1, 2, none⟩ = some (.int .u64 0) := blk_cell (i := 2) b2' rfl
        have e1 : w2.cell? ⟨w1.heap.size + 1, 3, none⟩ = some (.int .u64 0) := blk_cell (i := 3) b2' rfl
        have f0 : ∀ i, w2.frozen? ⟨w1.heap.size + 1, i, none⟩ = false := fun i => blk_free b2'
        have hl2 := lt_of_block b2'
        have HB : Hid (w2.heap[w1.heap.size + 1]? = some (.cells (ratesTo c.c0 c.p0 c.b0 c.c1 c.p1 c.b1 c.c2 c.p2 c.b2 w1.heap.size 1).toArray 183 (0, 0))) := b2'
        clear b2' hc2 hb hq
        go_wp2_with fail
        go_region
        go_wp2
        go_roundw
        case rel =>
          have r1 := blk_alloc (blk_set (i := 3) (.int .u64 c.b1) (blk_set (i := 2) (.int .u64 (ivl c.c1 c.p1)) HB.out)) (.cells #[.int .u64 (ivl c.c1 c.p1), .int .u64 c.b1] 180)
          exact ⟨2, by go_num, by omega, (((hch2.set _ _ (Or.inr (by dsimp only; omega))).set _ _ (Or.inr (by dsimp only; omega))).alloc _).drew, r1, ((o2'.setCell (by dsimp only; omega) _).setCell (by dsimp only; omega) _).alloc _, fun j hj => by rcases Nat.lt_or_ge j 1 with h' | h'; (exact HQS.out j h'); (have : j = 1 := by omega); (rw [this]; exact HQQ.out)⟩
        case measure => simp [intOf]
      · have hix := qindex2 c.c0 c.p0 c.b0 c.c1 c.p1 c.b1 c.c2 c.p2 c.b2
        by_cases hq : QOk c.c2 c.p2 c.b2
        case neg =>
          have HN : Hid (¬ PlOk c os) := fun h => hq h.q2
          go_wp2_with fail
          refine (rateOf_no c.c2 c.p2 c.b2 _ hc.c2 hc.p2 hc.b2 hq).mono ?_
          rintro e w2 ⟨rfl, hc2⟩
          have HQ2 : Hid (Chg [] wr w2) := ((Chg.refl _ _).alloc _).trans hc2 (by simp)
          clear hc2
          go_wp2
          go_ret2
          exact PofP.no HN.out (((HC1.out.trans hch (by simp)).trans HQ2.out (by simp)).alloc _)
        have HQQ : Hid (c.qk 2) := hq
        go_wp2_with fail
        refine (rateOf_any c.c2 c.p2 c.b2 _ hq.1 hq.2.1 hq.2.2.1 hq.2.2.2.1 hq.2.2.2.2.1 hq.2.2.2.2.2.1 hq.2.2.2.2.2.2).mono ?_
        rintro e w2 ⟨rfl, hc2⟩
        have hqq : Chg [] wr w2 := ((Chg.refl _ _).alloc _).trans hc2 (by simp)
        have b2' := hqq.blk hb (by simp)
        have o2' := hqq.map ho (by simp)
        have hch2 := hch.trans hqq (by simp)
        have e0 : w2.cell? ⟨w1.heap.size + 1, 4, none⟩ = some (.int .u64 0) := blk_cell (i := 4) b2' rfl
        have e1 : w2.cell? ⟨w1.heap.size + 1, 5, none⟩ = some (.int .u64 0) := blk_cell (i := 5) b2' rfl
        have f0 : ∀ i, w2.frozen? ⟨w1.heap.size + 1, i, none⟩ = false := fun i => blk_free b2'
        have hl2 := lt_of_block b2'
        have HB : Hid (w2.heap[w1.heap.size + 1]? = some (.cells (ratesTo c.c0 c.p0 c.b0 c.c1 c.p1 c.b1 c.c2 c.p2 c.b2 w1.heap.size 2).toArray 183 (0, 0))) := b2'
        clear b2' hc2 hb hq
        go_wp2_with fail
        go_region
        go_wp2
        go_roundw
        case rel =>
          have r1 := blk_alloc (blk_set (i := 5) (.int .u64 c.b2) (blk_set (i := 4) (.int .u64 (ivl c.c2 c.p2)) HB.out)) (.cells #[.int .u64 (ivl c.c2 c.p2), .int .u64 c.b2] 180)
          exact ⟨3, by go_num, by omega, (((hch2.set _ _ (Or.inr (by dsimp only; omega))).set _ _ (Or.inr (by dsimp only; omega))).alloc _).drew, r1, ((o2'.setCell (by dsimp only; omega) _).setCell (by dsimp only; omega) _).alloc _, fun j hj => by rcases Nat.lt_or_ge j 2 with h' | h'; (exact HQS.out j h'); (have : j = 2 := by omega); (rw [this]; exact HQQ.out)⟩
        case measure => simp [intOf]
    · obtain rfl : k = 3 := by omega
      have HQ : Hid (QOk c.c0 c.p0 c.b0 ∧ QOk c.c1 c.p1 c.b1 ∧ QOk c.c2 c.p2 c.b2) := ⟨HQS.out 0 (by omega), HQS.out 1 (by omega), HQS.out 2 (by omega)⟩
      have g3 := hch.blk g1 (by simp)
      have k93 := blk_cell (i := 9) g3 rfl
      have HPL : Hid (PlanN wr (w1.heap.size + 1) w1.heap.size 0 (plnTo c os 0)) := ⟨hb, ho⟩
      have HCq : Hid (Chg [] w wr) := HC1.out.trans hch (by simp)
      have h33 : ((3 : Nat) : Int) = (3 : Int) := rfl
      rw [h33]
      have s1 := HC1.out.size
      clear g3 g1 k0 k1 k2 k3 k4 k5 k6 k7 k8 k9 k10 k11 k12 k13 k14 h33 hb ho hch HQS
      go_wp2_with fail
      go_loopw [49] (fun i wr => ∃ k : Nat, i = .int .i64 k ∧ k ≤ os.length ∧ Chg [] w wr ∧ PlanN wr (w1.heap.size + 1) w1.heap.size k (plnTo c os k) ∧ ∀ j (hj : j < os.length), j < k → OvT (plnTo c os j) os[j]) (fun i _ => os.length - (intOf i).toNat)
      case atStart => exact ⟨0, rfl, by omega, HCq.out, HPL.out, fun j hj h => absurd h (by omega)⟩
      case round =>
        obtain ⟨k, rfl, hkl, hcr, hpn, hts⟩ := hrel
        have HCR : Hid (Chg [] w wr) := hcr
        have HPN : Hid (PlanN wr (w1.heap.size + 1) w1.heap.size k (plnTo c os k)) := hpn
        have HTS : Hid (∀ j (hj : j < os.length), j < k → OvT (plnTo c os j) os[j]) := hts
        clear hpn hts
        by_cases hlt : k < os.length
        · have hla := HOV.out.at_ (by omega)
          subst hla
          have hlb := HOV.out.lt (by omega)
          obtain ⟨x, hx⟩ : ∃ x, x = os[k] := ⟨_, rfl⟩
          obtain ⟨d0, d1, d2, d3, d4, d5, d6⟩ := (hx ▸ HOV.out.each k hlt : OvAt w lb (lof + k * 7) x).chg hcr (by simp)
          have HX : Hid (x = os[k]) := hx
          have hxo : x.Ok := HOK.out x (hx ▸ List.getElem_mem hlt)
          have hk1 : (k : Int) < (os.length : Int) := by omega
          have HCx : Hid (Chg [] wr (wr.alloc (.cells #[.int .i64 x.L, .int .u16 x.t, .int .u16 x.u, .int .u16 x.r, .int .i64 x.c, .int .i64 x.p, .int .i64 x.b] 158))) := (Chg.refl _ _).alloc _
          have HOp : Hid (Calls Tryz.prog 97 #[.pointer (some ⟨w1.heap.size + 1, 0, none⟩), .agg #[.int .i64 x.L, .int .u16 x.t, .int .u16 x.u, .int .u16 x.r, .int .i64 x.c, .int .i64 x.p, .int .i64 x.b]] (wr.alloc (.cells #[.int .i64 x.L, .int .u16 x.t, .int .u16 x.u, .int .u16 x.r, .int .i64 x.c, .int .i64 x.p, .int .i64 x.b] 158)) fun e w' => OvrP (wr.alloc (.cells #[.int .i64 x.L, .int .u16 x.t, .int .u16 x.u, .int .u16 x.r, .int .i64 x.c, .int .i64 x.p, .int .i64 x.b] 158)) w' (w1.heap.size + 1) w1.heap.size k (plnTo c os k) x e) := override_plan _ _ k _ x _ (HPN.out.chg HCx.out (by simp) (by simp)) hxo (by omega)
          clear hx hcr
          go_wp2_with fail
          refine HOp.out.mono ?_
          rintro e w5 hov
          by_cases ht : OvT (plnTo c os k) x
          · obtain ⟨rfl, hp5, hc5⟩ := hov.1 ht
            have HT : Hid (OvT (plnTo c os k) x) := ht
            have HP5 : Hid _ := hp5
            have HC5 : Hid (Chg [] w w5) := (HCR.out.trans HCx.out (by simp)).trans hc5 (fun j hj => by simp at hj; subst hj; exact Or.inr s1)
            clear hov ht hp5 hc5
            go_wp2_with fail
            go_roundw
            case rel => exact ⟨k + 1, by go_num, by omega, HC5.out, by rw [plnTo_succ c os k hlt, ← HX.out]; exact HP5.out, fun j hj hjk => by rcases Nat.lt_or_ge j k with h' | h'; (exact HTS.out j hj h'); (have : j = k := by omega); (subst this; rw [← HX.out]; exact HT.out)⟩
            case measure => simp [intOf]; omega
          · obtain ⟨rfl, hc5⟩ := hov.2 ht
            have HN : Hid (¬ PlOk c os) := fun h => ht (HX.out ▸ h.fit k hlt)
            have HC5 : Hid (Chg [] w w5) := (HCR.out.trans HCx.out (by simp)).trans hc5 (by simp)
            clear hov ht hc5
            go_wp2
            go_ret2
            exact PofP.no HN.out HC5.out
        · have hk1 : ¬ (k : Int) < (os.length : Int) := by omega
          have hke : k = os.length := by omega
          have HPO : Hid (PlOk c os) := ⟨HSZ.out, hl8, HQ.out.1, HQ.out.2.1, HQ.out.2.2, fun j hj => HTS.out j hj (by omega)⟩
          have HPE : Hid (PlanN wr (w1.heap.size + 1) w1.heap.size k (plnTo c os os.length)) := by have := HPN.out; rw [hke] at this ⊢; exact this
          clear hke
          go_wp2
          go_ret2
          exact ⟨hcr, fun _ => ⟨_, _, _, rfl, HPE.out, by omega, s1⟩, fun h => absurd HPO.out h⟩
end Go.Proofs.YtbdnhllhdjepcaaGreat
