import Derived.Test.YtbdnhllhdjepcaaKeep
namespace Go.Proofs.Ytbdnhllhdjepcaa
set_option linter.unusedVariables false
set_option linter.unusedSimpArgs false
open Go.RowKit Go.Maps

/-- how a rate in the map of own rates reads -/
def rateElem : Value → Option (DW × List MemPlace)
  | .agg cs => match cs.toList with
    | [.int .u64 a, .int .u64 b] => if (Lit.int .u64 a).wf = true ∧ (Lit.int .u64 b).wf = true then some (.agg [lu a, lu b], []) else none
    | _ => none
  | _ => none
theorem rateElem_mk {a b : Int} (ha : (Lit.int .u64 a).wf = true) (hb : (Lit.int .u64 b).wf = true) : rateElem (.agg #[.int .u64 a, .int .u64 b]) = some (.agg [lu a, lu b], []) := by simp [rateElem, ha, hb]
theorem rateElem_inv {v : Value} {z : DW × List MemPlace} (h : rateElem v = some z) : ∃ a b, v = .agg #[.int .u64 a, .int .u64 b] ∧ z = (.agg [lu a, lu b], []) ∧ (Lit.int .u64 a).wf = true ∧ (Lit.int .u64 b).wf = true := by
  unfold rateElem at h
  split at h
  · rename_i cs
    split at h
    · rename_i a b hl
      by_cases hc : (Lit.int .u64 a).wf = true ∧ (Lit.int .u64 b).wf = true
      · rw [if_pos hc] at h
        cases h
        refine ⟨a, b, ?_, rfl, hc.1, hc.2⟩
        rw [show cs = #[.int .u64 a, .int .u64 b] from by rw [← Array.toArray_toList (xs := cs), hl]]
      · rw [if_neg hc] at h; cases h
    · cases h
  · cases h
/-- a plan's rates: three, and the map of own ones -/
structure Pln where
  i0 : Int
  b0 : Int
  i1 : Int
  b1 : Int
  i2 : Int
  b2 : Int
  own : DW
def Pln.lev (p : Pln) : Nat → Int × Int
  | 0 => (p.i0, p.b0)
  | 1 => (p.i1, p.b1)
  | _ => (p.i2, p.b2)
def ratePair : DW → Int × Int
  | .agg [.lit (.int _ a), .lit (.int _ b)] => (a, b)
  | _ => (0, 0)
/-- the rate that holds at a place -/
def Pln.at_ (p : Pln) (L : Nat) (k : Lit) : Int × Int := if Maps.has p.own k then ratePair (p.own.atKey k .nil) else p.lev L
/-- the plan in memory -/
def PlanAt (w : World) (pb ob : Nat) (p : Pln) : Prop :=
  w.heap[pb]? = some (.cells [.int .u64 p.i0, .int .u64 p.b0, .int .u64 p.i1, .int .u64 p.b1, .int .u64 p.i2, .int .u64 p.b2, .map (some ob)].toArray 170 (0, 0)) ∧ ∃ n, w.ownsMap Try.prog 140 rateElem ob n p.own
theorem PlanAt.chg {l : List Nat} {w w' : World} {pb ob : Nat} {p : Pln} (h : PlanAt w pb ob p) (hc : Chg l w w') (h1 : pb ∉ l) (h2 : ob ∉ l) : PlanAt w' pb ob p :=
  ⟨hc.blk h.1 h1, h.2.imp fun _ hm => hc.map hm h2⟩
theorem atKey_has {D : DW} {k : Lit} (h : Maps.has D k = true) (z z' : DW) : D.atKey k z = D.atKey k z' := by
  cases D with
  | map es =>
    simp only [Maps.has, DataW.atKey] at h ⊢
    cases hf : es.find? (fun p => p.1.sameKey k) with
    | some p => rfl
    | none =>
      rw [List.any_eq_true] at h
      obtain ⟨p, hp, hs⟩ := h
      have := List.find?_eq_none.1 hf p hp
      simp [hs] at this
  | _ => cases h

theorem lookr {w : World} {ob : Nat} {p : Pln} {L t u r : Int} {l : Lit} (hm : ∃ n, w.ownsMap Try.prog 140 rateElem ob n p.own) (hkey : keyOf Try.prog 140 (.agg #[.int .i64 L, .int .u16 t, .int .u16 u, .int .u16 r]) = some l) :
    ∃ a b : Int, (Maps.has p.own l = true → p.at_ 0 l = (a, b) ∧ p.at_ 1 l = (a, b) ∧ p.at_ 2 l = (a, b)) ∧ ∀ W, Chg [] w W → (Instr.lookup 165 (.map (some ob)) (.agg #[.int .i64 L, .int .u16 t, .int .u16 u, .int .u16 r]) true).run Try.prog W =
      .ok (.tuple #[.agg #[.int .u64 a, .int .u64 b], .bool (Maps.has p.own l)]) W := by
  obtain ⟨n, hown⟩ := hm
  obtain ⟨v, ps, hrun, hv⟩ := hown.look_ok law140 Try.underlying165 (Try.zeroValue167 _) (rateElem_mk (by decide) (by decide)) hkey
  obtain ⟨a, b, rfl, h2, _⟩ := rateElem_inv hv
  refine ⟨a, b, fun h => ?_, fun W hW => ?_⟩
  · have := atKey_has h (.agg [lu 0, lu 0]) .nil
    have h3 := congrArg Prod.fst h2
    simp only at h3
    rw [this] at h3
    unfold Pln.at_
    rw [if_pos h, if_pos h, if_pos h, h3]
    exact ⟨rfl, rfl, rfl⟩
  · obtain ⟨v', ps', hrun', hv'⟩ := (hW.map hown (by simp)).look_ok law140 Try.underlying165 (Try.zeroValue167 _) (rateElem_mk (by decide) (by decide)) hkey
    obtain ⟨a', b', rfl, h2', _⟩ := rateElem_inv hv'
    have h3 := congrArg Prod.fst h2
    have h3' := congrArg Prod.fst h2'
    simp only at h3 h3'
    rw [h3] at h3'
    simp [lu] at h3'
    rw [h3'.1, h3'.2]
    exact hrun'

set_option maxRecDepth 100000 in
set_option maxHeartbeats 1000000 in
theorem rateAt0 (pb ob : Nat) (p : Pln) (t u r : Int) (w : World) (hp : PlanAt w pb ob p) {l : Lit} (hkey : keyOf Try.prog 140 (.agg #[.int .i64 0, .int .u16 t, .int .u16 u, .int .u16 r]) = some l) :
    Calls Try.prog 93 #[.pointer (some ⟨pb, 0, none⟩), .agg #[.int .i64 0, .int .u16 t, .int .u16 u, .int .u16 r]] w fun e w' => e = .returned (.agg #[.int .u64 (p.at_ 0 l).1, .int .u64 (p.at_ 0 l).2]) ∧ Chg [] w w' := by
  obtain ⟨hb, hm⟩ := hp
  obtain ⟨a, b, hyes, hrun0⟩ := lookr hm hkey
  have hrun := fun o1 o2 => hrun0 _ ((((Chg.refl [] w).alloc o1).alloc o2).drew)
  have hrun3 := fun o1 o2 o3 => hrun0 _ (((((Chg.refl [] w).alloc o1).alloc o2).alloc o3).drew)
  clear hrun0
  have HY : Hid (Maps.has p.own l = true → p.at_ 0 l = (a, b) ∧ p.at_ 1 l = (a, b) ∧ p.at_ 2 l = (a, b)) := hyes
  have HN : Hid (Maps.has p.own l = false → p.at_ 0 l = (p.i0, p.b0)) := fun h => by unfold Pln.at_; rw [if_neg (by simp [h])]; rfl
  clear hyes hm hkey
  have hlt := lt_of_block hb
  have c0 := blk_cell (i := 0) hb rfl
  have c1 := blk_cell (i := 1) hb rfl
  have c6 := blk_cell (i := 6) hb rfl
  have c63 := fun o1 o2 o3 => blk_cell (i := 6) (blk_alloc (blk_alloc (blk_alloc hb o1) o2) o3) rfl
  have c03 := fun o1 o2 o3 => blk_cell (i := 0) (blk_alloc (blk_alloc (blk_alloc hb o1) o2) o3) rfl
  have c13 := fun o1 o2 o3 => blk_cell (i := 1) (blk_alloc (blk_alloc (blk_alloc hb o1) o2) o3) rfl
  clear hb
  generalize p.at_ 0 l = x at *
  generalize hv : Maps.has p.own l = hh at *
  have HV : Hid (Maps.has p.own l = hh) := hv
  clear hv
  cases hh
  · have hx := HN.out rfl
    have HX : Hid (x = (p.i0, p.b0)) := hx
    clear hx HY HN HV
    go_enter Try.func93, Try.ntmps93
    go_wp2_with fail
    go_region
    go_wp2_with fail
    go_region
    go_wp2
    rw [HX.out]
    refine bodyPost_ret (v := .agg #[.int .u64 p.i0, .int .u64 p.b0]) (by simp [results, Try.results93, go_sem, World.cell?_alloc_past]) rfl ⟨rfl, ?_⟩
    repeat (first | exact Chg.refl _ _ | refine Chg.drew ?_ | refine Chg.alloc ?_ _ | refine Chg.set ?_ _ _ (Or.inr (by simp)))
  · have hx := HY.out rfl
    have HX : Hid (x = (a, b)) := hx.1
    clear hx HY HN HV
    go_enter Try.func93, Try.ntmps93
    go_wp2_with fail
    go_region
    go_wp2
    rw [HX.out]
    refine bodyPost_ret (v := .agg #[.int .u64 a, .int .u64 b]) (by simp [results, Try.results93, go_sem, World.cell?_alloc_past]) rfl ⟨rfl, ?_⟩
    repeat (first | exact Chg.refl _ _ | refine Chg.drew ?_ | refine Chg.alloc ?_ _ | refine Chg.set ?_ _ _ (Or.inr (by simp)))

set_option maxRecDepth 100000 in
set_option maxHeartbeats 1000000 in
theorem rateAt1 (pb ob : Nat) (p : Pln) (t u r : Int) (w : World) (hp : PlanAt w pb ob p) {l : Lit} (hkey : keyOf Try.prog 140 (.agg #[.int .i64 1, .int .u16 t, .int .u16 u, .int .u16 r]) = some l) :
    Calls Try.prog 93 #[.pointer (some ⟨pb, 0, none⟩), .agg #[.int .i64 1, .int .u16 t, .int .u16 u, .int .u16 r]] w fun e w' => e = .returned (.agg #[.int .u64 (p.at_ 1 l).1, .int .u64 (p.at_ 1 l).2]) ∧ Chg [] w w' := by
  obtain ⟨hb, hm⟩ := hp
  obtain ⟨a, b, hyes, hrun0⟩ := lookr hm hkey
  have hrun := fun o1 o2 => hrun0 _ ((((Chg.refl [] w).alloc o1).alloc o2).drew)
  have hrun3 := fun o1 o2 o3 => hrun0 _ (((((Chg.refl [] w).alloc o1).alloc o2).alloc o3).drew)
  clear hrun0
  have HY : Hid (Maps.has p.own l = true → p.at_ 0 l = (a, b) ∧ p.at_ 1 l = (a, b) ∧ p.at_ 2 l = (a, b)) := hyes
  have HN : Hid (Maps.has p.own l = false → p.at_ 1 l = (p.i1, p.b1)) := fun h => by unfold Pln.at_; rw [if_neg (by simp [h])]; rfl
  clear hyes hm hkey
  have hlt := lt_of_block hb
  have c0 := blk_cell (i := 2) hb rfl
  have c1 := blk_cell (i := 3) hb rfl
  have c6 := blk_cell (i := 6) hb rfl
  have c63 := fun o1 o2 o3 => blk_cell (i := 6) (blk_alloc (blk_alloc (blk_alloc hb o1) o2) o3) rfl
  have c03 := fun o1 o2 o3 => blk_cell (i := 2) (blk_alloc (blk_alloc (blk_alloc hb o1) o2) o3) rfl
  have c13 := fun o1 o2 o3 => blk_cell (i := 3) (blk_alloc (blk_alloc (blk_alloc hb o1) o2) o3) rfl
  clear hb
  generalize p.at_ 1 l = x at *
  generalize hv : Maps.has p.own l = hh at *
  have HV : Hid (Maps.has p.own l = hh) := hv
  clear hv
  cases hh
  · have hx := HN.out rfl
    have HX : Hid (x = (p.i1, p.b1)) := hx
    clear hx HY HN HV
    go_enter Try.func93, Try.ntmps93
    go_wp2_with fail
    go_region
    go_wp2_with fail
    go_region
    go_wp2
    rw [HX.out]
    refine bodyPost_ret (v := .agg #[.int .u64 p.i1, .int .u64 p.b1]) (by simp [results, Try.results93, go_sem, World.cell?_alloc_past]) rfl ⟨rfl, ?_⟩
    repeat (first | exact Chg.refl _ _ | refine Chg.drew ?_ | refine Chg.alloc ?_ _ | refine Chg.set ?_ _ _ (Or.inr (by simp)))
  · have hx := HY.out rfl
    have HX : Hid (x = (a, b)) := hx.2.1
    clear hx HY HN HV
    go_enter Try.func93, Try.ntmps93
    go_wp2_with fail
    go_region
    go_wp2
    rw [HX.out]
    refine bodyPost_ret (v := .agg #[.int .u64 a, .int .u64 b]) (by simp [results, Try.results93, go_sem, World.cell?_alloc_past]) rfl ⟨rfl, ?_⟩
    repeat (first | exact Chg.refl _ _ | refine Chg.drew ?_ | refine Chg.alloc ?_ _ | refine Chg.set ?_ _ _ (Or.inr (by simp)))

set_option maxRecDepth 100000 in
set_option maxHeartbeats 1000000 in
theorem rateAt2 (pb ob : Nat) (p : Pln) (t u r : Int) (w : World) (hp : PlanAt w pb ob p) {l : Lit} (hkey : keyOf Try.prog 140 (.agg #[.int .i64 2, .int .u16 t, .int .u16 u, .int .u16 r]) = some l) :
    Calls Try.prog 93 #[.pointer (some ⟨pb, 0, none⟩), .agg #[.int .i64 2, .int .u16 t, .int .u16 u, .int .u16 r]] w fun e w' => e = .returned (.agg #[.int .u64 (p.at_ 2 l).1, .int .u64 (p.at_ 2 l).2]) ∧ Chg [] w w' := by
  obtain ⟨hb, hm⟩ := hp
  obtain ⟨a, b, hyes, hrun0⟩ := lookr hm hkey
  have hrun := fun o1 o2 => hrun0 _ ((((Chg.refl [] w).alloc o1).alloc o2).drew)
  have hrun3 := fun o1 o2 o3 => hrun0 _ (((((Chg.refl [] w).alloc o1).alloc o2).alloc o3).drew)
  clear hrun0
  have HY : Hid (Maps.has p.own l = true → p.at_ 0 l = (a, b) ∧ p.at_ 1 l = (a, b) ∧ p.at_ 2 l = (a, b)) := hyes
  have HN : Hid (Maps.has p.own l = false → p.at_ 2 l = (p.i2, p.b2)) := fun h => by unfold Pln.at_; rw [if_neg (by simp [h])]; rfl
  clear hyes hm hkey
  have hlt := lt_of_block hb
  have c0 := blk_cell (i := 4) hb rfl
  have c1 := blk_cell (i := 5) hb rfl
  have c6 := blk_cell (i := 6) hb rfl
  have c63 := fun o1 o2 o3 => blk_cell (i := 6) (blk_alloc (blk_alloc (blk_alloc hb o1) o2) o3) rfl
  have c03 := fun o1 o2 o3 => blk_cell (i := 4) (blk_alloc (blk_alloc (blk_alloc hb o1) o2) o3) rfl
  have c13 := fun o1 o2 o3 => blk_cell (i := 5) (blk_alloc (blk_alloc (blk_alloc hb o1) o2) o3) rfl
  clear hb
  generalize p.at_ 2 l = x at *
  generalize hv : Maps.has p.own l = hh at *
  have HV : Hid (Maps.has p.own l = hh) := hv
  clear hv
  cases hh
  · have hx := HN.out rfl
    have HX : Hid (x = (p.i2, p.b2)) := hx
    clear hx HY HN HV
    go_enter Try.func93, Try.ntmps93
    go_wp2_with fail
    go_region
    go_wp2_with fail
    go_region
    go_wp2
    rw [HX.out]
    refine bodyPost_ret (v := .agg #[.int .u64 p.i2, .int .u64 p.b2]) (by simp [results, Try.results93, go_sem, World.cell?_alloc_past]) rfl ⟨rfl, ?_⟩
    repeat (first | exact Chg.refl _ _ | refine Chg.drew ?_ | refine Chg.alloc ?_ _ | refine Chg.set ?_ _ _ (Or.inr (by simp)))
  · have hx := HY.out rfl
    have HX : Hid (x = (a, b)) := hx.2.2
    clear hx HY HN HV
    go_enter Try.func93, Try.ntmps93
    go_wp2_with fail
    go_region
    go_wp2
    rw [HX.out]
    refine bodyPost_ret (v := .agg #[.int .u64 a, .int .u64 b]) (by simp [results, Try.results93, go_sem, World.cell?_alloc_past]) rfl ⟨rfl, ?_⟩
    repeat (first | exact Chg.refl _ _ | refine Chg.drew ?_ | refine Chg.alloc ?_ _ | refine Chg.set ?_ _ _ (Or.inr (by simp)))
end Go.Proofs.Ytbdnhllhdjepcaa
