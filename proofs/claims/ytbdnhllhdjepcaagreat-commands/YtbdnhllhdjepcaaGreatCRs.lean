import Derived.Test.YtbdnhllhdjepcaaGreatCRv
namespace Go.Proofs.YtbdnhllhdjepcaaGreat
set_option linter.unusedVariables false
set_option linter.unusedSimpArgs false
open Go.RowKit Go.Maps

/-! ### is there room -/
/-- how many of a request's keys sleep -/
def slp (ms : List Mk) (T t u r : Int) : Nat → Int
  | 0 => 0
  | k + 1 => slp ms T t u r k + (if mkM ms k t u r ≤ T then 1 else 0)
theorem slp_bd (ms : List Mk) (T t u r : Int) (k : Nat) : 0 ≤ slp ms T t u r k ∧ slp ms T t u r k ≤ k := by
  induction k with
  | zero => simp [slp]
  | succ k ih => unfold slp; split <;> omega
/-- how many places would be taken -/
def roomN (s : Rf) (t u r : Int) : Int := (awk s.ms s.c.sh s.T (t % s.c.sh) : Int) + slp s.ms s.T t u r 3

set_option maxRecDepth 100000 in
set_option maxHeartbeats 4000000 in
theorem room_ref (yb : Nat) (s : Rf) (t u r : Int) (w : World) (h : RefAt w yb s) (hok : ∀ m ∈ s.ms, m.Ok) (hsh : 1 ≤ s.c.sh ∧ s.c.sh ≤ 4) (hlen : s.ms.length ≤ 10000000000000) (ht : U16 t) (hT : 0 ≤ s.T) :
    Calls Tryz.prog 84 #[.pointer (some ⟨yb, 0, none⟩), .agg #[.int .u16 t, .int .u16 u, .int .u16 r]] w fun e w' => e = .returned (.bool (decide (roomN s t u r ≤ s.c.sl))) ∧ Chg [] w w' := by
  obtain ⟨hs1, hs4⟩ := id hsh
  obtain ⟨ht1, ht2⟩ := ht
  have hyl := lt_of_block h.blk
  obtain ⟨la, lb, lof, cap, hv, hla, _, hlt, hcell⟩ := h.mks.laid
  have y16 : w.cell? ⟨yb, 16, none⟩ = some s.mv := blk_cell (i := 16) h.blk rfl
  rw [hv] at y16
  have y15 : w.cell? ⟨yb, 15, none⟩ = some (.int .u64 s.T) := blk_cell (i := 15) h.blk rfl
  have y10 : w.cell? ⟨yb, 10, none⟩ = some (.int .i64 s.c.sh) := blk_cell (i := 10) h.blk rfl
  have y11 : w.cell? ⟨yb, 11, none⟩ = some (.int .i64 s.c.sl) := blk_cell (i := 11) h.blk rfl
  have HY : Hid (∀ W, Chg [] w W → W.cell? ⟨yb, 16, none⟩ = some (.slice la s.ms.length cap) ∧ W.cell? ⟨yb, 15, none⟩ = some (.int .u64 s.T) ∧ W.cell? ⟨yb, 10, none⟩ = some (.int .i64 s.c.sh) ∧ W.cell? ⟨yb, 11, none⟩ = some (.int .i64 s.c.sl)) := fun W hW => ⟨hW.cell y16 (by simp), hW.cell y15 (by simp), hW.cell y10 (by simp), hW.cell y11 (by simp)⟩
  have HR : Hid (RefAt w yb s) := h
  have wt : IntKind.i64.wrap t = t := by rw [IntKind.wrap_i64]; omega
  have hmd : Int.tmod t s.c.sh = t % s.c.sh := Int.tmod_eq_emod_of_nonneg ht1
  have hne : s.c.sh ≠ 0 := by omega
  have hneb : (s.c.sh == 0) = false := by simpa using hne
  have hmr0 := Int.emod_nonneg t hne
  have hmr1 := Int.emod_lt_of_pos t (show 0 < s.c.sh by omega)
  have wm1 : IntKind.i64.wrap (t % s.c.sh) = t % s.c.sh := by rw [IntKind.wrap_i64]; omega
  have wm2 : wrap64 (t % s.c.sh) = t % s.c.sh := by unfold wrap64; omega
  have wm3 : IntKind.i64.wrap (Int.tmod t s.c.sh) = t % s.c.sh := by rw [hmd]; exact wm1
  have wm4 : wrap64 (Int.tmod t s.c.sh) = t % s.c.sh := by rw [hmd]; exact wm2
  have HAw : Hid (∀ W, RefAt W yb s → Calls Tryz.prog 129 #[.pointer (some ⟨yb, 0, none⟩), .int .i64 (t % s.c.sh)] W fun e w' => e = .returned (.int .i64 (awk s.ms s.c.sh s.T (t % s.c.sh))) ∧ Chg [] W w') := fun W hW => awake_ref yb s (t % s.c.sh) W hW hok hsh hlen
  have HMr : Hid (∀ (k : Nat) W, RefAt W yb s → Calls Tryz.prog 86 #[.pointer (some ⟨yb, 0, none⟩), .int .i64 k, .agg #[.int .u16 t, .int .u16 u, .int .u16 r]] W fun e w' => e = .returned (.int .i64 (mkR s.ms k t u r)) ∧ Chg [] W w') := fun k W hW => mark_ref yb s k t u r W hW (by omega)
  have hal := awk_le s.ms s.c.sh s.T (t % s.c.sh)
  have HN : Hid (roomN s t u r = (awk s.ms s.c.sh s.T (t % s.c.sh) : Int) + slp s.ms s.T t u r 3) := rfl
  have HCE : Hid (∀ j u, (mkcells s.ms)[j]? = some u → w.cell? ⟨lb, lof + j, none⟩ = some u) := hcell
  have HLA : Hid (0 < s.ms.length → la = some ⟨lb, lof, none⟩ ∧ s.mv.ownBlock = some lb) := hla
  have HLT : Hid (0 < s.ms.length → lb < w.heap.size) := hlt
  clear y15 y16 y10 y11 h hok hcell hla hlt hv hsh
  generalize awk s.ms s.c.sh s.T (t % s.c.sh) = aw at *
  have hbx := heap_alloc_new w (.cells [.int .u16 t, .int .u16 u, .int .u16 r].toArray 60)
  have hcw : Chg [] w (w.alloc (.cells [.int .u16 t, .int .u16 u, .int .u16 r].toArray 60)) := (Chg.refl _ _).alloc _
  obtain ⟨wb, hwb⟩ : ∃ wb, wb = w.alloc (.cells [.int .u16 t, .int .u16 u, .int .u16 r].toArray 60) := ⟨_, rfl⟩
  rw [← hwb] at hbx hcw
  have hkw : w.alloc (.cells #[.int .u16 t, .int .u16 u, .int .u16 r] 60) = wb := hwb.symm
  clear hwb
  have HBX : Hid (wb.heap[w.heap.size]? = some (.cells [.int .u16 t, .int .u16 u, .int .u16 r].toArray 60 (0, 0))) := hbx
  have HCW : Hid (Chg [] w wb) := hcw
  have g0 := blk_cell (i := 0) hbx rfl
  obtain ⟨_, _, x10, _⟩ := HY.out _ hcw
  clear hbx hcw
  have HS : Hid (∀ W, Chg [] wb W → (W.cell? ⟨w.heap.size, 0, none⟩ = some (.int .u16 t) ∧ W.cell? ⟨yb, 10, none⟩ = some (.int .i64 s.c.sh))) := fun W hW => by
    have z := hW.blk HBX.out (by simp)
    exact ⟨blk_cell z rfl, (HY.out _ (HCW.out.trans hW (by simp))).2.2.1⟩
  have v1 : Chg [] wb wb.drew := (Chg.refl _ _).drew
  go_enter Tryz.func84, Tryz.ntmps84
  go_upto_region 1 with fail
  go_region_held3 (fun W => W.cell? ⟨w.heap.size, 0, none⟩ = some (.int .u16 t) ∧ W.cell? ⟨yb, 10, none⟩ = some (.int .i64 s.c.sh))
    (first | with_reducible exact HS.out _ v2 | with_reducible exact HS.out _ v1)
    (first | (go_at_call 129; refine (HAw.out _ (HR.out.chg (HCW.out.trans v1 (by simp)) (by simp))).mono ?_; rintro e w2 ⟨rfl, q2⟩; have v2 : Chg [] wb w2 := v1.trans q2 (by simp)))
  have HV2 : Hid (Chg [] wb w2) := v2
  clear v1 v2 HS HAw
  go_wp2_with fail
  go_loopw [5, 6] (fun n i wr => ∃ k : Nat, n = .int .i64 (aw + slp s.ms s.T t u r k) ∧ i = .int .i64 k ∧ k ≤ 3 ∧ Chg [] wb wr) (fun _ i _ => 3 - (intOf i).toNat)
  case atStart => exact ⟨0, by simp [slp], rfl, by omega, HV2.out⟩
  case round =>
    obtain ⟨k, rfl, rfl, hk3, hcr⟩ := hrel
    have HCA : Hid (Chg [] w wr) := HCW.out.trans hcr (by simp)
    have HCB : Hid (Chg [] wb wr) := hcr
    have zb := hcr.blk HBX.out (by simp)
    have f0 := blk_cell (i := 0) zb rfl
    have f1 := blk_cell (i := 1) zb rfl
    have f2 := blk_cell (i := 2) zb rfl
    obtain ⟨_, _, _, z11⟩ := HY.out _ HCA.out
    clear hcr zb
    by_cases hlt : k < 3
    · have hk1 : (k : Int) < 3 := by omega
      have hsb := slp_bd s.ms s.T t u r k
      have HSL : Hid (slp s.ms s.T t u r (k + 1) = slp s.ms s.T t u r k + (if mkM s.ms k t u r ≤ s.T then 1 else 0)) := rfl
      generalize slp s.ms s.T t u r k = sk at *
      go_wp2_with fail
      refine (HMr.out k _ (HR.out.chg HCA.out (by simp))).mono ?_
      rintro e w3 ⟨rfl, q3⟩
      have HC3 : Hid (Chg [] wb w3) := HCB.out.trans q3 (by simp)
      have HW3 : Hid (Chg [] w w3) := HCA.out.trans q3 (by simp)
      obtain ⟨z16, z15, _, _⟩ := HY.out _ HW3.out
      clear q3 f0 f1 f2 z11
      cases hI : mkI s.ms k t u r with
      | none =>
        have hM := mkM_none hI
        have hmr : mkR s.ms k t u r = -1 := by unfold mkR; rw [hI]
        rw [hmr]
        have HQ : Hid (slp s.ms s.T t u r (k + 1) = sk + 1) := by show _ = _; rw [HSL.out, if_pos (by omega)]
        clear hmr hI hM
        go_wp2_with fail
        go_region
        go_wp2_with fail
        go_roundw
        case rel => exact ⟨k + 1, by rw [HQ.out]; go_num, by go_num, by omega, HC3.out.drew⟩
        case measure => simp [intOf]; omega
      | some i =>
        obtain ⟨hi, hM, hh⟩ := mkM_some hI
        have hmr : mkR s.ms k t u r = (i : Int) := by unfold mkR; rw [hI]
        rw [hmr]
        obtain ⟨rfl, _⟩ := HLA.out (by omega)
        have hlb := HLT.out (by omega)
        obtain ⟨x, hx⟩ : ∃ x, x = s.ms[i] := ⟨_, rfl⟩
        have d4 : w3.cell? ⟨lb, lof + i * 5 + 4, none⟩ = some (.int .u64 x.m) := HW3.out.cell (by
          rw [Nat.add_assoc]
          refine HCE.out _ _ ?_
          rw [mk_at _ i hi 4 (by decide), ← hx]
          rfl) (by simp)
        rw [← hx] at hM
        have hi2 : (i : Int) < (s.ms.length : Int) := by omega
        have hi0 : ¬ (i : Int) < 0 := by omega
        have hdi : decide ((i : Int) < 0) = false := decide_eq_false hi0
        clear wm1 wm2 wm3 wm4 hmr0 hmr1 hne hneb hmd
        by_cases hle : x.m ≤ s.T
        · have HQ : Hid (slp s.ms s.T t u r (k + 1) = sk + 1) := by show _ = _; rw [HSL.out, if_pos (by omega)]
          clear hmr hI hM hh hx hi
          go_wp2_with fail
          go_region
          go_wp2_with fail
          go_roundw
          case rel => exact ⟨k + 1, by rw [HQ.out]; go_num, by go_num, by omega, HC3.out.drew⟩
          case measure => simp [intOf]; omega
        · have HQ : Hid (slp s.ms s.T t u r (k + 1) = sk) := by show _ = _; rw [HSL.out, if_neg (by omega)]; omega
          clear hmr hI hM hh hx hi
          go_wp2_with fail
          go_region
          go_wp2_with fail
          go_roundw
          case rel => exact ⟨k + 1, by rw [HQ.out], by go_num, by omega, HC3.out.drew⟩
          case measure => simp [intOf]; omega
    · obtain rfl : k = 3 := by omega
      go_wp2
      go_ret
      exact ⟨by rw [HN.out]; rfl, HCA.out⟩
end Go.Proofs.YtbdnhllhdjepcaaGreat
namespace Go.Proofs.YtbdnhllhdjepcaaGreat
set_option linter.unusedVariables false
set_option linter.unusedSimpArgs false
open Go.RowKit Go.Maps

/-! ### marks are set -/
theorem Tryz.info168 : (Tryz.prog.info? 168).map (fun i => (i.zero, i.size, i.bytes)) = some (some (.agg #[.int .i64 0, .int .u16 0, .int .u16 0, .int .u16 0, .int .u64 0]), 5, 24) := by kernel_rfl
theorem ek168 : ∃ i0, EK 110 168 i0 (.agg #[.int .i64 0, .int .u16 0, .int .u16 0, .int .u16 0, .int .u64 0]) 5 24 := by
  obtain ⟨i0, hi, hz0, hz1, hz2⟩ := info_parts Tryz.info168
  exact ⟨i0, ⟨Tryz.underlying110, hi, hz0, hz1, hz2, rfl, by decide, by decide, fun n => zero_one (by decide) (by decide) n⟩⟩
/-- a cell of a row is set -/
theorem Rw.set {w : World} {e : TypeId} {sz n cap : Nat} {cs : List Value} {b o : Nat} (h : Rw w e sz (.slice (some ⟨b, o, none⟩) n cap) n cs) {j : Nat} (hj : j < cs.length) {u : Value} (hu : u.oneCell' = true) : Rw (w.setCell ⟨b, o + j, none⟩ u) e sz (.slice (some ⟨b, o, none⟩) n cap) n (cs.set j u) := by
  rcases h.2.2 with ⟨hv, _⟩ | ⟨b', cap', P, R, hv, hg, h1, h2, h3⟩
  · cases hv
  · injection hv with e1 e2 e3
    injection e1 with e1
    injection e1 with e1 e4
    subst e1 e3 e4
    refine ⟨by rw [List.length_set]; exact h.1, fun x hx => ?_, .inr ⟨b, cap, P, R, rfl, ?_, h1, h2, h3⟩⟩
    · rcases List.mem_or_eq_of_mem_set hx with hx | rfl
      · exact h.2.1 x hx
      · exact hu
    · have := blk_set (i := P.length + j) u hg
      rw [List.set_append_right _ _ (by omega), List.set_append_left _ _ (by omega)] at this
      rw [show P.length + j - P.length = j from by omega] at this
      exact this
theorem fm_set {α : Type} {f : α → List Value} {sz : Nat} (h : ∀ a, (f a).length = sz) (g : α → α) (k : Nat) (u : Value) (hk : k < sz) (hg : ∀ a, (f a).set k u = f (g a)) : ∀ (l : List α) (i : Nat) (hi : i < l.length), (l.flatMap f).set (i * sz + k) u = (l.set i (g l[i])).flatMap f
  | [], i, hi => by simp at hi
  | a :: l, 0, _ => by
    rw [List.flatMap_cons, Nat.zero_mul, Nat.zero_add, List.set_append_left _ _ (by rw [h]; exact hk), hg]
    rfl
  | a :: l, i + 1, hi => by
    rw [List.flatMap_cons, List.set_append_right _ _ (by rw [h, Nat.add_mul]; omega), h]
    have e : (i + 1) * sz + k - sz = i * sz + k := by rw [Nat.add_mul]; omega
    rw [e, fm_set h g k u hk hg l i (by simpa using hi)]
    rfl
def Mk.to (x : Int) (m : Mk) : Mk := ⟨m.L, m.t, m.u, m.r, x⟩
theorem mk_set (ms : List Mk) (i : Nat) (hi : i < ms.length) (x : Int) : (mkcells ms).set (i * 5 + 4) (.int .u64 x) = mkcells (ms.set i (ms[i].to x)) := fm_set mkc_len (Mk.to x) 4 (.int .u64 x) (by decide) (fun _ => rfl) ms i hi
/-- a key's mark is set; a key that has none gets one -/
def mkPut (ms : List Mk) (L t u r x : Int) : List Mk := match mkI ms L t u r with
  | some i => ms.modify i (Mk.to x)
  | none => ms ++ [⟨L, t, cutU L u, cutR L r, x⟩]
theorem mkPut_len (ms : List Mk) (L t u r x : Int) : (mkPut ms L t u r x).length ≤ ms.length + 1 := by
  unfold mkPut
  split <;> simp
theorem modify_set (ms : List Mk) (i : Nat) (hi : i < ms.length) (x : Int) : ms.modify i (Mk.to x) = ms.set i (ms[i].to x) := by
  apply List.ext_getElem?
  intro j
  rw [List.getElem?_modify, List.getElem?_set]
  by_cases h : i = j
  · subst h
    simp [hi]
  · simp [h]
/-- a step of the document's meter -/
structure RStp (w w' : World) (yb : Nat) (s s' : Rf) : Prop where
  chg : Chg (s.fp yb) w w'
  new : ∀ b ∈ s'.fp yb, b ∈ s.fp yb ∨ w.heap.size ≤ b
theorem RStp.refl (w : World) (yb : Nat) (s : Rf) : RStp w w yb s s := ⟨Chg.refl _ _, fun b hb => Or.inl hb⟩
theorem RStp.trans {w w1 w2 : World} {yb : Nat} {s s1 s2 : Rf} (h : RStp w w1 yb s s1) (k : RStp w1 w2 yb s1 s2) : RStp w w2 yb s s2 :=
  ⟨h.chg.trans k.chg (fun j hj => h.new j hj), fun b hb => by
    rcases k.new b hb with h1 | h1
    · exact h.new b h1
    · exact Or.inr (Nat.le_trans h.chg.size h1)⟩
theorem RStp.of0 {w w' : World} {yb : Nat} {s : Rf} (h : Chg [] w w') : RStp w w' yb s s := ⟨h.mono (by simp), fun b hb => Or.inl hb⟩
/-- with other marks -/
def Rf.marked (s : Rf) (v : Value) (ms : List Mk) : Rf := { s with mv := v, ms := ms }
theorem RefAt.ne_yb {w : World} {yb : Nat} {s : Rf} (h : RefAt w yb s) : yb ∉ own s.ov ∧ yb ∉ own s.mv ∧ yb ∉ own s.tv ∧ yb ∉ own s.iv :=
  ⟨own_ty h.ovs h.blk (by decide), own_ty h.mks h.blk (by decide), own_ty h.tns h.blk (by decide), own_ty h.its h.blk (by decide)⟩
/-- the row of marks has been turned in its place -/
theorem RefAt.inPlace {w w' : World} {yb : Nat} {s : Rf} {ms : List Mk} (h : RefAt w yb s) (hc : Chg (own s.mv) w w') (hr : Rw w' 168 5 s.mv ms.length (mkcells ms)) : RefAt w' yb (s.marked s.mv ms) ∧ RStp w w' yb s (s.marked s.mv ms) := by
  obtain ⟨n1, n2, n3, n4⟩ := h.ne_yb
  have ap : ∀ {v : Value} {e : TypeId} {sz n : Nat} {cs : List Value}, Rw w e sz v n cs → e ≠ 168 → ∀ b, v.ownBlock = some b → b ∉ own s.mv := fun hr' he b hb => own_own hr' h.mks he b (mem_own.2 hb)
  refine ⟨⟨hc.blk h.blk n2, h.ovs.chg hc (ap h.ovs (by decide)), hr, h.tns.chg hc (ap h.tns (by decide)), h.its.chg hc (ap h.its (by decide))⟩, ⟨hc.mono (fun b hb => by simp [Rf.fp, hb]), fun b hb => Or.inl hb⟩⟩
/-- a new row of marks has been laid, and its slice is stored -/
theorem RefAt.laid {w w' : World} {yb : Nat} {s : Rf} {ms : List Mk} {v : Value} (h : RefAt w yb s) (hg : w.grownBy w' s.mv.ownBlock) (hr : Rw w' 168 5 v ms.length (mkcells ms)) (ho : v.ownBlock = s.mv.ownBlock ∨ ∃ b, v.ownBlock = some b ∧ w.heap.size ≤ b) :
    RefAt (w'.setCell ⟨yb, 16, none⟩ v) yb (s.marked v ms) ∧ RStp w (w'.setCell ⟨yb, 16, none⟩ v) yb s (s.marked v ms) := by
  obtain ⟨n1, n2, n3, n4⟩ := h.ne_yb
  have hc : Chg (own s.mv) w w' := Chg.of_grown hg (fun b hb => mem_own.2 hb)
  have hcs : Chg [yb] w' (w'.setCell ⟨yb, 16, none⟩ v) := (Chg.refl _ _).set _ _ (Or.inl (by simp))
  have hcc : Chg (yb :: own s.mv) w (w'.setCell ⟨yb, 16, none⟩ v) := (hc.mono (by simp; exact fun a ha => Or.inr ha)).trans hcs (by simp)
  have ap : ∀ {v : Value} {e : TypeId} {sz n : Nat} {cs : List Value}, Rw w e sz v n cs → e ≠ 168 → yb ∉ own v → ∀ b, v.ownBlock = some b → b ∉ yb :: own s.mv := fun hr' he hy b hb => by
    simp only [List.mem_cons, not_or]
    exact ⟨fun e => hy (e ▸ mem_own.2 hb), own_own hr' h.mks he b (mem_own.2 hb)⟩
  have hb' := blk_set (i := 16) v (hc.blk h.blk n2)
  refine ⟨⟨hb', h.ovs.chg hcc (ap h.ovs (by decide) n1), hr.chg hcs (fun b hb => by simp only [List.mem_cons, List.not_mem_nil, or_false]; rintro rfl; exact own_ty hr (hc.blk h.blk n2) (by decide) (mem_own.2 hb)), h.tns.chg hcc (ap h.tns (by decide) n3), h.its.chg hcc (ap h.its (by decide) n4)⟩, ⟨hcc.mono (fun b hb => by simp only [List.mem_cons] at hb; rcases hb with rfl | hb <;> simp [Rf.fp, *]), fun b hb => ?_⟩⟩
  simp only [Rf.fp, Rf.marked, List.mem_append, List.mem_cons, List.not_mem_nil, or_false] at hb ⊢
  rcases hb with (((hb | hb) | hb) | hb) | hb
  · exact Or.inl (Or.inl (Or.inl (Or.inl (Or.inl hb))))
  · exact Or.inl (Or.inl (Or.inl (Or.inl (Or.inr hb))))
  · rcases ho with ho | ⟨c, ho, hc'⟩
    · rw [own_eq ho] at hb
      exact Or.inl (Or.inl (Or.inl (Or.inr hb)))
    · have := mem_own.1 hb
      rw [ho] at this
      cases this
      exact Or.inr hc'
  · exact Or.inl (Or.inl (Or.inr hb))
  · exact Or.inl (Or.inr hb)
end Go.Proofs.YtbdnhllhdjepcaaGreat
