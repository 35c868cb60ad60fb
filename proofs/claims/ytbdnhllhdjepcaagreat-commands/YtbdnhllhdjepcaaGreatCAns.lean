import Derived.Test.YtbdnhllhdjepcaaGreatCLg
import Derived.Test.YtbdnhllhdjepcaaGreatCReadc
namespace Go.Proofs.YtbdnhllhdjepcaaGreat
set_option linter.unusedVariables false
set_option linter.unusedSimpArgs false
open Go.RowKit Go.Maps

/-! ### answer -/
theorem repTo_lv (f : Nat → Int × Int) (k : Nat) : 0 ≤ (repTo f k).2.1 ∧ (repTo f k).2.1 ≤ (k : Int) := by
  induction k with
  | zero => simp [repTo]
  | succ k ih =>
    unfold repTo
    split
    · omega
    · split <;> simp <;> omega
theorem allowD_bd {now : Int} {D : DW} (h : Inv now D) {p : Pln} {slots cost t u r : Int} (hgd : ∀ L l, Good (p.at_ L l)) (h0 : 0 ≤ now) (h1 : now ≤ 9223372036854775807) (hc : 1 ≤ cost) :
    (0 ≤ (allowD p slots D now cost t u r).1.1 ∧ (allowD p slots D now cost t u r).1.1 < 256) ∧ (0 ≤ (allowD p slots D now cost t u r).1.2.1 ∧ (allowD p slots D now cost t u r).1.2.1 < 256) ∧ 0 ≤ (allowD p slots D now cost t u r).1.2.2 ∧ (allowD p slots D now cost t u r).1.2.2 ≤ 18446744073709551615 := by
  have hb : ∀ j, 0 ≤ (askAt p (fgt now D) now cost t u r j).2 ∧ (askAt p (fgt now D) now cost t u r j).2 ≤ 18446744073709551615 := fun j => by
    have := ask_bd (mark := markOf (fgt now D) (plk t u r j)) (hgd j (plk t u r j)).1 (hgd j (plk t u r j)).2.1 (hgd j (plk t u r j)).2.2 ((h.fgt (now' := now)).le.mark (by omega) _).1 (h.mark h0 h1 _) h0 h1 hc
    exact ⟨this.2.2.1, this.2.2.2.1⟩
  have h3 := repTo_bd _ hb 3
  have h4 := repTo_lv (askAt p (fgt now D) now cost t u r) 3
  unfold allowD
  split
  · split
    · exact ⟨⟨h3.1, Int.lt_of_le_of_lt h3.2.1 (by decide)⟩, ⟨h4.1, Int.lt_of_le_of_lt h4.2 (by decide)⟩, h3.2.2⟩
    · exact ⟨⟨h3.1, Int.lt_of_le_of_lt h3.2.1 (by decide)⟩, ⟨h4.1, Int.lt_of_le_of_lt h4.2 (by decide)⟩, h3.2.2⟩
  · exact ⟨⟨by simp, by simp⟩, ⟨by simp, by simp⟩, by simp, by simp⟩

set_option maxRecDepth 100000 in
set_option maxHeartbeats 1000000 in
theorem answer0 (mb : Nat) (t u r c n x m s now : Int) (w : World) :
    Calls Tryz.prog 61 #[.pointer (some ⟨mb, 0, none⟩), .agg #[.int .i64 0, .int .u16 t, .int .u16 u, .int .u16 r, .int .i64 c, .int .u16 n, .int .u32 x, .int .i64 m, .int .u64 s], .int .u64 now] w fun e w' => e = .returned (sv [255]) ∧ Chg [] w w' := by
  go_enter Tryz.func61, Tryz.ntmps61
  go_wp2
  go_ret
  exact ⟨rfl, (Chg.refl _ _).alloc _⟩

set_option maxRecDepth 100000 in
set_option maxHeartbeats 4000000 in
theorem answer1 (mb ab n sb pb ob db i : Nat) (mc ss : List Value) (slots : Int) (p : Pln) (t u r cost x5 x6 x7 x8 now : Int) (D : DW) (w : World) (hm : w.heap[mb]? = some (.cells mc.toArray 93 (0, 0))) (hm7 : mc[7]? = some (.slice (some ⟨ab, 0, none⟩) n n)) (ha : w.heap[ab]? = some (.cells ss.toArray 129 (0, 0))) (hi : t % (n : Int) = (i : Int)) (hss : ss[i]? = some (.pointer (some ⟨sb, 0, none⟩)))
    (hs : ShardAt w sb pb db slots) (hp : PlanAt w pb ob p) (hd : MapAt w db D) (hod : ob ≠ db) (hn1 : 1 ≤ n) (hn4 : n ≤ 4)
    (ht : (Lit.int .u16 t).wf = true) (hu : (Lit.int .u16 u).wf = true) (hr : (Lit.int .u16 r).wf = true)
    (hgd : ∀ L l, Good (p.at_ L l)) (hinv : Inv now D) (h0 : 0 ≤ now) (h1 : now ≤ 9223372036854775807) (hc : 1 ≤ cost) (hc' : cost ≤ 1000) :
    Calls Tryz.prog 61 #[.pointer (some ⟨mb, 0, none⟩), .agg #[.int .i64 1, .int .u16 t, .int .u16 u, .int .u16 r, .int .i64 cost, .int .u16 x5, .int .u32 x6, .int .i64 x7, .int .u64 x8], .int .u64 now] w fun e w' =>
      e = .returned (sv (bl [(allowD p slots D now cost t u r).1.1, (allowD p slots D now cost t u r).1.2.1] ++ be (allowD p slots D now cost t u r).1.2.2 8)) ∧ MapAt w' db (allowD p slots D now cost t u r).2 ∧ Chg [db] w w' := by
  have htb : 0 ≤ t ∧ t ≤ 65535 := by simp [Lit.wf, IntKind.min, IntKind.max, IntKind.signed, IntKind.bits] at ht; omega
  have hin : (i : Int) < (n : Int) := by rw [← hi]; exact Int.emod_lt_of_pos _ (by omega)
  have hi0 : (0 : Int) ≤ (i : Int) := by omega
  have hmd : mb ≠ db := MapAt.ne hd hm
  have had : ab ≠ db := MapAt.ne hd ha
  have hdl := hd.lt
  have hbd := allowD_bd hinv (slots := slots) (t := t) (u := u) (r := r) hgd h0 h1 hc
  obtain ⟨w0, hw0⟩ : ∃ w0, w0 = w.alloc (.cells [.int .i64 1, .int .u16 t, .int .u16 u, .int .u16 r, .int .i64 cost, .int .u16 x5, .int .u32 x6, .int .i64 x7, .int .u64 x8].toArray 99) := ⟨_, rfl⟩
  have hm0 : w0.heap[mb]? = some (.cells mc.toArray 93 (0, 0)) := hw0 ▸ blk_alloc hm _
  have ha0 : w0.heap[ab]? = some (.cells ss.toArray 129 (0, 0)) := hw0 ▸ blk_alloc ha _
  have hk0 : w0.heap[w.heap.size]? = some (.cells [.int .i64 1, .int .u16 t, .int .u16 u, .int .u16 r, .int .i64 cost, .int .u16 x5, .int .u32 x6, .int .i64 x7, .int .u64 x8].toArray 99 (0, 0)) := hw0 ▸ heap_alloc_new w _
  have hc0 : Chg [] w w0 := hw0 ▸ (Chg.refl _ _).alloc _
  have HW0 : Hid (w0 = w.alloc (.cells [.int .i64 1, .int .u16 t, .int .u16 u, .int .u16 r, .int .i64 cost, .int .u16 x5, .int .u32 x6, .int .i64 x7, .int .u64 x8].toArray 99)) := hw0
  clear hw0
  have HS : Hid (∀ W, Chg [db] w0 W → (W.cell? ⟨mb, 7, none⟩ = some (.slice (some ⟨ab, 0, none⟩) n n) ∧ W.cell? ⟨w.heap.size, 1, none⟩ = some (.int .u16 t) ∧ W.cell? ⟨w.heap.size, 2, none⟩ = some (.int .u16 u) ∧ W.cell? ⟨w.heap.size, 3, none⟩ = some (.int .u16 r) ∧ W.cell? ⟨w.heap.size, 4, none⟩ = some (.int .i64 cost) ∧ W.cell? ⟨ab, i, none⟩ = some (.pointer (some ⟨sb, 0, none⟩)))) := fun W hW => by
    have m2 := hW.blk hm0 (by simp; omega)
    have k2 := hW.blk hk0 (by simp; omega)
    have a2 := hW.blk ha0 (by simp; omega)
    exact ⟨blk_cell m2 hm7, blk_cell k2 rfl, blk_cell k2 rfl, blk_cell k2 rfl, blk_cell k2 rfl, blk_cell a2 hss⟩
  have HO : Hid (∀ W, W.cell? ⟨mb, 7, none⟩ = some (.slice (some ⟨ab, 0, none⟩) n n) → Calls Tryz.prog 52 #[.pointer (some ⟨mb, 0, none⟩), .int .u16 t] W fun e w' => e = .returned (.int .i64 i) ∧ w' = W) := fun W hW => by
    have := shardOf_any mb n t _ W hW htb.1 htb.2 hn1 hn4
    rw [hi] at this
    exact this
  have HL : Hid (∀ W, Chg [] w0 W → Calls Tryz.prog 53 #[.pointer (some ⟨sb, 0, none⟩), .agg #[.int .u16 t, .int .u16 u, .int .u16 r], .int .i64 cost, .int .u64 now] W fun e w' =>
      e = .returned (.agg (repV (allowD p slots D now cost t u r).1).toArray) ∧ MapAt w' db (allowD p slots D now cost t u r).2 ∧ Chg [db] W w') := fun W hW => by
    have hcW := hc0.trans hW (by simp)
    exact sallow_any sb pb ob db slots p t u r cost now D W (hcW.blk hs (by simp)) (hp.chg hcW (by simp) (by simp)) (hd.chg hcW (by simp)) hod (by have := hinv.size; omega) ht hu hr hgd (hinv.mark h0 h1) h0 h1 hc hc'
  obtain ⟨st, lv, rt, D', hX⟩ : ∃ st lv rt D', allowD p slots D now cost t u r = ((st, lv, rt), D') := ⟨_, _, _, _, rfl⟩
  simp only [hX] at hbd
  simp only [hX, repV] at HL
  simp only [hX]
  have HR : Hid (∀ W, Calls Tryz.prog 109 #[.agg #[.int .i64 st, .int .i64 lv, .int .u64 rt]] W fun e w' => e = .returned (sv (bl [st, lv] ++ be rt 8)) ∧ Chg [] W w') := fun W => reply_any st lv rt W hbd.1 hbd.2.1 hbd.2.2.1 hbd.2.2.2
  clear hX hbd hinv
  have hK := HS.out w0 (Chg.refl _ _)
  obtain ⟨y1, y2, y3, y4, y5, y6⟩ := hK
  have y0 := blk_cell (i := 0) hk0 rfl
  have HC0 : Hid (Chg [] w w0) := hc0
  clear hgd hs hp hi ha0 hk0 hm0 hc0 hd ha hm
  go_enter Tryz.func61, Tryz.ntmps61
  go_upto_region 1 with fail
  rw [show w.alloc (.cells #[.int .i64 1, .int .u16 t, .int .u16 u, .int .u16 r, .int .i64 cost, .int .u16 x5, .int .u32 x6, .int .i64 x7, .int .u64 x8] 99) = w0 from HW0.out.symm]
  go_wp2_with fail
  go_region_held3 (fun W => W.cell? ⟨mb, 7, none⟩ = some (.slice (some ⟨ab, 0, none⟩) n n) ∧ W.cell? ⟨w.heap.size, 1, none⟩ = some (.int .u16 t) ∧ W.cell? ⟨w.heap.size, 2, none⟩ = some (.int .u16 u) ∧ W.cell? ⟨w.heap.size, 3, none⟩ = some (.int .u16 r) ∧ W.cell? ⟨w.heap.size, 4, none⟩ = some (.int .i64 cost) ∧ W.cell? ⟨ab, i, none⟩ = some (.pointer (some ⟨sb, 0, none⟩)))
    (first | exact HS.out _ ((Chg.refl _ _).drew) | exact HS.out _ (((Chg.refl _ _).drew).trans hc3 (by simp)) | exact HS.out _ ((((Chg.refl _ _).drew).trans hc3 (by simp)).trans hc4 (by simp)))
    (first | (go_at_call 52; refine (HO.out _ (HS.out _ ((Chg.refl _ _).drew)).1).mono ?_; rintro e w2 ⟨rfl, rfl⟩) | (go_at_call 53; refine (HL.out _ ((Chg.refl _ _).drew)).mono ?_; rintro e w3 ⟨rfl, hd3, hc3⟩) | (go_at_call 109; refine (HR.out _).mono ?_; rintro e w4 ⟨rfl, hc4⟩))
  go_wp2
  go_ret
  exact ⟨rfl, hd3.chg hc4 (by simp), ((HC0.out.mono (by simp)).drew.trans hc3 (by simp)).trans hc4 (by simp)⟩

/-- what a submit answers -/
theorem Sub.bd {s s' : Qs} {t x now : Int} {e : Ending} (h : Sub s s' t x now e) (h0 : 0 ≤ now) (h1 : now ≤ 9223372036854775807) (hde' : s.de ≤ 4611686018427387904) : ∃ st d, e = .returned (.tuple #[.int .i64 st, .int .u64 d]) ∧ (0 ≤ st ∧ st < 256) ∧ 0 ≤ d ∧ d ≤ 18446744073709551615 := by
  rcases h with ⟨_, h, _⟩ | ⟨_, _, h, _⟩ | ⟨h2, _, h, _⟩
  · exact ⟨_, _, h, by decide, by decide, by decide⟩
  · exact ⟨_, _, h, by decide, by decide, by decide⟩
  · exact ⟨_, _, h, by decide, by omega, by omega⟩
/-- a submit, told in bytes -/
def SubEa (w w' : World) (s : Qs) (t x now : Int) (e : Ending) : Prop := ∃ (s' : Qs) (st d : Int), QAt w' s' ∧ SameQ s s' ∧ Chg s.fp w w' ∧ (∀ b ∈ s'.fp, b ∈ s.fp ∨ w.heap.size ≤ b) ∧ s'.n ≤ s.n + 1 ∧ s'.es.length ≤ s.es.length + 1 ∧ Sub s s' t x now (.returned (.tuple #[.int .i64 st, .int .u64 d])) ∧ e = .returned (sv (bl [st] ++ be d 8))
/-- a poll, told in bytes -/
def PolEa (w w' : World) (s : Qs) (most now : Int) (e : Ending) : Prop := ∃ (s' : Qs) (k : Nat), Cnt s.ws most now k ∧ QAt w' s' ∧ SameQ s s' ∧ Chg s.fp w w' ∧ (∀ b ∈ s'.fp, b ∈ s.fp ∨ w.heap.size ≤ b) ∧ s'.n = s.n ∧ s'.D = s.D ∧ s'.es = s.es ∧ s'.ws = s.ws.drop k ∧ e = .returned (sv (bl [3, (k : Int)] ++ ib (s.ws.take k)))

set_option maxRecDepth 100000 in
set_option maxHeartbeats 4000000 in
theorem answer2 (mb : Nat) (mc : List Value) (s : Qs) (t x x1 x2 x3 x4 x7 x8 now : Int) (w : World) (hm : w.heap[mb]? = some (.cells mc.toArray 93 (0, 0))) (hm8 : mc[8]? = some (.pointer (some ⟨s.qb, 0, none⟩))) (h : QAt w s) (ht : (Lit.int .u16 t).wf = true) (h0 : 0 ≤ now) (h1 : now ≤ 9223372036854775807) (hev : 0 ≤ s.ev) (hev' : s.ev ≤ 4611686018427387904) (hde : 0 ≤ s.de) (hde' : s.de ≤ 4611686018427387904) (hws : s.ws.length ≤ 900) (hes : s.es.length ≤ 900000000000) (hn : s.n ≤ 900000000000) :
    Calls Tryz.prog 61 #[.pointer (some ⟨mb, 0, none⟩), .agg #[.int .i64 2, .int .u16 x1, .int .u16 x2, .int .u16 x3, .int .i64 x4, .int .u16 t, .int .u32 x, .int .i64 x7, .int .u64 x8], .int .u64 now] w fun e w' => SubEa w w' s t x now e := by
  obtain ⟨w0, hw0⟩ : ∃ w0, w0 = w.alloc (.cells [.int .i64 2, .int .u16 x1, .int .u16 x2, .int .u16 x3, .int .i64 x4, .int .u16 t, .int .u32 x, .int .i64 x7, .int .u64 x8].toArray 99) := ⟨_, rfl⟩
  have hm0 : w0.heap[mb]? = some (.cells mc.toArray 93 (0, 0)) := hw0 ▸ blk_alloc hm _
  have hk0 : w0.heap[w.heap.size]? = some (.cells [.int .i64 2, .int .u16 x1, .int .u16 x2, .int .u16 x3, .int .i64 x4, .int .u16 t, .int .u32 x, .int .i64 x7, .int .u64 x8].toArray 99 (0, 0)) := hw0 ▸ heap_alloc_new w _
  have hc0 : Chg [] w w0 := hw0 ▸ (Chg.refl _ _).alloc _
  have HW0 : Hid (w0 = w.alloc (.cells [.int .i64 2, .int .u16 x1, .int .u16 x2, .int .u16 x3, .int .i64 x4, .int .u16 t, .int .u32 x, .int .i64 x7, .int .u64 x8].toArray 99)) := hw0
  clear hw0
  have hq0 : QAt w0 s := h.chg hc0 (by simp)
  have hmf : mb ∉ s.fp := fp_ty hq0 hm0 (by decide) (by decide) (by decide) (by decide)
  have hkf : w.heap.size ∉ s.fp := fp_ty hq0 hk0 (by decide) (by decide) (by decide) (by decide)
  have HS : Hid (∀ W, Chg s.fp w0 W → (W.cell? ⟨mb, 8, none⟩ = some (.pointer (some ⟨s.qb, 0, none⟩)) ∧ W.cell? ⟨w.heap.size, 5, none⟩ = some (.int .u16 t) ∧ W.cell? ⟨w.heap.size, 6, none⟩ = some (.int .u32 x))) := fun W hW => by
    have m2 := hW.blk hm0 hmf
    have k2 := hW.blk hk0 hkf
    exact ⟨blk_cell m2 hm8, blk_cell k2 rfl, blk_cell k2 rfl⟩
  have HCALL : Hid (Calls Tryz.prog 88 #[.pointer (some ⟨s.qb, 0, none⟩), .int .u16 t, .int .u32 x, .int .u64 now] w0.drew fun e w2 => ∃ st d, e = .returned (.tuple #[.int .i64 st, .int .u64 d]) ∧ Chg s.fp w0 w2 ∧ (∀ W, Calls Tryz.prog 110 #[.int .i64 st, .int .u64 d] W fun e w' => e = .returned (sv (bl [st] ++ be d 8)) ∧ Chg [] W w') ∧ ∀ W, Chg [] w2 W → SubEa w W s t x now (.returned (sv (bl [st] ++ be d 8)))) := by
    have h1d : QAt w0.drew s := hq0.chg (l := []) (Chg.refl _ _).drew (by simp)
    refine (qsubmit_any s t x now w0.drew h1d ht h0 h1 hev hev' hde hde' hws hes hn).mono ?_
    rintro e w2 ⟨s', z1, z2, z3, z4, z5, z6, z7⟩
    obtain ⟨st, d, rfl, b1, b2, b3⟩ := z7.bd h0 h1 hde'
    have z3' : Chg s.fp w0 w2 := ((Chg.refl _ _).drew).trans z3 (fun j hj => Or.inl hj)
    refine ⟨st, d, rfl, z3', fun W => due_any st d W b1 b2 b3, fun W hW => ⟨s', st, d, z1.chg hW (by simp), z2, ((hc0.mono (by simp)).trans z3' (fun j hj => Or.inl hj)).trans hW (by simp), fun b hb => ?_, z5, z6, z7, rfl⟩⟩
    rcases z4 b hb with h | h
    · exact Or.inl h
    · exact Or.inr (by have := hc0.size; simp at h; omega)
  have hK := HS.out w0 (Chg.refl _ _)
  obtain ⟨y1, y2, y3⟩ := hK
  have y0 := blk_cell (i := 0) hk0 rfl
  clear hm0 hk0 hc0 hq0 h hm
  go_enter Tryz.func61, Tryz.ntmps61
  go_upto_region 1 with fail
  rw [show w.alloc (.cells #[.int .i64 2, .int .u16 x1, .int .u16 x2, .int .u16 x3, .int .i64 x4, .int .u16 t, .int .u32 x, .int .i64 x7, .int .u64 x8] 99) = w0 from HW0.out.symm]
  go_wp2_with fail
  go_region_held3 (fun W => W.cell? ⟨mb, 8, none⟩ = some (.pointer (some ⟨s.qb, 0, none⟩)) ∧ W.cell? ⟨w.heap.size, 5, none⟩ = some (.int .u16 t) ∧ W.cell? ⟨w.heap.size, 6, none⟩ = some (.int .u32 x))
    (first | with_reducible exact H4.out | with_reducible exact H2.out | exact HS.out _ ((Chg.refl _ _).drew))
    (first | (go_at_call 88; refine (HCALL.out).mono ?_; rintro e w2 ⟨st, d, rfl, hcg, hdu, hpost⟩; have HD : Hid _ := hdu; have HP : Hid _ := hpost; have HG : Hid _ := hcg; clear hdu hpost hcg; have H2 : Hid _ := HS.out _ HG.out) | (go_at_call 110; refine (HD.out _).mono ?_; rintro e w4 ⟨rfl, hc4⟩; have H4 : Hid _ := HS.out _ (HG.out.trans hc4 (by simp))))
  go_wp2
  go_ret
  exact HP.out _ hc4

set_option maxRecDepth 100000 in
set_option maxHeartbeats 4000000 in
theorem answer3 (mb : Nat) (mc : List Value) (s : Qs) (most x1 x2 x3 x4 x5 x6 x8 now : Int) (w : World) (hm : w.heap[mb]? = some (.cells mc.toArray 93 (0, 0))) (hm8 : mc[8]? = some (.pointer (some ⟨s.qb, 0, none⟩))) (h : QAt w s) (hm0' : 0 ≤ most) (hm1' : most ≤ 1000000) (hws : s.ws.length ≤ 100) (hwf : IWf s.ws) :
    Calls Tryz.prog 61 #[.pointer (some ⟨mb, 0, none⟩), .agg #[.int .i64 3, .int .u16 x1, .int .u16 x2, .int .u16 x3, .int .i64 x4, .int .u16 x5, .int .u32 x6, .int .i64 most, .int .u64 x8], .int .u64 now] w fun e w' => PolEa w w' s most now e := by
  obtain ⟨w0, hw0⟩ : ∃ w0, w0 = w.alloc (.cells [.int .i64 3, .int .u16 x1, .int .u16 x2, .int .u16 x3, .int .i64 x4, .int .u16 x5, .int .u32 x6, .int .i64 most, .int .u64 x8].toArray 99) := ⟨_, rfl⟩
  have hm0 : w0.heap[mb]? = some (.cells mc.toArray 93 (0, 0)) := hw0 ▸ blk_alloc hm _
  have hk0 : w0.heap[w.heap.size]? = some (.cells [.int .i64 3, .int .u16 x1, .int .u16 x2, .int .u16 x3, .int .i64 x4, .int .u16 x5, .int .u32 x6, .int .i64 most, .int .u64 x8].toArray 99 (0, 0)) := hw0 ▸ heap_alloc_new w _
  have hc0 : Chg [] w w0 := hw0 ▸ (Chg.refl _ _).alloc _
  have HW0 : Hid (w0 = w.alloc (.cells [.int .i64 3, .int .u16 x1, .int .u16 x2, .int .u16 x3, .int .i64 x4, .int .u16 x5, .int .u32 x6, .int .i64 most, .int .u64 x8].toArray 99)) := hw0
  clear hw0
  have hq0 : QAt w0 s := h.chg hc0 (by simp)
  have hmf : mb ∉ s.fp := fp_ty hq0 hm0 (by decide) (by decide) (by decide) (by decide)
  have hkf : w.heap.size ∉ s.fp := fp_ty hq0 hk0 (by decide) (by decide) (by decide) (by decide)
  have HS : Hid (∀ W, Chg s.fp w0 W → (W.cell? ⟨mb, 8, none⟩ = some (.pointer (some ⟨s.qb, 0, none⟩)) ∧ W.cell? ⟨w.heap.size, 7, none⟩ = some (.int .i64 most))) := fun W hW => by
    have m2 := hW.blk hm0 hmf
    have k2 := hW.blk hk0 hkf
    exact ⟨blk_cell m2 hm8, blk_cell k2 rfl⟩
  have HCALL : Hid (Calls Tryz.prog 89 #[.pointer (some ⟨s.qb, 0, none⟩), .int .i64 most, .int .u64 now] w0.drew fun e w2 => ∃ v a, e = .returned v ∧ Chg s.fp w0 w2 ∧ (∀ W, Chg [] w2 W → Calls Tryz.prog 111 #[v] W fun e w' => e = .returned a ∧ Chg [] W w') ∧ ∀ W, Chg [] w2 W → PolEa w W s most now (.returned a)) := by
    have h1d : QAt w0.drew s := hq0.chg (l := []) (Chg.refl _ _).drew (by simp)
    refine (qpoll_any s most now w0.drew h1d (by omega)).mono ?_
    rintro e w2 ⟨k, s', v', z1, rfl, z2⟩
    have z3' : Chg s.fp w0 w2 := ((Chg.refl _ _).drew).trans z2.chg (fun j hj => Or.inl hj)
    have hkl : (s.ws.take k).length = k := by rw [List.length_take]; have := z1.le; omega
    refine ⟨v', sv (bl [3, (k : Int)] ++ ib (s.ws.take k)), rfl, z3', fun W hW => ?_, fun W hW => ⟨s', k, z1, z2.at_.chg hW (by simp), z2.same, ((hc0.mono (by simp)).trans z3' (fun j hj => Or.inl hj)).trans hW (by simp), fun b hb => ?_, z2.n, z2.D, z2.es, z2.ws, rfl⟩⟩
    · have hr : Rw W 123 3 v' (s.ws.take k).length (icells (s.ws.take k)) := by rw [hkl]; exact z2.told.chg hW (by simp)
      have := items_any v' (s.ws.take k) W hr (fun y hy => hwf y (List.mem_of_mem_take hy)) (by have := z1.le; omega)
      rw [hkl] at this
      exact this
    · rcases z2.fp b hb with h | h
      · exact Or.inl h
      · exact Or.inr (by have := hc0.size; simp at h; omega)
  have hK := HS.out w0 (Chg.refl _ _)
  obtain ⟨y1, y2⟩ := hK
  have y0 := blk_cell (i := 0) hk0 rfl
  clear hm0 hk0 hc0 hq0 h hm
  go_enter Tryz.func61, Tryz.ntmps61
  go_upto_region 1 with fail
  rw [show w.alloc (.cells #[.int .i64 3, .int .u16 x1, .int .u16 x2, .int .u16 x3, .int .i64 x4, .int .u16 x5, .int .u32 x6, .int .i64 most, .int .u64 x8] 99) = w0 from HW0.out.symm]
  go_wp2_with fail
  go_region_held3 (fun W => W.cell? ⟨mb, 8, none⟩ = some (.pointer (some ⟨s.qb, 0, none⟩)) ∧ W.cell? ⟨w.heap.size, 7, none⟩ = some (.int .i64 most))
    (first | with_reducible exact H4.out | with_reducible exact H2.out | exact HS.out _ ((Chg.refl _ _).drew))
    (first | (go_at_call 89; refine (HCALL.out).mono ?_; rintro e w2 ⟨v, a, rfl, hcg, hdu, hpost⟩; have HD : Hid _ := hdu; have HP : Hid _ := hpost; have HG : Hid _ := hcg; clear hdu hpost hcg; have H2 : Hid _ := HS.out _ HG.out) | (go_at_call 111; refine (HD.out _ (Chg.refl _ _)).mono ?_; rintro e w4 ⟨rfl, hc4⟩; have H4 : Hid _ := HS.out _ (HG.out.trans hc4 (by simp))))
  go_wp2
  go_ret
  exact HP.out _ hc4
end Go.Proofs.YtbdnhllhdjepcaaGreat
