import Derived.Test.YtbdnhllhdjepcaaGreatCRl
namespace Go.Proofs.YtbdnhllhdjepcaaGreat
set_option linter.unusedVariables false
set_option linter.unusedSimpArgs false
open Go.RowKit Go.Maps

/-! ### the document's meter is made -/
theorem Tryz.info158 : (Tryz.prog.info? 158).map (fun i => (i.zero, i.size, i.bytes)) = some (some (.agg #[.int .i64 0, .int .u16 0, .int .u16 0, .int .u16 0, .int .i64 0, .int .i64 0, .int .i64 0]), 7, 40) := by kernel_rfl
theorem ek158 : ∃ i0, EK 31 158 i0 (.agg #[.int .i64 0, .int .u16 0, .int .u16 0, .int .u16 0, .int .i64 0, .int .i64 0, .int .i64 0]) 7 40 := by
  obtain ⟨i0, hi, hz0, hz1, hz2⟩ := info_parts Tryz.info158
  exact ⟨i0, ⟨Tryz.underlying31, hi, hz0, hz1, hz2, rfl, by decide, by decide, fun n => zero_one (by decide) (by decide) n⟩⟩
theorem ovc_one (os : List Ov) : ∀ u ∈ ovcells os, u.oneCell' = true := fun u hu => by
  unfold ovcells at hu
  obtain ⟨o, _, ho⟩ := List.mem_flatMap.1 hu
  simp [ovc] at ho
  rcases ho with rfl | rfl | rfl | rfl | rfl | rfl | rfl <;> rfl
theorem ovcells_len (os : List Ov) : (ovcells os).length = os.length * 7 := fm_len ovc_len os
/-- overrides that came in, as cells -/
theorem OvsAt.cells {w : World} {la : Option Addr} {lb lof : Nat} {os : List Ov} (h : OvsAt w la lb lof os) : ∀ j u, (ovcells os)[j]? = some u → w.cell? ⟨lb, lof + j, none⟩ = some u := fun j u hj => by
  have hjl := (List.getElem?_eq_some_iff.1 hj).1
  rw [ovcells_len] at hjl
  have hq : j / 7 < os.length := by omega
  have hjj : j = j / 7 * 7 + j % 7 := by omega
  have hr : j % 7 < 7 := Nat.mod_lt _ (by decide)
  have hat := h.each (j / 7) hq
  rw [hjj, ov_at os _ hq _ hr] at hj
  rw [hjj]
  generalize j % 7 = i at *
  obtain ⟨h0, h1, h2, h3, h4, h5, h6⟩ := hat
  rw [← Nat.add_assoc]
  rcases (show i = 0 ∨ i = 1 ∨ i = 2 ∨ i = 3 ∨ i = 4 ∨ i = 5 ∨ i = 6 from by omega) with rfl | rfl | rfl | rfl | rfl | rfl | rfl <;> simp [ovc] at hj <;> subst hj <;> assumption
/-- a list of overrides of one's own, as long as what came in -/
theorem ov_copy {w : World} {la : Option Addr} {lb lof cap : Nat} {os : List Ov} (h : OvsAt w la lb lof os) (hlen : os.length ≤ 3518437208780) (W : World) (hW : Chg [] w W) :
    ∃ v' w', (Builtin.append_ #[31, 31] 31 #[.slice none 0 0, .slice la os.length cap]).run Tryz.prog W = .ok v' w' ∧ Rw w' 158 7 v' os.length (ovcells os) ∧ Chg [] W w' ∧ (∀ b ∈ own v', W.heap.size ≤ b) ∧ ∃ la' cap', v' = .slice la' os.length cap' := by
  obtain ⟨i0, ek⟩ := ek158
  by_cases h0 : os.length = 0
  · have : os = [] := List.length_eq_zero_iff.1 h0
    subst this
    refine ⟨.slice none 0 0, W, ?_, ⟨rfl, by simp [ovcells], .inl ⟨rfl, rfl⟩⟩, Chg.refl _ _, by simp [own, Value.ownBlock], _, _, rfl⟩
    cases la with
    | none => simp [Builtin.append_, run_underlying ek.u, sizeOf, typeInfo, ek.i, ek.s, Builtin.lenOf, Builtin.firstCells]
    | some a =>
      have hfc := run_firstCells_some (P := Tryz.prog) W 7 0 a 0 cap [] rfl (by simp)
      simp [Builtin.append_, run_underlying ek.u, sizeOf, typeInfo, ek.i, ek.s, Builtin.lenOf, hfc]
  · have hla := h.at_ (by omega)
    subst hla
    obtain ⟨v', w', h1, h2, h3, h4⟩ := run_app ek W 31 (.slice none 0 0) 0 [] ⟨rfl, by simp, .inl ⟨rfl, rfl⟩⟩ ⟨lb, lof, none⟩ os.length cap (ovcells os) (ovcells_len os) (fun j u hj => by rw [Addr.add_mid]; exact hW.cell (h.cells j u hj) (by simp)) (ovc_one os) (by omega) (by omega)
    rw [Nat.zero_add, List.nil_append] at h2
    refine ⟨v', w', h1, h2, Chg.of_grown h3 (by simp [Value.ownBlock]), fun b hb => ?_, h2.val⟩
    rcases h4 with h4 | h4
    · have := mem_own.1 hb
      rw [h4] at this
      simp [Value.ownBlock] at this
    · have := mem_own.1 hb
      rw [h4] at this
      cases this
      exact Nat.le_refl _
def Rf.new (c : Cf) (v : Value) (os : List Ov) : Rf := ⟨c, v, os, 0, .slice none 0 0, [], .slice none 0 0, [], .slice none 0 0, []⟩
def NewR (w w' : World) (c : Cf) (os : List Ov) (e : Ending) : Prop := Chg [] w w' ∧ (CfOk c os → ∃ yb v, e = .returned (.tuple #[.pointer (some ⟨yb, 0, none⟩), .int .i64 0]) ∧ RefAt w' yb (Rf.new c v os) ∧ ∀ b ∈ (Rf.new c v os).fp yb, w.heap.size ≤ b) ∧ (¬ CfOk c os → e = .returned (.tuple #[.pointer none, .int .i64 1]))
set_option maxRecDepth 100000 in
set_option maxHeartbeats 4000000 in
theorem new_ref (c : Cf) (la : Option Addr) (lb lof cap : Nat) (os : List Ov) (w : World) (h : OvsAt w la lb lof os) (hok : ∀ o ∈ os, o.Ok) (hc : c.Ok) (hlen : os.length ≤ 3518437208780) :
    Calls Tryz.prog 34 #[.agg #[.int .i64 c.c0, .int .i64 c.p0, .int .i64 c.b0, .int .i64 c.c1, .int .i64 c.p1, .int .i64 c.b1, .int .i64 c.c2, .int .i64 c.p2, .int .i64 c.b2, .slice la os.length cap, .int .i64 c.sh, .int .i64 c.sl, .int .i64 c.ev, .int .i64 c.de, .int .i64 c.qu]] w fun e w' => NewR w w' c os e := by
  have hbx := heap_alloc_new w (.cells (cfc c (.slice la os.length cap)).toArray 33)
  have hcw : Chg [] w (w.alloc (.cells (cfc c (.slice la os.length cap)).toArray 33)) := (Chg.refl _ _).alloc _
  obtain ⟨wb, hwb⟩ : ∃ wb, wb = w.alloc (.cells (cfc c (.slice la os.length cap)).toArray 33) := ⟨_, rfl⟩
  rw [← hwb] at hbx hcw
  have hkw : w.alloc (.cells #[.int .i64 c.c0, .int .i64 c.p0, .int .i64 c.b0, .int .i64 c.c1, .int .i64 c.p1, .int .i64 c.b1, .int .i64 c.c2, .int .i64 c.p2, .int .i64 c.b2, .slice la os.length cap, .int .i64 c.sh, .int .i64 c.sl, .int .i64 c.ev, .int .i64 c.de, .int .i64 c.qu] 33) = wb := hwb.symm
  clear hwb
  have b0 := blk_cell (i := 0) hbx rfl
  have b1 := blk_cell (i := 1) hbx rfl
  have b2 := blk_cell (i := 2) hbx rfl
  have b3 := blk_cell (i := 3) hbx rfl
  have b4 := blk_cell (i := 4) hbx rfl
  have b5 := blk_cell (i := 5) hbx rfl
  have b6 := blk_cell (i := 6) hbx rfl
  have b7 := blk_cell (i := 7) hbx rfl
  have b8 := blk_cell (i := 8) hbx rfl
  have b9 := blk_cell (i := 9) hbx rfl
  have b10 := blk_cell (i := 10) hbx rfl
  have b11 := blk_cell (i := 11) hbx rfl
  have b12 := blk_cell (i := 12) hbx rfl
  have b13 := blk_cell (i := 13) hbx rfl
  have b14 := blk_cell (i := 14) hbx rfl
  have HBX : Hid (wb.heap[w.heap.size]? = some (.cells (cfc c (.slice la os.length cap)).toArray 33 (0, 0))) := hbx
  have HCW : Hid (Chg [] w wb) := hcw
  have HCF : Hid (∀ W, Chg [] w W → Calls Tryz.prog 83 #[.agg #[.int .i64 c.c0, .int .i64 c.p0, .int .i64 c.b0, .int .i64 c.c1, .int .i64 c.p1, .int .i64 c.b1, .int .i64 c.c2, .int .i64 c.p2, .int .i64 c.b2, .slice la os.length cap, .int .i64 c.sh, .int .i64 c.sl, .int .i64 c.ev, .int .i64 c.de, .int .i64 c.qu]] W fun e w' => CfB c os e ∧ Chg [] W w') := fun W hW => config_ref c la lb lof cap os W (h.chg hW (by simp)) hok hc
  have HAP : Hid (∀ W, Chg [] w W → ∃ v' w', (Builtin.append_ #[31, 31] 31 #[.slice none 0 0, .slice la os.length cap]).run Tryz.prog W = .ok v' w' ∧ Rw w' 158 7 v' os.length (ovcells os) ∧ Chg [] W w' ∧ (∀ b ∈ own v', W.heap.size ≤ b) ∧ ∃ la' cap', v' = .slice la' os.length cap') := fun W hW => ov_copy h hlen W hW
  clear hbx hcw h hok hc
  go_enter Tryz.func34, Tryz.ntmps34
  go_wp2_with fail
  refine (HCF.out _ HCW.out).mono ?_
  rintro e w1 ⟨⟨b, rfl, hb⟩, q1⟩
  have HC1 : Hid (Chg [] w w1) := HCW.out.trans q1 (by simp)
  have HB1 : Hid (w1.heap[w.heap.size]? = some (.cells (cfc c (.slice la os.length cap)).toArray 33 (0, 0))) := q1.blk HBX.out (by simp)
  clear b0 b1 b2 b3 b4 b5 b6 b7 b8 b9 b10 b11 b12 b13 b14 q1 HCF
  cases b
  · have HN : Hid (¬ CfOk c os) := fun h => by have := hb.2 h; cases this
    clear hb
    go_wp2
    go_ret2
    exact ⟨HC1.out, fun h => absurd h HN.out, fun _ => rfl⟩
  · have HY : Hid (CfOk c os) := hb.1 rfl
    clear hb
    have hyb := heap_alloc_new w1 (.cells [.int .i64 c.c0, .int .i64 c.p0, .int .i64 c.b0, .int .i64 c.c1, .int .i64 c.p1, .int .i64 c.b1, .int .i64 c.c2, .int .i64 c.p2, .int .i64 c.b2, .slice la os.length cap, .int .i64 c.sh, .int .i64 c.sl, .int .i64 c.ev, .int .i64 c.de, .int .i64 c.qu, .int .u64 0, .slice none 0 0, .slice none 0 0, .slice none 0 0].toArray 114)
    obtain ⟨w2, hw2⟩ : ∃ w2, w2 = w1.alloc (.cells [.int .i64 c.c0, .int .i64 c.p0, .int .i64 c.b0, .int .i64 c.c1, .int .i64 c.p1, .int .i64 c.b1, .int .i64 c.c2, .int .i64 c.p2, .int .i64 c.b2, .slice la os.length cap, .int .i64 c.sh, .int .i64 c.sl, .int .i64 c.ev, .int .i64 c.de, .int .i64 c.qu, .int .u64 0, .slice none 0 0, .slice none 0 0, .slice none 0 0].toArray 114) := ⟨_, rfl⟩
    rw [← hw2] at hyb
    have hk2 : w1.alloc (.cells #[.int .i64 c.c0, .int .i64 c.p0, .int .i64 c.b0, .int .i64 c.c1, .int .i64 c.p1, .int .i64 c.b1, .int .i64 c.c2, .int .i64 c.p2, .int .i64 c.b2, .slice la os.length cap, .int .i64 c.sh, .int .i64 c.sl, .int .i64 c.ev, .int .i64 c.de, .int .i64 c.qu, .int .u64 0, .slice none 0 0, .slice none 0 0, .slice none 0 0] 114) = w2 := hw2.symm
    have HC2 : Hid (Chg [] w w2) := hw2 ▸ HC1.out.alloc _
    have HB2 : Hid (w2.heap[w.heap.size]? = some (.cells (cfc c (.slice la os.length cap)).toArray 33 (0, 0))) := hw2 ▸ blk_alloc HB1.out _
    have hsz : w2.heap.size = w1.heap.size + 1 := by rw [hw2]; simp
    clear hw2
    have s1 := HC1.out.size
    have hbl := lt_of_block HB1.out
    have b0 := blk_cell (i := 0) HB1.out rfl
    have b1 := blk_cell (i := 1) HB1.out rfl
    have b2 := blk_cell (i := 2) HB1.out rfl
    have b3 := blk_cell (i := 3) HB1.out rfl
    have b4 := blk_cell (i := 4) HB1.out rfl
    have b5 := blk_cell (i := 5) HB1.out rfl
    have b6 := blk_cell (i := 6) HB1.out rfl
    have b7 := blk_cell (i := 7) HB1.out rfl
    have b8 := blk_cell (i := 8) HB1.out rfl
    have b9 := blk_cell (i := 9) HB1.out rfl
    have b10 := blk_cell (i := 10) HB1.out rfl
    have b11 := blk_cell (i := 11) HB1.out rfl
    have b12 := blk_cell (i := 12) HB1.out rfl
    have b13 := blk_cell (i := 13) HB1.out rfl
    have b14 := blk_cell (i := 14) HB1.out rfl
    have y9 : w2.cell? ⟨w1.heap.size, 9, none⟩ = some (.slice la os.length cap) := blk_cell (i := 9) hyb rfl
    have yf : ∀ i, w2.frozen? ⟨w1.heap.size, i, none⟩ = false := fun i => blk_free hyb
    have hb3 := blk_set (i := 9) (.slice none 0 0) hyb
    have hc3 : Chg [] w (w2.setCell ⟨w1.heap.size, 9, none⟩ (.slice none 0 0)) := HC2.out.set _ _ (Or.inr s1)
    have hbb3 : (w2.setCell ⟨w1.heap.size, 9, none⟩ (.slice none 0 0)).heap[w.heap.size]? = some (.cells (cfc c (.slice la os.length cap)).toArray 33 (0, 0)) := blk_set_far HB2.out (by omega)
    obtain ⟨w3, hw3⟩ : ∃ w3, w3 = w2.setCell ⟨w1.heap.size, 9, none⟩ (.slice none 0 0) := ⟨_, rfl⟩
    rw [← hw3] at hb3 hc3 hbb3
    have hk3 : w2.setCell ⟨w1.heap.size, 9, none⟩ (.slice none 0 0) = w3 := hw3.symm
    clear hw3
    obtain ⟨v4, w4, hr4, p1, p2, p3, la4, cap4, rfl⟩ := HAP.out w3.drew hc3.drew
    have HB4 : Hid (w4.heap[w1.heap.size]? = some (.cells (rfc (Rf.new c (.slice none 0 0) os)).toArray 114 (0, 0))) := p2.blk (w := w3.drew) hb3 (by simp)
    have HP : Hid (Rw w4 158 7 (.slice la4 os.length cap4) os.length (ovcells os) ∧ Chg [] w3.drew w4 ∧ ∀ b ∈ own (.slice la4 os.length cap4), w3.heap.size ≤ b) := ⟨p1, p2, p3⟩
    have HC3 : Hid (Chg [] w w3) := hc3
    have x9 : w3.cell? ⟨w1.heap.size, 9, none⟩ = some (.slice none 0 0) := blk_cell (i := 9) hb3 rfl
    have a9 : w3.cell? ⟨w.heap.size, 9, none⟩ = some (.slice la os.length cap) := blk_cell (i := 9) hbb3 rfl
    have z9 : w4.cell? ⟨w1.heap.size, 9, none⟩ = some (.slice none 0 0) := blk_cell (i := 9) HB4.out rfl
    have zf : w4.frozen? ⟨w1.heap.size, 9, none⟩ = false := blk_free HB4.out
    clear p1 p2 p3 hb3 hbb3 hyb hc3
    go_wp2_with fail
    go_region_law (refine step_app_run rfl (.tmp 22) (.tmp 24) 31 31 rfl (.slice none 0 0) (.slice la os.length cap) (by simp [Act.eval, Act.put]) (by simp [Act.eval, Act.put]) hr4 ?_)
    all_goals
      go_wp2
      go_ret2
      have hrw := HP.out.1
      have hb5 := blk_set (i := 9) (.slice la4 os.length cap4) HB4.out
      have hcs : Chg [w1.heap.size] w4 (w4.setCell ⟨w1.heap.size, 9, none⟩ (.slice la4 os.length cap4)) := (Chg.refl _ _).set _ _ (Or.inl (by simp))
      have hny : w1.heap.size ∉ own (.slice la4 os.length cap4) := own_ty hrw HB4.out (by decide)
      refine ⟨((HC3.out.drew).trans HP.out.2.1 (by simp)).set _ _ (Or.inr s1), fun _ => ⟨w1.heap.size, .slice la4 os.length cap4, rfl, ⟨hb5, hrw.chg hcs (fun b hb => by simp only [List.mem_cons, List.not_mem_nil, or_false]; rintro rfl; exact hny (mem_own.2 hb)), ⟨rfl, by simp [Rf.new, mkcells], .inl ⟨rfl, rfl⟩⟩, ⟨rfl, by simp [Rf.new, tncells], .inl ⟨rfl, rfl⟩⟩, ⟨rfl, by simp [Rf.new, icells], .inl ⟨rfl, rfl⟩⟩⟩, fun b hb => ?_⟩, fun h => absurd HY.out h⟩
      simp only [Rf.fp, Rf.new, List.mem_append, List.mem_cons, List.not_mem_nil, or_false] at hb
      have s3 := HC3.out.size
      rcases hb with (((rfl | hb) | hb) | hb) | hb
      · exact s1
      · have := HP.out.2.2 b hb; omega
      · simp [own, Value.ownBlock] at hb
      · simp [own, Value.ownBlock] at hb
      · simp [own, Value.ownBlock] at hb
end Go.Proofs.YtbdnhllhdjepcaaGreat
namespace Go.Proofs.YtbdnhllhdjepcaaGreat
set_option linter.unusedVariables false
set_option linter.unusedSimpArgs false
open Go.RowKit Go.Maps

/-! ### a plan with overrides -/
set_option maxRecDepth 100000 in
set_option maxHeartbeats 1600000 in
theorem rateOf_no (c p b : Int) (w : World) (hc : I6 c) (hp : I6 p) (hb : I6 b) (hq : ¬ QOk c p b) :
    Calls Tryz.prog 96 #[.agg #[.int .i64 c, .int .i64 p, .int .i64 b]] w fun e w' => e = .returned (.tuple #[.agg #[.int .u64 0, .int .u64 0], .bool false]) ∧ Chg [] w w' := by
  obtain ⟨hc1, hc2⟩ := hc
  obtain ⟨hp1, hp2⟩ := hp
  obtain ⟨hb1, hb2⟩ := hb
  by_cases h : 1 ≤ c ∧ c ≤ 1000000 ∧ 1 ≤ p ∧ p ≤ 4611686018427387904 ∧ 0 ≤ b
  · obtain ⟨h1, h2, h3, h4, h5⟩ := h
    have hd : 0 ≤ (p - 1) / c := Int.ediv_nonneg (by omega) (by omega)
    have hd' : (p - 1) / c ≤ p - 1 := Int.ediv_le_self _ (by omega)
    have hbig : 4611686018427387904 - ((p - 1) / c + 1) < b := by
      rcases Int.lt_or_le (4611686018427387904 - ((p - 1) / c + 1)) b with h | h
      · exact h
      · exact absurd ⟨h1, h2, h3, h4, h5, h, by unfold ivl; omega⟩ hq
    clear hq
    go_enter Tryz.func96, Tryz.ntmps96
    go_wp2
    refine bodyPost_ret (v := .tuple #[.agg #[.int .u64 0, .int .u64 0], .bool false]) (by simp [results, Tryz.results96, go_sem, World.cell?_alloc_past]) rfl ⟨rfl, ?_⟩
    exact ((Chg.refl _ _).alloc _).alloc _
  · have hn : c < 1 ∨ 1000000 < c ∨ p < 1 ∨ 4611686018427387904 < p ∨ b < 0 := by omega
    clear hq
    go_enter Tryz.func96, Tryz.ntmps96
    go_wp2
    all_goals first
      | (exfalso; omega)
      | (refine bodyPost_ret (v := .tuple #[.agg #[.int .u64 0, .int .u64 0], .bool false]) (by simp [results, Tryz.results96, go_sem, World.cell?_alloc_past]) rfl ⟨rfl, ?_⟩
         exact ((Chg.refl _ _).alloc _).alloc _)
def szOk (sh sl ev de qu : Int) : Prop := (1 ≤ sh ∧ sh ≤ 4) ∧ (3 ≤ sl ∧ sl ≤ 64) ∧ (1 ≤ ev ∧ ev ≤ 4611686018427387904) ∧ (0 ≤ de ∧ de ≤ 4611686018427387904) ∧ 0 ≤ qu ∧ qu ≤ 50
set_option maxRecDepth 100000 in
set_option maxHeartbeats 1600000 in
theorem sizes_no (q0 q1 q2 q3 q4 q5 q6 q7 q8 ov : Value) (sh sl ev de qu : Int) (w : World) (h : ¬ szOk sh sl ev de qu) :
    Calls Tryz.prog 95 #[.agg #[q0, q1, q2, q3, q4, q5, q6, q7, q8, ov, .int .i64 sh, .int .i64 sl, .int .i64 ev, .int .i64 de, .int .i64 qu]] w fun e w' => e = .returned (.bool false) ∧ Chg [] w w' := by
  have hn : sh < 1 ∨ 4 < sh ∨ sl < 3 ∨ 64 < sl ∨ ev < 1 ∨ 4611686018427387904 < ev ∨ de < 0 ∨ 4611686018427387904 < de ∨ qu < 0 ∨ 50 < qu := by
    unfold szOk at h
    omega
  clear h
  go_enter Tryz.func95, Tryz.ntmps95
  go_wp2
  all_goals first
    | (exfalso; omega)
    | (go_ret; refine ⟨?_, (Chg.refl _ _).alloc _⟩; first | rfl | (simp; omega))
end Go.Proofs.YtbdnhllhdjepcaaGreat
