import Derived.Test.YtbdnhllhdjepcaaFresh
namespace Go.Proofs.Ytbdnhllhdjepcaa
set_option linter.unusedVariables false
set_option linter.unusedSimpArgs false
open Go.RowKit Go.Maps

set_option maxRecDepth 100000 in
theorem same_refl (x y z : Int) (w : World) : Calls Try.prog 22 #[.agg #[.int .i64 x, .int .i64 y, .int .u64 z], .agg #[.int .i64 x, .int .i64 y, .int .u64 z]] w fun e w' => e = .returned (.bool true) ∧ Chg [] w w' := by
  go_enter Try.func22, Try.ntmps22
  go_wp2
  go_ret
  exact ⟨rfl, ((Chg.refl _ _).alloc _).alloc _⟩

theorem MNow (g : St) (now : Int) (Ds : Nat → DW) (w : World) (hm : MtrAt w g now Ds) :
    Calls Try.prog 31 #[.pointer (some ⟨g.mb, 0, none⟩)] w fun e w' => e = .returned (.int .u64 now) ∧ MtrAt w' g now Ds ∧ Chg [] w w' := by
  refine (Now_any g.mb g.ab g.n g.qb now w hm.meter).mono ?_
  rintro e w' ⟨rfl, hc⟩
  exact ⟨rfl, hm.chg0 hc, hc⟩

abbrev pB : Pln := ⟨5, 10, 5, 0, 4, 20, .map []⟩
theorem beg1 : (allowD pB 6 (.map []) 0 1 1 1 1).1 = (0, 0, 0) := by kernel_rfl
theorem beg2 : (allowD pB 6 (allowD pB 6 (.map []) 0 1 1 1 1).2 0 1 1 1 1).1 = (1, 1, 5) := by kernel_rfl
theorem beg3 : (allowD pB 6 (allowD pB 6 (allowD pB 6 (.map []) 0 1 1 1 1).2 0 1 1 1 1).2 5 1 1 1 1).1 = (0, 0, 0) := by kernel_rfl

/-- one shard: what a request does -/
theorem MAllow1 (g : St) (now cost t u r : Int) (D : DW) (w : World) (hm : MtrAt w g now (fun _ => D)) (ok : g.Ok) (hn : g.n = 1) (hinv : Inv now D) (h0 : 0 ≤ now) (h1 : now ≤ 9223372036854775807) (hc : 1 ≤ cost) (hc' : cost ≤ 1000)
    (ht : (Lit.int .u16 t).wf = true) (hu : (Lit.int .u16 u).wf = true) (hr : (Lit.int .u16 r).wf = true) :
    Calls Try.prog 20 #[.pointer (some ⟨g.mb, 0, none⟩), .agg #[.int .u16 t, .int .u16 u, .int .u16 r], .int .i64 cost] w fun e w' =>
      e = .returned (.tuple #[.agg (repV (allowD g.p g.sl D now cost t u r).1).toArray, .int .i64 0]) ∧ MtrAt w' g now (fun _ => (allowD g.p g.sl D now cost t u r).2) ∧ Fr g.lo g.hi w w' ∧ Inv now (allowD g.p g.sl D now cost t u r).2 := by
  refine (MAllow g now cost t u r (fun _ => D) 0 w hm ok (by rw [hn]; exact Int.emod_one t) hinv h0 h1 hc hc' ht hu hr).mono ?_
  rintro e w' ⟨rfl, hm', hf, hi⟩
  refine ⟨rfl, ⟨hm'.meter, hm'.arr, fun i x hx => ?_, hm'.plan⟩, hf, hi⟩
  have hl := (List.getElem?_eq_some_iff.1 hx).1
  rw [ok.len, hn] at hl
  have h := hm'.shards i x hx
  rw [if_pos (by omega)] at h
  exact h
theorem Chg.fr2 {lo hi : Nat} {a b c : World} (h : Chg [] a b) (k : Fr lo hi b c) (hl : a.heap.size ≤ lo) : Chg [] a c :=
  ⟨k.os.trans h.os, k.tape.trans h.tape, k.output.trans h.output, Nat.le_trans h.size k.size, fun i hi' hn => (k.block i (Nat.lt_of_lt_of_le hi' h.size) (Or.inl (by omega))).trans (h.block i hi' hn)⟩

set_option maxRecDepth 100000 in
set_option maxHeartbeats 8000000 in
theorem begun_any (w : World) : Calls Try.prog 10 #[] w fun e w' => e = .returned (.bool true) ∧ Chg [] w w' := by
  have HN : Hid (∀ W, Calls Try.prog 32 #[.agg #[.int .i64 2, .int .i64 10, .int .i64 10, .int .i64 1, .int .i64 5, .int .i64 0, .int .i64 3, .int .i64 10, .int .i64 20, .slice none 0 0, .int .i64 1, .int .i64 6, .int .i64 3, .int .i64 5, .int .i64 2]] W fun e w' => ∃ g, e = .returned (.tuple #[.pointer (some ⟨g.mb, 0, none⟩), .int .i64 0]) ∧ IsNew W w' g 1 6 pB) := fun W =>
    MNew 2 10 10 1 5 0 3 10 20 6 3 5 2 1 W (qok_small (by decide) (by decide) (by decide) (by decide) (by decide) (by decide)) (qok_small (by decide) (by decide) (by decide) (by decide) (by decide) (by decide)) (qok_small (by decide) (by decide) (by decide) (by decide) (by decide) (by decide)) (by decide) (by decide) (by decide) (by decide) (by decide) (by decide) (by decide) (by decide) (by decide) (by decide)
  go_enter Try.func10, Try.ntmps10
  go_wp2_with fail
  refine (HN.out _).mono ?_
  rintro e w1 ⟨g, rfl, ok, hm1, hc1, hlo, hhi, hgn, hgs, hgp⟩
  clear HN
  have HA : Hid (∀ W D now, MtrAt W g now (fun _ => D) → Inv now D → 0 ≤ now → now ≤ 100 → Calls Try.prog 20 #[.pointer (some ⟨g.mb, 0, none⟩), .agg #[.int .u16 1, .int .u16 1, .int .u16 1], .int .i64 1] W fun e w' =>
      e = .returned (.tuple #[.agg (repV (allowD pB 6 D now 1 1 1 1).1).toArray, .int .i64 0]) ∧ MtrAt w' g now (fun _ => (allowD pB 6 D now 1 1 1 1).2) ∧ Fr g.lo g.hi W w' ∧ Inv now (allowD pB 6 D now 1 1 1 1).2) := fun W D now hW hI h0 h1 => by
    have := MAllow1 g now 1 1 1 1 D W hW ok hgn hI h0 (by omega) (by decide) (by decide) (by decide) (by decide) (by decide)
    rw [hgp, hgs] at this
    exact this
  have hcw := ((Chg.refl [] w).alloc (.cells #[.int .i64 2, .int .i64 10, .int .i64 10, .int .i64 1, .int .i64 5, .int .i64 0, .int .i64 3, .int .i64 10, .int .i64 20, .slice none 0 0, .int .i64 1, .int .i64 6, .int .i64 3, .int .i64 5, .int .i64 2] 30)).trans hc1 (by simp)
  simp at hlo
  clear hgn hgs hgp hc1
  go_wp2_with fail
  have hmW := hm1.chg0 ((Chg.refl [] w1).alloc (.cells #[.int .u16 1, .int .u16 1, .int .u16 1] 47))
  refine (HA.out _ _ _ hmW Inv.empty (by decide) (by decide)).mono ?_
  rintro e w2 ⟨rfl, hm2, f2, i2⟩
  rw [beg1]
  have k2 := f2.blk (heap_alloc_new w1 (.cells [.int .u16 1, .int .u16 1, .int .u16 1].toArray 47)) (Or.inr hhi)
  have s2 := f2.size
  simp at s2
  have c2 := (hcw.alloc _).fr2 f2 (by omega)
  have k20 := blk_cell (i := 0) k2 rfl
  have k21 := blk_cell (i := 1) k2 rfl
  have k22 := blk_cell (i := 2) k2 rfl
  have hl2 := lt_of_block k2
  clear hm1 hmW f2 hcw
  simp only [repV]
  go_wp2_with fail
  have hmW := hm2.chg0 ((Chg.refl [] w2).alloc (.cells #[.int .i64 0, .int .i64 0, .int .u64 0] 42))
  refine (HA.out _ _ _ hmW i2 (by decide) (by decide)).mono ?_
  rintro e w3 ⟨rfl, hm3, f3, i3⟩
  rw [beg2]
  have k3 := f3.blk (blk_alloc k2 _) (Or.inr (by omega))
  have a3 := f3.blk (heap_alloc_new w2 (.cells [.int .i64 0, .int .i64 0, .int .u64 0].toArray 42)) (Or.inr (by omega))
  have s3 := f3.size
  simp at s3
  have c3 := (c2.alloc _).fr2 f3 (by omega)
  clear hm2 hmW f3 c2 k2 k20 k21 k22 i2
  simp only [repV]
  go_wp2_with fail
  have hmW := hm3.chg0 ((Chg.refl [] w3).alloc (.cells #[.int .i64 1, .int .i64 1, .int .u64 5] 42))
  refine (MAdvance g 0 5 _ _ hmW ok (by decide) (by decide) (by decide) (by decide)).mono ?_
  rintro e w4 ⟨rfl, hm4, f4⟩
  have k4 := f4.blk (blk_alloc k3 _) (Or.inr (by omega))
  have a4 := f4.blk (blk_alloc a3 _) (Or.inr (by omega))
  have b4 := f4.blk (heap_alloc_new w3 (.cells [.int .i64 1, .int .i64 1, .int .u64 5].toArray 42)) (Or.inr (by omega))
  have s4 := f4.size
  simp at s4
  have c4 := (c3.alloc _).fr2 f4 (by omega)
  have i4 := i3.mono (now' := 5) (by decide)
  have k40 := blk_cell (i := 0) k4 rfl
  have k41 := blk_cell (i := 1) k4 rfl
  have k42 := blk_cell (i := 2) k4 rfl
  clear hm3 hmW f4 c3 k3 a3 i3
  rw [show min (0 + 5 : Int) 9223372036854775807 = 5 from by decide] at hm4
  go_wp2_with fail
  refine (HA.out _ _ _ hm4 i4 (by decide) (by decide)).mono ?_
  rintro e w5 ⟨rfl, hm5, f5, i5⟩
  rw [beg3]
  have a5 := f5.blk a4 (Or.inr (by omega))
  have b5 := f5.blk b4 (Or.inr (by omega))
  have s5 := f5.size
  have c5 := c4.fr2 f5 (by omega)
  have hmW := hm5.chg0 ((Chg.refl [] w5).alloc (.cells #[.int .i64 0, .int .i64 0, .int .u64 0] 42))
  clear hm4 f5 c4 k4 a4 b4 i4 i5 k40 k41 k42 hm5
  simp only [repV]
  go_wp2_with fail
  refine (MNow g 5 _ _ hmW).mono ?_
  rintro e w6 ⟨rfl, hm6, q6⟩
  have a6 := q6.blk (blk_alloc a5 _) (by simp)
  have b6 := q6.blk (blk_alloc b5 _) (by simp)
  have d6 := q6.blk (heap_alloc_new w5 (.cells [.int .i64 0, .int .i64 0, .int .u64 0].toArray 42)) (by simp)
  have a60 := blk_cell (i := 0) a6 rfl
  have b60 := blk_cell (i := 0) b6 rfl
  have b61 := blk_cell (i := 1) b6 rfl
  have b62 := blk_cell (i := 2) b6 rfl
  have d60 := blk_cell (i := 0) d6 rfl
  have c6 := (c5.alloc _).trans q6 (by simp)
  clear hm6 q6 a6 b6 d6 c5 a5 b5 hmW
  go_wp2
  go_ret
  exact ⟨rfl, c6⟩
end Go.Proofs.Ytbdnhllhdjepcaa
