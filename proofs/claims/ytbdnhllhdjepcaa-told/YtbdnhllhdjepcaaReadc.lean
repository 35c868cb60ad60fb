import Derived.Test.YtbdnhllhdjepcaaReada
namespace Go.Proofs.Ytbdnhllhdjepcaa
set_option linter.unusedVariables false
set_option linter.unusedSimpArgs false
open Go.RowKit Go.Maps

def rdSub (l : List UInt8) : Cm := ⟨2, 0, 0, 0, 0, nb (l.take 2), nb ((l.drop 2).take 4), 0, 0⟩
def rdPol (l : List UInt8) : Cm := ⟨3, 0, 0, 0, 0, 0, 0, nb l, 0⟩
/-- what a text says -/
def rd (b : UInt8) (l : List UInt8) : Cm :=
  if b.toNat = 1 ∧ l.length = 8 then rdAll l else if b.toNat = 2 ∧ l.length = 6 then rdSub l else if b.toNat = 3 ∧ l.length = 1 then rdPol l else if b.toNat = 4 ∧ l.length = 8 then rdAdv l else Cm.zero
set_option maxRecDepth 100000 in
set_option maxHeartbeats 1000000 in
theorem read_nil (w : World) : Calls Try.prog 45 #[sv []] w fun e w' => e = .returned (.agg Cm.zero.cells.toArray) ∧ Chg [] w w' := by
  go_enter Try.func45, Try.ntmps45
  go_wp2
  exact bodyPost_ret (v := .agg Cm.zero.cells.toArray) (results_cell1 rfl rfl (load117 Cm.zero (heap_alloc_new w _))) rfl ⟨rfl, (Chg.refl _ _).alloc _⟩
set_option maxRecDepth 100000 in
set_option maxHeartbeats 2000000 in
theorem read_cons (b : UInt8) (l : List UInt8) (w : World) (hl : l.length ≤ 9223372036854775806) : Calls Try.prog 45 #[sv (b :: l)] w fun e w' => e = .returned (.agg (rd b l).cells.toArray) ∧ Chg [] w w' := by
  have hsz : (⟨(b :: l).toArray⟩ : ByteArray).size = l.length + 1 := by show (b :: l).toArray.size = _; simp
  have hsl : (⟨l.toArray⟩ : ByteArray).size = l.length := by show l.toArray.size = _; simp
  have hex : (⟨(b :: l).toArray⟩ : ByteArray).extract 1 (l.length + 1) = ⟨l.toArray⟩ := by rw [sv_ext]; simp
  have hg0 : ∀ h : 0 < (⟨(b :: l).toArray⟩ : ByteArray).size, (⟨(b :: l).toArray⟩ : ByteArray)[0]'h = b := fun _ => rfl
  obtain ⟨L, hL⟩ : ∃ L, L = b :: l := ⟨_, rfl⟩
  rw [← hL] at hsz hex hg0 ⊢
  have HRD : Hid (rd b l = if b.toNat = 1 ∧ l.length = 8 then rdAll l else if b.toNat = 2 ∧ l.length = 6 then rdSub l else if b.toNat = 3 ∧ l.length = 1 then rdPol l else if b.toNat = 4 ∧ l.length = 8 then rdAdv l else Cm.zero) := rfl
  generalize rd b l = C at *
  clear hL
  have hbb := b.toNat_lt
  obtain ⟨k, hk⟩ : ∃ k : Nat, b.toNat = k := ⟨_, rfl⟩
  rw [hk] at HRD hbb
  have hwk : IntKind.i64.wrap (k : Int) = k := by rw [IntKind.wrap_i64]; omega
  go_enter Try.func45, Try.ntmps45
  go_wp2_with fail
  go_region
  obtain ⟨n, hn⟩ : ∃ n, n = l.length := ⟨_, rfl⟩
  rw [← hn] at hsz hsl hex hl HRD
  have HN : Hid (n = l.length) := hn
  clear hn hg0 hk
  by_cases c1 : k = 1 ∧ n = 8
  · rw [if_pos c1] at HRD
    obtain ⟨rfl, rfl⟩ := c1
    have h8 : l.length = 8 := HN.out.symm
    clear hwk hbb
    have HC : Hid (∀ W, Calls Try.prog 75 #[sv l] W fun e w' => e = .returned (.agg #[.int .i64 C.k, .int .u16 C.t, .int .u16 C.u, .int .u16 C.r, .int .i64 C.c, .int .u16 C.n, .int .u32 C.x, .int .i64 C.m, .int .u64 C.s]) ∧ Chg [] W w') := fun W => by
      have := readAllow_any l W (by omega)
      rw [← HRD.out] at this
      exact this
    go_wp2_with fail
    refine (HC.out _).mono ?_
    rintro e w1 ⟨rfl, q1⟩
    have z : w1.heap[w.heap.size]? = some (.cells [.int .i64 0, .int .u16 0, .int .u16 0, .int .u16 0, .int .i64 0, .int .u16 0, .int .u32 0, .int .i64 0, .int .u64 0].toArray 117 (0, 0)) := q1.blk (b := w.heap.size) (heap_alloc_new w _) (by simp)
    have hcA : Chg [] w w1 := (((Chg.refl [] w).alloc _).drew).trans q1 (by simp)
    have z0 := blk_cell (i := 0) z rfl
    have z1 := blk_cell (i := 1) z rfl
    have z2 := blk_cell (i := 2) z rfl
    have z3 := blk_cell (i := 3) z rfl
    have z4 := blk_cell (i := 4) z rfl
    have z5 := blk_cell (i := 5) z rfl
    have z6 := blk_cell (i := 6) z rfl
    have z7 := blk_cell (i := 7) z rfl
    have z8 := blk_cell (i := 8) z rfl
    have zf : ∀ i, w1.frozen? ⟨w.heap.size, i, none⟩ = false := fun i => blk_free z
    go_wp2
    exact bodyPost_ret (v := .agg C.cells.toArray) (results_cell1 rfl rfl (load117 C (blk_set (i := 8) (.int .u64 C.s) (blk_set (i := 7) (.int .i64 C.m) (blk_set (i := 6) (.int .u32 C.x) (blk_set (i := 5) (.int .u16 C.n) (blk_set (i := 4) (.int .i64 C.c) (blk_set (i := 3) (.int .u16 C.r) (blk_set (i := 2) (.int .u16 C.u) (blk_set (i := 1) (.int .u16 C.t) (blk_set (i := 0) (.int .i64 C.k) z))))))))))) rfl ⟨rfl, (((((((((hcA.set ⟨w.heap.size, 0, none⟩ (.int .i64 C.k) (Or.inr (by dsimp only; omega))).set ⟨w.heap.size, 1, none⟩ (.int .u16 C.t) (Or.inr (by dsimp only; omega))).set ⟨w.heap.size, 2, none⟩ (.int .u16 C.u) (Or.inr (by dsimp only; omega))).set ⟨w.heap.size, 3, none⟩ (.int .u16 C.r) (Or.inr (by dsimp only; omega))).set ⟨w.heap.size, 4, none⟩ (.int .i64 C.c) (Or.inr (by dsimp only; omega))).set ⟨w.heap.size, 5, none⟩ (.int .u16 C.n) (Or.inr (by dsimp only; omega))).set ⟨w.heap.size, 6, none⟩ (.int .u32 C.x) (Or.inr (by dsimp only; omega))).set ⟨w.heap.size, 7, none⟩ (.int .i64 C.m) (Or.inr (by dsimp only; omega))).set ⟨w.heap.size, 8, none⟩ (.int .u64 C.s) (Or.inr (by dsimp only; omega)))⟩
  · rw [if_neg c1] at HRD
    by_cases c2 : k = 2 ∧ n = 6
    · rw [if_pos c2] at HRD
      obtain ⟨rfl, rfl⟩ := c2
      have h6 : l.length = 6 := HN.out.symm
      have hexl := sv_ext l
      have H0 : Hid (∀ W, Calls Try.prog 76 #[sv (l.take 2)] W fun e w' => e = .returned (.int .u16 (nb (l.take 2))) ∧ w' = W) := fun W => short_any _ W (by rw [List.length_take]; omega)
      have H1 : Hid (∀ W, Calls Try.prog 77 #[sv ((l.drop 2).take 4)] W fun e w' => e = .returned (.int .u64 (nb ((l.drop 2).take 4))) ∧ w' = W) := fun W => number_any _ W (by rw [List.length_take]; omega)
      have hb := nb_bd ((l.drop 2).take 4)
      have e4 : ((l.drop 2).take 4).length = 4 := by rw [List.length_take, List.length_drop]; omega
      rw [e4] at hb
      simp at hb
      unfold rdSub at HRD
      generalize nb (l.take 2) = N0 at *
      generalize nb ((l.drop 2).take 4) = N1 at *
      have hw4 : IntKind.u32.wrap N1 = N1 := by rw [IntKind.wrap_u32]; omega
      clear hwk hbb e4
      go_wp2_with fail
      go_region_with (first | (go_at_call 76; refine (H0.out _).mono ?_; rintro e w1 ⟨rfl, rfl⟩) | (go_at_call 77; refine (H1.out _).mono ?_; rintro e w1 ⟨rfl, rfl⟩))
      all_goals
        go_wp2
        exact bodyPost_ret (v := .agg C.cells.toArray) (results_cell1 rfl rfl (load117 C (by rw [HRD.out]; first | exact heap_alloc_new w _))) rfl ⟨rfl, by first | exact ((Chg.refl _ _).alloc _).drew | exact (((Chg.refl _ _).alloc _).drew).drew⟩
    · rw [if_neg c2] at HRD
      by_cases c3 : k = 3 ∧ n = 1
      · rw [if_pos c3] at HRD
        obtain ⟨rfl, rfl⟩ := c3
        obtain ⟨b0, rfl⟩ : ∃ b0, l = [b0] := List.length_eq_one_iff.1 HN.out.symm
        have hg1 : ∀ h : 0 < (⟨[b0].toArray⟩ : ByteArray).size, (⟨[b0].toArray⟩ : ByteArray)[0]'h = b0 := fun _ => rfl
        have hb0 := b0.toNat_lt
        have hw0 : IntKind.i64.wrap (b0.toNat : Int) = b0.toNat := by rw [IntKind.wrap_i64]; omega
        have e1 : rdPol [b0] = ⟨3, 0, 0, 0, 0, 0, 0, (b0.toNat : Int), 0⟩ := by simp [rdPol, nb]
        rw [e1] at HRD
        clear hwk hbb e1
        go_wp2
        exact bodyPost_ret (v := .agg C.cells.toArray) (results_cell1 rfl rfl (load117 C (by rw [HRD.out]; first | exact heap_alloc_new w _))) rfl ⟨rfl, by first | exact ((Chg.refl _ _).alloc _).drew | exact (((Chg.refl _ _).alloc _).drew).drew⟩
      · rw [if_neg c3] at HRD
        by_cases c4 : k = 4 ∧ n = 8
        · rw [if_pos c4] at HRD
          obtain ⟨rfl, rfl⟩ := c4
          have h8 : l.length = 8 := HN.out.symm
          clear hwk hbb
          have HC : Hid (∀ W, Calls Try.prog 78 #[sv l] W fun e w' => e = .returned (.agg #[.int .i64 C.k, .int .u16 C.t, .int .u16 C.u, .int .u16 C.r, .int .i64 C.c, .int .u16 C.n, .int .u32 C.x, .int .i64 C.m, .int .u64 C.s]) ∧ Chg [] W w') := fun W => by
            have := readAdvance_any l W (by omega)
            rw [← HRD.out] at this
            exact this
          go_wp2_with fail
          refine (HC.out _).mono ?_
          rintro e w1 ⟨rfl, q1⟩
          have z : w1.heap[w.heap.size]? = some (.cells [.int .i64 0, .int .u16 0, .int .u16 0, .int .u16 0, .int .i64 0, .int .u16 0, .int .u32 0, .int .i64 0, .int .u64 0].toArray 117 (0, 0)) := q1.blk (b := w.heap.size) (heap_alloc_new w _) (by simp)
          have hcA : Chg [] w w1 := (((Chg.refl [] w).alloc _).drew).trans q1 (by simp)
          have z0 := blk_cell (i := 0) z rfl
          have z1 := blk_cell (i := 1) z rfl
          have z2 := blk_cell (i := 2) z rfl
          have z3 := blk_cell (i := 3) z rfl
          have z4 := blk_cell (i := 4) z rfl
          have z5 := blk_cell (i := 5) z rfl
          have z6 := blk_cell (i := 6) z rfl
          have z7 := blk_cell (i := 7) z rfl
          have z8 := blk_cell (i := 8) z rfl
          have zf : ∀ i, w1.frozen? ⟨w.heap.size, i, none⟩ = false := fun i => blk_free z
          go_wp2
          exact bodyPost_ret (v := .agg C.cells.toArray) (results_cell1 rfl rfl (load117 C (blk_set (i := 8) (.int .u64 C.s) (blk_set (i := 7) (.int .i64 C.m) (blk_set (i := 6) (.int .u32 C.x) (blk_set (i := 5) (.int .u16 C.n) (blk_set (i := 4) (.int .i64 C.c) (blk_set (i := 3) (.int .u16 C.r) (blk_set (i := 2) (.int .u16 C.u) (blk_set (i := 1) (.int .u16 C.t) (blk_set (i := 0) (.int .i64 C.k) z))))))))))) rfl ⟨rfl, (((((((((hcA.set ⟨w.heap.size, 0, none⟩ (.int .i64 C.k) (Or.inr (by dsimp only; omega))).set ⟨w.heap.size, 1, none⟩ (.int .u16 C.t) (Or.inr (by dsimp only; omega))).set ⟨w.heap.size, 2, none⟩ (.int .u16 C.u) (Or.inr (by dsimp only; omega))).set ⟨w.heap.size, 3, none⟩ (.int .u16 C.r) (Or.inr (by dsimp only; omega))).set ⟨w.heap.size, 4, none⟩ (.int .i64 C.c) (Or.inr (by dsimp only; omega))).set ⟨w.heap.size, 5, none⟩ (.int .u16 C.n) (Or.inr (by dsimp only; omega))).set ⟨w.heap.size, 6, none⟩ (.int .u32 C.x) (Or.inr (by dsimp only; omega))).set ⟨w.heap.size, 7, none⟩ (.int .i64 C.m) (Or.inr (by dsimp only; omega))).set ⟨w.heap.size, 8, none⟩ (.int .u64 C.s) (Or.inr (by dsimp only; omega)))⟩
        · rw [if_neg c4] at HRD
          rcases (by omega : (k ≠ 1 ∧ k ≠ 2 ∧ k ≠ 3 ∧ k ≠ 4) ∨ (k = 1 ∧ n ≠ 8) ∨ (k = 2 ∧ n ≠ 6) ∨ (k = 3 ∧ n ≠ 1) ∨ (k = 4 ∧ n ≠ 8)) with ⟨p1, p2, p3, p4⟩ | ⟨rfl, p⟩ | ⟨rfl, p⟩ | ⟨rfl, p⟩ | ⟨rfl, p⟩
          · have o1 : ((k : Int) == 1) = false := by simp; omega
            have o2 : ((k : Int) == 2) = false := by simp; omega
            have o3 : ((k : Int) == 3) = false := by simp; omega
            have o4 : ((k : Int) == 4) = false := by simp; omega
            clear hwk hbb
            go_wp2
            exact bodyPost_ret (v := .agg C.cells.toArray) (results_cell1 rfl rfl (load117 C (by rw [HRD.out]; first | exact heap_alloc_new w _))) rfl ⟨rfl, by first | exact ((Chg.refl _ _).alloc _).drew | exact (((Chg.refl _ _).alloc _).drew).drew⟩
          all_goals
            have o8 : ((n : Int) == 8) = decide (n = 8) := by rw [Bool.eq_iff_iff]; simp; omega
            have o6 : ((n : Int) == 6) = decide (n = 6) := by rw [Bool.eq_iff_iff]; simp; omega
            have o1 : ((n : Int) == 1) = decide (n = 1) := by rw [Bool.eq_iff_iff]; simp; omega
            have p' : decide (n = 8) = decide (n = 8) := rfl
            clear hwk hbb p'
            go_wp2
            exact bodyPost_ret (v := .agg C.cells.toArray) (results_cell1 rfl rfl (load117 C (by rw [HRD.out]; first | exact heap_alloc_new w _))) rfl ⟨rfl, by first | exact ((Chg.refl _ _).alloc _).drew | exact (((Chg.refl _ _).alloc _).drew).drew⟩
end Go.Proofs.Ytbdnhllhdjepcaa
