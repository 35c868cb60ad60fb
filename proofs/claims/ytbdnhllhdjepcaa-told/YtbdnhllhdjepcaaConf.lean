import Derived.Test.YtbdnhllhdjepcaaTame
namespace Go.Proofs.Ytbdnhllhdjepcaa
set_option linter.unusedVariables false
set_option linter.unusedSimpArgs false
open Go.RowKit Go.Maps

theorem load30 {W : World} {b : Nat} {v0 v1 v2 v3 v4 v5 v6 v7 v8 v10 v11 v12 v13 v14 : Int} (h : W.heap[b]? = some (.cells [.int .i64 v0, .int .i64 v1, .int .i64 v2, .int .i64 v3, .int .i64 v4, .int .i64 v5, .int .i64 v6, .int .i64 v7, .int .i64 v8, .slice none 0 0, .int .i64 v10, .int .i64 v11, .int .i64 v12, .int .i64 v13, .int .i64 v14].toArray 30 (0, 0))) :
    (loadVar 30 ⟨b, 0, none⟩).run Try.prog W = .ok (.agg #[.int .i64 v0, .int .i64 v1, .int .i64 v2, .int .i64 v3, .int .i64 v4, .int .i64 v5, .int .i64 v6, .int .i64 v7, .int .i64 v8, .slice none 0 0, .int .i64 v10, .int .i64 v11, .int .i64 v12, .int .i64 v13, .int .i64 v14]) W := by
  have c0 := blk_cell (i := 0) h rfl
  have c1 := blk_cell (i := 1) h rfl
  have c2 := blk_cell (i := 2) h rfl
  have c3 := blk_cell (i := 3) h rfl
  have c4 := blk_cell (i := 4) h rfl
  have c5 := blk_cell (i := 5) h rfl
  have c6 := blk_cell (i := 6) h rfl
  have c7 := blk_cell (i := 7) h rfl
  have c8 := blk_cell (i := 8) h rfl
  have c9 := blk_cell (i := 9) h rfl
  have c10 := blk_cell (i := 10) h rfl
  have c11 := blk_cell (i := 11) h rfl
  have c12 := blk_cell (i := 12) h rfl
  have c13 := blk_cell (i := 13) h rfl
  have c14 := blk_cell (i := 14) h rfl
  simp [go_sem, c0, c1, c2, c3, c4, c5, c6, c7, c8, c9, c10, c11, c12, c13, c14]

set_option maxRecDepth 100000 in
set_option maxHeartbeats 4000000 in
theorem conf_any (a0 a1 a2 b0 b1 b2 c0 c1 c2 sh sl : Int) (w : World) (ha : I64 a0 ∧ I64 a1 ∧ I64 a2) (hb : I64 b0 ∧ I64 b1 ∧ I64 b2) (hc : I64 c0 ∧ I64 c1 ∧ I64 c2) :
    Calls Try.prog 11 #[.agg #[.int .i64 a0, .int .i64 a1, .int .i64 a2], .agg #[.int .i64 b0, .int .i64 b1, .int .i64 b2], .agg #[.int .i64 c0, .int .i64 c1, .int .i64 c2], .int .i64 sh, .int .i64 sl] w fun e w' =>
      e = .returned (.agg #[.int .i64 (1 + pk a0 9), .int .i64 (1 + pk a1 60), .int .i64 (pk a2 201), .int .i64 (1 + pk b0 9), .int .i64 (1 + pk b1 60), .int .i64 (pk b2 201), .int .i64 (1 + pk c0 9), .int .i64 (1 + pk c1 60), .int .i64 (pk c2 201), .slice none 0 0, .int .i64 sh, .int .i64 sl, .int .i64 3, .int .i64 20, .int .i64 5]) ∧ Chg [] w w' := by
  have HA := fun W => quota_any a0 a1 a2 W ha.1 ha.2.1 ha.2.2
  have HB := fun W => quota_any b0 b1 b2 W hb.1 hb.2.1 hb.2.2
  have HC := fun W => quota_any c0 c1 c2 W hc.1 hc.2.1 hc.2.2
  generalize 1 + pk a0 9 = x0 at *
  generalize 1 + pk a1 60 = x1 at *
  generalize pk a2 201 = x2 at *
  generalize 1 + pk b0 9 = y0 at *
  generalize 1 + pk b1 60 = y1 at *
  generalize pk b2 201 = y2 at *
  generalize 1 + pk c0 9 = z0 at *
  generalize 1 + pk c1 60 = z1 at *
  generalize pk c2 201 = z2 at *
  have HA' : Hid _ := HA
  have HB' : Hid _ := HB
  have HC' : Hid _ := HC
  obtain ⟨w0, hw0⟩ : ∃ w0, w0 = (((w.alloc (.cells [.int .i64 a0, .int .i64 a1, .int .i64 a2].toArray 23)).alloc (.cells [.int .i64 b0, .int .i64 b1, .int .i64 b2].toArray 23)).alloc (.cells [.int .i64 c0, .int .i64 c1, .int .i64 c2].toArray 23)).alloc (.cells [.int .i64 0, .int .i64 0, .int .i64 0, .int .i64 0, .int .i64 0, .int .i64 0, .int .i64 0, .int .i64 0, .int .i64 0, .slice none 0 0, .int .i64 0, .int .i64 0, .int .i64 0, .int .i64 0, .int .i64 0].toArray 30) := ⟨_, rfl⟩
  have g0 : w0.heap[w.heap.size]? = some (.cells [.int .i64 a0, .int .i64 a1, .int .i64 a2].toArray 23 (0, 0)) := hw0 ▸ blk_alloc (blk_alloc (heap_alloc2_old _ _ _) _) _
  have g1 : w0.heap[w.heap.size + 1]? = some (.cells [.int .i64 b0, .int .i64 b1, .int .i64 b2].toArray 23 (0, 0)) := hw0 ▸ blk_alloc (blk_alloc (heap_alloc2_new _ _ _) _) _
  have g2 : w0.heap[w.heap.size + 2]? = some (.cells [.int .i64 c0, .int .i64 c1, .int .i64 c2].toArray 23 (0, 0)) := by
    rw [hw0]
    have := heap_alloc2_new (w.alloc (.cells [.int .i64 a0, .int .i64 a1, .int .i64 a2].toArray 23)) (.cells [.int .i64 b0, .int .i64 b1, .int .i64 b2].toArray 23) (.cells [.int .i64 c0, .int .i64 c1, .int .i64 c2].toArray 23)
    exact blk_alloc (by simpa using this) _
  have g3 : w0.heap[w.heap.size + 3]? = some (.cells [.int .i64 0, .int .i64 0, .int .i64 0, .int .i64 0, .int .i64 0, .int .i64 0, .int .i64 0, .int .i64 0, .int .i64 0, .slice none 0 0, .int .i64 0, .int .i64 0, .int .i64 0, .int .i64 0, .int .i64 0].toArray 30 (0, 0)) := by
    rw [hw0]
    have := heap_alloc2_new ((w.alloc (.cells [.int .i64 a0, .int .i64 a1, .int .i64 a2].toArray 23)).alloc (.cells [.int .i64 b0, .int .i64 b1, .int .i64 b2].toArray 23)) (.cells [.int .i64 c0, .int .i64 c1, .int .i64 c2].toArray 23) (.cells [.int .i64 0, .int .i64 0, .int .i64 0, .int .i64 0, .int .i64 0, .int .i64 0, .int .i64 0, .int .i64 0, .int .i64 0, .slice none 0 0, .int .i64 0, .int .i64 0, .int .i64 0, .int .i64 0, .int .i64 0].toArray 30)
    simpa using this
  have hc0 : Chg [] w w0 := hw0 ▸ ((((Chg.refl _ _).alloc _).alloc _).alloc _).alloc _
  have HW0 : Hid (w0 = (((w.alloc (.cells [.int .i64 a0, .int .i64 a1, .int .i64 a2].toArray 23)).alloc (.cells [.int .i64 b0, .int .i64 b1, .int .i64 b2].toArray 23)).alloc (.cells [.int .i64 c0, .int .i64 c1, .int .i64 c2].toArray 23)).alloc (.cells [.int .i64 0, .int .i64 0, .int .i64 0, .int .i64 0, .int .i64 0, .int .i64 0, .int .i64 0, .int .i64 0, .int .i64 0, .slice none 0 0, .int .i64 0, .int .i64 0, .int .i64 0, .int .i64 0, .int .i64 0].toArray 30)) := hw0
  have HS : Hid (∀ W, Chg [w.heap.size + 3] w0 W → (W.cell? ⟨w.heap.size, 0, none⟩ = some (.int .i64 a0) ∧ W.cell? ⟨w.heap.size, 1, none⟩ = some (.int .i64 a1) ∧ W.cell? ⟨w.heap.size, 2, none⟩ = some (.int .i64 a2) ∧ W.cell? ⟨w.heap.size + 1, 0, none⟩ = some (.int .i64 b0) ∧ W.cell? ⟨w.heap.size + 1, 1, none⟩ = some (.int .i64 b1) ∧ W.cell? ⟨w.heap.size + 1, 2, none⟩ = some (.int .i64 b2) ∧ W.cell? ⟨w.heap.size + 2, 0, none⟩ = some (.int .i64 c0) ∧ W.cell? ⟨w.heap.size + 2, 1, none⟩ = some (.int .i64 c1) ∧ W.cell? ⟨w.heap.size + 2, 2, none⟩ = some (.int .i64 c2))) := fun W hW => by
    have k0 := hW.blk g0 (by simp <;> omega)
    have k1 := hW.blk g1 (by simp <;> omega)
    have k2 := hW.blk g2 (by simp <;> omega)
    exact ⟨blk_cell k0 rfl, blk_cell k0 rfl, blk_cell k0 rfl, blk_cell k1 rfl, blk_cell k1 rfl, blk_cell k1 rfl, blk_cell k2 rfl, blk_cell k2 rfl, blk_cell k2 rfl⟩
  have HG : Hid (w0.heap[w.heap.size + 3]? = some (.cells [.int .i64 0, .int .i64 0, .int .i64 0, .int .i64 0, .int .i64 0, .int .i64 0, .int .i64 0, .int .i64 0, .int .i64 0, .slice none 0 0, .int .i64 0, .int .i64 0, .int .i64 0, .int .i64 0, .int .i64 0].toArray 30 (0, 0))) := g3
  clear HA HB HC hw0 g0 g1 g2 g3
  have v0 : Chg [w.heap.size + 3] w0 w0.drew := (Chg.refl _ _).drew
  go_enter Try.func11, Try.ntmps11
  go_wp2_with fail
  rw [show (((w.alloc (.cells #[.int .i64 a0, .int .i64 a1, .int .i64 a2] 23)).alloc (.cells #[.int .i64 b0, .int .i64 b1, .int .i64 b2] 23)).alloc (.cells #[.int .i64 c0, .int .i64 c1, .int .i64 c2] 23)).alloc (.cells #[.int .i64 0, .int .i64 0, .int .i64 0, .int .i64 0, .int .i64 0, .int .i64 0, .int .i64 0, .int .i64 0, .int .i64 0, .slice none 0 0, .int .i64 0, .int .i64 0, .int .i64 0, .int .i64 0, .int .i64 0] 30) = w0 from HW0.out.symm]
  go_region_held3 (fun W => W.cell? ⟨w.heap.size, 0, none⟩ = some (.int .i64 a0) ∧ W.cell? ⟨w.heap.size, 1, none⟩ = some (.int .i64 a1) ∧ W.cell? ⟨w.heap.size, 2, none⟩ = some (.int .i64 a2) ∧ W.cell? ⟨w.heap.size + 1, 0, none⟩ = some (.int .i64 b0) ∧ W.cell? ⟨w.heap.size + 1, 1, none⟩ = some (.int .i64 b1) ∧ W.cell? ⟨w.heap.size + 1, 2, none⟩ = some (.int .i64 b2) ∧ W.cell? ⟨w.heap.size + 2, 0, none⟩ = some (.int .i64 c0) ∧ W.cell? ⟨w.heap.size + 2, 1, none⟩ = some (.int .i64 c1) ∧ W.cell? ⟨w.heap.size + 2, 2, none⟩ = some (.int .i64 c2))
    (first | with_reducible exact HS.out _ v3 | with_reducible exact HS.out _ v2 | with_reducible exact HS.out _ v1 | with_reducible exact HS.out _ v0 | with_reducible exact HS.out _ (((((((((((((((v3.set _ _ (Or.inl (by simp))).set _ _ (Or.inl (by simp))).set _ _ (Or.inl (by simp))).set _ _ (Or.inl (by simp))).set _ _ (Or.inl (by simp))).set _ _ (Or.inl (by simp))).set _ _ (Or.inl (by simp))).set _ _ (Or.inl (by simp))).set _ _ (Or.inl (by simp))).set _ _ (Or.inl (by simp))).set _ _ (Or.inl (by simp))).set _ _ (Or.inl (by simp))).set _ _ (Or.inl (by simp))).set _ _ (Or.inl (by simp))).set _ _ (Or.inl (by simp))))
    (first | (go_at_call_of 33 (Value.int IntKind.i64 a0); refine (HA'.out _).mono ?_; rintro e w1 ⟨rfl, q1⟩; have v1 : Chg [w.heap.size + 3] w0 w1 := v0.trans q1 (by simp)) | (go_at_call_of 33 (Value.int IntKind.i64 b0); refine (HB'.out _).mono ?_; rintro e w2 ⟨rfl, q2⟩; have v2 : Chg [w.heap.size + 3] w0 w2 := v1.trans q2 (by simp)) | (go_at_call_of 33 (Value.int IntKind.i64 c0); refine (HC'.out _).mono ?_; rintro e w3 ⟨rfl, q3⟩; have v3 : Chg [w.heap.size + 3] w0 w3 := v2.trans q3 (by simp); have m3 := (((((Chg.refl [] w0).drew).trans q1 (by simp)).trans q2 (by simp)).trans q3 (by simp)).blk HG.out (by simp); have e0 := blk_cell (i := 0) m3 rfl; have e1 := blk_cell (i := 1) m3 rfl; have e2 := blk_cell (i := 2) m3 rfl; have e3 := blk_cell (i := 3) m3 rfl; have e4 := blk_cell (i := 4) m3 rfl; have e5 := blk_cell (i := 5) m3 rfl; have e6 := blk_cell (i := 6) m3 rfl; have e7 := blk_cell (i := 7) m3 rfl; have e8 := blk_cell (i := 8) m3 rfl; have e9 := blk_cell (i := 9) m3 rfl; have e10 := blk_cell (i := 10) m3 rfl; have e11 := blk_cell (i := 11) m3 rfl; have e12 := blk_cell (i := 12) m3 rfl; have e13 := blk_cell (i := 13) m3 rfl; have e14 := blk_cell (i := 14) m3 rfl; have f3 : ∀ i, w3.frozen? ⟨w.heap.size + 3, i, none⟩ = false := fun i => blk_free m3))
  have hcf : Chg [] w w3 := (((hc0.drew).trans q1 (by simp)).trans q2 (by simp)).trans q3 (by simp)
  go_wp2
  have rr := blk_set (i := 14) (.int .i64 5) (blk_set (i := 13) (.int .i64 20) (blk_set (i := 12) (.int .i64 3) (blk_set (i := 11) (.int .i64 sl) (blk_set (i := 10) (.int .i64 sh) (blk_set (i := 9) (.slice none 0 0) (blk_set (i := 8) (.int .i64 z2) (blk_set (i := 7) (.int .i64 z1) (blk_set (i := 6) (.int .i64 z0) (blk_set (i := 5) (.int .i64 y2) (blk_set (i := 4) (.int .i64 y1) (blk_set (i := 3) (.int .i64 y0) (blk_set (i := 2) (.int .i64 x2) (blk_set (i := 1) (.int .i64 x1) (blk_set (i := 0) (.int .i64 x0) m3))))))))))))))
  refine bodyPost_ret (v := .agg #[.int .i64 x0, .int .i64 x1, .int .i64 x2, .int .i64 y0, .int .i64 y1, .int .i64 y2, .int .i64 z0, .int .i64 z1, .int .i64 z2, .slice none 0 0, .int .i64 sh, .int .i64 sl, .int .i64 3, .int .i64 20, .int .i64 5]) (results_cell1 rfl rfl (load30 rr)) rfl ⟨rfl, (((((((((((((((hcf).set _ _ (Or.inr (by dsimp only; omega))).set _ _ (Or.inr (by dsimp only; omega))).set _ _ (Or.inr (by dsimp only; omega))).set _ _ (Or.inr (by dsimp only; omega))).set _ _ (Or.inr (by dsimp only; omega))).set _ _ (Or.inr (by dsimp only; omega))).set _ _ (Or.inr (by dsimp only; omega))).set _ _ (Or.inr (by dsimp only; omega))).set _ _ (Or.inr (by dsimp only; omega))).set _ _ (Or.inr (by dsimp only; omega))).set _ _ (Or.inr (by dsimp only; omega))).set _ _ (Or.inr (by dsimp only; omega))).set _ _ (Or.inr (by dsimp only; omega))).set _ _ (Or.inr (by dsimp only; omega))).set _ _ (Or.inr (by dsimp only; omega))⟩
end Go.Proofs.Ytbdnhllhdjepcaa
