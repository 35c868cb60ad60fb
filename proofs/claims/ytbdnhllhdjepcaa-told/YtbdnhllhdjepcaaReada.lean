import Derived.Test.YtbdnhllhdjepcaaRead
namespace Go.Proofs.Ytbdnhllhdjepcaa
set_option linter.unusedVariables false
set_option linter.unusedSimpArgs false
open Go.RowKit Go.Maps

theorem sv_ext (l : List UInt8) (a b : Nat) : (⟨l.toArray⟩ : ByteArray).extract a b = ⟨((l.drop a).take (b - a)).toArray⟩ := by
  apply ByteArray.ext
  rw [ByteArray.data_extract]
  simp [List.extract_eq_take_drop]
set_option maxRecDepth 100000 in
set_option maxHeartbeats 1000000 in
theorem readAllow_any (l : List UInt8) (w : World) (hl : l.length = 8) : Calls Try.prog 75 #[sv l] w fun e w' => e = .returned (.agg (rdAll l).cells.toArray) ∧ Chg [] w w' := by
  have hsz : (⟨l.toArray⟩ : ByteArray).size = 8 := by show l.toArray.size = 8; simpa using hl
  have hex := sv_ext l
  have H0 : Hid (∀ W, Calls Try.prog 76 #[sv (l.take 2)] W fun e w' => e = .returned (.int .u16 (nb (l.take 2))) ∧ w' = W) := fun W => short_any _ W (by rw [List.length_take]; omega)
  have H1 : Hid (∀ W, Calls Try.prog 76 #[sv ((l.drop 2).take 2)] W fun e w' => e = .returned (.int .u16 (nb ((l.drop 2).take 2))) ∧ w' = W) := fun W => short_any _ W (by rw [List.length_take]; omega)
  have H2 : Hid (∀ W, Calls Try.prog 76 #[sv ((l.drop 4).take 2)] W fun e w' => e = .returned (.int .u16 (nb ((l.drop 4).take 2))) ∧ w' = W) := fun W => short_any _ W (by rw [List.length_take]; omega)
  have H3 : Hid (∀ W, Calls Try.prog 76 #[sv ((l.drop 6).take 2)] W fun e w' => e = .returned (.int .u16 (nb ((l.drop 6).take 2))) ∧ w' = W) := fun W => short_any _ W (by rw [List.length_take]; omega)
  have HRD : Hid (rdAll l = if 1 ≤ nb ((l.drop 6).take 2) ∧ nb ((l.drop 6).take 2) ≤ 1000 then ⟨1, nb (l.take 2), nb ((l.drop 2).take 2), nb ((l.drop 4).take 2), nb ((l.drop 6).take 2), 0, 0, 0, 0⟩ else Cm.zero) := rfl
  have hb3 := nb_bd ((l.drop 6).take 2)
  have hb3' : 0 ≤ nb ((l.drop 6).take 2) ∧ nb ((l.drop 6).take 2) < 65536 := by
    have e : ((l.drop 6).take 2).length = 2 := by rw [List.length_take, List.length_drop]; omega
    rw [e] at hb3; simp at hb3; omega
  clear hb3
  generalize rdAll l = C at *
  generalize nb (l.take 2) = N0 at *
  generalize nb ((l.drop 2).take 2) = N1 at *
  generalize nb ((l.drop 4).take 2) = N2 at *
  generalize nb ((l.drop 6).take 2) = N3 at *
  have hwN : IntKind.i64.wrap N3 = N3 := by rw [IntKind.wrap_i64]; omega
  go_enter Try.func75, Try.ntmps75
  go_wp2_with fail
  go_region_with (go_at_call 76; first | (refine (H0.out _).mono ?_; rintro e w1 ⟨rfl, rfl⟩) | (refine (H1.out _).mono ?_; rintro e w1 ⟨rfl, rfl⟩) | (refine (H2.out _).mono ?_; rintro e w1 ⟨rfl, rfl⟩))
  all_goals
    go_wp2_with fail
    refine (H3.out _).mono ?_
    rintro e w1 ⟨rfl, rfl⟩
    by_cases hc1 : N3 < 1
    · rw [if_neg (by omega)] at HRD
      go_wp2
      exact bodyPost_ret (v := .agg C.cells.toArray) (results_cell1 rfl rfl (load117 C (by rw [HRD.out]; exact heap_alloc2_old _ _ _))) rfl ⟨rfl, (((Chg.refl _ _).alloc _).alloc _).drew⟩
    · by_cases hc2 : 1000 < N3
      · rw [if_neg (by omega)] at HRD
        go_wp2
        exact bodyPost_ret (v := .agg C.cells.toArray) (results_cell1 rfl rfl (load117 C (by rw [HRD.out]; exact heap_alloc2_old _ _ _))) rfl ⟨rfl, (((Chg.refl _ _).alloc _).alloc _).drew⟩
      · rw [if_pos (by omega)] at HRD
        go_wp2
        exact bodyPost_ret (v := .agg C.cells.toArray) (results_cell1 rfl rfl (load117 C (by rw [HRD.out]; exact heap_alloc2_old _ _ _))) rfl ⟨rfl, (((Chg.refl _ _).alloc _).alloc _).drew⟩
end Go.Proofs.Ytbdnhllhdjepcaa
