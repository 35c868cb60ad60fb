import Derived.Test.YtbdnhllhdjepcaaGreatCReadc
namespace Go.Proofs.YtbdnhllhdjepcaaGreat
set_option linter.unusedVariables false
set_option linter.unusedSimpArgs false
open Go.RowKit Go.Maps

/-! ### the document's numbers in texts -/
set_option maxRecDepth 100000 in
set_option maxHeartbeats 1000000 in
theorem read_ref (l : List UInt8) (w : World) (hl : l.length ≤ 8) : Calls Tryz.prog 90 #[sv l] w fun e w' => e = .returned (.int .u64 (nb l)) ∧ w' = w := by
  have hsz : (⟨l.toArray⟩ : ByteArray).size = l.length := by show l.toArray.size = l.length; simp
  go_enter Tryz.func90, Tryz.ntmps90
  go_wp2_with fail
  go_loopw [3, 4] (fun n ix wr => ∃ j : Nat, j ≤ l.length ∧ ix = .int .i64 j ∧ n = .int .u64 (nb (l.take j)) ∧ wr = w) (fun _ ix _ => l.length - (intOf ix).toNat)
  case atStart => exact ⟨0, by omega, rfl, rfl, rfl⟩
  case round =>
    obtain ⟨j, hj, rfl, rfl, rfl⟩ := hrel
    by_cases hlt : j < l.length
    · have hjj : (j : Int) < (l.length : Int) := by omega
      have HTK : Hid (nb (l.take (j + 1)) = nb (l.take j) * 256 + (l[j].toNat : Int)) := nb_take l j hlt
      have hb0 := (nb_bd (l.take j)).1
      have hb7 := nb7 (l := l.take j) (by rw [List.length_take]; omega)
      have hby : (l[j].toNat : Int) < 256 := by have := l[j].toNat_lt; omega
      have hw1 : IntKind.u64.wrap (nb (l.take j) * 256) = nb (l.take j) * 256 := by rw [IntKind.wrap_u64]; omega
      have hw2 : IntKind.u64.wrap (l[j].toNat : Int) = (l[j].toNat : Int) := by rw [IntKind.wrap_u64]; omega
      have hw3 : IntKind.u64.wrap (nb (l.take j) * 256 + (l[j].toNat : Int)) = nb (l.take j) * 256 + (l[j].toNat : Int) := by rw [IntKind.wrap_u64]; omega
      go_wp2_with fail
      refine ⟨⟨j + 1, by omega, by go_num, ?_, trivial⟩, by simp [intOf]; omega⟩
      rw [HTK.out]
      simp only [ba_get]
      first | rw [hw3] | rw [hw1, hw2, hw3] | rw [hw2, hw3] | rfl
    · have hjl : j = l.length := by omega
      subst hjl
      go_wp2
      go_ret
      exact ⟨congrArg (fun y => Ending.returned (Value.int .u64 (nb y))) List.take_length, rfl⟩
set_option maxRecDepth 100000 in
set_option maxHeartbeats 1000000 in
theorem write_ref : ∀ (k : Nat) (n : Int) (w : World), k ≤ 8 → 0 ≤ n → n ≤ 18446744073709551615 → Calls Tryz.prog 91 #[.int .u64 n, .int .i64 k] w fun e w' => e = .returned (sv (be n k)) ∧ Chg [] w w'
  | 0, n, w, _, _, _ => by
    go_enter Tryz.func91, Tryz.ntmps91
    go_wp2
    go_ret
    exact ⟨rfl, Chg.refl _ _⟩
  | k + 1, n, w, hk, h0, h1 => by
    have ih := fun W => write_ref k (n / 256) W (by omega) (by omega) (by omega)
    have HIH : Hid (∀ W, Calls Tryz.prog 91 #[.int .u64 (n / 256), .int .i64 k] W fun e w' => e = .returned (sv (be (n / 256) k)) ∧ Chg [] W w') := ih
    have hkz : ¬ ((k : Int) + 1 = 0) := by omega
    clear ih
    go_enter Tryz.func91, Tryz.ntmps91
    have htd : Int.tdiv n 256 = n / 256 := Int.tdiv_eq_ediv_of_nonneg h0
    have htm : Int.tmod n 256 = n % 256 := Int.tmod_eq_emod_of_nonneg h0
    have hw8 : IntKind.u8.wrap (n % 256) = n % 256 := by rw [IntKind.wrap_u8]; omega
    have hwq : IntKind.u64.wrap (n / 256) = n / 256 := by rw [IntKind.wrap_u64]; omega
    have hwr : IntKind.u64.wrap (n % 256) = n % 256 := by rw [IntKind.wrap_u64]; omega
    have hwk : IntKind.i64.wrap (k : Int) = k := by rw [IntKind.wrap_i64]; omega
    have hm : 0 ≤ n % 256 ∧ n % 256 < 256 := by omega
    have hcv : ∀ W : World, (convert 177 9 (.slice (some ⟨W.heap.size, 0, none⟩) 1 1)).run Tryz.prog (W.alloc (.cells #[.int .u8 (n % 256)] 5)) = .ok (sv [(n % 256).toNat.toUInt8]) (W.alloc (.cells #[.int .u8 (n % 256)] 5)) := fun W => conv_one _ hm.1 hm.2 (heap_alloc_new W _)
    have hcv2 : (convert 177 9 (.slice (some ⟨w.heap.size, 0, none⟩) 1 1)).run Tryz.prog (w.alloc (.cells #[.int .u8 (n % 256)] 5)).drew = .ok (sv [(n % 256).toNat.toUInt8]) (w.alloc (.cells #[.int .u8 (n % 256)] 5)).drew := conv_one _ hm.1 hm.2 (heap_alloc_new w _)
    have HBE : Hid (be n (k + 1) = be (n / 256) k ++ [(n % 256).toNat.toUInt8]) := rfl
    have HCV : Hid (∀ (W : World) (b : Nat), W.heap[b]? = some (.cells [.int .u8 (n % 256)].toArray 5 (0, 0)) → (convert 177 9 (.slice (some ⟨b, 0, none⟩) 1 1)).run Tryz.prog W = .ok (sv [(n % 256).toNat.toUInt8]) W) := fun W b hb => conv_one _ hm.1 hm.2 hb
    have hLl := be_len k (n / 256)
    generalize be (n / 256) k = L at *
    have hsz : (⟨L.toArray⟩ : ByteArray).size = k := by show L.toArray.size = k; simpa using hLl
    have HLL : Hid (L.length = k) := hLl
    clear hLl
    generalize (n % 256).toNat.toUInt8 = U at *
    go_wp2_with fail
    go_region_with (go_at_call 91; refine (HIH.out _).mono ?_; rintro e w1 ⟨rfl, q1⟩; (try have hcw := HCV.out w1 _ (q1.blk (heap_alloc_new w _) (by simp))); (try have hcw := HCV.out w1 _ (q1.blk (heap_alloc_new w.drew _) (by simp))))
    all_goals
      go_wp2
      go_ret
      refine ⟨?_, by first | exact (((Chg.refl [] w).alloc _).drew).trans q1 (by simp) | exact (((Chg.refl [] w).drew).trans q1 (by simp)).alloc _⟩
      rw [HBE.out]
      exact congrArg Ending.returned (sv_add L [U])
end Go.Proofs.YtbdnhllhdjepcaaGreat
