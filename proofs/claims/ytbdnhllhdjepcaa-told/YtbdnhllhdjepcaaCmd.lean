import Derived.Test.YtbdnhllhdjepcaaIs
namespace Go.Proofs.Ytbdnhllhdjepcaa
set_option linter.unusedVariables false
set_option linter.unusedSimpArgs false
open Go.RowKit Go.Maps

theorem ba_size (l : List UInt8) : (⟨l.toArray⟩ : ByteArray).size = l.length := by show l.toArray.size = _; simp
theorem ba_add (a b : List UInt8) : (⟨a.toArray⟩ : ByteArray) ++ (⟨b.toArray⟩ : ByteArray) = ⟨(a ++ b).toArray⟩ := by
  apply ByteArray.ext
  rw [ByteArray.data_append]
  simp
def cmd1 (q : Rq) : List UInt8 := be (pk q.t 3) 2 ++ (be (pk q.u 2) 2 ++ (be (pk q.r 2) 2 ++ be (1 + pk q.c 4) 2))
def cmd2 (q : Rq) (x : Int) : List UInt8 := be (pk q.t 3) 2 ++ be x 4
def cmd3 (q : Rq) : List UInt8 := be (pk q.c 4) 1
def cmd4 (q : Rq) : List UInt8 := be (pk q.a 30) 8

set_option maxRecDepth 100000 in
set_option maxHeartbeats 1000000 in
theorem command1 (q : Rq) (x : Int) (s : ByteArray) (w : World) (hq : q.Ok) (hx : 0 ≤ x ∧ x < 4294967296) : Calls Try.prog 28 #[.agg #[.int .i64 1, .int .i64 q.a, .int .i64 q.t, .int .i64 q.u, .int .i64 q.r, .int .i64 q.c, .int .u32 x, .string s]] w fun e w' => e = .returned (sv (1 :: cmd1 q)) ∧ Chg [] w w' := by
  have HB : Hid (∀ (n : Int) (k : Nat) W, k ≤ 8 → 0 ≤ n → n ≤ 18446744073709551615 → Calls Try.prog 48 #[.int .u64 n, .int .i64 k] W fun e w' => e = .returned (sv (be n k)) ∧ Chg [] W w') := fun n k W h1 h2 h3 => bytes_any k n W h1 h2 h3
  have HB1 : Hid (∀ (n : Int) W, 0 ≤ n → n ≤ 18446744073709551615 → Calls Try.prog 48 #[.int .u64 n, .int .i64 1] W fun e w' => e = .returned (sv (be n 1)) ∧ Chg [] W w') := fun n W h2 h3 => bytes_any 1 n W (by decide) h2 h3
  have HB2 : Hid (∀ (n : Int) W, 0 ≤ n → n ≤ 18446744073709551615 → Calls Try.prog 48 #[.int .u64 n, .int .i64 2] W fun e w' => e = .returned (sv (be n 2)) ∧ Chg [] W w') := fun n W h2 h3 => bytes_any 2 n W (by decide) h2 h3
  have HB4 : Hid (∀ (n : Int) W, 0 ≤ n → n ≤ 18446744073709551615 → Calls Try.prog 48 #[.int .u64 n, .int .i64 4] W fun e w' => e = .returned (sv (be n 4)) ∧ Chg [] W w') := fun n W h2 h3 => bytes_any 4 n W (by decide) h2 h3
  have HB8 : Hid (∀ (n : Int) W, 0 ≤ n → n ≤ 18446744073709551615 → Calls Try.prog 48 #[.int .u64 n, .int .i64 8] W fun e w' => e = .returned (sv (be n 8)) ∧ Chg [] W w') := fun n W h2 h3 => bytes_any 8 n W (by decide) h2 h3
  have HKy : Hid (∀ W, Calls Try.prog 15 #[.agg #[.int .i64 q.a, .int .i64 q.t, .int .i64 q.u, .int .i64 q.r, .int .i64 q.c]] W fun e w' => e = .returned (.agg #[.int .u16 (pk q.t 3), .int .u16 (pk q.u 2), .int .u16 (pk q.r 2)]) ∧ Chg [] W w') := fun W => key_any q.a q.t q.u q.r q.c W hq.2.1 hq.2.2.1 hq.2.2.2.1
  have HCo : Hid (∀ W, Calls Try.prog 16 #[.agg #[.int .i64 q.a, .int .i64 q.t, .int .i64 q.u, .int .i64 q.r, .int .i64 q.c]] W fun e w' => e = .returned (.int .i64 (1 + pk q.c 4)) ∧ Chg [] W w') := fun W => cost_any q.a q.t q.u q.r q.c W hq.2.2.2.2
  have HWa : Hid (∀ W, Calls Try.prog 13 #[.agg #[.int .i64 q.a, .int .i64 q.t, .int .i64 q.u, .int .i64 q.r, .int .i64 q.c]] W fun e w' => e = .returned (.int .i64 (pk q.a 30)) ∧ Chg [] W w') := fun W => wait_any q.a q.t q.u q.r q.c W hq.1
  have HPc : Hid (∀ W, Calls Try.prog 19 #[.int .i64 q.c, .int .i64 4] W fun e w' => e = .returned (.int .i64 (pk q.c 4)) ∧ w' = W) := fun W => pick_any q.c 4 W hq.2.2.2.2.1 hq.2.2.2.2.2 (by decide) (by decide)
  have pt := pk_bd q.t 3 (by decide)
  have pu := pk_bd q.u 2 (by decide)
  have pr := pk_bd q.r 2 (by decide)
  have pc := pk_bd q.c 4 (by decide)
  have pa := pk_bd q.a 30 (by decide)
  unfold cmd1
  generalize pk q.t 3 = T at *
  generalize pk q.u 2 = U at *
  generalize pk q.r 2 = R at *
  generalize pk q.c 4 = C at *
  generalize pk q.a 30 = A at *
  have wT : IntKind.u64.wrap T = T := by rw [IntKind.wrap_u64]; omega
  have wU : IntKind.u64.wrap U = U := by rw [IntKind.wrap_u64]; omega
  have wR : IntKind.u64.wrap R = R := by rw [IntKind.wrap_u64]; omega
  have wC : IntKind.u64.wrap C = C := by rw [IntKind.wrap_u64]; omega
  have wC1 : IntKind.u64.wrap (1 + C) = 1 + C := by rw [IntKind.wrap_u64]; omega
  have wA : IntKind.u64.wrap A = A := by rw [IntKind.wrap_u64]; omega
  have wX : IntKind.u64.wrap x = x := by rw [IntKind.wrap_u64]; omega
  have hbs := ba_size
  have hbl := be_len
  have hba := ba_add
  have kA := heap_alloc_new w (.cells [.int .i64 1, .int .i64 q.a, .int .i64 q.t, .int .i64 q.u, .int .i64 q.r, .int .i64 q.c, .int .u32 x, .string s].toArray 80)
  go_enter Try.func28, Try.ntmps28
  go_wp2_with fail
  refine (HKy.out _).mono ?_
  rintro e w1 ⟨rfl, q1⟩
  have k1 : w1.heap[w.heap.size]? = some (.cells [.int .i64 1, .int .i64 q.a, .int .i64 q.t, .int .i64 q.u, .int .i64 q.r, .int .i64 q.c, .int .u32 x, .string s].toArray 80 (0, 0)) := q1.blk (heap_alloc_new w _) (by simp)
  have c1 : Chg [] w w1 := ((Chg.refl [] w).alloc _).trans q1 (by simp)
  have kB := blk_alloc k1 (.cells [.int .u16 T, .int .u16 U, .int .u16 R].toArray 47)
  have kK := heap_alloc_new w1 (.cells [.int .u16 T, .int .u16 U, .int .u16 R].toArray 47)
  have cB := c1.alloc (.cells [.int .u16 T, .int .u16 U, .int .u16 R].toArray 47)
  obtain ⟨wB, hwB⟩ : ∃ wB, wB = w1.alloc (.cells [.int .u16 T, .int .u16 U, .int .u16 R].toArray 47) := ⟨_, rfl⟩
  rw [← hwB] at kB kK cB
  have HWB : Hid (w1.alloc (.cells [.int .u16 T, .int .u16 U, .int .u16 R].toArray 47) = wB) := hwB.symm
  have HS : Hid (∀ W, Chg [] wB W → (W.cell? ⟨w.heap.size, 0, none⟩ = some (.int .i64 1) ∧ W.cell? ⟨w.heap.size, 1, none⟩ = some (.int .i64 q.a) ∧ W.cell? ⟨w.heap.size, 2, none⟩ = some (.int .i64 q.t) ∧ W.cell? ⟨w.heap.size, 3, none⟩ = some (.int .i64 q.u) ∧ W.cell? ⟨w.heap.size, 4, none⟩ = some (.int .i64 q.r) ∧ W.cell? ⟨w.heap.size, 5, none⟩ = some (.int .i64 q.c) ∧ W.cell? ⟨w.heap.size, 6, none⟩ = some (.int .u32 x) ∧ W.cell? ⟨w.heap.size, 7, none⟩ = some (.string s) ∧ W.cell? ⟨w1.heap.size, 0, none⟩ = some (.int .u16 T) ∧ W.cell? ⟨w1.heap.size, 1, none⟩ = some (.int .u16 U) ∧ W.cell? ⟨w1.heap.size, 2, none⟩ = some (.int .u16 R))) := fun W hW => by
    have z1 := hW.blk kB (by simp)
    have z2 := hW.blk kK (by simp)
    exact ⟨blk_cell z1 rfl, blk_cell z1 rfl, blk_cell z1 rfl, blk_cell z1 rfl, blk_cell z1 rfl, blk_cell z1 rfl, blk_cell z1 rfl, blk_cell z1 rfl, blk_cell z2 rfl, blk_cell z2 rfl, blk_cell z2 rfl⟩
  clear hwB kA k1 kB kK c1 q1
  obtain ⟨t0, t1, t2, t3, t4, t5, t6, t7, u0, u1, u2⟩ := HS.out wB (Chg.refl _ _)
  have hkw := HWB.out
  have HBT : Hid (∀ W, Calls Try.prog 48 #[.int .u64 T, .int .i64 2] W fun e w' => e = .returned (sv (be T 2)) ∧ Chg [] W w') := fun W => HB2.out T W (by omega) (by omega)
  have HBX : Hid (∀ W, Calls Try.prog 48 #[.int .u64 x, .int .i64 4] W fun e w' => e = .returned (sv (be x 4)) ∧ Chg [] W w') := fun W => HB4.out x W (by omega) (by omega)
  have vv : Chg [] wB wB.drew := (Chg.refl _ _).drew
  go_upto_region 4 with fail
  go_region_held3 (fun W => W.cell? ⟨w.heap.size, 0, none⟩ = some (.int .i64 1) ∧ W.cell? ⟨w.heap.size, 1, none⟩ = some (.int .i64 q.a) ∧ W.cell? ⟨w.heap.size, 2, none⟩ = some (.int .i64 q.t) ∧ W.cell? ⟨w.heap.size, 3, none⟩ = some (.int .i64 q.u) ∧ W.cell? ⟨w.heap.size, 4, none⟩ = some (.int .i64 q.r) ∧ W.cell? ⟨w.heap.size, 5, none⟩ = some (.int .i64 q.c) ∧ W.cell? ⟨w.heap.size, 6, none⟩ = some (.int .u32 x) ∧ W.cell? ⟨w.heap.size, 7, none⟩ = some (.string s) ∧ W.cell? ⟨w1.heap.size, 0, none⟩ = some (.int .u16 T) ∧ W.cell? ⟨w1.heap.size, 1, none⟩ = some (.int .u16 U) ∧ W.cell? ⟨w1.heap.size, 2, none⟩ = some (.int .u16 R))
    (first | with_reducible exact HS.out _ vv)
    (first | (go_at_call 48; refine (HB2.out _ _ (by omega) (by omega)).mono ?_; rintro e wc ⟨rfl, qc⟩; have vv := vv.trans qc (by simp)) | (go_at_call 48; refine (HB4.out _ _ (by omega) (by omega)).mono ?_; rintro e wc ⟨rfl, qc⟩; have vv := vv.trans qc (by simp)) | (go_at_call 16; refine (HCo.out _).mono ?_; rintro e wc ⟨rfl, qc⟩; have vv := vv.trans qc (by simp)))
  go_wp2
  go_ret
  exact ⟨rfl, cB.trans vv (by simp)⟩

set_option maxRecDepth 100000 in
set_option maxHeartbeats 1000000 in
theorem command2 (q : Rq) (x : Int) (s : ByteArray) (w : World) (hq : q.Ok) (hx : 0 ≤ x ∧ x < 4294967296) : Calls Try.prog 28 #[.agg #[.int .i64 2, .int .i64 q.a, .int .i64 q.t, .int .i64 q.u, .int .i64 q.r, .int .i64 q.c, .int .u32 x, .string s]] w fun e w' => e = .returned (sv (2 :: cmd2 q x)) ∧ Chg [] w w' := by
  have HB : Hid (∀ (n : Int) (k : Nat) W, k ≤ 8 → 0 ≤ n → n ≤ 18446744073709551615 → Calls Try.prog 48 #[.int .u64 n, .int .i64 k] W fun e w' => e = .returned (sv (be n k)) ∧ Chg [] W w') := fun n k W h1 h2 h3 => bytes_any k n W h1 h2 h3
  have HB1 : Hid (∀ (n : Int) W, 0 ≤ n → n ≤ 18446744073709551615 → Calls Try.prog 48 #[.int .u64 n, .int .i64 1] W fun e w' => e = .returned (sv (be n 1)) ∧ Chg [] W w') := fun n W h2 h3 => bytes_any 1 n W (by decide) h2 h3
  have HB2 : Hid (∀ (n : Int) W, 0 ≤ n → n ≤ 18446744073709551615 → Calls Try.prog 48 #[.int .u64 n, .int .i64 2] W fun e w' => e = .returned (sv (be n 2)) ∧ Chg [] W w') := fun n W h2 h3 => bytes_any 2 n W (by decide) h2 h3
  have HB4 : Hid (∀ (n : Int) W, 0 ≤ n → n ≤ 18446744073709551615 → Calls Try.prog 48 #[.int .u64 n, .int .i64 4] W fun e w' => e = .returned (sv (be n 4)) ∧ Chg [] W w') := fun n W h2 h3 => bytes_any 4 n W (by decide) h2 h3
  have HB8 : Hid (∀ (n : Int) W, 0 ≤ n → n ≤ 18446744073709551615 → Calls Try.prog 48 #[.int .u64 n, .int .i64 8] W fun e w' => e = .returned (sv (be n 8)) ∧ Chg [] W w') := fun n W h2 h3 => bytes_any 8 n W (by decide) h2 h3
  have HKy : Hid (∀ W, Calls Try.prog 15 #[.agg #[.int .i64 q.a, .int .i64 q.t, .int .i64 q.u, .int .i64 q.r, .int .i64 q.c]] W fun e w' => e = .returned (.agg #[.int .u16 (pk q.t 3), .int .u16 (pk q.u 2), .int .u16 (pk q.r 2)]) ∧ Chg [] W w') := fun W => key_any q.a q.t q.u q.r q.c W hq.2.1 hq.2.2.1 hq.2.2.2.1
  have HCo : Hid (∀ W, Calls Try.prog 16 #[.agg #[.int .i64 q.a, .int .i64 q.t, .int .i64 q.u, .int .i64 q.r, .int .i64 q.c]] W fun e w' => e = .returned (.int .i64 (1 + pk q.c 4)) ∧ Chg [] W w') := fun W => cost_any q.a q.t q.u q.r q.c W hq.2.2.2.2
  have HWa : Hid (∀ W, Calls Try.prog 13 #[.agg #[.int .i64 q.a, .int .i64 q.t, .int .i64 q.u, .int .i64 q.r, .int .i64 q.c]] W fun e w' => e = .returned (.int .i64 (pk q.a 30)) ∧ Chg [] W w') := fun W => wait_any q.a q.t q.u q.r q.c W hq.1
  have HPc : Hid (∀ W, Calls Try.prog 19 #[.int .i64 q.c, .int .i64 4] W fun e w' => e = .returned (.int .i64 (pk q.c 4)) ∧ w' = W) := fun W => pick_any q.c 4 W hq.2.2.2.2.1 hq.2.2.2.2.2 (by decide) (by decide)
  have pt := pk_bd q.t 3 (by decide)
  have pu := pk_bd q.u 2 (by decide)
  have pr := pk_bd q.r 2 (by decide)
  have pc := pk_bd q.c 4 (by decide)
  have pa := pk_bd q.a 30 (by decide)
  unfold cmd2
  generalize pk q.t 3 = T at *
  generalize pk q.u 2 = U at *
  generalize pk q.r 2 = R at *
  generalize pk q.c 4 = C at *
  generalize pk q.a 30 = A at *
  have wT : IntKind.u64.wrap T = T := by rw [IntKind.wrap_u64]; omega
  have wU : IntKind.u64.wrap U = U := by rw [IntKind.wrap_u64]; omega
  have wR : IntKind.u64.wrap R = R := by rw [IntKind.wrap_u64]; omega
  have wC : IntKind.u64.wrap C = C := by rw [IntKind.wrap_u64]; omega
  have wC1 : IntKind.u64.wrap (1 + C) = 1 + C := by rw [IntKind.wrap_u64]; omega
  have wA : IntKind.u64.wrap A = A := by rw [IntKind.wrap_u64]; omega
  have wX : IntKind.u64.wrap x = x := by rw [IntKind.wrap_u64]; omega
  have hbs := ba_size
  have hbl := be_len
  have hba := ba_add
  have kA := heap_alloc_new w (.cells [.int .i64 2, .int .i64 q.a, .int .i64 q.t, .int .i64 q.u, .int .i64 q.r, .int .i64 q.c, .int .u32 x, .string s].toArray 80)
  go_enter Try.func28, Try.ntmps28
  go_wp2_with fail
  refine (HKy.out _).mono ?_
  rintro e w1 ⟨rfl, q1⟩
  have k1 : w1.heap[w.heap.size]? = some (.cells [.int .i64 2, .int .i64 q.a, .int .i64 q.t, .int .i64 q.u, .int .i64 q.r, .int .i64 q.c, .int .u32 x, .string s].toArray 80 (0, 0)) := q1.blk (heap_alloc_new w _) (by simp)
  have c1 : Chg [] w w1 := ((Chg.refl [] w).alloc _).trans q1 (by simp)
  have kB := blk_alloc k1 (.cells [.int .u16 T, .int .u16 U, .int .u16 R].toArray 47)
  have kK := heap_alloc_new w1 (.cells [.int .u16 T, .int .u16 U, .int .u16 R].toArray 47)
  have cB := c1.alloc (.cells [.int .u16 T, .int .u16 U, .int .u16 R].toArray 47)
  obtain ⟨wB, hwB⟩ : ∃ wB, wB = w1.alloc (.cells [.int .u16 T, .int .u16 U, .int .u16 R].toArray 47) := ⟨_, rfl⟩
  rw [← hwB] at kB kK cB
  have HWB : Hid (w1.alloc (.cells [.int .u16 T, .int .u16 U, .int .u16 R].toArray 47) = wB) := hwB.symm
  have HS : Hid (∀ W, Chg [] wB W → (W.cell? ⟨w.heap.size, 0, none⟩ = some (.int .i64 2) ∧ W.cell? ⟨w.heap.size, 1, none⟩ = some (.int .i64 q.a) ∧ W.cell? ⟨w.heap.size, 2, none⟩ = some (.int .i64 q.t) ∧ W.cell? ⟨w.heap.size, 3, none⟩ = some (.int .i64 q.u) ∧ W.cell? ⟨w.heap.size, 4, none⟩ = some (.int .i64 q.r) ∧ W.cell? ⟨w.heap.size, 5, none⟩ = some (.int .i64 q.c) ∧ W.cell? ⟨w.heap.size, 6, none⟩ = some (.int .u32 x) ∧ W.cell? ⟨w.heap.size, 7, none⟩ = some (.string s) ∧ W.cell? ⟨w1.heap.size, 0, none⟩ = some (.int .u16 T) ∧ W.cell? ⟨w1.heap.size, 1, none⟩ = some (.int .u16 U) ∧ W.cell? ⟨w1.heap.size, 2, none⟩ = some (.int .u16 R))) := fun W hW => by
    have z1 := hW.blk kB (by simp)
    have z2 := hW.blk kK (by simp)
    exact ⟨blk_cell z1 rfl, blk_cell z1 rfl, blk_cell z1 rfl, blk_cell z1 rfl, blk_cell z1 rfl, blk_cell z1 rfl, blk_cell z1 rfl, blk_cell z1 rfl, blk_cell z2 rfl, blk_cell z2 rfl, blk_cell z2 rfl⟩
  clear hwB kA k1 kB kK c1 q1
  obtain ⟨t0, t1, t2, t3, t4, t5, t6, t7, u0, u1, u2⟩ := HS.out wB (Chg.refl _ _)
  have hkw := HWB.out
  have HBT : Hid (∀ W, Calls Try.prog 48 #[.int .u64 T, .int .i64 2] W fun e w' => e = .returned (sv (be T 2)) ∧ Chg [] W w') := fun W => HB2.out T W (by omega) (by omega)
  have HBX : Hid (∀ W, Calls Try.prog 48 #[.int .u64 x, .int .i64 4] W fun e w' => e = .returned (sv (be x 4)) ∧ Chg [] W w') := fun W => HB4.out x W (by omega) (by omega)
  have vv : Chg [] wB wB.drew := (Chg.refl _ _).drew
  go_upto_region 6 with fail
  go_region_held3 (fun W => W.cell? ⟨w.heap.size, 0, none⟩ = some (.int .i64 2) ∧ W.cell? ⟨w.heap.size, 1, none⟩ = some (.int .i64 q.a) ∧ W.cell? ⟨w.heap.size, 2, none⟩ = some (.int .i64 q.t) ∧ W.cell? ⟨w.heap.size, 3, none⟩ = some (.int .i64 q.u) ∧ W.cell? ⟨w.heap.size, 4, none⟩ = some (.int .i64 q.r) ∧ W.cell? ⟨w.heap.size, 5, none⟩ = some (.int .i64 q.c) ∧ W.cell? ⟨w.heap.size, 6, none⟩ = some (.int .u32 x) ∧ W.cell? ⟨w.heap.size, 7, none⟩ = some (.string s) ∧ W.cell? ⟨w1.heap.size, 0, none⟩ = some (.int .u16 T) ∧ W.cell? ⟨w1.heap.size, 1, none⟩ = some (.int .u16 U) ∧ W.cell? ⟨w1.heap.size, 2, none⟩ = some (.int .u16 R))
    (first | with_reducible exact HS.out _ vv)
    (first | (go_at_call 48; with_reducible refine (HBT.out _).mono ?_; rintro e wc ⟨rfl, qc⟩; have vv := vv.trans qc (by simp)) | (go_at_call 48; with_reducible refine (HBX.out _).mono ?_; rintro e wc ⟨rfl, qc⟩; have vv := vv.trans qc (by simp)))
  go_wp2
  go_ret
  exact ⟨rfl, cB.trans vv (by simp)⟩

set_option maxRecDepth 100000 in
set_option maxHeartbeats 1000000 in
theorem command3 (q : Rq) (x : Int) (s : ByteArray) (w : World) (hq : q.Ok) (hx : 0 ≤ x ∧ x < 4294967296) : Calls Try.prog 28 #[.agg #[.int .i64 3, .int .i64 q.a, .int .i64 q.t, .int .i64 q.u, .int .i64 q.r, .int .i64 q.c, .int .u32 x, .string s]] w fun e w' => e = .returned (sv (3 :: cmd3 q)) ∧ Chg [] w w' := by
  have HB : Hid (∀ (n : Int) (k : Nat) W, k ≤ 8 → 0 ≤ n → n ≤ 18446744073709551615 → Calls Try.prog 48 #[.int .u64 n, .int .i64 k] W fun e w' => e = .returned (sv (be n k)) ∧ Chg [] W w') := fun n k W h1 h2 h3 => bytes_any k n W h1 h2 h3
  have HB1 : Hid (∀ (n : Int) W, 0 ≤ n → n ≤ 18446744073709551615 → Calls Try.prog 48 #[.int .u64 n, .int .i64 1] W fun e w' => e = .returned (sv (be n 1)) ∧ Chg [] W w') := fun n W h2 h3 => bytes_any 1 n W (by decide) h2 h3
  have HB2 : Hid (∀ (n : Int) W, 0 ≤ n → n ≤ 18446744073709551615 → Calls Try.prog 48 #[.int .u64 n, .int .i64 2] W fun e w' => e = .returned (sv (be n 2)) ∧ Chg [] W w') := fun n W h2 h3 => bytes_any 2 n W (by decide) h2 h3
  have HB4 : Hid (∀ (n : Int) W, 0 ≤ n → n ≤ 18446744073709551615 → Calls Try.prog 48 #[.int .u64 n, .int .i64 4] W fun e w' => e = .returned (sv (be n 4)) ∧ Chg [] W w') := fun n W h2 h3 => bytes_any 4 n W (by decide) h2 h3
  have HB8 : Hid (∀ (n : Int) W, 0 ≤ n → n ≤ 18446744073709551615 → Calls Try.prog 48 #[.int .u64 n, .int .i64 8] W fun e w' => e = .returned (sv (be n 8)) ∧ Chg [] W w') := fun n W h2 h3 => bytes_any 8 n W (by decide) h2 h3
  have HKy : Hid (∀ W, Calls Try.prog 15 #[.agg #[.int .i64 q.a, .int .i64 q.t, .int .i64 q.u, .int .i64 q.r, .int .i64 q.c]] W fun e w' => e = .returned (.agg #[.int .u16 (pk q.t 3), .int .u16 (pk q.u 2), .int .u16 (pk q.r 2)]) ∧ Chg [] W w') := fun W => key_any q.a q.t q.u q.r q.c W hq.2.1 hq.2.2.1 hq.2.2.2.1
  have HCo : Hid (∀ W, Calls Try.prog 16 #[.agg #[.int .i64 q.a, .int .i64 q.t, .int .i64 q.u, .int .i64 q.r, .int .i64 q.c]] W fun e w' => e = .returned (.int .i64 (1 + pk q.c 4)) ∧ Chg [] W w') := fun W => cost_any q.a q.t q.u q.r q.c W hq.2.2.2.2
  have HWa : Hid (∀ W, Calls Try.prog 13 #[.agg #[.int .i64 q.a, .int .i64 q.t, .int .i64 q.u, .int .i64 q.r, .int .i64 q.c]] W fun e w' => e = .returned (.int .i64 (pk q.a 30)) ∧ Chg [] W w') := fun W => wait_any q.a q.t q.u q.r q.c W hq.1
  have HPc : Hid (∀ W, Calls Try.prog 19 #[.int .i64 q.c, .int .i64 4] W fun e w' => e = .returned (.int .i64 (pk q.c 4)) ∧ w' = W) := fun W => pick_any q.c 4 W hq.2.2.2.2.1 hq.2.2.2.2.2 (by decide) (by decide)
  have pt := pk_bd q.t 3 (by decide)
  have pu := pk_bd q.u 2 (by decide)
  have pr := pk_bd q.r 2 (by decide)
  have pc := pk_bd q.c 4 (by decide)
  have pa := pk_bd q.a 30 (by decide)
  unfold cmd3
  generalize pk q.t 3 = T at *
  generalize pk q.u 2 = U at *
  generalize pk q.r 2 = R at *
  generalize pk q.c 4 = C at *
  generalize pk q.a 30 = A at *
  have wT : IntKind.u64.wrap T = T := by rw [IntKind.wrap_u64]; omega
  have wU : IntKind.u64.wrap U = U := by rw [IntKind.wrap_u64]; omega
  have wR : IntKind.u64.wrap R = R := by rw [IntKind.wrap_u64]; omega
  have wC : IntKind.u64.wrap C = C := by rw [IntKind.wrap_u64]; omega
  have wC1 : IntKind.u64.wrap (1 + C) = 1 + C := by rw [IntKind.wrap_u64]; omega
  have wA : IntKind.u64.wrap A = A := by rw [IntKind.wrap_u64]; omega
  have wX : IntKind.u64.wrap x = x := by rw [IntKind.wrap_u64]; omega
  have hbs := ba_size
  have hbl := be_len
  have hba := ba_add
  have kA := heap_alloc_new w (.cells [.int .i64 3, .int .i64 q.a, .int .i64 q.t, .int .i64 q.u, .int .i64 q.r, .int .i64 q.c, .int .u32 x, .string s].toArray 80)
  go_enter Try.func28, Try.ntmps28
  go_wp2_with fail
  refine (HKy.out _).mono ?_
  rintro e w1 ⟨rfl, q1⟩
  have k1 : w1.heap[w.heap.size]? = some (.cells [.int .i64 3, .int .i64 q.a, .int .i64 q.t, .int .i64 q.u, .int .i64 q.r, .int .i64 q.c, .int .u32 x, .string s].toArray 80 (0, 0)) := q1.blk (heap_alloc_new w _) (by simp)
  have c1 : Chg [] w w1 := ((Chg.refl [] w).alloc _).trans q1 (by simp)
  have kB := blk_alloc k1 (.cells [.int .u16 T, .int .u16 U, .int .u16 R].toArray 47)
  have kK := heap_alloc_new w1 (.cells [.int .u16 T, .int .u16 U, .int .u16 R].toArray 47)
  have cB := c1.alloc (.cells [.int .u16 T, .int .u16 U, .int .u16 R].toArray 47)
  obtain ⟨wB, hwB⟩ : ∃ wB, wB = w1.alloc (.cells [.int .u16 T, .int .u16 U, .int .u16 R].toArray 47) := ⟨_, rfl⟩
  rw [← hwB] at kB kK cB
  have HWB : Hid (w1.alloc (.cells [.int .u16 T, .int .u16 U, .int .u16 R].toArray 47) = wB) := hwB.symm
  have HS : Hid (∀ W, Chg [] wB W → (W.cell? ⟨w.heap.size, 0, none⟩ = some (.int .i64 3) ∧ W.cell? ⟨w.heap.size, 1, none⟩ = some (.int .i64 q.a) ∧ W.cell? ⟨w.heap.size, 2, none⟩ = some (.int .i64 q.t) ∧ W.cell? ⟨w.heap.size, 3, none⟩ = some (.int .i64 q.u) ∧ W.cell? ⟨w.heap.size, 4, none⟩ = some (.int .i64 q.r) ∧ W.cell? ⟨w.heap.size, 5, none⟩ = some (.int .i64 q.c) ∧ W.cell? ⟨w.heap.size, 6, none⟩ = some (.int .u32 x) ∧ W.cell? ⟨w.heap.size, 7, none⟩ = some (.string s) ∧ W.cell? ⟨w1.heap.size, 0, none⟩ = some (.int .u16 T) ∧ W.cell? ⟨w1.heap.size, 1, none⟩ = some (.int .u16 U) ∧ W.cell? ⟨w1.heap.size, 2, none⟩ = some (.int .u16 R))) := fun W hW => by
    have z1 := hW.blk kB (by simp)
    have z2 := hW.blk kK (by simp)
    exact ⟨blk_cell z1 rfl, blk_cell z1 rfl, blk_cell z1 rfl, blk_cell z1 rfl, blk_cell z1 rfl, blk_cell z1 rfl, blk_cell z1 rfl, blk_cell z1 rfl, blk_cell z2 rfl, blk_cell z2 rfl, blk_cell z2 rfl⟩
  clear hwB kA k1 kB kK c1 q1
  obtain ⟨t0, t1, t2, t3, t4, t5, t6, t7, u0, u1, u2⟩ := HS.out wB (Chg.refl _ _)
  have hkw := HWB.out
  go_wp2_with fail
  refine (HPc.out _).mono ?_
  rintro e wB ⟨rfl, rfl⟩
  go_wp2_with fail
  refine (HB1.out _ _ (by omega) (by omega)).mono ?_
  rintro e wc ⟨rfl, qc⟩
  go_wp2
  go_ret
  exact ⟨rfl, cB.trans qc (by simp)⟩

set_option maxRecDepth 100000 in
set_option maxHeartbeats 1000000 in
theorem command4 (q : Rq) (x : Int) (s : ByteArray) (w : World) (hq : q.Ok) (hx : 0 ≤ x ∧ x < 4294967296) : Calls Try.prog 28 #[.agg #[.int .i64 4, .int .i64 q.a, .int .i64 q.t, .int .i64 q.u, .int .i64 q.r, .int .i64 q.c, .int .u32 x, .string s]] w fun e w' => e = .returned (sv (4 :: cmd4 q)) ∧ Chg [] w w' := by
  have HB : Hid (∀ (n : Int) (k : Nat) W, k ≤ 8 → 0 ≤ n → n ≤ 18446744073709551615 → Calls Try.prog 48 #[.int .u64 n, .int .i64 k] W fun e w' => e = .returned (sv (be n k)) ∧ Chg [] W w') := fun n k W h1 h2 h3 => bytes_any k n W h1 h2 h3
  have HB1 : Hid (∀ (n : Int) W, 0 ≤ n → n ≤ 18446744073709551615 → Calls Try.prog 48 #[.int .u64 n, .int .i64 1] W fun e w' => e = .returned (sv (be n 1)) ∧ Chg [] W w') := fun n W h2 h3 => bytes_any 1 n W (by decide) h2 h3
  have HB2 : Hid (∀ (n : Int) W, 0 ≤ n → n ≤ 18446744073709551615 → Calls Try.prog 48 #[.int .u64 n, .int .i64 2] W fun e w' => e = .returned (sv (be n 2)) ∧ Chg [] W w') := fun n W h2 h3 => bytes_any 2 n W (by decide) h2 h3
  have HB4 : Hid (∀ (n : Int) W, 0 ≤ n → n ≤ 18446744073709551615 → Calls Try.prog 48 #[.int .u64 n, .int .i64 4] W fun e w' => e = .returned (sv (be n 4)) ∧ Chg [] W w') := fun n W h2 h3 => bytes_any 4 n W (by decide) h2 h3
  have HB8 : Hid (∀ (n : Int) W, 0 ≤ n → n ≤ 18446744073709551615 → Calls Try.prog 48 #[.int .u64 n, .int .i64 8] W fun e w' => e = .returned (sv (be n 8)) ∧ Chg [] W w') := fun n W h2 h3 => bytes_any 8 n W (by decide) h2 h3
  have HKy : Hid (∀ W, Calls Try.prog 15 #[.agg #[.int .i64 q.a, .int .i64 q.t, .int .i64 q.u, .int .i64 q.r, .int .i64 q.c]] W fun e w' => e = .returned (.agg #[.int .u16 (pk q.t 3), .int .u16 (pk q.u 2), .int .u16 (pk q.r 2)]) ∧ Chg [] W w') := fun W => key_any q.a q.t q.u q.r q.c W hq.2.1 hq.2.2.1 hq.2.2.2.1
  have HCo : Hid (∀ W, Calls Try.prog 16 #[.agg #[.int .i64 q.a, .int .i64 q.t, .int .i64 q.u, .int .i64 q.r, .int .i64 q.c]] W fun e w' => e = .returned (.int .i64 (1 + pk q.c 4)) ∧ Chg [] W w') := fun W => cost_any q.a q.t q.u q.r q.c W hq.2.2.2.2
  have HWa : Hid (∀ W, Calls Try.prog 13 #[.agg #[.int .i64 q.a, .int .i64 q.t, .int .i64 q.u, .int .i64 q.r, .int .i64 q.c]] W fun e w' => e = .returned (.int .i64 (pk q.a 30)) ∧ Chg [] W w') := fun W => wait_any q.a q.t q.u q.r q.c W hq.1
  have HPc : Hid (∀ W, Calls Try.prog 19 #[.int .i64 q.c, .int .i64 4] W fun e w' => e = .returned (.int .i64 (pk q.c 4)) ∧ w' = W) := fun W => pick_any q.c 4 W hq.2.2.2.2.1 hq.2.2.2.2.2 (by decide) (by decide)
  have pt := pk_bd q.t 3 (by decide)
  have pu := pk_bd q.u 2 (by decide)
  have pr := pk_bd q.r 2 (by decide)
  have pc := pk_bd q.c 4 (by decide)
  have pa := pk_bd q.a 30 (by decide)
  unfold cmd4
  generalize pk q.t 3 = T at *
  generalize pk q.u 2 = U at *
  generalize pk q.r 2 = R at *
  generalize pk q.c 4 = C at *
  generalize pk q.a 30 = A at *
  have wT : IntKind.u64.wrap T = T := by rw [IntKind.wrap_u64]; omega
  have wU : IntKind.u64.wrap U = U := by rw [IntKind.wrap_u64]; omega
  have wR : IntKind.u64.wrap R = R := by rw [IntKind.wrap_u64]; omega
  have wC : IntKind.u64.wrap C = C := by rw [IntKind.wrap_u64]; omega
  have wC1 : IntKind.u64.wrap (1 + C) = 1 + C := by rw [IntKind.wrap_u64]; omega
  have wA : IntKind.u64.wrap A = A := by rw [IntKind.wrap_u64]; omega
  have wX : IntKind.u64.wrap x = x := by rw [IntKind.wrap_u64]; omega
  have hbs := ba_size
  have hbl := be_len
  have hba := ba_add
  have kA := heap_alloc_new w (.cells [.int .i64 4, .int .i64 q.a, .int .i64 q.t, .int .i64 q.u, .int .i64 q.r, .int .i64 q.c, .int .u32 x, .string s].toArray 80)
  go_enter Try.func28, Try.ntmps28
  go_wp2_with fail
  refine (HKy.out _).mono ?_
  rintro e w1 ⟨rfl, q1⟩
  have k1 : w1.heap[w.heap.size]? = some (.cells [.int .i64 4, .int .i64 q.a, .int .i64 q.t, .int .i64 q.u, .int .i64 q.r, .int .i64 q.c, .int .u32 x, .string s].toArray 80 (0, 0)) := q1.blk (heap_alloc_new w _) (by simp)
  have c1 : Chg [] w w1 := ((Chg.refl [] w).alloc _).trans q1 (by simp)
  have kB := blk_alloc k1 (.cells [.int .u16 T, .int .u16 U, .int .u16 R].toArray 47)
  have kK := heap_alloc_new w1 (.cells [.int .u16 T, .int .u16 U, .int .u16 R].toArray 47)
  have cB := c1.alloc (.cells [.int .u16 T, .int .u16 U, .int .u16 R].toArray 47)
  obtain ⟨wB, hwB⟩ : ∃ wB, wB = w1.alloc (.cells [.int .u16 T, .int .u16 U, .int .u16 R].toArray 47) := ⟨_, rfl⟩
  rw [← hwB] at kB kK cB
  have HWB : Hid (w1.alloc (.cells [.int .u16 T, .int .u16 U, .int .u16 R].toArray 47) = wB) := hwB.symm
  have HS : Hid (∀ W, Chg [] wB W → (W.cell? ⟨w.heap.size, 0, none⟩ = some (.int .i64 4) ∧ W.cell? ⟨w.heap.size, 1, none⟩ = some (.int .i64 q.a) ∧ W.cell? ⟨w.heap.size, 2, none⟩ = some (.int .i64 q.t) ∧ W.cell? ⟨w.heap.size, 3, none⟩ = some (.int .i64 q.u) ∧ W.cell? ⟨w.heap.size, 4, none⟩ = some (.int .i64 q.r) ∧ W.cell? ⟨w.heap.size, 5, none⟩ = some (.int .i64 q.c) ∧ W.cell? ⟨w.heap.size, 6, none⟩ = some (.int .u32 x) ∧ W.cell? ⟨w.heap.size, 7, none⟩ = some (.string s) ∧ W.cell? ⟨w1.heap.size, 0, none⟩ = some (.int .u16 T) ∧ W.cell? ⟨w1.heap.size, 1, none⟩ = some (.int .u16 U) ∧ W.cell? ⟨w1.heap.size, 2, none⟩ = some (.int .u16 R))) := fun W hW => by
    have z1 := hW.blk kB (by simp)
    have z2 := hW.blk kK (by simp)
    exact ⟨blk_cell z1 rfl, blk_cell z1 rfl, blk_cell z1 rfl, blk_cell z1 rfl, blk_cell z1 rfl, blk_cell z1 rfl, blk_cell z1 rfl, blk_cell z1 rfl, blk_cell z2 rfl, blk_cell z2 rfl, blk_cell z2 rfl⟩
  clear hwB kA k1 kB kK c1 q1
  obtain ⟨t0, t1, t2, t3, t4, t5, t6, t7, u0, u1, u2⟩ := HS.out wB (Chg.refl _ _)
  have hkw := HWB.out
  go_wp2_with fail
  refine (HWa.out _).mono ?_
  rintro e wc ⟨rfl, qc⟩
  go_wp2_with fail
  refine (HB8.out _ _ (by omega) (by omega)).mono ?_
  rintro e wd ⟨rfl, qd⟩
  go_wp2
  go_ret
  exact ⟨rfl, (cB.trans qc (by simp)).trans qd (by simp)⟩
end Go.Proofs.Ytbdnhllhdjepcaa
