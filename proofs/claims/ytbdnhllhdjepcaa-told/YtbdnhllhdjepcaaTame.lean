import Derived.Test.YtbdnhllhdjepcaaState
namespace Go.Proofs.Ytbdnhllhdjepcaa
set_option linter.unusedVariables false
set_option linter.unusedSimpArgs false
open Go.RowKit Go.Maps

/-- a number that an int holds -/
def I64 (x : Int) : Prop := -9223372036854775808 ≤ x ∧ x ≤ 9223372036854775807

theorem wrap16 {x : Int} (h : 0 ≤ x ∧ x ≤ 65535) : IntKind.u16.wrap x = x := by
  simp [IntKind.wrap, IntKind.signed, IntKind.bits]
  omega
theorem wrapi {x : Int} (h : -9223372036854775808 ≤ x ∧ x ≤ 9223372036854775807) : IntKind.i64.wrap x = x := by
  rw [IntKind.wrap_i64]; omega

set_option maxRecDepth 100000 in
theorem wait_any (a t u r c : Int) (w : World) (ha : I64 a) : Calls Try.prog 13 #[.agg #[.int .i64 a, .int .i64 t, .int .i64 u, .int .i64 r, .int .i64 c]] w fun e w' => e = .returned (.int .i64 (pk a 30)) ∧ Chg [] w w' := by
  obtain ⟨h1, h2⟩ := ha
  go_enter Try.func13, Try.ntmps13
  go_wp2_with (go_at_call 19; refine (pick_any a 30 _ h1 h2 (by decide) (by decide)).mono ?_; rintro e w' ⟨rfl, rfl⟩)
  go_ret
  exact ⟨rfl, (Chg.refl _ _).alloc _⟩

set_option maxRecDepth 100000 in
theorem cost_any (a t u r c : Int) (w : World) (ha : I64 c) : Calls Try.prog 16 #[.agg #[.int .i64 a, .int .i64 t, .int .i64 u, .int .i64 r, .int .i64 c]] w fun e w' => e = .returned (.int .i64 (1 + pk c 4)) ∧ Chg [] w w' := by
  obtain ⟨h1, h2⟩ := ha
  have hb := pk_bd c 4 (by decide)
  go_enter Try.func16, Try.ntmps16
  go_wp2_with (go_at_call 19; refine (pick_any c 4 _ h1 h2 (by decide) (by decide)).mono ?_; rintro e w' ⟨rfl, rfl⟩)
  go_ret
  exact ⟨rfl, (Chg.refl _ _).alloc _⟩

set_option maxRecDepth 100000 in
set_option maxHeartbeats 1000000 in
theorem key_any (a t u r c : Int) (w : World) (ht : I64 t) (hu : I64 u) (hr : I64 r) : Calls Try.prog 15 #[.agg #[.int .i64 a, .int .i64 t, .int .i64 u, .int .i64 r, .int .i64 c]] w fun e w' => e = .returned (.agg #[.int .u16 (pk t 3), .int .u16 (pk u 2), .int .u16 (pk r 2)]) ∧ Chg [] w w' := by
  have b1 := pk_bd t 3 (by decide)
  have b2 := pk_bd u 2 (by decide)
  have b3 := pk_bd r 2 (by decide)
  have HT := fun W => pick_any t 3 W ht.1 ht.2 (by decide) (by decide)
  have HU := fun W => pick_any u 2 W hu.1 hu.2 (by decide) (by decide)
  have HR := fun W => pick_any r 2 W hr.1 hr.2 (by decide) (by decide)
  generalize pk t 3 = x at *
  generalize pk u 2 = y at *
  generalize pk r 2 = z at *
  have HT' : Hid _ := HT
  have HU' : Hid _ := HU
  have HR' : Hid _ := HR
  clear HT HU HR
  go_enter Try.func15, Try.ntmps15
  go_wp2_with fail
  go_region_held3 (fun W => W.cell? ⟨w.heap.size, 1, none⟩ = some (.int .i64 t) ∧ W.cell? ⟨w.heap.size, 2, none⟩ = some (.int .i64 u) ∧ W.cell? ⟨w.heap.size, 3, none⟩ = some (.int .i64 r)) ((simp [go_sem, World.cell?_alloc_past]))
    (first | (go_at_call_of 19 (Value.int IntKind.i64 3); refine (HT'.out _).mono ?_; rintro e w' ⟨rfl, rfl⟩) | (go_at_call_of 19 (Value.int IntKind.i64 u); refine (HU'.out _).mono ?_; rintro e w' ⟨rfl, rfl⟩) | (go_at_call_of 19 (Value.int IntKind.i64 r); refine (HR'.out _).mono ?_; rintro e w' ⟨rfl, rfl⟩))
  all_goals go_wp2
  rw [wrap16 ⟨b1.1, by omega⟩, wrap16 ⟨b2.1, by omega⟩, wrap16 ⟨b3.1, by omega⟩]
  exact bodyPost_ret (v := .agg #[.int .u16 x, .int .u16 y, .int .u16 z]) (by simp [results, Try.results15, go_sem, World.cell?_alloc_past]) rfl ⟨rfl, (((Chg.refl _ _).alloc _).alloc _).drew⟩

set_option maxRecDepth 100000 in
set_option maxHeartbeats 1000000 in
theorem quota_any (c p b : Int) (w : World) (hc : I64 c) (hp : I64 p) (hb : I64 b) : Calls Try.prog 33 #[.agg #[.int .i64 c, .int .i64 p, .int .i64 b]] w fun e w' => e = .returned (.agg #[.int .i64 (1 + pk c 9), .int .i64 (1 + pk p 60), .int .i64 (pk b 201)]) ∧ Chg [] w w' := by
  have b1 := pk_bd c 9 (by decide)
  have b2 := pk_bd p 60 (by decide)
  have b3 := pk_bd b 201 (by decide)
  have HT := fun W => pick_any c 9 W hc.1 hc.2 (by decide) (by decide)
  have HU := fun W => pick_any p 60 W hp.1 hp.2 (by decide) (by decide)
  have HR := fun W => pick_any b 201 W hb.1 hb.2 (by decide) (by decide)
  generalize pk c 9 = x at *
  generalize pk p 60 = y at *
  generalize pk b 201 = z at *
  have HT' : Hid _ := HT
  have HU' : Hid _ := HU
  have HR' : Hid _ := HR
  clear HT HU HR
  have w1 : IntKind.i64.wrap (1 + x) = 1 + x := wrapi ⟨by omega, by omega⟩
  have w2 : IntKind.i64.wrap (1 + y) = 1 + y := wrapi ⟨by omega, by omega⟩
  go_enter Try.func33, Try.ntmps33
  go_wp2_with fail
  go_region_held3 (fun W => W.cell? ⟨w.heap.size, 0, none⟩ = some (.int .i64 c) ∧ W.cell? ⟨w.heap.size, 1, none⟩ = some (.int .i64 p) ∧ W.cell? ⟨w.heap.size, 2, none⟩ = some (.int .i64 b)) ((simp [go_sem, World.cell?_alloc_past]))
    (first | (go_at_call_of 19 (Value.int IntKind.i64 9); refine (HT'.out _).mono ?_; rintro e w' ⟨rfl, rfl⟩) | (go_at_call_of 19 (Value.int IntKind.i64 60); refine (HU'.out _).mono ?_; rintro e w' ⟨rfl, rfl⟩) | (go_at_call_of 19 (Value.int IntKind.i64 201); refine (HR'.out _).mono ?_; rintro e w' ⟨rfl, rfl⟩))
  all_goals go_wp2
  all_goals (exact bodyPost_ret (v := .agg #[.int .i64 (1 + x), .int .i64 (1 + y), .int .i64 z]) (by simp [results, Try.results33, go_sem, World.cell?_alloc_past]) rfl ⟨rfl, (((Chg.refl _ _).alloc _).alloc _).drew⟩)
end Go.Proofs.Ytbdnhllhdjepcaa
