import Derived.Test.YtbdnhllhdjepcaaForget
namespace Go.Proofs.Ytbdnhllhdjepcaa
set_option linter.unusedVariables false
set_option linter.unusedSimpArgs false
open Go.RowKit Go.Maps

/-- the cells, and what the key reads as, of the place of a key at a level -/
def plc (t u r : Int) : Nat → List Value
  | 0 => [.int .i64 0, .int .u16 t, .int .u16 0, .int .u16 0]
  | 1 => [.int .i64 1, .int .u16 t, .int .u16 u, .int .u16 0]
  | _ => [.int .i64 2, .int .u16 t, .int .u16 u, .int .u16 r]
def plk (t u r : Int) : Nat → Lit
  | 0 => kl 0 t 0 0
  | 1 => kl 1 t u 0
  | _ => kl 2 t u r
theorem plk_key {t u r : Int} (ht : (Lit.int .u16 t).wf = true) (hu : (Lit.int .u16 u).wf = true) (hr : (Lit.int .u16 r).wf = true) (k : Nat) :
    keyOf Try.prog 140 (.agg (plc t u r k).toArray) = some (plk t u r k) := by
  match k with
  | 0 => exact keyOf_kl (by decide) ht (by decide) (by decide)
  | 1 => exact keyOf_kl (by decide) ht hu (by decide)
  | n + 2 => exact keyOf_kl (by decide) ht hu hr
/-- of the first k places those that are not kept -/
def miss (D : DW) (t u r : Int) : Nat → Int
  | 0 => 0
  | k + 1 => miss D t u r k + (if Maps.has D (plk t u r k) then 0 else 1)
theorem miss_bd (D : DW) (t u r : Int) (k : Nat) : 0 ≤ miss D t u r k ∧ miss D t u r k ≤ k := by
  induction k with
  | zero => simp [miss]
  | succ k ih => unfold miss; split <;> omega

theorem index0 (t u r : Int) : ∀ w : World, (Instr.index 141 (.agg (plv t u r)) (.int .i64 0)).run Try.prog w = .ok (.agg #[.int .i64 0, .int .u16 t, .int .u16 0, .int .u16 0]) w := fun _ => by kernel_rfl
theorem index1 (t u r : Int) : ∀ w : World, (Instr.index 141 (.agg (plv t u r)) (.int .i64 1)).run Try.prog w = .ok (.agg #[.int .i64 1, .int .u16 t, .int .u16 u, .int .u16 0]) w := fun _ => by kernel_rfl
theorem index2 (t u r : Int) : ∀ w : World, (Instr.index 141 (.agg (plv t u r)) (.int .i64 2)).run Try.prog w = .ok (.agg #[.int .i64 2, .int .u16 t, .int .u16 u, .int .u16 r]) w := fun _ => by kernel_rfl

/-- a look-up with 'ok', behind the block in which the place lies, in a statement that draws -/
theorem look_pl {w : World} {db n : Nat} {D : DW} {L t u r : Int} {l : Lit} (hown : w.ownsMap Try.prog 140 (plainElem Try.prog 40) db n D) (hkey : keyOf Try.prog 140 (.agg #[.int .i64 L, .int .u16 t, .int .u16 u, .int .u16 r]) = some l) :
    ∃ c : Int, (Instr.lookup 135 (.map (some db)) (.agg #[.int .i64 L, .int .u16 t, .int .u16 u, .int .u16 r]) true).run Try.prog (w.alloc (.cells #[.int .i64 L, .int .u16 t, .int .u16 u, .int .u16 r] 140)).drew =
      .ok (.tuple #[.int .u64 c, .bool (Maps.has D l)]) (w.alloc (.cells #[.int .i64 L, .int .u16 t, .int .u16 u, .int .u16 r] 140)).drew := by
  obtain ⟨v, ps, hrun, hv⟩ := (hown.alloc (.cells #[.int .i64 L, .int .u16 t, .int .u16 u, .int .u16 r] 140)).drew.look_ok law140 Try.underlying135 (Try.zeroValue40 _) (plainElem_int Try.underlying40 (by decide)) hkey
  obtain ⟨c, rfl, _⟩ := plainElem_int_inv Try.underlying40 hv
  exact ⟨c, hrun⟩

set_option maxRecDepth 100000 in
set_option maxHeartbeats 1000000 in
theorem hasRoom_any (sb db n : Nat) (slots t u r : Int) (D : DW) (w : World) (c3 : w.cell? ⟨sb, 3, none⟩ = some (.int .i64 slots)) (c4 : w.cell? ⟨sb, 4, none⟩ = some (.map (some db)))
    (hown : w.ownsMap Try.prog 140 (plainElem Try.prog 40) db n D) (hn : n ≤ 1000000) (ht : (Lit.int .u16 t).wf = true) (hu : (Lit.int .u16 u).wf = true) (hr : (Lit.int .u16 r).wf = true) :
    Calls Try.prog 64 #[.pointer (some ⟨sb, 0, none⟩), .agg (plv t u r)] w fun e w' => e = .returned (.bool (decide ((Maps.size D : Int) + miss D t u r 3 ≤ slots))) ∧ Chg [] w w' := by
  have hsl := World.block_lt_of_cell? w _ c4
  have hsz := hown.size_le
  go_enter Try.func64, Try.ntmps64
  go_wp2_with (first
    | (at_len; refine wpList_len_own _ rfl _ 135 rfl 140 40 Try.underlying135 _ db n D rfl (hown.alloc _) ?_))
  go_loopw [5, 16] (fun keys i wr => ∃ k : Nat, k ≤ 3 ∧ i = .int .i64 k ∧ keys = .int .i64 ((Maps.size D : Int) + miss D t u r k) ∧ Chg [] w wr) (fun _ i _ => 3 - (intOf i).toNat)
  case atStart => exact ⟨0, by omega, rfl, by simp [miss], (Chg.refl _ _).alloc _⟩
  case round =>
    obtain ⟨k, hk, rfl, rfl, hch⟩ := hrel
    have hmb := miss_bd D t u r k
    have c3r : wr.cell? ⟨sb, 3, none⟩ = some (.int .i64 slots) := (World.cell?_of_block (a := ⟨sb, 3, none⟩) (hch.block sb hsl (by simp))).trans c3
    have c4r : wr.cell? ⟨sb, 4, none⟩ = some (.map (some db)) := (World.cell?_of_block (a := ⟨sb, 4, none⟩) (hch.block sb hsl (by simp))).trans c4
    have hownr := hch.map hown (by simp)
    have ca : ∀ o, (wr.alloc o).cell? ⟨sb, 4, none⟩ = some (.map (some db)) := fun o => (World.cell?_alloc_past _ _ _ (World.block_lt_of_cell? _ _ c4r)).trans c4r
    by_cases hlt : k < 3
    · rcases (show k = 0 ∨ k = 1 ∨ k = 2 from by omega) with rfl | rfl | rfl
      · have hix := index0 t u r
        obtain ⟨c, hrun⟩ := look_pl hownr (keyOf_kl (by decide) ht (by decide) (by decide) : keyOf Try.prog 140 (.agg #[.int .i64 0, .int .u16 t, .int .u16 0, .int .u16 0]) = some (kl 0 t 0 0))
        have hms : Hid (miss D t u r 1 = miss D t u r 0 + (if Maps.has D (kl 0 t 0 0) then 0 else 1)) := rfl
        generalize Maps.has D (kl 0 t 0 0) = hh at *
        cases hh
        all_goals
          go_wp2_with fail
          go_region
          go_wp2
          go_roundw
          case rel => exact ⟨1, by omega, by go_num, by rw [hms.out]; first | (simp; done) | (simp; omega), (hch.alloc _).drew⟩
          case measure => simp [intOf]
      · have hix := index1 t u r
        obtain ⟨c, hrun⟩ := look_pl hownr (keyOf_kl (by decide) ht hu (by decide) : keyOf Try.prog 140 (.agg #[.int .i64 1, .int .u16 t, .int .u16 u, .int .u16 0]) = some (kl 1 t u 0))
        have hms : Hid (miss D t u r 2 = miss D t u r 1 + (if Maps.has D (kl 1 t u 0) then 0 else 1)) := rfl
        generalize Maps.has D (kl 1 t u 0) = hh at *
        cases hh
        all_goals
          go_wp2_with fail
          go_region
          go_wp2
          go_roundw
          case rel => exact ⟨2, by omega, by go_num, by rw [hms.out]; first | (simp; done) | (simp; omega), (hch.alloc _).drew⟩
          case measure => simp [intOf]
      · have hix := index2 t u r
        obtain ⟨c, hrun⟩ := look_pl hownr (keyOf_kl (by decide) ht hu hr : keyOf Try.prog 140 (.agg #[.int .i64 2, .int .u16 t, .int .u16 u, .int .u16 r]) = some (kl 2 t u r))
        have hms : Hid (miss D t u r 3 = miss D t u r 2 + (if Maps.has D (kl 2 t u r) then 0 else 1)) := rfl
        generalize Maps.has D (kl 2 t u r) = hh at *
        cases hh
        all_goals
          go_wp2_with fail
          go_region
          go_wp2
          go_roundw
          case rel => exact ⟨3, by omega, by go_num, by rw [hms.out]; first | (simp; done) | (simp; omega), (hch.alloc _).drew⟩
          case measure => simp [intOf]
    · obtain rfl : k = 3 := by omega
      go_wp2
      go_ret
      exact ⟨rfl, hch⟩
end Go.Proofs.Ytbdnhllhdjepcaa
