import Derived.Test.YtbdnhllhdjepcaaBytes
namespace Go.Proofs.Ytbdnhllhdjepcaa
set_option linter.unusedVariables false
set_option linter.unusedSimpArgs false
open Go.RowKit Go.Maps

theorem Try.info5 : (Try.prog.info? 5).map (fun i => (i.zero, i.size, i.bytes)) = some (some (.int .u8 0), 1, 1) := by kernel_rfl
theorem ek5 : ∃ i0, EK 158 5 i0 (.int .u8 0) 1 1 := by
  obtain ⟨i0, hi, hz0, hz1, hz2⟩ := info_parts Try.info5
  exact ⟨i0, Try.underlying158, hi, hz0, hz1, hz2, rfl, by decide, by decide, zero_one (z := Value.cells (.int .u8 0)) (by decide) (by decide)⟩
def bcl (b : UInt8) : List Value := [.int .u8 (b.toNat : Int)]
theorem bcl_len (b : UInt8) : (bcl b).length = 1 := rfl
def bcells (l : List UInt8) : List Value := l.flatMap bcl
theorem bc_one (l : List UInt8) : ∀ u ∈ bcells l, u.oneCell' = true := fun u hu => by
  simp only [bcells, List.mem_flatMap, bcl] at hu
  obtain ⟨a, _, hu⟩ := hu
  simp at hu
  rw [hu]; rfl
theorem bc_len (l : List UInt8) : (bcells l).length = l.length := by unfold bcells; rw [fm_len bcl_len]; omega
/-- the higher bytes of a number -/
def sh (n : Int) (i : Nat) : Int := n / 2 ^ (8 * i)
theorem sh_zero (n : Int) : sh n 0 = n := by simp [sh]
theorem sh_succ (n : Int) {i : Nat} (hi : i < 8) : sh n (i + 1) = sh n i / 256 := by
  unfold sh
  rcases (show i = 0 ∨ i = 1 ∨ i = 2 ∨ i = 3 ∨ i = 4 ∨ i = 5 ∨ i = 6 ∨ i = 7 from by omega) with rfl | rfl | rfl | rfl | rfl | rfl | rfl | rfl <;> simp <;> omega
theorem sh_bd {n : Int} (h0 : 0 ≤ n) (h1 : n ≤ 18446744073709551615) : ∀ i, i ≤ 8 → 0 ≤ sh n i ∧ sh n i ≤ 18446744073709551615
  | 0, _ => by rw [sh_zero]; exact ⟨h0, h1⟩
  | i + 1, hi => by have := sh_bd h0 h1 i (by omega); rw [sh_succ n (by omega)]; omega
theorem be_top (n : Int) (k : Nat) : be n (k + 1) = be (n / 256) k ++ [(n % 256).toNat.toUInt8] := rfl
set_option maxRecDepth 100000 in
set_option maxHeartbeats 1000000 in
theorem put_any (v : Value) (l : List UInt8) (n : Int) (k : Nat) (w : World) (h : Rw w 5 1 v l.length (bcells l)) (h0 : 0 ≤ n) (h1 : n ≤ 18446744073709551615) (hk : k ≤ 8) (hl : l.length ≤ 10000) :
    Calls Try.prog 79 #[v, .int .u64 n, .int .i64 k] w fun e w' => ∃ v', e = .returned v' ∧ Rw w' 5 1 v' (l ++ be n k).length (bcells (l ++ be n k)) ∧ Chg (own v) w w' ∧ (∀ b ∈ own v', b ∈ own v ∨ w.heap.size ≤ b) := by
  obtain ⟨i0, ek⟩ := ek5
  have HEK : Hid (EK 158 5 i0 (.int .u8 0) 1 1) := ek
  have hwk : IntKind.i64.wrap ((k : Int) - 1) = (k : Int) - 1 := by rw [IntKind.wrap_i64]; omega
  have HR : Hid (Rw w 5 1 v l.length (bcells l)) := h
  clear h ek
  go_enter Try.func79, Try.ntmps79
  go_wp2_with fail
  go_loopw [0, 7] (fun v1 ix wr => ∃ j : Nat, j ≤ k ∧ ix = .int .i64 ((j : Int) - 1) ∧ Rw wr 5 1 v1 (l ++ be (sh n j) (k - j)).length (bcells (l ++ be (sh n j) (k - j))) ∧ Chg (own v) w wr ∧ (∀ b ∈ own v1, b ∈ own v ∨ w.heap.size ≤ b)) (fun _ ix _ => (intOf ix + 1).toNat)
  case atStart => exact ⟨k, Nat.le_refl _, rfl, by simpa [be] using HR.out, Chg.refl _ _, fun b hb => Or.inl hb⟩
  case round =>
    obtain ⟨j, hj, rfl, hrw, hch, hox⟩ := hrel
    have hsb := sh_bd h0 h1 j (by omega)
    by_cases hj0 : j = 0
    · subst hj0
      have HRW : Hid (Rw wr 5 1 u0 (l ++ be n k).length (bcells (l ++ be n k)) ∧ Chg (own v) w wr ∧ (∀ b ∈ own u0, b ∈ own v ∨ w.heap.size ≤ b)) := ⟨by simpa [sh_zero] using hrw, hch, hox⟩
      clear hrw hch hox
      go_wp2
      go_ret
      exact ⟨_, rfl, HRW.out.1, HRW.out.2.1, HRW.out.2.2⟩
    · have hj1 : (0 : Int) ≤ (j : Int) - 1 := by omega
      have hwm : IntKind.i64.wrap (8 * ((j : Int) - 1)) = 8 * ((j : Int) - 1) := by rw [IntKind.wrap_i64]; omega
      have hsj := sh_succ n (show j - 1 < 8 from by omega)
      rw [show j - 1 + 1 = j from by omega] at hsj
      obtain ⟨x, hx⟩ : ∃ x, x = sh n (j - 1) % 256 := ⟨_, rfl⟩
      have hx' : n / 2 ^ (8 * (j - 1)) % 256 = x := hx.symm
      have hxb : 0 ≤ x ∧ x < 256 := by rw [hx]; omega
      have ecat : l ++ be (sh n j) (k - j) ++ [x.toNat.toUInt8] = l ++ be (sh n (j - 1)) (k - (j - 1)) := by
        rw [show k - (j - 1) = (k - j) + 1 from by omega, be_top, ← hsj, hx, List.append_assoc]
      have hb1 := heap_alloc_new wr (.cells [.int .u8 x].toArray 5)
      have hrA := hrw.chg (l := []) ((Chg.refl _ _).alloc (.cells [.int .u8 x].toArray 5)) (by simp)
      have hLl : (l ++ be (sh n j) (k - j)).length ≤ 20000 := by rw [List.length_append, be_len]; omega
      obtain ⟨v2, w2, hr2, hrw2, hgr2, how2⟩ := run_app HEK.out (wr.alloc (.cells [.int .u8 x].toArray 5)) 158 u0 _ _ hrA ⟨wr.heap.size, 0, none⟩ 1 1 (bcl x.toNat.toUInt8) rfl (fun z u hz => by
        rw [Addr.add_lit, Nat.zero_add]
        refine blk_cell hb1 ?_
        rw [← hz]; unfold bcl; rw [u8_back hxb.1 hxb.2]) (by intro u hu; simp [bcl] at hu; rw [hu]; rfl) (by decide) (by omega)
      have hc2 : Chg (own v) w w2 := (hch.alloc _).trans (grown_chg hgr2) (fun z hz => hox z hz)
      have hs := hch.size
      have ho2 : ∀ b ∈ own v2, b ∈ own v ∨ w.heap.size ≤ b := fun b hb => by
        rw [mem_own] at hb
        rcases how2 with e | e
        · rw [e] at hb; exact hox b (mem_own.2 hb)
        · rw [e] at hb; cases hb; right; simp; omega
      have hlen : (l ++ be (sh n j) (k - j)).length + 1 = (l ++ be (sh n (j - 1)) (k - (j - 1))).length := by rw [← ecat]; simp only [List.length_append, List.length_cons, List.length_nil]
      have hcc : bcells (l ++ be (sh n j) (k - j)) ++ bcl x.toNat.toUInt8 = bcells (l ++ be (sh n (j - 1)) (k - (j - 1))) := by rw [← ecat]; simp [bcells]
      rw [hlen, hcc] at hrw2
      have HRUN : Hid ((Builtin.append_ #[158, 158] 158 #[u0, .slice (some ⟨wr.heap.size, 0, none⟩) 1 1]).run Try.prog (wr.alloc (.cells #[.int .u8 x] 5)) = .ok v2 w2) := hr2
      have HNX : Hid (Rw w2 5 1 v2 (l ++ be (sh n (j - 1)) (k - (j - 1))).length (bcells (l ++ be (sh n (j - 1)) (k - (j - 1)))) ∧ Chg (own v) w w2 ∧ (∀ b ∈ own v2, b ∈ own v ∨ w.heap.size ≤ b)) := ⟨hrw2, hc2, ho2⟩
      clear hrw hch hox hsb hsj hx ecat hb1 hrA hLl hr2 hrw2 hgr2 how2 hc2 hs ho2 hlen hcc
      have hw2 : IntKind.i64.wrap ((j : Int) - 1 - 1) = (j : Int) - 1 - 1 := by rw [IntKind.wrap_i64]; omega
      go_wp2_with (at_builtin; refine Lib.wpList_append_run _ rfl _ _ _ _ rfl _ _ rfl rfl _ _ HRUN.out ?_)
      go_roundw
      case rel => exact ⟨j - 1, by omega, by go_num, HNX.out.1, HNX.out.2.1, HNX.out.2.2⟩
      case measure => simp [intOf]; omega
end Go.Proofs.Ytbdnhllhdjepcaa
