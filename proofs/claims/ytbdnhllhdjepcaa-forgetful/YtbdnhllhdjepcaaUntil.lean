import Derived.Test.YtbdnhllhdjepcaaKmath
namespace Go.Proofs.Ytbdnhllhdjepcaa
set_option linter.unusedVariables false
set_option linter.unusedSimpArgs false
open Go.RowKit Go.Maps

theorem untilL_take (gs : List Gr) (lv t u r iv : Int) (j : Nat) (h : j < gs.length) : untilL (gs.take (j + 1)) lv t u r iv = ust lv t u r iv (untilL (gs.take j) lv t u r iv) gs[j] := by
  rw [← List.take_append_getElem h, untilL_snoc]
theorem untilL_bd (lv t u r iv : Int) (hiv : 0 ≤ iv) (hiv' : iv ≤ 1000) (gs : List Gr) : (∀ g ∈ gs, 0 ≤ g.c ∧ g.c ≤ 1000) → (∀ g ∈ gs, 0 ≤ g.t ∧ g.t ≤ 1000000) → 0 ≤ untilL gs lv t u r iv ∧ untilL gs lv t u r iv ≤ 1000000 + 1000000 * gs.length := by
  refine snoc_ind (P := fun gs => (∀ g ∈ gs, 0 ≤ g.c ∧ g.c ≤ 1000) → (∀ g ∈ gs, 0 ≤ g.t ∧ g.t ≤ 1000000) → 0 ≤ untilL gs lv t u r iv ∧ untilL gs lv t u r iv ≤ 1000000 + 1000000 * gs.length) ?_ ?_ gs
  · intro _ _; simp [untilL]
  · intro gs g ih h1 h2
    have ih := ih (fun x hx => h1 x (by simp [hx])) (fun x hx => h2 x (by simp [hx]))
    have hc := h1 g (by simp)
    have ht := h2 g (by simp)
    have hm := mul_small hc.1 hc.2 hiv hiv'
    rw [untilL_snoc, List.length_append]
    simp only [List.length_cons, List.length_nil]
    unfold ust
    split <;> omega
set_option maxRecDepth 100000 in
set_option maxHeartbeats 2000000 in
theorem until_any (la : Option Addr) (lb cap : Nat) (gs : List Gr) (lv t u r iv : Int) (w : World) (hgs : GsAt w la lb gs) (hlv : 0 ≤ lv ∧ lv < 3) (hlen : gs.length ≤ 1000) (hcs : ∀ g ∈ gs, 0 ≤ g.c ∧ g.c ≤ 1000) (hts : ∀ g ∈ gs, 0 ≤ g.t ∧ g.t ≤ 1000000) (hiv : 0 ≤ iv) (hiv' : iv ≤ 1000) :
    Calls Try.prog 41 #[.slice la gs.length cap, .int .i64 lv, .agg #[.int .u16 t, .int .u16 u, .int .u16 r], .int .i64 iv] w fun e w' => e = .returned (.int .i64 (untilL gs lv t u r iv)) ∧ Chg [] w w' := by
  obtain ⟨len, hlen'⟩ : ∃ len, len = gs.length := ⟨_, rfl⟩
  rw [← hlen']
  have HLEN : Hid (len = gs.length) := hlen'
  rw [← hlen'] at hlen
  have HGS : Hid (GsAt w la lb gs) := hgs
  have HCS : Hid (∀ g ∈ gs, 0 ≤ g.c ∧ g.c ≤ 1000) := hcs
  have HTS : Hid (∀ g ∈ gs, 0 ≤ g.t ∧ g.t ≤ 1000000) := hts
  have HSH : Hid (∀ a b c W, Calls Try.prog 42 #[.int .i64 lv, .agg #[.int .u16 a, .int .u16 b, .int .u16 c], .agg #[.int .u16 t, .int .u16 u, .int .u16 r]] W fun e w' => e = .returned (.bool (shr lv a b c t u r)) ∧ Chg [] W w') := fun a b c W => shares_any lv a b c t u r W hlv
  clear hlen' hgs hcs hts hlv
  go_enter Try.func41, Try.ntmps41
  go_wp2_with fail
  go_loopw [9, 10] (fun n i wr => ∃ k : Nat, k ≤ len ∧ i = .int .i64 k ∧ n = .int .i64 (untilL (gs.take k) lv t u r iv) ∧ Chg [] w wr ∧ wr.heap[w.heap.size]? = some (.cells [.int .u16 t, .int .u16 u, .int .u16 r].toArray 47 (0, 0))) (fun _ i _ => len - (intOf i).toNat)
  case atStart => exact ⟨0, by omega, rfl, by simp [untilL], (Chg.refl _ _).alloc _, heap_alloc_new w _⟩
  case round =>
    obtain ⟨k, hk, rfl, rfl, hcr, hbx⟩ := hrel
    have hsb := untilL_bd lv t u r iv hiv hiv' (gs.take k) (fun g hg => HCS.out g (List.mem_of_mem_take hg)) (fun g hg => HTS.out g (List.mem_of_mem_take hg))
    rw [List.length_take] at hsb
    have hsb' : 0 ≤ untilL (gs.take k) lv t u r iv ∧ untilL (gs.take k) lv t u r iv ≤ 2000000000 := by have := HLEN.out; omega
    clear hsb
    by_cases hlt : k < len
    · have hkl : k < gs.length := by rw [← HLEN.out]; exact hlt
      obtain ⟨hla, hlb⟩ := HGS.out.1 (by omega)
      subst hla
      have hat := HGS.out.2 k hkl
      have hst := untilL_take gs lv t u r iv k hkl
      have hcc := HCS.out _ (List.getElem_mem hkl)
      have htt := HTS.out _ (List.getElem_mem hkl)
      have HST : Hid (untilL (gs.take (k + 1)) lv t u r iv = ust lv t u r iv (untilL (gs.take k) lv t u r iv) gs[k]) := hst
      generalize gs[k] = g at *
      have HAT : Hid (∀ W, Chg [] wr W → (W.cell? ⟨lb, k * 5, none⟩ = some (.int .i64 g.t) ∧ W.cell? ⟨lb, k * 5 + 1, none⟩ = some (.int .u16 g.kt) ∧ W.cell? ⟨lb, k * 5 + 2, none⟩ = some (.int .u16 g.ku) ∧ W.cell? ⟨lb, k * 5 + 3, none⟩ = some (.int .u16 g.kr) ∧ W.cell? ⟨lb, k * 5 + 4, none⟩ = some (.int .i64 g.c) ∧ W.cell? ⟨w.heap.size, 0, none⟩ = some (.int .u16 t) ∧ W.cell? ⟨w.heap.size, 1, none⟩ = some (.int .u16 u) ∧ W.cell? ⟨w.heap.size, 2, none⟩ = some (.int .u16 r))) := fun W hW => by
        have h1 := hat.chg (hcr.trans hW (by simp)) (by simp)
        have h2 := hW.blk hbx (by simp)
        exact ⟨h1.1, h1.2.1, h1.2.2.1, h1.2.2.2.1, h1.2.2.2.2, blk_cell h2 rfl, blk_cell h2 rfl, blk_cell h2 rfl⟩
      generalize untilL (gs.take k) lv t u r iv = s0 at *
      have HONE : Hid (ust lv t u r iv s0 g = if shr lv g.kt g.ku g.kr t u r then max s0 g.t + g.c * iv else s0) := rfl
      generalize ust lv t u r iv s0 g = s1 at *
      have hmu := mul_small hcc.1 hcc.2 hiv hiv'
      clear hat hst
      have v0 : Chg [] wr wr.drew := (Chg.refl _ _).drew
      obtain ⟨d0, d1, d2, d3, d4, d5, d6, d7⟩ := HAT.out wr (Chg.refl _ _)
      have hk1 : (k : Int) < (len : Int) := by omega
      generalize hsr : shr lv g.kt g.ku g.kr t u r = sb at *
      go_upto_region 5 with fail
      go_region_held3 (fun W => W.cell? ⟨lb, k * 5, none⟩ = some (.int .i64 g.t) ∧ W.cell? ⟨lb, k * 5 + 1, none⟩ = some (.int .u16 g.kt) ∧ W.cell? ⟨lb, k * 5 + 2, none⟩ = some (.int .u16 g.ku) ∧ W.cell? ⟨lb, k * 5 + 3, none⟩ = some (.int .u16 g.kr) ∧ W.cell? ⟨lb, k * 5 + 4, none⟩ = some (.int .i64 g.c) ∧ W.cell? ⟨w.heap.size, 0, none⟩ = some (.int .u16 t) ∧ W.cell? ⟨w.heap.size, 1, none⟩ = some (.int .u16 u) ∧ W.cell? ⟨w.heap.size, 2, none⟩ = some (.int .u16 r))
        (first | with_reducible exact HAT.out _ v1 | with_reducible exact HAT.out _ v0)
        (first | (go_at_call 42; refine (HSH.out _ _ _ _).mono ?_; rintro e w1 ⟨rfl, q1⟩; have v1 : Chg [] wr w1 := v0.trans q1 (by simp)))
      have hc1 := hcr.trans v1 (by simp)
      have hb1 := v1.blk hbx (by simp)
      obtain ⟨d0, d1, d2, d3, d4, d5, d6, d7⟩ := HAT.out w1 v1
      cases sb
      · have HS1 : Hid (s1 = s0) := (by have := HONE.out; simpa using this : s1 = s0)
        go_wp2
        go_roundw
        case rel => exact ⟨k + 1, by omega, by go_num, by rw [HST.out, HS1.out], hc1, hb1⟩
        case measure => simp [intOf]; omega
      · by_cases hft : s0 < g.t
        · have HS1 : Hid (s1 = g.t + g.c * iv) := (by have := HONE.out; rw [if_pos rfl] at this; omega : s1 = g.t + g.c * iv)
          go_wp2
          go_roundw
          case rel => exact ⟨k + 1, by omega, by go_num, by rw [HST.out, HS1.out], hc1, hb1⟩
          case measure => simp [intOf]; omega
        · have HS1 : Hid (s1 = s0 + g.c * iv) := (by have := HONE.out; rw [if_pos rfl] at this; omega : s1 = s0 + g.c * iv)
          go_wp2
          go_roundw
          case rel => exact ⟨k + 1, by omega, by go_num, by rw [HST.out, HS1.out], hc1, hb1⟩
          case measure => simp [intOf]; omega
    · go_wp2
      go_ret
      have hkk : k = gs.length := by have := HLEN.out; omega
      rw [hkk, List.take_length]
      exact ⟨rfl, hcr⟩
end Go.Proofs.Ytbdnhllhdjepcaa
