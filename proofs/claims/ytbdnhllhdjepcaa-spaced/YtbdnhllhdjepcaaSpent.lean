import Derived.Test.YtbdnhllhdjepcaaGrants
namespace Go.Proofs.Ytbdnhllhdjepcaa
set_option linter.unusedVariables false
set_option linter.unusedSimpArgs false
open Go.RowKit Go.Maps

/-! ### what was let through, in memory -/
def GrAt (w : World) (b o : Nat) (g : Gr) : Prop := w.cell? ⟨b, o, none⟩ = some (.int .i64 g.t) ∧ w.cell? ⟨b, o + 1, none⟩ = some (.int .u16 g.kt) ∧ w.cell? ⟨b, o + 2, none⟩ = some (.int .u16 g.ku) ∧ w.cell? ⟨b, o + 3, none⟩ = some (.int .u16 g.kr) ∧ w.cell? ⟨b, o + 4, none⟩ = some (.int .i64 g.c)
def GsAt (w : World) (la : Option Addr) (lb : Nat) (gs : List Gr) : Prop := (0 < gs.length → la = some ⟨lb, 0, none⟩ ∧ lb < w.heap.size) ∧ ∀ j (h : j < gs.length), GrAt w lb (j * 5) gs[j]
theorem GrAt.chg {l : List Nat} {w w' : World} {b o : Nat} {g : Gr} (h : GrAt w b o g) (hc : Chg l w w') (hn : b ∉ l) : GrAt w' b o g := ⟨hc.cell h.1 hn, hc.cell h.2.1 hn, hc.cell h.2.2.1 hn, hc.cell h.2.2.2.1 hn, hc.cell h.2.2.2.2 hn⟩
theorem GsAt.chg {l : List Nat} {w w' : World} {la : Option Addr} {lb : Nat} {gs : List Gr} (h : GsAt w la lb gs) (hc : Chg l w w') (hn : 0 < gs.length → lb ∉ l) : GsAt w' la lb gs :=
  ⟨fun h0 => ⟨(h.1 h0).1, Nat.lt_of_lt_of_le (h.1 h0).2 hc.size⟩, fun j hj => (h.2 j hj).chg hc (hn (by omega))⟩
/-- what was let through of a key at a level, from a time on -/
def one (lv t u r frm : Int) (g : Gr) : Int := if shr lv g.kt g.ku g.kr t u r && decide (frm ≤ g.t) then g.c else 0
def spentL (gs : List Gr) (lv t u r frm : Int) : Int := (gs.map (one lv t u r frm)).sum
theorem spentL_take (gs : List Gr) (lv t u r frm : Int) (j : Nat) (h : j < gs.length) : spentL (gs.take (j + 1)) lv t u r frm = spentL (gs.take j) lv t u r frm + one lv t u r frm gs[j] := by
  rw [← List.take_append_getElem h]
  unfold spentL
  rw [List.map_append, List.sum_append]
  simp [-List.map_take]
theorem spentL_bd (lv t u r frm : Int) : ∀ gs : List Gr, (∀ g ∈ gs, 0 ≤ g.c ∧ g.c ≤ 1000) → 0 ≤ spentL gs lv t u r frm ∧ spentL gs lv t u r frm ≤ 1000 * gs.length
  | [], _ => by simp [spentL]
  | g :: gs, h => by
    have ih := spentL_bd lv t u r frm gs (fun x hx => h x (by simp [hx]))
    have hg := h g (by simp)
    have e : spentL (g :: gs) lv t u r frm = one lv t u r frm g + spentL gs lv t u r frm := by simp [spentL]
    have h1 : 0 ≤ one lv t u r frm g ∧ one lv t u r frm g ≤ 1000 := by unfold one; split <;> omega
    rw [e]
    simp only [List.length_cons]
    omega
set_option maxRecDepth 100000 in
set_option maxHeartbeats 2000000 in
theorem spent_any (la : Option Addr) (lb cap : Nat) (gs : List Gr) (lv t u r frm : Int) (w : World) (hgs : GsAt w la lb gs) (hlv : 0 ≤ lv ∧ lv < 3) (hlen : gs.length ≤ 1000) (hcs : ∀ g ∈ gs, 0 ≤ g.c ∧ g.c ≤ 1000) :
    Calls Try.prog 35 #[.slice la gs.length cap, .int .i64 lv, .agg #[.int .u16 t, .int .u16 u, .int .u16 r], .int .i64 frm] w fun e w' => e = .returned (.int .i64 (spentL gs lv t u r frm)) ∧ Chg [] w w' := by
  obtain ⟨len, hlen'⟩ : ∃ len, len = gs.length := ⟨_, rfl⟩
  rw [← hlen']
  have HLEN : Hid (len = gs.length) := hlen'
  rw [← hlen'] at hlen
  have HGS : Hid (GsAt w la lb gs) := hgs
  have HCS : Hid (∀ g ∈ gs, 0 ≤ g.c ∧ g.c ≤ 1000) := hcs
  have HSH : Hid (∀ a b c W, Calls Try.prog 42 #[.int .i64 lv, .agg #[.int .u16 a, .int .u16 b, .int .u16 c], .agg #[.int .u16 t, .int .u16 u, .int .u16 r]] W fun e w' => e = .returned (.bool (shr lv a b c t u r)) ∧ Chg [] W w') := fun a b c W => shares_any lv a b c t u r W hlv
  clear hlen' hgs hcs hlv
  go_enter Try.func35, Try.ntmps35
  go_wp2_with fail
  go_loopw [9, 10] (fun n i wr => ∃ k : Nat, k ≤ len ∧ i = .int .i64 k ∧ n = .int .i64 (spentL (gs.take k) lv t u r frm) ∧ Chg [] w wr ∧ wr.heap[w.heap.size]? = some (.cells [.int .u16 t, .int .u16 u, .int .u16 r].toArray 47 (0, 0))) (fun _ i _ => len - (intOf i).toNat)
  case atStart => exact ⟨0, by omega, rfl, by simp [spentL], (Chg.refl _ _).alloc _, heap_alloc_new w _⟩
  case round =>
    obtain ⟨k, hk, rfl, rfl, hcr, hbx⟩ := hrel
    have hsb := spentL_bd lv t u r frm (gs.take k) (fun g hg => HCS.out g (List.mem_of_mem_take hg))
    rw [List.length_take] at hsb
    have hsb' : 0 ≤ spentL (gs.take k) lv t u r frm ∧ spentL (gs.take k) lv t u r frm ≤ 1000000 := by have := HLEN.out; omega
    clear hsb
    by_cases hlt : k < len
    · have hkl : k < gs.length := by rw [← HLEN.out]; exact hlt
      obtain ⟨hla, hlb⟩ := HGS.out.1 (by omega)
      subst hla
      have hat := HGS.out.2 k hkl
      have hst := spentL_take gs lv t u r frm k hkl
      have hcc := HCS.out _ (List.getElem_mem hkl)
      have HST : Hid (spentL (gs.take (k + 1)) lv t u r frm = spentL (gs.take k) lv t u r frm + one lv t u r frm gs[k]) := hst
      generalize gs[k] = g at *
      have HAT : Hid (∀ W, Chg [] wr W → (W.cell? ⟨lb, k * 5, none⟩ = some (.int .i64 g.t) ∧ W.cell? ⟨lb, k * 5 + 1, none⟩ = some (.int .u16 g.kt) ∧ W.cell? ⟨lb, k * 5 + 2, none⟩ = some (.int .u16 g.ku) ∧ W.cell? ⟨lb, k * 5 + 3, none⟩ = some (.int .u16 g.kr) ∧ W.cell? ⟨lb, k * 5 + 4, none⟩ = some (.int .i64 g.c) ∧ W.cell? ⟨w.heap.size, 0, none⟩ = some (.int .u16 t) ∧ W.cell? ⟨w.heap.size, 1, none⟩ = some (.int .u16 u) ∧ W.cell? ⟨w.heap.size, 2, none⟩ = some (.int .u16 r))) := fun W hW => by
        have h1 := hat.chg (hcr.trans hW (by simp)) (by simp)
        have h2 := hW.blk hbx (by simp)
        exact ⟨h1.1, h1.2.1, h1.2.2.1, h1.2.2.2.1, h1.2.2.2.2, blk_cell h2 rfl, blk_cell h2 rfl, blk_cell h2 rfl⟩
      have HONE : Hid (one lv t u r frm g = if shr lv g.kt g.ku g.kr t u r && decide (frm ≤ g.t) then g.c else 0) := rfl
      generalize spentL (gs.take k) lv t u r frm = s0 at *
      generalize one lv t u r frm g = s1 at *
      clear hat hst
      have v0 : Chg [] wr wr.drew := (Chg.refl _ _).drew
      obtain ⟨d0, d1, d2, d3, d4, d5, d6, d7⟩ := HAT.out wr (Chg.refl _ _)
      have hk1 : (k : Int) < (len : Int) := by omega
      generalize hsr : shr lv g.kt g.ku g.kr t u r = sb at *
      go_upto_region 5 with fail
      go_region_held3 (fun W => W.cell? ⟨lb, k * 5, none⟩ = some (.int .i64 g.t) ∧ W.cell? ⟨lb, k * 5 + 1, none⟩ = some (.int .u16 g.kt) ∧ W.cell? ⟨lb, k * 5 + 2, none⟩ = some (.int .u16 g.ku) ∧ W.cell? ⟨lb, k * 5 + 3, none⟩ = some (.int .u16 g.kr) ∧ W.cell? ⟨lb, k * 5 + 4, none⟩ = some (.int .i64 g.c) ∧ W.cell? ⟨w.heap.size, 0, none⟩ = some (.int .u16 t) ∧ W.cell? ⟨w.heap.size, 1, none⟩ = some (.int .u16 u) ∧ W.cell? ⟨w.heap.size, 2, none⟩ = some (.int .u16 r))
        (first | with_reducible exact HAT.out _ v1 | with_reducible exact HAT.out _ v0)
        (first | (go_at_call 42; refine (HSH.out _ _ _ _).mono ?_; rintro e w1 ⟨rfl, q1⟩; have v1 : Chg [] wr w1 := v0.trans q1 (by simp)))
      have hc1 := hcr.trans v1 (by simp)
      have hb1 := v1.blk hbx (by simp)
      obtain ⟨d0, d1, d2, d3, d4, d5, d6, d7⟩ := HAT.out w1 v1
      cases sb
      · have HS1 : Hid (s1 = 0) := (by have := HONE.out; simpa using this : s1 = 0)
        go_wp2
        go_roundw
        case rel => exact ⟨k + 1, by omega, by go_num, by rw [HST.out, HS1.out, Int.add_zero], hc1, hb1⟩
        case measure => simp [intOf]; omega
      · by_cases hft : frm ≤ g.t
        · have HS1 : Hid (s1 = g.c) := (by have := HONE.out; simpa [hft] using this : s1 = g.c)
          go_wp2
          go_roundw
          case rel => exact ⟨k + 1, by omega, by go_num, by rw [HST.out, HS1.out], hc1, hb1⟩
          case measure => simp [intOf]; omega
        · have HS1 : Hid (s1 = 0) := (by have := HONE.out; simpa [hft] using this : s1 = 0)
          go_wp2
          go_roundw
          case rel => exact ⟨k + 1, by omega, by go_num, by rw [HST.out, HS1.out, Int.add_zero], hc1, hb1⟩
          case measure => simp [intOf]; omega
    · go_wp2
      go_ret
      have hkk : k = gs.length := by have := HLEN.out; omega
      rw [hkk, List.take_length]
      exact ⟨rfl, hcr⟩
end Go.Proofs.Ytbdnhllhdjepcaa
