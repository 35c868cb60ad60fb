import Derived.Test.YtbdnhllhdjepcaaSpent
namespace Go.Proofs.Ytbdnhllhdjepcaa
set_option linter.unusedVariables false
set_option linter.unusedSimpArgs false
open Go.RowKit Go.Maps

/-- a quota of small numbers -/
def Sq (c p b : Int) : Prop := 1 ≤ c ∧ c ≤ 1000 ∧ 1 ≤ p ∧ p ≤ 1000 ∧ 0 ≤ b ∧ b ≤ 1000
theorem Sq.iv {c p b : Int} (h : Sq c p b) : 1 ≤ ivl c p ∧ ivl c p ≤ 1000 := by
  obtain ⟨h1, h2, h3, h4, _⟩ := h
  have := ivl_le h1 h3
  have e : ivl c p = (p - 1) / c + 1 := rfl
  have : 0 ≤ (p - 1) / c := Int.ediv_nonneg (by omega) (by omega)
  omega
theorem mul_small {a b A B : Int} (ha : 0 ≤ a) (ha' : a ≤ A) (hb : 0 ≤ b) (hb' : b ≤ B) : 0 ≤ a * b ∧ a * b ≤ A * B :=
  ⟨Int.mul_nonneg ha hb, Int.mul_le_mul ha' hb' hb (by omega)⟩
/-- would it break from the time of a grant on? -/
def brk (gs : List Gr) (iv bu lv t u r cost now : Int) (g : Gr) : Bool := decide (now - g.t + (bu + iv) < (spentL gs lv t u r g.t + cost) * iv)
def neededL (gs : List Gr) (iv bu lv t u r cost now : Int) : Bool := decide (bu + iv < cost * iv) || gs.any (brk gs iv bu lv t u r cost now)
theorem any_true {α : Type} {l : List α} {f : α → Bool} {k : Nat} (h : k < l.length) (hf : f l[k] = true) : l.any f = true := List.any_eq_true.2 ⟨_, List.getElem_mem h, hf⟩
theorem any_false {α : Type} {l : List α} {f : α → Bool} (h : ∀ j (hj : j < l.length), f l[j] = false) : l.any f = false := by
  rw [List.any_eq_false]
  intro x hx
  obtain ⟨j, hj, rfl⟩ := List.getElem_of_mem hx
  simp [h j hj]

set_option maxRecDepth 100000 in
set_option maxHeartbeats 4000000 in
theorem needed0 (la : Option Addr) (lb cap : Nat) (gs : List Gr) (c0 p0 b0 c1 p1 b1 c2 p2 b2 sh sl ev de qu : Int) (t u r cost now : Int) (w : World) (hgs : GsAt w la lb gs) (hlen : gs.length ≤ 100) (hcs : ∀ g ∈ gs, 0 ≤ g.c ∧ g.c ≤ 1000) (hts : ∀ g ∈ gs, 0 ≤ g.t ∧ g.t ≤ 1000000) (hq : Sq c0 p0 b0) (hc : 0 ≤ cost) (hc' : cost ≤ 1000) (hn : 0 ≤ now) (hn' : now ≤ 1000000) :
    Calls Try.prog 18 #[.slice la gs.length cap, .agg #[.int .i64 c0, .int .i64 p0, .int .i64 b0, .int .i64 c1, .int .i64 p1, .int .i64 b1, .int .i64 c2, .int .i64 p2, .int .i64 b2, .slice none 0 0, .int .i64 sh, .int .i64 sl, .int .i64 ev, .int .i64 de, .int .i64 qu], .int .i64 0, .agg #[.int .u16 t, .int .u16 u, .int .u16 r], .int .i64 cost, .int .i64 now] w fun e w' => e = .returned (.bool (neededL gs (ivl c0 p0) b0 0 t u r cost now)) ∧ Chg [] w w' := by
  obtain ⟨len, hlen'⟩ : ∃ len, len = gs.length := ⟨_, rfl⟩
  have HSP : Hid (∀ frm W, Chg [] w W → Calls Try.prog 35 #[.slice la len cap, .int .i64 0, .agg #[.int .u16 t, .int .u16 u, .int .u16 r], .int .i64 frm] W fun e w' => e = .returned (.int .i64 (spentL gs 0 t u r frm)) ∧ Chg [] W w') := fun frm W hW => by
    rw [hlen']
    exact spent_any la lb cap gs 0 t u r frm W (hgs.chg hW (by simp)) (by decide) (by omega) hcs
  rw [← hlen']
  have HLEN : Hid (len = gs.length) := hlen'
  rw [← hlen'] at hlen
  have HGS : Hid (GsAt w la lb gs) := hgs
  have HCS : Hid (∀ g ∈ gs, 0 ≤ g.c ∧ g.c ≤ 1000) := hcs
  have HTS : Hid (∀ g ∈ gs, 0 ≤ g.t ∧ g.t ≤ 1000000) := hts
  have hiv := hq.iv
  have hb0 := hq.2.2.2.2
  have HIV : Hid (∀ W, Calls Try.prog 34 #[.agg #[.int .i64 c0, .int .i64 p0, .int .i64 b0]] W fun e w' => e = .returned (.int .i64 (ivl c0 p0)) ∧ Chg [] W w') := fun W => interval_any c0 p0 b0 W hq.1 hq.2.1 hq.2.2.1 hq.2.2.2.1
  generalize ivl c0 p0 = iv at *
  have hm0 := mul_small hc hc' (show 0 ≤ iv from by omega) hiv.2
  clear hlen' hgs hcs hts hq
  have gb : ∀ W, Chg [] ((w.alloc (.cells [.int .i64 c0, .int .i64 p0, .int .i64 b0, .int .i64 c1, .int .i64 p1, .int .i64 b1, .int .i64 c2, .int .i64 p2, .int .i64 b2, .slice none 0 0, .int .i64 sh, .int .i64 sl, .int .i64 ev, .int .i64 de, .int .i64 qu].toArray 30)).alloc (.cells [.int .u16 t, .int .u16 u, .int .u16 r].toArray 47)) W → W.heap[w.heap.size]? = some (.cells [.int .i64 c0, .int .i64 p0, .int .i64 b0, .int .i64 c1, .int .i64 p1, .int .i64 b1, .int .i64 c2, .int .i64 p2, .int .i64 b2, .slice none 0 0, .int .i64 sh, .int .i64 sl, .int .i64 ev, .int .i64 de, .int .i64 qu].toArray 30 (0, 0)) ∧ W.heap[w.heap.size + 1]? = some (.cells [.int .u16 t, .int .u16 u, .int .u16 r].toArray 47 (0, 0)) := fun W hW => ⟨hW.blk (heap_alloc2_old _ _ _) (by simp), hW.blk (heap_alloc2_new _ _ _) (by simp)⟩
  have HGB : Hid (∀ W, Chg [] ((w.alloc (.cells [.int .i64 c0, .int .i64 p0, .int .i64 b0, .int .i64 c1, .int .i64 p1, .int .i64 b1, .int .i64 c2, .int .i64 p2, .int .i64 b2, .slice none 0 0, .int .i64 sh, .int .i64 sl, .int .i64 ev, .int .i64 de, .int .i64 qu].toArray 30)).alloc (.cells [.int .u16 t, .int .u16 u, .int .u16 r].toArray 47)) W → W.heap[w.heap.size]? = some (.cells [.int .i64 c0, .int .i64 p0, .int .i64 b0, .int .i64 c1, .int .i64 p1, .int .i64 b1, .int .i64 c2, .int .i64 p2, .int .i64 b2, .slice none 0 0, .int .i64 sh, .int .i64 sl, .int .i64 ev, .int .i64 de, .int .i64 qu].toArray 30 (0, 0)) ∧ W.heap[w.heap.size + 1]? = some (.cells [.int .u16 t, .int .u16 u, .int .u16 r].toArray 47 (0, 0))) := gb
  clear gb
  go_enter Try.func18, Try.ntmps18
  go_wp2_with fail
  refine (HIV.out _).mono ?_
  rintro e w1 ⟨rfl, q1⟩
  obtain ⟨g1, g2⟩ := HGB.out w1 q1
  have hc1 : Chg [] w w1 := (((Chg.refl [] w).alloc _).alloc _).trans q1 (by simp)
  have f0 := blk_cell (i := 2) g1 rfl
  clear g1 q1 HGB HIV
  by_cases hbig : b0 + iv < cost * iv
  · go_wp2
    go_ret
    exact ⟨ret_bool (by simp [neededL, hbig]), hc1⟩
  · have HBIG : Hid (¬ b0 + iv < cost * iv) := hbig
    go_wp2_with fail
    go_loopw [15] (fun i wr => ∃ k : Nat, k ≤ len ∧ i = .int .i64 k ∧ (∀ j (hj : j < gs.length), j < k → brk gs iv b0 0 t u r cost now gs[j] = false) ∧ Chg [] w wr ∧ wr.heap[w.heap.size + 1]? = some (.cells [.int .u16 t, .int .u16 u, .int .u16 r].toArray 47 (0, 0))) (fun i _ => len - (intOf i).toNat)
    case atStart => exact ⟨0, by omega, rfl, fun j hj h => by omega, hc1, g2⟩
    case round =>
      obtain ⟨k, hk, rfl, hbr, hcr, hbx⟩ := hrel
      have HBR : Hid (∀ j (hj : j < gs.length), j < k → brk gs iv b0 0 t u r cost now gs[j] = false) := hbr
      clear hbr hc1 g2
      by_cases hlt : k < len
      · have hkl : k < gs.length := by rw [← HLEN.out]; exact hlt
        obtain ⟨hla, hlb⟩ := HGS.out.1 (by omega)
        subst hla
        have hat := HGS.out.2 k hkl
        have htt := HTS.out _ (List.getElem_mem hkl)
        have hsb := spentL_bd 0 t u r gs[k].t gs HCS.out
        have HK : Hid (brk gs iv b0 0 t u r cost now gs[k] = decide (now - gs[k].t + (b0 + iv) < (spentL gs 0 t u r gs[k].t + cost) * iv)) := rfl
        have HGK : Hid (∀ x : Bool, brk gs iv b0 0 t u r cost now gs[k] = x → ∀ j (hj : j < gs.length), j = k → brk gs iv b0 0 t u r cost now gs[j] = x) := fun x hx j hj hjk => by subst hjk; exact hx
        have HANY : Hid (brk gs iv b0 0 t u r cost now gs[k] = true → gs.any (brk gs iv b0 0 t u r cost now) = true) := fun h => any_true hkl h
        generalize gs[k] = g at *
        have hss : 0 ≤ spentL gs 0 t u r g.t ∧ spentL gs 0 t u r g.t ≤ 100000 := by have := HLEN.out; omega
        clear hsb
        have HAT : Hid (∀ W, Chg [] wr W → (W.cell? ⟨lb, k * 5, none⟩ = some (.int .i64 g.t) ∧ W.cell? ⟨w.heap.size + 1, 0, none⟩ = some (.int .u16 t) ∧ W.cell? ⟨w.heap.size + 1, 1, none⟩ = some (.int .u16 u) ∧ W.cell? ⟨w.heap.size + 1, 2, none⟩ = some (.int .u16 r))) := fun W hW => by
          have h1 := hat.chg (hcr.trans hW (by simp)) (by simp)
          have h2 := hW.blk hbx (by simp)
          exact ⟨h1.1, blk_cell h2 rfl, blk_cell h2 rfl, blk_cell h2 rfl⟩
        generalize brk gs iv b0 0 t u r cost now g = bk at *
        obtain ⟨sp, hsp⟩ : ∃ sp, spentL gs 0 t u r g.t = sp := ⟨_, rfl⟩
        rw [hsp] at hss HK
        have HSP2 : Hid (∀ W, Chg [] w W → Calls Try.prog 35 #[.slice (some ⟨lb, 0, none⟩) len cap, .int .i64 0, .agg #[.int .u16 t, .int .u16 u, .int .u16 r], .int .i64 g.t] W fun e w' => e = .returned (.int .i64 sp) ∧ Chg [] W w') := fun W hW => by
          have := HSP.out g.t W hW
          rw [hsp] at this
          exact this
        have hm1 := mul_small (show 0 ≤ sp + cost from by omega) (show sp + cost ≤ 200000 from by omega) (show 0 ≤ iv from by omega) hiv.2
        clear hat hsp
        have v0 : Chg [] wr wr.drew := (Chg.refl _ _).drew
        obtain ⟨d0, d5, d6, d7⟩ := HAT.out wr (Chg.refl _ _)
        have hk1 : (k : Int) < (len : Int) := by omega
        go_upto_region 8 with fail
        go_region_held3 (fun W => W.cell? ⟨lb, k * 5, none⟩ = some (.int .i64 g.t) ∧ W.cell? ⟨w.heap.size + 1, 0, none⟩ = some (.int .u16 t) ∧ W.cell? ⟨w.heap.size + 1, 1, none⟩ = some (.int .u16 u) ∧ W.cell? ⟨w.heap.size + 1, 2, none⟩ = some (.int .u16 r))
          (first | with_reducible exact HAT.out _ v1 | with_reducible exact HAT.out _ v0)
          (first | (go_at_call 35; refine (HSP2.out _ (hcr.trans v0 (by simp))).mono ?_; rintro e w2 ⟨rfl, q2⟩; have v1 : Chg [] wr w2 := v0.trans q2 (by simp)))
        have hc2 := hcr.trans v1 (by simp)
        have hb2 := v1.blk hbx (by simp)
        obtain ⟨d0, d5, d6, d7⟩ := HAT.out w2 v1
        by_cases hbk : now - g.t + (b0 + iv) < (sp + cost) * iv
        · go_wp2
          go_ret
          have := HANY.out (by rw [HK.out]; simpa using hbk)
          exact ⟨ret_bool (by simp [neededL, this]), hc2⟩
        · go_wp2
          go_roundw
          case rel =>
            refine ⟨k + 1, by omega, by go_num, fun j hj hjk => ?_, hc2, hb2⟩
            rcases Nat.lt_or_ge j k with h | h
            · exact HBR.out j hj h
            · exact HGK.out false (by rw [HK.out]; simpa using hbk) j hj (by omega)
          case measure => simp [intOf]; omega
      · go_wp2
        go_ret
        have hf := any_false (l := gs) (f := brk gs iv b0 0 t u r cost now) (fun j hj => HBR.out j hj (by have := HLEN.out; omega))
        have hb := HBIG.out
        exact ⟨ret_bool (by unfold neededL; rw [hf, Bool.or_false]; simpa using hb), hcr⟩

set_option maxRecDepth 100000 in
set_option maxHeartbeats 4000000 in
theorem needed1 (la : Option Addr) (lb cap : Nat) (gs : List Gr) (c0 p0 b0 c1 p1 b1 c2 p2 b2 sh sl ev de qu : Int) (t u r cost now : Int) (w : World) (hgs : GsAt w la lb gs) (hlen : gs.length ≤ 100) (hcs : ∀ g ∈ gs, 0 ≤ g.c ∧ g.c ≤ 1000) (hts : ∀ g ∈ gs, 0 ≤ g.t ∧ g.t ≤ 1000000) (hq : Sq c1 p1 b1) (hc : 0 ≤ cost) (hc' : cost ≤ 1000) (hn : 0 ≤ now) (hn' : now ≤ 1000000) :
    Calls Try.prog 18 #[.slice la gs.length cap, .agg #[.int .i64 c0, .int .i64 p0, .int .i64 b0, .int .i64 c1, .int .i64 p1, .int .i64 b1, .int .i64 c2, .int .i64 p2, .int .i64 b2, .slice none 0 0, .int .i64 sh, .int .i64 sl, .int .i64 ev, .int .i64 de, .int .i64 qu], .int .i64 1, .agg #[.int .u16 t, .int .u16 u, .int .u16 r], .int .i64 cost, .int .i64 now] w fun e w' => e = .returned (.bool (neededL gs (ivl c1 p1) b1 1 t u r cost now)) ∧ Chg [] w w' := by
  obtain ⟨len, hlen'⟩ : ∃ len, len = gs.length := ⟨_, rfl⟩
  have HSP : Hid (∀ frm W, Chg [] w W → Calls Try.prog 35 #[.slice la len cap, .int .i64 1, .agg #[.int .u16 t, .int .u16 u, .int .u16 r], .int .i64 frm] W fun e w' => e = .returned (.int .i64 (spentL gs 1 t u r frm)) ∧ Chg [] W w') := fun frm W hW => by
    rw [hlen']
    exact spent_any la lb cap gs 1 t u r frm W (hgs.chg hW (by simp)) (by decide) (by omega) hcs
  rw [← hlen']
  have HLEN : Hid (len = gs.length) := hlen'
  rw [← hlen'] at hlen
  have HGS : Hid (GsAt w la lb gs) := hgs
  have HCS : Hid (∀ g ∈ gs, 0 ≤ g.c ∧ g.c ≤ 1000) := hcs
  have HTS : Hid (∀ g ∈ gs, 0 ≤ g.t ∧ g.t ≤ 1000000) := hts
  have hiv := hq.iv
  have hb0 := hq.2.2.2.2
  have HIV : Hid (∀ W, Calls Try.prog 34 #[.agg #[.int .i64 c1, .int .i64 p1, .int .i64 b1]] W fun e w' => e = .returned (.int .i64 (ivl c1 p1)) ∧ Chg [] W w') := fun W => interval_any c1 p1 b1 W hq.1 hq.2.1 hq.2.2.1 hq.2.2.2.1
  generalize ivl c1 p1 = iv at *
  have hm0 := mul_small hc hc' (show 0 ≤ iv from by omega) hiv.2
  clear hlen' hgs hcs hts hq
  have gb : ∀ W, Chg [] ((w.alloc (.cells [.int .i64 c0, .int .i64 p0, .int .i64 b0, .int .i64 c1, .int .i64 p1, .int .i64 b1, .int .i64 c2, .int .i64 p2, .int .i64 b2, .slice none 0 0, .int .i64 sh, .int .i64 sl, .int .i64 ev, .int .i64 de, .int .i64 qu].toArray 30)).alloc (.cells [.int .u16 t, .int .u16 u, .int .u16 r].toArray 47)) W → W.heap[w.heap.size]? = some (.cells [.int .i64 c0, .int .i64 p0, .int .i64 b0, .int .i64 c1, .int .i64 p1, .int .i64 b1, .int .i64 c2, .int .i64 p2, .int .i64 b2, .slice none 0 0, .int .i64 sh, .int .i64 sl, .int .i64 ev, .int .i64 de, .int .i64 qu].toArray 30 (0, 0)) ∧ W.heap[w.heap.size + 1]? = some (.cells [.int .u16 t, .int .u16 u, .int .u16 r].toArray 47 (0, 0)) := fun W hW => ⟨hW.blk (heap_alloc2_old _ _ _) (by simp), hW.blk (heap_alloc2_new _ _ _) (by simp)⟩
  have HGB : Hid (∀ W, Chg [] ((w.alloc (.cells [.int .i64 c0, .int .i64 p0, .int .i64 b0, .int .i64 c1, .int .i64 p1, .int .i64 b1, .int .i64 c2, .int .i64 p2, .int .i64 b2, .slice none 0 0, .int .i64 sh, .int .i64 sl, .int .i64 ev, .int .i64 de, .int .i64 qu].toArray 30)).alloc (.cells [.int .u16 t, .int .u16 u, .int .u16 r].toArray 47)) W → W.heap[w.heap.size]? = some (.cells [.int .i64 c0, .int .i64 p0, .int .i64 b0, .int .i64 c1, .int .i64 p1, .int .i64 b1, .int .i64 c2, .int .i64 p2, .int .i64 b2, .slice none 0 0, .int .i64 sh, .int .i64 sl, .int .i64 ev, .int .i64 de, .int .i64 qu].toArray 30 (0, 0)) ∧ W.heap[w.heap.size + 1]? = some (.cells [.int .u16 t, .int .u16 u, .int .u16 r].toArray 47 (0, 0))) := gb
  clear gb
  go_enter Try.func18, Try.ntmps18
  go_wp2_with fail
  refine (HIV.out _).mono ?_
  rintro e w1 ⟨rfl, q1⟩
  obtain ⟨g1, g2⟩ := HGB.out w1 q1
  have hc1 : Chg [] w w1 := (((Chg.refl [] w).alloc _).alloc _).trans q1 (by simp)
  have f1 := blk_cell (i := 5) g1 rfl
  clear g1 q1 HGB HIV
  by_cases hbig : b1 + iv < cost * iv
  · go_wp2
    go_ret
    exact ⟨ret_bool (by simp [neededL, hbig]), hc1⟩
  · have HBIG : Hid (¬ b1 + iv < cost * iv) := hbig
    go_wp2_with fail
    go_loopw [15] (fun i wr => ∃ k : Nat, k ≤ len ∧ i = .int .i64 k ∧ (∀ j (hj : j < gs.length), j < k → brk gs iv b1 1 t u r cost now gs[j] = false) ∧ Chg [] w wr ∧ wr.heap[w.heap.size + 1]? = some (.cells [.int .u16 t, .int .u16 u, .int .u16 r].toArray 47 (0, 0))) (fun i _ => len - (intOf i).toNat)
    case atStart => exact ⟨0, by omega, rfl, fun j hj h => by omega, hc1, g2⟩
    case round =>
      obtain ⟨k, hk, rfl, hbr, hcr, hbx⟩ := hrel
      have HBR : Hid (∀ j (hj : j < gs.length), j < k → brk gs iv b1 1 t u r cost now gs[j] = false) := hbr
      clear hbr hc1 g2
      by_cases hlt : k < len
      · have hkl : k < gs.length := by rw [← HLEN.out]; exact hlt
        obtain ⟨hla, hlb⟩ := HGS.out.1 (by omega)
        subst hla
        have hat := HGS.out.2 k hkl
        have htt := HTS.out _ (List.getElem_mem hkl)
        have hsb := spentL_bd 1 t u r gs[k].t gs HCS.out
        have HK : Hid (brk gs iv b1 1 t u r cost now gs[k] = decide (now - gs[k].t + (b1 + iv) < (spentL gs 1 t u r gs[k].t + cost) * iv)) := rfl
        have HGK : Hid (∀ x : Bool, brk gs iv b1 1 t u r cost now gs[k] = x → ∀ j (hj : j < gs.length), j = k → brk gs iv b1 1 t u r cost now gs[j] = x) := fun x hx j hj hjk => by subst hjk; exact hx
        have HANY : Hid (brk gs iv b1 1 t u r cost now gs[k] = true → gs.any (brk gs iv b1 1 t u r cost now) = true) := fun h => any_true hkl h
        generalize gs[k] = g at *
        have hss : 0 ≤ spentL gs 1 t u r g.t ∧ spentL gs 1 t u r g.t ≤ 100000 := by have := HLEN.out; omega
        clear hsb
        have HAT : Hid (∀ W, Chg [] wr W → (W.cell? ⟨lb, k * 5, none⟩ = some (.int .i64 g.t) ∧ W.cell? ⟨w.heap.size + 1, 0, none⟩ = some (.int .u16 t) ∧ W.cell? ⟨w.heap.size + 1, 1, none⟩ = some (.int .u16 u) ∧ W.cell? ⟨w.heap.size + 1, 2, none⟩ = some (.int .u16 r))) := fun W hW => by
          have h1 := hat.chg (hcr.trans hW (by simp)) (by simp)
          have h2 := hW.blk hbx (by simp)
          exact ⟨h1.1, blk_cell h2 rfl, blk_cell h2 rfl, blk_cell h2 rfl⟩
        generalize brk gs iv b1 1 t u r cost now g = bk at *
        obtain ⟨sp, hsp⟩ : ∃ sp, spentL gs 1 t u r g.t = sp := ⟨_, rfl⟩
        rw [hsp] at hss HK
        have HSP2 : Hid (∀ W, Chg [] w W → Calls Try.prog 35 #[.slice (some ⟨lb, 0, none⟩) len cap, .int .i64 1, .agg #[.int .u16 t, .int .u16 u, .int .u16 r], .int .i64 g.t] W fun e w' => e = .returned (.int .i64 sp) ∧ Chg [] W w') := fun W hW => by
          have := HSP.out g.t W hW
          rw [hsp] at this
          exact this
        have hm1 := mul_small (show 0 ≤ sp + cost from by omega) (show sp + cost ≤ 200000 from by omega) (show 0 ≤ iv from by omega) hiv.2
        clear hat hsp
        have v0 : Chg [] wr wr.drew := (Chg.refl _ _).drew
        obtain ⟨d0, d5, d6, d7⟩ := HAT.out wr (Chg.refl _ _)
        have hk1 : (k : Int) < (len : Int) := by omega
        go_upto_region 8 with fail
        go_region_held3 (fun W => W.cell? ⟨lb, k * 5, none⟩ = some (.int .i64 g.t) ∧ W.cell? ⟨w.heap.size + 1, 0, none⟩ = some (.int .u16 t) ∧ W.cell? ⟨w.heap.size + 1, 1, none⟩ = some (.int .u16 u) ∧ W.cell? ⟨w.heap.size + 1, 2, none⟩ = some (.int .u16 r))
          (first | with_reducible exact HAT.out _ v1 | with_reducible exact HAT.out _ v0)
          (first | (go_at_call 35; refine (HSP2.out _ (hcr.trans v0 (by simp))).mono ?_; rintro e w2 ⟨rfl, q2⟩; have v1 : Chg [] wr w2 := v0.trans q2 (by simp)))
        have hc2 := hcr.trans v1 (by simp)
        have hb2 := v1.blk hbx (by simp)
        obtain ⟨d0, d5, d6, d7⟩ := HAT.out w2 v1
        by_cases hbk : now - g.t + (b1 + iv) < (sp + cost) * iv
        · go_wp2
          go_ret
          have := HANY.out (by rw [HK.out]; simpa using hbk)
          exact ⟨ret_bool (by simp [neededL, this]), hc2⟩
        · go_wp2
          go_roundw
          case rel =>
            refine ⟨k + 1, by omega, by go_num, fun j hj hjk => ?_, hc2, hb2⟩
            rcases Nat.lt_or_ge j k with h | h
            · exact HBR.out j hj h
            · exact HGK.out false (by rw [HK.out]; simpa using hbk) j hj (by omega)
          case measure => simp [intOf]; omega
      · go_wp2
        go_ret
        have hf := any_false (l := gs) (f := brk gs iv b1 1 t u r cost now) (fun j hj => HBR.out j hj (by have := HLEN.out; omega))
        have hb := HBIG.out
        exact ⟨ret_bool (by unfold neededL; rw [hf, Bool.or_false]; simpa using hb), hcr⟩

set_option maxRecDepth 100000 in
set_option maxHeartbeats 4000000 in
theorem needed2 (la : Option Addr) (lb cap : Nat) (gs : List Gr) (c0 p0 b0 c1 p1 b1 c2 p2 b2 sh sl ev de qu : Int) (t u r cost now : Int) (w : World) (hgs : GsAt w la lb gs) (hlen : gs.length ≤ 100) (hcs : ∀ g ∈ gs, 0 ≤ g.c ∧ g.c ≤ 1000) (hts : ∀ g ∈ gs, 0 ≤ g.t ∧ g.t ≤ 1000000) (hq : Sq c2 p2 b2) (hc : 0 ≤ cost) (hc' : cost ≤ 1000) (hn : 0 ≤ now) (hn' : now ≤ 1000000) :
    Calls Try.prog 18 #[.slice la gs.length cap, .agg #[.int .i64 c0, .int .i64 p0, .int .i64 b0, .int .i64 c1, .int .i64 p1, .int .i64 b1, .int .i64 c2, .int .i64 p2, .int .i64 b2, .slice none 0 0, .int .i64 sh, .int .i64 sl, .int .i64 ev, .int .i64 de, .int .i64 qu], .int .i64 2, .agg #[.int .u16 t, .int .u16 u, .int .u16 r], .int .i64 cost, .int .i64 now] w fun e w' => e = .returned (.bool (neededL gs (ivl c2 p2) b2 2 t u r cost now)) ∧ Chg [] w w' := by
  obtain ⟨len, hlen'⟩ : ∃ len, len = gs.length := ⟨_, rfl⟩
  have HSP : Hid (∀ frm W, Chg [] w W → Calls Try.prog 35 #[.slice la len cap, .int .i64 2, .agg #[.int .u16 t, .int .u16 u, .int .u16 r], .int .i64 frm] W fun e w' => e = .returned (.int .i64 (spentL gs 2 t u r frm)) ∧ Chg [] W w') := fun frm W hW => by
    rw [hlen']
    exact spent_any la lb cap gs 2 t u r frm W (hgs.chg hW (by simp)) (by decide) (by omega) hcs
  rw [← hlen']
  have HLEN : Hid (len = gs.length) := hlen'
  rw [← hlen'] at hlen
  have HGS : Hid (GsAt w la lb gs) := hgs
  have HCS : Hid (∀ g ∈ gs, 0 ≤ g.c ∧ g.c ≤ 1000) := hcs
  have HTS : Hid (∀ g ∈ gs, 0 ≤ g.t ∧ g.t ≤ 1000000) := hts
  have hiv := hq.iv
  have hb0 := hq.2.2.2.2
  have HIV : Hid (∀ W, Calls Try.prog 34 #[.agg #[.int .i64 c2, .int .i64 p2, .int .i64 b2]] W fun e w' => e = .returned (.int .i64 (ivl c2 p2)) ∧ Chg [] W w') := fun W => interval_any c2 p2 b2 W hq.1 hq.2.1 hq.2.2.1 hq.2.2.2.1
  generalize ivl c2 p2 = iv at *
  have hm0 := mul_small hc hc' (show 0 ≤ iv from by omega) hiv.2
  clear hlen' hgs hcs hts hq
  have gb : ∀ W, Chg [] ((w.alloc (.cells [.int .i64 c0, .int .i64 p0, .int .i64 b0, .int .i64 c1, .int .i64 p1, .int .i64 b1, .int .i64 c2, .int .i64 p2, .int .i64 b2, .slice none 0 0, .int .i64 sh, .int .i64 sl, .int .i64 ev, .int .i64 de, .int .i64 qu].toArray 30)).alloc (.cells [.int .u16 t, .int .u16 u, .int .u16 r].toArray 47)) W → W.heap[w.heap.size]? = some (.cells [.int .i64 c0, .int .i64 p0, .int .i64 b0, .int .i64 c1, .int .i64 p1, .int .i64 b1, .int .i64 c2, .int .i64 p2, .int .i64 b2, .slice none 0 0, .int .i64 sh, .int .i64 sl, .int .i64 ev, .int .i64 de, .int .i64 qu].toArray 30 (0, 0)) ∧ W.heap[w.heap.size + 1]? = some (.cells [.int .u16 t, .int .u16 u, .int .u16 r].toArray 47 (0, 0)) := fun W hW => ⟨hW.blk (heap_alloc2_old _ _ _) (by simp), hW.blk (heap_alloc2_new _ _ _) (by simp)⟩
  have HGB : Hid (∀ W, Chg [] ((w.alloc (.cells [.int .i64 c0, .int .i64 p0, .int .i64 b0, .int .i64 c1, .int .i64 p1, .int .i64 b1, .int .i64 c2, .int .i64 p2, .int .i64 b2, .slice none 0 0, .int .i64 sh, .int .i64 sl, .int .i64 ev, .int .i64 de, .int .i64 qu].toArray 30)).alloc (.cells [.int .u16 t, .int .u16 u, .int .u16 r].toArray 47)) W → W.heap[w.heap.size]? = some (.cells [.int .i64 c0, .int .i64 p0, .int .i64 b0, .int .i64 c1, .int .i64 p1, .int .i64 b1, .int .i64 c2, .int .i64 p2, .int .i64 b2, .slice none 0 0, .int .i64 sh, .int .i64 sl, .int .i64 ev, .int .i64 de, .int .i64 qu].toArray 30 (0, 0)) ∧ W.heap[w.heap.size + 1]? = some (.cells [.int .u16 t, .int .u16 u, .int .u16 r].toArray 47 (0, 0))) := gb
  clear gb
  go_enter Try.func18, Try.ntmps18
  go_wp2_with fail
  refine (HIV.out _).mono ?_
  rintro e w1 ⟨rfl, q1⟩
  obtain ⟨g1, g2⟩ := HGB.out w1 q1
  have hc1 : Chg [] w w1 := (((Chg.refl [] w).alloc _).alloc _).trans q1 (by simp)
  have f2 := blk_cell (i := 8) g1 rfl
  clear g1 q1 HGB HIV
  by_cases hbig : b2 + iv < cost * iv
  · go_wp2
    go_ret
    exact ⟨ret_bool (by simp [neededL, hbig]), hc1⟩
  · have HBIG : Hid (¬ b2 + iv < cost * iv) := hbig
    go_wp2_with fail
    go_loopw [15] (fun i wr => ∃ k : Nat, k ≤ len ∧ i = .int .i64 k ∧ (∀ j (hj : j < gs.length), j < k → brk gs iv b2 2 t u r cost now gs[j] = false) ∧ Chg [] w wr ∧ wr.heap[w.heap.size + 1]? = some (.cells [.int .u16 t, .int .u16 u, .int .u16 r].toArray 47 (0, 0))) (fun i _ => len - (intOf i).toNat)
    case atStart => exact ⟨0, by omega, rfl, fun j hj h => by omega, hc1, g2⟩
    case round =>
      obtain ⟨k, hk, rfl, hbr, hcr, hbx⟩ := hrel
      have HBR : Hid (∀ j (hj : j < gs.length), j < k → brk gs iv b2 2 t u r cost now gs[j] = false) := hbr
      clear hbr hc1 g2
      by_cases hlt : k < len
      · have hkl : k < gs.length := by rw [← HLEN.out]; exact hlt
        obtain ⟨hla, hlb⟩ := HGS.out.1 (by omega)
        subst hla
        have hat := HGS.out.2 k hkl
        have htt := HTS.out _ (List.getElem_mem hkl)
        have hsb := spentL_bd 2 t u r gs[k].t gs HCS.out
        have HK : Hid (brk gs iv b2 2 t u r cost now gs[k] = decide (now - gs[k].t + (b2 + iv) < (spentL gs 2 t u r gs[k].t + cost) * iv)) := rfl
        have HGK : Hid (∀ x : Bool, brk gs iv b2 2 t u r cost now gs[k] = x → ∀ j (hj : j < gs.length), j = k → brk gs iv b2 2 t u r cost now gs[j] = x) := fun x hx j hj hjk => by subst hjk; exact hx
        have HANY : Hid (brk gs iv b2 2 t u r cost now gs[k] = true → gs.any (brk gs iv b2 2 t u r cost now) = true) := fun h => any_true hkl h
        generalize gs[k] = g at *
        have hss : 0 ≤ spentL gs 2 t u r g.t ∧ spentL gs 2 t u r g.t ≤ 100000 := by have := HLEN.out; omega
        clear hsb
        have HAT : Hid (∀ W, Chg [] wr W → (W.cell? ⟨lb, k * 5, none⟩ = some (.int .i64 g.t) ∧ W.cell? ⟨w.heap.size + 1, 0, none⟩ = some (.int .u16 t) ∧ W.cell? ⟨w.heap.size + 1, 1, none⟩ = some (.int .u16 u) ∧ W.cell? ⟨w.heap.size + 1, 2, none⟩ = some (.int .u16 r))) := fun W hW => by
          have h1 := hat.chg (hcr.trans hW (by simp)) (by simp)
          have h2 := hW.blk hbx (by simp)
          exact ⟨h1.1, blk_cell h2 rfl, blk_cell h2 rfl, blk_cell h2 rfl⟩
        generalize brk gs iv b2 2 t u r cost now g = bk at *
        obtain ⟨sp, hsp⟩ : ∃ sp, spentL gs 2 t u r g.t = sp := ⟨_, rfl⟩
        rw [hsp] at hss HK
        have HSP2 : Hid (∀ W, Chg [] w W → Calls Try.prog 35 #[.slice (some ⟨lb, 0, none⟩) len cap, .int .i64 2, .agg #[.int .u16 t, .int .u16 u, .int .u16 r], .int .i64 g.t] W fun e w' => e = .returned (.int .i64 sp) ∧ Chg [] W w') := fun W hW => by
          have := HSP.out g.t W hW
          rw [hsp] at this
          exact this
        have hm1 := mul_small (show 0 ≤ sp + cost from by omega) (show sp + cost ≤ 200000 from by omega) (show 0 ≤ iv from by omega) hiv.2
        clear hat hsp
        have v0 : Chg [] wr wr.drew := (Chg.refl _ _).drew
        obtain ⟨d0, d5, d6, d7⟩ := HAT.out wr (Chg.refl _ _)
        have hk1 : (k : Int) < (len : Int) := by omega
        go_upto_region 8 with fail
        go_region_held3 (fun W => W.cell? ⟨lb, k * 5, none⟩ = some (.int .i64 g.t) ∧ W.cell? ⟨w.heap.size + 1, 0, none⟩ = some (.int .u16 t) ∧ W.cell? ⟨w.heap.size + 1, 1, none⟩ = some (.int .u16 u) ∧ W.cell? ⟨w.heap.size + 1, 2, none⟩ = some (.int .u16 r))
          (first | with_reducible exact HAT.out _ v1 | with_reducible exact HAT.out _ v0)
          (first | (go_at_call 35; refine (HSP2.out _ (hcr.trans v0 (by simp))).mono ?_; rintro e w2 ⟨rfl, q2⟩; have v1 : Chg [] wr w2 := v0.trans q2 (by simp)))
        have hc2 := hcr.trans v1 (by simp)
        have hb2 := v1.blk hbx (by simp)
        obtain ⟨d0, d5, d6, d7⟩ := HAT.out w2 v1
        by_cases hbk : now - g.t + (b2 + iv) < (sp + cost) * iv
        · go_wp2
          go_ret
          have := HANY.out (by rw [HK.out]; simpa using hbk)
          exact ⟨ret_bool (by simp [neededL, this]), hc2⟩
        · go_wp2
          go_roundw
          case rel =>
            refine ⟨k + 1, by omega, by go_num, fun j hj hjk => ?_, hc2, hb2⟩
            rcases Nat.lt_or_ge j k with h | h
            · exact HBR.out j hj h
            · exact HGK.out false (by rw [HK.out]; simpa using hbk) j hj (by omega)
          case measure => simp [intOf]; omega
      · go_wp2
        go_ret
        have hf := any_false (l := gs) (f := brk gs iv b2 2 t u r cost now) (fun j hj => HBR.out j hj (by have := HLEN.out; omega))
        have hb := HBIG.out
        exact ⟨ret_bool (by unfold neededL; rw [hf, Bool.or_false]; simpa using hb), hcr⟩
end Go.Proofs.Ytbdnhllhdjepcaa
