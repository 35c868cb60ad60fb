import Derived.Test.YtbdnhllhdjepcaaGreatCLu
import Derived.Test.YtbdnhllhdjepcaaGreatCLv
namespace Go.Proofs.YtbdnhllhdjepcaaGreat
set_option linter.unusedVariables false
set_option linter.unusedSimpArgs false
open Go.RowKit Go.Maps

/-! ### an item -/
set_option maxRecDepth 100000 in
set_option maxHeartbeats 4000000 in
theorem step_submit (K : Nat) (hK : K ≤ 900000000000) (m : Int) (c : Cf) (la : Option Addr) (os : List Ov) (cap : Nat) (t u r a it : Int) (tx : ByteArray) (ll : Option Addr) (ln lc : Nat) (w : World) (lo wb : Nat) (mv x1 x2 x3 x4 x5 : Value) (ps : List Pr) (N : Nat) (hw0 : WAt (QSim K) w lo wb mv x1 x2 x3 x4 x5 ps N) (hps : ps.length ≤ 1000000000000) (hm : I6 m) (ht : U16 t) (hit : U32 it) :
    Calls Tryz.prog 18 #[.pointer (some ⟨wb, 0, none⟩), .agg #[.int .i64 5, .int .i64 m, .int .i64 c.c0, .int .i64 c.p0, .int .i64 c.b0, .int .i64 c.c1, .int .i64 c.p1, .int .i64 c.b1, .int .i64 c.c2, .int .i64 c.p2, .int .i64 c.b2, .slice la os.length cap, .int .i64 c.sh, .int .i64 c.sl, .int .i64 c.ev, .int .i64 c.de, .int .i64 c.qu, .int .u16 t, .int .u16 u, .int .u16 r, .int .i64 a, .int .u32 it, .string tx, .slice ll ln lc]] w fun e w' => StpP (QSim (K + 1)) w w' lo wb mv x1 x2 x3 x4 x5 ps N e := by
  obtain ⟨Q, hQe⟩ : ∃ Q, Q = QSim (K + 1) := ⟨_, rfl⟩
  have hw : WAt Q w lo wb mv x1 x2 x3 x4 x5 ps N := hQe ▸ hw0.imp (fun q s hq => hq.mono (by omega))
  have hQ : QP Q := hQe ▸ qp_sim _
  have HW0 : Hid (WAt (QSim K) w lo wb mv x1 x2 x3 x4 x5 ps N) := hw0
  have HQE : Hid (Q = QSim (K + 1)) := hQe
  rw [← hQe]
  clear hw0 hQe
  have HQ : Hid (QP Q) := hQ
  have HWA : Hid (WAt Q w lo wb mv x1 x2 x3 x4 x5 ps N) := hw
  have hbx := heap_alloc_new w (.cells [.int .i64 5, .int .i64 m, .int .i64 c.c0, .int .i64 c.p0, .int .i64 c.b0, .int .i64 c.c1, .int .i64 c.p1, .int .i64 c.b1, .int .i64 c.c2, .int .i64 c.p2, .int .i64 c.b2, .slice la os.length cap, .int .i64 c.sh, .int .i64 c.sl, .int .i64 c.ev, .int .i64 c.de, .int .i64 c.qu, .int .u16 t, .int .u16 u, .int .u16 r, .int .i64 a, .int .u32 it, .string tx, .slice ll ln lc].toArray 62)
  have hcw : Chg [] w (w.alloc (.cells [.int .i64 5, .int .i64 m, .int .i64 c.c0, .int .i64 c.p0, .int .i64 c.b0, .int .i64 c.c1, .int .i64 c.p1, .int .i64 c.b1, .int .i64 c.c2, .int .i64 c.p2, .int .i64 c.b2, .slice la os.length cap, .int .i64 c.sh, .int .i64 c.sl, .int .i64 c.ev, .int .i64 c.de, .int .i64 c.qu, .int .u16 t, .int .u16 u, .int .u16 r, .int .i64 a, .int .u32 it, .string tx, .slice ll ln lc].toArray 62)) := (Chg.refl _ _).alloc _
  obtain ⟨wa, hwa⟩ : ∃ wa, wa = w.alloc (.cells [.int .i64 5, .int .i64 m, .int .i64 c.c0, .int .i64 c.p0, .int .i64 c.b0, .int .i64 c.c1, .int .i64 c.p1, .int .i64 c.b1, .int .i64 c.c2, .int .i64 c.p2, .int .i64 c.b2, .slice la os.length cap, .int .i64 c.sh, .int .i64 c.sl, .int .i64 c.ev, .int .i64 c.de, .int .i64 c.qu, .int .u16 t, .int .u16 u, .int .u16 r, .int .i64 a, .int .u32 it, .string tx, .slice ll ln lc].toArray 62) := ⟨_, rfl⟩
  rw [← hwa] at hbx hcw
  have hkw : w.alloc (.cells #[.int .i64 5, .int .i64 m, .int .i64 c.c0, .int .i64 c.p0, .int .i64 c.b0, .int .i64 c.c1, .int .i64 c.p1, .int .i64 c.b1, .int .i64 c.c2, .int .i64 c.p2, .int .i64 c.b2, .slice la os.length cap, .int .i64 c.sh, .int .i64 c.sl, .int .i64 c.ev, .int .i64 c.de, .int .i64 c.qu, .int .u16 t, .int .u16 u, .int .u16 r, .int .i64 a, .int .u32 it, .string tx, .slice ll ln lc] 62) = wa := hwa.symm
  have HBX : Hid (wa.heap[w.heap.size]? = some (.cells [.int .i64 5, .int .i64 m, .int .i64 c.c0, .int .i64 c.p0, .int .i64 c.b0, .int .i64 c.c1, .int .i64 c.p1, .int .i64 c.b1, .int .i64 c.c2, .int .i64 c.p2, .int .i64 c.b2, .slice la os.length cap, .int .i64 c.sh, .int .i64 c.sl, .int .i64 c.ev, .int .i64 c.de, .int .i64 c.qu, .int .u16 t, .int .u16 u, .int .u16 r, .int .i64 a, .int .u32 it, .string tx, .slice ll ln lc].toArray 62 (0, 0))) := hbx
  have HCW : Hid (Chg [] w wa) := hcw
  have b0 := blk_cell (i := 0) HBX.out rfl
  clear hwa hcw hbx hw hQ
  have HWa : Hid (WAt Q wa lo wb mv x1 x2 x3 x4 x5 ps N) := HWA.out.chg HCW.out (by simp)
  have y0 : wa.cell? ⟨wb, 0, none⟩ = some mv := blk_cell (i := 0) HWa.out.blk rfl
  obtain ⟨lam, lbm, lofm, capm, hmv, hl1, _, hl2, hl3⟩ := HWa.out.row.laid
  subst hmv
  have b1 := blk_cell (i := 1) HBX.out rfl
  have hwbl := lt_of_block HWa.out.blk
  have hbxl := lt_of_block HBX.out
  by_cases hz : ps.length = 0
  · have hz' : (ps.length : Int) = 0 := by omega
    clear hl1 hl2 hl3 b1
    go_enter Tryz.func18, Tryz.ntmps18
    go_wp2
    go_ret
    exact StpP.none HWA.out HCW.out
  obtain ⟨rfl, _⟩ := hl1 (by omega)
  have hlbl := hl2 (by omega)
  have hpk := pk_bd m ps.length (by omega)
  obtain ⟨j, hj⟩ : ∃ j : Nat, pk m ps.length = (j : Int) := ⟨(pk m ps.length).toNat, by omega⟩
  rw [hj] at hpk
  have hjl : j < ps.length := by omega
  have hz1 : ¬ (ps.length : Int) = 0 := by omega
  obtain ⟨p, hp⟩ : ∃ p, ps[j]? = some p := ⟨_, List.getElem?_eq_getElem hjl⟩
  have hpe : ps[j] = p := by rw [List.getElem?_eq_getElem hjl] at hp; cases hp; rfl
  have z0 := hl3 (j * 2 + 0) _ (by rw [pc_at ps j hjl 0 (by decide), hpe]; rfl)
  have z1 := hl3 (j * 2 + 1) _ (by rw [pc_at ps j hjl 1 (by decide), hpe]; rfl)
  simp only [Nat.add_zero, ← Nat.add_assoc] at z0 z1
  have HP : Hid (ps[j]? = some p) := hp
  have HPA : Hid (p.At Q wa) := HWa.out.each p (List.mem_of_getElem? hp)
  have HFEW : Hid (p.s.ms.length ≤ N) := HWa.out.few p (List.mem_of_getElem? hp)
  have HPk : Hid (∀ W, Calls Tryz.prog 36 #[.int .i64 m, .int .i64 (ps.length : Int)] W fun e w' => e = .returned (.int .i64 j) ∧ w' = W) := fun W => by
    rw [← hj]
    exact pick36 m ps.length W hm (by omega) (by omega)
  have HS : Hid (∀ W, Chg [] wa W → (W.cell? ⟨wb, 0, none⟩ = some (.slice (some ⟨lbm, lofm, none⟩) ps.length capm) ∧ W.cell? ⟨w.heap.size, 1, none⟩ = some (.int .i64 m) ∧ W.cell? ⟨lbm, lofm + j * 2, none⟩ = some (.pointer (some ⟨p.g.mb, 0, none⟩)) ∧ W.cell? ⟨lbm, lofm + j * 2 + 1, none⟩ = some (.pointer (some ⟨p.y, 0, none⟩)))) := fun W hW =>
    ⟨hW.cell y0 (by simp), hW.cell b1 (by simp), hW.cell z0 (by simp), hW.cell z1 (by simp)⟩
  clear hl1 hl2 hl3 hp hpe hm hj
  have hj0 : (0 : Int) ≤ (j : Int) := by omega
  have hj1 : (j : Int) < (ps.length : Int) := by omega
  have hbp := heap_alloc_new wa (.cells [.pointer (some ⟨p.g.mb, 0, none⟩), .pointer (some ⟨p.y, 0, none⟩)].toArray 109)
  obtain ⟨wp, hwp⟩ : ∃ wp, wp = (wa.alloc (.cells [.pointer (some ⟨p.g.mb, 0, none⟩), .pointer (some ⟨p.y, 0, none⟩)].toArray 109)).drew := ⟨_, rfl⟩
  have HBP : Hid (wp.heap[wa.heap.size]? = some (.cells [.pointer (some ⟨p.g.mb, 0, none⟩), .pointer (some ⟨p.y, 0, none⟩)].toArray 109 (0, 0))) := hwp ▸ hbp
  have HCP : Hid (Chg [] wa wp) := hwp ▸ ((Chg.refl _ _).alloc _).drew
  have hkp : (wa.alloc (.cells #[.pointer (some ⟨p.g.mb, 0, none⟩), .pointer (some ⟨p.y, 0, none⟩)] 109)).drew = wp := hwp.symm
  clear hwp hbp
  have HBO : Hid (wp.heap[w.heap.size]? = some (.cells [.int .i64 5, .int .i64 m, .int .i64 c.c0, .int .i64 c.p0, .int .i64 c.b0, .int .i64 c.c1, .int .i64 c.p1, .int .i64 c.b1, .int .i64 c.c2, .int .i64 c.p2, .int .i64 c.b2, .slice la os.length cap, .int .i64 c.sh, .int .i64 c.sl, .int .i64 c.ev, .int .i64 c.de, .int .i64 c.qu, .int .u16 t, .int .u16 u, .int .u16 r, .int .i64 a, .int .u32 it, .string tx, .slice ll ln lc].toArray 62 (0, 0))) := HCP.out.blk HBX.out (by simp)
  have HLT : Hid (∀ b ∈ p.fp, b < w.heap.size) := (HWA.out.each p (List.mem_of_getElem? HP.out)).lt
  have hs0 := HCW.out.size
  obtain ⟨st, d, M, hB⟩ : ∃ st d M, Both Q wa p 40 41 [.int .u16 t, .int .u32 it] (.returned (.tuple #[.int .i64 st, .int .u64 d])) M := by
    rw [HQE.out]
    exact Pr.At.subs ((HW0.out.chg HCW.out (by simp)).each p (List.mem_of_getElem? HP.out)) hK ht hit
  have HB : Hid (Both Q wa p 40 41 [.int .u16 t, .int .u32 it] (.returned (.tuple #[.int .i64 st, .int .u64 d])) M) := hB
  clear hB
  go_enter Tryz.func18, Tryz.ntmps18
  go_wp2_with fail
  go_region_held3 (fun W => W.cell? ⟨wb, 0, none⟩ = some (.slice (some ⟨lbm, lofm, none⟩) ps.length capm) ∧ W.cell? ⟨w.heap.size, 1, none⟩ = some (.int .i64 m) ∧ W.cell? ⟨lbm, lofm + j * 2, none⟩ = some (.pointer (some ⟨p.g.mb, 0, none⟩)) ∧ W.cell? ⟨lbm, lofm + j * 2 + 1, none⟩ = some (.pointer (some ⟨p.y, 0, none⟩)))
    (first | exact HS.out _ ((Chg.refl _ _).drew) | exact HS.out _ (((Chg.refl _ _).drew).alloc _) | exact HS.out _ HCP.out | fail)
    (first | (go_at_call 36; refine (HPk.out _).mono ?_; rintro e w2 ⟨rfl, rfl⟩) | fail)
  all_goals
    have k0 := blk_cell (i := 0) HBO.out rfl
    have k17 := blk_cell (i := 17) HBO.out rfl
    have k21 := blk_cell (i := 21) HBO.out rfl
    have q0 := blk_cell (i := 0) HBP.out rfl
    go_wp2_with fail
    refine (HB.out.one wp HCP.out).mono ?_
    rintro e w2 ⟨rfl, hM⟩
    have c2 := HB.out.chg _ _ hM
    have sP := HCP.out.size
    have HM : Hid (M wp w2) := hM
    have s2 := c2.size
    have HBP2 : Hid (w2.heap[wa.heap.size]? = some (.cells [.pointer (some ⟨p.g.mb, 0, none⟩), .pointer (some ⟨p.y, 0, none⟩)].toArray 109 (0, 0))) := c2.blk HBP.out (fun hb => by have := HLT.out _ hb; omega)
    have HBO2 : Hid (w2.heap[w.heap.size]? = some (.cells [.int .i64 5, .int .i64 m, .int .i64 c.c0, .int .i64 c.p0, .int .i64 c.b0, .int .i64 c.c1, .int .i64 c.p1, .int .i64 c.b1, .int .i64 c.c2, .int .i64 c.p2, .int .i64 c.b2, .slice la os.length cap, .int .i64 c.sh, .int .i64 c.sl, .int .i64 c.ev, .int .i64 c.de, .int .i64 c.qu, .int .u16 t, .int .u16 u, .int .u16 r, .int .i64 a, .int .u32 it, .string tx, .slice ll ln lc].toArray 62 (0, 0))) := c2.blk HBO.out (fun hb => by have := HLT.out _ hb; omega)
    clear c2 hM
    have q1 := blk_cell (i := 1) HBP2.out rfl
    have j17 := blk_cell (i := 17) HBO2.out rfl
    have j21 := blk_cell (i := 21) HBO2.out rfl
    clear k0 k17 k21 q0
    go_wp2_with fail
    refine (HB.out.two wp w2 w2 HCP.out HM.out (Chg.refl _ _)).mono ?_
    rintro e w3 ⟨rfl, c3, p', hs⟩
    have HSP : Hid (PStp Q wp w3 p p') := hs
    clear hs q1 j17 j21 c3
    go_wp2_with fail
    refine (what_any _ _).mono ?_
    rintro e w5 ⟨rfl, rfl⟩
    go_wp2_with fail
    refine (what_any _ _).mono ?_
    rintro e w6 ⟨rfl, rfl⟩
    go_wp2
    go_ret
    exact StpP.upd HWA.out HP.out (PStp.head (HCW.out.trans HCP.out (by simp)) HSP.out)
end Go.Proofs.YtbdnhllhdjepcaaGreat
namespace Go.Proofs.YtbdnhllhdjepcaaGreat
set_option linter.unusedVariables false
set_option linter.unusedSimpArgs false
open Go.RowKit Go.Maps

/-! ### items are told -/
theorem StpL.none {K : Nat} {w w' : World} {lo wb : Nat} {mv x1 x2 x3 x4 : Value} {nx : Int} {ps : List Pr} {N : Nat} {L : List Lst} (h : WL K w lo wb mv x1 x2 x3 x4 nx ps N L) (hc : Chg [] w w') : StpL K w w' lo wb x2 x4 ps N L (.returned (.bool true)) :=
  WL.of (Nat.le_succ K) h (StpP.none h.at_ hc)
/-- a pair has told, both alike: what is left is to make the list its caller's -/
theorem WL.told {K : Nat} {w wp w1 w3 w5 W wz : World} {lo wb : Nat} {mv x1 x2 x3 x4 v v2 : Value} {nx m : Int} {ps : List Pr} {N : Nat} {L : List Lst} {j k : Nat} {p p' : Pr} {l : List It} {e : Ending} (h : WL K w lo wb mv x1 x2 x3 x4 nx ps N L) (hj : ps[j]? = some p) (hwp : Chg [] w wp) (hb : PolB K wp w1 w3 p p' k v v2 l) (h5 : Chg [] w3 w5) (hm : 0 ≤ m ∧ m ≤ 4294967295) (ho : OwnE w5 W wb mv x1 x2 x3 x4 m v L e) (hz : Chg [] W wz) : StpL K w wz lo wb x2 x4 ps N L (.returned (.bool true)) := by
  have hst : PStp (QSim K) w w5 p p' := (PStp.head hwp hb.stp).tail h5
  obtain ⟨u1, u2⟩ := h.at_.upd hj hst
  obtain ⟨_, X1, X3, L', ho⟩ := ho
  have hlow : lo ≤ w.heap.size := by
    have h1 := h.at_.lo wb (mem_wfp.2 (.inl rfl))
    have h2 := h.at_.lt wb (mem_wfp.2 (.inl rfl))
    omega
  have hsz := hwp.size
  have h5L : WL K w5 lo wb mv x1 x2 x3 x4 nx (ps.set j p') (N + 3) L := ⟨u1, h.ls.chg u2.chg h.sep, fun b hb' hb2 => by
    rcases u2.new b hb2 with hx | hx
    · exact h.sep b hb' hx
    · have := h.ls.lt b hb'; omega, h.low, h.nx⟩
  have hv : ∀ b ∈ own v, b ∉ wfp wb mv (ps.set j p') := fun b hb' hb2 => by
    obtain ⟨n1, n2⟩ := hb.new b hb'
    rcases mem_wfp.1 hb2 with hw | hw | ⟨q, hq, hw⟩
    · subst hw
      have := h.at_.lt b (mem_wfp.2 (.inl rfl)); omega
    · have := h.at_.lt b (mem_wfp.2 (.inr (.inl hw))); omega
    · rcases List.mem_or_eq_of_mem_set hq with hq | hq
      · have := h.at_.lt b (mem_wfp.2 (.inr (.inr ⟨q, hq, hw⟩))); omega
      · rw [hq] at hw
        exact n2 hw
  have hfin := (h5L.owned ho hv (fun b hb' => by have := (hb.new b hb').1; omega) hm hz).mono (Nat.le_succ K)
  refine ⟨rfl, mv, X1, X3, m, ps.set j p', L', hfin, by rw [List.length_set]; omega, by rw [ho.len]; omega, wfp wb mv ps ++ ([wb] ++ own v ++ own x1 ++ own x3), fun b hb' => ?_, ?_⟩
  · rcases List.mem_append.1 hb' with hb' | hb'
    · exact h.at_.lo b hb'
    · simp only [List.mem_append, List.mem_cons, List.not_mem_nil, or_false] at hb'
      rcases hb' with ((rfl | hb') | hb') | hb'
      · exact h.at_.lo b (mem_wfp.2 (.inl rfl))
      · have := (hb.new b hb').1; omega
      · exact h.low b (mem_lfp.2 (.inl hb'))
      · exact h.low b (mem_lfp.2 (.inr (.inl hb')))
  · exact ((u2.chg.mono (fun b hb' => List.mem_append_left _ hb')).trans ho.chg (fun j hj => Or.inl (List.mem_append_right _ hj))).trans hz (by simp)
set_option maxRecDepth 100000 in
set_option maxHeartbeats 4000000 in
theorem step_poll (K : Nat) (m : Int) (c : Cf) (la : Option Addr) (os : List Ov) (cap : Nat) (t u r a it : Int) (tx : ByteArray) (ll : Option Addr) (ln lc : Nat) (w : World) (lo wb : Nat) (mv x1 x2 x3 x4 : Value) (nx : Int) (ps : List Pr) (N : Nat) (L : List Lst) (hwl : WL K w lo wb mv x1 x2 x3 x4 nx ps N L) (hps : ps.length ≤ 1000000000000) (hL : L.length ≤ 3000000000000) (hm : I6 m) (ha : I6 a) :
    Calls Tryz.prog 18 #[.pointer (some ⟨wb, 0, none⟩), .agg #[.int .i64 6, .int .i64 m, .int .i64 c.c0, .int .i64 c.p0, .int .i64 c.b0, .int .i64 c.c1, .int .i64 c.p1, .int .i64 c.b1, .int .i64 c.c2, .int .i64 c.p2, .int .i64 c.b2, .slice la os.length cap, .int .i64 c.sh, .int .i64 c.sl, .int .i64 c.ev, .int .i64 c.de, .int .i64 c.qu, .int .u16 t, .int .u16 u, .int .u16 r, .int .i64 a, .int .u32 it, .string tx, .slice ll ln lc]] w fun e w' => StpL K w w' lo wb x2 x4 ps N L e := by
  obtain ⟨Q, hQe⟩ : ∃ Q, Q = QSim K := ⟨_, rfl⟩
  obtain ⟨x5, hx5⟩ : ∃ x5, x5 = Value.int .u32 nx := ⟨_, rfl⟩
  have hw : WAt Q w lo wb mv x1 x2 x3 x4 x5 ps N := hQe ▸ hx5 ▸ hwl.at_
  have hQ : QP Q := hQe ▸ qp_sim _
  have HWL : Hid (WL K w lo wb mv x1 x2 x3 x4 nx ps N L) := hwl
  have HQE : Hid (Q = QSim K) := hQe
  have HX5 : Hid (x5 = Value.int .u32 nx) := hx5
  clear hwl hQe hx5
  have HQ : Hid (QP Q) := hQ
  have HWA : Hid (WAt Q w lo wb mv x1 x2 x3 x4 x5 ps N) := hw
  have hbx := heap_alloc_new w (.cells [.int .i64 6, .int .i64 m, .int .i64 c.c0, .int .i64 c.p0, .int .i64 c.b0, .int .i64 c.c1, .int .i64 c.p1, .int .i64 c.b1, .int .i64 c.c2, .int .i64 c.p2, .int .i64 c.b2, .slice la os.length cap, .int .i64 c.sh, .int .i64 c.sl, .int .i64 c.ev, .int .i64 c.de, .int .i64 c.qu, .int .u16 t, .int .u16 u, .int .u16 r, .int .i64 a, .int .u32 it, .string tx, .slice ll ln lc].toArray 62)
  have hcw : Chg [] w (w.alloc (.cells [.int .i64 6, .int .i64 m, .int .i64 c.c0, .int .i64 c.p0, .int .i64 c.b0, .int .i64 c.c1, .int .i64 c.p1, .int .i64 c.b1, .int .i64 c.c2, .int .i64 c.p2, .int .i64 c.b2, .slice la os.length cap, .int .i64 c.sh, .int .i64 c.sl, .int .i64 c.ev, .int .i64 c.de, .int .i64 c.qu, .int .u16 t, .int .u16 u, .int .u16 r, .int .i64 a, .int .u32 it, .string tx, .slice ll ln lc].toArray 62)) := (Chg.refl _ _).alloc _
  obtain ⟨wa, hwa⟩ : ∃ wa, wa = w.alloc (.cells [.int .i64 6, .int .i64 m, .int .i64 c.c0, .int .i64 c.p0, .int .i64 c.b0, .int .i64 c.c1, .int .i64 c.p1, .int .i64 c.b1, .int .i64 c.c2, .int .i64 c.p2, .int .i64 c.b2, .slice la os.length cap, .int .i64 c.sh, .int .i64 c.sl, .int .i64 c.ev, .int .i64 c.de, .int .i64 c.qu, .int .u16 t, .int .u16 u, .int .u16 r, .int .i64 a, .int .u32 it, .string tx, .slice ll ln lc].toArray 62) := ⟨_, rfl⟩
  rw [← hwa] at hbx hcw
  have hkw : w.alloc (.cells #[.int .i64 6, .int .i64 m, .int .i64 c.c0, .int .i64 c.p0, .int .i64 c.b0, .int .i64 c.c1, .int .i64 c.p1, .int .i64 c.b1, .int .i64 c.c2, .int .i64 c.p2, .int .i64 c.b2, .slice la os.length cap, .int .i64 c.sh, .int .i64 c.sl, .int .i64 c.ev, .int .i64 c.de, .int .i64 c.qu, .int .u16 t, .int .u16 u, .int .u16 r, .int .i64 a, .int .u32 it, .string tx, .slice ll ln lc] 62) = wa := hwa.symm
  have HBX : Hid (wa.heap[w.heap.size]? = some (.cells [.int .i64 6, .int .i64 m, .int .i64 c.c0, .int .i64 c.p0, .int .i64 c.b0, .int .i64 c.c1, .int .i64 c.p1, .int .i64 c.b1, .int .i64 c.c2, .int .i64 c.p2, .int .i64 c.b2, .slice la os.length cap, .int .i64 c.sh, .int .i64 c.sl, .int .i64 c.ev, .int .i64 c.de, .int .i64 c.qu, .int .u16 t, .int .u16 u, .int .u16 r, .int .i64 a, .int .u32 it, .string tx, .slice ll ln lc].toArray 62 (0, 0))) := hbx
  have HCW : Hid (Chg [] w wa) := hcw
  have b0 := blk_cell (i := 0) HBX.out rfl
  clear hwa hcw hbx hw hQ
  have HWa : Hid (WAt Q wa lo wb mv x1 x2 x3 x4 x5 ps N) := HWA.out.chg HCW.out (by simp)
  have y0 : wa.cell? ⟨wb, 0, none⟩ = some mv := blk_cell (i := 0) HWa.out.blk rfl
  obtain ⟨lam, lbm, lofm, capm, hmv, hl1, _, hl2, hl3⟩ := HWa.out.row.laid
  subst hmv
  have b1 := blk_cell (i := 1) HBX.out rfl
  have hwbl := lt_of_block HWa.out.blk
  have hbxl := lt_of_block HBX.out
  by_cases hz : ps.length = 0
  · have hz' : (ps.length : Int) = 0 := by omega
    clear hl1 hl2 hl3 b1
    go_enter Tryz.func18, Tryz.ntmps18
    go_wp2
    go_ret
    exact StpL.none HWL.out HCW.out
  obtain ⟨rfl, _⟩ := hl1 (by omega)
  have hlbl := hl2 (by omega)
  have hpk := pk_bd m ps.length (by omega)
  obtain ⟨j, hj⟩ : ∃ j : Nat, pk m ps.length = (j : Int) := ⟨(pk m ps.length).toNat, by omega⟩
  rw [hj] at hpk
  have hjl : j < ps.length := by omega
  have hz1 : ¬ (ps.length : Int) = 0 := by omega
  obtain ⟨p, hp⟩ : ∃ p, ps[j]? = some p := ⟨_, List.getElem?_eq_getElem hjl⟩
  have hpe : ps[j] = p := by rw [List.getElem?_eq_getElem hjl] at hp; cases hp; rfl
  have z0 := hl3 (j * 2 + 0) _ (by rw [pc_at ps j hjl 0 (by decide), hpe]; rfl)
  have z1 := hl3 (j * 2 + 1) _ (by rw [pc_at ps j hjl 1 (by decide), hpe]; rfl)
  simp only [Nat.add_zero, ← Nat.add_assoc] at z0 z1
  have HP : Hid (ps[j]? = some p) := hp
  have HPA : Hid (p.At Q wa) := HWa.out.each p (List.mem_of_getElem? hp)
  have HFEW : Hid (p.s.ms.length ≤ N) := HWa.out.few p (List.mem_of_getElem? hp)
  have HPk : Hid (∀ W, Calls Tryz.prog 36 #[.int .i64 m, .int .i64 (ps.length : Int)] W fun e w' => e = .returned (.int .i64 j) ∧ w' = W) := fun W => by
    rw [← hj]
    exact pick36 m ps.length W hm (by omega) (by omega)
  have HS : Hid (∀ W, Chg [] wa W → (W.cell? ⟨wb, 0, none⟩ = some (.slice (some ⟨lbm, lofm, none⟩) ps.length capm) ∧ W.cell? ⟨w.heap.size, 1, none⟩ = some (.int .i64 m) ∧ W.cell? ⟨lbm, lofm + j * 2, none⟩ = some (.pointer (some ⟨p.g.mb, 0, none⟩)) ∧ W.cell? ⟨lbm, lofm + j * 2 + 1, none⟩ = some (.pointer (some ⟨p.y, 0, none⟩)))) := fun W hW =>
    ⟨hW.cell y0 (by simp), hW.cell b1 (by simp), hW.cell z0 (by simp), hW.cell z1 (by simp)⟩
  clear hl1 hl2 hl3 hp hpe hm hj
  have hj0 : (0 : Int) ≤ (j : Int) := by omega
  have hj1 : (j : Int) < (ps.length : Int) := by omega
  have hbp := heap_alloc_new wa (.cells [.pointer (some ⟨p.g.mb, 0, none⟩), .pointer (some ⟨p.y, 0, none⟩)].toArray 109)
  obtain ⟨wp, hwp⟩ : ∃ wp, wp = (wa.alloc (.cells [.pointer (some ⟨p.g.mb, 0, none⟩), .pointer (some ⟨p.y, 0, none⟩)].toArray 109)).drew := ⟨_, rfl⟩
  have HBP : Hid (wp.heap[wa.heap.size]? = some (.cells [.pointer (some ⟨p.g.mb, 0, none⟩), .pointer (some ⟨p.y, 0, none⟩)].toArray 109 (0, 0))) := hwp ▸ hbp
  have HCP : Hid (Chg [] wa wp) := hwp ▸ ((Chg.refl _ _).alloc _).drew
  have hkp : (wa.alloc (.cells #[.pointer (some ⟨p.g.mb, 0, none⟩), .pointer (some ⟨p.y, 0, none⟩)] 109)).drew = wp := hwp.symm
  clear hwp hbp
  have HBO : Hid (wp.heap[w.heap.size]? = some (.cells [.int .i64 6, .int .i64 m, .int .i64 c.c0, .int .i64 c.p0, .int .i64 c.b0, .int .i64 c.c1, .int .i64 c.p1, .int .i64 c.b1, .int .i64 c.c2, .int .i64 c.p2, .int .i64 c.b2, .slice la os.length cap, .int .i64 c.sh, .int .i64 c.sl, .int .i64 c.ev, .int .i64 c.de, .int .i64 c.qu, .int .u16 t, .int .u16 u, .int .u16 r, .int .i64 a, .int .u32 it, .string tx, .slice ll ln lc].toArray 62 (0, 0))) := HCP.out.blk HBX.out (by simp)
  have HLT : Hid (∀ b ∈ p.fp, b < w.heap.size) := (HWA.out.each p (List.mem_of_getElem? HP.out)).lt
  have hs0 := HCW.out.size
  have HPO : Hid (p.At (QSim K) wa) := by
    have := HPA.out
    rw [HQE.out] at this
    exact this
  go_enter Tryz.func18, Tryz.ntmps18
  go_wp2_with fail
  go_region_held3 (fun W => W.cell? ⟨wb, 0, none⟩ = some (.slice (some ⟨lbm, lofm, none⟩) ps.length capm) ∧ W.cell? ⟨w.heap.size, 1, none⟩ = some (.int .i64 m) ∧ W.cell? ⟨lbm, lofm + j * 2, none⟩ = some (.pointer (some ⟨p.g.mb, 0, none⟩)) ∧ W.cell? ⟨lbm, lofm + j * 2 + 1, none⟩ = some (.pointer (some ⟨p.y, 0, none⟩)))
    (first | exact HS.out _ ((Chg.refl _ _).drew) | exact HS.out _ (((Chg.refl _ _).drew).alloc _) | exact HS.out _ HCP.out | fail)
    (first | (go_at_call 36; refine (HPk.out _).mono ?_; rintro e w2 ⟨rfl, rfl⟩) | fail)
  all_goals
    have k0 := blk_cell (i := 0) HBO.out rfl
    have k20 := blk_cell (i := 20) HBO.out rfl
    have q0 := blk_cell (i := 0) HBP.out rfl
    go_wp2_with fail
    refine (HPO.out.poll1 wp HCP.out).mono ?_
    rintro e w2 ⟨k, bs, q', rfl, hcn, hpl⟩
    have HCN : Hid (Cnt p.q.ws a p.s.T k) := hcn
    have HPL : Hid (Pol wp w2 p.q q' k (.slice bs k k)) := hpl
    have c2 : Chg p.fp wp w2 := hpl.chg.mono qfp_sub
    have sP := HCP.out.size
    have s2 := c2.size
    have HBP2 : Hid (w2.heap[wa.heap.size]? = some (.cells [.pointer (some ⟨p.g.mb, 0, none⟩), .pointer (some ⟨p.y, 0, none⟩)].toArray 109 (0, 0))) := c2.blk HBP.out (fun hb => by have := HLT.out _ hb; omega)
    have HBO2 : Hid (w2.heap[w.heap.size]? = some (.cells [.int .i64 6, .int .i64 m, .int .i64 c.c0, .int .i64 c.p0, .int .i64 c.b0, .int .i64 c.c1, .int .i64 c.p1, .int .i64 c.b1, .int .i64 c.c2, .int .i64 c.p2, .int .i64 c.b2, .slice la os.length cap, .int .i64 c.sh, .int .i64 c.sl, .int .i64 c.ev, .int .i64 c.de, .int .i64 c.qu, .int .u16 t, .int .u16 u, .int .u16 r, .int .i64 a, .int .u32 it, .string tx, .slice ll ln lc].toArray 62 (0, 0))) := c2.blk HBO.out (fun hb => by have := HLT.out _ hb; omega)
    clear c2 hcn hpl
    have q1 := blk_cell (i := 1) HBP2.out rfl
    have j20 := blk_cell (i := 20) HBO2.out rfl
    clear k0 k20 q0
    go_wp2_with fail
    refine (HPO.out.poll2 ha HCP.out HCN.out HPL.out (Chg.refl _ _)).mono ?_
    rintro e w3 ⟨la3, cp3, p', l, rfl, hpb⟩
    have HPB : Hid (PolB K wp w2 w3 p p' k (.slice bs k k) (.slice la3 k cp3) l) := hpb
    have HSI : Hid (Calls Tryz.prog 44 #[.slice bs k k, .slice la3 k cp3] w3 fun e w' => e = .returned (.bool true) ∧ Chg [] w3 w') := sameItems_any _ _ l w3 (by rw [hpb.len]; exact hpb.r1) (by rw [hpb.len]; exact hpb.r2)
    have HOW : Hid (∀ W, Chg [] w3 W → Calls Tryz.prog 45 #[.pointer (some ⟨wb, 0, none⟩), .slice bs k k] W fun e w' => OwnE W w' wb (.slice (some ⟨lbm, lofm, none⟩) ps.length capm) x1 x2 x3 x4 (IntKind.u32.wrap (nx + 1)) (.slice bs k k) L e) := fun W hW => by
      have cw : Chg [] w wp := HCW.out.trans HCP.out (by simp)
      have hst : PStp (QSim K) w W p p' := (PStp.head cw HPB.out.stp).tail hW
      obtain ⟨u1, u2⟩ := HWL.out.at_.upd HP.out hst
      have hls : LsAt W x1 x3 L := HWL.out.ls.chg u2.chg HWL.out.sep
      have hsz := cw.size
      exact ownItems_any wb _ x1 x2 x3 x4 nx bs k l L W u1.blk hls (HPB.out.r1.chg hW (by simp)) (fun b hb hb' => by have h1 := (HPB.out.new b hb).1; have h2 := HWL.out.ls.lt b hb'; omega) (by have := HPB.out.few; omega) hL HWL.out.nx
    clear hpb q1 j20
    go_wp2_with fail
    refine (HSI.out).mono ?_
    rintro e w5 ⟨rfl, c5⟩
    have HC5 : Hid (Chg [] w3 w5) := c5
    clear c5
    go_wp2_with fail
    refine (HOW.out w5 HC5.out).mono ?_
    rintro e w6 hown
    obtain ⟨rfl, hx⟩ := hown
    have HOE : Hid (OwnE w5 w6 wb (.slice (some ⟨lbm, lofm, none⟩) ps.length capm) x1 x2 x3 x4 (IntKind.u32.wrap (nx + 1)) (.slice bs k k) L (.returned (.tuple #[]))) := ⟨rfl, hx⟩
    clear hx
    go_wp2
    go_ret
    exact HWL.out.told HP.out (HCW.out.trans HCP.out (by simp)) HPB.out HC5.out (by rw [IntKind.wrap_u32]; omega) HOE.out (Chg.refl _ _)
end Go.Proofs.YtbdnhllhdjepcaaGreat
