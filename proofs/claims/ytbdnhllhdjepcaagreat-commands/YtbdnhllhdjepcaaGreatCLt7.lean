import Derived.Test.YtbdnhllhdjepcaaGreatCDi
import Derived.Test.YtbdnhllhdjepcaaGreatCLt6
namespace Go.Proofs.YtbdnhllhdjepcaaGreat
set_option linter.unusedVariables false
set_option linter.unusedSimpArgs false
open Go.RowKit Go.Maps

/-! ### a text -/
theorem sv_of (tx : ByteArray) : Value.string tx = sv tx.data.toList := by
  cases tx
  rfl
set_option maxRecDepth 100000 in
set_option maxHeartbeats 4000000 in
theorem step_do (K : Nat) (hK : K ≤ 900000000000) (m : Int) (c : Cf) (la : Option Addr) (os : List Ov) (cap : Nat) (t u r a it : Int) (tx : ByteArray) (ll : Option Addr) (ln lc : Nat) (w : World) (lo wb : Nat) (mv x1 x2 x3 x4 x5 : Value) (ps : List Pr) (N : Nat) (hw0 : WAt (QSim K) w lo wb mv x1 x2 x3 x4 x5 ps N) (hps : ps.length ≤ 1000000000000) (hm : I6 m) (hN : N ≤ 5000000000000) (htx : tx.size ≤ 9223372036854775807) :
    Calls Tryz.prog 18 #[.pointer (some ⟨wb, 0, none⟩), .agg #[.int .i64 7, .int .i64 m, .int .i64 c.c0, .int .i64 c.p0, .int .i64 c.b0, .int .i64 c.c1, .int .i64 c.p1, .int .i64 c.b1, .int .i64 c.c2, .int .i64 c.p2, .int .i64 c.b2, .slice la os.length cap, .int .i64 c.sh, .int .i64 c.sl, .int .i64 c.ev, .int .i64 c.de, .int .i64 c.qu, .int .u16 t, .int .u16 u, .int .u16 r, .int .i64 a, .int .u32 it, .string tx, .slice ll ln lc]] w fun e w' => StpP (QSim (K + 1)) w w' lo wb mv x1 x2 x3 x4 x5 ps N e := by
  obtain ⟨Q, hQe⟩ : ∃ Q, Q = QSim (K + 1) := ⟨_, rfl⟩
  have hw : WAt Q w lo wb mv x1 x2 x3 x4 x5 ps N := hQe ▸ hw0.imp (fun q s hq => hq.mono (by omega))
  have hQ : QP Q := hQe ▸ qp_sim _
  have HW0 : Hid (WAt (QSim K) w lo wb mv x1 x2 x3 x4 x5 ps N) := hw0
  have HQE : Hid (Q = QSim (K + 1)) := hQe
  rw [← hQe]
  clear hw0 hQe
  have HQ : Hid (QP Q) := hQ
  have HWA : Hid (WAt Q w lo wb mv x1 x2 x3 x4 x5 ps N) := hw
  have hbx := heap_alloc_new w (.cells [.int .i64 7, .int .i64 m, .int .i64 c.c0, .int .i64 c.p0, .int .i64 c.b0, .int .i64 c.c1, .int .i64 c.p1, .int .i64 c.b1, .int .i64 c.c2, .int .i64 c.p2, .int .i64 c.b2, .slice la os.length cap, .int .i64 c.sh, .int .i64 c.sl, .int .i64 c.ev, .int .i64 c.de, .int .i64 c.qu, .int .u16 t, .int .u16 u, .int .u16 r, .int .i64 a, .int .u32 it, .string tx, .slice ll ln lc].toArray 62)
  have hcw : Chg [] w (w.alloc (.cells [.int .i64 7, .int .i64 m, .int .i64 c.c0, .int .i64 c.p0, .int .i64 c.b0, .int .i64 c.c1, .int .i64 c.p1, .int .i64 c.b1, .int .i64 c.c2, .int .i64 c.p2, .int .i64 c.b2, .slice la os.length cap, .int .i64 c.sh, .int .i64 c.sl, .int .i64 c.ev, .int .i64 c.de, .int .i64 c.qu, .int .u16 t, .int .u16 u, .int .u16 r, .int .i64 a, .int .u32 it, .string tx, .slice ll ln lc].toArray 62)) := (Chg.refl _ _).alloc _
  obtain ⟨wa, hwa⟩ : ∃ wa, wa = w.alloc (.cells [.int .i64 7, .int .i64 m, .int .i64 c.c0, .int .i64 c.p0, .int .i64 c.b0, .int .i64 c.c1, .int .i64 c.p1, .int .i64 c.b1, .int .i64 c.c2, .int .i64 c.p2, .int .i64 c.b2, .slice la os.length cap, .int .i64 c.sh, .int .i64 c.sl, .int .i64 c.ev, .int .i64 c.de, .int .i64 c.qu, .int .u16 t, .int .u16 u, .int .u16 r, .int .i64 a, .int .u32 it, .string tx, .slice ll ln lc].toArray 62) := ⟨_, rfl⟩
  rw [← hwa] at hbx hcw
  have hkw : w.alloc (.cells #[.int .i64 7, .int .i64 m, .int .i64 c.c0, .int .i64 c.p0, .int .i64 c.b0, .int .i64 c.c1, .int .i64 c.p1, .int .i64 c.b1, .int .i64 c.c2, .int .i64 c.p2, .int .i64 c.b2, .slice la os.length cap, .int .i64 c.sh, .int .i64 c.sl, .int .i64 c.ev, .int .i64 c.de, .int .i64 c.qu, .int .u16 t, .int .u16 u, .int .u16 r, .int .i64 a, .int .u32 it, .string tx, .slice ll ln lc] 62) = wa := hwa.symm
  have HBX : Hid (wa.heap[w.heap.size]? = some (.cells [.int .i64 7, .int .i64 m, .int .i64 c.c0, .int .i64 c.p0, .int .i64 c.b0, .int .i64 c.c1, .int .i64 c.p1, .int .i64 c.b1, .int .i64 c.c2, .int .i64 c.p2, .int .i64 c.b2, .slice la os.length cap, .int .i64 c.sh, .int .i64 c.sl, .int .i64 c.ev, .int .i64 c.de, .int .i64 c.qu, .int .u16 t, .int .u16 u, .int .u16 r, .int .i64 a, .int .u32 it, .string tx, .slice ll ln lc].toArray 62 (0, 0))) := hbx
  have HCW : Hid (Chg [] w wa) := hcw
  have b0 := blk_cell (i := 0) HBX.out rfl
  clear hwa hcw hbx hw hQ
  have HWa : Hid (WAt Q wa lo wb mv x1 x2 x3 x4 x5 ps N) := HWA.out.chg HCW.out (by simp)
  have y0 : wa.cell? ⟨wb, 0, none⟩ = some mv := blk_cell (i := 0) HWa.out.blk rfl
  obtain ⟨lam, lbm, lofm, capm, hmv, hl1, _, hl2, hl3⟩ := HWa.out.row.laid
  subst hmv
  have b1 := blk_cell (i := 1) HBX.out rfl
  have hwbl := lt_of_block HWa.out.blk
  have hbxl := lt_of_block HBX.out
  by_cases hz : ps.length = 0
  · have hz' : (ps.length : Int) = 0 := by omega
    clear hl1 hl2 hl3 b1
    go_enter Tryz.func18, Tryz.ntmps18
    go_wp2
    go_ret
    exact StpP.none HWA.out HCW.out
  obtain ⟨rfl, _⟩ := hl1 (by omega)
  have hlbl := hl2 (by omega)
  have hpk := pk_bd m ps.length (by omega)
  obtain ⟨j, hj⟩ : ∃ j : Nat, pk m ps.length = (j : Int) := ⟨(pk m ps.length).toNat, by omega⟩
  rw [hj] at hpk
  have hjl : j < ps.length := by omega
  have hz1 : ¬ (ps.length : Int) = 0 := by omega
  obtain ⟨p, hp⟩ : ∃ p, ps[j]? = some p := ⟨_, List.getElem?_eq_getElem hjl⟩
  have hpe : ps[j] = p := by rw [List.getElem?_eq_getElem hjl] at hp; cases hp; rfl
  have z0 := hl3 (j * 2 + 0) _ (by rw [pc_at ps j hjl 0 (by decide), hpe]; rfl)
  have z1 := hl3 (j * 2 + 1) _ (by rw [pc_at ps j hjl 1 (by decide), hpe]; rfl)
  simp only [Nat.add_zero, ← Nat.add_assoc] at z0 z1
  have HP : Hid (ps[j]? = some p) := hp
  have HPA : Hid (p.At Q wa) := HWa.out.each p (List.mem_of_getElem? hp)
  have HFEW : Hid (p.s.ms.length ≤ N) := HWa.out.few p (List.mem_of_getElem? hp)
  have HPk : Hid (∀ W, Calls Tryz.prog 36 #[.int .i64 m, .int .i64 (ps.length : Int)] W fun e w' => e = .returned (.int .i64 j) ∧ w' = W) := fun W => by
    rw [← hj]
    exact pick36 m ps.length W hm (by omega) (by omega)
  have HS : Hid (∀ W, Chg [] wa W → (W.cell? ⟨wb, 0, none⟩ = some (.slice (some ⟨lbm, lofm, none⟩) ps.length capm) ∧ W.cell? ⟨w.heap.size, 1, none⟩ = some (.int .i64 m) ∧ W.cell? ⟨lbm, lofm + j * 2, none⟩ = some (.pointer (some ⟨p.g.mb, 0, none⟩)) ∧ W.cell? ⟨lbm, lofm + j * 2 + 1, none⟩ = some (.pointer (some ⟨p.y, 0, none⟩)))) := fun W hW =>
    ⟨hW.cell y0 (by simp), hW.cell b1 (by simp), hW.cell z0 (by simp), hW.cell z1 (by simp)⟩
  clear hl1 hl2 hl3 hp hpe hm hj
  have hj0 : (0 : Int) ≤ (j : Int) := by omega
  have hj1 : (j : Int) < (ps.length : Int) := by omega
  have hbp := heap_alloc_new wa (.cells [.pointer (some ⟨p.g.mb, 0, none⟩), .pointer (some ⟨p.y, 0, none⟩)].toArray 109)
  obtain ⟨wp, hwp⟩ : ∃ wp, wp = (wa.alloc (.cells [.pointer (some ⟨p.g.mb, 0, none⟩), .pointer (some ⟨p.y, 0, none⟩)].toArray 109)).drew := ⟨_, rfl⟩
  have HBP : Hid (wp.heap[wa.heap.size]? = some (.cells [.pointer (some ⟨p.g.mb, 0, none⟩), .pointer (some ⟨p.y, 0, none⟩)].toArray 109 (0, 0))) := hwp ▸ hbp
  have HCP : Hid (Chg [] wa wp) := hwp ▸ ((Chg.refl _ _).alloc _).drew
  have hkp : (wa.alloc (.cells #[.pointer (some ⟨p.g.mb, 0, none⟩), .pointer (some ⟨p.y, 0, none⟩)] 109)).drew = wp := hwp.symm
  clear hwp hbp
  have HBO : Hid (wp.heap[w.heap.size]? = some (.cells [.int .i64 7, .int .i64 m, .int .i64 c.c0, .int .i64 c.p0, .int .i64 c.b0, .int .i64 c.c1, .int .i64 c.p1, .int .i64 c.b1, .int .i64 c.c2, .int .i64 c.p2, .int .i64 c.b2, .slice la os.length cap, .int .i64 c.sh, .int .i64 c.sl, .int .i64 c.ev, .int .i64 c.de, .int .i64 c.qu, .int .u16 t, .int .u16 u, .int .u16 r, .int .i64 a, .int .u32 it, .string tx, .slice ll ln lc].toArray 62 (0, 0))) := HCP.out.blk HBX.out (by simp)
  have HLT : Hid (∀ b ∈ p.fp, b < w.heap.size) := (HWA.out.each p (List.mem_of_getElem? HP.out)).lt
  have hs0 := HCW.out.size
  have HTX : Hid (Value.string tx = sv tx.data.toList) := sv_of tx
  obtain ⟨al, M, hB⟩ : ∃ al M, Both Q wa p 25 46 [.string tx] (.returned (sv al)) M := by
    rw [HQE.out, HTX.out]
    exact Pr.At.does ((HW0.out.chg HCW.out (by simp)).each p (List.mem_of_getElem? HP.out)) hK tx.data.toList (by simpa using htx) (by have := HFEW.out; omega)
  obtain ⟨A, hA⟩ : ∃ A : ByteArray, A = ⟨al.toArray⟩ := ⟨_, rfl⟩
  rw [show sv al = .string A from by rw [hA]] at hB
  have HB : Hid (Both Q wa p 25 46 [.string tx] (.returned (.string A)) M) := hB
  clear hA
  clear hB
  go_enter Tryz.func18, Tryz.ntmps18
  go_wp2_with fail
  go_region_held3 (fun W => W.cell? ⟨wb, 0, none⟩ = some (.slice (some ⟨lbm, lofm, none⟩) ps.length capm) ∧ W.cell? ⟨w.heap.size, 1, none⟩ = some (.int .i64 m) ∧ W.cell? ⟨lbm, lofm + j * 2, none⟩ = some (.pointer (some ⟨p.g.mb, 0, none⟩)) ∧ W.cell? ⟨lbm, lofm + j * 2 + 1, none⟩ = some (.pointer (some ⟨p.y, 0, none⟩)))
    (first | exact HS.out _ ((Chg.refl _ _).drew) | exact HS.out _ (((Chg.refl _ _).drew).alloc _) | exact HS.out _ HCP.out | fail)
    (first | (go_at_call 36; refine (HPk.out _).mono ?_; rintro e w2 ⟨rfl, rfl⟩) | fail)
  all_goals
    have k0 := blk_cell (i := 0) HBO.out rfl
    have k22 := blk_cell (i := 22) HBO.out rfl
    have q0 := blk_cell (i := 0) HBP.out rfl
    go_wp2_with fail
    refine (HB.out.one wp HCP.out).mono ?_
    rintro e w2 ⟨rfl, hM⟩
    have c2 := HB.out.chg _ _ hM
    have sP := HCP.out.size
    have HM : Hid (M wp w2) := hM
    have s2 := c2.size
    have HBP2 : Hid (w2.heap[wa.heap.size]? = some (.cells [.pointer (some ⟨p.g.mb, 0, none⟩), .pointer (some ⟨p.y, 0, none⟩)].toArray 109 (0, 0))) := c2.blk HBP.out (fun hb => by have := HLT.out _ hb; omega)
    have HBO2 : Hid (w2.heap[w.heap.size]? = some (.cells [.int .i64 7, .int .i64 m, .int .i64 c.c0, .int .i64 c.p0, .int .i64 c.b0, .int .i64 c.c1, .int .i64 c.p1, .int .i64 c.b1, .int .i64 c.c2, .int .i64 c.p2, .int .i64 c.b2, .slice la os.length cap, .int .i64 c.sh, .int .i64 c.sl, .int .i64 c.ev, .int .i64 c.de, .int .i64 c.qu, .int .u16 t, .int .u16 u, .int .u16 r, .int .i64 a, .int .u32 it, .string tx, .slice ll ln lc].toArray 62 (0, 0))) := c2.blk HBO.out (fun hb => by have := HLT.out _ hb; omega)
    clear c2 hM
    have q1 := blk_cell (i := 1) HBP2.out rfl
    have j22 := blk_cell (i := 22) HBO2.out rfl
    clear k0 k22 q0
    go_wp2_with fail
    refine (HB.out.two wp w2 w2 HCP.out HM.out (Chg.refl _ _)).mono ?_
    rintro e w3 ⟨rfl, c3, p', hs⟩
    have HSP : Hid (PStp Q wp w3 p p') := hs
    clear hs q1 j22 c3
    go_wp2
    go_ret
    exact StpP.upd HWA.out HP.out (PStp.head (HCW.out.trans HCP.out (by simp)) HSP.out)
end Go.Proofs.YtbdnhllhdjepcaaGreat
