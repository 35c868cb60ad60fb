import Derived.Test.YtbdnhllhdjepcaaGreatCLx
namespace Go.Proofs.YtbdnhllhdjepcaaGreat
set_option linter.unusedVariables false
set_option linter.unusedSimpArgs false
open Go.RowKit Go.Maps

/-! ### time goes on -/
set_option maxRecDepth 100000 in
set_option maxHeartbeats 4000000 in
theorem step_adv {Q : Qs → Rf → Prop} (hQ : QP Q) (m : Int) (c : Cf) (la : Option Addr) (os : List Ov) (cap : Nat) (t u r a it : Int) (tx : ByteArray) (ll : Option Addr) (ln lc : Nat) (w : World) (lo wb : Nat) (mv x1 x2 x3 x4 x5 : Value) (ps : List Pr) (N : Nat) (hw : WAt Q w lo wb mv x1 x2 x3 x4 x5 ps N) (hps : ps.length ≤ 1000000000000) (hm : I6 m) (ha : I6 a) :
    Calls Tryz.prog 18 #[.pointer (some ⟨wb, 0, none⟩), .agg #[.int .i64 3, .int .i64 m, .int .i64 c.c0, .int .i64 c.p0, .int .i64 c.b0, .int .i64 c.c1, .int .i64 c.p1, .int .i64 c.b1, .int .i64 c.c2, .int .i64 c.p2, .int .i64 c.b2, .slice la os.length cap, .int .i64 c.sh, .int .i64 c.sl, .int .i64 c.ev, .int .i64 c.de, .int .i64 c.qu, .int .u16 t, .int .u16 u, .int .u16 r, .int .i64 a, .int .u32 it, .string tx, .slice ll ln lc]] w fun e w' => StpP Q w w' lo wb mv x1 x2 x3 x4 x5 ps N e := by
  have HQ : Hid (QP Q) := hQ
  have HWA : Hid (WAt Q w lo wb mv x1 x2 x3 x4 x5 ps N) := hw
  have hbx := heap_alloc_new w (.cells [.int .i64 3, .int .i64 m, .int .i64 c.c0, .int .i64 c.p0, .int .i64 c.b0, .int .i64 c.c1, .int .i64 c.p1, .int .i64 c.b1, .int .i64 c.c2, .int .i64 c.p2, .int .i64 c.b2, .slice la os.length cap, .int .i64 c.sh, .int .i64 c.sl, .int .i64 c.ev, .int .i64 c.de, .int .i64 c.qu, .int .u16 t, .int .u16 u, .int .u16 r, .int .i64 a, .int .u32 it, .string tx, .slice ll ln lc].toArray 62)
  have hcw : Chg [] w (w.alloc (.cells [.int .i64 3, .int .i64 m, .int .i64 c.c0, .int .i64 c.p0, .int .i64 c.b0, .int .i64 c.c1, .int .i64 c.p1, .int .i64 c.b1, .int .i64 c.c2, .int .i64 c.p2, .int .i64 c.b2, .slice la os.length cap, .int .i64 c.sh, .int .i64 c.sl, .int .i64 c.ev, .int .i64 c.de, .int .i64 c.qu, .int .u16 t, .int .u16 u, .int .u16 r, .int .i64 a, .int .u32 it, .string tx, .slice ll ln lc].toArray 62)) := (Chg.refl _ _).alloc _
  obtain ⟨wa, hwa⟩ : ∃ wa, wa = w.alloc (.cells [.int .i64 3, .int .i64 m, .int .i64 c.c0, .int .i64 c.p0, .int .i64 c.b0, .int .i64 c.c1, .int .i64 c.p1, .int .i64 c.b1, .int .i64 c.c2, .int .i64 c.p2, .int .i64 c.b2, .slice la os.length cap, .int .i64 c.sh, .int .i64 c.sl, .int .i64 c.ev, .int .i64 c.de, .int .i64 c.qu, .int .u16 t, .int .u16 u, .int .u16 r, .int .i64 a, .int .u32 it, .string tx, .slice ll ln lc].toArray 62) := ⟨_, rfl⟩
  rw [← hwa] at hbx hcw
  have hkw : w.alloc (.cells #[.int .i64 3, .int .i64 m, .int .i64 c.c0, .int .i64 c.p0, .int .i64 c.b0, .int .i64 c.c1, .int .i64 c.p1, .int .i64 c.b1, .int .i64 c.c2, .int .i64 c.p2, .int .i64 c.b2, .slice la os.length cap, .int .i64 c.sh, .int .i64 c.sl, .int .i64 c.ev, .int .i64 c.de, .int .i64 c.qu, .int .u16 t, .int .u16 u, .int .u16 r, .int .i64 a, .int .u32 it, .string tx, .slice ll ln lc] 62) = wa := hwa.symm
  have HBX : Hid (wa.heap[w.heap.size]? = some (.cells [.int .i64 3, .int .i64 m, .int .i64 c.c0, .int .i64 c.p0, .int .i64 c.b0, .int .i64 c.c1, .int .i64 c.p1, .int .i64 c.b1, .int .i64 c.c2, .int .i64 c.p2, .int .i64 c.b2, .slice la os.length cap, .int .i64 c.sh, .int .i64 c.sl, .int .i64 c.ev, .int .i64 c.de, .int .i64 c.qu, .int .u16 t, .int .u16 u, .int .u16 r, .int .i64 a, .int .u32 it, .string tx, .slice ll ln lc].toArray 62 (0, 0))) := hbx
  have HCW : Hid (Chg [] w wa) := hcw
  have b0 := blk_cell (i := 0) HBX.out rfl
  clear hwa hcw hbx hw hQ
  have HWa : Hid (WAt Q wa lo wb mv x1 x2 x3 x4 x5 ps N) := HWA.out.chg HCW.out (by simp)
  have y0 : wa.cell? ⟨wb, 0, none⟩ = some mv := blk_cell (i := 0) HWa.out.blk rfl
  obtain ⟨lam, lbm, lofm, capm, hmv, hl1, _, hl2, hl3⟩ := HWa.out.row.laid
  subst hmv
  have b1 := blk_cell (i := 1) HBX.out rfl
  have hwbl := lt_of_block HWa.out.blk
  have hbxl := lt_of_block HBX.out
  by_cases hz : ps.length = 0
  · have hz' : (ps.length : Int) = 0 := by omega
    clear hl1 hl2 hl3 b1
    go_enter Tryz.func18, Tryz.ntmps18
    go_wp2
    go_ret
    exact StpP.none HWA.out HCW.out
  obtain ⟨rfl, _⟩ := hl1 (by omega)
  have hlbl := hl2 (by omega)
  have hpk := pk_bd m ps.length (by omega)
  obtain ⟨j, hj⟩ : ∃ j : Nat, pk m ps.length = (j : Int) := ⟨(pk m ps.length).toNat, by omega⟩
  rw [hj] at hpk
  have hjl : j < ps.length := by omega
  have hz1 : ¬ (ps.length : Int) = 0 := by omega
  obtain ⟨p, hp⟩ : ∃ p, ps[j]? = some p := ⟨_, List.getElem?_eq_getElem hjl⟩
  have hpe : ps[j] = p := by rw [List.getElem?_eq_getElem hjl] at hp; cases hp; rfl
  have z0 := hl3 (j * 2 + 0) _ (by rw [pc_at ps j hjl 0 (by decide), hpe]; rfl)
  have z1 := hl3 (j * 2 + 1) _ (by rw [pc_at ps j hjl 1 (by decide), hpe]; rfl)
  simp only [Nat.add_zero, ← Nat.add_assoc] at z0 z1
  have HP : Hid (ps[j]? = some p) := hp
  have HPA : Hid (p.At Q wa) := HWa.out.each p (List.mem_of_getElem? hp)
  have HFEW : Hid (p.s.ms.length ≤ N) := HWa.out.few p (List.mem_of_getElem? hp)
  have HPk : Hid (∀ W, Calls Tryz.prog 36 #[.int .i64 m, .int .i64 (ps.length : Int)] W fun e w' => e = .returned (.int .i64 j) ∧ w' = W) := fun W => by
    rw [← hj]
    exact pick36 m ps.length W hm (by omega) (by omega)
  have HS : Hid (∀ W, Chg [] wa W → (W.cell? ⟨wb, 0, none⟩ = some (.slice (some ⟨lbm, lofm, none⟩) ps.length capm) ∧ W.cell? ⟨w.heap.size, 1, none⟩ = some (.int .i64 m) ∧ W.cell? ⟨lbm, lofm + j * 2, none⟩ = some (.pointer (some ⟨p.g.mb, 0, none⟩)) ∧ W.cell? ⟨lbm, lofm + j * 2 + 1, none⟩ = some (.pointer (some ⟨p.y, 0, none⟩)))) := fun W hW =>
    ⟨hW.cell y0 (by simp), hW.cell b1 (by simp), hW.cell z0 (by simp), hW.cell z1 (by simp)⟩
  clear hl1 hl2 hl3 hp hpe hm hj
  have hj0 : (0 : Int) ≤ (j : Int) := by omega
  have hj1 : (j : Int) < (ps.length : Int) := by omega
  have hbp := heap_alloc_new wa (.cells [.pointer (some ⟨p.g.mb, 0, none⟩), .pointer (some ⟨p.y, 0, none⟩)].toArray 109)
  obtain ⟨wp, hwp⟩ : ∃ wp, wp = (wa.alloc (.cells [.pointer (some ⟨p.g.mb, 0, none⟩), .pointer (some ⟨p.y, 0, none⟩)].toArray 109)).drew := ⟨_, rfl⟩
  have HBP : Hid (wp.heap[wa.heap.size]? = some (.cells [.pointer (some ⟨p.g.mb, 0, none⟩), .pointer (some ⟨p.y, 0, none⟩)].toArray 109 (0, 0))) := hwp ▸ hbp
  have HCP : Hid (Chg [] wa wp) := hwp ▸ ((Chg.refl _ _).alloc _).drew
  have hkp : (wa.alloc (.cells #[.pointer (some ⟨p.g.mb, 0, none⟩), .pointer (some ⟨p.y, 0, none⟩)] 109)).drew = wp := hwp.symm
  clear hwp hbp
  have HBO : Hid (wp.heap[w.heap.size]? = some (.cells [.int .i64 3, .int .i64 m, .int .i64 c.c0, .int .i64 c.p0, .int .i64 c.b0, .int .i64 c.c1, .int .i64 c.p1, .int .i64 c.b1, .int .i64 c.c2, .int .i64 c.p2, .int .i64 c.b2, .slice la os.length cap, .int .i64 c.sh, .int .i64 c.sl, .int .i64 c.ev, .int .i64 c.de, .int .i64 c.qu, .int .u16 t, .int .u16 u, .int .u16 r, .int .i64 a, .int .u32 it, .string tx, .slice ll ln lc].toArray 62 (0, 0))) := HCP.out.blk HBX.out (by simp)
  have HLT : Hid (∀ b ∈ p.fp, b < w.heap.size) := (HWA.out.each p (List.mem_of_getElem? HP.out)).lt
  have hs0 := HCW.out.size
  obtain ⟨er, M, hB⟩ := HPA.out.advs HQ.out ha
  have HB : Hid (Both Q wa p 22 37 [.int .i64 a] (.returned (.int .i64 er)) M) := hB
  clear hB
  go_enter Tryz.func18, Tryz.ntmps18
  go_wp2_with fail
  go_region_held3 (fun W => W.cell? ⟨wb, 0, none⟩ = some (.slice (some ⟨lbm, lofm, none⟩) ps.length capm) ∧ W.cell? ⟨w.heap.size, 1, none⟩ = some (.int .i64 m) ∧ W.cell? ⟨lbm, lofm + j * 2, none⟩ = some (.pointer (some ⟨p.g.mb, 0, none⟩)) ∧ W.cell? ⟨lbm, lofm + j * 2 + 1, none⟩ = some (.pointer (some ⟨p.y, 0, none⟩)))
    (first | exact HS.out _ ((Chg.refl _ _).drew) | exact HS.out _ (((Chg.refl _ _).drew).alloc _) | exact HS.out _ HCP.out | fail)
    (first | (go_at_call 36; refine (HPk.out _).mono ?_; rintro e w2 ⟨rfl, rfl⟩) | fail)
  all_goals
    have k0 := blk_cell (i := 0) HBO.out rfl
    have k20 := blk_cell (i := 20) HBO.out rfl
    have q0 := blk_cell (i := 0) HBP.out rfl
    go_wp2_with fail
    refine (HB.out.one wp HCP.out).mono ?_
    rintro e w2 ⟨rfl, hM⟩
    have c2 := HB.out.chg _ _ hM
    have sP := HCP.out.size
    have HM : Hid (M wp w2) := hM
    have s2 := c2.size
    have HBP2 : Hid (w2.heap[wa.heap.size]? = some (.cells [.pointer (some ⟨p.g.mb, 0, none⟩), .pointer (some ⟨p.y, 0, none⟩)].toArray 109 (0, 0))) := c2.blk HBP.out (fun hb => by have := HLT.out _ hb; omega)
    have HBO2 : Hid (w2.heap[w.heap.size]? = some (.cells [.int .i64 3, .int .i64 m, .int .i64 c.c0, .int .i64 c.p0, .int .i64 c.b0, .int .i64 c.c1, .int .i64 c.p1, .int .i64 c.b1, .int .i64 c.c2, .int .i64 c.p2, .int .i64 c.b2, .slice la os.length cap, .int .i64 c.sh, .int .i64 c.sl, .int .i64 c.ev, .int .i64 c.de, .int .i64 c.qu, .int .u16 t, .int .u16 u, .int .u16 r, .int .i64 a, .int .u32 it, .string tx, .slice ll ln lc].toArray 62 (0, 0))) := c2.blk HBO.out (fun hb => by have := HLT.out _ hb; omega)
    clear c2 hM
    have q1 := blk_cell (i := 1) HBP2.out rfl
    have j20 := blk_cell (i := 20) HBO2.out rfl
    clear k0 k20 q0
    go_wp2_with fail
    refine (HB.out.two wp w2 w2 HCP.out HM.out (Chg.refl _ _)).mono ?_
    rintro e w3 ⟨rfl, c3, p', hs⟩
    have HSP : Hid (PStp Q wp w3 p p') := hs
    clear hs q1 j20 c3
    go_wp2_with fail
    refine (num_any _ _).mono ?_
    rintro e w5 ⟨rfl, rfl⟩
    go_wp2_with fail
    refine (num_any _ _).mono ?_
    rintro e w6 ⟨rfl, rfl⟩
    go_wp2
    go_ret
    exact StpP.upd HWA.out HP.out (PStp.head (HCW.out.trans HCP.out (by simp)) HSP.out)
end Go.Proofs.YtbdnhllhdjepcaaGreat
namespace Go.Proofs.YtbdnhllhdjepcaaGreat
set_option linter.unusedVariables false
set_option linter.unusedSimpArgs false
open Go.RowKit Go.Maps

/-! ### a request -/
set_option maxRecDepth 100000 in
set_option maxHeartbeats 4000000 in
theorem step_allow {Q : Qs → Rf → Prop} (hQ : QP Q) (m : Int) (c : Cf) (la : Option Addr) (os : List Ov) (cap : Nat) (t u r a it : Int) (tx : ByteArray) (ll : Option Addr) (ln lc : Nat) (w : World) (lo wb : Nat) (mv x1 x2 x3 x4 x5 : Value) (ps : List Pr) (N : Nat) (hw : WAt Q w lo wb mv x1 x2 x3 x4 x5 ps N) (hps : ps.length ≤ 1000000000000) (hm : I6 m) (ha : I6 a) (ht : U16 t) (hu : U16 u) (hr : U16 r) (hN : N ≤ 5000000000000) :
    Calls Tryz.prog 18 #[.pointer (some ⟨wb, 0, none⟩), .agg #[.int .i64 4, .int .i64 m, .int .i64 c.c0, .int .i64 c.p0, .int .i64 c.b0, .int .i64 c.c1, .int .i64 c.p1, .int .i64 c.b1, .int .i64 c.c2, .int .i64 c.p2, .int .i64 c.b2, .slice la os.length cap, .int .i64 c.sh, .int .i64 c.sl, .int .i64 c.ev, .int .i64 c.de, .int .i64 c.qu, .int .u16 t, .int .u16 u, .int .u16 r, .int .i64 a, .int .u32 it, .string tx, .slice ll ln lc]] w fun e w' => StpP Q w w' lo wb mv x1 x2 x3 x4 x5 ps N e := by
  have HQ : Hid (QP Q) := hQ
  have HWA : Hid (WAt Q w lo wb mv x1 x2 x3 x4 x5 ps N) := hw
  have hbx := heap_alloc_new w (.cells [.int .i64 4, .int .i64 m, .int .i64 c.c0, .int .i64 c.p0, .int .i64 c.b0, .int .i64 c.c1, .int .i64 c.p1, .int .i64 c.b1, .int .i64 c.c2, .int .i64 c.p2, .int .i64 c.b2, .slice la os.length cap, .int .i64 c.sh, .int .i64 c.sl, .int .i64 c.ev, .int .i64 c.de, .int .i64 c.qu, .int .u16 t, .int .u16 u, .int .u16 r, .int .i64 a, .int .u32 it, .string tx, .slice ll ln lc].toArray 62)
  have hcw : Chg [] w (w.alloc (.cells [.int .i64 4, .int .i64 m, .int .i64 c.c0, .int .i64 c.p0, .int .i64 c.b0, .int .i64 c.c1, .int .i64 c.p1, .int .i64 c.b1, .int .i64 c.c2, .int .i64 c.p2, .int .i64 c.b2, .slice la os.length cap, .int .i64 c.sh, .int .i64 c.sl, .int .i64 c.ev, .int .i64 c.de, .int .i64 c.qu, .int .u16 t, .int .u16 u, .int .u16 r, .int .i64 a, .int .u32 it, .string tx, .slice ll ln lc].toArray 62)) := (Chg.refl _ _).alloc _
  obtain ⟨wa, hwa⟩ : ∃ wa, wa = w.alloc (.cells [.int .i64 4, .int .i64 m, .int .i64 c.c0, .int .i64 c.p0, .int .i64 c.b0, .int .i64 c.c1, .int .i64 c.p1, .int .i64 c.b1, .int .i64 c.c2, .int .i64 c.p2, .int .i64 c.b2, .slice la os.length cap, .int .i64 c.sh, .int .i64 c.sl, .int .i64 c.ev, .int .i64 c.de, .int .i64 c.qu, .int .u16 t, .int .u16 u, .int .u16 r, .int .i64 a, .int .u32 it, .string tx, .slice ll ln lc].toArray 62) := ⟨_, rfl⟩
  rw [← hwa] at hbx hcw
  have hkw : w.alloc (.cells #[.int .i64 4, .int .i64 m, .int .i64 c.c0, .int .i64 c.p0, .int .i64 c.b0, .int .i64 c.c1, .int .i64 c.p1, .int .i64 c.b1, .int .i64 c.c2, .int .i64 c.p2, .int .i64 c.b2, .slice la os.length cap, .int .i64 c.sh, .int .i64 c.sl, .int .i64 c.ev, .int .i64 c.de, .int .i64 c.qu, .int .u16 t, .int .u16 u, .int .u16 r, .int .i64 a, .int .u32 it, .string tx, .slice ll ln lc] 62) = wa := hwa.symm
  have HBX : Hid (wa.heap[w.heap.size]? = some (.cells [.int .i64 4, .int .i64 m, .int .i64 c.c0, .int .i64 c.p0, .int .i64 c.b0, .int .i64 c.c1, .int .i64 c.p1, .int .i64 c.b1, .int .i64 c.c2, .int .i64 c.p2, .int .i64 c.b2, .slice la os.length cap, .int .i64 c.sh, .int .i64 c.sl, .int .i64 c.ev, .int .i64 c.de, .int .i64 c.qu, .int .u16 t, .int .u16 u, .int .u16 r, .int .i64 a, .int .u32 it, .string tx, .slice ll ln lc].toArray 62 (0, 0))) := hbx
  have HCW : Hid (Chg [] w wa) := hcw
  have b0 := blk_cell (i := 0) HBX.out rfl
  clear hwa hcw hbx hw hQ
  have HWa : Hid (WAt Q wa lo wb mv x1 x2 x3 x4 x5 ps N) := HWA.out.chg HCW.out (by simp)
  have y0 : wa.cell? ⟨wb, 0, none⟩ = some mv := blk_cell (i := 0) HWa.out.blk rfl
  obtain ⟨lam, lbm, lofm, capm, hmv, hl1, _, hl2, hl3⟩ := HWa.out.row.laid
  subst hmv
  have b1 := blk_cell (i := 1) HBX.out rfl
  have hwbl := lt_of_block HWa.out.blk
  have hbxl := lt_of_block HBX.out
  by_cases hz : ps.length = 0
  · have hz' : (ps.length : Int) = 0 := by omega
    clear hl1 hl2 hl3 b1
    go_enter Tryz.func18, Tryz.ntmps18
    go_wp2
    go_ret
    exact StpP.none HWA.out HCW.out
  obtain ⟨rfl, _⟩ := hl1 (by omega)
  have hlbl := hl2 (by omega)
  have hpk := pk_bd m ps.length (by omega)
  obtain ⟨j, hj⟩ : ∃ j : Nat, pk m ps.length = (j : Int) := ⟨(pk m ps.length).toNat, by omega⟩
  rw [hj] at hpk
  have hjl : j < ps.length := by omega
  have hz1 : ¬ (ps.length : Int) = 0 := by omega
  obtain ⟨p, hp⟩ : ∃ p, ps[j]? = some p := ⟨_, List.getElem?_eq_getElem hjl⟩
  have hpe : ps[j] = p := by rw [List.getElem?_eq_getElem hjl] at hp; cases hp; rfl
  have z0 := hl3 (j * 2 + 0) _ (by rw [pc_at ps j hjl 0 (by decide), hpe]; rfl)
  have z1 := hl3 (j * 2 + 1) _ (by rw [pc_at ps j hjl 1 (by decide), hpe]; rfl)
  simp only [Nat.add_zero, ← Nat.add_assoc] at z0 z1
  have HP : Hid (ps[j]? = some p) := hp
  have HPA : Hid (p.At Q wa) := HWa.out.each p (List.mem_of_getElem? hp)
  have HFEW : Hid (p.s.ms.length ≤ N) := HWa.out.few p (List.mem_of_getElem? hp)
  have HPk : Hid (∀ W, Calls Tryz.prog 36 #[.int .i64 m, .int .i64 (ps.length : Int)] W fun e w' => e = .returned (.int .i64 j) ∧ w' = W) := fun W => by
    rw [← hj]
    exact pick36 m ps.length W hm (by omega) (by omega)
  have HS : Hid (∀ W, Chg [] wa W → (W.cell? ⟨wb, 0, none⟩ = some (.slice (some ⟨lbm, lofm, none⟩) ps.length capm) ∧ W.cell? ⟨w.heap.size, 1, none⟩ = some (.int .i64 m) ∧ W.cell? ⟨lbm, lofm + j * 2, none⟩ = some (.pointer (some ⟨p.g.mb, 0, none⟩)) ∧ W.cell? ⟨lbm, lofm + j * 2 + 1, none⟩ = some (.pointer (some ⟨p.y, 0, none⟩)))) := fun W hW =>
    ⟨hW.cell y0 (by simp), hW.cell b1 (by simp), hW.cell z0 (by simp), hW.cell z1 (by simp)⟩
  clear hl1 hl2 hl3 hp hpe hm hj
  have hj0 : (0 : Int) ≤ (j : Int) := by omega
  have hj1 : (j : Int) < (ps.length : Int) := by omega
  have hbp := heap_alloc_new wa (.cells [.pointer (some ⟨p.g.mb, 0, none⟩), .pointer (some ⟨p.y, 0, none⟩)].toArray 109)
  obtain ⟨wp, hwp⟩ : ∃ wp, wp = (wa.alloc (.cells [.pointer (some ⟨p.g.mb, 0, none⟩), .pointer (some ⟨p.y, 0, none⟩)].toArray 109)).drew := ⟨_, rfl⟩
  have HBP : Hid (wp.heap[wa.heap.size]? = some (.cells [.pointer (some ⟨p.g.mb, 0, none⟩), .pointer (some ⟨p.y, 0, none⟩)].toArray 109 (0, 0))) := hwp ▸ hbp
  have HCP : Hid (Chg [] wa wp) := hwp ▸ ((Chg.refl _ _).alloc _).drew
  have hkp : (wa.alloc (.cells #[.pointer (some ⟨p.g.mb, 0, none⟩), .pointer (some ⟨p.y, 0, none⟩)] 109)).drew = wp := hwp.symm
  clear hwp hbp
  have HBO : Hid (wp.heap[w.heap.size]? = some (.cells [.int .i64 4, .int .i64 m, .int .i64 c.c0, .int .i64 c.p0, .int .i64 c.b0, .int .i64 c.c1, .int .i64 c.p1, .int .i64 c.b1, .int .i64 c.c2, .int .i64 c.p2, .int .i64 c.b2, .slice la os.length cap, .int .i64 c.sh, .int .i64 c.sl, .int .i64 c.ev, .int .i64 c.de, .int .i64 c.qu, .int .u16 t, .int .u16 u, .int .u16 r, .int .i64 a, .int .u32 it, .string tx, .slice ll ln lc].toArray 62 (0, 0))) := HCP.out.blk HBX.out (by simp)
  have HLT : Hid (∀ b ∈ p.fp, b < w.heap.size) := (HWA.out.each p (List.mem_of_getElem? HP.out)).lt
  have hs0 := HCW.out.size
  obtain ⟨st, lv, rt, er, M, hB⟩ := HPA.out.asks HQ.out ht hu hr ha (by have := HFEW.out; omega)
  have HB : Hid (Both Q wa p 21 38 [.agg #[.int .u16 t, .int .u16 u, .int .u16 r], .int .i64 a] (.returned (.tuple #[.agg #[.int .i64 st, .int .i64 lv, .int .u64 rt], .int .i64 er])) M) := hB
  clear hB ht hu hr
  go_enter Tryz.func18, Tryz.ntmps18
  go_wp2_with fail
  go_region_held3 (fun W => W.cell? ⟨wb, 0, none⟩ = some (.slice (some ⟨lbm, lofm, none⟩) ps.length capm) ∧ W.cell? ⟨w.heap.size, 1, none⟩ = some (.int .i64 m) ∧ W.cell? ⟨lbm, lofm + j * 2, none⟩ = some (.pointer (some ⟨p.g.mb, 0, none⟩)) ∧ W.cell? ⟨lbm, lofm + j * 2 + 1, none⟩ = some (.pointer (some ⟨p.y, 0, none⟩)))
    (first | exact HS.out _ ((Chg.refl _ _).drew) | exact HS.out _ (((Chg.refl _ _).drew).alloc _) | exact HS.out _ HCP.out | fail)
    (first | (go_at_call 36; refine (HPk.out _).mono ?_; rintro e w2 ⟨rfl, rfl⟩) | fail)
  all_goals
    have k0 := blk_cell (i := 0) HBO.out rfl
    have k17 := blk_cell (i := 17) HBO.out rfl
    have k18 := blk_cell (i := 18) HBO.out rfl
    have k19 := blk_cell (i := 19) HBO.out rfl
    have k20 := blk_cell (i := 20) HBO.out rfl
    have q0 := blk_cell (i := 0) HBP.out rfl
    go_wp2_with fail
    refine (HB.out.one wp HCP.out).mono ?_
    rintro e w2 ⟨rfl, hM⟩
    have c2 := HB.out.chg _ _ hM
    have sP := HCP.out.size
    have HM : Hid (M wp w2) := hM
    have s2 := c2.size
    have HBP2 : Hid (w2.heap[wa.heap.size]? = some (.cells [.pointer (some ⟨p.g.mb, 0, none⟩), .pointer (some ⟨p.y, 0, none⟩)].toArray 109 (0, 0))) := c2.blk HBP.out (fun hb => by have := HLT.out _ hb; omega)
    have HBO2 : Hid (w2.heap[w.heap.size]? = some (.cells [.int .i64 4, .int .i64 m, .int .i64 c.c0, .int .i64 c.p0, .int .i64 c.b0, .int .i64 c.c1, .int .i64 c.p1, .int .i64 c.b1, .int .i64 c.c2, .int .i64 c.p2, .int .i64 c.b2, .slice la os.length cap, .int .i64 c.sh, .int .i64 c.sl, .int .i64 c.ev, .int .i64 c.de, .int .i64 c.qu, .int .u16 t, .int .u16 u, .int .u16 r, .int .i64 a, .int .u32 it, .string tx, .slice ll ln lc].toArray 62 (0, 0))) := c2.blk HBO.out (fun hb => by have := HLT.out _ hb; omega)
    clear c2 hM
    have ha9 := heap_alloc_new w2 (.cells [.int .i64 st, .int .i64 lv, .int .u64 rt].toArray 68)
    have hc9 : Chg [] w2 (w2.alloc (.cells [.int .i64 st, .int .i64 lv, .int .u64 rt].toArray 68)) := (Chg.refl _ _).alloc _
    obtain ⟨w9, hw9⟩ : ∃ w9, w9 = w2.alloc (.cells [.int .i64 st, .int .i64 lv, .int .u64 rt].toArray 68) := ⟨_, rfl⟩
    rw [← hw9] at ha9 hc9
    have hk9 : w2.alloc (.cells #[.int .i64 st, .int .i64 lv, .int .u64 rt] 68) = w9 := hw9.symm
    have HA9 : Hid (w9.heap[w2.heap.size]? = some (.cells [.int .i64 st, .int .i64 lv, .int .u64 rt].toArray 68 (0, 0))) := ha9
    have HC9 : Hid (Chg [] w2 w9) := hc9
    have q1 := blk_cell (i := 1) (hc9.blk HBP2.out (by simp)) rfl
    have j17 := blk_cell (i := 17) (hc9.blk HBO2.out (by simp)) rfl
    have j18 := blk_cell (i := 18) (hc9.blk HBO2.out (by simp)) rfl
    have j19 := blk_cell (i := 19) (hc9.blk HBO2.out (by simp)) rfl
    have j20 := blk_cell (i := 20) (hc9.blk HBO2.out (by simp)) rfl
    clear hw9 ha9 hc9 k0 k17 k18 k19 k20 q0
    go_wp2_with fail
    refine (HB.out.two wp w2 w9 HCP.out HM.out HC9.out).mono ?_
    rintro e w3 ⟨rfl, c3, p', hs⟩
    have HSP : Hid (PStp Q wp w3 p p') := hs
    have HA9' : Hid (w3.heap[w2.heap.size]? = some (.cells [.int .i64 st, .int .i64 lv, .int .u64 rt].toArray 68 (0, 0))) := c3.blk HA9.out (fun hb => by have := HLT.out _ hb; omega)
    have hlt9 := lt_of_block HA9'.out
    have ha11 := heap_alloc_new w3 (.cells [.int .i64 st, .int .i64 lv, .int .u64 rt].toArray 68)
    have hc11 : Chg [] w3 (w3.alloc (.cells [.int .i64 st, .int .i64 lv, .int .u64 rt].toArray 68)) := (Chg.refl _ _).alloc _
    obtain ⟨wz, hwz⟩ : ∃ wz, wz = w3.alloc (.cells [.int .i64 st, .int .i64 lv, .int .u64 rt].toArray 68) := ⟨_, rfl⟩
    rw [← hwz] at ha11 hc11
    have hkz : w3.alloc (.cells #[.int .i64 st, .int .i64 lv, .int .u64 rt] 68) = wz := hwz.symm
    have HCZ : Hid (Chg [] w3 wz) := hc11
    have HS2 : Hid (∀ W, Chg [] wz W → (W.cell? ⟨w2.heap.size, 0, none⟩ = some (.int .i64 st) ∧ W.cell? ⟨w2.heap.size, 1, none⟩ = some (.int .i64 lv) ∧ W.cell? ⟨w2.heap.size, 2, none⟩ = some (.int .u64 rt) ∧ W.cell? ⟨w3.heap.size, 0, none⟩ = some (.int .i64 st) ∧ W.cell? ⟨w3.heap.size, 1, none⟩ = some (.int .i64 lv) ∧ W.cell? ⟨w3.heap.size, 2, none⟩ = some (.int .u64 rt))) := fun W hW =>
      ⟨blk_cell (i := 0) (hW.blk (hc11.blk HA9'.out (by simp)) (by simp)) rfl, blk_cell (i := 1) (hW.blk (hc11.blk HA9'.out (by simp)) (by simp)) rfl, blk_cell (i := 2) (hW.blk (hc11.blk HA9'.out (by simp)) (by simp)) rfl, blk_cell (i := 0) (hW.blk ha11 (by simp)) rfl, blk_cell (i := 1) (hW.blk ha11 (by simp)) rfl, blk_cell (i := 2) (hW.blk ha11 (by simp)) rfl⟩
    clear hwz hs c3 j17 j18 j19 j20 q1
    have HCE : Hid (Chg [] wz wz.drew) := (Chg.refl _ _).drew
    clear ha11 hc11
    go_wp2_with fail
    go_region_held3 (fun W => W.cell? ⟨w2.heap.size, 0, none⟩ = some (.int .i64 st) ∧ W.cell? ⟨w2.heap.size, 1, none⟩ = some (.int .i64 lv) ∧ W.cell? ⟨w2.heap.size, 2, none⟩ = some (.int .u64 rt) ∧ W.cell? ⟨w3.heap.size, 0, none⟩ = some (.int .i64 st) ∧ W.cell? ⟨w3.heap.size, 1, none⟩ = some (.int .i64 lv) ∧ W.cell? ⟨w3.heap.size, 2, none⟩ = some (.int .u64 rt))
      (first | exact HS2.out _ ((Chg.refl _ _).drew) | fail)
      (first | (go_at_call 39; refine (what_any _ _).mono ?_; rintro e w4 ⟨rfl, rfl⟩) | (go_at_call 35; refine (num_any _ _).mono ?_; rintro e w4 ⟨rfl, rfl⟩) | fail)
    all_goals
      go_wp2
      go_ret
      exact StpP.upd HWA.out HP.out ((PStp.head (HCW.out.trans HCP.out (by simp)) HSP.out).tail (HCZ.out.drew))
end Go.Proofs.YtbdnhllhdjepcaaGreat
