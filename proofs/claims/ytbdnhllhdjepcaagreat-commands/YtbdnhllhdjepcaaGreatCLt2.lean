import Derived.Test.YtbdnhllhdjepcaaGreatCLx
namespace Go.Proofs.YtbdnhllhdjepcaaGreat
set_option linter.unusedVariables false
set_option linter.unusedSimpArgs false
open Go.RowKit Go.Maps

/-! ### a meter more -/
theorem StpP.head {Q : Qs → Rf → Prop} {w w1 w2 : World} {lo wb : Nat} {mv x1 x2 x3 x4 x5 : Value} {ps : List Pr} {N : Nat} {e : Ending} (h : StpP Q w1 w2 lo wb mv x1 x2 x3 x4 x5 ps N e) (hc : Chg [] w w1) : StpP Q w w2 lo wb mv x1 x2 x3 x4 x5 ps N e := by
  obtain ⟨rfl, mv', ps', z1, z2, z3⟩ := h
  exact ⟨rfl, mv', ps', z1, z2, ⟨(hc.mono (by simp)).trans z3.chg (fun j hj => Or.inl hj), fun b hb => (z3.new b hb).imp id (fun hx => Nat.le_trans hc.size hx)⟩⟩
set_option maxRecDepth 100000 in
set_option maxHeartbeats 4000000 in
theorem step_new {Q : Qs → Rf → Prop} (hQ : QP Q) (m : Int) (c : Cf) (la : Option Addr) (os : List Ov) (cap : Nat) (t u r a it : Int) (tx : ByteArray) (ll : Option Addr) (ln lc : Nat) (w : World) (lo wb : Nat) (mv x1 x2 x3 x4 x5 : Value) (ps : List Pr) (N : Nat) (hw : WAt Q w lo wb mv x1 x2 x3 x4 x5 ps N) (hps : ps.length ≤ 1000000000000) (lb lof : Nat) (h : OvsAt w la lb lof os) (hok : ∀ o ∈ os, o.Ok) (hc : c.Ok) (hlen : os.length ≤ 3518437208780) :
    Calls Tryz.prog 18 #[.pointer (some ⟨wb, 0, none⟩), .agg #[.int .i64 1, .int .i64 m, .int .i64 c.c0, .int .i64 c.p0, .int .i64 c.b0, .int .i64 c.c1, .int .i64 c.p1, .int .i64 c.b1, .int .i64 c.c2, .int .i64 c.p2, .int .i64 c.b2, .slice la os.length cap, .int .i64 c.sh, .int .i64 c.sl, .int .i64 c.ev, .int .i64 c.de, .int .i64 c.qu, .int .u16 t, .int .u16 u, .int .u16 r, .int .i64 a, .int .u32 it, .string tx, .slice ll ln lc]] w fun e w' => StpP Q w w' lo wb mv x1 x2 x3 x4 x5 ps N e := by
  have HQ : Hid (QP Q) := hQ
  have HWA : Hid (WAt Q w lo wb mv x1 x2 x3 x4 x5 ps N) := hw
  have hbx := heap_alloc_new w (.cells [.int .i64 1, .int .i64 m, .int .i64 c.c0, .int .i64 c.p0, .int .i64 c.b0, .int .i64 c.c1, .int .i64 c.p1, .int .i64 c.b1, .int .i64 c.c2, .int .i64 c.p2, .int .i64 c.b2, .slice la os.length cap, .int .i64 c.sh, .int .i64 c.sl, .int .i64 c.ev, .int .i64 c.de, .int .i64 c.qu, .int .u16 t, .int .u16 u, .int .u16 r, .int .i64 a, .int .u32 it, .string tx, .slice ll ln lc].toArray 62)
  have hcw : Chg [] w (w.alloc (.cells [.int .i64 1, .int .i64 m, .int .i64 c.c0, .int .i64 c.p0, .int .i64 c.b0, .int .i64 c.c1, .int .i64 c.p1, .int .i64 c.b1, .int .i64 c.c2, .int .i64 c.p2, .int .i64 c.b2, .slice la os.length cap, .int .i64 c.sh, .int .i64 c.sl, .int .i64 c.ev, .int .i64 c.de, .int .i64 c.qu, .int .u16 t, .int .u16 u, .int .u16 r, .int .i64 a, .int .u32 it, .string tx, .slice ll ln lc].toArray 62)) := (Chg.refl _ _).alloc _
  obtain ⟨wa, hwa⟩ : ∃ wa, wa = w.alloc (.cells [.int .i64 1, .int .i64 m, .int .i64 c.c0, .int .i64 c.p0, .int .i64 c.b0, .int .i64 c.c1, .int .i64 c.p1, .int .i64 c.b1, .int .i64 c.c2, .int .i64 c.p2, .int .i64 c.b2, .slice la os.length cap, .int .i64 c.sh, .int .i64 c.sl, .int .i64 c.ev, .int .i64 c.de, .int .i64 c.qu, .int .u16 t, .int .u16 u, .int .u16 r, .int .i64 a, .int .u32 it, .string tx, .slice ll ln lc].toArray 62) := ⟨_, rfl⟩
  rw [← hwa] at hbx hcw
  have hkw : w.alloc (.cells #[.int .i64 1, .int .i64 m, .int .i64 c.c0, .int .i64 c.p0, .int .i64 c.b0, .int .i64 c.c1, .int .i64 c.p1, .int .i64 c.b1, .int .i64 c.c2, .int .i64 c.p2, .int .i64 c.b2, .slice la os.length cap, .int .i64 c.sh, .int .i64 c.sl, .int .i64 c.ev, .int .i64 c.de, .int .i64 c.qu, .int .u16 t, .int .u16 u, .int .u16 r, .int .i64 a, .int .u32 it, .string tx, .slice ll ln lc] 62) = wa := hwa.symm
  have HBX : Hid (wa.heap[w.heap.size]? = some (.cells [.int .i64 1, .int .i64 m, .int .i64 c.c0, .int .i64 c.p0, .int .i64 c.b0, .int .i64 c.c1, .int .i64 c.p1, .int .i64 c.b1, .int .i64 c.c2, .int .i64 c.p2, .int .i64 c.b2, .slice la os.length cap, .int .i64 c.sh, .int .i64 c.sl, .int .i64 c.ev, .int .i64 c.de, .int .i64 c.qu, .int .u16 t, .int .u16 u, .int .u16 r, .int .i64 a, .int .u32 it, .string tx, .slice ll ln lc].toArray 62 (0, 0))) := hbx
  have HCW : Hid (Chg [] w wa) := hcw
  have b0 := blk_cell (i := 0) HBX.out rfl
  clear hwa hcw hbx hw hQ
  have HOV : Hid (OvsAt w la lb lof os) := h
  clear h
  have cc := fun (i : Nat) (v : Value) (hv : [.int .i64 1, .int .i64 m, .int .i64 c.c0, .int .i64 c.p0, .int .i64 c.b0, .int .i64 c.c1, .int .i64 c.p1, .int .i64 c.b1, .int .i64 c.c2, .int .i64 c.p2, .int .i64 c.b2, .slice la os.length cap, .int .i64 c.sh, .int .i64 c.sl, .int .i64 c.ev, .int .i64 c.de, .int .i64 c.qu, .int .u16 t, .int .u16 u, .int .u16 r, .int .i64 a, .int .u32 it, .string tx, .slice ll ln lc][i]? = some v) => blk_cell (i := i) HBX.out hv
  have b2 := cc 2 _ rfl
  have b3 := cc 3 _ rfl
  have b4 := cc 4 _ rfl
  have b5 := cc 5 _ rfl
  have b6 := cc 6 _ rfl
  have b7 := cc 7 _ rfl
  have b8 := cc 8 _ rfl
  have b9 := cc 9 _ rfl
  have b10 := cc 10 _ rfl
  have b11 := cc 11 _ rfl
  have b12 := cc 12 _ rfl
  have b13 := cc 13 _ rfl
  have b14 := cc 14 _ rfl
  have b15 := cc 15 _ rfl
  have b16 := cc 16 _ rfl
  clear cc
  go_enter Tryz.func18, Tryz.ntmps18
  go_wp2_with fail
  refine (made_any HQ.out c la lb lof cap os wa (HOV.out.chg HCW.out (by simp)) hok hc hlen lo wb mv x1 x2 x3 x4 x5 ps N (HWA.out.chg HCW.out (by simp)) hps).mono ?_
  rintro e w2 hst
  obtain ⟨rfl, mv', ps', z1, z2, z3⟩ := hst
  have HZ : Hid (StpP Q wa w2 lo wb mv x1 x2 x3 x4 x5 ps N (.returned (.bool true))) := ⟨rfl, mv', ps', z1, z2, z3⟩
  clear z1 z2 z3 hok
  go_wp2
  go_ret
  exact HZ.out.head HCW.out
end Go.Proofs.YtbdnhllhdjepcaaGreat
namespace Go.Proofs.YtbdnhllhdjepcaaGreat
set_option linter.unusedVariables false
set_option linter.unusedSimpArgs false
open Go.RowKit Go.Maps

/-! ### the time -/
set_option maxRecDepth 100000 in
set_option maxHeartbeats 4000000 in
theorem step_now {Q : Qs → Rf → Prop} (hQ : QP Q) (m : Int) (c : Cf) (la : Option Addr) (os : List Ov) (cap : Nat) (t u r a it : Int) (tx : ByteArray) (ll : Option Addr) (ln lc : Nat) (w : World) (lo wb : Nat) (mv x1 x2 x3 x4 x5 : Value) (ps : List Pr) (N : Nat) (hw : WAt Q w lo wb mv x1 x2 x3 x4 x5 ps N) (hps : ps.length ≤ 1000000000000) (hm : I6 m) :
    Calls Tryz.prog 18 #[.pointer (some ⟨wb, 0, none⟩), .agg #[.int .i64 2, .int .i64 m, .int .i64 c.c0, .int .i64 c.p0, .int .i64 c.b0, .int .i64 c.c1, .int .i64 c.p1, .int .i64 c.b1, .int .i64 c.c2, .int .i64 c.p2, .int .i64 c.b2, .slice la os.length cap, .int .i64 c.sh, .int .i64 c.sl, .int .i64 c.ev, .int .i64 c.de, .int .i64 c.qu, .int .u16 t, .int .u16 u, .int .u16 r, .int .i64 a, .int .u32 it, .string tx, .slice ll ln lc]] w fun e w' => StpP Q w w' lo wb mv x1 x2 x3 x4 x5 ps N e := by
  have HQ : Hid (QP Q) := hQ
  have HWA : Hid (WAt Q w lo wb mv x1 x2 x3 x4 x5 ps N) := hw
  have hbx := heap_alloc_new w (.cells [.int .i64 2, .int .i64 m, .int .i64 c.c0, .int .i64 c.p0, .int .i64 c.b0, .int .i64 c.c1, .int .i64 c.p1, .int .i64 c.b1, .int .i64 c.c2, .int .i64 c.p2, .int .i64 c.b2, .slice la os.length cap, .int .i64 c.sh, .int .i64 c.sl, .int .i64 c.ev, .int .i64 c.de, .int .i64 c.qu, .int .u16 t, .int .u16 u, .int .u16 r, .int .i64 a, .int .u32 it, .string tx, .slice ll ln lc].toArray 62)
  have hcw : Chg [] w (w.alloc (.cells [.int .i64 2, .int .i64 m, .int .i64 c.c0, .int .i64 c.p0, .int .i64 c.b0, .int .i64 c.c1, .int .i64 c.p1, .int .i64 c.b1, .int .i64 c.c2, .int .i64 c.p2, .int .i64 c.b2, .slice la os.length cap, .int .i64 c.sh, .int .i64 c.sl, .int .i64 c.ev, .int .i64 c.de, .int .i64 c.qu, .int .u16 t, .int .u16 u, .int .u16 r, .int .i64 a, .int .u32 it, .string tx, .slice ll ln lc].toArray 62)) := (Chg.refl _ _).alloc _
  obtain ⟨wa, hwa⟩ : ∃ wa, wa = w.alloc (.cells [.int .i64 2, .int .i64 m, .int .i64 c.c0, .int .i64 c.p0, .int .i64 c.b0, .int .i64 c.c1, .int .i64 c.p1, .int .i64 c.b1, .int .i64 c.c2, .int .i64 c.p2, .int .i64 c.b2, .slice la os.length cap, .int .i64 c.sh, .int .i64 c.sl, .int .i64 c.ev, .int .i64 c.de, .int .i64 c.qu, .int .u16 t, .int .u16 u, .int .u16 r, .int .i64 a, .int .u32 it, .string tx, .slice ll ln lc].toArray 62) := ⟨_, rfl⟩
  rw [← hwa] at hbx hcw
  have hkw : w.alloc (.cells #[.int .i64 2, .int .i64 m, .int .i64 c.c0, .int .i64 c.p0, .int .i64 c.b0, .int .i64 c.c1, .int .i64 c.p1, .int .i64 c.b1, .int .i64 c.c2, .int .i64 c.p2, .int .i64 c.b2, .slice la os.length cap, .int .i64 c.sh, .int .i64 c.sl, .int .i64 c.ev, .int .i64 c.de, .int .i64 c.qu, .int .u16 t, .int .u16 u, .int .u16 r, .int .i64 a, .int .u32 it, .string tx, .slice ll ln lc] 62) = wa := hwa.symm
  have HBX : Hid (wa.heap[w.heap.size]? = some (.cells [.int .i64 2, .int .i64 m, .int .i64 c.c0, .int .i64 c.p0, .int .i64 c.b0, .int .i64 c.c1, .int .i64 c.p1, .int .i64 c.b1, .int .i64 c.c2, .int .i64 c.p2, .int .i64 c.b2, .slice la os.length cap, .int .i64 c.sh, .int .i64 c.sl, .int .i64 c.ev, .int .i64 c.de, .int .i64 c.qu, .int .u16 t, .int .u16 u, .int .u16 r, .int .i64 a, .int .u32 it, .string tx, .slice ll ln lc].toArray 62 (0, 0))) := hbx
  have HCW : Hid (Chg [] w wa) := hcw
  have b0 := blk_cell (i := 0) HBX.out rfl
  clear hwa hcw hbx hw hQ
  have HWa : Hid (WAt Q wa lo wb mv x1 x2 x3 x4 x5 ps N) := HWA.out.chg HCW.out (by simp)
  have y0 : wa.cell? ⟨wb, 0, none⟩ = some mv := blk_cell (i := 0) HWa.out.blk rfl
  obtain ⟨lam, lbm, lofm, capm, hmv, hl1, _, hl2, hl3⟩ := HWa.out.row.laid
  subst hmv
  have b1 := blk_cell (i := 1) HBX.out rfl
  have hwbl := lt_of_block HWa.out.blk
  have hbxl := lt_of_block HBX.out
  by_cases hz : ps.length = 0
  · have hz' : (ps.length : Int) = 0 := by omega
    clear hl1 hl2 hl3 b1
    go_enter Tryz.func18, Tryz.ntmps18
    go_wp2
    go_ret
    exact StpP.none HWA.out HCW.out
  obtain ⟨rfl, _⟩ := hl1 (by omega)
  have hlbl := hl2 (by omega)
  have hpk := pk_bd m ps.length (by omega)
  obtain ⟨j, hj⟩ : ∃ j : Nat, pk m ps.length = (j : Int) := ⟨(pk m ps.length).toNat, by omega⟩
  rw [hj] at hpk
  have hjl : j < ps.length := by omega
  have hz1 : ¬ (ps.length : Int) = 0 := by omega
  obtain ⟨p, hp⟩ : ∃ p, ps[j]? = some p := ⟨_, List.getElem?_eq_getElem hjl⟩
  have hpe : ps[j] = p := by rw [List.getElem?_eq_getElem hjl] at hp; cases hp; rfl
  have z0 := hl3 (j * 2 + 0) _ (by rw [pc_at ps j hjl 0 (by decide), hpe]; rfl)
  have z1 := hl3 (j * 2 + 1) _ (by rw [pc_at ps j hjl 1 (by decide), hpe]; rfl)
  simp only [Nat.add_zero, ← Nat.add_assoc] at z0 z1
  have HP : Hid (ps[j]? = some p) := hp
  have HPA : Hid (p.At Q wa) := HWa.out.each p (List.mem_of_getElem? hp)
  have HFEW : Hid (p.s.ms.length ≤ N) := HWa.out.few p (List.mem_of_getElem? hp)
  have HPk : Hid (∀ W, Calls Tryz.prog 36 #[.int .i64 m, .int .i64 (ps.length : Int)] W fun e w' => e = .returned (.int .i64 j) ∧ w' = W) := fun W => by
    rw [← hj]
    exact pick36 m ps.length W hm (by omega) (by omega)
  have HS : Hid (∀ W, Chg [] wa W → (W.cell? ⟨wb, 0, none⟩ = some (.slice (some ⟨lbm, lofm, none⟩) ps.length capm) ∧ W.cell? ⟨w.heap.size, 1, none⟩ = some (.int .i64 m) ∧ W.cell? ⟨lbm, lofm + j * 2, none⟩ = some (.pointer (some ⟨p.g.mb, 0, none⟩)) ∧ W.cell? ⟨lbm, lofm + j * 2 + 1, none⟩ = some (.pointer (some ⟨p.y, 0, none⟩)))) := fun W hW =>
    ⟨hW.cell y0 (by simp), hW.cell b1 (by simp), hW.cell z0 (by simp), hW.cell z1 (by simp)⟩
  clear hl1 hl2 hl3 hp hpe hm hj
  have hj0 : (0 : Int) ≤ (j : Int) := by omega
  have hj1 : (j : Int) < (ps.length : Int) := by omega
  have hbp := heap_alloc_new wa (.cells [.pointer (some ⟨p.g.mb, 0, none⟩), .pointer (some ⟨p.y, 0, none⟩)].toArray 109)
  obtain ⟨wp, hwp⟩ : ∃ wp, wp = (wa.alloc (.cells [.pointer (some ⟨p.g.mb, 0, none⟩), .pointer (some ⟨p.y, 0, none⟩)].toArray 109)).drew := ⟨_, rfl⟩
  have HBP : Hid (wp.heap[wa.heap.size]? = some (.cells [.pointer (some ⟨p.g.mb, 0, none⟩), .pointer (some ⟨p.y, 0, none⟩)].toArray 109 (0, 0))) := hwp ▸ hbp
  have HCP : Hid (Chg [] wa wp) := hwp ▸ ((Chg.refl _ _).alloc _).drew
  have hkp : (wa.alloc (.cells #[.pointer (some ⟨p.g.mb, 0, none⟩), .pointer (some ⟨p.y, 0, none⟩)] 109)).drew = wp := hwp.symm
  clear hwp hbp
  have HBO : Hid (wp.heap[w.heap.size]? = some (.cells [.int .i64 2, .int .i64 m, .int .i64 c.c0, .int .i64 c.p0, .int .i64 c.b0, .int .i64 c.c1, .int .i64 c.p1, .int .i64 c.b1, .int .i64 c.c2, .int .i64 c.p2, .int .i64 c.b2, .slice la os.length cap, .int .i64 c.sh, .int .i64 c.sl, .int .i64 c.ev, .int .i64 c.de, .int .i64 c.qu, .int .u16 t, .int .u16 u, .int .u16 r, .int .i64 a, .int .u32 it, .string tx, .slice ll ln lc].toArray 62 (0, 0))) := HCP.out.blk HBX.out (by simp)
  have HLT : Hid (∀ b ∈ p.fp, b < w.heap.size) := (HWA.out.each p (List.mem_of_getElem? HP.out)).lt
  have hs0 := HCW.out.size
  go_enter Tryz.func18, Tryz.ntmps18
  go_wp2_with fail
  go_region_held3 (fun W => W.cell? ⟨wb, 0, none⟩ = some (.slice (some ⟨lbm, lofm, none⟩) ps.length capm) ∧ W.cell? ⟨w.heap.size, 1, none⟩ = some (.int .i64 m) ∧ W.cell? ⟨lbm, lofm + j * 2, none⟩ = some (.pointer (some ⟨p.g.mb, 0, none⟩)) ∧ W.cell? ⟨lbm, lofm + j * 2 + 1, none⟩ = some (.pointer (some ⟨p.y, 0, none⟩)))
    (first | exact HS.out _ ((Chg.refl _ _).drew) | exact HS.out _ (((Chg.refl _ _).drew).alloc _) | exact HS.out _ HCP.out | fail)
    (first | (go_at_call 36; refine (HPk.out _).mono ?_; rintro e w2 ⟨rfl, rfl⟩) | fail)
  all_goals
    have k0 := blk_cell (i := 0) HBO.out rfl
    have q0 := blk_cell (i := 0) HBP.out rfl
    go_wp2_with fail
    refine (HPA.out.now _ HCP.out).mono ?_
    rintro e w2 ⟨rfl, c2⟩
    have HC2 : Hid (Chg [] wa w2) := HCP.out.trans c2 (by simp)
    have q1 := blk_cell (i := 1) (c2.blk HBP.out (by simp)) rfl
    have y15 := (HPA.out.chg HC2.out (by simp)).time
    clear c2 k0 q0
    go_wp2
    go_ret
    exact StpP.none HWA.out (HCW.out.trans HC2.out (by simp))
end Go.Proofs.YtbdnhllhdjepcaaGreat
