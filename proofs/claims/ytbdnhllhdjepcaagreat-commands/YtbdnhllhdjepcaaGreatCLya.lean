import Derived.Test.YtbdnhllhdjepcaaGreatCLx
import Derived.Test.YtbdnhllhdjepcaaGreatCLt2
import Derived.Test.YtbdnhllhdjepcaaGreatCLt4
import Derived.Test.YtbdnhllhdjepcaaGreatCOps
namespace Go.Proofs.YtbdnhllhdjepcaaGreat
set_option linter.unusedVariables false
set_option linter.unusedSimpArgs false
open Go.RowKit Go.Maps

/-! ### a step of no kind -/
set_option maxRecDepth 100000 in
set_option maxHeartbeats 4000000 in
theorem step_no {Q : Qs → Rf → Prop} (hQ : QP Q) (k : Int) (m : Int) (c : Cf) (la : Option Addr) (os : List Ov) (cap : Nat) (t u r a it : Int) (tx : ByteArray) (ll : Option Addr) (ln lc : Nat) (w : World) (lo wb : Nat) (mv x1 x2 x3 x4 x5 : Value) (ps : List Pr) (N : Nat) (hw : WAt Q w lo wb mv x1 x2 x3 x4 x5 ps N) (hps : ps.length ≤ 1000000000000) (hm : I6 m) (hk : k < 1 ∨ 8 < k) :
    Calls Tryz.prog 18 #[.pointer (some ⟨wb, 0, none⟩), .agg #[.int .i64 k, .int .i64 m, .int .i64 c.c0, .int .i64 c.p0, .int .i64 c.b0, .int .i64 c.c1, .int .i64 c.p1, .int .i64 c.b1, .int .i64 c.c2, .int .i64 c.p2, .int .i64 c.b2, .slice la os.length cap, .int .i64 c.sh, .int .i64 c.sl, .int .i64 c.ev, .int .i64 c.de, .int .i64 c.qu, .int .u16 t, .int .u16 u, .int .u16 r, .int .i64 a, .int .u32 it, .string tx, .slice ll ln lc]] w fun e w' => StpP Q w w' lo wb mv x1 x2 x3 x4 x5 ps N e := by
  have HQ : Hid (QP Q) := hQ
  have HWA : Hid (WAt Q w lo wb mv x1 x2 x3 x4 x5 ps N) := hw
  have hbx := heap_alloc_new w (.cells [.int .i64 k, .int .i64 m, .int .i64 c.c0, .int .i64 c.p0, .int .i64 c.b0, .int .i64 c.c1, .int .i64 c.p1, .int .i64 c.b1, .int .i64 c.c2, .int .i64 c.p2, .int .i64 c.b2, .slice la os.length cap, .int .i64 c.sh, .int .i64 c.sl, .int .i64 c.ev, .int .i64 c.de, .int .i64 c.qu, .int .u16 t, .int .u16 u, .int .u16 r, .int .i64 a, .int .u32 it, .string tx, .slice ll ln lc].toArray 62)
  have hcw : Chg [] w (w.alloc (.cells [.int .i64 k, .int .i64 m, .int .i64 c.c0, .int .i64 c.p0, .int .i64 c.b0, .int .i64 c.c1, .int .i64 c.p1, .int .i64 c.b1, .int .i64 c.c2, .int .i64 c.p2, .int .i64 c.b2, .slice la os.length cap, .int .i64 c.sh, .int .i64 c.sl, .int .i64 c.ev, .int .i64 c.de, .int .i64 c.qu, .int .u16 t, .int .u16 u, .int .u16 r, .int .i64 a, .int .u32 it, .string tx, .slice ll ln lc].toArray 62)) := (Chg.refl _ _).alloc _
  obtain ⟨wa, hwa⟩ : ∃ wa, wa = w.alloc (.cells [.int .i64 k, .int .i64 m, .int .i64 c.c0, .int .i64 c.p0, .int .i64 c.b0, .int .i64 c.c1, .int .i64 c.p1, .int .i64 c.b1, .int .i64 c.c2, .int .i64 c.p2, .int .i64 c.b2, .slice la os.length cap, .int .i64 c.sh, .int .i64 c.sl, .int .i64 c.ev, .int .i64 c.de, .int .i64 c.qu, .int .u16 t, .int .u16 u, .int .u16 r, .int .i64 a, .int .u32 it, .string tx, .slice ll ln lc].toArray 62) := ⟨_, rfl⟩
  rw [← hwa] at hbx hcw
  have hkw : w.alloc (.cells #[.int .i64 k, .int .i64 m, .int .i64 c.c0, .int .i64 c.p0, .int .i64 c.b0, .int .i64 c.c1, .int .i64 c.p1, .int .i64 c.b1, .int .i64 c.c2, .int .i64 c.p2, .int .i64 c.b2, .slice la os.length cap, .int .i64 c.sh, .int .i64 c.sl, .int .i64 c.ev, .int .i64 c.de, .int .i64 c.qu, .int .u16 t, .int .u16 u, .int .u16 r, .int .i64 a, .int .u32 it, .string tx, .slice ll ln lc] 62) = wa := hwa.symm
  have HBX : Hid (wa.heap[w.heap.size]? = some (.cells [.int .i64 k, .int .i64 m, .int .i64 c.c0, .int .i64 c.p0, .int .i64 c.b0, .int .i64 c.c1, .int .i64 c.p1, .int .i64 c.b1, .int .i64 c.c2, .int .i64 c.p2, .int .i64 c.b2, .slice la os.length cap, .int .i64 c.sh, .int .i64 c.sl, .int .i64 c.ev, .int .i64 c.de, .int .i64 c.qu, .int .u16 t, .int .u16 u, .int .u16 r, .int .i64 a, .int .u32 it, .string tx, .slice ll ln lc].toArray 62 (0, 0))) := hbx
  have HCW : Hid (Chg [] w wa) := hcw
  have b0 := blk_cell (i := 0) HBX.out rfl
  clear hwa hcw hbx hw hQ
  have n1 : ¬ k = 1 := by omega
  have n2 : ¬ k = 2 := by omega
  have n3 : ¬ k = 3 := by omega
  have n4 : ¬ k = 4 := by omega
  have n5 : ¬ k = 5 := by omega
  have n6 : ¬ k = 6 := by omega
  have n7 : ¬ k = 7 := by omega
  have n8 : ¬ k = 8 := by omega
  have HWa : Hid (WAt Q wa lo wb mv x1 x2 x3 x4 x5 ps N) := HWA.out.chg HCW.out (by simp)
  have y0 : wa.cell? ⟨wb, 0, none⟩ = some mv := blk_cell (i := 0) HWa.out.blk rfl
  obtain ⟨lam, lbm, lofm, capm, hmv, hl1, _, hl2, hl3⟩ := HWa.out.row.laid
  subst hmv
  have b1 := blk_cell (i := 1) HBX.out rfl
  have hwbl := lt_of_block HWa.out.blk
  have hbxl := lt_of_block HBX.out
  by_cases hz : ps.length = 0
  · have hz' : (ps.length : Int) = 0 := by omega
    clear hl1 hl2 hl3 b1
    go_enter Tryz.func18, Tryz.ntmps18
    go_wp2
    go_ret
    exact StpP.none HWA.out HCW.out
  obtain ⟨rfl, _⟩ := hl1 (by omega)
  have hlbl := hl2 (by omega)
  have hpk := pk_bd m ps.length (by omega)
  obtain ⟨j, hj⟩ : ∃ j : Nat, pk m ps.length = (j : Int) := ⟨(pk m ps.length).toNat, by omega⟩
  rw [hj] at hpk
  have hjl : j < ps.length := by omega
  have hz1 : ¬ (ps.length : Int) = 0 := by omega
  obtain ⟨p, hp⟩ : ∃ p, ps[j]? = some p := ⟨_, List.getElem?_eq_getElem hjl⟩
  have hpe : ps[j] = p := by rw [List.getElem?_eq_getElem hjl] at hp; cases hp; rfl
  have z0 := hl3 (j * 2 + 0) _ (by rw [pc_at ps j hjl 0 (by decide), hpe]; rfl)
  have z1 := hl3 (j * 2 + 1) _ (by rw [pc_at ps j hjl 1 (by decide), hpe]; rfl)
  simp only [Nat.add_zero, ← Nat.add_assoc] at z0 z1
  have HP : Hid (ps[j]? = some p) := hp
  have HPA : Hid (p.At Q wa) := HWa.out.each p (List.mem_of_getElem? hp)
  have HFEW : Hid (p.s.ms.length ≤ N) := HWa.out.few p (List.mem_of_getElem? hp)
  have HPk : Hid (∀ W, Calls Tryz.prog 36 #[.int .i64 m, .int .i64 (ps.length : Int)] W fun e w' => e = .returned (.int .i64 j) ∧ w' = W) := fun W => by
    rw [← hj]
    exact pick36 m ps.length W hm (by omega) (by omega)
  have HS : Hid (∀ W, Chg [] wa W → (W.cell? ⟨wb, 0, none⟩ = some (.slice (some ⟨lbm, lofm, none⟩) ps.length capm) ∧ W.cell? ⟨w.heap.size, 1, none⟩ = some (.int .i64 m) ∧ W.cell? ⟨lbm, lofm + j * 2, none⟩ = some (.pointer (some ⟨p.g.mb, 0, none⟩)) ∧ W.cell? ⟨lbm, lofm + j * 2 + 1, none⟩ = some (.pointer (some ⟨p.y, 0, none⟩)))) := fun W hW =>
    ⟨hW.cell y0 (by simp), hW.cell b1 (by simp), hW.cell z0 (by simp), hW.cell z1 (by simp)⟩
  clear hl1 hl2 hl3 hp hpe hm hj
  have hj0 : (0 : Int) ≤ (j : Int) := by omega
  have hj1 : (j : Int) < (ps.length : Int) := by omega
  have hbp := heap_alloc_new wa (.cells [.pointer (some ⟨p.g.mb, 0, none⟩), .pointer (some ⟨p.y, 0, none⟩)].toArray 109)
  obtain ⟨wp, hwp⟩ : ∃ wp, wp = (wa.alloc (.cells [.pointer (some ⟨p.g.mb, 0, none⟩), .pointer (some ⟨p.y, 0, none⟩)].toArray 109)).drew := ⟨_, rfl⟩
  have HBP : Hid (wp.heap[wa.heap.size]? = some (.cells [.pointer (some ⟨p.g.mb, 0, none⟩), .pointer (some ⟨p.y, 0, none⟩)].toArray 109 (0, 0))) := hwp ▸ hbp
  have HCP : Hid (Chg [] wa wp) := hwp ▸ ((Chg.refl _ _).alloc _).drew
  have hkp : (wa.alloc (.cells #[.pointer (some ⟨p.g.mb, 0, none⟩), .pointer (some ⟨p.y, 0, none⟩)] 109)).drew = wp := hwp.symm
  clear hwp hbp
  have HBO : Hid (wp.heap[w.heap.size]? = some (.cells [.int .i64 k, .int .i64 m, .int .i64 c.c0, .int .i64 c.p0, .int .i64 c.b0, .int .i64 c.c1, .int .i64 c.p1, .int .i64 c.b1, .int .i64 c.c2, .int .i64 c.p2, .int .i64 c.b2, .slice la os.length cap, .int .i64 c.sh, .int .i64 c.sl, .int .i64 c.ev, .int .i64 c.de, .int .i64 c.qu, .int .u16 t, .int .u16 u, .int .u16 r, .int .i64 a, .int .u32 it, .string tx, .slice ll ln lc].toArray 62 (0, 0))) := HCP.out.blk HBX.out (by simp)
  have HLT : Hid (∀ b ∈ p.fp, b < w.heap.size) := (HWA.out.each p (List.mem_of_getElem? HP.out)).lt
  have hs0 := HCW.out.size
  go_enter Tryz.func18, Tryz.ntmps18
  go_wp2_with fail
  go_region_held3 (fun W => W.cell? ⟨wb, 0, none⟩ = some (.slice (some ⟨lbm, lofm, none⟩) ps.length capm) ∧ W.cell? ⟨w.heap.size, 1, none⟩ = some (.int .i64 m) ∧ W.cell? ⟨lbm, lofm + j * 2, none⟩ = some (.pointer (some ⟨p.g.mb, 0, none⟩)) ∧ W.cell? ⟨lbm, lofm + j * 2 + 1, none⟩ = some (.pointer (some ⟨p.y, 0, none⟩)))
    (first | exact HS.out _ ((Chg.refl _ _).drew) | exact HS.out _ (((Chg.refl _ _).drew).alloc _) | exact HS.out _ HCP.out | fail)
    (first | (go_at_call 36; refine (HPk.out _).mono ?_; rintro e w2 ⟨rfl, rfl⟩) | fail)
  all_goals
    have k0 := blk_cell (i := 0) HBO.out rfl
    go_wp2
    go_ret
    exact StpP.none HWA.out (HCW.out.trans HCP.out (by simp))
end Go.Proofs.YtbdnhllhdjepcaaGreat
namespace Go.Proofs.YtbdnhllhdjepcaaGreat
set_option linter.unusedVariables false
set_option linter.unusedSimpArgs false
open Go.RowKit Go.Maps

theorem step_allows {Q : Qs → Rf → Prop} (hQ : QP Q) (o : Op) (ho : o.Ok) (h4 : o.k ≤ 4) (w : World) (h : OvsAt w o.la o.lb o.lof o.os) (lo wb : Nat) (mv x1 x2 x3 x4 x5 : Value) (ps : List Pr) (N : Nat) (hw : WAt Q w lo wb mv x1 x2 x3 x4 x5 ps N) (hps : ps.length ≤ 1000000000000) (hN : N ≤ 5000000000000) :
    Calls Tryz.prog 18 #[.pointer (some ⟨wb, 0, none⟩), .agg (opc o).toArray] w fun e w' => StpP Q w w' lo wb mv x1 x2 x3 x4 x5 ps N e := by
  unfold opc
  by_cases h1 : o.k = 1
  · rw [h1]
    exact step_new hQ o.m o.c o.la o.os o.cap o.t o.u o.r o.a o.it o.tx o.ll o.ln o.lc w lo wb mv x1 x2 x3 x4 x5 ps N hw hps o.lb o.lof h ho.os ho.c ho.len
  by_cases h2 : o.k = 2
  · rw [h2]
    exact step_now hQ o.m o.c o.la o.os o.cap o.t o.u o.r o.a o.it o.tx o.ll o.ln o.lc w lo wb mv x1 x2 x3 x4 x5 ps N hw hps ho.m
  by_cases h3 : o.k = 3
  · rw [h3]
    exact step_adv hQ o.m o.c o.la o.os o.cap o.t o.u o.r o.a o.it o.tx o.ll o.ln o.lc w lo wb mv x1 x2 x3 x4 x5 ps N hw hps ho.m ho.a
  by_cases h5 : o.k = 4
  · rw [h5]
    exact step_allow hQ o.m o.c o.la o.os o.cap o.t o.u o.r o.a o.it o.tx o.ll o.ln o.lc w lo wb mv x1 x2 x3 x4 x5 ps N hw hps ho.m ho.a ho.t ho.u ho.r hN
  exact step_no hQ o.k o.m o.c o.la o.os o.cap o.t o.u o.r o.a o.it o.tx o.ll o.ln o.lc w lo wb mv x1 x2 x3 x4 x5 ps N hw hps ho.m (Or.inl (by omega))
set_option maxRecDepth 100000 in
set_option maxHeartbeats 4000000 in
theorem looks_none (wb : Nat) (mv x3 x4 x5 : Value) (w : World) (h : w.heap[wb]? = some (.cells [mv, .slice none 0 0, .slice none 0 0, x3, x4, x5].toArray 55 (0, 0))) :
    Calls Tryz.prog 19 #[.pointer (some ⟨wb, 0, none⟩)] w fun e w' => e = .returned (.bool true) ∧ w' = w := by
  have c1 : w.cell? ⟨wb, 1, none⟩ = some (.slice none 0 0) := blk_cell (i := 1) h rfl
  have c2 : w.cell? ⟨wb, 2, none⟩ = some (.slice none 0 0) := blk_cell (i := 2) h rfl
  clear h
  go_enter Tryz.func19, Tryz.ntmps19
  go_wp2_with fail
  go_loopw [3] (fun i wr => i = .int .i64 0 ∧ wr = w) (fun _ _ => 0)
  case atStart => exact ⟨rfl, rfl⟩
  case round =>
    obtain ⟨rfl, rfl⟩ := hrel
    go_wp2_with fail
    go_loopw [6] (fun i wr' => i = .int .i64 0 ∧ wr' = wr) (fun _ _ => 0)
    case atStart => exact ⟨rfl, rfl⟩
    case round =>
      obtain ⟨rfl, rfl⟩ := hrel
      go_wp2
      go_ret
      exact ⟨rfl, rfl⟩
theorem qp_true : QP (fun _ _ => True) := ⟨fun _ _ => trivial, fun _ _ _ => trivial, fun _ _ _ => trivial⟩
def PlyI (w wr : World) (k : Nat) : Prop := ∃ mv ps, WAt (fun _ _ => True) wr w.heap.size w.heap.size mv (.slice none 0 0) (.slice none 0 0) (.slice none 0 0) (.slice none 0 0) (.int .u32 0) ps (3 * k + 3) ∧ ps.length ≤ k + 1 ∧ Chg [] w wr
theorem PlyI.step {w wr w2 : World} {k : Nat} {mv : Value} {ps : List Pr} {e : Ending} (hl : ps.length ≤ k + 1) (hc : Chg [] w wr) (hlo : ∀ b ∈ wfp w.heap.size mv ps, w.heap.size ≤ b) (h : StpP (fun _ _ => True) wr w2 w.heap.size w.heap.size mv (.slice none 0 0) (.slice none 0 0) (.slice none 0 0) (.slice none 0 0) (.int .u32 0) ps (3 * k + 3) e) : e = .returned (.bool true) ∧ PlyI w w2 (k + 1) := by
  obtain ⟨rfl, mv', ps', z1, z2, z3⟩ := h
  exact ⟨rfl, mv', ps', z1.wide (by omega), by omega, hc.trans z3.chg (fun j hj => Or.inr (hlo j hj))⟩
theorem PlyI.next {w wr : World} {k : Nat} (h : PlyI w wr k) : PlyI w wr (k + 1) := by
  obtain ⟨mv, ps, z1, z2, z3⟩ := h
  exact ⟨mv, ps, z1.wide (by omega), by omega, z3⟩
end Go.Proofs.YtbdnhllhdjepcaaGreat
