import Derived.Test.YtbdnhllhdjepcaaGreatCLya
import Derived.Test.YtbdnhllhdjepcaaGreatCLt6
namespace Go.Proofs.YtbdnhllhdjepcaaGreat
set_option linter.unusedVariables false
set_option linter.unusedSimpArgs false
open Go.RowKit Go.Maps

/-! ### a step of Items -/
theorem step_items (K : Nat) (hK : K ≤ 900000000000) (o : Op) (ho : o.Ok) (h6 : o.k ≤ 6) (w : World) (h : OvsAt w o.la o.lb o.lof o.os) (lo wb : Nat) (mv x1 x2 x3 x4 : Value) (nx : Int) (ps : List Pr) (N : Nat) (L : List Lst) (hw : WL K w lo wb mv x1 x2 x3 x4 nx ps N L) (hps : ps.length ≤ 1000000000000) (hN : N ≤ 5000000000000) (hL : L.length ≤ 3000000000000) :
    Calls Tryz.prog 18 #[.pointer (some ⟨wb, 0, none⟩), .agg (opc o).toArray] w fun e w' => StpL K w w' lo wb x2 x4 ps N L e := by
  by_cases h4 : o.k ≤ 4
  · exact (step_allows (qp_sim K) o ho h4 w h lo wb mv x1 x2 x3 x4 (.int .u32 nx) ps N hw.at_ hps hN).mono (fun e w' hs => WL.of (Nat.le_succ K) hw hs)
  by_cases h5 : o.k = 5
  · unfold opc
    rw [h5]
    exact (step_submit K hK o.m o.c o.la o.os o.cap o.t o.u o.r o.a o.it o.tx o.ll o.ln o.lc w lo wb mv x1 x2 x3 x4 (.int .u32 nx) ps N hw.at_ hps ho.m ho.t ho.it).mono (fun e w' hs => WL.of (Nat.le_refl _) hw hs)
  have h66 : o.k = 6 := by omega
  unfold opc
  rw [h66]
  exact step_poll K o.m o.c o.la o.os o.cap o.t o.u o.r o.a o.it o.tx o.ll o.ln o.lc w lo wb mv x1 x2 x3 x4 nx ps N L hw hps hL ho.m ho.a
def PlyJ (w wr : World) (k : Nat) : Prop := ∃ mv x1 x3 nx ps L, WL k wr w.heap.size w.heap.size mv x1 (.slice none 0 0) x3 (.slice none 0 0) nx ps (3 * k + 3) L ∧ ps.length ≤ k + 1 ∧ L.length ≤ 4 * k ∧ Chg [] w wr
theorem PlyJ.step {w wr w2 : World} {k : Nat} {ps : List Pr} {L : List Lst} {e : Ending} (hl : ps.length ≤ k + 1) (hL : L.length ≤ 4 * k) (hc : Chg [] w wr) (h : StpL k wr w2 w.heap.size w.heap.size (.slice none 0 0) (.slice none 0 0) ps (3 * k + 3) L e) : e = .returned (.bool true) ∧ PlyJ w w2 (k + 1) := by
  obtain ⟨rfl, mv', x1', x3', nx', ps', L', z1, z2, z3, c, z4, z5⟩ := h
  exact ⟨rfl, mv', x1', x3', nx', ps', L', z1, by omega, by omega, hc.trans z5 (fun j hj => Or.inr (z4 j hj))⟩
theorem PlyJ.next {w wr : World} {k : Nat} (h : PlyJ w wr k) : PlyJ w wr (k + 1) := by
  obtain ⟨mv, x1, x3, nx, ps, L, z1, z2, z3, z4⟩ := h
  have z1' := z1.mono (Nat.le_succ k)
  exact ⟨mv, x1, x3, nx, ps, L, ⟨z1'.at_.wide (by omega), z1'.ls, z1'.sep, z1'.low, z1'.nx⟩, by omega, by omega, z4⟩
theorem PlyJ.chg {w wr W : World} {k : Nat} (h : PlyJ w wr k) (hc : Chg [] wr W) : PlyJ w W k := by
  obtain ⟨mv, x1, x3, nx, ps, L, z1, z2, z3, z4⟩ := h
  exact ⟨mv, x1, x3, nx, ps, L, z1.chg hc, z2, z3, z4.trans hc (by simp)⟩
theorem PlyJ.first {w w1 w2 : World} {e : Ending} (hc : Chg [] w w1) (hst : StpP (QSim 0) w1 w2 w.heap.size w.heap.size (.slice none 0 0) (.slice none 0 0) (.slice none 0 0) (.slice none 0 0) (.slice none 0 0) (.int .u32 0) [] 0 e) (hlo : ∀ b ∈ wfp w.heap.size (.slice none 0 0) [], w.heap.size ≤ b) : e = .returned (.bool true) ∧ PlyJ w w2 0 := by
  obtain ⟨rfl, mv', ps', z1, z2, z3⟩ := hst
  exact ⟨rfl, mv', .slice none 0 0, .slice none 0 0, 0, ps', [], ⟨z1, LsAt.nil _, by simp [lfp, own, Value.ownBlock], by simp [lfp, own, Value.ownBlock], by decide, by decide⟩, z2, by simp, hc.trans z3.chg (fun j hj => Or.inr (hlo j hj))⟩
end Go.Proofs.YtbdnhllhdjepcaaGreat
