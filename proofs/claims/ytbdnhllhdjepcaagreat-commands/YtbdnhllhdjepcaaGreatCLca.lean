import Derived.Test.YtbdnhllhdjepcaaGreatCLza
import Derived.Test.YtbdnhllhdjepcaaGreatCLt7
namespace Go.Proofs.YtbdnhllhdjepcaaGreat
set_option linter.unusedVariables false
set_option linter.unusedSimpArgs false
open Go.RowKit Go.Maps

/-! ### a step of Commands -/
theorem step_commands (K : Nat) (hK : K ≤ 900000000000) (o : Op) (ho : o.Ok) (h7 : o.k ≤ 7) (w : World) (h : OvsAt w o.la o.lb o.lof o.os) (lo wb : Nat) (mv x1 x2 x3 x4 : Value) (nx : Int) (ps : List Pr) (N : Nat) (L : List Lst) (hw : WL K w lo wb mv x1 x2 x3 x4 nx ps N L) (hps : ps.length ≤ 1000000000000) (hN : N ≤ 5000000000000) (hL : L.length ≤ 3000000000000) :
    Calls Tryz.prog 18 #[.pointer (some ⟨wb, 0, none⟩), .agg (opc o).toArray] w fun e w' => StpL K w w' lo wb x2 x4 ps N L e := by
  by_cases h6 : o.k ≤ 6
  · exact step_items K hK o ho h6 w h lo wb mv x1 x2 x3 x4 nx ps N L hw hps hN hL
  have h77 : o.k = 7 := by omega
  unfold opc
  rw [h77]
  exact (step_do K hK o.m o.c o.la o.os o.cap o.t o.u o.r o.a o.it o.tx o.ll o.ln o.lc w lo wb mv x1 x2 x3 x4 (.int .u32 nx) ps N hw.at_ hps ho.m hN ho.tx).mono (fun e w' hs => WL.of (Nat.le_refl _) hw hs)
end Go.Proofs.YtbdnhllhdjepcaaGreat
