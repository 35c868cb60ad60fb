import Derived.Test.YtbdnhllhdjepcaaKinv
import Derived.OwnWalk
import Derived.Laws.OwnMore
namespace Go.Proofs.Ytbdnhllhdjepcaa
set_option linter.unusedVariables false
set_option linter.unusedSimpArgs false
open Go.RowKit Go.Maps

def Gr.cells (g : Gr) : List Value := [.int .i64 g.t, .int .u16 g.kt, .int .u16 g.ku, .int .u16 g.kr, .int .i64 g.c]
def gcells (gs : List Gr) : List Value := gs.flatMap Gr.cells
theorem gcells_snoc (gs : List Gr) (g : Gr) : gcells (gs ++ [g]) = gcells gs ++ g.cells := by simp [gcells]
theorem gcells_at : ∀ (gs : List Gr) (j : Nat) (h : j < gs.length) (i : Nat), i < 5 → (gcells gs)[j * 5 + i]? = gs[j].cells[i]?
  | [], j, h, _, _ => by simp at h
  | g :: gs, 0, _, i, hi => by
    show (g.cells ++ gcells gs)[0 * 5 + i]? = _
    rw [Nat.zero_mul, Nat.zero_add, List.getElem?_append_left (by simpa [Gr.cells] using hi)]
    rfl
  | g :: gs, j + 1, h, i, hi => by
    show (g.cells ++ gcells gs)[(j + 1) * 5 + i]? = _
    rw [List.getElem?_append_right (by simp [Gr.cells]; omega)]
    have e : (j + 1) * 5 + i - g.cells.length = j * 5 + i := by simp [Gr.cells]; omega
    rw [e, gcells_at gs j (by simpa using h) i hi]
    rfl
theorem gsAt_own {w : World} {base : Nat} {v : Value} {gs : List Gr} (h : w.ownsRow base 50 5 v gs.length (gcells gs)) : ∃ la lb cap, v = .slice la gs.length cap ∧ GsAt w la lb gs := by
  rcases h.2 with ⟨rfl, h0⟩ | ⟨g, cap, cur, rfl, hb, hg, _⟩
  · rw [h0]
    exact ⟨none, 0, 0, rfl, fun h1 => by omega, fun j hj => by omega⟩
  · refine ⟨_, g, cap, rfl, fun _ => ⟨rfl, lt_of_block hg⟩, fun j hj => ?_⟩
    have hc : ∀ i, i < 5 → w.cell? ⟨g, j * 5 + i, none⟩ = gs[j].cells[i]? := fun i hi => by
      rw [h.cellAt _ (by omega), gcells_at gs j hj i hi]
    exact ⟨hc 0 (by decide), hc 1 (by decide), hc 2 (by decide), hc 3 (by decide), hc 4 (by decide)⟩
theorem own_fr {w w' : World} {base lo hi size n : Nat} {e : TypeId} {v : Value} {xs : List Value} (h : w.ownsRow base e size v n xs) (hf : Fr lo hi w w') (hb : hi ≤ base) : w'.ownsRow base e size v n xs := by
  refine ⟨h.1, ?_⟩
  rcases h.2 with hn | ⟨g, cap, cur, rfl, hb', hgg, rest⟩
  · exact .inl hn
  · exact .inr ⟨g, cap, cur, rfl, hb', hf.blk hgg (Or.inr (by omega)), rest⟩
theorem own_chg {w w' : World} {base size n : Nat} {e : TypeId} {v : Value} {xs : List Value} (h : w.ownsRow base e size v n xs) (hf : Chg [] w w') : w'.ownsRow base e size v n xs := by
  refine ⟨h.1, ?_⟩
  rcases h.2 with hn | ⟨g, cap, cur, rfl, hb', hgg, rest⟩
  · exact .inl hn
  · exact .inr ⟨g, cap, cur, rfl, hb', hf.blk hgg (by simp), rest⟩
/-- what an append turns lies from the base on -/
theorem grown_fr {w w' : World} {base size n : Nat} {e : TypeId} {v : Value} {xs : List Value} (h : w.ownsRow base e size v n xs) (hg : w.grownBy w' v.ownBlock) : Fr base w.heap.size w w' :=
  ⟨hg.os, hg.tape, hg.output, hg.size, fun k hk ho => hg.block k hk (fun e => by have := h.lt k e.symm; omega)⟩
theorem Try.info50 : (Try.prog.info? 50).map (fun i => (i.zero, i.size, i.bytes)) = some (some (.agg #[.int .i64 0, .int .u16 0, .int .u16 0, .int .u16 0, .int .i64 0]), 5, 24) := by kernel_rfl
theorem sq_pk (a b c : Int) : Sq (1 + pk a 9) (1 + pk b 60) (pk c 201) := by
  have h1 := pk_bd a 9 (by decide)
  have h2 := pk_bd b 60 (by decide)
  have h3 := pk_bd c 201 (by decide)
  exact ⟨by omega, by omega, by omega, by omega, by omega, by omega⟩
end Go.Proofs.Ytbdnhllhdjepcaa
