import Derived.Test.YtbdnhllhdjepcaaRow5
namespace Go.Proofs.Ytbdnhllhdjepcaa
set_option linter.unusedVariables false
set_option linter.unusedSimpArgs false
open Go.RowKit Go.Maps

theorem own_lt {w : World} {base size n : Nat} {e : TypeId} {v : Value} {xs : List Value} (h : w.ownsRow base e size v n xs) (b : Nat) (hb : v.ownBlock = some b) : b < w.heap.size := by
  rcases h.2 with ⟨rfl, _⟩ | ⟨g, cap, cur, rfl, hb', hgg, rest⟩
  · cases hb
  · cases hb
    exact lt_of_block hgg
theorem own_chg2 {w w' : World} {base size n b B : Nat} {e : TypeId} {v : Value} {xs : List Value} (h : w.ownsRow base e size v n xs) (hc : Chg [b] w w') (hB : B ≤ b) (hl : ∀ g, v.ownBlock = some g → g < B) : w'.ownsRow base e size v n xs := by
  refine ⟨h.1, ?_⟩
  rcases h.2 with hn | ⟨g, cap, cur, rfl, hb', hgg, rest⟩
  · exact .inl hn
  · have := hl g rfl
    exact .inr ⟨g, cap, cur, rfl, hb', hc.blk hgg (by simp; omega), rest⟩
theorem frz {lo hi : Nat} {w W w' : World} (h : Chg [] w W) (f : Fr lo hi W w') : Fr lo w'.heap.size w w' := by
  have h1 := h.size
  have h2 := f.size
  exact ⟨f.os.trans h.os, f.tape.trans h.tape, f.output.trans h.output, by omega, fun k hk ho => (f.block k (by omega) (Or.inl (by omega))).trans (h.block k hk (by simp))⟩
/-- a grant is appended, in a statement that draws -/
theorem step_grant {ops : Array Oper} {o : Oper} {a : Act} {w : World} {K : Act → World → Prop} {Q : Exit → Act → World → Prop} {E : Prop} (hg : o.guard = none) (s x : Operand)
    (ho : o.op = .call { callee := .builtin .append, args := #[s, x], argTypes := #[35, 35] }) (base : Nat) (i0 : TypeInfo)
    (hI : Try.prog.info? 50 = some i0 ∧ i0.zero = some (.agg #[.int .i64 0, .int .u16 0, .int .u16 0, .int .u16 0, .int .i64 0]) ∧ i0.size = 5 ∧ i0.bytes = 24)
    (v : Value) (gs : List Gr) (hs : a.eval s = v) (hown : w.ownsRow base 50 5 v gs.length (gcells gs)) (b : Nat) (hx : a.eval x = .slice (some ⟨b, 0, none⟩) 1 1) (g : Gr)
    (hb : w.heap[b]? = some (.cells g.cells.toArray 50 (0, 0))) (hlen : gs.length ≤ 100) (hbase : base ≤ w.heap.size)
    (h : ∀ v' w', w'.ownsRow base 50 5 v' (gs ++ [g]).length (gcells (gs ++ [g])) → Fr base w.heap.size w w' → K (a.put o.dst v') w') :
    if Region.wanted o (yielded ops a.tmps) = true then Oper.wp Try.prog o a w K Q else E := by
  have hw : Region.wanted o (yielded ops a.tmps) = true := by simp [Region.wanted, hg]
  rw [if_pos hw]
  refine wp_append_own _ _ _ 35 ho base 50 i0 (.agg #[.int .i64 0, .int .u16 0, .int .u16 0, .int .u16 0, .int .i64 0]) 5 24 Try.underlying35 hI.1 hI.2.1 hI.2.2.1 hI.2.2.2 rfl (by decide) v gs.length (gcells gs) hs hown ⟨b, 0, none⟩ 1 1 g.cells hx rfl ?_ ?_ ?_ ?_ hbase ?_
  · intro j u hj
    have e : (⟨b, 0, none⟩ : Addr).add j = ⟨b, j, none⟩ := by unfold Addr.add; split <;> simp_all
    rw [e]
    exact blk_cell hb hj
  · intro u hu
    simp [Gr.cells] at hu
    rcases hu with rfl | rfl | rfl | rfl | rfl <;> rfl
  · unfold maxLen; omega
  · omega
  · intro v' w' hown' hgrow _
    refine h v' w' ?_ (grown_fr hown hgrow)
    rw [gcells_snoc, List.length_append]
    exact hown'
end Go.Proofs.Ytbdnhllhdjepcaa
