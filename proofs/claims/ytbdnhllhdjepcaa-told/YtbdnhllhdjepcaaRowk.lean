import Derived.Test.YtbdnhllhdjepcaaMarks
import Derived.OwnWalk
import Derived.Laws.OwnMore
import Derived.Deep.RegionHeld3
import Derived.Laws.CopyRow
import Derived.Deep.AppendSrc
import Derived.Lib.AppendZerosOnto
import Derived.Lib.AppendZeros
import Derived.Lib.Overlaps
namespace Go.Proofs.Ytbdnhllhdjepcaa
set_option linter.unusedVariables false
set_option linter.unusedSimpArgs false
open Go.RowKit Go.Maps

/-! ### rows of structs -/
/-- what the program's table says of a slice's element type -/
structure EK (tS e : TypeId) (i0 : TypeInfo) (z : Value) (sz bytes : Nat) : Prop where
  u : Try.prog.underlying tS = some (.slice e)
  i : Try.prog.info? e = some i0
  zr : i0.zero = some z
  s : i0.size = sz
  b : i0.bytes = bytes
  zs : z.cells.size = sz
  p : 0 < sz
  bb : bytes ≤ 1000
  z1 : ∀ n, ∀ u ∈ (Builtin.zeroCells z.cells n).toList, u.oneCell' = true
/-- a row: a slice's value, and its cells -/
def Rw (w : World) (e : TypeId) (sz : Nat) (v : Value) (n : Nat) (cs : List Value) : Prop :=
  cs.length = n * sz ∧ (∀ u ∈ cs, u.oneCell' = true) ∧ ((v = .slice none 0 0 ∧ n = 0) ∨ ∃ (b cap : Nat) (P R : List Value), v = .slice (some ⟨b, P.length, none⟩) n cap ∧ w.heap[b]? = some (.cells (P ++ (cs ++ R)).toArray e (0, 0)) ∧ n ≤ cap ∧ cap ≤ maxLen ∧ cap * sz ≤ n * sz + R.length)
theorem zero_one {z : Array Value} (h : ∀ u ∈ z.toList, u.oneCell' = true) (hp : 0 < z.size) (n : Nat) : ∀ u ∈ (Builtin.zeroCells z n).toList, u.oneCell' = true := by
  intro u hu
  simp [Builtin.zeroCells] at hu
  obtain ⟨j, hj, rfl⟩ := hu
  have : j % z.size < z.size := Nat.mod_lt _ hp
  rw [getElem!_pos z _ this]
  exact h _ (by simp)
theorem Rw.lt {w : World} {e : TypeId} {sz n : Nat} {v : Value} {cs : List Value} (h : Rw w e sz v n cs) {b : Nat} (hb : v.ownBlock = some b) : b < w.heap.size := by
  rcases h.2.2 with ⟨rfl, _⟩ | ⟨g, cap, P, R, rfl, hg, _⟩
  · cases hb
  · cases hb; exact lt_of_block hg
theorem Rw.chg {l : List Nat} {w w' : World} {e : TypeId} {sz n : Nat} {v : Value} {cs : List Value} (h : Rw w e sz v n cs) (hc : Chg l w w') (hn : ∀ b, v.ownBlock = some b → b ∉ l) : Rw w' e sz v n cs := by
  refine ⟨h.1, h.2.1, ?_⟩
  rcases h.2.2 with hn' | ⟨g, cap, P, R, rfl, hg, rest⟩
  · exact .inl hn'
  · exact .inr ⟨g, cap, P, R, rfl, hc.blk hg (hn g rfl), rest⟩
theorem Rw.grown {w w' : World} {e : TypeId} {sz n : Nat} {v : Value} {cs : List Value} {row : Option Nat} (h : Rw w e sz v n cs) (hc : w.grownBy w' row) (hn : ∀ b, v.ownBlock = some b → some b ≠ row) : Rw w' e sz v n cs := by
  refine ⟨h.1, h.2.1, ?_⟩
  rcases h.2.2 with hn' | ⟨g, cap, P, R, rfl, hg, rest⟩
  · exact .inl hn'
  · exact .inr ⟨g, cap, P, R, rfl, (hc.block g (lt_of_block hg) (hn g rfl)).trans hg, rest⟩
theorem grown_refl (w : World) (row : Option Nat) : w.grownBy w row := ⟨rfl, rfl, rfl, Nat.le_refl _, fun _ _ _ => rfl⟩
theorem grown_drew {w w' : World} {row : Option Nat} (h : w.grownBy w' row) : w.grownBy w'.drew row := ⟨h.os, h.tape, h.output, h.size, h.block⟩
theorem grown_alloc {w w' : World} {row : Option Nat} (h : w.grownBy w' row) (o : Obj) : w.grownBy (w'.alloc o) row :=
  ⟨h.os, h.tape, h.output, by have := h.size; simp; omega, fun k hk hn => (heap_alloc_old w' o (by have := h.size; omega)).trans (h.block k hk hn)⟩
theorem grown_setRow {w w' : World} {b : Nat} {row : Option Nat} (h : w.grownBy w' row) (hb : row = some b ∨ w.heap.size ≤ b) (cs : Array Value) : w.grownBy (w'.setRow b cs) row :=
  ⟨h.os, h.tape, h.output, by have := h.size; simp; omega, fun k hk hn => (setRow_other w' b k cs (fun e => by
    subst e
    rcases hb with hb | hb
    · exact hn hb.symm
    · omega)).trans (h.block k hk hn)⟩
theorem Chg.of_grown {w w' : World} {row : Option Nat} (h : w.grownBy w' row) {l : List Nat} (hl : ∀ b, row = some b → b ∈ l) : Chg l w w' :=
  ⟨h.os, h.tape, h.output, h.size, fun k hk hn => h.block k hk (fun e => hn (hl k e.symm))⟩

section
variable {tS e : TypeId} {i0 : TypeInfo} {z : Value} {sz bytes : Nat}
theorem run_copyN (k : EK tS e i0 z sz bytes) (w : World) (ty : TypeId) (g o dLen dCap : Nat) (a : Addr) (sLen sCap : Nat) (cur : List Value) (t : TypeId) (cs : List Value) (hg : w.heap[g]? = some (.cells cur.toArray t (0, 0)))
    (hn : cs.length = Nat.min sLen dLen * sz) (hsrc : ∀ j v, cs[j]? = some v → w.cell? (a.add j) = some v) (hfit : o + cs.length ≤ cur.length) (h1 : ∀ v ∈ cs, v.oneCell' = true) :
    (Builtin.copy_ #[tS, tS] ty #[.slice (some ⟨g, o, none⟩) dLen dCap, .slice (some a) sLen sCap]).run Try.prog w = .ok (goInt (Nat.min sLen dLen)) (w.setRow g (cur.take o ++ cs ++ cur.drop (o + cs.length)).toArray) := by
  have hl := run_firstCells_some (P := Try.prog) w sz (Nat.min sLen dLen) a sLen sCap cs hn hsrc
  have hst := run_storeCells_at Try.prog g o t cs 0 cur.toArray w hg (by simpa using hfit) h1
  simp only [Nat.add_zero] at hst
  simp [Builtin.copy_, run_underlying k.u, Builtin.lenOf, sizeOf, typeInfo, k.i, k.s, hl, hst]
theorem run_appN (k : EK tS e i0 z sz bytes) (w : World) (ty : TypeId) (b off sLen sCap : Nat) (a : Addr) (m c : Nat) (news cur : List Value) (t : TypeId) (hg : w.heap[b]? = some (.cells cur.toArray t (0, 0)))
    (hl : news.length = m * sz) (hnews : ∀ j u, news[j]? = some u → w.cell? (a.add j) = some u) (h1 : ∀ u ∈ news, u.oneCell' = true) (hroom : sLen + m ≤ sCap) (hfit : off + sLen * sz + news.length ≤ cur.length) :
    (Builtin.append_ #[tS, tS] ty #[.slice (some ⟨b, off, none⟩) sLen sCap, .slice (some a) m c]).run Try.prog w = .ok (.slice (some ⟨b, off, none⟩) (sLen + m) sCap) (w.setRow b (cur.take (off + sLen * sz) ++ news ++ cur.drop (off + sLen * sz + news.length)).toArray) := by
  have hfc := run_firstCells_some (P := Try.prog) w sz m a m c news hl hnews
  have hst := run_storeCells_at Try.prog b (off + sLen * sz) t news 0 cur.toArray w hg (by simpa using hfit) h1
  simp only [Nat.add_zero] at hst
  simp [Builtin.append_, run_underlying k.u, sizeOf, typeInfo, k.i, k.s, Builtin.lenOf, hroom, hfc, Addr.add_lit, hst]
/-- append onto a row -/
theorem run_app (k : EK tS e i0 z sz bytes) (w : World) (ty : TypeId) (v : Value) (n : Nat) (cs : List Value) (h : Rw w e sz v n cs) (a : Addr) (m c : Nat) (news : List Value) (hl : news.length = m * sz) (hnews : ∀ j u, news[j]? = some u → w.cell? (a.add j) = some u)
    (h1 : ∀ u ∈ news, u.oneCell' = true) (hm : 0 < m) (hbig : n + m ≤ 100000) :
    ∃ v' w', (Builtin.append_ #[tS, tS] ty #[v, .slice (some a) m c]).run Try.prog w = .ok v' w' ∧ Rw w' e sz v' (n + m) (cs ++ news) ∧ w.grownBy w' v.ownBlock ∧ (v'.ownBlock = v.ownBlock ∨ v'.ownBlock = some w.heap.size) := by
  have hone : ∀ u ∈ cs ++ news, u.oneCell' = true := fun u hu => by
    rcases List.mem_append.1 hu with hu | hu
    · exact h.2.1 u hu
    · exact h1 u hu
  have hlen : (cs ++ news).length = (n + m) * sz := by rw [List.length_append, h.1, hl, Nat.add_mul]
  have hsrc : Src Try.prog i0.size tS (.slice (some a) m c) m news w := by rw [k.s]; exact Src.ofSlice w k.u a m c news hl hnews h1
  have hmb : (n + m) * bytes ≤ 100000 * 1000 := Nat.mul_le_mul hbig k.bb
  have grow : ∀ (bs : Option Addr) (cap : Nat), v = .slice bs n cap → cap < n + m → (Builtin.firstCells i0.size n (.slice bs n cap)).run Try.prog w.drew = .ok cs.toArray w.drew →
      ∃ v' w', (Builtin.append_ #[tS, tS] ty #[v, .slice (some a) m c]).run Try.prog w = .ok v' w' ∧ Rw w' e sz v' (n + m) (cs ++ news) ∧ w.grownBy w' v.ownBlock ∧ (v'.ownBlock = v.ownBlock ∨ v'.ownBlock = some w.heap.size) := fun bs cap hv hc hold => by
    have hr := run_append_grow_src w tS tS ty e i0 z k.u k.i k.zr bs n cap cs hold (.slice (some a) m c) m news hsrc hc (by omega) (by rw [k.b]; exact growslice_fits hc (by omega))
    refine ⟨_, _, by rw [hv]; exact hr, ⟨hlen, hone, .inr ⟨w.heap.size, grownCap w (n + m) cap e, [], (Builtin.zeroCells z.cells (grownCap w (n + m) cap e - (n + m))).toList, rfl, ?_, grownCap_ge _ _ _ _, grownCap_le_maxLen _ _ _ _ (by unfold maxLen; omega), ?_⟩⟩, grown_alloc (grown_drew (grown_refl _ _)) _, Or.inr rfl⟩
    · have := heap_alloc_new w.drew (.cells ((cs ++ news).toArray ++ Builtin.zeroCells z.cells (grownCap w (n + m) cap e - (n + m))) e)
      have e2 : (cs ++ news).toArray ++ Builtin.zeroCells z.cells (grownCap w (n + m) cap e - (n + m)) = ([] ++ (cs ++ news ++ (Builtin.zeroCells z.cells (grownCap w (n + m) cap e - (n + m))).toList)).toArray := by apply Array.ext'; simp
      rw [e2] at this ⊢
      exact this
    · have hge := grownCap_ge w (n + m) cap e
      rw [Array.length_toList, size_zeroCells, k.zs, ← Nat.add_mul]
      exact Nat.mul_le_mul_right _ (by omega)
  rcases h.2.2 with ⟨hv, h0⟩ | ⟨b, cap, P, R, hv, hg, hnc, hcm, hcr⟩
  · refine grow none 0 (by rw [hv, h0]) (by omega) ?_
    have : cs = [] := List.length_eq_zero_iff.1 (by rw [h.1, h0, Nat.zero_mul])
    rw [this]
    exact run_firstCells_none w.drew _ _ _ _
  · by_cases hroom : n + m ≤ cap
    · have hrl : m * sz ≤ R.length := by
        have : (n + m) * sz ≤ cap * sz := Nat.mul_le_mul_right _ hroom
        rw [Nat.add_mul] at this
        omega
      have hr := run_appN k w ty b P.length n cap a m c news (P ++ (cs ++ R)) e hg hl hnews h1 hroom (by simp [h.1, hl]; omega)
      refine ⟨_, _, by rw [hv]; exact hr, ⟨hlen, hone, .inr ⟨b, cap, P, R.drop (m * sz), rfl, ?_, by omega, hcm, ?_⟩⟩, grown_setRow (grown_refl _ _) (Or.inl (by rw [hv]; rfl)) _, Or.inl (by rw [hv]; rfl)⟩
      · rw [setRow_heap w b _ _ e (0, 0) hg]
        refine congrArg (fun l : List Value => some (Obj.cells l.toArray e (0, 0))) ?_
        have e1 : P.length + n * sz = (P ++ cs).length := by simp [h.1]
        rw [← List.append_assoc, e1, List.take_left, hl, ← List.drop_drop, List.drop_left]
        simp
      · rw [List.length_drop, Nat.add_mul]; omega
    · exact grow _ cap hv (by omega) (by
        rw [k.s]
        exact run_firstCells_some w.drew sz n _ n cap cs h.1 (fun j u hj => by
          rw [Addr.add_lit]
          have hjl := (List.getElem?_eq_some_iff.1 hj).1
          refine blk_cell (w := w.drew) hg ?_
          rw [List.getElem?_append_right (by omega), List.getElem?_append_left (by omega)]
          rw [← hj]; congr 1; omega))
end
end Go.Proofs.Ytbdnhllhdjepcaa
