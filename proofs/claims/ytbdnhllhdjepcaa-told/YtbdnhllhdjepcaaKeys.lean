import Derived.Test.YtbdnhllhdjepcaaPlace
import Derived.DeepKeys4
import Derived.KernelRfl
namespace Go.Proofs.Ytbdnhllhdjepcaa
set_option linter.unusedVariables false
set_option linter.unusedSimpArgs false
open Go.RowKit Go.Maps

theorem laidOut : laidOutB Try.prog = true := by kernel_rfl
theorem row140 : (140 : TypeId) < Try.prog.types.size := of_decide_eq_true (by kernel_rfl)
theorem deep140 : Try.prog.keyTypeAt 4 140 = true := by kernel_rfl
theorem law140 : Keyed Try.prog 140 := Keyed.of_law (deep_law_laid laidOut (m := 4) (by omega) row140 deep140 (by rw [Try.underlying140]))
theorem cells140 : Try.prog.cellsOf 140 = 4 := by kernel_rfl
theorem cells47 : Try.prog.cellsOf 47 = 3 := by kernel_rfl
theorem cells45 : Try.prog.cellsOf 45 = 1 := by kernel_rfl
theorem cells3 : Try.prog.cellsOf 3 = 1 := by kernel_rfl
theorem keyType140 : Try.prog.keyType 140 = true := by kernel_rfl
theorem types221 : Try.prog.types.size = 221 := by kernel_rfl

/-- what the key of a place reads as -/
def kl (L t u r : Int) : Lit := .string (keyBytes [.int .i64 L, .int .u16 t, .int .u16 u, .int .u16 r])

theorem lits3 (n : Nat) (a : Value) : Try.prog.keyLits (n + 1) 3 [a] = match a with | .int q x => if q = .i64 ∧ (Lit.int .i64 x).wf = true then some [.int .i64 x] else none | _ => none := by
  unfold Program.keyLits
  simp only [Try.underlying3]
  cases a <;> rfl
theorem lits45 (n : Nat) (a : Value) : Try.prog.keyLits (n + 1) 45 [a] = match a with | .int q x => if q = .u16 ∧ (Lit.int .u16 x).wf = true then some [.int .u16 x] else none | _ => none := by
  unfold Program.keyLits
  simp only [Try.underlying45]
  cases a <;> rfl
theorem lits47 (n : Nat) (b c d : Value) : Try.prog.keyLits (n + 2) 47 [b, c, d] = (Try.prog.keyLits (n + 1) 45 [b]).bind fun y => (Try.prog.keyLits (n + 1) 45 [c]).bind fun z => (Try.prog.keyLits (n + 1) 45 [d]).bind fun v => some (y ++ (z ++ v)) := by
  conv => lhs; unfold Program.keyLits
  simp only [Try.underlying47]
  simp [cells47, cells45]
  generalize Try.prog.keyLits (n + 1) 45 [b] = x1
  generalize Try.prog.keyLits (n + 1) 45 [c] = x2
  generalize Try.prog.keyLits (n + 1) 45 [d] = x3
  cases x1 <;> cases x2 <;> cases x3 <;> simp
theorem lits140 (n : Nat) (a b c d : Value) : Try.prog.keyLits (n + 3) 140 [a, b, c, d] = (Try.prog.keyLits (n + 2) 3 [a]).bind fun x => (Try.prog.keyLits (n + 2) 47 [b, c, d]).bind fun y => some (x ++ y) := by
  conv => lhs; unfold Program.keyLits
  simp only [Try.underlying140]
  simp [cells140, cells47, cells3]
  generalize Try.prog.keyLits (n + 2) 3 [a] = x1
  generalize Try.prog.keyLits (n + 2) 47 [b, c, d] = x2
  cases x1 <;> cases x2 <;> simp
theorem keyOf_kl {L t u r : Int} (hL : (Lit.int .i64 L).wf = true) (ht : (Lit.int .u16 t).wf = true) (hu : (Lit.int .u16 u).wf = true) (hr : (Lit.int .u16 r).wf = true) :
    keyOf Try.prog 140 (.agg #[.int .i64 L, .int .u16 t, .int .u16 u, .int .u16 r]) = some (kl L t u r) := by
  have hf : (Value.agg #[.int .i64 L, .int .u16 t, .int .u16 u, .int .u16 r]).formed Try.prog 140 = true := by simp [Value.formed, Try.underlying140, cells140]
  unfold keyOf
  simp only [Try.underlying140, keyType140, hf, types221]
  simp only [Bool.and_self, if_true, Value.cells]
  rw [lits140, lits3, lits47, lits45, lits45, lits45]
  simp [hL, ht, hu, hr, kl]
theorem arr4 {cs : Array Value} (h : cs.size = 4) : ∃ a b c d, cs = #[a, b, c, d] := by
  obtain ⟨cl⟩ := cs
  match cl, h with
  | [a, b, c, d], _ => exact ⟨a, b, c, d, rfl⟩
theorem formed140 {v : Value} (hf : v.formed Try.prog 140 = true) : ∃ a b c d, v = .agg #[a, b, c, d] := by
  have hv : ∃ cs, v = .agg cs ∧ cs.size = 4 := by
    cases v <;> simp [Value.formed, Try.underlying140, cells140] at hf
    exact ⟨_, rfl, hf⟩
  obtain ⟨cs, h1, h2⟩ := hv
  obtain ⟨a, b, c, d, h3⟩ := arr4 h2
  exact ⟨a, b, c, d, by rw [h1, h3]⟩
theorem some_int {a : Value} {k : IntKind} {l : List Lit} (h : (match a with | .int q x => if q = k ∧ (Lit.int k x).wf = true then some [Lit.int k x] else none | _ => none) = some l) : ∃ x, a = .int k x ∧ (Lit.int k x).wf = true ∧ l = [Lit.int k x] := by
  cases a <;> simp at h
  obtain ⟨⟨h1, h2⟩, h3⟩ := h
  exact ⟨_, by rw [h1], h2, h3.symm⟩
theorem keyOf_inv {v : Value} {l : Lit} (h : keyOf Try.prog 140 v = some l) : ∃ L t u r, v = .agg #[.int .i64 L, .int .u16 t, .int .u16 u, .int .u16 r] ∧ l = kl L t u r ∧ (Lit.int .i64 L).wf = true ∧ (Lit.int .u16 t).wf = true ∧ (Lit.int .u16 u).wf = true ∧ (Lit.int .u16 r).wf = true := by
  unfold keyOf at h
  simp only [Try.underlying140, keyType140, Bool.true_and] at h
  by_cases hf : v.formed Try.prog 140 = true
  case neg => rw [if_neg hf] at h; cases h
  rw [if_pos hf] at h
  obtain ⟨a, b, c, d, hv⟩ := formed140 hf
  clear hf
  rw [hv] at h
  simp only [types221, Value.cells] at h
  rw [lits140, lits3, lits47, lits45, lits45, lits45] at h
  simp only [Option.map_eq_some_iff, Option.bind_eq_some_iff] at h
  obtain ⟨ls, ⟨x1, e1, x2, ⟨y1, e2, y2, e3, y3, e4, e5⟩, e6⟩, e7⟩ := h
  obtain ⟨L, ha, wL, hx1⟩ := some_int e1
  obtain ⟨t, hb, wt, hy1⟩ := some_int e2
  obtain ⟨u, hc, wu, hy2⟩ := some_int e3
  obtain ⟨r, hd, wr, hy3⟩ := some_int e4
  refine ⟨L, t, u, r, by rw [hv, ha, hb, hc, hd], ?_, wL, wt, wu, wr⟩
  rw [← e7, kl]
  simp only [Option.some.injEq] at e5 e6
  rw [← e6, ← e5, hx1, hy1, hy2, hy3]
  rfl
theorem kl_inj {L t u r L' t' u' r' : Int} (hL : (Lit.int .i64 L).wf = true) (ht : (Lit.int .u16 t).wf = true) (hu : (Lit.int .u16 u).wf = true) (hr : (Lit.int .u16 r).wf = true)
    (hL' : (Lit.int .i64 L').wf = true) (ht' : (Lit.int .u16 t').wf = true) (hu' : (Lit.int .u16 u').wf = true) (hr' : (Lit.int .u16 r').wf = true) (h : kl L t u r = kl L' t' u' r') : L = L' ∧ t = t' ∧ u = u' ∧ r = r' := by
  have := law140.inj (keyOf_kl hL ht hu hr) (h ▸ keyOf_kl hL' ht' hu' hr')
  simpa using this
end Go.Proofs.Ytbdnhllhdjepcaa
