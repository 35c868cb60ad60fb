import Derived.Test.YtbdnhllhdjepcaaQsub
import Derived.Laws.MakeOwn
namespace Go.Proofs.Ytbdnhllhdjepcaa
set_option linter.unusedVariables false
set_option linter.unusedSimpArgs false
open Go.RowKit Go.Maps Go.MuLone

theorem step_app_run {P : Program} {ops : Array Oper} {o : Oper} {a : Act} {w : World} {K : Act → World → Prop} {Q : Exit → Act → World → Prop} {E : Prop}
    (hg : o.guard = none) (d x : Operand) (dT sT : TypeId) (hop : o.op = Op.call { callee := Callee.builtin Builtin.append, args := #[d, x], argTypes := #[dT, sT] })
    (v u : Value) (hd : a.eval d = v) (hx : a.eval x = u) {v' : Value} {w' : World} (hr : (Builtin.append_ #[dT, sT] o.type #[v, u]).run P w = .ok v' w') (hK : K (a.put o.dst v') w') :
    if Region.wanted o (yielded ops a.tmps) = true then Oper.wp P o a w K Q else E := by
  have hw : Region.wanted o (yielded ops a.tmps) = true := by simp [Region.wanted, hg]
  rw [if_pos hw]
  unfold Oper.wp execOp
  simp only [hop, resolve, invoke, builtin, Sem.run_bind, Sem.run_pure, Result.andThen_ok, List.map_toArray, List.map_cons, List.map_nil, hd, hx, hr]
  exact hK
theorem run_clearN {tS e : TypeId} {i0 : TypeInfo} {z : Value} {sz bytes : Nat} (k : EK tS e i0 z sz bytes) (w : World) (ty : TypeId) (b o n c : Nat) (hn : 0 < n) (cur : List Value) (t : TypeId) (hg : w.heap[b]? = some (.cells cur.toArray t (0, 0))) (hfit : o + n * sz ≤ cur.length) :
    (Builtin.clear_ #[tS] ty #[.slice (some ⟨b, o, none⟩) n c]).run Try.prog w = .ok (.tuple #[]) (w.setRow b (cur.take o ++ (Builtin.zeroCells z.cells n).toList ++ cur.drop (o + n * sz)).toArray) := by
  have hzl : (Builtin.zeroCells z.cells n).toList.length = n * sz := by rw [Array.length_toList, size_zeroCells, k.zs]
  have hst := run_storeCells_at Try.prog b o t (Builtin.zeroCells z.cells n).toList 0 cur.toArray w hg (by rw [hzl]; simpa using hfit) (k.z1 n)
  simp only [Nat.add_zero, hzl] at hst
  obtain ⟨m, rfl⟩ : ∃ m, n = m + 1 := ⟨n - 1, by omega⟩
  simp [Builtin.clear_, run_underlying k.u, zeroValue, typeInfo, k.i, k.zr, hst]

set_option maxRecDepth 100000 in
set_option maxHeartbeats 4000000 in
theorem delI (b cap n k : Nat) (P R cs : List Value) (w : World) (hl : cs.length = n * 3) (h1 : ∀ u ∈ cs, u.oneCell' = true) (hg : w.heap[b]? = some (.cells (P ++ (cs ++ R)).toArray 75 (0, 0))) (hnc : n ≤ cap) (hcm : cap ≤ maxLen) (hcr : cap * 3 ≤ n * 3 + R.length) (hk : k ≤ n) (hk0 : 0 < k) (hn : n ≤ 100000) :
    Calls Try.prog 74 #[.slice (some ⟨b, P.length, none⟩) n cap, .int .i64 0, .int .i64 k] w fun e w' => e = .returned (.slice (some ⟨b, P.length, none⟩) (n - k) cap) ∧ Rw w' 75 3 (.slice (some ⟨b, P.length, none⟩) (n - k) cap) (n - k) (cs.drop (k * 3)) ∧ w.grownBy w' (some b) := by
  obtain ⟨i0, ek⟩ := ek75
  obtain ⟨hl1, hl2⟩ := cut_len hl hk
  have hcat : cs = cs.take (k * 3) ++ cs.drop (k * 3) := (List.take_append_drop _ _).symm
  have h1b : ∀ u ∈ cs.drop (k * 3), u.oneCell' = true := fun u hu => h1 u (List.mem_of_mem_drop hu)
  have hat : ∀ (W : World), W.heap[b]? = some (.cells (P ++ (cs ++ R)).toArray 75 (0, 0)) → ∀ j u, (cs.drop (k * 3))[j]? = some u → W.cell? ⟨b, P.length + k * 3 + j, none⟩ = some u := fun W hW j u hj => by
    rw [List.getElem?_drop] at hj
    rw [Nat.add_assoc]
    exact Rw.cell (n := 0) (sz := 0) hW hj
  generalize cs.drop (k * 3) = C2 at *
  generalize cs.take (k * 3) = C1 at *
  obtain ⟨A, hA, hsrc⟩ : ∃ A : Addr, (if cap = k then some (⟨b, P.length, none⟩ : Addr) else some ⟨b, P.length + k * 3, none⟩) = some A ∧ (∀ j u, C2[j]? = some u → w.drew.cell? (A.add j) = some u) := by
    by_cases hck : cap = k
    · refine ⟨⟨b, P.length, none⟩, by rw [if_pos hck], fun j u hj => ?_⟩
      have : C2 = [] := List.length_eq_zero_iff.1 (by rw [hl2, show n - k = 0 from by omega, Nat.zero_mul])
      rw [this] at hj; cases hj
    · exact ⟨⟨b, P.length + k * 3, none⟩, by rw [if_neg hck], fun j u hj => by rw [Addr.add_lit]; exact hat w.drew hg j u hj⟩
  have hr := run_appN ek w.drew 65 b P.length 0 cap A (n - k) (cap - k) C2 (P ++ (cs ++ R)) 75 hg hl2 hsrc h1b (by omega) (by simp; omega)
  obtain ⟨A1, hA1⟩ : ∃ A1, A1 = (P ++ (cs ++ R)).take (P.length + 0 * 3) ++ C2 ++ (P ++ (cs ++ R)).drop (P.length + 0 * 3 + C2.length) := ⟨_, rfl⟩
  have eA : A1 = P ++ (C2 ++ (cs ++ R).drop C2.length) := by
    rw [hA1, Nat.zero_mul, Nat.add_zero, List.take_left, List.drop_length_add_append, List.append_assoc]
  rw [← hA1] at hr
  have hA1l : A1.length = P.length + (n * 3 + R.length) := by rw [eA]; simp; omega
  have hg1 : (w.drew.setRow b A1.toArray).heap[b]? = some (.cells A1.toArray 75 (0, 0)) := setRow_heap w.drew b _ _ 75 (0, 0) hg
  have hcl := fun ty => run_clearN ek (w.drew.setRow b A1.toArray) ty b (P.length + (n - k) * 3) k (cap - (n - k)) hk0 A1 75 hg1 (by omega)
  obtain ⟨A2, hA2⟩ : ∃ A2, A2 = A1.take (P.length + (n - k) * 3) ++ (Builtin.zeroCells (Value.cells (.agg #[.int .u16 0, .int .u32 0, .int .u64 0])) k).toList ++ A1.drop (P.length + (n - k) * 3 + k * 3) := ⟨_, rfl⟩
  simp only [← hA2] at hcl
  have hfin : Rw ((w.drew.setRow b A1.toArray).setRow b A2.toArray) 75 3 (.slice (some ⟨b, P.length, none⟩) (n - k) cap) (n - k) C2 := by
    refine ⟨hl2, h1b, .inr ⟨b, cap, P, (Builtin.zeroCells (Value.cells (.agg #[.int .u16 0, .int .u32 0, .int .u64 0])) k).toList ++ A1.drop (P.length + (n - k) * 3 + k * 3), rfl, ?_, by omega, hcm, ?_⟩⟩
    · rw [setRow_heap _ b _ _ 75 (0, 0) hg1]
      refine congrArg (fun l : List Value => some (Obj.cells l.toArray 75 (0, 0))) ?_
      rw [hA2]
      have e1 : A1.take (P.length + (n - k) * 3) = P ++ C2 := by
        rw [eA, ← hl2, ← List.append_assoc, show P.length + C2.length = (P ++ C2).length from by simp, List.take_left]
      rw [e1]
      simp
    · rw [List.length_append, List.length_drop, Array.length_toList, size_zeroCells, ek.zs]; omega
  have hgr : w.grownBy ((w.drew.setRow b A1.toArray).setRow b A2.toArray) (some b) := grown_setRow (grown_setRow (grown_drew (grown_refl _ _)) (Or.inl rfl) _) (Or.inl rfl) _
  have HFIN : Hid (Rw ((w.drew.setRow b A1.toArray).setRow b A2.toArray) 75 3 (.slice (some ⟨b, P.length, none⟩) (n - k) cap) (n - k) C2 ∧ w.grownBy ((w.drew.setRow b A1.toArray).setRow b A2.toArray) (some b)) := ⟨hfin, hgr⟩
  have HR : Hid ((Builtin.append_ #[65, 65] 65 #[.slice (some ⟨b, P.length, none⟩) 0 cap, .slice (some A) (n - k) (cap - k)]).run Try.prog w.drew = .ok (.slice (some ⟨b, P.length, none⟩) (n - k) cap) (w.drew.setRow b A1.toArray)) := by show _ = _; simpa using hr
  have HCL : Hid (∀ ty, (Builtin.clear_ #[65] ty #[.slice (some ⟨b, P.length + (n - k) * 3, none⟩) k (cap - (n - k))]).run Try.prog (w.drew.setRow b A1.toArray) = .ok (.tuple #[]) ((w.drew.setRow b A1.toArray).setRow b A2.toArray)) := hcl
  obtain ⟨o, ho⟩ : ∃ o, P.length = o := ⟨_, rfl⟩
  rw [ho] at HFIN HR HCL hA ⊢
  have hcm' : cap ≤ 9223372036854775807 := by unfold maxLen at hcm; omega
  have hz : ¬ ((k : Int) = 0) := by omega
  have hz' : ¬ ((0 : Int) = (k : Int)) := by omega
  have hnk : n - (n - k) = k := by omega
  have hck2 : ¬ (cap = n - k) := by omega
  have hi1 : (k : Int) ≤ (n : Int) := by omega
  have hi2 : ((n - k : Nat) : Int) ≤ (n : Int) := by omega
  have hi3 : n - k ≤ n := by omega
  have hkc : k ≤ cap := by omega
  clear hl h1 hg hcm hcr hl1 hl2 hcat h1b hat hsrc hr hA1 eA hA1l hg1 hcl hA2 hfin hgr ho
  go_enter Try.func74, Try.ntmps74
  go_wp2_with fail
  go_region_law (refine step_app_run rfl (.tmp 22) (.tmp 25) 65 65 rfl (.slice (some ⟨b, o, none⟩) 0 cap) (.slice (some A) (n - k) (cap - k)) (by simp [Act.eval, Act.put]) (by simp [Act.eval, Act.put]) HR.out ?_)
  have hcl0 := HCL.out 0
  go_wp2
  go_ret
  exact ⟨rfl, HFIN.out⟩
end Go.Proofs.Ytbdnhllhdjepcaa
