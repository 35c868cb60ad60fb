import Derived.Test.YtbdnhllhdjepcaaGreatCRo
import Derived.OwnWalk
import Derived.Laws.OwnMore
import Derived.Deep.RegionHeld3
import Derived.Laws.CopyRow
import Derived.Deep.AppendSrc
import Derived.Lib.AppendZerosOnto
import Derived.Lib.AppendZeros
import Derived.Lib.Overlaps
import Derived.Shelf.RegionOpenPlain
import Derived.Laws.Externs
import Derived.Deep.RegionLaw
namespace Go.Proofs.YtbdnhllhdjepcaaGreat
set_option linter.unusedVariables false
set_option linter.unusedSimpArgs false
open Go.RowKit Go.Maps

/-! ### rows of structs -/
/-- what the program's table says of a slice's element type -/
structure EK (tS e : TypeId) (i0 : TypeInfo) (z : Value) (sz bytes : Nat) : Prop where
  u : Tryz.prog.underlying tS = some (.slice e)
  i : Tryz.prog.info? e = some i0
  zr : i0.zero = some z
  s : i0.size = sz
  b : i0.bytes = bytes
  zs : z.cells.size = sz
  p : 0 < sz
  bb : 1 ≤ bytes ∧ bytes ≤ 1000
  z1 : ∀ n, ∀ u ∈ (Builtin.zeroCells z.cells n).toList, u.oneCell' = true
/-- a row: a slice's value, and its cells -/
def Rw (w : World) (e : TypeId) (sz : Nat) (v : Value) (n : Nat) (cs : List Value) : Prop :=
  cs.length = n * sz ∧ (∀ u ∈ cs, u.oneCell' = true) ∧ ((v = .slice none 0 0 ∧ n = 0) ∨ ∃ (b cap : Nat) (P R : List Value), v = .slice (some ⟨b, P.length, none⟩) n cap ∧ w.heap[b]? = some (.cells (P ++ (cs ++ R)).toArray e (0, 0)) ∧ n ≤ cap ∧ cap ≤ maxLen ∧ cap * sz ≤ n * sz + R.length)
theorem zero_one {z : Array Value} (h : ∀ u ∈ z.toList, u.oneCell' = true) (hp : 0 < z.size) (n : Nat) : ∀ u ∈ (Builtin.zeroCells z n).toList, u.oneCell' = true := by
  intro u hu
  simp [Builtin.zeroCells] at hu
  obtain ⟨j, hj, rfl⟩ := hu
  have : j % z.size < z.size := Nat.mod_lt _ hp
  rw [getElem!_pos z _ this]
  exact h _ (by simp)
theorem Rw.lt {w : World} {e : TypeId} {sz n : Nat} {v : Value} {cs : List Value} (h : Rw w e sz v n cs) {b : Nat} (hb : v.ownBlock = some b) : b < w.heap.size := by
  rcases h.2.2 with ⟨rfl, _⟩ | ⟨g, cap, P, R, rfl, hg, _⟩
  · cases hb
  · cases hb; exact lt_of_block hg
theorem Rw.chg {l : List Nat} {w w' : World} {e : TypeId} {sz n : Nat} {v : Value} {cs : List Value} (h : Rw w e sz v n cs) (hc : Chg l w w') (hn : ∀ b, v.ownBlock = some b → b ∉ l) : Rw w' e sz v n cs := by
  refine ⟨h.1, h.2.1, ?_⟩
  rcases h.2.2 with hn' | ⟨g, cap, P, R, rfl, hg, rest⟩
  · exact .inl hn'
  · exact .inr ⟨g, cap, P, R, rfl, hc.blk hg (hn g rfl), rest⟩
theorem Rw.grown {w w' : World} {e : TypeId} {sz n : Nat} {v : Value} {cs : List Value} {row : Option Nat} (h : Rw w e sz v n cs) (hc : w.grownBy w' row) (hn : ∀ b, v.ownBlock = some b → some b ≠ row) : Rw w' e sz v n cs := by
  refine ⟨h.1, h.2.1, ?_⟩
  rcases h.2.2 with hn' | ⟨g, cap, P, R, rfl, hg, rest⟩
  · exact .inl hn'
  · exact .inr ⟨g, cap, P, R, rfl, (hc.block g (lt_of_block hg) (hn g rfl)).trans hg, rest⟩
theorem grown_refl (w : World) (row : Option Nat) : w.grownBy w row := ⟨rfl, rfl, rfl, Nat.le_refl _, fun _ _ _ => rfl⟩
theorem grown_drew {w w' : World} {row : Option Nat} (h : w.grownBy w' row) : w.grownBy w'.drew row := ⟨h.os, h.tape, h.output, h.size, h.block⟩
theorem grown_alloc {w w' : World} {row : Option Nat} (h : w.grownBy w' row) (o : Obj) : w.grownBy (w'.alloc o) row :=
  ⟨h.os, h.tape, h.output, by have := h.size; simp; omega, fun k hk hn => (heap_alloc_old w' o (by have := h.size; omega)).trans (h.block k hk hn)⟩
theorem grown_setRow {w w' : World} {b : Nat} {row : Option Nat} (h : w.grownBy w' row) (hb : row = some b ∨ w.heap.size ≤ b) (cs : Array Value) : w.grownBy (w'.setRow b cs) row :=
  ⟨h.os, h.tape, h.output, by have := h.size; simp; omega, fun k hk hn => (setRow_other w' b k cs (fun e => by
    subst e
    rcases hb with hb | hb
    · exact hn hb.symm
    · omega)).trans (h.block k hk hn)⟩
theorem Chg.of_grown {w w' : World} {row : Option Nat} (h : w.grownBy w' row) {l : List Nat} (hl : ∀ b, row = some b → b ∈ l) : Chg l w w' :=
  ⟨h.os, h.tape, h.output, h.size, fun k hk hn => h.block k hk (fun e => hn (hl k e.symm))⟩

section
variable {tS e : TypeId} {i0 : TypeInfo} {z : Value} {sz bytes : Nat}
theorem run_copyN (k : EK tS e i0 z sz bytes) (w : World) (ty : TypeId) (g o dLen dCap : Nat) (a : Addr) (sLen sCap : Nat) (cur : List Value) (t : TypeId) (cs : List Value) (hg : w.heap[g]? = some (.cells cur.toArray t (0, 0)))
    (hn : cs.length = Nat.min sLen dLen * sz) (hsrc : ∀ j v, cs[j]? = some v → w.cell? (a.add j) = some v) (hfit : o + cs.length ≤ cur.length) (h1 : ∀ v ∈ cs, v.oneCell' = true) :
    (Builtin.copy_ #[tS, tS] ty #[.slice (some ⟨g, o, none⟩) dLen dCap, .slice (some a) sLen sCap]).run Tryz.prog w = .ok (goInt (Nat.min sLen dLen)) (w.setRow g (cur.take o ++ cs ++ cur.drop (o + cs.length)).toArray) := by
  have hl := run_firstCells_some (P := Tryz.prog) w sz (Nat.min sLen dLen) a sLen sCap cs hn hsrc
  have hst := run_storeCells_at Tryz.prog g o t cs 0 cur.toArray w hg (by simpa using hfit) h1
  simp only [Nat.add_zero] at hst
  simp [Builtin.copy_, run_underlying k.u, Builtin.lenOf, sizeOf, typeInfo, k.i, k.s, hl, hst]
theorem run_appN (k : EK tS e i0 z sz bytes) (w : World) (ty : TypeId) (b off sLen sCap : Nat) (a : Addr) (m c : Nat) (news cur : List Value) (t : TypeId) (hg : w.heap[b]? = some (.cells cur.toArray t (0, 0)))
    (hl : news.length = m * sz) (hnews : ∀ j u, news[j]? = some u → w.cell? (a.add j) = some u) (h1 : ∀ u ∈ news, u.oneCell' = true) (hroom : sLen + m ≤ sCap) (hfit : off + sLen * sz + news.length ≤ cur.length) :
    (Builtin.append_ #[tS, tS] ty #[.slice (some ⟨b, off, none⟩) sLen sCap, .slice (some a) m c]).run Tryz.prog w = .ok (.slice (some ⟨b, off, none⟩) (sLen + m) sCap) (w.setRow b (cur.take (off + sLen * sz) ++ news ++ cur.drop (off + sLen * sz + news.length)).toArray) := by
  have hfc := run_firstCells_some (P := Tryz.prog) w sz m a m c news hl hnews
  have hst := run_storeCells_at Tryz.prog b (off + sLen * sz) t news 0 cur.toArray w hg (by simpa using hfit) h1
  simp only [Nat.add_zero] at hst
  simp [Builtin.append_, run_underlying k.u, sizeOf, typeInfo, k.i, k.s, Builtin.lenOf, hroom, hfc, Addr.add_lit, hst]
/-- append onto a row -/
theorem run_app (k : EK tS e i0 z sz bytes) (w : World) (ty : TypeId) (v : Value) (n : Nat) (cs : List Value) (h : Rw w e sz v n cs) (a : Addr) (m c : Nat) (news : List Value) (hl : news.length = m * sz) (hnews : ∀ j u, news[j]? = some u → w.cell? (a.add j) = some u)
    (h1 : ∀ u ∈ news, u.oneCell' = true) (hm : 0 < m) (hbig : (n + m) * bytes ≤ 140737488355328) :
    ∃ v' w', (Builtin.append_ #[tS, tS] ty #[v, .slice (some a) m c]).run Tryz.prog w = .ok v' w' ∧ Rw w' e sz v' (n + m) (cs ++ news) ∧ w.grownBy w' v.ownBlock ∧ (v'.ownBlock = v.ownBlock ∨ v'.ownBlock = some w.heap.size) := by
  have hone : ∀ u ∈ cs ++ news, u.oneCell' = true := fun u hu => by
    rcases List.mem_append.1 hu with hu | hu
    · exact h.2.1 u hu
    · exact h1 u hu
  have hlen : (cs ++ news).length = (n + m) * sz := by rw [List.length_append, h.1, hl, Nat.add_mul]
  have hsrc : Src Tryz.prog i0.size tS (.slice (some a) m c) m news w := by rw [k.s]; exact Src.ofSlice w k.u a m c news hl hnews h1
  have hmb : (n + m) * bytes ≤ 140737488355328 := hbig
  have hnm : n + m ≤ 140737488355328 := Nat.le_trans (Nat.le_mul_of_pos_right _ k.bb.1) hbig
  have grow : ∀ (bs : Option Addr) (cap : Nat), v = .slice bs n cap → cap < n + m → (Builtin.firstCells i0.size n (.slice bs n cap)).run Tryz.prog w.drew = .ok cs.toArray w.drew →
      ∃ v' w', (Builtin.append_ #[tS, tS] ty #[v, .slice (some a) m c]).run Tryz.prog w = .ok v' w' ∧ Rw w' e sz v' (n + m) (cs ++ news) ∧ w.grownBy w' v.ownBlock ∧ (v'.ownBlock = v.ownBlock ∨ v'.ownBlock = some w.heap.size) := fun bs cap hv hc hold => by
    have hr := run_append_grow_src w tS tS ty e i0 z k.u k.i k.zr bs n cap cs hold (.slice (some a) m c) m news hsrc hc (by omega) (by rw [k.b]; exact growslice_fits hc (by omega))
    refine ⟨_, _, by rw [hv]; exact hr, ⟨hlen, hone, .inr ⟨w.heap.size, grownCap w (n + m) cap e, [], (Builtin.zeroCells z.cells (grownCap w (n + m) cap e - (n + m))).toList, rfl, ?_, grownCap_ge _ _ _ _, grownCap_le_maxLen _ _ _ _ (by unfold maxLen; omega), ?_⟩⟩, grown_alloc (grown_drew (grown_refl _ _)) _, Or.inr rfl⟩
    · have := heap_alloc_new w.drew (.cells ((cs ++ news).toArray ++ Builtin.zeroCells z.cells (grownCap w (n + m) cap e - (n + m))) e)
      have e2 : (cs ++ news).toArray ++ Builtin.zeroCells z.cells (grownCap w (n + m) cap e - (n + m)) = ([] ++ (cs ++ news ++ (Builtin.zeroCells z.cells (grownCap w (n + m) cap e - (n + m))).toList)).toArray := by apply Array.ext'; simp
      rw [e2] at this ⊢
      exact this
    · have hge := grownCap_ge w (n + m) cap e
      rw [Array.length_toList, size_zeroCells, k.zs, ← Nat.add_mul]
      exact Nat.mul_le_mul_right _ (by omega)
  rcases h.2.2 with ⟨hv, h0⟩ | ⟨b, cap, P, R, hv, hg, hnc, hcm, hcr⟩
  · refine grow none 0 (by rw [hv, h0]) (by omega) ?_
    have : cs = [] := List.length_eq_zero_iff.1 (by rw [h.1, h0, Nat.zero_mul])
    rw [this]
    exact run_firstCells_none w.drew _ _ _ _
  · by_cases hroom : n + m ≤ cap
    · have hrl : m * sz ≤ R.length := by
        have : (n + m) * sz ≤ cap * sz := Nat.mul_le_mul_right _ hroom
        rw [Nat.add_mul] at this
        omega
      have hr := run_appN k w ty b P.length n cap a m c news (P ++ (cs ++ R)) e hg hl hnews h1 hroom (by simp [h.1, hl]; omega)
      refine ⟨_, _, by rw [hv]; exact hr, ⟨hlen, hone, .inr ⟨b, cap, P, R.drop (m * sz), rfl, ?_, by omega, hcm, ?_⟩⟩, grown_setRow (grown_refl _ _) (Or.inl (by rw [hv]; rfl)) _, Or.inl (by rw [hv]; rfl)⟩
      · rw [setRow_heap w b _ _ e (0, 0) hg]
        refine congrArg (fun l : List Value => some (Obj.cells l.toArray e (0, 0))) ?_
        have e1 : P.length + n * sz = (P ++ cs).length := by simp [h.1]
        rw [← List.append_assoc, e1, List.take_left, hl, ← List.drop_drop, List.drop_left]
        simp
      · rw [List.length_drop, Nat.add_mul]; omega
    · exact grow _ cap hv (by omega) (by
        rw [k.s]
        exact run_firstCells_some w.drew sz n _ n cap cs h.1 (fun j u hj => by
          rw [Addr.add_lit]
          have hjl := (List.getElem?_eq_some_iff.1 hj).1
          refine blk_cell (w := w.drew) hg ?_
          rw [List.getElem?_append_right (by omega), List.getElem?_append_left (by omega)]
          rw [← hj]; congr 1; omega))
end
end Go.Proofs.YtbdnhllhdjepcaaGreat
namespace Go.Proofs.YtbdnhllhdjepcaaGreat
set_option linter.unusedVariables false
set_option linter.unusedSimpArgs false
open Go.RowKit Go.Maps Go.Lib
theorem Tryz.info123 : (Tryz.prog.info? 123).map (fun i => (i.zero, i.size, i.bytes)) = some (some (.agg #[.int .u16 0, .int .u32 0, .int .u64 0]), 3, 16) := by kernel_rfl
theorem Tryz.info245 : (Tryz.prog.info? 245).map (fun i => (i.zero, i.size, i.bytes)) = some (some (.agg #[.int .u16 0, .int .u64 0]), 2, 16) := by kernel_rfl
theorem ek75 : ∃ i0, EK 112 123 i0 (.agg #[.int .u16 0, .int .u32 0, .int .u64 0]) 3 16 := by
  obtain ⟨i0, hi, hz0, hz1, hz2⟩ := info_parts Tryz.info123
  exact ⟨i0, Tryz.underlying112, hi, hz0, hz1, hz2, rfl, by decide, by decide, zero_one (z := Value.cells (.agg #[.int .u16 0, .int .u32 0, .int .u64 0])) (by decide) (by decide)⟩
theorem ek191 : ∃ i0, EK 230 245 i0 (.agg #[.int .u16 0, .int .u64 0]) 2 16 := by
  obtain ⟨i0, hi, hz0, hz1, hz2⟩ := info_parts Tryz.info245
  exact ⟨i0, Tryz.underlying230, hi, hz0, hz1, hz2, rfl, by decide, by decide, zero_one (z := Value.cells (.agg #[.int .u16 0, .int .u64 0])) (by decide) (by decide)⟩
theorem wpList_copy_run {P : Program} (w : World) {ops : Array Oper} {rest : List Oper} {o : Oper} {a : Act} {Q : Exit → Act → World → Prop} (hgd : o.guard = none) (d s : Operand) (t t' : TypeId)
    (ho : o.op = .call { callee := .builtin .copy, args := #[d, s], argTypes := #[t, t'] }) (v u : Value) (hd : a.eval d = v) (hs : a.eval s = u) {v' : Value} {w' : World}
    (hr : (Builtin.copy_ #[t, t'] o.type #[v, u]).run P w = .ok v' w') (h : wpList P ops Q rest (a.put o.dst v') w') : wpList P ops Q (o :: rest) a w :=
  wpList_plain hgd fun _ hK => by
    unfold Oper.wp execOp
    simp only [ho, resolve, invoke, builtin, Sem.run_bind, Sem.run_pure, Result.andThen_ok, List.map_toArray, List.map_cons, List.map_nil, hd, hs, hr]
    exact hK _ _ h
theorem step_copy_run {P : Program} {ops : Array Oper} {o : Oper} {a : Act} {w : World} {K : Act → World → Prop} {Q : Exit → Act → World → Prop} {E : Prop}
    (hg : o.guard = none) (d x : Operand) (dT sT : TypeId) (hop : o.op = Op.call { callee := Callee.builtin Builtin.copy, args := #[d, x], argTypes := #[dT, sT] })
    (v u : Value) (hd : a.eval d = v) (hx : a.eval x = u) {v' : Value} {w' : World} (hr : (Builtin.copy_ #[dT, sT] o.type #[v, u]).run P w = .ok v' w') (hK : K (a.put o.dst v') w') :
    if Region.wanted o (yielded ops a.tmps) = true then Oper.wp P o a w K Q else E := by
  have hw : Region.wanted o (yielded ops a.tmps) = true := by simp [Region.wanted, hg]
  rw [if_pos hw]
  unfold Oper.wp
  simp [execOp, hop, resolve, invoke, builtin, hd, hx, hr, Result.andThen]
  exact hK
/-- what shifting up, and writing into the gap, makes of a row -/
theorem ins_row (P C1 C2 R vs : List Value) (sz : Nat) (hvs : vs.length = sz) (hR : sz ≤ R.length) (A1 : List Value)
    (hA : A1 = (P ++ ((C1 ++ C2) ++ R)).take (P.length + C1.length + sz) ++ C2 ++ (P ++ ((C1 ++ C2) ++ R)).drop (P.length + C1.length + sz + C2.length)) :
    A1.take (P.length + C1.length) ++ vs ++ A1.drop (P.length + C1.length + sz) = P ++ ((C1 ++ vs ++ C2) ++ R.drop sz) := by
  have e0 : P ++ ((C1 ++ C2) ++ R) = (P ++ C1) ++ (C2 ++ R) := by simp
  have e1 : P.length + C1.length = (P ++ C1).length := by simp
  rw [e0, e1] at hA
  rw [List.take_length_add_append, Nat.add_assoc, List.drop_length_add_append] at hA
  rw [show sz + C2.length = C2.length + sz from by omega, List.drop_length_add_append] at hA
  have hX : ((C2 ++ R).take sz).length = sz := by rw [List.length_take, List.length_append]; omega
  generalize (C2 ++ R).take sz = X at hA hX
  have e2 : A1 = (P ++ C1) ++ (X ++ (C2 ++ R.drop sz)) := by rw [hA]; simp
  rw [e2, e1, List.take_left, ← List.drop_drop, List.drop_left, ← hX, List.drop_left]
  simp
theorem cut_len {cs : List Value} {n sz i : Nat} (h : cs.length = n * sz) (hi : i ≤ n) : (cs.take (i * sz)).length = i * sz ∧ (cs.drop (i * sz)).length = (n - i) * sz := by
  have : i * sz ≤ n * sz := Nat.mul_le_mul_right _ hi
  constructor
  · rw [List.length_take]; omega
  · rw [List.length_drop, h, Nat.sub_mul]

set_option maxHeartbeats 8000000 in
set_option maxRecDepth 100000 in
theorem insI (v : Value) (n i : Nat) (cs vs : List Value) (vb : Nat) (w : World) (h : Rw w 123 3 v n cs) (hi : i ≤ n) (hn : n ≤ 1000000000000) (hvb : w.heap[vb]? = some (.cells vs.toArray 123 (0, 0))) (hvl : vs.length = 3) (hv1 : ∀ u ∈ vs, u.oneCell' = true) (hne : v.ownBlock ≠ some vb) :
    Calls Tryz.prog 150 #[v, .int .i64 i, .slice (some ⟨vb, 0, none⟩) 1 1] w fun e w' => ∃ v', e = .returned v' ∧ Rw w' 123 3 v' (n + 1) (cs.take (i * 3) ++ vs ++ cs.drop (i * 3)) ∧ w.grownBy w' v.ownBlock ∧ (v'.ownBlock = v.ownBlock ∨ v'.ownBlock = some w.heap.size) := by
  obtain ⟨i0, ek⟩ := ek75
  have hnews : ∀ (W : World), W.heap[vb]? = some (.cells vs.toArray 123 (0, 0)) → ∀ j u, vs[j]? = some u → W.cell? ((⟨vb, 0, none⟩ : Addr).add j) = some u := fun W hW j u hj => by
    rw [Addr.add_lit, Nat.zero_add]; exact blk_cell hW hj
  by_cases hin : i = n
  · subst hin
    have e1 : cs.take (i * 3) = cs := List.take_of_length_le (by rw [h.1]; exact Nat.le_refl _)
    have e2 : cs.drop (i * 3) = [] := List.drop_of_length_le (by rw [h.1]; exact Nat.le_refl _)
    rw [e1, e2, List.append_nil]
    obtain ⟨v', w', hr, hrw, hgr, hown⟩ := run_app ek w 112 v i cs h ⟨vb, 0, none⟩ 1 1 vs (by omega) (hnews w hvb) hv1 (by decide) (by omega)
    have HR : Hid ((Builtin.append_ #[112, 112] 112 #[v, .slice (some ⟨vb, 0, none⟩) 1 1]).run Tryz.prog w = .ok v' w') := hr
    have HP : Hid (Rw w' 123 3 v' (i + 1) (cs ++ vs) ∧ w.grownBy w' v.ownBlock ∧ (v'.ownBlock = v.ownBlock ∨ v'.ownBlock = some w.heap.size)) := ⟨hrw, hgr, hown⟩
    rcases h.2.2 with ⟨rfl, rfl⟩ | ⟨b, cap, P, R, rfl, hg, hnc, hcm, hcr⟩
    · clear h hr hrw hgr hown hvb hnews e1 e2 hne
      go_enter Tryz.func150, Tryz.ntmps150
      go_wp2_with (at_builtin; refine Lib.wpList_append_run _ rfl _ _ _ _ rfl _ _ rfl rfl _ _ HR.out ?_)
      go_ret
      exact ⟨v', rfl, HP.out⟩
    · have HF : Hid (i ≤ cap ∧ cap ≤ 9223372036854775807) := ⟨hnc, by unfold maxLen at hcm; omega⟩
      obtain ⟨o, ho⟩ : ∃ o, P.length = o := ⟨_, rfl⟩
      rw [ho] at HR HP ⊢
      clear h hr hrw hgr hown hvb hnews e1 e2 hne hg hnc hcm hcr ho
      obtain ⟨hf1, hf2⟩ := HF.out
      go_enter Tryz.func150, Tryz.ntmps150
      go_wp2_with (at_builtin; refine Lib.wpList_append_run _ rfl _ _ _ _ rfl _ _ rfl rfl _ _ HR.out ?_)
      all_goals
        go_ret
        exact ⟨v', rfl, HP.out⟩
  · have hlt : i < n := by omega
    rcases h.2.2 with ⟨rfl, rfl⟩ | ⟨b, cap, P, R, rfl, hg, hnc, hcm, hcr⟩
    · omega
    · have hcm' : cap ≤ 9223372036854775807 := by unfold maxLen at hcm; omega
      have hbv : vb ≠ b := fun e => hne (by rw [e]; rfl)
      have hz2 : ¬ ((i : Int) = (n : Int)) := by omega
      have hw1 : IntKind.i64.wrap ((i : Int) + 1) = (i : Int) + 1 := by rw [IntKind.wrap_i64]; omega
      have hw2 : IntKind.i64.wrap ((n : Int) + 1) = (n : Int) + 1 := by rw [IntKind.wrap_i64]; omega
      have htn : ((i : Int) + 1).toNat = i + 1 := by omega
      have htn2 : ((n : Int) + 1).toNat = n + 1 := by omega
      have hb2 : ¬ (cap = i + 1) ∨ cap = i + 1 := by omega
      have hb4 : ¬ (cap = i) := by omega
      obtain ⟨hl1, hl2⟩ := cut_len h.1 hi
      have hcat : cs = cs.take (i * 3) ++ cs.drop (i * 3) := (List.take_append_drop _ _).symm
      have h1c := h.2.1
      have h1a : ∀ u ∈ cs.take (i * 3), u.oneCell' = true := fun u hu => h1c u (List.mem_of_mem_take hu)
      have h1b : ∀ u ∈ cs.drop (i * 3), u.oneCell' = true := fun u hu => h1c u (List.mem_of_mem_drop hu)
      rw [hcat] at hg
      generalize cs.take (i * 3) = C1 at *
      generalize cs.drop (i * 3) = C2 at *
      have hall : ∀ u ∈ C1 ++ vs ++ C2, u.oneCell' = true := fun u hu => by
        rcases List.mem_append.1 hu with hu | hu
        · rcases List.mem_append.1 hu with hu | hu
          · exact h1a u hu
          · exact hv1 u hu
        · exact h1b u hu
      have hlen : (C1 ++ vs ++ C2).length = (n + 1) * 3 := by rw [List.length_append, List.length_append, hl1, hl2, hvl]; omega
      have hbw := lt_of_block hg
      have hsrc2 : ∀ (W : World), W.heap[b]? = some (.cells (P ++ ((C1 ++ C2) ++ R)).toArray 123 (0, 0)) → ∀ j u, C2[j]? = some u → W.cell? ((⟨b, P.length + i * 3, none⟩ : Addr).add j) = some u := fun W hW j u hj => by
        have hjl := (List.getElem?_eq_some_iff.1 hj).1
        rw [Addr.add_lit]
        refine blk_cell hW ?_
        rw [List.getElem?_append_right (by omega), List.getElem?_append_left (by rw [List.length_append]; omega), List.getElem?_append_right (by omega), ← hj]
        congr 1; omega
      by_cases hroom : n + 1 ≤ cap
      · have hRl : 3 ≤ R.length := by
          have : (n + 1) * 3 ≤ cap * 3 := Nat.mul_le_mul_right _ hroom
          omega
        obtain ⟨A1, hA1⟩ : ∃ A1, A1 = (P ++ ((C1 ++ C2) ++ R)).take (P.length + C1.length + 3) ++ C2 ++ (P ++ ((C1 ++ C2) ++ R)).drop (P.length + C1.length + 3 + C2.length) := ⟨_, rfl⟩
        have hA2 := ins_row P C1 C2 R vs 3 hvl hRl A1 hA1
        have hA1l : P.length + i * 3 + vs.length ≤ A1.length := by rw [hA1]; simp; omega
        have HC1 : Hid (∀ (W : World) ty dc sc, W.heap[b]? = some (.cells (P ++ ((C1 ++ C2) ++ R)).toArray 123 (0, 0)) → (Builtin.copy_ #[112, 112] ty #[.slice (some ⟨b, P.length + (i + 1) * 3, none⟩) (n - i) dc, .slice (some ⟨b, P.length + i * 3, none⟩) (n + 1 - i) sc]).run Tryz.prog W = .ok (goInt (Nat.min (n + 1 - i) (n - i))) (W.setRow b A1.toArray)) := fun W ty dc sc hW => by
          have hr := run_copyN ek W ty b (P.length + (i + 1) * 3) (n - i) dc ⟨b, P.length + i * 3, none⟩ (n + 1 - i) sc _ 123 C2 hW (by rw [hl2]; congr 1; simp only [Nat.min_def]; split <;> omega) (hsrc2 W hW) (by simp; omega) h1b
          rw [show P.length + (i + 1) * 3 = P.length + C1.length + 3 from by rw [hl1]; omega] at hr ⊢
          rw [hA1]; exact hr
        have HC2 : Hid (∀ (W : World) ty dc, W.heap[b]? = some (.cells A1.toArray 123 (0, 0)) → W.heap[vb]? = some (.cells vs.toArray 123 (0, 0)) → (Builtin.copy_ #[112, 112] ty #[.slice (some ⟨b, P.length + i * 3, none⟩) (n + 1 - i) dc, .slice (some ⟨vb, 0, none⟩) 1 1]).run Tryz.prog W = .ok (goInt (Nat.min 1 (n + 1 - i))) (W.setRow b (P ++ ((C1 ++ vs ++ C2) ++ R.drop 3)).toArray)) := fun W ty dc hW hV => by
          have hr := run_copyN ek W ty b (P.length + i * 3) (n + 1 - i) dc ⟨vb, 0, none⟩ 1 1 A1 123 vs hW (by rw [hvl, show Nat.min 1 (n + 1 - i) = 1 from by simp only [Nat.min_def]; split <;> omega]) (hnews W hV) hA1l hv1
          rw [hvl, ← hl1, hA2] at hr
          rw [← hl1]; exact hr
        have HOV : Hid (∀ lb cb, (callFunc 162 #[.slice (some ⟨vb, 0, none⟩) 1 1, .slice (some ⟨b, P.length + (i + 1) * 3, none⟩) lb cb]).run Tryz.prog w = .ok (.value (.bool false)) w) := fun lb cb => by
          rw [run_callFunc_extern Tryz.func162 (by kernel_rfl) (by kernel_rfl) (by kernel_rfl) (e := Extern.SlicesOverlaps.overlaps #[112, 112] #[4]) (by kernel_rfl),
            Lib.run_overlaps_apart w 112 4 123 ek.u 3 (fun w => by simp [sizeOf, typeInfo, ek.i, ek.s]) ⟨vb, 0, none⟩ ⟨b, P.length + (i + 1) * 3, none⟩ 1 1 lb cb hbv 123 123 vs.length (P ++ ((C1 ++ C2) ++ R)).length (by simp [World.shape?, hvb]) (by simp [World.shape?, hg]) (by rw [List.length_append, List.length_append, List.length_append]; omega) (blk_free hvb) (blk_free hvb)]
          rfl
        have HFIN : Hid (Rw ((w.drew.setRow b A1.toArray).setRow b (P ++ ((C1 ++ vs ++ C2) ++ R.drop 3)).toArray) 123 3 (.slice (some ⟨b, P.length, none⟩) (n + 1) cap) (n + 1) (C1 ++ vs ++ C2) ∧ w.grownBy ((w.drew.setRow b A1.toArray).setRow b (P ++ ((C1 ++ vs ++ C2) ++ R.drop 3)).toArray) (some b)) :=
          ⟨⟨hlen, hall, .inr ⟨b, cap, P, R.drop 3, rfl, setRow_heap _ b _ _ 123 (0, 0) (setRow_heap w.drew b _ _ 123 (0, 0) hg), hroom, hcm, by rw [List.length_drop]; omega⟩⟩, grown_setRow (grown_setRow (grown_drew (grown_refl _ _)) (Or.inl rfl) _) (Or.inl rfl) _⟩
        have HG : Hid (w.heap[b]? = some (.cells (P ++ ((C1 ++ C2) ++ R)).toArray 123 (0, 0)) ∧ w.heap[vb]? = some (.cells vs.toArray 123 (0, 0)) ∧ vb ≠ b) := ⟨hg, hvb, hbv⟩
        obtain ⟨A2, hA2'⟩ : ∃ A2, A2 = (P ++ ((C1 ++ vs ++ C2) ++ R.drop 3)).toArray := ⟨_, rfl⟩
        rw [← hA2'] at HC2 HFIN
        obtain ⟨o, ho⟩ : ∃ o, P.length = o := ⟨_, rfl⟩
        have hi1 : i + 1 ≤ n := by omega
        have hb1 : (0 : Int) ≤ (i : Int) + 1 := by omega
        have hb3 : (i : Int) ≤ (n : Int) + 1 := by omega
        rw [ho] at HC1 HC2 HOV HFIN ⊢
        clear h hvb hvl hv1 hne hg hnc hcr hl1 hl2 hcat h1c h1a h1b hall hlen hsrc2 hRl hA1 hA2 hA2' hA1l hnews ho hbv hcm
        have HGX : Hid (∀ W : World, W.heap = (w.setRow b A1.toArray).heap → W.heap[b]? = some (.cells A1.toArray 123 (0, 0)) ∧ W.heap[vb]? = some (.cells vs.toArray 123 (0, 0))) := fun W hW => by
          rw [hW]; exact ⟨setRow_heap w b _ _ 123 (0, 0) HG.out.1, (setRow_other w b vb _ HG.out.2.2).trans HG.out.2.1⟩
        have hcp1 := HC1.out w.drew 3 (cap - (i + 1)) (cap - i) HG.out.1
        have hcp2 := HC2.out (w.drew.setRow b A1.toArray) 3 (cap - i) (HGX.out (w.drew.setRow b A1.toArray) rfl).1 (HGX.out (w.drew.setRow b A1.toArray) rfl).2
        clear HC1 HC2 HG HGX
        rcases hb2 with hb2 | hb2
        · go_enter Tryz.func150, Tryz.ntmps150
          go_wp2_with (simp only [HOV.out])
          go_region
          go_wp2
          go_ret
          exact ⟨_, rfl, HFIN.out.1, HFIN.out.2, Or.inl rfl⟩
        · omega
      · have hcn : cap = n := by omega
        subst hcn
        obtain ⟨G, hG⟩ : ∃ G, G = grownCap w (cap + 1) cap 123 := ⟨_, rfl⟩
        have hGe : cap + 1 ≤ G := hG ▸ grownCap_ge w _ _ _
        have hGm : G ≤ maxLen := hG ▸ grownCap_le_maxLen w _ _ _ (by unfold maxLen; omega)
        have hGm' : G ≤ 9223372036854775807 := by unfold maxLen at hGm; omega
        have hold : (Builtin.firstCells i0.size i (.slice (some ⟨b, P.length, none⟩) i cap)).run Tryz.prog w.drew = .ok C1.toArray w.drew := by
          rw [ek.s]
          exact run_firstCells_some w.drew 3 i _ i cap C1 hl1 (fun j u hj => by
            have hjl := (List.getElem?_eq_some_iff.1 hj).1
            rw [Addr.add_lit]
            refine blk_cell (w := w.drew) hg ?_
            rw [List.getElem?_append_right (by omega), List.getElem?_append_left (by rw [List.length_append]; omega), List.getElem?_append_left (by omega), ← hj]
            congr 1; omega)
        have hkk : (cap : Int) + 1 - (i : Int) = ((cap + 1 - i : Nat) : Int) := by omega
        obtain ⟨Z, hZ⟩ : ∃ Z : List Value, Z = (Builtin.zeroCells (Value.cells (.agg #[.int .u16 0, .int .u32 0, .int .u64 0])) (cap + 1 - i)).toList := ⟨_, rfl⟩
        obtain ⟨Y, hY⟩ : ∃ Y : List Value, Y = (Builtin.zeroCells (Value.cells (.agg #[.int .u16 0, .int .u32 0, .int .u64 0])) (G - (cap + 1))).toList := ⟨_, rfl⟩
        have hZl : Z.length = (cap + 1 - i) * 3 := by rw [hZ, Array.length_toList, size_zeroCells, ek.zs]
        have hYl : Y.length = (G - (cap + 1)) * 3 := by rw [hY, Array.length_toList, size_zeroCells, ek.zs]
        have hZ1 : ∀ u ∈ Z, u.oneCell' = true := by rw [hZ]; exact ek.z1 _
        have hrz : (Builtin.append_ #[112, 3] 112 #[.slice (some ⟨b, P.length, none⟩) i cap, .int .i64 ((cap : Int) + 1 - (i : Int))]).run Tryz.prog w = .ok (.slice (some ⟨w.heap.size, 0, none⟩) (cap + 1) G) (w.drew.alloc (.cells (C1 ++ (Z ++ Y)).toArray 123)) := by
          have hr := Lib.run_append_grow_zeros w 112 3 112 123 i0 _ .i64 .i64 ek.u Tryz.underlying3 ek.i ek.zr (some ⟨b, P.length, none⟩) i cap C1 hold (cap + 1 - i) (by omega) (by rw [ek.s]; decide) (by omega) (by omega) (by rw [ek.b]; omega) (by rw [ek.b, show i + (cap + 1 - i) = cap + 1 from by omega]; exact growslice_fits (by omega) (by omega))
          rw [show i + (cap + 1 - i) = cap + 1 from by omega, ← hG] at hr
          have e3 : C1.toArray ++ Builtin.zeroCells (Value.cells (.agg #[.int .u16 0, .int .u32 0, .int .u64 0])) (cap + 1 - i) ++ Builtin.zeroCells (Value.cells (.agg #[.int .u16 0, .int .u32 0, .int .u64 0])) (G - (cap + 1)) = (C1 ++ (Z ++ Y)).toArray := by apply Array.ext'; rw [hZ, hY]; simp
          rw [e3] at hr
          rw [hkk]
          exact hr
        obtain ⟨W1, hW1⟩ : ∃ W1, W1 = w.drew.alloc (.cells (C1 ++ (Z ++ Y)).toArray 123) := ⟨_, rfl⟩
        have k1 : W1.heap[w.heap.size]? = some (.cells (C1 ++ (Z ++ Y)).toArray 123 (0, 0)) := hW1 ▸ heap_alloc_new w.drew _
        have k2 : W1.heap[vb]? = some (.cells vs.toArray 123 (0, 0)) := hW1 ▸ blk_alloc (w := w.drew) hvb _
        have k3 : W1.heap[b]? = some (.cells (P ++ ((C1 ++ C2) ++ R)).toArray 123 (0, 0)) := hW1 ▸ blk_alloc (w := w.drew) hg _
        have hvw := lt_of_block hvb
        have hc1 := run_copyN ek W1 3 w.heap.size (i * 3) (cap + 1 - i) (G - i) ⟨vb, 0, none⟩ 1 1 _ 123 vs k1 (by rw [hvl, show Nat.min 1 (cap + 1 - i) = 1 from by simp only [Nat.min_def]; split <;> omega]) (hnews W1 k2) (by simp; omega) hv1
        have eB : (C1 ++ (Z ++ Y)).take (i * 3) ++ vs ++ (C1 ++ (Z ++ Y)).drop (i * 3 + vs.length) = (C1 ++ vs) ++ (Z.drop 3 ++ Y) := by
          rw [← hl1, List.take_left, hvl, List.drop_length_add_append, List.drop_append_of_le_length (by omega)]
        rw [eB] at hc1
        obtain ⟨W2, hW2⟩ : ∃ W2, W2 = (W1.setRow w.heap.size ((C1 ++ vs) ++ (Z.drop 3 ++ Y)).toArray) := ⟨_, rfl⟩
        have j1 : W2.drew.heap[w.heap.size]? = some (.cells ((C1 ++ vs) ++ (Z.drop 3 ++ Y)).toArray 123 (0, 0)) := hW2 ▸ setRow_heap W1 _ _ _ 123 (0, 0) k1
        have j3 : W2.drew.heap[b]? = some (.cells (P ++ ((C1 ++ C2) ++ R)).toArray 123 (0, 0)) := hW2 ▸ (setRow_other W1 _ b _ (by omega)).trans k3
        have hzl : (C1 ++ vs).length = (i + 1) * 3 := by rw [List.length_append, hl1, hvl]; omega
        have hc2 := run_copyN ek W2.drew 3 w.heap.size ((i + 1) * 3) (cap - i) (G - (i + 1)) ⟨b, P.length + i * 3, none⟩ (cap - i) (cap - i) _ 123 C2 j1 (by rw [hl2]; congr 1; simp only [Nat.min_def]; split <;> omega) (hsrc2 _ j3) (by rw [List.length_append, hzl, List.length_append, List.length_drop]; omega) h1b
        have eC : ((C1 ++ vs) ++ (Z.drop 3 ++ Y)).take ((i + 1) * 3) ++ C2 ++ ((C1 ++ vs) ++ (Z.drop 3 ++ Y)).drop ((i + 1) * 3 + C2.length) = [] ++ ((C1 ++ vs ++ C2) ++ Y) := by
          have e4 : (Z.drop 3).length = C2.length := by rw [List.length_drop]; omega
          rw [← hzl, List.take_left, List.drop_length_add_append, ← e4, List.drop_left]
          simp
        rw [eC] at hc2
        have HFIN : Hid (Rw (W2.drew.setRow w.heap.size ([] ++ ((C1 ++ vs ++ C2) ++ Y)).toArray) 123 3 (.slice (some ⟨w.heap.size, 0, none⟩) (cap + 1) G) (cap + 1) (C1 ++ vs ++ C2) ∧ w.grownBy (W2.drew.setRow w.heap.size ([] ++ ((C1 ++ vs ++ C2) ++ Y)).toArray) (some b)) := by
          refine ⟨⟨hlen, hall, .inr ⟨w.heap.size, G, [], Y, rfl, setRow_heap _ _ _ _ 123 (0, 0) j1, hGe, hGm, by omega⟩⟩, ?_⟩
          rw [hW2, hW1]
          exact grown_setRow (grown_drew (grown_setRow (grown_alloc (grown_drew (grown_refl _ _)) _) (Or.inr (Nat.le_refl _)) _)) (Or.inr (Nat.le_refl _)) _
        obtain ⟨W3, hW3⟩ : ∃ W3, W3 = W2.drew.setRow w.heap.size ([] ++ ((C1 ++ vs ++ C2) ++ Y)).toArray := ⟨_, rfl⟩
        rw [← hW1] at hrz
        rw [← hW2] at hc1
        rw [← hW3] at hc2 HFIN
        obtain ⟨o, ho⟩ : ∃ o, P.length = o := ⟨_, rfl⟩
        rw [ho] at hrz hc2 ⊢
        have hb1 : (0 : Int) ≤ (i : Int) + 1 := by omega
        have hb3 : (i : Int) ≤ (cap : Int) + 1 := by omega
        have hb5 : (i : Int) ≤ (cap : Int) := by omega
        have hg1 : ¬ (G = i) := by omega
        have hg2 : ¬ (G = i + 1) := by omega
        have hz3 : (cap : Int) < (cap : Int) + 1 := by omega
        have hi1 : i + 1 ≤ cap + 1 := by omega
        have hw3 : IntKind.i64.wrap ((cap : Int) + 1 - (i : Int)) = (cap : Int) + 1 - (i : Int) := by rw [IntKind.wrap_i64]; omega
        clear h hvb hvl hv1 hne hg hcr hl1 hl2 hcat h1c h1a h1b hall hlen hsrc2 hnews ho hbv hcm hG hold hkk hZ hY hZl hYl hZ1 k1 k2 k3 j1 j3 hzl eB eC hGm hb2 hW1 hW2 hW3
        go_enter Tryz.func150, Tryz.ntmps150
        go_wp2_with (at_builtin; refine Lib.wpList_append_run _ rfl _ _ _ _ rfl _ _ rfl rfl _ _ hrz ?_)
        go_region
        go_wp2
        go_ret
        exact ⟨_, rfl, HFIN.out.1, HFIN.out.2, Or.inr rfl⟩

set_option maxHeartbeats 8000000 in
set_option maxRecDepth 100000 in
theorem insE (v : Value) (n i : Nat) (cs vs : List Value) (vb : Nat) (w : World) (h : Rw w 245 2 v n cs) (hi : i ≤ n) (hn : n ≤ 1000000000000) (hvb : w.heap[vb]? = some (.cells vs.toArray 245 (0, 0))) (hvl : vs.length = 2) (hv1 : ∀ u ∈ vs, u.oneCell' = true) (hne : v.ownBlock ≠ some vb) :
    Calls Tryz.prog 151 #[v, .int .i64 i, .slice (some ⟨vb, 0, none⟩) 1 1] w fun e w' => ∃ v', e = .returned v' ∧ Rw w' 245 2 v' (n + 1) (cs.take (i * 2) ++ vs ++ cs.drop (i * 2)) ∧ w.grownBy w' v.ownBlock ∧ (v'.ownBlock = v.ownBlock ∨ v'.ownBlock = some w.heap.size) := by
  obtain ⟨i0, ek⟩ := ek191
  have hnews : ∀ (W : World), W.heap[vb]? = some (.cells vs.toArray 245 (0, 0)) → ∀ j u, vs[j]? = some u → W.cell? ((⟨vb, 0, none⟩ : Addr).add j) = some u := fun W hW j u hj => by
    rw [Addr.add_lit, Nat.zero_add]; exact blk_cell hW hj
  by_cases hin : i = n
  · subst hin
    have e1 : cs.take (i * 2) = cs := List.take_of_length_le (by rw [h.1]; exact Nat.le_refl _)
    have e2 : cs.drop (i * 2) = [] := List.drop_of_length_le (by rw [h.1]; exact Nat.le_refl _)
    rw [e1, e2, List.append_nil]
    obtain ⟨v', w', hr, hrw, hgr, hown⟩ := run_app ek w 230 v i cs h ⟨vb, 0, none⟩ 1 1 vs (by omega) (hnews w hvb) hv1 (by decide) (by omega)
    have HR : Hid ((Builtin.append_ #[230, 230] 230 #[v, .slice (some ⟨vb, 0, none⟩) 1 1]).run Tryz.prog w = .ok v' w') := hr
    have HP : Hid (Rw w' 245 2 v' (i + 1) (cs ++ vs) ∧ w.grownBy w' v.ownBlock ∧ (v'.ownBlock = v.ownBlock ∨ v'.ownBlock = some w.heap.size)) := ⟨hrw, hgr, hown⟩
    rcases h.2.2 with ⟨rfl, rfl⟩ | ⟨b, cap, P, R, rfl, hg, hnc, hcm, hcr⟩
    · clear h hr hrw hgr hown hvb hnews e1 e2 hne
      go_enter Tryz.func151, Tryz.ntmps151
      go_wp2_with (at_builtin; refine Lib.wpList_append_run _ rfl _ _ _ _ rfl _ _ rfl rfl _ _ HR.out ?_)
      go_ret
      exact ⟨v', rfl, HP.out⟩
    · have HF : Hid (i ≤ cap ∧ cap ≤ 9223372036854775807) := ⟨hnc, by unfold maxLen at hcm; omega⟩
      obtain ⟨o, ho⟩ : ∃ o, P.length = o := ⟨_, rfl⟩
      rw [ho] at HR HP ⊢
      clear h hr hrw hgr hown hvb hnews e1 e2 hne hg hnc hcm hcr ho
      obtain ⟨hf1, hf2⟩ := HF.out
      go_enter Tryz.func151, Tryz.ntmps151
      go_wp2_with (at_builtin; refine Lib.wpList_append_run _ rfl _ _ _ _ rfl _ _ rfl rfl _ _ HR.out ?_)
      all_goals
        go_ret
        exact ⟨v', rfl, HP.out⟩
  · have hlt : i < n := by omega
    rcases h.2.2 with ⟨rfl, rfl⟩ | ⟨b, cap, P, R, rfl, hg, hnc, hcm, hcr⟩
    · omega
    · have hcm' : cap ≤ 9223372036854775807 := by unfold maxLen at hcm; omega
      have hbv : vb ≠ b := fun e => hne (by rw [e]; rfl)
      have hz2 : ¬ ((i : Int) = (n : Int)) := by omega
      have hw1 : IntKind.i64.wrap ((i : Int) + 1) = (i : Int) + 1 := by rw [IntKind.wrap_i64]; omega
      have hw2 : IntKind.i64.wrap ((n : Int) + 1) = (n : Int) + 1 := by rw [IntKind.wrap_i64]; omega
      have htn : ((i : Int) + 1).toNat = i + 1 := by omega
      have htn2 : ((n : Int) + 1).toNat = n + 1 := by omega
      have hb2 : ¬ (cap = i + 1) ∨ cap = i + 1 := by omega
      have hb4 : ¬ (cap = i) := by omega
      obtain ⟨hl1, hl2⟩ := cut_len h.1 hi
      have hcat : cs = cs.take (i * 2) ++ cs.drop (i * 2) := (List.take_append_drop _ _).symm
      have h1c := h.2.1
      have h1a : ∀ u ∈ cs.take (i * 2), u.oneCell' = true := fun u hu => h1c u (List.mem_of_mem_take hu)
      have h1b : ∀ u ∈ cs.drop (i * 2), u.oneCell' = true := fun u hu => h1c u (List.mem_of_mem_drop hu)
      rw [hcat] at hg
      generalize cs.take (i * 2) = C1 at *
      generalize cs.drop (i * 2) = C2 at *
      have hall : ∀ u ∈ C1 ++ vs ++ C2, u.oneCell' = true := fun u hu => by
        rcases List.mem_append.1 hu with hu | hu
        · rcases List.mem_append.1 hu with hu | hu
          · exact h1a u hu
          · exact hv1 u hu
        · exact h1b u hu
      have hlen : (C1 ++ vs ++ C2).length = (n + 1) * 2 := by rw [List.length_append, List.length_append, hl1, hl2, hvl]; omega
      have hbw := lt_of_block hg
      have hsrc2 : ∀ (W : World), W.heap[b]? = some (.cells (P ++ ((C1 ++ C2) ++ R)).toArray 245 (0, 0)) → ∀ j u, C2[j]? = some u → W.cell? ((⟨b, P.length + i * 2, none⟩ : Addr).add j) = some u := fun W hW j u hj => by
        have hjl := (List.getElem?_eq_some_iff.1 hj).1
        rw [Addr.add_lit]
        refine blk_cell hW ?_
        rw [List.getElem?_append_right (by omega), List.getElem?_append_left (by rw [List.length_append]; omega), List.getElem?_append_right (by omega), ← hj]
        congr 1; omega
      by_cases hroom : n + 1 ≤ cap
      · have hRl : 2 ≤ R.length := by
          have : (n + 1) * 2 ≤ cap * 2 := Nat.mul_le_mul_right _ hroom
          omega
        obtain ⟨A1, hA1⟩ : ∃ A1, A1 = (P ++ ((C1 ++ C2) ++ R)).take (P.length + C1.length + 2) ++ C2 ++ (P ++ ((C1 ++ C2) ++ R)).drop (P.length + C1.length + 2 + C2.length) := ⟨_, rfl⟩
        have hA2 := ins_row P C1 C2 R vs 2 hvl hRl A1 hA1
        have hA1l : P.length + i * 2 + vs.length ≤ A1.length := by rw [hA1]; simp; omega
        have HC1 : Hid (∀ (W : World) ty dc sc, W.heap[b]? = some (.cells (P ++ ((C1 ++ C2) ++ R)).toArray 245 (0, 0)) → (Builtin.copy_ #[230, 230] ty #[.slice (some ⟨b, P.length + (i + 1) * 2, none⟩) (n - i) dc, .slice (some ⟨b, P.length + i * 2, none⟩) (n + 1 - i) sc]).run Tryz.prog W = .ok (goInt (Nat.min (n + 1 - i) (n - i))) (W.setRow b A1.toArray)) := fun W ty dc sc hW => by
          have hr := run_copyN ek W ty b (P.length + (i + 1) * 2) (n - i) dc ⟨b, P.length + i * 2, none⟩ (n + 1 - i) sc _ 245 C2 hW (by rw [hl2]; congr 1; simp only [Nat.min_def]; split <;> omega) (hsrc2 W hW) (by simp; omega) h1b
          rw [show P.length + (i + 1) * 2 = P.length + C1.length + 2 from by rw [hl1]; omega] at hr ⊢
          rw [hA1]; exact hr
        have HC2 : Hid (∀ (W : World) ty dc, W.heap[b]? = some (.cells A1.toArray 245 (0, 0)) → W.heap[vb]? = some (.cells vs.toArray 245 (0, 0)) → (Builtin.copy_ #[230, 230] ty #[.slice (some ⟨b, P.length + i * 2, none⟩) (n + 1 - i) dc, .slice (some ⟨vb, 0, none⟩) 1 1]).run Tryz.prog W = .ok (goInt (Nat.min 1 (n + 1 - i))) (W.setRow b (P ++ ((C1 ++ vs ++ C2) ++ R.drop 2)).toArray)) := fun W ty dc hW hV => by
          have hr := run_copyN ek W ty b (P.length + i * 2) (n + 1 - i) dc ⟨vb, 0, none⟩ 1 1 A1 245 vs hW (by rw [hvl, show Nat.min 1 (n + 1 - i) = 1 from by simp only [Nat.min_def]; split <;> omega]) (hnews W hV) hA1l hv1
          rw [hvl, ← hl1, hA2] at hr
          rw [← hl1]; exact hr
        have HOV : Hid (∀ lb cb, (callFunc 164 #[.slice (some ⟨vb, 0, none⟩) 1 1, .slice (some ⟨b, P.length + (i + 1) * 2, none⟩) lb cb]).run Tryz.prog w = .ok (.value (.bool false)) w) := fun lb cb => by
          rw [run_callFunc_extern Tryz.func164 (by kernel_rfl) (by kernel_rfl) (by kernel_rfl) (e := Extern.SlicesOverlaps.overlaps #[230, 230] #[4]) (by kernel_rfl),
            Lib.run_overlaps_apart w 230 4 245 ek.u 2 (fun w => by simp [sizeOf, typeInfo, ek.i, ek.s]) ⟨vb, 0, none⟩ ⟨b, P.length + (i + 1) * 2, none⟩ 1 1 lb cb hbv 245 245 vs.length (P ++ ((C1 ++ C2) ++ R)).length (by simp [World.shape?, hvb]) (by simp [World.shape?, hg]) (by rw [List.length_append, List.length_append, List.length_append]; omega) (blk_free hvb) (blk_free hvb)]
          rfl
        have HFIN : Hid (Rw ((w.drew.setRow b A1.toArray).setRow b (P ++ ((C1 ++ vs ++ C2) ++ R.drop 2)).toArray) 245 2 (.slice (some ⟨b, P.length, none⟩) (n + 1) cap) (n + 1) (C1 ++ vs ++ C2) ∧ w.grownBy ((w.drew.setRow b A1.toArray).setRow b (P ++ ((C1 ++ vs ++ C2) ++ R.drop 2)).toArray) (some b)) :=
          ⟨⟨hlen, hall, .inr ⟨b, cap, P, R.drop 2, rfl, setRow_heap _ b _ _ 245 (0, 0) (setRow_heap w.drew b _ _ 245 (0, 0) hg), hroom, hcm, by rw [List.length_drop]; omega⟩⟩, grown_setRow (grown_setRow (grown_drew (grown_refl _ _)) (Or.inl rfl) _) (Or.inl rfl) _⟩
        have HG : Hid (w.heap[b]? = some (.cells (P ++ ((C1 ++ C2) ++ R)).toArray 245 (0, 0)) ∧ w.heap[vb]? = some (.cells vs.toArray 245 (0, 0)) ∧ vb ≠ b) := ⟨hg, hvb, hbv⟩
        obtain ⟨A2, hA2'⟩ : ∃ A2, A2 = (P ++ ((C1 ++ vs ++ C2) ++ R.drop 2)).toArray := ⟨_, rfl⟩
        rw [← hA2'] at HC2 HFIN
        obtain ⟨o, ho⟩ : ∃ o, P.length = o := ⟨_, rfl⟩
        have hi1 : i + 1 ≤ n := by omega
        have hb1 : (0 : Int) ≤ (i : Int) + 1 := by omega
        have hb3 : (i : Int) ≤ (n : Int) + 1 := by omega
        rw [ho] at HC1 HC2 HOV HFIN ⊢
        clear h hvb hvl hv1 hne hg hnc hcr hl1 hl2 hcat h1c h1a h1b hall hlen hsrc2 hRl hA1 hA2 hA2' hA1l hnews ho hbv hcm
        have HGX : Hid (∀ W : World, W.heap = (w.setRow b A1.toArray).heap → W.heap[b]? = some (.cells A1.toArray 245 (0, 0)) ∧ W.heap[vb]? = some (.cells vs.toArray 245 (0, 0))) := fun W hW => by
          rw [hW]; exact ⟨setRow_heap w b _ _ 245 (0, 0) HG.out.1, (setRow_other w b vb _ HG.out.2.2).trans HG.out.2.1⟩
        have hcp1 := HC1.out w.drew 3 (cap - (i + 1)) (cap - i) HG.out.1
        have hcp2 := HC2.out (w.drew.setRow b A1.toArray) 3 (cap - i) (HGX.out (w.drew.setRow b A1.toArray) rfl).1 (HGX.out (w.drew.setRow b A1.toArray) rfl).2
        clear HC1 HC2 HG HGX
        rcases hb2 with hb2 | hb2
        · go_enter Tryz.func151, Tryz.ntmps151
          go_wp2_with (simp only [HOV.out])
          go_region
          go_wp2
          go_ret
          exact ⟨_, rfl, HFIN.out.1, HFIN.out.2, Or.inl rfl⟩
        · omega
      · have hcn : cap = n := by omega
        subst hcn
        obtain ⟨G, hG⟩ : ∃ G, G = grownCap w (cap + 1) cap 245 := ⟨_, rfl⟩
        have hGe : cap + 1 ≤ G := hG ▸ grownCap_ge w _ _ _
        have hGm : G ≤ maxLen := hG ▸ grownCap_le_maxLen w _ _ _ (by unfold maxLen; omega)
        have hGm' : G ≤ 9223372036854775807 := by unfold maxLen at hGm; omega
        have hold : (Builtin.firstCells i0.size i (.slice (some ⟨b, P.length, none⟩) i cap)).run Tryz.prog w.drew = .ok C1.toArray w.drew := by
          rw [ek.s]
          exact run_firstCells_some w.drew 2 i _ i cap C1 hl1 (fun j u hj => by
            have hjl := (List.getElem?_eq_some_iff.1 hj).1
            rw [Addr.add_lit]
            refine blk_cell (w := w.drew) hg ?_
            rw [List.getElem?_append_right (by omega), List.getElem?_append_left (by rw [List.length_append]; omega), List.getElem?_append_left (by omega), ← hj]
            congr 1; omega)
        have hkk : (cap : Int) + 1 - (i : Int) = ((cap + 1 - i : Nat) : Int) := by omega
        obtain ⟨Z, hZ⟩ : ∃ Z : List Value, Z = (Builtin.zeroCells (Value.cells (.agg #[.int .u16 0, .int .u64 0])) (cap + 1 - i)).toList := ⟨_, rfl⟩
        obtain ⟨Y, hY⟩ : ∃ Y : List Value, Y = (Builtin.zeroCells (Value.cells (.agg #[.int .u16 0, .int .u64 0])) (G - (cap + 1))).toList := ⟨_, rfl⟩
        have hZl : Z.length = (cap + 1 - i) * 2 := by rw [hZ, Array.length_toList, size_zeroCells, ek.zs]
        have hYl : Y.length = (G - (cap + 1)) * 2 := by rw [hY, Array.length_toList, size_zeroCells, ek.zs]
        have hZ1 : ∀ u ∈ Z, u.oneCell' = true := by rw [hZ]; exact ek.z1 _
        have hrz : (Builtin.append_ #[230, 3] 230 #[.slice (some ⟨b, P.length, none⟩) i cap, .int .i64 ((cap : Int) + 1 - (i : Int))]).run Tryz.prog w = .ok (.slice (some ⟨w.heap.size, 0, none⟩) (cap + 1) G) (w.drew.alloc (.cells (C1 ++ (Z ++ Y)).toArray 245)) := by
          have hr := Lib.run_append_grow_zeros w 230 3 230 245 i0 _ .i64 .i64 ek.u Tryz.underlying3 ek.i ek.zr (some ⟨b, P.length, none⟩) i cap C1 hold (cap + 1 - i) (by omega) (by rw [ek.s]; decide) (by omega) (by omega) (by rw [ek.b]; omega) (by rw [ek.b, show i + (cap + 1 - i) = cap + 1 from by omega]; exact growslice_fits (by omega) (by omega))
          rw [show i + (cap + 1 - i) = cap + 1 from by omega, ← hG] at hr
          have e3 : C1.toArray ++ Builtin.zeroCells (Value.cells (.agg #[.int .u16 0, .int .u64 0])) (cap + 1 - i) ++ Builtin.zeroCells (Value.cells (.agg #[.int .u16 0, .int .u64 0])) (G - (cap + 1)) = (C1 ++ (Z ++ Y)).toArray := by apply Array.ext'; rw [hZ, hY]; simp
          rw [e3] at hr
          rw [hkk]
          exact hr
        obtain ⟨W1, hW1⟩ : ∃ W1, W1 = w.drew.alloc (.cells (C1 ++ (Z ++ Y)).toArray 245) := ⟨_, rfl⟩
        have k1 : W1.heap[w.heap.size]? = some (.cells (C1 ++ (Z ++ Y)).toArray 245 (0, 0)) := hW1 ▸ heap_alloc_new w.drew _
        have k2 : W1.heap[vb]? = some (.cells vs.toArray 245 (0, 0)) := hW1 ▸ blk_alloc (w := w.drew) hvb _
        have k3 : W1.heap[b]? = some (.cells (P ++ ((C1 ++ C2) ++ R)).toArray 245 (0, 0)) := hW1 ▸ blk_alloc (w := w.drew) hg _
        have hvw := lt_of_block hvb
        have hc1 := run_copyN ek W1 3 w.heap.size (i * 2) (cap + 1 - i) (G - i) ⟨vb, 0, none⟩ 1 1 _ 245 vs k1 (by rw [hvl, show Nat.min 1 (cap + 1 - i) = 1 from by simp only [Nat.min_def]; split <;> omega]) (hnews W1 k2) (by simp; omega) hv1
        have eB : (C1 ++ (Z ++ Y)).take (i * 2) ++ vs ++ (C1 ++ (Z ++ Y)).drop (i * 2 + vs.length) = (C1 ++ vs) ++ (Z.drop 2 ++ Y) := by
          rw [← hl1, List.take_left, hvl, List.drop_length_add_append, List.drop_append_of_le_length (by omega)]
        rw [eB] at hc1
        obtain ⟨W2, hW2⟩ : ∃ W2, W2 = (W1.setRow w.heap.size ((C1 ++ vs) ++ (Z.drop 2 ++ Y)).toArray) := ⟨_, rfl⟩
        have j1 : W2.drew.heap[w.heap.size]? = some (.cells ((C1 ++ vs) ++ (Z.drop 2 ++ Y)).toArray 245 (0, 0)) := hW2 ▸ setRow_heap W1 _ _ _ 245 (0, 0) k1
        have j3 : W2.drew.heap[b]? = some (.cells (P ++ ((C1 ++ C2) ++ R)).toArray 245 (0, 0)) := hW2 ▸ (setRow_other W1 _ b _ (by omega)).trans k3
        have hzl : (C1 ++ vs).length = (i + 1) * 2 := by rw [List.length_append, hl1, hvl]; omega
        have hc2 := run_copyN ek W2.drew 3 w.heap.size ((i + 1) * 2) (cap - i) (G - (i + 1)) ⟨b, P.length + i * 2, none⟩ (cap - i) (cap - i) _ 245 C2 j1 (by rw [hl2]; congr 1; simp only [Nat.min_def]; split <;> omega) (hsrc2 _ j3) (by rw [List.length_append, hzl, List.length_append, List.length_drop]; omega) h1b
        have eC : ((C1 ++ vs) ++ (Z.drop 2 ++ Y)).take ((i + 1) * 2) ++ C2 ++ ((C1 ++ vs) ++ (Z.drop 2 ++ Y)).drop ((i + 1) * 2 + C2.length) = [] ++ ((C1 ++ vs ++ C2) ++ Y) := by
          have e4 : (Z.drop 2).length = C2.length := by rw [List.length_drop]; omega
          rw [← hzl, List.take_left, List.drop_length_add_append, ← e4, List.drop_left]
          simp
        rw [eC] at hc2
        have HFIN : Hid (Rw (W2.drew.setRow w.heap.size ([] ++ ((C1 ++ vs ++ C2) ++ Y)).toArray) 245 2 (.slice (some ⟨w.heap.size, 0, none⟩) (cap + 1) G) (cap + 1) (C1 ++ vs ++ C2) ∧ w.grownBy (W2.drew.setRow w.heap.size ([] ++ ((C1 ++ vs ++ C2) ++ Y)).toArray) (some b)) := by
          refine ⟨⟨hlen, hall, .inr ⟨w.heap.size, G, [], Y, rfl, setRow_heap _ _ _ _ 245 (0, 0) j1, hGe, hGm, by omega⟩⟩, ?_⟩
          rw [hW2, hW1]
          exact grown_setRow (grown_drew (grown_setRow (grown_alloc (grown_drew (grown_refl _ _)) _) (Or.inr (Nat.le_refl _)) _)) (Or.inr (Nat.le_refl _)) _
        obtain ⟨W3, hW3⟩ : ∃ W3, W3 = W2.drew.setRow w.heap.size ([] ++ ((C1 ++ vs ++ C2) ++ Y)).toArray := ⟨_, rfl⟩
        rw [← hW1] at hrz
        rw [← hW2] at hc1
        rw [← hW3] at hc2 HFIN
        obtain ⟨o, ho⟩ : ∃ o, P.length = o := ⟨_, rfl⟩
        rw [ho] at hrz hc2 ⊢
        have hb1 : (0 : Int) ≤ (i : Int) + 1 := by omega
        have hb3 : (i : Int) ≤ (cap : Int) + 1 := by omega
        have hb5 : (i : Int) ≤ (cap : Int) := by omega
        have hg1 : ¬ (G = i) := by omega
        have hg2 : ¬ (G = i + 1) := by omega
        have hz3 : (cap : Int) < (cap : Int) + 1 := by omega
        have hi1 : i + 1 ≤ cap + 1 := by omega
        have hw3 : IntKind.i64.wrap ((cap : Int) + 1 - (i : Int)) = (cap : Int) + 1 - (i : Int) := by rw [IntKind.wrap_i64]; omega
        clear h hvb hvl hv1 hne hg hcr hl1 hl2 hcat h1c h1a h1b hall hlen hsrc2 hnews ho hbv hcm hG hold hkk hZ hY hZl hYl hZ1 k1 k2 k3 j1 j3 hzl eB eC hGm hb2 hW1 hW2 hW3
        go_enter Tryz.func151, Tryz.ntmps151
        go_wp2_with (at_builtin; refine Lib.wpList_append_run _ rfl _ _ _ _ rfl _ _ rfl rfl _ _ hrz ?_)
        go_region
        go_wp2
        go_ret
        exact ⟨_, rfl, HFIN.out.1, HFIN.out.2, Or.inr rfl⟩
end Go.Proofs.YtbdnhllhdjepcaaGreat
namespace Go.Proofs.YtbdnhllhdjepcaaGreat
set_option linter.unusedVariables false
set_option linter.unusedSimpArgs false
open Go.RowKit Go.Maps

/-! ### lists of structs as cells -/
section
variable {α : Type} {f : α → List Value} {sz : Nat}
theorem fm_len (h : ∀ a, (f a).length = sz) : ∀ l : List α, (l.flatMap f).length = l.length * sz
  | [] => by simp
  | a :: l => by rw [List.flatMap_cons, List.length_append, h, fm_len h l, List.length_cons, Nat.add_mul]; omega
theorem fm_drop (h : ∀ a, (f a).length = sz) : ∀ (l : List α) (k : Nat), (l.flatMap f).drop (k * sz) = (l.drop k).flatMap f
  | l, 0 => by simp
  | [], k + 1 => by simp
  | a :: l, k + 1 => by
    rw [List.flatMap_cons, Nat.add_mul, Nat.one_mul, Nat.add_comm, ← h a, ← List.drop_drop, List.drop_left, h a, fm_drop h l k]
    rfl
theorem fm_take (h : ∀ a, (f a).length = sz) : ∀ (l : List α) (k : Nat), (l.flatMap f).take (k * sz) = (l.take k).flatMap f
  | l, 0 => by simp
  | [], k + 1 => by simp
  | a :: l, k + 1 => by
    rw [List.flatMap_cons, Nat.add_mul, Nat.one_mul, Nat.add_comm, ← h a, List.take_length_add_append, h a, fm_take h l k, List.take_succ_cons, List.flatMap_cons]
theorem fm_at (h : ∀ a, (f a).length = sz) : ∀ (l : List α) (j : Nat) (hj : j < l.length) (i : Nat), i < sz → (l.flatMap f)[j * sz + i]? = (f l[j])[i]?
  | [], j, hj, _, _ => by simp at hj
  | a :: l, 0, _, i, hi => by
    rw [List.flatMap_cons, Nat.zero_mul, Nat.zero_add, List.getElem?_append_left (by rw [h]; exact hi)]
    rfl
  | a :: l, j + 1, hj, i, hi => by
    rw [List.flatMap_cons, List.getElem?_append_right (by rw [h, Nat.add_mul]; omega)]
    have e : (j + 1) * sz + i - (f a).length = j * sz + i := by rw [h, Nat.add_mul]; omega
    rw [e, fm_at h l j (by simpa using hj) i hi]
    rfl
end
/-- a cell of a row -/
theorem Rw.cell {w : World} {e : TypeId} {sz n : Nat} {cs P R : List Value} {b : Nat} (hg : w.heap[b]? = some (.cells (P ++ (cs ++ R)).toArray e (0, 0))) {j : Nat} {u : Value} (hj : cs[j]? = some u) : w.cell? ⟨b, P.length + j, none⟩ = some u := by
  have hjl := (List.getElem?_eq_some_iff.1 hj).1
  refine blk_cell hg ?_
  rw [List.getElem?_append_right (by omega), List.getElem?_append_left (by omega), ← hj]
  congr 1; omega

/-! ### turns -/
def ecl (e : Int × Int) : List Value := [.int .u16 e.1, .int .u64 e.2]
theorem ecl_len (e : Int × Int) : (ecl e).length = 2 := rfl
def ecells (es : List (Int × Int)) : List Value := es.flatMap ecl
def EWf (es : List (Int × Int)) : Prop := ∀ e ∈ es, (Lit.int .u16 e.1).wf = true ∧ (Lit.int .u64 e.2).wf = true
def tk (t : Int) : Lit := .int .u16 t
theorem tk_key (t : Int) : WideAt.IsKeyLit (tk t) := by unfold tk; simp [WideAt.IsKeyLit]
abbrev TOwn (w : World) (xb n : Nat) (D : DW) : Prop := w.ownsMap Tryz.prog 58 (plainElem Tryz.prog 44) xb n D
theorem law45 : Keyed Tryz.prog 58 := int_keyed Tryz.underlying58
theorem key45 {t : Int} (h : (Lit.int .u16 t).wf = true) : keyOf Tryz.prog 58 (.int .u16 t) = some (tk t) := keyOf_int_mk Tryz.underlying58 h
theorem TOwn.look {w : World} {xb n : Nat} {D : DW} (h : TOwn w xb n D) {t : Int} (ht : (Lit.int .u16 t).wf = true) : (Instr.lookup 229 (.map (some xb)) (.int .u16 t) false).run Tryz.prog w = .ok (.int .u64 (markOf D (tk t))) w ∧ (Lit.int .u64 (markOf D (tk t))).wf = true := by
  obtain ⟨c, h1, h2, h3⟩ := World.ownsMap.lookup_int h law45 Tryz.underlying229 Tryz.underlying44 (Tryz.zeroValue44 _) (key45 ht)
  have e : markOf D (tk t) = c := by unfold markOf; rw [show lu 0 = .lit (.int .u64 0) from rfl, h2]; rfl
  rw [e]; exact ⟨h1, h3⟩
def Keeps (now : Int) (D D' : DW) : Prop := ∀ t, max (markOf D' (tk t)) now = max (markOf D (tk t)) now
theorem Keeps.refl (now : Int) (D : DW) : Keeps now D D := fun _ => rfl
theorem Keeps.trans {now : Int} {D D' D'' : DW} (h : Keeps now D D') (k : Keeps now D' D'') : Keeps now D D'' := fun t => (k t).trans (h t)
theorem keeps_del {now : Int} {D : DW} {t a : Int} (h : markOf D (tk t) = a) (ha : a ≤ now) (h0 : 0 ≤ now) : Keeps now D (D.del (tk t)) := fun t' => by
  by_cases e : t' = t
  · subst e
    rw [h]
    unfold markOf
    rw [atKey_del_same]
    show max 0 now = _
    omega
  · unfold markOf
    rw [atKey_del_other (by unfold tk; simpa using e)]
structure TurnAt (w : World) (tb xb n : Nat) (D : DW) (ov : Value) (es : List (Int × Int)) : Prop where
  blk : w.heap[tb]? = some (.cells [.map (some xb), ov].toArray 232 (0, 0))
  own : TOwn w xb n D
  row : Rw w 245 2 ov es.length (ecells es)
  wf : EWf es
theorem TOwn.ne {w : World} {xb n : Nat} {D : DW} (h : TOwn w xb n D) {b : Nat} {cs : Array Value} {t : TypeId} {fr : Nat × Nat} (hb : w.heap[b]? = some (.cells cs t fr)) : b ≠ xb := fun e => by
  obtain ⟨_, _, hm, _⟩ := h
  rw [e, hm] at hb
  cases hb
theorem Rw.blk {w : World} {e : TypeId} {sz n : Nat} {v : Value} {cs : List Value} (h : Rw w e sz v n cs) {b : Nat} (hb : v.ownBlock = some b) : ∃ xs, w.heap[b]? = some (.cells xs e (0, 0)) := by
  rcases h.2.2 with ⟨rfl, _⟩ | ⟨g, cap, P, R, rfl, hg, _⟩
  · cases hb
  · cases hb; exact ⟨_, hg⟩
theorem TurnAt.chg {w w' : World} {tb xb n : Nat} {D : DW} {ov : Value} {es : List (Int × Int)} {l : List Nat} (h : TurnAt w tb xb n D ov es) (hc : Chg l w w') (h1 : tb ∉ l) (h2 : xb ∉ l) (h3 : ∀ b, ov.ownBlock = some b → b ∉ l) : TurnAt w' tb xb n D ov es :=
  ⟨hc.blk h.blk h1, hc.map h.own h2, h.row.chg hc h3, h.wf⟩

set_option maxRecDepth 100000 in
set_option maxHeartbeats 1000000 in
theorem drop_any (tb xb n : Nat) (D : DW) (ov : Value) (t a : Int) (w : World) (hb : w.heap[tb]? = some (.cells [.map (some xb), ov].toArray 232 (0, 0))) (hm : TOwn w xb n D) (ht : (Lit.int .u16 t).wf = true) :
    Calls Tryz.prog 149 #[.pointer (some ⟨tb, 0, none⟩), .agg #[.int .u16 t, .int .u64 a]] w fun e w' => e = .returned (.tuple #[]) ∧ ∃ D', TOwn w' xb n D' ∧ Chg [xb] w w' ∧ (D' = D ∨ (D' = D.del (tk t) ∧ markOf D (tk t) = a)) := by
  have hm1 : TOwn (w.alloc (.cells #[.int .u16 t, .int .u64 a] 245)).drew xb n D := hm.alloc _
  have hc1 : Chg [xb] w (w.alloc (.cells #[.int .u16 t, .int .u64 a] 245)).drew := ((Chg.refl _ _).alloc _).drew
  have hlk := (hm1.look ht).1
  have hb1 : ∀ o, (w.alloc o).heap[tb]? = some (.cells [.map (some xb), ov].toArray 232 (0, 0)) := fun o => blk_alloc hb o
  have c0 : ∀ o, (w.alloc o).cell? ⟨tb, 0, none⟩ = some (.map (some xb)) := fun o => blk_cell (i := 0) (hb1 o) rfl
  obtain ⟨w2, hrun, hm2, hturn⟩ := World.ownsMap.drop (w := (w.alloc (.cells #[.int .u16 t, .int .u64 a] 245)).drew.drew) hm1 law45 Tryz.underlying229 (key45 ht) 0
  have hc2 := hc1.drew.trans (Chg.ofGrown hturn.grown) (by simp)
  have HM1 : Hid (TOwn (w.alloc (.cells #[.int .u16 t, .int .u64 a] 245)).drew xb n D) := hm1
  have HM2 : Hid (TOwn w2 xb n (D.del (tk t))) := hm2
  have HC : Hid (Chg [xb] w (w.alloc (.cells #[.int .u16 t, .int .u64 a] 245)).drew ∧ Chg [xb] w w2) := ⟨hc1, hc2⟩
  clear hm hm1 hm2 hturn hc1 hc2 hb hb1
  generalize hmk : markOf D (tk t) = c at hlk
  have HMK : Hid (markOf D (tk t) = c) := hmk
  clear hmk
  by_cases hca : c = a
  · subst hca
    go_enter Tryz.func149, Tryz.ntmps149
    go_wp2_with fail
    go_region
    go_wp2_with fail
    go_region
    go_wp2
    go_end0
    exact ⟨rfl, _, HM2.out, HC.out.2, Or.inr ⟨rfl, by first | exact HMK.out | trivial⟩⟩
  · have hca' : (c == a) = false := by simpa using hca
    go_enter Tryz.func149, Tryz.ntmps149
    go_wp2_with fail
    go_region
    go_wp2
    go_end0
    exact ⟨rfl, _, HM1.out, HC.out.1, Or.inl rfl⟩
set_option maxRecDepth 100000 in
theorem of_any (tb xb n : Nat) (D : DW) (ov : Value) (t : Int) (w : World) (hb : w.heap[tb]? = some (.cells [.map (some xb), ov].toArray 232 (0, 0))) (hm : TOwn w xb n D) (ht : (Lit.int .u16 t).wf = true) :
    Calls Tryz.prog 133 #[.pointer (some ⟨tb, 0, none⟩), .int .u16 t] w fun e w' => e = .returned (.int .u64 (markOf D (tk t))) ∧ w' = w := by
  have hlk := (hm.look ht).1
  have c0 : w.cell? ⟨tb, 0, none⟩ = some (.map (some xb)) := blk_cell (i := 0) hb rfl
  clear hm hb
  go_enter Tryz.func133, Tryz.ntmps133
  go_wp2
  go_ret
  exact ⟨rfl, rfl⟩
end Go.Proofs.YtbdnhllhdjepcaaGreat
