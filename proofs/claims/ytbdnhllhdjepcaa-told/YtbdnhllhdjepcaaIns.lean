import Derived.Test.YtbdnhllhdjepcaaRowk
import Derived.Shelf.RegionOpenPlain
import Derived.Laws.Externs
import Derived.Deep.RegionLaw
namespace Go.Proofs.Ytbdnhllhdjepcaa
set_option linter.unusedVariables false
set_option linter.unusedSimpArgs false
open Go.RowKit Go.Maps Go.Lib
theorem Try.info75 : (Try.prog.info? 75).map (fun i => (i.zero, i.size, i.bytes)) = some (some (.agg #[.int .u16 0, .int .u32 0, .int .u64 0]), 3, 16) := by kernel_rfl
theorem Try.info191 : (Try.prog.info? 191).map (fun i => (i.zero, i.size, i.bytes)) = some (some (.agg #[.int .u16 0, .int .u64 0]), 2, 16) := by kernel_rfl
theorem ek75 : ∃ i0, EK 65 75 i0 (.agg #[.int .u16 0, .int .u32 0, .int .u64 0]) 3 16 := by
  obtain ⟨i0, hi, hz0, hz1, hz2⟩ := info_parts Try.info75
  exact ⟨i0, Try.underlying65, hi, hz0, hz1, hz2, rfl, by decide, by decide, zero_one (z := Value.cells (.agg #[.int .u16 0, .int .u32 0, .int .u64 0])) (by decide) (by decide)⟩
theorem ek191 : ∃ i0, EK 187 191 i0 (.agg #[.int .u16 0, .int .u64 0]) 2 16 := by
  obtain ⟨i0, hi, hz0, hz1, hz2⟩ := info_parts Try.info191
  exact ⟨i0, Try.underlying187, hi, hz0, hz1, hz2, rfl, by decide, by decide, zero_one (z := Value.cells (.agg #[.int .u16 0, .int .u64 0])) (by decide) (by decide)⟩
theorem wpList_copy_run {P : Program} (w : World) {ops : Array Oper} {rest : List Oper} {o : Oper} {a : Act} {Q : Exit → Act → World → Prop} (hgd : o.guard = none) (d s : Operand) (t t' : TypeId)
    (ho : o.op = .call { callee := .builtin .copy, args := #[d, s], argTypes := #[t, t'] }) (v u : Value) (hd : a.eval d = v) (hs : a.eval s = u) {v' : Value} {w' : World}
    (hr : (Builtin.copy_ #[t, t'] o.type #[v, u]).run P w = .ok v' w') (h : wpList P ops Q rest (a.put o.dst v') w') : wpList P ops Q (o :: rest) a w :=
  wpList_plain hgd fun _ hK => by
    unfold Oper.wp execOp
    simp only [ho, resolve, invoke, builtin, Sem.run_bind, Sem.run_pure, Result.andThen_ok, List.map_toArray, List.map_cons, List.map_nil, hd, hs, hr]
    exact hK _ _ h
theorem step_copy_run {P : Program} {ops : Array Oper} {o : Oper} {a : Act} {w : World} {K : Act → World → Prop} {Q : Exit → Act → World → Prop} {E : Prop}
    (hg : o.guard = none) (d x : Operand) (dT sT : TypeId) (hop : o.op = Op.call { callee := Callee.builtin Builtin.copy, args := #[d, x], argTypes := #[dT, sT] })
    (v u : Value) (hd : a.eval d = v) (hx : a.eval x = u) {v' : Value} {w' : World} (hr : (Builtin.copy_ #[dT, sT] o.type #[v, u]).run P w = .ok v' w') (hK : K (a.put o.dst v') w') :
    if Region.wanted o (yielded ops a.tmps) = true then Oper.wp P o a w K Q else E := by
  have hw : Region.wanted o (yielded ops a.tmps) = true := by simp [Region.wanted, hg]
  rw [if_pos hw]
  unfold Oper.wp
  simp [execOp, hop, resolve, invoke, builtin, hd, hx, hr, Result.andThen]
  exact hK
/-- what shifting up, and writing into the gap, makes of a row -/
theorem ins_row (P C1 C2 R vs : List Value) (sz : Nat) (hvs : vs.length = sz) (hR : sz ≤ R.length) (A1 : List Value)
    (hA : A1 = (P ++ ((C1 ++ C2) ++ R)).take (P.length + C1.length + sz) ++ C2 ++ (P ++ ((C1 ++ C2) ++ R)).drop (P.length + C1.length + sz + C2.length)) :
    A1.take (P.length + C1.length) ++ vs ++ A1.drop (P.length + C1.length + sz) = P ++ ((C1 ++ vs ++ C2) ++ R.drop sz) := by
  have e0 : P ++ ((C1 ++ C2) ++ R) = (P ++ C1) ++ (C2 ++ R) := by simp
  have e1 : P.length + C1.length = (P ++ C1).length := by simp
  rw [e0, e1] at hA
  rw [List.take_length_add_append, Nat.add_assoc, List.drop_length_add_append] at hA
  rw [show sz + C2.length = C2.length + sz from by omega, List.drop_length_add_append] at hA
  have hX : ((C2 ++ R).take sz).length = sz := by rw [List.length_take, List.length_append]; omega
  generalize (C2 ++ R).take sz = X at hA hX
  have e2 : A1 = (P ++ C1) ++ (X ++ (C2 ++ R.drop sz)) := by rw [hA]; simp
  rw [e2, e1, List.take_left, ← List.drop_drop, List.drop_left, ← hX, List.drop_left]
  simp
theorem cut_len {cs : List Value} {n sz i : Nat} (h : cs.length = n * sz) (hi : i ≤ n) : (cs.take (i * sz)).length = i * sz ∧ (cs.drop (i * sz)).length = (n - i) * sz := by
  have : i * sz ≤ n * sz := Nat.mul_le_mul_right _ hi
  constructor
  · rw [List.length_take]; omega
  · rw [List.length_drop, h, Nat.sub_mul]

set_option maxHeartbeats 8000000 in
set_option maxRecDepth 100000 in
theorem insI (v : Value) (n i : Nat) (cs vs : List Value) (vb : Nat) (w : World) (h : Rw w 75 3 v n cs) (hi : i ≤ n) (hn : n ≤ 1000) (hvb : w.heap[vb]? = some (.cells vs.toArray 75 (0, 0))) (hvl : vs.length = 3) (hv1 : ∀ u ∈ vs, u.oneCell' = true) (hne : v.ownBlock ≠ some vb) :
    Calls Try.prog 98 #[v, .int .i64 i, .slice (some ⟨vb, 0, none⟩) 1 1] w fun e w' => ∃ v', e = .returned v' ∧ Rw w' 75 3 v' (n + 1) (cs.take (i * 3) ++ vs ++ cs.drop (i * 3)) ∧ w.grownBy w' v.ownBlock ∧ (v'.ownBlock = v.ownBlock ∨ v'.ownBlock = some w.heap.size) := by
  obtain ⟨i0, ek⟩ := ek75
  have hnews : ∀ (W : World), W.heap[vb]? = some (.cells vs.toArray 75 (0, 0)) → ∀ j u, vs[j]? = some u → W.cell? ((⟨vb, 0, none⟩ : Addr).add j) = some u := fun W hW j u hj => by
    rw [Addr.add_lit, Nat.zero_add]; exact blk_cell hW hj
  by_cases hin : i = n
  · subst hin
    have e1 : cs.take (i * 3) = cs := List.take_of_length_le (by rw [h.1]; exact Nat.le_refl _)
    have e2 : cs.drop (i * 3) = [] := List.drop_of_length_le (by rw [h.1]; exact Nat.le_refl _)
    rw [e1, e2, List.append_nil]
    obtain ⟨v', w', hr, hrw, hgr, hown⟩ := run_app ek w 65 v i cs h ⟨vb, 0, none⟩ 1 1 vs (by omega) (hnews w hvb) hv1 (by decide) (by omega)
    have HR : Hid ((Builtin.append_ #[65, 65] 65 #[v, .slice (some ⟨vb, 0, none⟩) 1 1]).run Try.prog w = .ok v' w') := hr
    have HP : Hid (Rw w' 75 3 v' (i + 1) (cs ++ vs) ∧ w.grownBy w' v.ownBlock ∧ (v'.ownBlock = v.ownBlock ∨ v'.ownBlock = some w.heap.size)) := ⟨hrw, hgr, hown⟩
    rcases h.2.2 with ⟨rfl, rfl⟩ | ⟨b, cap, P, R, rfl, hg, hnc, hcm, hcr⟩
    · clear h hr hrw hgr hown hvb hnews e1 e2 hne
      go_enter Try.func98, Try.ntmps98
      go_wp2_with (at_builtin; refine Lib.wpList_append_run _ rfl _ _ _ _ rfl _ _ rfl rfl _ _ HR.out ?_)
      go_ret
      exact ⟨v', rfl, HP.out⟩
    · have HF : Hid (i ≤ cap ∧ cap ≤ 9223372036854775807) := ⟨hnc, by unfold maxLen at hcm; omega⟩
      obtain ⟨o, ho⟩ : ∃ o, P.length = o := ⟨_, rfl⟩
      rw [ho] at HR HP ⊢
      clear h hr hrw hgr hown hvb hnews e1 e2 hne hg hnc hcm hcr ho
      obtain ⟨hf1, hf2⟩ := HF.out
      go_enter Try.func98, Try.ntmps98
      go_wp2_with (at_builtin; refine Lib.wpList_append_run _ rfl _ _ _ _ rfl _ _ rfl rfl _ _ HR.out ?_)
      all_goals
        go_ret
        exact ⟨v', rfl, HP.out⟩
  · have hlt : i < n := by omega
    rcases h.2.2 with ⟨rfl, rfl⟩ | ⟨b, cap, P, R, rfl, hg, hnc, hcm, hcr⟩
    · omega
    · have hcm' : cap ≤ 9223372036854775807 := by unfold maxLen at hcm; omega
      have hbv : vb ≠ b := fun e => hne (by rw [e]; rfl)
      have hz2 : ¬ ((i : Int) = (n : Int)) := by omega
      have hw1 : IntKind.i64.wrap ((i : Int) + 1) = (i : Int) + 1 := by rw [IntKind.wrap_i64]; omega
      have hw2 : IntKind.i64.wrap ((n : Int) + 1) = (n : Int) + 1 := by rw [IntKind.wrap_i64]; omega
      have htn : ((i : Int) + 1).toNat = i + 1 := by omega
      have htn2 : ((n : Int) + 1).toNat = n + 1 := by omega
      have hb2 : ¬ (cap = i + 1) ∨ cap = i + 1 := by omega
      have hb4 : ¬ (cap = i) := by omega
      obtain ⟨hl1, hl2⟩ := cut_len h.1 hi
      have hcat : cs = cs.take (i * 3) ++ cs.drop (i * 3) := (List.take_append_drop _ _).symm
      have h1c := h.2.1
      have h1a : ∀ u ∈ cs.take (i * 3), u.oneCell' = true := fun u hu => h1c u (List.mem_of_mem_take hu)
      have h1b : ∀ u ∈ cs.drop (i * 3), u.oneCell' = true := fun u hu => h1c u (List.mem_of_mem_drop hu)
      rw [hcat] at hg
      generalize cs.take (i * 3) = C1 at *
      generalize cs.drop (i * 3) = C2 at *
      have hall : ∀ u ∈ C1 ++ vs ++ C2, u.oneCell' = true := fun u hu => by
        rcases List.mem_append.1 hu with hu | hu
        · rcases List.mem_append.1 hu with hu | hu
          · exact h1a u hu
          · exact hv1 u hu
        · exact h1b u hu
      have hlen : (C1 ++ vs ++ C2).length = (n + 1) * 3 := by rw [List.length_append, List.length_append, hl1, hl2, hvl]; omega
      have hbw := lt_of_block hg
      have hsrc2 : ∀ (W : World), W.heap[b]? = some (.cells (P ++ ((C1 ++ C2) ++ R)).toArray 75 (0, 0)) → ∀ j u, C2[j]? = some u → W.cell? ((⟨b, P.length + i * 3, none⟩ : Addr).add j) = some u := fun W hW j u hj => by
        have hjl := (List.getElem?_eq_some_iff.1 hj).1
        rw [Addr.add_lit]
        refine blk_cell hW ?_
        rw [List.getElem?_append_right (by omega), List.getElem?_append_left (by rw [List.length_append]; omega), List.getElem?_append_right (by omega), ← hj]
        congr 1; omega
      by_cases hroom : n + 1 ≤ cap
      · have hRl : 3 ≤ R.length := by
          have : (n + 1) * 3 ≤ cap * 3 := Nat.mul_le_mul_right _ hroom
          omega
        obtain ⟨A1, hA1⟩ : ∃ A1, A1 = (P ++ ((C1 ++ C2) ++ R)).take (P.length + C1.length + 3) ++ C2 ++ (P ++ ((C1 ++ C2) ++ R)).drop (P.length + C1.length + 3 + C2.length) := ⟨_, rfl⟩
        have hA2 := ins_row P C1 C2 R vs 3 hvl hRl A1 hA1
        have hA1l : P.length + i * 3 + vs.length ≤ A1.length := by rw [hA1]; simp; omega
        have HC1 : Hid (∀ (W : World) ty dc sc, W.heap[b]? = some (.cells (P ++ ((C1 ++ C2) ++ R)).toArray 75 (0, 0)) → (Builtin.copy_ #[65, 65] ty #[.slice (some ⟨b, P.length + (i + 1) * 3, none⟩) (n - i) dc, .slice (some ⟨b, P.length + i * 3, none⟩) (n + 1 - i) sc]).run Try.prog W = .ok (goInt (Nat.min (n + 1 - i) (n - i))) (W.setRow b A1.toArray)) := fun W ty dc sc hW => by
          have hr := run_copyN ek W ty b (P.length + (i + 1) * 3) (n - i) dc ⟨b, P.length + i * 3, none⟩ (n + 1 - i) sc _ 75 C2 hW (by rw [hl2]; congr 1; simp only [Nat.min_def]; split <;> omega) (hsrc2 W hW) (by simp; omega) h1b
          rw [show P.length + (i + 1) * 3 = P.length + C1.length + 3 from by rw [hl1]; omega] at hr ⊢
          rw [hA1]; exact hr
        have HC2 : Hid (∀ (W : World) ty dc, W.heap[b]? = some (.cells A1.toArray 75 (0, 0)) → W.heap[vb]? = some (.cells vs.toArray 75 (0, 0)) → (Builtin.copy_ #[65, 65] ty #[.slice (some ⟨b, P.length + i * 3, none⟩) (n + 1 - i) dc, .slice (some ⟨vb, 0, none⟩) 1 1]).run Try.prog W = .ok (goInt (Nat.min 1 (n + 1 - i))) (W.setRow b (P ++ ((C1 ++ vs ++ C2) ++ R.drop 3)).toArray)) := fun W ty dc hW hV => by
          have hr := run_copyN ek W ty b (P.length + i * 3) (n + 1 - i) dc ⟨vb, 0, none⟩ 1 1 A1 75 vs hW (by rw [hvl, show Nat.min 1 (n + 1 - i) = 1 from by simp only [Nat.min_def]; split <;> omega]) (hnews W hV) hA1l hv1
          rw [hvl, ← hl1, hA2] at hr
          rw [← hl1]; exact hr
        have HOV : Hid (∀ lb cb, (callFunc 103 #[.slice (some ⟨vb, 0, none⟩) 1 1, .slice (some ⟨b, P.length + (i + 1) * 3, none⟩) lb cb]).run Try.prog w = .ok (.value (.bool false)) w) := fun lb cb => by
          rw [run_callFunc_extern Try.func103 (by kernel_rfl) (by kernel_rfl) (by kernel_rfl) (e := Extern.SlicesOverlaps.overlaps #[65, 65] #[4]) (by kernel_rfl),
            Lib.run_overlaps_apart w 65 4 75 ek.u 3 (fun w => by simp [sizeOf, typeInfo, ek.i, ek.s]) ⟨vb, 0, none⟩ ⟨b, P.length + (i + 1) * 3, none⟩ 1 1 lb cb hbv 75 75 vs.length (P ++ ((C1 ++ C2) ++ R)).length (by simp [World.shape?, hvb]) (by simp [World.shape?, hg]) (by rw [List.length_append, List.length_append, List.length_append]; omega) (blk_free hvb) (blk_free hvb)]
          rfl
        have HFIN : Hid (Rw ((w.drew.setRow b A1.toArray).setRow b (P ++ ((C1 ++ vs ++ C2) ++ R.drop 3)).toArray) 75 3 (.slice (some ⟨b, P.length, none⟩) (n + 1) cap) (n + 1) (C1 ++ vs ++ C2) ∧ w.grownBy ((w.drew.setRow b A1.toArray).setRow b (P ++ ((C1 ++ vs ++ C2) ++ R.drop 3)).toArray) (some b)) :=
          ⟨⟨hlen, hall, .inr ⟨b, cap, P, R.drop 3, rfl, setRow_heap _ b _ _ 75 (0, 0) (setRow_heap w.drew b _ _ 75 (0, 0) hg), hroom, hcm, by rw [List.length_drop]; omega⟩⟩, grown_setRow (grown_setRow (grown_drew (grown_refl _ _)) (Or.inl rfl) _) (Or.inl rfl) _⟩
        have HG : Hid (w.heap[b]? = some (.cells (P ++ ((C1 ++ C2) ++ R)).toArray 75 (0, 0)) ∧ w.heap[vb]? = some (.cells vs.toArray 75 (0, 0)) ∧ vb ≠ b) := ⟨hg, hvb, hbv⟩
        obtain ⟨A2, hA2'⟩ : ∃ A2, A2 = (P ++ ((C1 ++ vs ++ C2) ++ R.drop 3)).toArray := ⟨_, rfl⟩
        rw [← hA2'] at HC2 HFIN
        obtain ⟨o, ho⟩ : ∃ o, P.length = o := ⟨_, rfl⟩
        have hi1 : i + 1 ≤ n := by omega
        have hb1 : (0 : Int) ≤ (i : Int) + 1 := by omega
        have hb3 : (i : Int) ≤ (n : Int) + 1 := by omega
        rw [ho] at HC1 HC2 HOV HFIN ⊢
        clear h hvb hvl hv1 hne hg hnc hcr hl1 hl2 hcat h1c h1a h1b hall hlen hsrc2 hRl hA1 hA2 hA2' hA1l hnews ho hbv hcm
        have HGX : Hid (∀ W : World, W.heap = (w.setRow b A1.toArray).heap → W.heap[b]? = some (.cells A1.toArray 75 (0, 0)) ∧ W.heap[vb]? = some (.cells vs.toArray 75 (0, 0))) := fun W hW => by
          rw [hW]; exact ⟨setRow_heap w b _ _ 75 (0, 0) HG.out.1, (setRow_other w b vb _ HG.out.2.2).trans HG.out.2.1⟩
        have hcp1 := HC1.out w.drew 3 (cap - (i + 1)) (cap - i) HG.out.1
        have hcp2 := HC2.out (w.drew.setRow b A1.toArray) 3 (cap - i) (HGX.out (w.drew.setRow b A1.toArray) rfl).1 (HGX.out (w.drew.setRow b A1.toArray) rfl).2
        clear HC1 HC2 HG HGX
        rcases hb2 with hb2 | hb2
        · go_enter Try.func98, Try.ntmps98
          go_wp2_with (simp only [HOV.out])
          go_region
          go_wp2
          go_ret
          exact ⟨_, rfl, HFIN.out.1, HFIN.out.2, Or.inl rfl⟩
        · omega
      · have hcn : cap = n := by omega
        subst hcn
        obtain ⟨G, hG⟩ : ∃ G, G = grownCap w (cap + 1) cap 75 := ⟨_, rfl⟩
        have hGe : cap + 1 ≤ G := hG ▸ grownCap_ge w _ _ _
        have hGm : G ≤ maxLen := hG ▸ grownCap_le_maxLen w _ _ _ (by unfold maxLen; omega)
        have hGm' : G ≤ 9223372036854775807 := by unfold maxLen at hGm; omega
        have hold : (Builtin.firstCells i0.size i (.slice (some ⟨b, P.length, none⟩) i cap)).run Try.prog w.drew = .ok C1.toArray w.drew := by
          rw [ek.s]
          exact run_firstCells_some w.drew 3 i _ i cap C1 hl1 (fun j u hj => by
            have hjl := (List.getElem?_eq_some_iff.1 hj).1
            rw [Addr.add_lit]
            refine blk_cell (w := w.drew) hg ?_
            rw [List.getElem?_append_right (by omega), List.getElem?_append_left (by rw [List.length_append]; omega), List.getElem?_append_left (by omega), ← hj]
            congr 1; omega)
        have hkk : (cap : Int) + 1 - (i : Int) = ((cap + 1 - i : Nat) : Int) := by omega
        obtain ⟨Z, hZ⟩ : ∃ Z : List Value, Z = (Builtin.zeroCells (Value.cells (.agg #[.int .u16 0, .int .u32 0, .int .u64 0])) (cap + 1 - i)).toList := ⟨_, rfl⟩
        obtain ⟨Y, hY⟩ : ∃ Y : List Value, Y = (Builtin.zeroCells (Value.cells (.agg #[.int .u16 0, .int .u32 0, .int .u64 0])) (G - (cap + 1))).toList := ⟨_, rfl⟩
        have hZl : Z.length = (cap + 1 - i) * 3 := by rw [hZ, Array.length_toList, size_zeroCells, ek.zs]
        have hYl : Y.length = (G - (cap + 1)) * 3 := by rw [hY, Array.length_toList, size_zeroCells, ek.zs]
        have hZ1 : ∀ u ∈ Z, u.oneCell' = true := by rw [hZ]; exact ek.z1 _
        have hrz : (Builtin.append_ #[65, 3] 65 #[.slice (some ⟨b, P.length, none⟩) i cap, .int .i64 ((cap : Int) + 1 - (i : Int))]).run Try.prog w = .ok (.slice (some ⟨w.heap.size, 0, none⟩) (cap + 1) G) (w.drew.alloc (.cells (C1 ++ (Z ++ Y)).toArray 75)) := by
          have hr := Lib.run_append_grow_zeros w 65 3 65 75 i0 _ .i64 .i64 ek.u Try.underlying3 ek.i ek.zr (some ⟨b, P.length, none⟩) i cap C1 hold (cap + 1 - i) (by omega) (by rw [ek.s]; decide) (by omega) (by omega) (by rw [ek.b]; omega) (by rw [ek.b, show i + (cap + 1 - i) = cap + 1 from by omega]; exact growslice_fits (by omega) (by omega))
          rw [show i + (cap + 1 - i) = cap + 1 from by omega, ← hG] at hr
          have e3 : C1.toArray ++ Builtin.zeroCells (Value.cells (.agg #[.int .u16 0, .int .u32 0, .int .u64 0])) (cap + 1 - i) ++ Builtin.zeroCells (Value.cells (.agg #[.int .u16 0, .int .u32 0, .int .u64 0])) (G - (cap + 1)) = (C1 ++ (Z ++ Y)).toArray := by apply Array.ext'; rw [hZ, hY]; simp
          rw [e3] at hr
          rw [hkk]
          exact hr
        obtain ⟨W1, hW1⟩ : ∃ W1, W1 = w.drew.alloc (.cells (C1 ++ (Z ++ Y)).toArray 75) := ⟨_, rfl⟩
        have k1 : W1.heap[w.heap.size]? = some (.cells (C1 ++ (Z ++ Y)).toArray 75 (0, 0)) := hW1 ▸ heap_alloc_new w.drew _
        have k2 : W1.heap[vb]? = some (.cells vs.toArray 75 (0, 0)) := hW1 ▸ blk_alloc (w := w.drew) hvb _
        have k3 : W1.heap[b]? = some (.cells (P ++ ((C1 ++ C2) ++ R)).toArray 75 (0, 0)) := hW1 ▸ blk_alloc (w := w.drew) hg _
        have hvw := lt_of_block hvb
        have hc1 := run_copyN ek W1 3 w.heap.size (i * 3) (cap + 1 - i) (G - i) ⟨vb, 0, none⟩ 1 1 _ 75 vs k1 (by rw [hvl, show Nat.min 1 (cap + 1 - i) = 1 from by simp only [Nat.min_def]; split <;> omega]) (hnews W1 k2) (by simp; omega) hv1
        have eB : (C1 ++ (Z ++ Y)).take (i * 3) ++ vs ++ (C1 ++ (Z ++ Y)).drop (i * 3 + vs.length) = (C1 ++ vs) ++ (Z.drop 3 ++ Y) := by
          rw [← hl1, List.take_left, hvl, List.drop_length_add_append, List.drop_append_of_le_length (by omega)]
        rw [eB] at hc1
        obtain ⟨W2, hW2⟩ : ∃ W2, W2 = (W1.setRow w.heap.size ((C1 ++ vs) ++ (Z.drop 3 ++ Y)).toArray) := ⟨_, rfl⟩
        have j1 : W2.drew.heap[w.heap.size]? = some (.cells ((C1 ++ vs) ++ (Z.drop 3 ++ Y)).toArray 75 (0, 0)) := hW2 ▸ setRow_heap W1 _ _ _ 75 (0, 0) k1
        have j3 : W2.drew.heap[b]? = some (.cells (P ++ ((C1 ++ C2) ++ R)).toArray 75 (0, 0)) := hW2 ▸ (setRow_other W1 _ b _ (by omega)).trans k3
        have hzl : (C1 ++ vs).length = (i + 1) * 3 := by rw [List.length_append, hl1, hvl]; omega
        have hc2 := run_copyN ek W2.drew 3 w.heap.size ((i + 1) * 3) (cap - i) (G - (i + 1)) ⟨b, P.length + i * 3, none⟩ (cap - i) (cap - i) _ 75 C2 j1 (by rw [hl2]; congr 1; simp only [Nat.min_def]; split <;> omega) (hsrc2 _ j3) (by rw [List.length_append, hzl, List.length_append, List.length_drop]; omega) h1b
        have eC : ((C1 ++ vs) ++ (Z.drop 3 ++ Y)).take ((i + 1) * 3) ++ C2 ++ ((C1 ++ vs) ++ (Z.drop 3 ++ Y)).drop ((i + 1) * 3 + C2.length) = [] ++ ((C1 ++ vs ++ C2) ++ Y) := by
          have e4 : (Z.drop 3).length = C2.length := by rw [List.length_drop]; omega
          rw [← hzl, List.take_left, List.drop_length_add_append, ← e4, List.drop_left]
          simp
        rw [eC] at hc2
        have HFIN : Hid (Rw (W2.drew.setRow w.heap.size ([] ++ ((C1 ++ vs ++ C2) ++ Y)).toArray) 75 3 (.slice (some ⟨w.heap.size, 0, none⟩) (cap + 1) G) (cap + 1) (C1 ++ vs ++ C2) ∧ w.grownBy (W2.drew.setRow w.heap.size ([] ++ ((C1 ++ vs ++ C2) ++ Y)).toArray) (some b)) := by
          refine ⟨⟨hlen, hall, .inr ⟨w.heap.size, G, [], Y, rfl, setRow_heap _ _ _ _ 75 (0, 0) j1, hGe, hGm, by omega⟩⟩, ?_⟩
          rw [hW2, hW1]
          exact grown_setRow (grown_drew (grown_setRow (grown_alloc (grown_drew (grown_refl _ _)) _) (Or.inr (Nat.le_refl _)) _)) (Or.inr (Nat.le_refl _)) _
        obtain ⟨W3, hW3⟩ : ∃ W3, W3 = W2.drew.setRow w.heap.size ([] ++ ((C1 ++ vs ++ C2) ++ Y)).toArray := ⟨_, rfl⟩
        rw [← hW1] at hrz
        rw [← hW2] at hc1
        rw [← hW3] at hc2 HFIN
        obtain ⟨o, ho⟩ : ∃ o, P.length = o := ⟨_, rfl⟩
        rw [ho] at hrz hc2 ⊢
        have hb1 : (0 : Int) ≤ (i : Int) + 1 := by omega
        have hb3 : (i : Int) ≤ (cap : Int) + 1 := by omega
        have hb5 : (i : Int) ≤ (cap : Int) := by omega
        have hg1 : ¬ (G = i) := by omega
        have hg2 : ¬ (G = i + 1) := by omega
        have hz3 : (cap : Int) < (cap : Int) + 1 := by omega
        have hi1 : i + 1 ≤ cap + 1 := by omega
        have hw3 : IntKind.i64.wrap ((cap : Int) + 1 - (i : Int)) = (cap : Int) + 1 - (i : Int) := by rw [IntKind.wrap_i64]; omega
        clear h hvb hvl hv1 hne hg hcr hl1 hl2 hcat h1c h1a h1b hall hlen hsrc2 hnews ho hbv hcm hG hold hkk hZ hY hZl hYl hZ1 k1 k2 k3 j1 j3 hzl eB eC hGm hb2 hW1 hW2 hW3
        go_enter Try.func98, Try.ntmps98
        go_wp2_with (at_builtin; refine Lib.wpList_append_run _ rfl _ _ _ _ rfl _ _ rfl rfl _ _ hrz ?_)
        go_region
        go_wp2
        go_ret
        exact ⟨_, rfl, HFIN.out.1, HFIN.out.2, Or.inr rfl⟩

set_option maxHeartbeats 8000000 in
set_option maxRecDepth 100000 in
theorem insE (v : Value) (n i : Nat) (cs vs : List Value) (vb : Nat) (w : World) (h : Rw w 191 2 v n cs) (hi : i ≤ n) (hn : n ≤ 1000) (hvb : w.heap[vb]? = some (.cells vs.toArray 191 (0, 0))) (hvl : vs.length = 2) (hv1 : ∀ u ∈ vs, u.oneCell' = true) (hne : v.ownBlock ≠ some vb) :
    Calls Try.prog 99 #[v, .int .i64 i, .slice (some ⟨vb, 0, none⟩) 1 1] w fun e w' => ∃ v', e = .returned v' ∧ Rw w' 191 2 v' (n + 1) (cs.take (i * 2) ++ vs ++ cs.drop (i * 2)) ∧ w.grownBy w' v.ownBlock ∧ (v'.ownBlock = v.ownBlock ∨ v'.ownBlock = some w.heap.size) := by
  obtain ⟨i0, ek⟩ := ek191
  have hnews : ∀ (W : World), W.heap[vb]? = some (.cells vs.toArray 191 (0, 0)) → ∀ j u, vs[j]? = some u → W.cell? ((⟨vb, 0, none⟩ : Addr).add j) = some u := fun W hW j u hj => by
    rw [Addr.add_lit, Nat.zero_add]; exact blk_cell hW hj
  by_cases hin : i = n
  · subst hin
    have e1 : cs.take (i * 2) = cs := List.take_of_length_le (by rw [h.1]; exact Nat.le_refl _)
    have e2 : cs.drop (i * 2) = [] := List.drop_of_length_le (by rw [h.1]; exact Nat.le_refl _)
    rw [e1, e2, List.append_nil]
    obtain ⟨v', w', hr, hrw, hgr, hown⟩ := run_app ek w 187 v i cs h ⟨vb, 0, none⟩ 1 1 vs (by omega) (hnews w hvb) hv1 (by decide) (by omega)
    have HR : Hid ((Builtin.append_ #[187, 187] 187 #[v, .slice (some ⟨vb, 0, none⟩) 1 1]).run Try.prog w = .ok v' w') := hr
    have HP : Hid (Rw w' 191 2 v' (i + 1) (cs ++ vs) ∧ w.grownBy w' v.ownBlock ∧ (v'.ownBlock = v.ownBlock ∨ v'.ownBlock = some w.heap.size)) := ⟨hrw, hgr, hown⟩
    rcases h.2.2 with ⟨rfl, rfl⟩ | ⟨b, cap, P, R, rfl, hg, hnc, hcm, hcr⟩
    · clear h hr hrw hgr hown hvb hnews e1 e2 hne
      go_enter Try.func99, Try.ntmps99
      go_wp2_with (at_builtin; refine Lib.wpList_append_run _ rfl _ _ _ _ rfl _ _ rfl rfl _ _ HR.out ?_)
      go_ret
      exact ⟨v', rfl, HP.out⟩
    · have HF : Hid (i ≤ cap ∧ cap ≤ 9223372036854775807) := ⟨hnc, by unfold maxLen at hcm; omega⟩
      obtain ⟨o, ho⟩ : ∃ o, P.length = o := ⟨_, rfl⟩
      rw [ho] at HR HP ⊢
      clear h hr hrw hgr hown hvb hnews e1 e2 hne hg hnc hcm hcr ho
      obtain ⟨hf1, hf2⟩ := HF.out
      go_enter Try.func99, Try.ntmps99
      go_wp2_with (at_builtin; refine Lib.wpList_append_run _ rfl _ _ _ _ rfl _ _ rfl rfl _ _ HR.out ?_)
      all_goals
        go_ret
        exact ⟨v', rfl, HP.out⟩
  · have hlt : i < n := by omega
    rcases h.2.2 with ⟨rfl, rfl⟩ | ⟨b, cap, P, R, rfl, hg, hnc, hcm, hcr⟩
    · omega
    · have hcm' : cap ≤ 9223372036854775807 := by unfold maxLen at hcm; omega
      have hbv : vb ≠ b := fun e => hne (by rw [e]; rfl)
      have hz2 : ¬ ((i : Int) = (n : Int)) := by omega
      have hw1 : IntKind.i64.wrap ((i : Int) + 1) = (i : Int) + 1 := by rw [IntKind.wrap_i64]; omega
      have hw2 : IntKind.i64.wrap ((n : Int) + 1) = (n : Int) + 1 := by rw [IntKind.wrap_i64]; omega
      have htn : ((i : Int) + 1).toNat = i + 1 := by omega
      have htn2 : ((n : Int) + 1).toNat = n + 1 := by omega
      have hb2 : ¬ (cap = i + 1) ∨ cap = i + 1 := by omega
      have hb4 : ¬ (cap = i) := by omega
      obtain ⟨hl1, hl2⟩ := cut_len h.1 hi
      have hcat : cs = cs.take (i * 2) ++ cs.drop (i * 2) := (List.take_append_drop _ _).symm
      have h1c := h.2.1
      have h1a : ∀ u ∈ cs.take (i * 2), u.oneCell' = true := fun u hu => h1c u (List.mem_of_mem_take hu)
      have h1b : ∀ u ∈ cs.drop (i * 2), u.oneCell' = true := fun u hu => h1c u (List.mem_of_mem_drop hu)
      rw [hcat] at hg
      generalize cs.take (i * 2) = C1 at *
      generalize cs.drop (i * 2) = C2 at *
      have hall : ∀ u ∈ C1 ++ vs ++ C2, u.oneCell' = true := fun u hu => by
        rcases List.mem_append.1 hu with hu | hu
        · rcases List.mem_append.1 hu with hu | hu
          · exact h1a u hu
          · exact hv1 u hu
        · exact h1b u hu
      have hlen : (C1 ++ vs ++ C2).length = (n + 1) * 2 := by rw [List.length_append, List.length_append, hl1, hl2, hvl]; omega
      have hbw := lt_of_block hg
      have hsrc2 : ∀ (W : World), W.heap[b]? = some (.cells (P ++ ((C1 ++ C2) ++ R)).toArray 191 (0, 0)) → ∀ j u, C2[j]? = some u → W.cell? ((⟨b, P.length + i * 2, none⟩ : Addr).add j) = some u := fun W hW j u hj => by
        have hjl := (List.getElem?_eq_some_iff.1 hj).1
        rw [Addr.add_lit]
        refine blk_cell hW ?_
        rw [List.getElem?_append_right (by omega), List.getElem?_append_left (by rw [List.length_append]; omega), List.getElem?_append_right (by omega), ← hj]
        congr 1; omega
      by_cases hroom : n + 1 ≤ cap
      · have hRl : 2 ≤ R.length := by
          have : (n + 1) * 2 ≤ cap * 2 := Nat.mul_le_mul_right _ hroom
          omega
        obtain ⟨A1, hA1⟩ : ∃ A1, A1 = (P ++ ((C1 ++ C2) ++ R)).take (P.length + C1.length + 2) ++ C2 ++ (P ++ ((C1 ++ C2) ++ R)).drop (P.length + C1.length + 2 + C2.length) := ⟨_, rfl⟩
        have hA2 := ins_row P C1 C2 R vs 2 hvl hRl A1 hA1
        have hA1l : P.length + i * 2 + vs.length ≤ A1.length := by rw [hA1]; simp; omega
        have HC1 : Hid (∀ (W : World) ty dc sc, W.heap[b]? = some (.cells (P ++ ((C1 ++ C2) ++ R)).toArray 191 (0, 0)) → (Builtin.copy_ #[187, 187] ty #[.slice (some ⟨b, P.length + (i + 1) * 2, none⟩) (n - i) dc, .slice (some ⟨b, P.length + i * 2, none⟩) (n + 1 - i) sc]).run Try.prog W = .ok (goInt (Nat.min (n + 1 - i) (n - i))) (W.setRow b A1.toArray)) := fun W ty dc sc hW => by
          have hr := run_copyN ek W ty b (P.length + (i + 1) * 2) (n - i) dc ⟨b, P.length + i * 2, none⟩ (n + 1 - i) sc _ 191 C2 hW (by rw [hl2]; congr 1; simp only [Nat.min_def]; split <;> omega) (hsrc2 W hW) (by simp; omega) h1b
          rw [show P.length + (i + 1) * 2 = P.length + C1.length + 2 from by rw [hl1]; omega] at hr ⊢
          rw [hA1]; exact hr
        have HC2 : Hid (∀ (W : World) ty dc, W.heap[b]? = some (.cells A1.toArray 191 (0, 0)) → W.heap[vb]? = some (.cells vs.toArray 191 (0, 0)) → (Builtin.copy_ #[187, 187] ty #[.slice (some ⟨b, P.length + i * 2, none⟩) (n + 1 - i) dc, .slice (some ⟨vb, 0, none⟩) 1 1]).run Try.prog W = .ok (goInt (Nat.min 1 (n + 1 - i))) (W.setRow b (P ++ ((C1 ++ vs ++ C2) ++ R.drop 2)).toArray)) := fun W ty dc hW hV => by
          have hr := run_copyN ek W ty b (P.length + i * 2) (n + 1 - i) dc ⟨vb, 0, none⟩ 1 1 A1 191 vs hW (by rw [hvl, show Nat.min 1 (n + 1 - i) = 1 from by simp only [Nat.min_def]; split <;> omega]) (hnews W hV) hA1l hv1
          rw [hvl, ← hl1, hA2] at hr
          rw [← hl1]; exact hr
        have HOV : Hid (∀ lb cb, (callFunc 105 #[.slice (some ⟨vb, 0, none⟩) 1 1, .slice (some ⟨b, P.length + (i + 1) * 2, none⟩) lb cb]).run Try.prog w = .ok (.value (.bool false)) w) := fun lb cb => by
          rw [run_callFunc_extern Try.func105 (by kernel_rfl) (by kernel_rfl) (by kernel_rfl) (e := Extern.SlicesOverlaps.overlaps #[187, 187] #[4]) (by kernel_rfl),
            Lib.run_overlaps_apart w 187 4 191 ek.u 2 (fun w => by simp [sizeOf, typeInfo, ek.i, ek.s]) ⟨vb, 0, none⟩ ⟨b, P.length + (i + 1) * 2, none⟩ 1 1 lb cb hbv 191 191 vs.length (P ++ ((C1 ++ C2) ++ R)).length (by simp [World.shape?, hvb]) (by simp [World.shape?, hg]) (by rw [List.length_append, List.length_append, List.length_append]; omega) (blk_free hvb) (blk_free hvb)]
          rfl
        have HFIN : Hid (Rw ((w.drew.setRow b A1.toArray).setRow b (P ++ ((C1 ++ vs ++ C2) ++ R.drop 2)).toArray) 191 2 (.slice (some ⟨b, P.length, none⟩) (n + 1) cap) (n + 1) (C1 ++ vs ++ C2) ∧ w.grownBy ((w.drew.setRow b A1.toArray).setRow b (P ++ ((C1 ++ vs ++ C2) ++ R.drop 2)).toArray) (some b)) :=
          ⟨⟨hlen, hall, .inr ⟨b, cap, P, R.drop 2, rfl, setRow_heap _ b _ _ 191 (0, 0) (setRow_heap w.drew b _ _ 191 (0, 0) hg), hroom, hcm, by rw [List.length_drop]; omega⟩⟩, grown_setRow (grown_setRow (grown_drew (grown_refl _ _)) (Or.inl rfl) _) (Or.inl rfl) _⟩
        have HG : Hid (w.heap[b]? = some (.cells (P ++ ((C1 ++ C2) ++ R)).toArray 191 (0, 0)) ∧ w.heap[vb]? = some (.cells vs.toArray 191 (0, 0)) ∧ vb ≠ b) := ⟨hg, hvb, hbv⟩
        obtain ⟨A2, hA2'⟩ : ∃ A2, A2 = (P ++ ((C1 ++ vs ++ C2) ++ R.drop 2)).toArray := ⟨_, rfl⟩
        rw [← hA2'] at HC2 HFIN
        obtain ⟨o, ho⟩ : ∃ o, P.length = o := ⟨_, rfl⟩
        have hi1 : i + 1 ≤ n := by omega
        have hb1 : (0 : Int) ≤ (i : Int) + 1 := by omega
        have hb3 : (i : Int) ≤ (n : Int) + 1 := by omega
        rw [ho] at HC1 HC2 HOV HFIN ⊢
        clear h hvb hvl hv1 hne hg hnc hcr hl1 hl2 hcat h1c h1a h1b hall hlen hsrc2 hRl hA1 hA2 hA2' hA1l hnews ho hbv hcm
        have HGX : Hid (∀ W : World, W.heap = (w.setRow b A1.toArray).heap → W.heap[b]? = some (.cells A1.toArray 191 (0, 0)) ∧ W.heap[vb]? = some (.cells vs.toArray 191 (0, 0))) := fun W hW => by
          rw [hW]; exact ⟨setRow_heap w b _ _ 191 (0, 0) HG.out.1, (setRow_other w b vb _ HG.out.2.2).trans HG.out.2.1⟩
        have hcp1 := HC1.out w.drew 3 (cap - (i + 1)) (cap - i) HG.out.1
        have hcp2 := HC2.out (w.drew.setRow b A1.toArray) 3 (cap - i) (HGX.out (w.drew.setRow b A1.toArray) rfl).1 (HGX.out (w.drew.setRow b A1.toArray) rfl).2
        clear HC1 HC2 HG HGX
        rcases hb2 with hb2 | hb2
        · go_enter Try.func99, Try.ntmps99
          go_wp2_with (simp only [HOV.out])
          go_region
          go_wp2
          go_ret
          exact ⟨_, rfl, HFIN.out.1, HFIN.out.2, Or.inl rfl⟩
        · omega
      · have hcn : cap = n := by omega
        subst hcn
        obtain ⟨G, hG⟩ : ∃ G, G = grownCap w (cap + 1) cap 191 := ⟨_, rfl⟩
        have hGe : cap + 1 ≤ G := hG ▸ grownCap_ge w _ _ _
        have hGm : G ≤ maxLen := hG ▸ grownCap_le_maxLen w _ _ _ (by unfold maxLen; omega)
        have hGm' : G ≤ 9223372036854775807 := by unfold maxLen at hGm; omega
        have hold : (Builtin.firstCells i0.size i (.slice (some ⟨b, P.length, none⟩) i cap)).run Try.prog w.drew = .ok C1.toArray w.drew := by
          rw [ek.s]
          exact run_firstCells_some w.drew 2 i _ i cap C1 hl1 (fun j u hj => by
            have hjl := (List.getElem?_eq_some_iff.1 hj).1
            rw [Addr.add_lit]
            refine blk_cell (w := w.drew) hg ?_
            rw [List.getElem?_append_right (by omega), List.getElem?_append_left (by rw [List.length_append]; omega), List.getElem?_append_left (by omega), ← hj]
            congr 1; omega)
        have hkk : (cap : Int) + 1 - (i : Int) = ((cap + 1 - i : Nat) : Int) := by omega
        obtain ⟨Z, hZ⟩ : ∃ Z : List Value, Z = (Builtin.zeroCells (Value.cells (.agg #[.int .u16 0, .int .u64 0])) (cap + 1 - i)).toList := ⟨_, rfl⟩
        obtain ⟨Y, hY⟩ : ∃ Y : List Value, Y = (Builtin.zeroCells (Value.cells (.agg #[.int .u16 0, .int .u64 0])) (G - (cap + 1))).toList := ⟨_, rfl⟩
        have hZl : Z.length = (cap + 1 - i) * 2 := by rw [hZ, Array.length_toList, size_zeroCells, ek.zs]
        have hYl : Y.length = (G - (cap + 1)) * 2 := by rw [hY, Array.length_toList, size_zeroCells, ek.zs]
        have hZ1 : ∀ u ∈ Z, u.oneCell' = true := by rw [hZ]; exact ek.z1 _
        have hrz : (Builtin.append_ #[187, 3] 187 #[.slice (some ⟨b, P.length, none⟩) i cap, .int .i64 ((cap : Int) + 1 - (i : Int))]).run Try.prog w = .ok (.slice (some ⟨w.heap.size, 0, none⟩) (cap + 1) G) (w.drew.alloc (.cells (C1 ++ (Z ++ Y)).toArray 191)) := by
          have hr := Lib.run_append_grow_zeros w 187 3 187 191 i0 _ .i64 .i64 ek.u Try.underlying3 ek.i ek.zr (some ⟨b, P.length, none⟩) i cap C1 hold (cap + 1 - i) (by omega) (by rw [ek.s]; decide) (by omega) (by omega) (by rw [ek.b]; omega) (by rw [ek.b, show i + (cap + 1 - i) = cap + 1 from by omega]; exact growslice_fits (by omega) (by omega))
          rw [show i + (cap + 1 - i) = cap + 1 from by omega, ← hG] at hr
          have e3 : C1.toArray ++ Builtin.zeroCells (Value.cells (.agg #[.int .u16 0, .int .u64 0])) (cap + 1 - i) ++ Builtin.zeroCells (Value.cells (.agg #[.int .u16 0, .int .u64 0])) (G - (cap + 1)) = (C1 ++ (Z ++ Y)).toArray := by apply Array.ext'; rw [hZ, hY]; simp
          rw [e3] at hr
          rw [hkk]
          exact hr
        obtain ⟨W1, hW1⟩ : ∃ W1, W1 = w.drew.alloc (.cells (C1 ++ (Z ++ Y)).toArray 191) := ⟨_, rfl⟩
        have k1 : W1.heap[w.heap.size]? = some (.cells (C1 ++ (Z ++ Y)).toArray 191 (0, 0)) := hW1 ▸ heap_alloc_new w.drew _
        have k2 : W1.heap[vb]? = some (.cells vs.toArray 191 (0, 0)) := hW1 ▸ blk_alloc (w := w.drew) hvb _
        have k3 : W1.heap[b]? = some (.cells (P ++ ((C1 ++ C2) ++ R)).toArray 191 (0, 0)) := hW1 ▸ blk_alloc (w := w.drew) hg _
        have hvw := lt_of_block hvb
        have hc1 := run_copyN ek W1 3 w.heap.size (i * 2) (cap + 1 - i) (G - i) ⟨vb, 0, none⟩ 1 1 _ 191 vs k1 (by rw [hvl, show Nat.min 1 (cap + 1 - i) = 1 from by simp only [Nat.min_def]; split <;> omega]) (hnews W1 k2) (by simp; omega) hv1
        have eB : (C1 ++ (Z ++ Y)).take (i * 2) ++ vs ++ (C1 ++ (Z ++ Y)).drop (i * 2 + vs.length) = (C1 ++ vs) ++ (Z.drop 2 ++ Y) := by
          rw [← hl1, List.take_left, hvl, List.drop_length_add_append, List.drop_append_of_le_length (by omega)]
        rw [eB] at hc1
        obtain ⟨W2, hW2⟩ : ∃ W2, W2 = (W1.setRow w.heap.size ((C1 ++ vs) ++ (Z.drop 2 ++ Y)).toArray) := ⟨_, rfl⟩
        have j1 : W2.drew.heap[w.heap.size]? = some (.cells ((C1 ++ vs) ++ (Z.drop 2 ++ Y)).toArray 191 (0, 0)) := hW2 ▸ setRow_heap W1 _ _ _ 191 (0, 0) k1
        have j3 : W2.drew.heap[b]? = some (.cells (P ++ ((C1 ++ C2) ++ R)).toArray 191 (0, 0)) := hW2 ▸ (setRow_other W1 _ b _ (by omega)).trans k3
        have hzl : (C1 ++ vs).length = (i + 1) * 2 := by rw [List.length_append, hl1, hvl]; omega
        have hc2 := run_copyN ek W2.drew 3 w.heap.size ((i + 1) * 2) (cap - i) (G - (i + 1)) ⟨b, P.length + i * 2, none⟩ (cap - i) (cap - i) _ 191 C2 j1 (by rw [hl2]; congr 1; simp only [Nat.min_def]; split <;> omega) (hsrc2 _ j3) (by rw [List.length_append, hzl, List.length_append, List.length_drop]; omega) h1b
        have eC : ((C1 ++ vs) ++ (Z.drop 2 ++ Y)).take ((i + 1) * 2) ++ C2 ++ ((C1 ++ vs) ++ (Z.drop 2 ++ Y)).drop ((i + 1) * 2 + C2.length) = [] ++ ((C1 ++ vs ++ C2) ++ Y) := by
          have e4 : (Z.drop 2).length = C2.length := by rw [List.length_drop]; omega
          rw [← hzl, List.take_left, List.drop_length_add_append, ← e4, List.drop_left]
          simp
        rw [eC] at hc2
        have HFIN : Hid (Rw (W2.drew.setRow w.heap.size ([] ++ ((C1 ++ vs ++ C2) ++ Y)).toArray) 191 2 (.slice (some ⟨w.heap.size, 0, none⟩) (cap + 1) G) (cap + 1) (C1 ++ vs ++ C2) ∧ w.grownBy (W2.drew.setRow w.heap.size ([] ++ ((C1 ++ vs ++ C2) ++ Y)).toArray) (some b)) := by
          refine ⟨⟨hlen, hall, .inr ⟨w.heap.size, G, [], Y, rfl, setRow_heap _ _ _ _ 191 (0, 0) j1, hGe, hGm, by omega⟩⟩, ?_⟩
          rw [hW2, hW1]
          exact grown_setRow (grown_drew (grown_setRow (grown_alloc (grown_drew (grown_refl _ _)) _) (Or.inr (Nat.le_refl _)) _)) (Or.inr (Nat.le_refl _)) _
        obtain ⟨W3, hW3⟩ : ∃ W3, W3 = W2.drew.setRow w.heap.size ([] ++ ((C1 ++ vs ++ C2) ++ Y)).toArray := ⟨_, rfl⟩
        rw [← hW1] at hrz
        rw [← hW2] at hc1
        rw [← hW3] at hc2 HFIN
        obtain ⟨o, ho⟩ : ∃ o, P.length = o := ⟨_, rfl⟩
        rw [ho] at hrz hc2 ⊢
        have hb1 : (0 : Int) ≤ (i : Int) + 1 := by omega
        have hb3 : (i : Int) ≤ (cap : Int) + 1 := by omega
        have hb5 : (i : Int) ≤ (cap : Int) := by omega
        have hg1 : ¬ (G = i) := by omega
        have hg2 : ¬ (G = i + 1) := by omega
        have hz3 : (cap : Int) < (cap : Int) + 1 := by omega
        have hi1 : i + 1 ≤ cap + 1 := by omega
        have hw3 : IntKind.i64.wrap ((cap : Int) + 1 - (i : Int)) = (cap : Int) + 1 - (i : Int) := by rw [IntKind.wrap_i64]; omega
        clear h hvb hvl hv1 hne hg hcr hl1 hl2 hcat h1c h1a h1b hall hlen hsrc2 hnews ho hbv hcm hG hold hkk hZ hY hZl hYl hZ1 k1 k2 k3 j1 j3 hzl eB eC hGm hb2 hW1 hW2 hW3
        go_enter Try.func99, Try.ntmps99
        go_wp2_with (at_builtin; refine Lib.wpList_append_run _ rfl _ _ _ _ rfl _ _ rfl rfl _ _ hrz ?_)
        go_region
        go_wp2
        go_ret
        exact ⟨_, rfl, HFIN.out.1, HFIN.out.2, Or.inr rfl⟩
end Go.Proofs.Ytbdnhllhdjepcaa
