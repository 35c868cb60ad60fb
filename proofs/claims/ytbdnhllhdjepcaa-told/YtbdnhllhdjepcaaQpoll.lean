import Derived.Test.YtbdnhllhdjepcaaDel
namespace Go.Proofs.Ytbdnhllhdjepcaa
set_option linter.unusedVariables false
set_option linter.unusedSimpArgs false
open Go.RowKit Go.Maps Go.MuLone

/-- how many items are told -/
structure Cnt (ws : List It) (most now : Int) (k : Nat) : Prop where
  le : k ≤ ws.length
  lim : (k : Int) ≤ most
  due : ∀ j (hj : j < ws.length), j < k → ws[j].d ≤ now
  stop : (k : Int) = most ∨ k = ws.length ∨ ∃ h : k < ws.length, now < ws[k].d
/-- what a poll leaves, and tells -/
structure Pol (w w' : World) (s s' : Qs) (k : Nat) (v' : Value) : Prop where
  at_ : QAt w' s'
  same : SameQ s s'
  n : s'.n = s.n
  D : s'.D = s.D
  es : s'.es = s.es
  ws : s'.ws = s.ws.drop k
  told : Rw w' 75 3 v' k (icells (s.ws.take k))
  chg : Chg s.fp w w'
  fp : ∀ b ∈ s'.fp, b ∈ s.fp ∨ w.heap.size ≤ b
  new : ∀ b ∈ own v', w.heap.size ≤ b ∧ b ∉ s'.fp
theorem sorted_drop {ws : List It} (h : Sorted ws) (k : Nat) : Sorted (ws.drop k) := List.Pairwise.sublist (List.drop_sublist k ws) h

set_option maxRecDepth 100000 in
set_option maxHeartbeats 8000000 in
theorem qpoll_any (s : Qs) (most now : Int) (w : World) (h : QAt w s) (hm0 : 0 ≤ most) (hm1 : most ≤ 1000000) (hws : s.ws.length ≤ 900) :
    Calls Try.prog 44 #[.pointer (some ⟨s.qb, 0, none⟩), .int .i64 most, .int .u64 now] w fun e w' => ∃ k s' v', Cnt s.ws most now k ∧ e = .returned v' ∧ Pol w w' s s' k v' := by
  obtain ⟨i0, ek⟩ := ek75
  obtain ⟨qb, tb, xb, n, ev, de, qu, D, ov, es, wv, ws⟩ := s
  simp only at *
  obtain ⟨hb, htr, hr, hso⟩ := h
  simp only at hb htr hr hso
  have hqt : qb ≠ tb := ne_ty hb htr.blk (by decide)
  have hqx : qb ≠ xb := htr.own.ne hb
  have hqo : qb ∉ own ov := own_ty htr.row hb (by decide)
  have hqw : qb ∉ own wv := own_ty hr hb (by decide)
  have htw : tb ∉ own wv := own_ty hr htr.blk (by decide)
  have hxw : xb ∉ own wv := own_map hr htr.own
  have how : ∀ b, b ∈ own ov → b ∉ own wv := own_own htr.row hr (by decide)
  have HFP : Hid (∀ b, b ∈ (Qs.fp ⟨qb, tb, xb, n, ev, de, qu, D, ov, es, wv, ws⟩) ↔ b = qb ∨ b = tb ∨ b = xb ∨ b ∈ own ov ∨ b ∈ own wv) := fun b => by simp [Qs.fp, or_assoc]
  have HLT : Hid (∀ b ∈ (Qs.fp ⟨qb, tb, xb, n, ev, de, qu, D, ov, es, wv, ws⟩), b < w.heap.size) := QAt.lt (s := ⟨qb, tb, xb, n, ev, de, qu, D, ov, es, wv, ws⟩) ⟨hb, htr, hr, hso⟩
  go_enter_defers Try.func44, Try.ntmps44
  go_wp2_with fail
  refine (lock_free Try.muLib ⟨qb, 0, none⟩ w (blk_cell (i := 0) hb rfl) (blk_free hb)).mono ?_
  rintro e w1 ⟨rfl, hw1⟩
  have hb1 : qblk w1 qb 1 ev de qu tb wv := hw1 ▸ blk_set (i := 0) (.int .i32 1) hb
  have hc1 : Chg [qb] w w1 := hw1 ▸ (Chg.refl [qb] w).set _ _ (Or.inl (by simp))
  have ht1 : TurnAt w1 tb xb n D ov es := htr.chg hc1 (by simp; exact Ne.symm hqt) (by simp; exact Ne.symm hqx) (fun b hb' => by simp; rintro rfl; exact hqo (mem_own.2 hb'))
  have hr1 : Rw w1 75 3 wv ws.length (icells ws) := hr.chg hc1 (fun b hb' => by simp; rintro rfl; exact hqw (mem_own.2 hb'))
  have hs1 := hc1.size
  /- nothing is told -/
  have HNIL : Hid (Pol w (w1.setCell ⟨qb, 0, none⟩ (.int .i32 0)) ⟨qb, tb, xb, n, ev, de, qu, D, ov, es, wv, ws⟩ ⟨qb, tb, xb, n, ev, de, qu, D, ov, es, wv, ws⟩ 0 (.slice none 0 0)) := by
    have hcs : Chg [qb] w1 (w1.setCell ⟨qb, 0, none⟩ (.int .i32 0)) := (Chg.refl [qb] w1).set _ _ (Or.inl (by simp))
    refine ⟨⟨blk_set (i := 0) (.int .i32 0) hb1, ht1.chg hcs (by simp; exact Ne.symm hqt) (by simp; exact Ne.symm hqx) (fun b hb' => by simp; rintro rfl; exact hqo (mem_own.2 hb')), hr1.chg hcs (fun b hb' => by simp; rintro rfl; exact hqw (mem_own.2 hb')), hso⟩, ⟨rfl, rfl, rfl, rfl, rfl, rfl⟩, rfl, rfl, rfl, rfl, ⟨rfl, by simp [icells], .inl ⟨rfl, rfl⟩⟩, ?_, fun b hb' => Or.inl hb', fun b hb' => by simp [own, Value.ownBlock] at hb'⟩
    exact (hc1.mono (fun j hj => by simp at hj; subst hj; exact (HFP.out _).2 (Or.inl rfl))).trans hcs (fun j hj => by simp at hj; subst hj; exact Or.inl ((HFP.out _).2 (Or.inl rfl)))
  have HB1 : Hid (qblk w1 qb 1 ev de qu tb wv) := hb1
  rcases hr1.2.2 with ⟨hv, hw0⟩ | ⟨b, cap, P, R, hv, hg, hnc, hcm, hcr⟩
  · have k6 : w1.cell? ⟨qb, 6, none⟩ = some (.slice none 0 0) := blk_cell (i := 6) hb1 (by rw [hv]; rfl)
    have HCN : Hid (Cnt ws most now 0) := ⟨by omega, hm0, fun j hj h => by omega, Or.inr (Or.inl hw0.symm)⟩
    clear hw1 hb htr hr hb1 ht1 hr1 hw0 hv
    go_wp2_with fail
    go_loopw [7] (fun i wr => i = .int .i64 0 ∧ wr = w1) (fun _ _ => 0)
    case atStart => exact ⟨rfl, rfl⟩
    case round =>
      obtain ⟨rfl, rfl⟩ := hrel
      rcases (by omega : most = 0 ∨ 0 < most) with hmm | hmm
      all_goals
        (try subst hmm)
        go_wp2_with fail
        refine leaves_cons (f := 61) (args := #[.pointer (some ⟨qb, 0, none⟩)]) (by simp) (by simp [go_sem]) ?_
        refine (unlock_deferred Try.muLib ⟨qb, 0, none⟩ .returning _ (blk_cell (i := 0) HB1.out rfl) (blk_free HB1.out)).mono ?_
        rintro e u' w'' ⟨rfl, rfl, rfl⟩
        first | exact ⟨_, results_tmp rfl _ _ _, 0, _, _, HCN.out, rfl, HNIL.out⟩ | exact ⟨_, results_tmp rfl _ _ _, 0, HCN.out, _, _, rfl, HNIL.out⟩
  · obtain ⟨len, hlen'⟩ : ∃ len, len = ws.length := ⟨_, rfl⟩
    have HLEN : Hid (len = ws.length) := hlen'
    have hbq : b ≠ qb := ne_ty hg hb1 (by decide)
    have hbl := lt_of_block hg
    have hcm' : cap ≤ 9223372036854775807 := by unfold maxLen at hcm; omega
    have hlc : len ≤ cap := by omega
    obtain ⟨o, ho⟩ : ∃ o, P.length = o := ⟨_, rfl⟩
    have HO : Hid (P.length = o) := ho
    have hv' : wv = .slice (some ⟨b, o, none⟩) len cap := by rw [hv, ho, hlen']
    have hown : own wv = [b] := by rw [hv']; rfl
    have HG : Hid (w1.heap[b]? = some (.cells (P ++ (icells ws ++ R)).toArray 75 (0, 0))) := hg
    /- the walk behind the count -/
    have HREST : Hid (∀ k : Nat, 0 < k → k ≤ len → ∃ W2 W3 : World, (Instr.makeSlice 65 (.int .i64 k) (.int .i64 k)).run Try.prog w1 = .ok (.slice (some ⟨w1.heap.size, 0, none⟩) k k) W2 ∧ W2.cell? ⟨qb, 6, none⟩ = some (.slice (some ⟨b, o, none⟩) len cap) ∧
        (Builtin.copy_ #[65, 65] 3 #[.slice (some ⟨w1.heap.size, 0, none⟩) k k, .slice (some ⟨b, o, none⟩) len cap]).run Try.prog W2 = .ok (goInt (Nat.min len k)) W3 ∧ W3.cell? ⟨qb, 6, none⟩ = some (.slice (some ⟨b, o, none⟩) len cap) ∧
        Calls Try.prog 74 #[.slice (some ⟨b, o, none⟩) len cap, .int .i64 0, .int .i64 k] W3 fun e w4 => e = .returned (.slice (some ⟨b, o, none⟩) (len - k) cap) ∧ qblk w4 qb 1 ev de qu tb (.slice (some ⟨b, o, none⟩) len cap) ∧
          ∃ s' v', v' = .slice (some ⟨w1.heap.size, 0, none⟩) k k ∧ Pol w ((w4.setCell ⟨qb, 6, none⟩ (.slice (some ⟨b, o, none⟩) (len - k) cap)).setCell ⟨qb, 0, none⟩ (.int .i32 0)) ⟨qb, tb, xb, n, ev, de, qu, D, ov, es, wv, ws⟩ s' k v') := fun k hk0 hk => by
      have hmk := run_make w1 65 75 i0 _ ek.u ek.i ek.zr .i64 .i64 (k : Int) (k : Int) (by omega) (by omega) (by rw [ek.b]; omega) (by omega)
      obtain ⟨Z, hZ⟩ : ∃ Z : List Value, Z = (madeCells (Value.cells (.agg #[.int .u16 0, .int .u32 0, .int .u64 0])) ((k : Int).toNat * i0.size)).toList := ⟨_, rfl⟩
      have hZl : Z.length = k * 3 := by rw [hZ, Array.length_toList, size_madeCells, ek.s]; simp
      obtain ⟨W2, hW2⟩ : ∃ W2, W2 = w1.alloc (.cells Z.toArray 75) := ⟨_, rfl⟩
      have e0 : (madeCells (Value.cells (.agg #[.int .u16 0, .int .u32 0, .int .u64 0])) ((k : Int).toNat * i0.size)) = Z.toArray := by rw [hZ]
      rw [e0, ← hW2] at hmk
      have c2 : Chg [] w1 W2 := hW2 ▸ (Chg.refl _ _).alloc _
      have g2 : W2.heap[w1.heap.size]? = some (.cells Z.toArray 75 (0, 0)) := hW2 ▸ heap_alloc_new w1 _
      have gb2 := c2.blk hg (by simp)
      have hk3 : k * 3 ≤ len * 3 := Nat.mul_le_mul_right _ hk
      have htl : ((icells ws).take (k * 3)).length = k * 3 := by rw [List.length_take, hr1.1]; omega
      have hcp := run_copyN ek W2 3 w1.heap.size 0 k k ⟨b, o, none⟩ len cap Z 75 ((icells ws).take (k * 3)) g2 (by rw [htl, show Nat.min len k = k from by simp only [Nat.min_def]; split <;> omega]) (fun j u hj => by
        rw [List.getElem?_take] at hj
        split at hj
        · rw [Addr.add_lit, ← ho]; exact Rw.cell (n := 0) (sz := 0) gb2 hj
        · cases hj) (by rw [htl]; omega) (fun u hu => hr1.2.1 u (List.mem_of_mem_take hu))
      obtain ⟨A3, hA3⟩ : ∃ A3, A3 = Z.take 0 ++ (icells ws).take (k * 3) ++ Z.drop (0 + ((icells ws).take (k * 3)).length) := ⟨_, rfl⟩
      rw [← hA3] at hcp
      obtain ⟨W3, hW3⟩ : ∃ W3, W3 = W2.setRow w1.heap.size A3.toArray := ⟨_, rfl⟩
      rw [← hW3] at hcp
      have g3 : W3.heap[w1.heap.size]? = some (.cells A3.toArray 75 (0, 0)) := hW3 ▸ setRow_heap W2 _ _ _ 75 (0, 0) g2
      have c3 : Chg [] w1 W3 := by
        have : w1.grownBy W3 none := hW3 ▸ hW2 ▸ grown_setRow (grown_alloc (grown_refl _ _) _) (Or.inr (Nat.le_refl _)) _
        exact Chg.ofGrown0 this
      have s3 := c3.size
      have s3' := lt_of_block g3
      refine ⟨W2, W3, by simpa using hmk, blk_cell (i := 6) (c2.blk hb1 (by simp)) (by rw [hv']; rfl), hcp, blk_cell (i := 6) (c3.blk hb1 (by simp)) (by rw [hv']; rfl), ?_⟩
      have hd := delI b cap len k P R (icells ws) W3 (by rw [hr1.1, hlen']) hr1.2.1 (c3.blk hg (by simp)) hlc hcm (by omega) hk hk0 (by omega)
      rw [ho] at hd
      refine hd.mono ?_
      rintro e w4 ⟨rfl, hrw, hgr⟩
      have hb4 : qblk w4 qb 1 ev de qu tb (.slice (some ⟨b, o, none⟩) len cap) := by
        have := (Chg.ofGrown hgr).blk (c3.blk hb1 (by simp)) (by simp; exact Ne.symm hbq)
        rw [hv'] at this
        exact this
      refine ⟨rfl, hb4, ⟨qb, tb, xb, n, ev, de, qu, D, ov, es, .slice (some ⟨b, o, none⟩) (len - k) cap, ws.drop k⟩, _, rfl, ?_⟩
      have c4 : Chg [b] w1 w4 := (c3.mono (by simp)).trans (Chg.ofGrown hgr) (fun j hj => Or.inl hj)
      have s4 := (Chg.ofGrown hgr).size
      have cE : Chg [qb] w4 ((w4.setCell ⟨qb, 6, none⟩ (.slice (some ⟨b, o, none⟩) (len - k) cap)).setCell ⟨qb, 0, none⟩ (.int .i32 0)) := ((Chg.refl [qb] w4).set _ _ (Or.inl (by simp))).set _ _ (Or.inl (by simp))
      have e5 : own (.slice (some ⟨b, o, none⟩) (len - k) cap) = own wv := by rw [hown]; rfl
      have hbt : b ≠ tb := ne_ty hg ht1.blk (by decide)
      have hbx : b ≠ xb := ht1.own.ne hg
      have hbo : b ∉ own ov := own_ty ht1.row hg (by decide)
      have hld : (ws.drop k).length = len - k := by rw [List.length_drop, ← hlen']
      have cW : Chg [b, qb] w1 _ := (c4.mono (m := [b, qb]) (by simp)).trans cE (by simp)
      have e3 : A3 = [] ++ (icells (ws.take k) ++ Z.drop (0 + ((icells ws).take (k * 3)).length)) := by rw [hA3, show (icells ws).take (k * 3) = icells (ws.take k) from fm_take icl_len ws k]; simp
      have hg4 : w4.heap[w1.heap.size]? = some (.cells ([] ++ (icells (ws.take k) ++ Z.drop (0 + ((icells ws).take (k * 3)).length))).toArray 75 (0, 0)) := by
        rw [← e3]; exact (Chg.ofGrown hgr).blk g3 (by simp; omega)
      refine ⟨⟨?_, ht1.chg cW (by simp; exact ⟨Ne.symm hbt, Ne.symm hqt⟩) (by simp; exact ⟨Ne.symm hbx, Ne.symm hqx⟩) (fun x hx => ?_), ?_, sorted_drop hso k⟩, ⟨rfl, rfl, rfl, rfl, rfl, rfl⟩, rfl, rfl, rfl, rfl, ?_, ?_, ?_, ?_⟩
      · exact blk_set (i := 0) (.int .i32 0) (blk_set (i := 6) (.slice (some ⟨b, o, none⟩) (len - k) cap) hb4)
      · have hx' := mem_own.2 hx
        simp only [List.mem_cons, List.not_mem_nil, or_false]
        rintro (rfl | rfl)
        · exact hbo hx'
        · exact hqo hx'
      · show Rw _ 75 3 (.slice (some ⟨b, o, none⟩) (len - k) cap) (ws.drop k).length (icells (ws.drop k))
        rw [hld, show icells (ws.drop k) = (icells ws).drop (k * 3) from (fm_drop icl_len ws k).symm]
        exact hrw.chg cE (fun x hx => by cases hx; simpa using hbq)
      · refine Rw.chg (l := [qb]) (w := w4) ⟨by rw [show icells (ws.take k) = (icells ws).take (k * 3) from (fm_take icl_len ws k).symm]; exact htl, fun u hu => hr1.2.1 u ?_, .inr ⟨w1.heap.size, k, [], _, rfl, hg4, Nat.le_refl _, by unfold maxLen; omega, by omega⟩⟩ cE (fun x hx => by cases hx; have := lt_of_block hb1; simp; omega)
        have : icells (ws.take k) = (icells ws).take (k * 3) := (fm_take icl_len ws k).symm
        rw [this] at hu
        exact List.mem_of_mem_take hu
      · refine (hc1.mono (fun j hj => by simp at hj; subst hj; simp [Qs.fp])).trans cW (fun j hj => ?_)
        simp only [List.mem_cons, List.not_mem_nil, or_false] at hj
        rcases hj with rfl | rfl
        · exact Or.inl (by simp [Qs.fp, hown])
        · exact Or.inl (by simp [Qs.fp])
      · intro x hx
        refine Or.inl ?_
        simp only [Qs.fp, e5] at hx ⊢
        exact hx
      · intro x hx
        have : x = w1.heap.size := by simpa [own, Value.ownBlock] using hx
        subst this
        refine ⟨hs1, fun hm => ?_⟩
        have hm' : w1.heap.size ∈ Qs.fp ⟨qb, tb, xb, n, ev, de, qu, D, ov, es, wv, ws⟩ := by simp only [Qs.fp, e5] at hm ⊢; exact hm
        have := HLT.out _ hm'
        omega
    have HAT : Hid (∀ k (hk : k < ws.length), w1.cell? ⟨b, o + k * 3 + 2, none⟩ = some (.int .u64 ws[k].d)) := fun k hk => by
      rw [← ho, Nat.add_assoc]; exact Rw.cell (n := 0) (sz := 0) hg (ic_at ws k hk).2.2
    have k6 : w1.cell? ⟨qb, 6, none⟩ = some (.slice (some ⟨b, o, none⟩) len cap) := blk_cell (i := 6) HB1.out (by rw [hv']; rfl)
    rw [← hlen'] at hws
    clear hw1 hb htr hr hb1 ht1 hr1 hg hnc hcm hcr ho hlen' HFP HLT hv hv' hown
    go_wp2_with fail
    go_loopw [7] (fun i wr => ∃ k : Nat, k ≤ len ∧ (k : Int) ≤ most ∧ i = .int .i64 k ∧ wr = w1 ∧ ∀ j (hj : j < ws.length), j < k → ws[j].d ≤ now) (fun i _ => len - (intOf i).toNat)
    case atStart => exact ⟨0, by omega, hm0, rfl, rfl, fun j hj h => by omega⟩
    case round =>
      obtain ⟨k, hk, hkm, rfl, rfl, hdue⟩ := hrel
      have HDUE : Hid (∀ j (hj : j < ws.length), j < k → ws[j].d ≤ now) := hdue
      clear hdue
      by_cases hgo : (k : Int) < most ∧ ∃ hkl : k < ws.length, ws[k].d ≤ now
      · obtain ⟨hkm', hkl, hd⟩ := hgo
        have hat := HAT.out k hkl
        obtain ⟨dd, hdd⟩ : ∃ dd, dd = ws[k].d := ⟨_, rfl⟩
        have HDD : Hid (dd = ws[k].d) := hdd
        rw [← hdd] at hat hd
        clear hdd
        have hkl' : k < len := by rw [HLEN.out]; exact hkl
        have hkl2 : (k : Int) < (len : Int) := by omega
        go_wp2_with fail
        go_roundw
        case rel => exact ⟨k + 1, by omega, by omega, by go_num, by first | rfl | trivial, fun j hj hjk => by
          by_cases e : j = k
          · subst e; rw [← HDD.out]; exact hd
          · exact HDUE.out j hj (by omega)⟩
        case measure => simp [intOf]; omega
      · have HCN : Hid (Cnt ws most now k) := ⟨by rw [← HLEN.out]; exact hk, hkm, HDUE.out, by
          by_cases h1 : (k : Int) = most
          · exact Or.inl h1
          · right
            by_cases h2 : k = ws.length
            · exact Or.inl h2
            · right
              have hkl : k < ws.length := by have := HLEN.out; omega
              refine ⟨hkl, ?_⟩
              by_cases h3 : ws[k].d ≤ now
              · exact absurd ⟨by omega, hkl, h3⟩ hgo
              · omega⟩
        have hways : (¬ (k : Int) < most) ∨ ((k : Int) < most ∧ ¬ (k : Int) < (len : Int)) ∨ ((k : Int) < most ∧ (k : Int) < (len : Int) ∧ ∃ dd, now < dd ∧ wr.cell? ⟨b, o + k * 3 + 2, none⟩ = some (.int .u64 dd)) := by
          by_cases h1 : (k : Int) < most
          · right
            by_cases h2 : (k : Int) < (len : Int)
            · right
              have hkl : k < ws.length := by have := HLEN.out; omega
              refine ⟨h1, h2, ws[k].d, ?_, HAT.out k hkl⟩
              by_cases h3 : ws[k].d ≤ now
              · exact absurd ⟨h1, hkl, h3⟩ hgo
              · omega
            · exact Or.inl ⟨h1, h2⟩
          · exact Or.inl h1
        clear hgo
        by_cases hk0 : k = 0
        · subst hk0
          rcases hways with hx | ⟨hx1, hx2⟩ | ⟨hx1, hx2, dd, hx3, hx4⟩
          all_goals
            go_wp2_with fail
            refine leaves_cons (f := 61) (args := #[.pointer (some ⟨qb, 0, none⟩)]) (by simp) (by simp [go_sem]) ?_
            refine (unlock_deferred Try.muLib ⟨qb, 0, none⟩ .returning _ (blk_cell (i := 0) HB1.out rfl) (blk_free HB1.out)).mono ?_
            rintro e u' w'' ⟨rfl, rfl, rfl⟩
            first | exact ⟨_, results_tmp rfl _ _ _, 0, _, _, HCN.out, rfl, HNIL.out⟩ | exact ⟨_, results_tmp rfl _ _ _, 0, HCN.out, _, _, rfl, HNIL.out⟩
        · obtain ⟨W2, W3, hmk, hc62, hcp, hc63, hdel⟩ := HREST.out k (by omega) hk
          have HDEL : Hid (Calls Try.prog 74 #[.slice (some ⟨b, o, none⟩) len cap, .int .i64 0, .int .i64 k] W3 _) := hdel
          clear hdel
          have hkz : ¬ ((k : Int) = 0) := by omega
          rcases hways with hx | ⟨hx1, hx2⟩ | ⟨hx1, hx2, dd, hx3, hx4⟩
          all_goals
            go_wp2_with fail
            refine (HDEL.out).mono ?_
            rintro e w4 ⟨rfl, hb4, s', v', hv', hpol⟩
            have HPOL : Hid _ := hpol
            have hfr4 : ∀ i, w4.frozen? ⟨qb, i, none⟩ = false := fun i => blk_free hb4
            have k64 := blk_cell (i := 6) hb4 rfl
            have HB4 : Hid (qblk w4 qb 1 ev de qu tb (.slice (some ⟨b, o, none⟩) len cap)) := hb4
            clear hpol hb4
            go_wp2_with fail
            have hb5 := blk_set (i := 6) (.slice (some ⟨b, o, none⟩) (len - k) cap) HB4.out
            refine leaves_cons (f := 61) (args := #[.pointer (some ⟨qb, 0, none⟩)]) (by simp) (by simp [go_sem]) ?_
            refine (unlock_deferred Try.muLib ⟨qb, 0, none⟩ .returning _ (blk_cell (i := 0) hb5 rfl) (blk_free hb5)).mono ?_
            rintro e u' w'' ⟨rfl, rfl, rfl⟩
            first | exact ⟨_, results_tmp rfl _ _ _, k, s', v', HCN.out, by rw [hv']; rfl, HPOL.out⟩ | exact ⟨_, results_tmp rfl _ _ _, k, HCN.out, s', v', by rw [hv']; rfl, HPOL.out⟩
end Go.Proofs.Ytbdnhllhdjepcaa
