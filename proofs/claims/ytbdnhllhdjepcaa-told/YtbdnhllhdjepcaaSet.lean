import Derived.Test.YtbdnhllhdjepcaaTurnf
namespace Go.Proofs.Ytbdnhllhdjepcaa
set_option linter.unusedVariables false
set_option linter.unusedSimpArgs false
open Go.RowKit Go.Maps

/-- the blocks of a slice -/
def own (v : Value) : List Nat := v.ownBlock.toList
theorem mem_own {v : Value} {b : Nat} : b ∈ own v ↔ v.ownBlock = some b := by unfold own; cases v.ownBlock <;> simp [eq_comm]
theorem grown_chg {w w' : World} {v : Value} (h : w.grownBy w' v.ownBlock) : Chg (own v) w w' := Chg.of_grown h (fun b hb => mem_own.2 hb)
theorem Rw.form {w : World} {e : TypeId} {sz n : Nat} {v : Value} {cs : List Value} (h : Rw w e sz v n cs) (hn : 0 < n) : ∃ b o cap, v = .slice (some ⟨b, o, none⟩) n cap := by
  rcases h.2.2 with ⟨_, h0⟩ | ⟨b, cap, P, R, hv, _⟩
  · omega
  · exact ⟨b, _, cap, hv⟩
theorem own_ty {w : World} {e t : TypeId} {sz n b : Nat} {v : Value} {cs : List Value} {x : Array Value} {fr : Nat × Nat} (h : Rw w e sz v n cs) (hb : w.heap[b]? = some (.cells x t fr)) (ht : t ≠ e) : b ∉ own v := fun hm => by
  obtain ⟨xs, hx⟩ := h.blk (mem_own.1 hm)
  rw [hb] at hx
  injection hx with hx
  injection hx with _ h2 _
  exact ht h2
theorem own_map {w : World} {e : TypeId} {sz n xb m : Nat} {v : Value} {cs : List Value} {D : DW} (h : Rw w e sz v n cs) (hm : TOwn w xb m D) : xb ∉ own v := fun hx => by
  obtain ⟨xs, hx⟩ := h.blk (mem_own.1 hx)
  exact hm.ne hx rfl

set_option maxRecDepth 100000 in
set_option maxHeartbeats 2000000 in
theorem set_any (tb xb n : Nat) (D : DW) (ov : Value) (es : List (Int × Int)) (t a : Int) (w : World) (h : TurnAt w tb xb n D ov es) (ht : (Lit.int .u16 t).wf = true) (ha : (Lit.int .u64 a).wf = true) (hlen : es.length ≤ 1000) (hn : n ≤ 1000000) :
    Calls Try.prog 73 #[.pointer (some ⟨tb, 0, none⟩), .int .u16 t, .int .u64 a] w fun e w' => e = .returned (.tuple #[]) ∧ ∃ ov' es', TurnAt w' tb xb (n + 1) (D.put (tk t) (lu a)) ov' es' ∧ Chg ([tb, xb] ++ own ov) w w' ∧ (∀ b ∈ own ov', b ∈ own ov ∨ w.heap.size ≤ b) ∧ es'.length = es.length + 1 := by
  obtain ⟨w1, hst, hm1, hturn⟩ := World.ownsMap.store h.own law45 Try.underlying186 (by unfold maxLen; omega) (key45 ht) (plainElem_int Try.underlying40 ha)
  have hch1 := Chg.ofGrown hturn.grown
  have htx := h.own.ne h.blk
  have hb1 := hch1.blk h.blk (by simpa using htx)
  have hxo := own_map h.row h.own
  have hr1 := h.row.chg hch1 (fun b hb => by simp; intro e; subst e; exact hxo (mem_own.2 hb))
  have hto := own_ty h.row h.blk (by decide)
  have hs1 := hch1.size
  have c0 : w.cell? ⟨tb, 0, none⟩ = some (.map (some xb)) := blk_cell (i := 0) h.blk rfl
  have c1 : w1.cell? ⟨tb, 1, none⟩ = some ov := blk_cell (i := 1) hb1 rfl
  have HFIN : Hid (∀ (k : Nat) (v' : Value) (w2 : World), k ≤ es.length → Rw w2 191 2 v' (es.length + 1) ((ecells es).take (k * 2) ++ [.int .u16 t, .int .u64 a] ++ (ecells es).drop (k * 2)) → (w1.alloc (.cells #[.int .u16 t, .int .u64 a] 191)).grownBy w2 ov.ownBlock → (v'.ownBlock = ov.ownBlock ∨ v'.ownBlock = some (w1.heap.size + 1)) →
      ∃ ov' es', TurnAt (w2.setCell ⟨tb, 1, none⟩ v') tb xb (n + 1) (D.put (tk t) (lu a)) ov' es' ∧ Chg ([tb, xb] ++ own ov) w (w2.setCell ⟨tb, 1, none⟩ v') ∧ (∀ b ∈ own ov', b ∈ own ov ∨ w.heap.size ≤ b) ∧ es'.length = es.length + 1) := fun k v' w2 hk hrw hgr hown => by
    have hc2 := grown_chg hgr
    have hcA : Chg (own ov) w1 w2 := ((Chg.refl _ _).alloc _).trans hc2 (fun j hj => Or.inl hj)
    have hb2 := hcA.blk hb1 hto
    have hm2 := hcA.map hm1 hxo
    have ecat : (ecells es).take (k * 2) ++ [.int .u16 t, .int .u64 a] ++ (ecells es).drop (k * 2) = ecells (es.take k ++ (t, a) :: es.drop k) := by
      unfold ecells
      rw [fm_take ecl_len, fm_drop ecl_len]
      simp [ecl]
    have hlk : (es.take k ++ (t, a) :: es.drop k).length = es.length + 1 := by simp; omega
    rw [ecat, ← hlk] at hrw
    have htv : tb ∉ own v' := own_ty hrw hb2 (by decide)
    refine ⟨v', es.take k ++ (t, a) :: es.drop k, ⟨blk_set (i := 1) v' hb2, hm2.setCell (a := ⟨tb, 1, none⟩) (Ne.symm htx) _, hrw.chg ((Chg.refl [tb] w2).set _ _ (Or.inl (by simp))) (fun b hb => by simp; intro e; subst e; exact htv (mem_own.2 hb)), ?_⟩, ?_, ?_, hlk⟩
    · intro e he
      rcases List.mem_append.1 he with he | he
      · exact h.wf e (List.mem_of_mem_take he)
      · rcases List.mem_cons.1 he with rfl | he
        · exact ⟨ht, ha⟩
        · exact h.wf e (List.mem_of_mem_drop he)
    · exact ((hch1.mono (m := [tb, xb] ++ own ov) (by simp)).trans (hcA.mono (m := [tb, xb] ++ own ov) (fun j hj => by simp [hj])) (fun j hj => Or.inl hj)).set _ _ (Or.inl (by simp))
    · intro b hb
      rcases hown with e | e
      · left; rw [mem_own] at hb ⊢; rw [← e]; exact hb
      · right; rw [mem_own, e] at hb; cases hb; omega
  have HINS : Hid (∀ k : Nat, k ≤ es.length → Calls Try.prog 99 #[ov, .int .i64 k, .slice (some ⟨w1.heap.size, 0, none⟩) 1 1] (w1.alloc (.cells #[.int .u16 t, .int .u64 a] 191)) fun e w' => ∃ v', e = .returned v' ∧ Rw w' 191 2 v' (es.length + 1) ((ecells es).take (k * 2) ++ [.int .u16 t, .int .u64 a] ++ (ecells es).drop (k * 2)) ∧ (w1.alloc (.cells #[.int .u16 t, .int .u64 a] 191)).grownBy w' ov.ownBlock ∧ (v'.ownBlock = ov.ownBlock ∨ v'.ownBlock = some (w1.heap.size + 1))) := fun k hk => by
    have := insE ov es.length k (ecells es) [.int .u16 t, .int .u64 a] w1.heap.size (w1.alloc (.cells #[.int .u16 t, .int .u64 a] 191)) (hr1.chg (l := []) ((Chg.refl _ _).alloc _) (by simp)) hk hlen (heap_alloc_new w1 _) rfl (by simp; exact ⟨rfl, rfl⟩) (fun e => by have := hr1.lt e; omega)
    simpa using this
  have hb2 : ∀ (w2 : World), (w1.alloc (.cells #[.int .u16 t, .int .u64 a] 191)).grownBy w2 ov.ownBlock → (w2.heap[tb]? = some (.cells [.map (some xb), ov].toArray 189 (0, 0))) := fun w2 hgr => (((Chg.refl _ _).alloc _).trans (grown_chg hgr) (fun j hj => Or.inl hj) : Chg (own ov) w1 w2).blk hb1 hto
  have HB2 : Hid _ := hb2
  clear hm1 hturn hch1 hb1 hxo hto htx hb2
  rcases hr1.2.2 with ⟨rfl, hes⟩ | ⟨b, cap, P, R, rfl, hg, hnc, hcm, hcr⟩
  · have hes0 : es.length = 0 := hes
    have stop : Hid (Calls Try.prog 99 #[.slice none 0 0, .int .i64 (0 : Nat), .slice (some ⟨w1.heap.size, 0, none⟩) 1 1] (w1.alloc (.cells #[.int .u16 t, .int .u64 a] 191)) fun e w' => ∃ bb oo cc, e = .returned (.slice (some ⟨bb, oo, none⟩) (es.length + 1) cc) ∧ w'.heap[tb]? = some (.cells [.map (some xb), .slice none 0 0].toArray 189 (0, 0)) ∧ ∃ ov' es', TurnAt (w'.setCell ⟨tb, 1, none⟩ (.slice (some ⟨bb, oo, none⟩) (es.length + 1) cc)) tb xb (n + 1) (D.put (tk t) (lu a)) ov' es' ∧ Chg ([tb, xb] ++ own (.slice none 0 0)) w (w'.setCell ⟨tb, 1, none⟩ (.slice (some ⟨bb, oo, none⟩) (es.length + 1) cc)) ∧ (∀ b' ∈ own ov', b' ∈ own (.slice none 0 0) ∨ w.heap.size ≤ b') ∧ es'.length = es.length + 1) :=
      (HINS.out 0 (by omega)).mono (fun e w2 ⟨v', e1, x1, x2, x3⟩ => by
        obtain ⟨bb, oo, cc, rfl⟩ := x1.form (by omega)
        exact ⟨bb, oo, cc, e1, HB2.out w2 x2, HFIN.out 0 _ w2 (by omega) x1 x2 x3⟩)
    clear h hr1 hes
    go_enter Try.func73, Try.ntmps73
    go_wp2_with fail
    go_loopw [6] (fun i wr => i = .int .i64 0 ∧ wr = w1) (fun _ _ => 0)
    case atStart => exact ⟨rfl, rfl⟩
    case round =>
      obtain ⟨rfl, rfl⟩ := hrel
      go_wp2_with fail
      refine (stop.out).mono ?_
      rintro e w2 ⟨bb, oo, cc, rfl, k2, x1⟩
      have hfr : ∀ i, w2.frozen? ⟨tb, i, none⟩ = false := fun i => blk_free k2
      have k21 : w2.cell? ⟨tb, 1, none⟩ = some (.slice none 0 0) := blk_cell (i := 1) k2 rfl
      have HX : Hid _ := x1
      clear x1 k2
      go_wp2
      go_end0
      exact ⟨rfl, by have hx := HX.out; rw [hes0] at hx; rw [hes0]; exact hx⟩
  · obtain ⟨len, hlen'⟩ : ∃ len, len = es.length := ⟨_, rfl⟩
    have HLEN : Hid (len = es.length) := hlen'
    have HG : Hid (w1.heap[b]? = some (.cells (P ++ (ecells es ++ R)).toArray 191 (0, 0))) := hg
    have hcm' : cap ≤ 9223372036854775807 := by unfold maxLen at hcm; omega
    have hlc : len ≤ cap := by omega
    obtain ⟨o, ho⟩ : ∃ o, P.length = o := ⟨_, rfl⟩
    have HO : Hid (P.length = o) := ho
    rw [ho, ← hlen'] at HB2 HINS HFIN c1
    rw [← hlen'] at hlen
    rw [ho, ← hlen']
    clear h hr1 hlen' hg hnc hcm hcr ho
    go_enter Try.func73, Try.ntmps73
    go_wp2_with fail
    go_loopw [6] (fun i wr => ∃ k : Nat, k ≤ len ∧ i = .int .i64 k ∧ wr = w1) (fun i _ => (intOf i).toNat)
    case atStart => exact ⟨len, by omega, rfl, rfl⟩
    case round =>
      obtain ⟨k, hk, rfl, rfl⟩ := hrel
      have stop : Hid (Calls Try.prog 99 #[.slice (some ⟨b, o, none⟩) len cap, .int .i64 k, .slice (some ⟨wr.heap.size, 0, none⟩) 1 1] (wr.alloc (.cells #[.int .u16 t, .int .u64 a] 191)) fun e w' => ∃ bb oo cc, e = .returned (.slice (some ⟨bb, oo, none⟩) (len + 1) cc) ∧ w'.heap[tb]? = some (.cells [.map (some xb), .slice (some ⟨b, o, none⟩) len cap].toArray 189 (0, 0)) ∧ ∃ ov' es', TurnAt (w'.setCell ⟨tb, 1, none⟩ (.slice (some ⟨bb, oo, none⟩) (len + 1) cc)) tb xb (n + 1) (D.put (tk t) (lu a)) ov' es' ∧ Chg ([tb, xb] ++ own (.slice (some ⟨b, o, none⟩) len cap)) w (w'.setCell ⟨tb, 1, none⟩ (.slice (some ⟨bb, oo, none⟩) (len + 1) cc)) ∧ (∀ b' ∈ own ov', b' ∈ own (.slice (some ⟨b, o, none⟩) len cap) ∨ w.heap.size ≤ b') ∧ es'.length = len + 1) :=
        (HINS.out k hk).mono (fun e w2 ⟨v', e1, x1, x2, x3⟩ => by
          obtain ⟨bb, oo, cc, rfl⟩ := x1.form (by omega)
          exact ⟨bb, oo, cc, e1, HB2.out w2 x2, HFIN.out k _ w2 hk x1 x2 x3⟩)
      by_cases hk0 : 0 < k
      · have hkl : k - 1 < es.length := by rw [← HLEN.out]; omega
        have hat := (ec_at es (k - 1) hkl).2
        generalize es[k - 1] = x at *
        obtain ⟨tt, aa⟩ := x
        have d1 : wr.cell? ⟨b, o + (k - 1) * 2 + 1, none⟩ = some (.int .u64 aa) := by rw [← HO.out, Nat.add_assoc]; exact Rw.cell (n := 0) (sz := 0) HG.out hat
        clear hat
        have hk1 : (0 : Int) < (k : Int) := by omega
        have hw1 : IntKind.i64.wrap ((k : Int) - 1) = (k : Int) - 1 := by rw [IntKind.wrap_i64]; omega
        have hkn : (k : Int) - 1 = ((k - 1 : Nat) : Int) := by omega
        have hk2 : (k : Int) - 1 < (len : Int) := by omega
        have hk3 : (0 : Int) ≤ (k : Int) - 1 := by omega
        have hk4 : ((k : Int) - 1).toNat = k - 1 := by omega
        by_cases haa : a < aa
        · go_wp2_with fail
          go_roundw
          case rel => exact ⟨k - 1, by omega, by go_num, by first | rfl | trivial⟩
          case measure => simp [intOf]; omega
        · go_wp2_with fail
          refine (stop.out).mono ?_
          rintro e w2 ⟨bb, oo, cc, rfl, k2, x1⟩
          have hfr : ∀ i, w2.frozen? ⟨tb, i, none⟩ = false := fun i => blk_free k2
          have k21 : w2.cell? ⟨tb, 1, none⟩ = some (.slice (some ⟨b, o, none⟩) len cap) := blk_cell (i := 1) k2 rfl
          have HX : Hid _ := x1
          clear x1 k2
          go_wp2
          go_end0
          exact ⟨rfl, HX.out⟩
      · obtain rfl : k = 0 := by omega
        go_wp2_with fail
        refine (stop.out).mono ?_
        rintro e w2 ⟨bb, oo, cc, rfl, k2, x1⟩
        have hfr : ∀ i, w2.frozen? ⟨tb, i, none⟩ = false := fun i => blk_free k2
        have k21 : w2.cell? ⟨tb, 1, none⟩ = some (.slice (some ⟨b, o, none⟩) len cap) := blk_cell (i := 1) k2 rfl
        have HX : Hid _ := x1
        clear x1 k2
        go_wp2
        go_end0
        exact ⟨rfl, HX.out⟩
end Go.Proofs.Ytbdnhllhdjepcaa
