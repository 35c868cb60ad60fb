import Derived.Test.YtbdnhllhdjepcaaGreatCTurn
import Derived.Deep.RegionWith
namespace Go.Proofs.YtbdnhllhdjepcaaGreat
set_option linter.unusedVariables false
set_option linter.unusedSimpArgs false
open Go.RowKit Go.Maps

theorem ec_at (es : List (Int × Int)) (j : Nat) (hj : j < es.length) : (ecells es)[j * 2]? = some (.int .u16 es[j].1) ∧ (ecells es)[j * 2 + 1]? = some (.int .u64 es[j].2) :=
  ⟨fm_at ecl_len es j hj 0 (by decide), fm_at ecl_len es j hj 1 (by decide)⟩
/-- a row, cut at its head -/
theorem Rw.cut {w : World} {e : TypeId} {sz n cap b : Nat} {cs P R : List Value} {k : Nat} (h : Rw w e sz (.slice (some ⟨b, P.length, none⟩) n cap) n cs) (hg : w.heap[b]? = some (.cells (P ++ (cs ++ R)).toArray e (0, 0))) (hnc : n ≤ cap) (hcm : cap ≤ maxLen) (hcr : cap * sz ≤ n * sz + R.length) (hk : k ≤ n) :
    (cap ≠ k → Rw w e sz (.slice (some ⟨b, P.length + k * sz, none⟩) (n - k) (cap - k)) (n - k) (cs.drop (k * sz))) ∧ (cap = k → Rw w e sz (.slice (some ⟨b, P.length, none⟩) (n - k) (cap - k)) (n - k) (cs.drop (k * sz))) := by
  obtain ⟨hl1, hl2⟩ := cut_len h.1 hk
  have h1 : ∀ u ∈ cs.drop (k * sz), u.oneCell' = true := fun u hu => h.2.1 u (List.mem_of_mem_drop hu)
  have hks : k * sz ≤ n * sz := Nat.mul_le_mul_right _ hk
  have hnc' : n * sz ≤ cap * sz := Nat.mul_le_mul_right _ hnc
  refine ⟨fun hck => ⟨hl2, h1, .inr ⟨b, cap - k, P ++ cs.take (k * sz), R, by rw [List.length_append, hl1], ?_, by omega, by omega, ?_⟩⟩, fun hck => ⟨hl2, h1, .inr ⟨b, cap - k, P, cs ++ R, rfl, ?_, by omega, by omega, ?_⟩⟩⟩
  · have e1 : (P ++ cs.take (k * sz)) ++ (cs.drop (k * sz) ++ R) = P ++ (cs ++ R) := by
      rw [List.append_assoc, ← List.append_assoc (cs.take (k * sz)), List.take_append_drop]
    rw [e1]; exact hg
  · rw [Nat.sub_mul, Nat.sub_mul]; omega
  · have e1 : cs.drop (k * sz) = [] := List.drop_of_length_le (by rw [h.1]; exact Nat.mul_le_mul_right _ (by omega))
    rw [e1]; exact hg
  · rw [show cap - k = 0 from by omega, Nat.zero_mul]; exact Nat.zero_le _
theorem ne_ty {w : World} {b b' : Nat} {x y : Array Value} {t t' : TypeId} {fr fr' : Nat × Nat} (h : w.heap[b]? = some (.cells x t fr)) (h' : w.heap[b']? = some (.cells y t' fr')) (ht : t ≠ t') : b ≠ b' := fun e => by
  subst e
  rw [h] at h'
  injection h' with h'
  injection h' with _ h2 _
  exact ht h2

set_option maxRecDepth 100000 in
set_option maxHeartbeats 2000000 in
theorem tforget_any (tb xb n : Nat) (D : DW) (ov : Value) (es : List (Int × Int)) (now : Int) (w : World) (h : TurnAt w tb xb n D ov es) (h0 : 0 ≤ now) (hlen : es.length ≤ 1000000000000) :
    Calls Tryz.prog 132 #[.pointer (some ⟨tb, 0, none⟩), .int .u64 now] w fun e w' => e = .returned (.tuple #[]) ∧ ∃ D' ov' es', TurnAt w' tb xb n D' ov' es' ∧ Chg [tb, xb] w w' ∧ ov'.ownBlock = ov.ownBlock ∧ es'.length ≤ es.length ∧ Keeps now D D' := by
  have HT : Hid (TurnAt w tb xb n D ov es) := h
  have htx := h.own.ne h.blk
  rcases h.row.2.2 with ⟨rfl, hes⟩ | ⟨b, cap, P, R, rfl, hg, hnc, hcm, hcr⟩
  · have hb := h.blk
    have c1 : w.cell? ⟨tb, 1, none⟩ = some (.slice none 0 0) := blk_cell (i := 1) hb rfl
    have hfr : ∀ i, w.frozen? ⟨tb, i, none⟩ = false := fun i => blk_free hb
    have HF : Hid (TurnAt (w.setCell ⟨tb, 1, none⟩ (.slice none 0 0)) tb xb n D (.slice none 0 0) es) :=
      ⟨blk_set (i := 1) (.slice none 0 0) hb, h.own.setCell (a := ⟨tb, 1, none⟩) (Ne.symm htx) _, ⟨h.row.1, h.row.2.1, .inl ⟨rfl, hes⟩⟩, h.wf⟩
    clear h hes hb htx
    go_enter Tryz.func132, Tryz.ntmps132
    go_wp2_with fail
    go_loopw [4] (fun i wr => i = .int .i64 0 ∧ wr = w) (fun _ _ => 0)
    case atStart => exact ⟨rfl, rfl⟩
    case round =>
      obtain ⟨rfl, rfl⟩ := hrel
      go_wp2
      go_end0
      exact ⟨rfl, D, _, es, HF.out, (Chg.refl _ _).set _ _ (Or.inl (by simp)), rfl, Nat.le_refl _, Keeps.refl _ _⟩
  · have hbx := h.own.ne hg
    have hbt : b ≠ tb := ne_ty hg h.blk (by decide)
    obtain ⟨len, hlen'⟩ : ∃ len, len = es.length := ⟨_, rfl⟩
    have HLEN : Hid (len = es.length) := hlen'
    have HG : Hid (w.heap[b]? = some (.cells (P ++ (ecells es ++ R)).toArray 245 (0, 0))) := hg
    have HB : Hid (w.heap[tb]? = some (.cells [.map (some xb), .slice (some ⟨b, P.length, none⟩) len cap].toArray 232 (0, 0))) := by rw [hlen']; exact h.blk
    have HCUT : Hid (∀ (W : World) (k : Nat), W.heap[b]? = some (.cells (P ++ (ecells es ++ R)).toArray 245 (0, 0)) → k ≤ len → (cap ≠ k → Rw W 245 2 (.slice (some ⟨b, P.length + k * 2, none⟩) (len - k) (cap - k)) (len - k) (ecells (es.drop k))) ∧ (cap = k → Rw W 245 2 (.slice (some ⟨b, P.length, none⟩) (len - k) (cap - k)) (len - k) (ecells (es.drop k)))) := fun W k hW hk => by
      have := Rw.cut (w := W) (k := k) (n := es.length) (cap := cap) ⟨h.row.1, h.row.2.1, .inr ⟨b, cap, P, R, rfl, hW, hnc, hcm, hcr⟩⟩ hW hnc hcm hcr (by omega)
      rw [show (ecells es).drop (k * 2) = ecells (es.drop k) from fm_drop ecl_len es k, ← hlen'] at this
      exact this
    have HOW : Hid (TOwn w xb n D) := h.own
    have HWF : Hid (EWf es) := h.wf
    have hcm' : cap ≤ 9223372036854775807 := by unfold maxLen at hcm; omega
    have hlc : len ≤ cap := by omega
    obtain ⟨o, ho⟩ : ∃ o, P.length = o := ⟨_, rfl⟩
    have HO : Hid (P.length = o) := ho
    rw [ho] at HB HCUT
    rw [← hlen'] at hlen ⊢
    rw [ho]
    clear h hlen' hg hnc hcm hcr ho HT
    go_enter Tryz.func132, Tryz.ntmps132
    go_wp2_with fail
    go_loopw [4] (fun i wr => ∃ (k : Nat) (D' : DW), k ≤ len ∧ i = .int .i64 k ∧ TOwn wr xb n D' ∧ Chg [xb] w wr ∧ Keeps now D D') (fun i _ => len - (intOf i).toNat)
    case atStart => exact ⟨0, D, by omega, rfl, HOW.out, Chg.refl _ _, Keeps.refl _ _⟩
    case round =>
      obtain ⟨k, D', hk, rfl, hown, hch, hkp⟩ := hrel
      have HKP : Hid (Keeps now D D') := hkp
      have HOWN : Hid (TOwn wr xb n D') := hown
      clear hkp hown
      have hb := hch.blk HB.out (by simpa using htx)
      have hgr := hch.blk HG.out (by simpa using hbx)
      have c1 : wr.cell? ⟨tb, 1, none⟩ = some (.slice (some ⟨b, o, none⟩) len cap) := blk_cell (i := 1) hb rfl
      have hfr : ∀ i, wr.frozen? ⟨tb, i, none⟩ = false := fun i => blk_free hb
      have HBR : Hid (wr.heap[tb]? = some (.cells [.map (some xb), .slice (some ⟨b, o, none⟩) len cap].toArray 232 (0, 0))) := hb
      have HGR : Hid (wr.heap[b]? = some (.cells (P ++ (ecells es ++ R)).toArray 245 (0, 0))) := hgr
      clear hb hgr
      have hk0 : (0 : Int) ≤ (k : Int) := by omega
      have hkc : (k : Int) ≤ (len : Int) := by omega
      have fin : ∀ v', (cap ≠ k → v' = .slice (some ⟨b, o + k * 2, none⟩) (len - k) (cap - k)) → (cap = k → v' = .slice (some ⟨b, o, none⟩) (len - k) (cap - k)) → ∃ D' ov' es', TurnAt (wr.setCell ⟨tb, 1, none⟩ v') tb xb n D' ov' es' ∧ Chg [tb, xb] w (wr.setCell ⟨tb, 1, none⟩ v') ∧ ov'.ownBlock = some b ∧ es'.length ≤ len ∧ Keeps now D D' := fun v' hv1 hv2 => by
        have hc' := HCUT.out (wr.setCell ⟨tb, 1, none⟩ v') k (blk_set_far (k := tb) (i := 1) (u := v') HGR.out hbt) hk
        have hl : (es.drop k).length = len - k := by rw [List.length_drop, HLEN.out]
        refine ⟨D', v', es.drop k, ⟨blk_set (i := 1) v' HBR.out, HOWN.out.setCell (a := ⟨tb, 1, none⟩) (Ne.symm htx) _, ?_, fun e he => HWF.out e (List.mem_of_mem_drop he)⟩, (hch.mono (by simp)).set _ _ (Or.inl (by simp)), ?_, by omega, HKP.out⟩
        · rw [hl]
          by_cases hck : cap = k
          · rw [hv2 hck]; rw [hv2 hck] at hc'; exact hc'.2 hck
          · rw [hv1 hck]; rw [hv1 hck] at hc'; exact hc'.1 hck
        · by_cases hck : cap = k
          · rw [hv2 hck]; rfl
          · rw [hv1 hck]; rfl
      have FIN : Hid _ := fin
      clear fin
      by_cases hlt : k < len
      · have hkl : k < es.length := by rw [← HLEN.out]; exact hlt
        have hat := ec_at es k hkl
        have hw := HWF.out _ (List.getElem_mem hkl)
        generalize es[k] = x at *
        obtain ⟨t, a⟩ := x
        have d0 : wr.cell? ⟨b, o + k * 2, none⟩ = some (.int .u16 t) := by rw [← HO.out]; exact Rw.cell (n := 0) (sz := 0) HGR.out hat.1
        have d1 : wr.cell? ⟨b, o + k * 2 + 1, none⟩ = some (.int .u64 a) := by rw [← HO.out, Nat.add_assoc]; exact Rw.cell (n := 0) (sz := 0) HGR.out hat.2
        have HW : Hid ((Lit.int .u16 t).wf = true) := hw.1
        clear hat hw
        have hck : ¬ cap = k := by omega
        have hkk : (k : Int) < (len : Int) := by omega
        by_cases han : a ≤ now
        · go_wp2_with fail
          refine (drop_any tb xb n D' _ t a wr HBR.out HOWN.out HW.out).mono ?_
          rintro e w1 ⟨rfl, D1, hown1, hch1, hor⟩
          go_wp2_with fail
          go_roundw
          case rel =>
            refine ⟨k + 1, D1, by omega, by go_num, hown1, hch.trans hch1 (by simp), ?_⟩
            rcases hor with rfl | ⟨rfl, hm⟩
            · exact HKP.out
            · exact HKP.out.trans (keeps_del hm han h0)
          case measure => simp [intOf]; omega
        · go_wp2
          go_end0
          obtain ⟨D2, ov2, es2, z1, z2, z3, z4, z5⟩ := FIN.out _ (fun _ => rfl) (fun h => absurd h hck)
          exact ⟨rfl, D2, ov2, es2, z1, z2, z3, z4, z5⟩
      · obtain rfl : k = len := by omega
        by_cases hck : cap = k
        · subst hck
          go_wp2
          go_end0
          obtain ⟨D2, ov2, es2, z1, z2, z3, z4, z5⟩ := FIN.out _ (fun h => absurd rfl h) (fun _ => rfl)
          exact ⟨rfl, D2, ov2, es2, by simpa using z1, by simpa using z2, z3, z4, z5⟩
        · go_wp2
          go_end0
          obtain ⟨D2, ov2, es2, z1, z2, z3, z4, z5⟩ := FIN.out _ (fun _ => rfl) (fun h => absurd h hck)
          exact ⟨rfl, D2, ov2, es2, by simpa using z1, by simpa using z2, z3, z4, z5⟩
end Go.Proofs.YtbdnhllhdjepcaaGreat
namespace Go.Proofs.YtbdnhllhdjepcaaGreat
set_option linter.unusedVariables false
set_option linter.unusedSimpArgs false
open Go.RowKit Go.Maps

/-- the blocks of a slice -/
def own (v : Value) : List Nat := v.ownBlock.toList
theorem mem_own {v : Value} {b : Nat} : b ∈ own v ↔ v.ownBlock = some b := by unfold own; cases v.ownBlock <;> simp [eq_comm]
theorem grown_chg {w w' : World} {v : Value} (h : w.grownBy w' v.ownBlock) : Chg (own v) w w' := Chg.of_grown h (fun b hb => mem_own.2 hb)
theorem Rw.form {w : World} {e : TypeId} {sz n : Nat} {v : Value} {cs : List Value} (h : Rw w e sz v n cs) (hn : 0 < n) : ∃ b o cap, v = .slice (some ⟨b, o, none⟩) n cap := by
  rcases h.2.2 with ⟨_, h0⟩ | ⟨b, cap, P, R, hv, _⟩
  · omega
  · exact ⟨b, _, cap, hv⟩
theorem own_ty {w : World} {e t : TypeId} {sz n b : Nat} {v : Value} {cs : List Value} {x : Array Value} {fr : Nat × Nat} (h : Rw w e sz v n cs) (hb : w.heap[b]? = some (.cells x t fr)) (ht : t ≠ e) : b ∉ own v := fun hm => by
  obtain ⟨xs, hx⟩ := h.blk (mem_own.1 hm)
  rw [hb] at hx
  injection hx with hx
  injection hx with _ h2 _
  exact ht h2
theorem own_map {w : World} {e : TypeId} {sz n xb m : Nat} {v : Value} {cs : List Value} {D : DW} (h : Rw w e sz v n cs) (hm : TOwn w xb m D) : xb ∉ own v := fun hx => by
  obtain ⟨xs, hx⟩ := h.blk (mem_own.1 hx)
  exact hm.ne hx rfl

set_option maxRecDepth 100000 in
set_option maxHeartbeats 2000000 in
theorem set_any (tb xb n : Nat) (D : DW) (ov : Value) (es : List (Int × Int)) (t a : Int) (w : World) (h : TurnAt w tb xb n D ov es) (ht : (Lit.int .u16 t).wf = true) (ha : (Lit.int .u64 a).wf = true) (hlen : es.length ≤ 1000000000000) (hn : n ≤ 1000000000000) :
    Calls Tryz.prog 135 #[.pointer (some ⟨tb, 0, none⟩), .int .u16 t, .int .u64 a] w fun e w' => e = .returned (.tuple #[]) ∧ ∃ ov' es', TurnAt w' tb xb (n + 1) (D.put (tk t) (lu a)) ov' es' ∧ Chg ([tb, xb] ++ own ov) w w' ∧ (∀ b ∈ own ov', b ∈ own ov ∨ w.heap.size ≤ b) ∧ es'.length = es.length + 1 := by
  obtain ⟨w1, hst, hm1, hturn⟩ := World.ownsMap.store h.own law45 Tryz.underlying229 (by unfold maxLen; omega) (key45 ht) (plainElem_int Tryz.underlying44 ha)
  have hch1 := Chg.ofGrown hturn.grown
  have htx := h.own.ne h.blk
  have hb1 := hch1.blk h.blk (by simpa using htx)
  have hxo := own_map h.row h.own
  have hr1 := h.row.chg hch1 (fun b hb => by simp; intro e; subst e; exact hxo (mem_own.2 hb))
  have hto := own_ty h.row h.blk (by decide)
  have hs1 := hch1.size
  have c0 : w.cell? ⟨tb, 0, none⟩ = some (.map (some xb)) := blk_cell (i := 0) h.blk rfl
  have c1 : w1.cell? ⟨tb, 1, none⟩ = some ov := blk_cell (i := 1) hb1 rfl
  have HFIN : Hid (∀ (k : Nat) (v' : Value) (w2 : World), k ≤ es.length → Rw w2 245 2 v' (es.length + 1) ((ecells es).take (k * 2) ++ [.int .u16 t, .int .u64 a] ++ (ecells es).drop (k * 2)) → (w1.alloc (.cells #[.int .u16 t, .int .u64 a] 245)).grownBy w2 ov.ownBlock → (v'.ownBlock = ov.ownBlock ∨ v'.ownBlock = some (w1.heap.size + 1)) →
      ∃ ov' es', TurnAt (w2.setCell ⟨tb, 1, none⟩ v') tb xb (n + 1) (D.put (tk t) (lu a)) ov' es' ∧ Chg ([tb, xb] ++ own ov) w (w2.setCell ⟨tb, 1, none⟩ v') ∧ (∀ b ∈ own ov', b ∈ own ov ∨ w.heap.size ≤ b) ∧ es'.length = es.length + 1) := fun k v' w2 hk hrw hgr hown => by
    have hc2 := grown_chg hgr
    have hcA : Chg (own ov) w1 w2 := ((Chg.refl _ _).alloc _).trans hc2 (fun j hj => Or.inl hj)
    have hb2 := hcA.blk hb1 hto
    have hm2 := hcA.map hm1 hxo
    have ecat : (ecells es).take (k * 2) ++ [.int .u16 t, .int .u64 a] ++ (ecells es).drop (k * 2) = ecells (es.take k ++ (t, a) :: es.drop k) := by
      unfold ecells
      rw [fm_take ecl_len, fm_drop ecl_len]
      simp [ecl]
    have hlk : (es.take k ++ (t, a) :: es.drop k).length = es.length + 1 := by simp; omega
    rw [ecat, ← hlk] at hrw
    have htv : tb ∉ own v' := own_ty hrw hb2 (by decide)
    refine ⟨v', es.take k ++ (t, a) :: es.drop k, ⟨blk_set (i := 1) v' hb2, hm2.setCell (a := ⟨tb, 1, none⟩) (Ne.symm htx) _, hrw.chg ((Chg.refl [tb] w2).set _ _ (Or.inl (by simp))) (fun b hb => by simp; intro e; subst e; exact htv (mem_own.2 hb)), ?_⟩, ?_, ?_, hlk⟩
    · intro e he
      rcases List.mem_append.1 he with he | he
      · exact h.wf e (List.mem_of_mem_take he)
      · rcases List.mem_cons.1 he with rfl | he
        · exact ⟨ht, ha⟩
        · exact h.wf e (List.mem_of_mem_drop he)
    · exact ((hch1.mono (m := [tb, xb] ++ own ov) (by simp)).trans (hcA.mono (m := [tb, xb] ++ own ov) (fun j hj => by simp [hj])) (fun j hj => Or.inl hj)).set _ _ (Or.inl (by simp))
    · intro b hb
      rcases hown with e | e
      · left; rw [mem_own] at hb ⊢; rw [← e]; exact hb
      · right; rw [mem_own, e] at hb; cases hb; omega
  have HINS : Hid (∀ k : Nat, k ≤ es.length → Calls Tryz.prog 151 #[ov, .int .i64 k, .slice (some ⟨w1.heap.size, 0, none⟩) 1 1] (w1.alloc (.cells #[.int .u16 t, .int .u64 a] 245)) fun e w' => ∃ v', e = .returned v' ∧ Rw w' 245 2 v' (es.length + 1) ((ecells es).take (k * 2) ++ [.int .u16 t, .int .u64 a] ++ (ecells es).drop (k * 2)) ∧ (w1.alloc (.cells #[.int .u16 t, .int .u64 a] 245)).grownBy w' ov.ownBlock ∧ (v'.ownBlock = ov.ownBlock ∨ v'.ownBlock = some (w1.heap.size + 1))) := fun k hk => by
    have := insE ov es.length k (ecells es) [.int .u16 t, .int .u64 a] w1.heap.size (w1.alloc (.cells #[.int .u16 t, .int .u64 a] 245)) (hr1.chg (l := []) ((Chg.refl _ _).alloc _) (by simp)) hk hlen (heap_alloc_new w1 _) rfl (by simp; exact ⟨rfl, rfl⟩) (fun e => by have := hr1.lt e; omega)
    simpa using this
  have hb2 : ∀ (w2 : World), (w1.alloc (.cells #[.int .u16 t, .int .u64 a] 245)).grownBy w2 ov.ownBlock → (w2.heap[tb]? = some (.cells [.map (some xb), ov].toArray 232 (0, 0))) := fun w2 hgr => (((Chg.refl _ _).alloc _).trans (grown_chg hgr) (fun j hj => Or.inl hj) : Chg (own ov) w1 w2).blk hb1 hto
  have HB2 : Hid _ := hb2
  clear hm1 hturn hch1 hb1 hxo hto htx hb2
  rcases hr1.2.2 with ⟨rfl, hes⟩ | ⟨b, cap, P, R, rfl, hg, hnc, hcm, hcr⟩
  · have hes0 : es.length = 0 := hes
    have stop : Hid (Calls Tryz.prog 151 #[.slice none 0 0, .int .i64 (0 : Nat), .slice (some ⟨w1.heap.size, 0, none⟩) 1 1] (w1.alloc (.cells #[.int .u16 t, .int .u64 a] 245)) fun e w' => ∃ bb oo cc, e = .returned (.slice (some ⟨bb, oo, none⟩) (es.length + 1) cc) ∧ w'.heap[tb]? = some (.cells [.map (some xb), .slice none 0 0].toArray 232 (0, 0)) ∧ ∃ ov' es', TurnAt (w'.setCell ⟨tb, 1, none⟩ (.slice (some ⟨bb, oo, none⟩) (es.length + 1) cc)) tb xb (n + 1) (D.put (tk t) (lu a)) ov' es' ∧ Chg ([tb, xb] ++ own (.slice none 0 0)) w (w'.setCell ⟨tb, 1, none⟩ (.slice (some ⟨bb, oo, none⟩) (es.length + 1) cc)) ∧ (∀ b' ∈ own ov', b' ∈ own (.slice none 0 0) ∨ w.heap.size ≤ b') ∧ es'.length = es.length + 1) :=
      (HINS.out 0 (by omega)).mono (fun e w2 ⟨v', e1, x1, x2, x3⟩ => by
        obtain ⟨bb, oo, cc, rfl⟩ := x1.form (by omega)
        exact ⟨bb, oo, cc, e1, HB2.out w2 x2, HFIN.out 0 _ w2 (by omega) x1 x2 x3⟩)
    clear h hr1 hes
    go_enter Tryz.func135, Tryz.ntmps135
    go_wp2_with fail
    go_loopw [6] (fun i wr => i = .int .i64 0 ∧ wr = w1) (fun _ _ => 0)
    case atStart => exact ⟨rfl, rfl⟩
    case round =>
      obtain ⟨rfl, rfl⟩ := hrel
      go_wp2_with fail
      refine (stop.out).mono ?_
      rintro e w2 ⟨bb, oo, cc, rfl, k2, x1⟩
      have hfr : ∀ i, w2.frozen? ⟨tb, i, none⟩ = false := fun i => blk_free k2
      have k21 : w2.cell? ⟨tb, 1, none⟩ = some (.slice none 0 0) := blk_cell (i := 1) k2 rfl
      have HX : Hid _ := x1
      clear x1 k2
      go_wp2
      go_end0
      exact ⟨rfl, by have hx := HX.out; rw [hes0] at hx; rw [hes0]; exact hx⟩
  · obtain ⟨len, hlen'⟩ : ∃ len, len = es.length := ⟨_, rfl⟩
    have HLEN : Hid (len = es.length) := hlen'
    have HG : Hid (w1.heap[b]? = some (.cells (P ++ (ecells es ++ R)).toArray 245 (0, 0))) := hg
    have hcm' : cap ≤ 9223372036854775807 := by unfold maxLen at hcm; omega
    have hlc : len ≤ cap := by omega
    obtain ⟨o, ho⟩ : ∃ o, P.length = o := ⟨_, rfl⟩
    have HO : Hid (P.length = o) := ho
    rw [ho, ← hlen'] at HB2 HINS HFIN c1
    rw [← hlen'] at hlen
    rw [ho, ← hlen']
    clear h hr1 hlen' hg hnc hcm hcr ho
    go_enter Tryz.func135, Tryz.ntmps135
    go_wp2_with fail
    go_loopw [6] (fun i wr => ∃ k : Nat, k ≤ len ∧ i = .int .i64 k ∧ wr = w1) (fun i _ => (intOf i).toNat)
    case atStart => exact ⟨len, by omega, rfl, rfl⟩
    case round =>
      obtain ⟨k, hk, rfl, rfl⟩ := hrel
      have stop : Hid (Calls Tryz.prog 151 #[.slice (some ⟨b, o, none⟩) len cap, .int .i64 k, .slice (some ⟨wr.heap.size, 0, none⟩) 1 1] (wr.alloc (.cells #[.int .u16 t, .int .u64 a] 245)) fun e w' => ∃ bb oo cc, e = .returned (.slice (some ⟨bb, oo, none⟩) (len + 1) cc) ∧ w'.heap[tb]? = some (.cells [.map (some xb), .slice (some ⟨b, o, none⟩) len cap].toArray 232 (0, 0)) ∧ ∃ ov' es', TurnAt (w'.setCell ⟨tb, 1, none⟩ (.slice (some ⟨bb, oo, none⟩) (len + 1) cc)) tb xb (n + 1) (D.put (tk t) (lu a)) ov' es' ∧ Chg ([tb, xb] ++ own (.slice (some ⟨b, o, none⟩) len cap)) w (w'.setCell ⟨tb, 1, none⟩ (.slice (some ⟨bb, oo, none⟩) (len + 1) cc)) ∧ (∀ b' ∈ own ov', b' ∈ own (.slice (some ⟨b, o, none⟩) len cap) ∨ w.heap.size ≤ b') ∧ es'.length = len + 1) :=
        (HINS.out k hk).mono (fun e w2 ⟨v', e1, x1, x2, x3⟩ => by
          obtain ⟨bb, oo, cc, rfl⟩ := x1.form (by omega)
          exact ⟨bb, oo, cc, e1, HB2.out w2 x2, HFIN.out k _ w2 hk x1 x2 x3⟩)
      by_cases hk0 : 0 < k
      · have hkl : k - 1 < es.length := by rw [← HLEN.out]; omega
        have hat := (ec_at es (k - 1) hkl).2
        generalize es[k - 1] = x at *
        obtain ⟨tt, aa⟩ := x
        have d1 : wr.cell? ⟨b, o + (k - 1) * 2 + 1, none⟩ = some (.int .u64 aa) := by rw [← HO.out, Nat.add_assoc]; exact Rw.cell (n := 0) (sz := 0) HG.out hat
        clear hat
        have hk1 : (0 : Int) < (k : Int) := by omega
        have hw1 : IntKind.i64.wrap ((k : Int) - 1) = (k : Int) - 1 := by rw [IntKind.wrap_i64]; omega
        have hkn : (k : Int) - 1 = ((k - 1 : Nat) : Int) := by omega
        have hk2 : (k : Int) - 1 < (len : Int) := by omega
        have hk3 : (0 : Int) ≤ (k : Int) - 1 := by omega
        have hk4 : ((k : Int) - 1).toNat = k - 1 := by omega
        by_cases haa : a < aa
        · go_wp2_with fail
          go_roundw
          case rel => exact ⟨k - 1, by omega, by go_num, by first | rfl | trivial⟩
          case measure => simp [intOf]; omega
        · go_wp2_with fail
          refine (stop.out).mono ?_
          rintro e w2 ⟨bb, oo, cc, rfl, k2, x1⟩
          have hfr : ∀ i, w2.frozen? ⟨tb, i, none⟩ = false := fun i => blk_free k2
          have k21 : w2.cell? ⟨tb, 1, none⟩ = some (.slice (some ⟨b, o, none⟩) len cap) := blk_cell (i := 1) k2 rfl
          have HX : Hid _ := x1
          clear x1 k2
          go_wp2
          go_end0
          exact ⟨rfl, HX.out⟩
      · obtain rfl : k = 0 := by omega
        go_wp2_with fail
        refine (stop.out).mono ?_
        rintro e w2 ⟨bb, oo, cc, rfl, k2, x1⟩
        have hfr : ∀ i, w2.frozen? ⟨tb, i, none⟩ = false := fun i => blk_free k2
        have k21 : w2.cell? ⟨tb, 1, none⟩ = some (.slice (some ⟨b, o, none⟩) len cap) := blk_cell (i := 1) k2 rfl
        have HX : Hid _ := x1
        clear x1 k2
        go_wp2
        go_end0
        exact ⟨rfl, HX.out⟩
end Go.Proofs.YtbdnhllhdjepcaaGreat
namespace Go.Proofs.YtbdnhllhdjepcaaGreat
set_option linter.unusedVariables false
set_option linter.unusedSimpArgs false
open Go.RowKit Go.Maps

/-! ### items that wait -/
structure It where
  t : Int
  x : Int
  d : Int
def icl (i : It) : List Value := [.int .u16 i.t, .int .u32 i.x, .int .u64 i.d]
theorem icl_len (i : It) : (icl i).length = 3 := rfl
def icells (ws : List It) : List Value := ws.flatMap icl
theorem ic_at (ws : List It) (j : Nat) (hj : j < ws.length) : (icells ws)[j * 3]? = some (.int .u16 ws[j].t) ∧ (icells ws)[j * 3 + 1]? = some (.int .u32 ws[j].x) ∧ (icells ws)[j * 3 + 2]? = some (.int .u64 ws[j].d) :=
  ⟨fm_at icl_len ws j hj 0 (by decide), fm_at icl_len ws j hj 1 (by decide), fm_at icl_len ws j hj 2 (by decide)⟩
/-- an item behind those that are due no later -/
def ins (x : It) : List It → List It
  | [] => [x]
  | y :: q => if x.d < y.d then x :: y :: q else y :: ins x q
theorem ins_len (x : It) : ∀ q, (ins x q).length = q.length + 1
  | [] => rfl
  | y :: q => by unfold ins; split <;> simp [ins_len x q]
theorem ins_split (x : It) (B : List It) (hB : ∀ y ∈ B, x.d < y.d) : ∀ A : List It, (∀ y ∈ A, y.d ≤ x.d) → ins x (A ++ B) = A ++ x :: B
  | [], _ => by
    cases B with
    | nil => rfl
    | cons y B => simp [ins, hB y (by simp)]
  | a :: A, hA => by
    have h := hA a (by simp)
    rw [List.cons_append]
    unfold ins
    rw [if_neg (by omega), ins_split x B hB A (fun y hy => hA y (by simp [hy]))]
    rfl
def Sorted (ws : List It) : Prop := ws.Pairwise (fun a b => a.d ≤ b.d)
theorem ins_sorted (x : It) : ∀ q, Sorted q → Sorted (ins x q)
  | [], _ => by simp [ins, Sorted]
  | y :: q, h => by
    obtain ⟨h1, h2⟩ := List.pairwise_cons.1 h
    unfold ins
    split
    · rename_i hx
      exact List.pairwise_cons.2 ⟨fun z hz => by rcases List.mem_cons.1 hz with rfl | hz; omega; have := h1 z hz; omega, h⟩
    · rename_i hx
      refine List.pairwise_cons.2 ⟨fun z hz => ?_, ins_sorted x q h2⟩
      have : z = x ∨ z ∈ q := by
        clear h1 h2 h
        induction q with
        | nil => simp [ins] at hz; exact Or.inl hz
        | cons w q ih =>
          unfold ins at hz
          split at hz
          · rcases List.mem_cons.1 hz with rfl | hz
            · exact Or.inl rfl
            · exact Or.inr hz
          · rcases List.mem_cons.1 hz with rfl | hz
            · exact Or.inr (by simp)
            · rcases ih hz with h | h
              · exact Or.inl h
              · exact Or.inr (by simp [h])
      rcases this with rfl | hz
      · omega
      · exact h1 z hz
/-- where the scan from the right stops -/
theorem ins_stop {x : It} {ws : List It} {k : Nat} (hs : Sorted ws) (hk : k ≤ ws.length) (hgt : ∀ j (hj : j < ws.length), k ≤ j → x.d < ws[j].d) (hle : ∀ hk0 : 0 < k, (ws[k - 1]'(by omega)).d ≤ x.d) : ws.take k ++ x :: ws.drop k = ins x ws := by
  have := ins_split x (ws.drop k) (fun y hy => by
    obtain ⟨j, hj, rfl⟩ := List.mem_iff_getElem.1 hy
    rw [List.getElem_drop]
    exact hgt _ (by rw [List.length_drop] at hj; omega) (by omega)) (ws.take k) (fun y hy => by
    obtain ⟨j, hj, rfl⟩ := List.mem_iff_getElem.1 hy
    rw [List.length_take] at hj
    rw [List.getElem_take]
    have hk0 : 0 < k := by omega
    have h1 := hle hk0
    by_cases hjk : j = k - 1
    · subst hjk; exact h1
    · have := List.pairwise_iff_getElem.1 hs j (k - 1) (by omega) (by omega) (by omega)
      omega)
  rw [List.take_append_drop] at this
  exact this.symm
abbrev qv (lk ev de qu : Int) (tb : Nat) (wv : Value) : List Value := [.int .i32 lk, .int .u32 0, .int .u64 ev, .int .u64 de, .int .i64 qu, .pointer (some ⟨tb, 0, none⟩), wv]
abbrev qblk (w : World) (qb : Nat) (lk ev de qu : Int) (tb : Nat) (wv : Value) : Prop := w.heap[qb]? = some (.cells (qv lk ev de qu tb wv).toArray 190 (0, 0))

set_option maxRecDepth 100000 in
set_option maxHeartbeats 4000000 in
theorem add_any (qb tb : Nat) (lk ev de qu : Int) (wv : Value) (ws : List It) (it : It) (w : World) (hb : qblk w qb lk ev de qu tb wv) (hr : Rw w 123 3 wv ws.length (icells ws)) (hs : Sorted ws) (hlen : ws.length ≤ 1000000000000) :
    Calls Tryz.prog 134 #[.pointer (some ⟨qb, 0, none⟩), .agg #[.int .u16 it.t, .int .u32 it.x, .int .u64 it.d]] w fun e w' => e = .returned (.tuple #[]) ∧ ∃ wv', qblk w' qb lk ev de qu tb wv' ∧ Rw w' 123 3 wv' (ins it ws).length (icells (ins it ws)) ∧ Chg (qb :: own wv) w w' ∧ ∀ b ∈ own wv', b ∈ own wv ∨ w.heap.size ≤ b := by
  have hqo : qb ∉ own wv := own_ty hr hb (by decide)
  have hql := lt_of_block hb
  have HFIN : Hid (∀ (k : Nat) (v' : Value) (W w2 : World), Chg [] w W → k ≤ ws.length → ws.take k ++ it :: ws.drop k = ins it ws → Rw w2 123 3 v' (ws.length + 1) ((icells ws).take (k * 3) ++ icl it ++ (icells ws).drop (k * 3)) → W.grownBy w2 wv.ownBlock → (v'.ownBlock = wv.ownBlock ∨ v'.ownBlock = some W.heap.size) →
      ∃ wv', qblk (w2.setCell ⟨qb, 6, none⟩ v') qb lk ev de qu tb wv' ∧ Rw (w2.setCell ⟨qb, 6, none⟩ v') 123 3 wv' (ins it ws).length (icells (ins it ws)) ∧ Chg (qb :: own wv) w (w2.setCell ⟨qb, 6, none⟩ v') ∧ ∀ b ∈ own wv', b ∈ own wv ∨ w.heap.size ≤ b) := fun k v' W w2 hW hk hi hrw hgr hown => by
    have hcA : Chg (own wv) w w2 := (hW.mono (by simp)).trans (grown_chg hgr) (fun j hj => Or.inl hj)
    have hb2 := hcA.blk hb hqo
    have ecat : (icells ws).take (k * 3) ++ icl it ++ (icells ws).drop (k * 3) = icells (ins it ws) := by
      rw [← hi]
      unfold icells
      rw [fm_take icl_len, fm_drop icl_len]
      simp
    rw [ecat, ← ins_len it ws] at hrw
    have htv : qb ∉ own v' := own_ty hrw hb2 (by decide)
    refine ⟨v', blk_set (i := 6) v' hb2, hrw.chg ((Chg.refl [qb] w2).set _ _ (Or.inl (by simp))) (fun b hb' => by simp; rintro rfl; exact htv (mem_own.2 hb')), (hcA.mono (m := qb :: own wv) (fun j hj => by simp [hj])).set _ _ (Or.inl (by simp)), ?_⟩
    intro b hb
    rcases hown with e | e
    · left; rw [mem_own] at hb ⊢; rw [← e]; exact hb
    · right; rw [mem_own, e] at hb; cases hb; exact hW.size
  have HINS : Hid (∀ (k : Nat) (W : World), Chg [] w W → k ≤ ws.length → ws.take k ++ it :: ws.drop k = ins it ws → Calls Tryz.prog 150 #[wv, .int .i64 k, .slice (some ⟨W.heap.size, 0, none⟩) 1 1] (W.alloc (.cells #[.int .u16 it.t, .int .u32 it.x, .int .u64 it.d] 123)) fun e w' => ∃ bb oo cc, e = .returned (.slice (some ⟨bb, oo, none⟩) (ws.length + 1) cc) ∧ qblk w' qb lk ev de qu tb (wv) ∧ (∃ wv', qblk (w'.setCell ⟨qb, 6, none⟩ (.slice (some ⟨bb, oo, none⟩) (ws.length + 1) cc)) qb lk ev de qu tb wv' ∧ Rw (w'.setCell ⟨qb, 6, none⟩ (.slice (some ⟨bb, oo, none⟩) (ws.length + 1) cc)) 123 3 wv' (ins it ws).length (icells (ins it ws)) ∧ Chg (qb :: own (wv)) w (w'.setCell ⟨qb, 6, none⟩ (.slice (some ⟨bb, oo, none⟩) (ws.length + 1) cc)) ∧ ∀ b' ∈ own wv', b' ∈ own (wv) ∨ w.heap.size ≤ b')) := fun k W hW hk hi => by
    have hW1 : Chg [] w (W.alloc (.cells #[.int .u16 it.t, .int .u32 it.x, .int .u64 it.d] 123)) := hW.alloc _
    have hrW := hr.chg hW1 (by simp)
    have hsz := hW.size
    refine (insI wv ws.length k (icells ws) (icl it) W.heap.size _ hrW hk hlen (heap_alloc_new W _) rfl (by simp [icl]; exact ⟨rfl, rfl, rfl⟩) (fun e => by have := hr.lt e; omega)).mono ?_
    rintro e w2 ⟨v', rfl, x1, x2, x3⟩
    have hbW := hW1.blk hb (by simp)
    have hb2 := (grown_chg x2).blk hbW hqo
    have hx := HFIN.out k v' _ w2 hW1 hk hi x1 x2 x3
    obtain ⟨bb, oo, cc, rfl⟩ := x1.form (by omega)
    exact ⟨bb, oo, cc, rfl, hb2, hx⟩
  clear HFIN
  rcases hr.2.2 with ⟨rfl, hes⟩ | ⟨b, cap, P, R, rfl, hg, hnc, hcm, hcr⟩
  · have hes0 : ws.length = 0 := hes
    have hws : ws = [] := List.length_eq_zero_iff.1 hes0
    subst hws
    have HB : Hid (qblk w qb lk ev de qu tb (.slice none 0 0)) := hb
    clear hr hes hes0 hb hs
    go_enter Tryz.func134, Tryz.ntmps134
    have cA : ∀ o, (w.alloc o).cell? ⟨qb, 6, none⟩ = some (.slice none 0 0) := fun o => blk_cell (i := 6) (blk_alloc HB.out o) rfl
    go_wp2_with fail
    go_loopw [4] (fun i wr => i = .int .i64 0 ∧ Chg [] w wr ∧ wr.heap[w.heap.size]? = some (.cells [.int .u16 it.t, .int .u32 it.x, .int .u64 it.d].toArray 123 (0, 0))) (fun _ _ => 0)
    case atStart => exact ⟨rfl, (Chg.refl _ _).alloc _, heap_alloc_new w _⟩
    case round =>
      obtain ⟨rfl, hch, hbx⟩ := hrel
      have stop : Hid (Calls Tryz.prog 150 #[.slice none 0 0, .int .i64 (0 : Nat), .slice (some ⟨wr.drew.drew.heap.size, 0, none⟩) 1 1] (wr.drew.drew.alloc (.cells #[.int .u16 it.t, .int .u32 it.x, .int .u64 it.d] 123)) fun e w' => ∃ bb oo cc, e = .returned (.slice (some ⟨bb, oo, none⟩) (0 + 1) cc) ∧ qblk w' qb lk ev de qu tb (.slice none 0 0) ∧ (∃ wv', qblk (w'.setCell ⟨qb, 6, none⟩ (.slice (some ⟨bb, oo, none⟩) (0 + 1) cc)) qb lk ev de qu tb wv' ∧ Rw (w'.setCell ⟨qb, 6, none⟩ (.slice (some ⟨bb, oo, none⟩) (0 + 1) cc)) 123 3 wv' (ins it []).length (icells (ins it [])) ∧ Chg (qb :: own (.slice none 0 0)) w (w'.setCell ⟨qb, 6, none⟩ (.slice (some ⟨bb, oo, none⟩) (0 + 1) cc)) ∧ ∀ b' ∈ own wv', b' ∈ own (.slice none 0 0) ∨ w.heap.size ≤ b')) := HINS.out 0 wr.drew.drew hch.drew.drew (by simp) rfl
      have hbr := hch.blk HB.out (by simp)
      have c6 : wr.cell? ⟨qb, 6, none⟩ = some (.slice none 0 0) := blk_cell (i := 6) hbr rfl
      have b0 := blk_cell (i := 0) hbx rfl
      have b1 := blk_cell (i := 1) hbx rfl
      have b2 := blk_cell (i := 2) hbx rfl
      have c6a : ∀ o, (wr.alloc o).cell? ⟨qb, 6, none⟩ = some (.slice none 0 0) := fun o => blk_cell (i := 6) (blk_alloc hbr o) rfl
      have b0a : ∀ o, (wr.alloc o).cell? ⟨w.heap.size, 0, none⟩ = some (.int .u16 it.t) := fun o => blk_cell (i := 0) (blk_alloc hbx o) rfl
      have b1a : ∀ o, (wr.alloc o).cell? ⟨w.heap.size, 1, none⟩ = some (.int .u32 it.x) := fun o => blk_cell (i := 1) (blk_alloc hbx o) rfl
      have b2a : ∀ o, (wr.alloc o).cell? ⟨w.heap.size, 2, none⟩ = some (.int .u64 it.d) := fun o => blk_cell (i := 2) (blk_alloc hbx o) rfl
      clear hbr hbx hch
      go_wp2_with fail
      go_region
      go_upto_region 4 with fail
      go_region_with (go_at_call 150; refine (stop.out).mono ?_; rintro e w2 ⟨bb, oo, cc, rfl, k2, x1⟩; have hfr2 : ∀ i, w2.frozen? ⟨qb, i, none⟩ = false := fun i => blk_free k2; have k26 : w2.cell? ⟨qb, 6, none⟩ = some (.slice none 0 0) := blk_cell (i := 6) k2 rfl; have HX : Hid _ := x1; clear x1 k2)
      all_goals
        go_wp2
        go_end0
        exact ⟨rfl, HX.out⟩
  · obtain ⟨len, hlen'⟩ : ∃ len, len = ws.length := ⟨_, rfl⟩
    have HLEN : Hid (len = ws.length) := hlen'
    have HG : Hid (w.heap[b]? = some (.cells (P ++ (icells ws ++ R)).toArray 123 (0, 0))) := hg
    have hcm' : cap ≤ 9223372036854775807 := by unfold maxLen at hcm; omega
    have hlc : len ≤ cap := by omega
    obtain ⟨o, ho⟩ : ∃ o, P.length = o := ⟨_, rfl⟩
    have HO : Hid (P.length = o) := ho
    have HS : Hid (Sorted ws) := hs
    rw [ho, ← hlen'] at HINS hb
    rw [← hlen'] at hlen
    rw [ho, ← hlen']
    have HB : Hid (qblk w qb lk ev de qu tb (.slice (some ⟨b, o, none⟩) len cap)) := hb
    clear hr hlen' hg hnc hcm hcr ho hb hs
    go_enter Tryz.func134, Tryz.ntmps134
    have cA : ∀ o', (w.alloc o').cell? ⟨qb, 6, none⟩ = some (.slice (some ⟨b, o, none⟩) len cap) := fun o' => blk_cell (i := 6) (blk_alloc HB.out o') rfl
    go_wp2_with fail
    go_loopw [4] (fun i wr => ∃ k : Nat, k ≤ len ∧ i = .int .i64 k ∧ Chg [] w wr ∧ wr.heap[w.heap.size]? = some (.cells [.int .u16 it.t, .int .u32 it.x, .int .u64 it.d].toArray 123 (0, 0)) ∧ ∀ j (hj : j < ws.length), k ≤ j → it.d < ws[j].d) (fun i _ => (intOf i).toNat)
    case atStart => exact ⟨len, by omega, rfl, (Chg.refl _ _).alloc _, heap_alloc_new w _, fun j hj h => by have := HLEN.out; omega⟩
    case round =>
      obtain ⟨k, hk, rfl, hch, hbx, hgt⟩ := hrel
      have HGT : Hid (∀ j (hj : j < ws.length), k ≤ j → it.d < ws[j].d) := hgt
      have stop0 : Hid (ws.take k ++ it :: ws.drop k = ins it ws → Calls Tryz.prog 150 #[.slice (some ⟨b, o, none⟩) len cap, .int .i64 k, .slice (some ⟨wr.drew.drew.heap.size, 0, none⟩) 1 1] (wr.drew.drew.alloc (.cells #[.int .u16 it.t, .int .u32 it.x, .int .u64 it.d] 123)) fun e w' => ∃ bb oo cc, e = .returned (.slice (some ⟨bb, oo, none⟩) (len + 1) cc) ∧ qblk w' qb lk ev de qu tb (.slice (some ⟨b, o, none⟩) len cap) ∧ (∃ wv', qblk (w'.setCell ⟨qb, 6, none⟩ (.slice (some ⟨bb, oo, none⟩) (len + 1) cc)) qb lk ev de qu tb wv' ∧ Rw (w'.setCell ⟨qb, 6, none⟩ (.slice (some ⟨bb, oo, none⟩) (len + 1) cc)) 123 3 wv' (ins it ws).length (icells (ins it ws)) ∧ Chg (qb :: own (.slice (some ⟨b, o, none⟩) len cap)) w (w'.setCell ⟨qb, 6, none⟩ (.slice (some ⟨bb, oo, none⟩) (len + 1) cc)) ∧ ∀ b' ∈ own wv', b' ∈ own (.slice (some ⟨b, o, none⟩) len cap) ∨ w.heap.size ≤ b')) := fun hi => HINS.out k wr.drew.drew hch.drew.drew (by have := HLEN.out; omega) hi
      have hbr := hch.blk HB.out (by simp)
      have hgr := hch.blk HG.out (by simp)
      have HR : Hid (Chg [] w wr ∧ wr.heap[w.heap.size]? = some (.cells [.int .u16 it.t, .int .u32 it.x, .int .u64 it.d].toArray 123 (0, 0))) := ⟨hch, hbx⟩
      have c6 : wr.cell? ⟨qb, 6, none⟩ = some (.slice (some ⟨b, o, none⟩) len cap) := blk_cell (i := 6) hbr rfl
      have b0 := blk_cell (i := 0) hbx rfl
      have b1 := blk_cell (i := 1) hbx rfl
      have b2 := blk_cell (i := 2) hbx rfl
      have c6a : ∀ o', (wr.alloc o').cell? ⟨qb, 6, none⟩ = some (.slice (some ⟨b, o, none⟩) len cap) := fun o' => blk_cell (i := 6) (blk_alloc hbr o') rfl
      have b0a : ∀ o, (wr.alloc o).cell? ⟨w.heap.size, 0, none⟩ = some (.int .u16 it.t) := fun o => blk_cell (i := 0) (blk_alloc hbx o) rfl
      have b1a : ∀ o, (wr.alloc o).cell? ⟨w.heap.size, 1, none⟩ = some (.int .u32 it.x) := fun o => blk_cell (i := 1) (blk_alloc hbx o) rfl
      have b2a : ∀ o, (wr.alloc o).cell? ⟨w.heap.size, 2, none⟩ = some (.int .u64 it.d) := fun o => blk_cell (i := 2) (blk_alloc hbx o) rfl
      clear hbr hbx hch hgt
      by_cases hk0 : 0 < k
      · have hkl : k - 1 < ws.length := by rw [← HLEN.out]; omega
        have hat := (ic_at ws (k - 1) hkl).2.2
        obtain ⟨aa, haa'⟩ : ∃ aa, aa = ws[k - 1].d := ⟨_, rfl⟩
        have HAA : Hid (aa = ws[k - 1].d) := haa'
        rw [← haa'] at hat
        have d1 : wr.cell? ⟨b, o + (k - 1) * 3 + 2, none⟩ = some (.int .u64 aa) := by rw [← HO.out, Nat.add_assoc]; exact Rw.cell (n := 0) (sz := 0) hgr hat
        clear hat hgr haa'
        have hk1 : (0 : Int) < (k : Int) := by omega
        have hw1 : IntKind.i64.wrap ((k : Int) - 1) = (k : Int) - 1 := by rw [IntKind.wrap_i64]; omega
        have hk2 : (k : Int) - 1 < (len : Int) := by omega
        have hk3 : (0 : Int) ≤ (k : Int) - 1 := by omega
        have hk4 : ((k : Int) - 1).toNat = k - 1 := by omega
        by_cases haa : it.d < aa
        · go_wp2_with fail
          go_region
          go_wp2_with fail
          go_roundw
          case rel => exact ⟨k - 1, by omega, by go_num, HR.out.1.drew, HR.out.2, fun j hj hkj => by
            by_cases e : j = k - 1
            · subst e; rw [← HAA.out]; exact haa
            · exact HGT.out j hj (by omega)⟩
          case measure => simp [intOf]; omega
        · have stop : Hid (Calls Tryz.prog 150 #[.slice (some ⟨b, o, none⟩) len cap, .int .i64 k, .slice (some ⟨wr.drew.drew.heap.size, 0, none⟩) 1 1] (wr.drew.drew.alloc (.cells #[.int .u16 it.t, .int .u32 it.x, .int .u64 it.d] 123)) fun e w' => ∃ bb oo cc, e = .returned (.slice (some ⟨bb, oo, none⟩) (len + 1) cc) ∧ qblk w' qb lk ev de qu tb (.slice (some ⟨b, o, none⟩) len cap) ∧ (∃ wv', qblk (w'.setCell ⟨qb, 6, none⟩ (.slice (some ⟨bb, oo, none⟩) (len + 1) cc)) qb lk ev de qu tb wv' ∧ Rw (w'.setCell ⟨qb, 6, none⟩ (.slice (some ⟨bb, oo, none⟩) (len + 1) cc)) 123 3 wv' (ins it ws).length (icells (ins it ws)) ∧ Chg (qb :: own (.slice (some ⟨b, o, none⟩) len cap)) w (w'.setCell ⟨qb, 6, none⟩ (.slice (some ⟨bb, oo, none⟩) (len + 1) cc)) ∧ ∀ b' ∈ own wv', b' ∈ own (.slice (some ⟨b, o, none⟩) len cap) ∨ w.heap.size ≤ b')) := stop0.out (ins_stop HS.out (by have := HLEN.out; omega) HGT.out (fun _ => by have := HAA.out; omega))
          go_wp2_with fail
          go_region
          go_upto_region 4 with fail
          go_region_with (go_at_call 150; refine (stop.out).mono ?_; rintro e w2 ⟨bb, oo, cc, rfl, k2, x1⟩; have hfr2 : ∀ i, w2.frozen? ⟨qb, i, none⟩ = false := fun i => blk_free k2; have k26 : w2.cell? ⟨qb, 6, none⟩ = some (.slice (some ⟨b, o, none⟩) len cap) := blk_cell (i := 6) k2 rfl; have HX : Hid _ := x1; clear x1 k2)
          all_goals
            go_wp2
            go_end0
            exact ⟨rfl, HX.out⟩
      · obtain rfl : k = 0 := by omega
        have stop : Hid (Calls Tryz.prog 150 #[.slice (some ⟨b, o, none⟩) len cap, .int .i64 (0 : Nat), .slice (some ⟨wr.drew.drew.heap.size, 0, none⟩) 1 1] (wr.drew.drew.alloc (.cells #[.int .u16 it.t, .int .u32 it.x, .int .u64 it.d] 123)) fun e w' => ∃ bb oo cc, e = .returned (.slice (some ⟨bb, oo, none⟩) (len + 1) cc) ∧ qblk w' qb lk ev de qu tb (.slice (some ⟨b, o, none⟩) len cap) ∧ (∃ wv', qblk (w'.setCell ⟨qb, 6, none⟩ (.slice (some ⟨bb, oo, none⟩) (len + 1) cc)) qb lk ev de qu tb wv' ∧ Rw (w'.setCell ⟨qb, 6, none⟩ (.slice (some ⟨bb, oo, none⟩) (len + 1) cc)) 123 3 wv' (ins it ws).length (icells (ins it ws)) ∧ Chg (qb :: own (.slice (some ⟨b, o, none⟩) len cap)) w (w'.setCell ⟨qb, 6, none⟩ (.slice (some ⟨bb, oo, none⟩) (len + 1) cc)) ∧ ∀ b' ∈ own wv', b' ∈ own (.slice (some ⟨b, o, none⟩) len cap) ∨ w.heap.size ≤ b')) := stop0.out (ins_stop HS.out (by omega) HGT.out (fun h => by omega))
        clear stop0 hgr
        go_wp2_with fail
        go_region
        go_upto_region 4 with fail
        go_region_with (go_at_call 150; refine (stop.out).mono ?_; rintro e w2 ⟨bb, oo, cc, rfl, k2, x1⟩; have hfr2 : ∀ i, w2.frozen? ⟨qb, i, none⟩ = false := fun i => blk_free k2; have k26 : w2.cell? ⟨qb, 6, none⟩ = some (.slice (some ⟨b, o, none⟩) len cap) := blk_cell (i := 6) k2 rfl; have HX : Hid _ := x1; clear x1 k2)
        all_goals
          go_wp2
          go_end0
          exact ⟨rfl, HX.out⟩
end Go.Proofs.YtbdnhllhdjepcaaGreat
