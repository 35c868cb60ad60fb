import Derived.Test.YtbdnhllhdjepcaaTurn
namespace Go.Proofs.Ytbdnhllhdjepcaa
set_option linter.unusedVariables false
set_option linter.unusedSimpArgs false
open Go.RowKit Go.Maps

theorem ec_at (es : List (Int × Int)) (j : Nat) (hj : j < es.length) : (ecells es)[j * 2]? = some (.int .u16 es[j].1) ∧ (ecells es)[j * 2 + 1]? = some (.int .u64 es[j].2) :=
  ⟨fm_at ecl_len es j hj 0 (by decide), fm_at ecl_len es j hj 1 (by decide)⟩
/-- a row, cut at its head -/
theorem Rw.cut {w : World} {e : TypeId} {sz n cap b : Nat} {cs P R : List Value} {k : Nat} (h : Rw w e sz (.slice (some ⟨b, P.length, none⟩) n cap) n cs) (hg : w.heap[b]? = some (.cells (P ++ (cs ++ R)).toArray e (0, 0))) (hnc : n ≤ cap) (hcm : cap ≤ maxLen) (hcr : cap * sz ≤ n * sz + R.length) (hk : k ≤ n) :
    (cap ≠ k → Rw w e sz (.slice (some ⟨b, P.length + k * sz, none⟩) (n - k) (cap - k)) (n - k) (cs.drop (k * sz))) ∧ (cap = k → Rw w e sz (.slice (some ⟨b, P.length, none⟩) (n - k) (cap - k)) (n - k) (cs.drop (k * sz))) := by
  obtain ⟨hl1, hl2⟩ := cut_len h.1 hk
  have h1 : ∀ u ∈ cs.drop (k * sz), u.oneCell' = true := fun u hu => h.2.1 u (List.mem_of_mem_drop hu)
  have hks : k * sz ≤ n * sz := Nat.mul_le_mul_right _ hk
  have hnc' : n * sz ≤ cap * sz := Nat.mul_le_mul_right _ hnc
  refine ⟨fun hck => ⟨hl2, h1, .inr ⟨b, cap - k, P ++ cs.take (k * sz), R, by rw [List.length_append, hl1], ?_, by omega, by omega, ?_⟩⟩, fun hck => ⟨hl2, h1, .inr ⟨b, cap - k, P, cs ++ R, rfl, ?_, by omega, by omega, ?_⟩⟩⟩
  · have e1 : (P ++ cs.take (k * sz)) ++ (cs.drop (k * sz) ++ R) = P ++ (cs ++ R) := by
      rw [List.append_assoc, ← List.append_assoc (cs.take (k * sz)), List.take_append_drop]
    rw [e1]; exact hg
  · rw [Nat.sub_mul, Nat.sub_mul]; omega
  · have e1 : cs.drop (k * sz) = [] := List.drop_of_length_le (by rw [h.1]; exact Nat.mul_le_mul_right _ (by omega))
    rw [e1]; exact hg
  · rw [show cap - k = 0 from by omega, Nat.zero_mul]; exact Nat.zero_le _
theorem ne_ty {w : World} {b b' : Nat} {x y : Array Value} {t t' : TypeId} {fr fr' : Nat × Nat} (h : w.heap[b]? = some (.cells x t fr)) (h' : w.heap[b']? = some (.cells y t' fr')) (ht : t ≠ t') : b ≠ b' := fun e => by
  subst e
  rw [h] at h'
  injection h' with h'
  injection h' with _ h2 _
  exact ht h2

set_option maxRecDepth 100000 in
set_option maxHeartbeats 2000000 in
theorem tforget_any (tb xb n : Nat) (D : DW) (ov : Value) (es : List (Int × Int)) (now : Int) (w : World) (h : TurnAt w tb xb n D ov es) (h0 : 0 ≤ now) (hlen : es.length ≤ 1000) :
    Calls Try.prog 70 #[.pointer (some ⟨tb, 0, none⟩), .int .u64 now] w fun e w' => e = .returned (.tuple #[]) ∧ ∃ D' ov' es', TurnAt w' tb xb n D' ov' es' ∧ Chg [tb, xb] w w' ∧ ov'.ownBlock = ov.ownBlock ∧ es'.length ≤ es.length ∧ Keeps now D D' := by
  have HT : Hid (TurnAt w tb xb n D ov es) := h
  have htx := h.own.ne h.blk
  rcases h.row.2.2 with ⟨rfl, hes⟩ | ⟨b, cap, P, R, rfl, hg, hnc, hcm, hcr⟩
  · have hb := h.blk
    have c1 : w.cell? ⟨tb, 1, none⟩ = some (.slice none 0 0) := blk_cell (i := 1) hb rfl
    have hfr : ∀ i, w.frozen? ⟨tb, i, none⟩ = false := fun i => blk_free hb
    have HF : Hid (TurnAt (w.setCell ⟨tb, 1, none⟩ (.slice none 0 0)) tb xb n D (.slice none 0 0) es) :=
      ⟨blk_set (i := 1) (.slice none 0 0) hb, h.own.setCell (a := ⟨tb, 1, none⟩) (Ne.symm htx) _, ⟨h.row.1, h.row.2.1, .inl ⟨rfl, hes⟩⟩, h.wf⟩
    clear h hes hb htx
    go_enter Try.func70, Try.ntmps70
    go_wp2_with fail
    go_loopw [4] (fun i wr => i = .int .i64 0 ∧ wr = w) (fun _ _ => 0)
    case atStart => exact ⟨rfl, rfl⟩
    case round =>
      obtain ⟨rfl, rfl⟩ := hrel
      go_wp2
      go_end0
      exact ⟨rfl, D, _, es, HF.out, (Chg.refl _ _).set _ _ (Or.inl (by simp)), rfl, Nat.le_refl _, Keeps.refl _ _⟩
  · have hbx := h.own.ne hg
    have hbt : b ≠ tb := ne_ty hg h.blk (by decide)
    obtain ⟨len, hlen'⟩ : ∃ len, len = es.length := ⟨_, rfl⟩
    have HLEN : Hid (len = es.length) := hlen'
    have HG : Hid (w.heap[b]? = some (.cells (P ++ (ecells es ++ R)).toArray 191 (0, 0))) := hg
    have HB : Hid (w.heap[tb]? = some (.cells [.map (some xb), .slice (some ⟨b, P.length, none⟩) len cap].toArray 189 (0, 0))) := by rw [hlen']; exact h.blk
    have HCUT : Hid (∀ (W : World) (k : Nat), W.heap[b]? = some (.cells (P ++ (ecells es ++ R)).toArray 191 (0, 0)) → k ≤ len → (cap ≠ k → Rw W 191 2 (.slice (some ⟨b, P.length + k * 2, none⟩) (len - k) (cap - k)) (len - k) (ecells (es.drop k))) ∧ (cap = k → Rw W 191 2 (.slice (some ⟨b, P.length, none⟩) (len - k) (cap - k)) (len - k) (ecells (es.drop k)))) := fun W k hW hk => by
      have := Rw.cut (w := W) (k := k) (n := es.length) (cap := cap) ⟨h.row.1, h.row.2.1, .inr ⟨b, cap, P, R, rfl, hW, hnc, hcm, hcr⟩⟩ hW hnc hcm hcr (by omega)
      rw [show (ecells es).drop (k * 2) = ecells (es.drop k) from fm_drop ecl_len es k, ← hlen'] at this
      exact this
    have HOW : Hid (TOwn w xb n D) := h.own
    have HWF : Hid (EWf es) := h.wf
    have hcm' : cap ≤ 9223372036854775807 := by unfold maxLen at hcm; omega
    have hlc : len ≤ cap := by omega
    obtain ⟨o, ho⟩ : ∃ o, P.length = o := ⟨_, rfl⟩
    have HO : Hid (P.length = o) := ho
    rw [ho] at HB HCUT
    rw [← hlen'] at hlen ⊢
    rw [ho]
    clear h hlen' hg hnc hcm hcr ho HT
    go_enter Try.func70, Try.ntmps70
    go_wp2_with fail
    go_loopw [4] (fun i wr => ∃ (k : Nat) (D' : DW), k ≤ len ∧ i = .int .i64 k ∧ TOwn wr xb n D' ∧ Chg [xb] w wr ∧ Keeps now D D') (fun i _ => len - (intOf i).toNat)
    case atStart => exact ⟨0, D, by omega, rfl, HOW.out, Chg.refl _ _, Keeps.refl _ _⟩
    case round =>
      obtain ⟨k, D', hk, rfl, hown, hch, hkp⟩ := hrel
      have HKP : Hid (Keeps now D D') := hkp
      have HOWN : Hid (TOwn wr xb n D') := hown
      clear hkp hown
      have hb := hch.blk HB.out (by simpa using htx)
      have hgr := hch.blk HG.out (by simpa using hbx)
      have c1 : wr.cell? ⟨tb, 1, none⟩ = some (.slice (some ⟨b, o, none⟩) len cap) := blk_cell (i := 1) hb rfl
      have hfr : ∀ i, wr.frozen? ⟨tb, i, none⟩ = false := fun i => blk_free hb
      have HBR : Hid (wr.heap[tb]? = some (.cells [.map (some xb), .slice (some ⟨b, o, none⟩) len cap].toArray 189 (0, 0))) := hb
      have HGR : Hid (wr.heap[b]? = some (.cells (P ++ (ecells es ++ R)).toArray 191 (0, 0))) := hgr
      clear hb hgr
      have hk0 : (0 : Int) ≤ (k : Int) := by omega
      have hkc : (k : Int) ≤ (len : Int) := by omega
      have fin : ∀ v', (cap ≠ k → v' = .slice (some ⟨b, o + k * 2, none⟩) (len - k) (cap - k)) → (cap = k → v' = .slice (some ⟨b, o, none⟩) (len - k) (cap - k)) → ∃ D' ov' es', TurnAt (wr.setCell ⟨tb, 1, none⟩ v') tb xb n D' ov' es' ∧ Chg [tb, xb] w (wr.setCell ⟨tb, 1, none⟩ v') ∧ ov'.ownBlock = some b ∧ es'.length ≤ len ∧ Keeps now D D' := fun v' hv1 hv2 => by
        have hc' := HCUT.out (wr.setCell ⟨tb, 1, none⟩ v') k (blk_set_far (k := tb) (i := 1) (u := v') HGR.out hbt) hk
        have hl : (es.drop k).length = len - k := by rw [List.length_drop, HLEN.out]
        refine ⟨D', v', es.drop k, ⟨blk_set (i := 1) v' HBR.out, HOWN.out.setCell (a := ⟨tb, 1, none⟩) (Ne.symm htx) _, ?_, fun e he => HWF.out e (List.mem_of_mem_drop he)⟩, (hch.mono (by simp)).set _ _ (Or.inl (by simp)), ?_, by omega, HKP.out⟩
        · rw [hl]
          by_cases hck : cap = k
          · rw [hv2 hck]; rw [hv2 hck] at hc'; exact hc'.2 hck
          · rw [hv1 hck]; rw [hv1 hck] at hc'; exact hc'.1 hck
        · by_cases hck : cap = k
          · rw [hv2 hck]; rfl
          · rw [hv1 hck]; rfl
      have FIN : Hid _ := fin
      clear fin
      by_cases hlt : k < len
      · have hkl : k < es.length := by rw [← HLEN.out]; exact hlt
        have hat := ec_at es k hkl
        have hw := HWF.out _ (List.getElem_mem hkl)
        generalize es[k] = x at *
        obtain ⟨t, a⟩ := x
        have d0 : wr.cell? ⟨b, o + k * 2, none⟩ = some (.int .u16 t) := by rw [← HO.out]; exact Rw.cell (n := 0) (sz := 0) HGR.out hat.1
        have d1 : wr.cell? ⟨b, o + k * 2 + 1, none⟩ = some (.int .u64 a) := by rw [← HO.out, Nat.add_assoc]; exact Rw.cell (n := 0) (sz := 0) HGR.out hat.2
        have HW : Hid ((Lit.int .u16 t).wf = true) := hw.1
        clear hat hw
        have hck : ¬ cap = k := by omega
        have hkk : (k : Int) < (len : Int) := by omega
        by_cases han : a ≤ now
        · go_wp2_with fail
          refine (drop_any tb xb n D' _ t a wr HBR.out HOWN.out HW.out).mono ?_
          rintro e w1 ⟨rfl, D1, hown1, hch1, hor⟩
          go_wp2_with fail
          go_roundw
          case rel =>
            refine ⟨k + 1, D1, by omega, by go_num, hown1, hch.trans hch1 (by simp), ?_⟩
            rcases hor with rfl | ⟨rfl, hm⟩
            · exact HKP.out
            · exact HKP.out.trans (keeps_del hm han h0)
          case measure => simp [intOf]; omega
        · go_wp2
          go_end0
          obtain ⟨D2, ov2, es2, z1, z2, z3, z4, z5⟩ := FIN.out _ (fun _ => rfl) (fun h => absurd h hck)
          exact ⟨rfl, D2, ov2, es2, z1, z2, z3, z4, z5⟩
      · obtain rfl : k = len := by omega
        by_cases hck : cap = k
        · subst hck
          go_wp2
          go_end0
          obtain ⟨D2, ov2, es2, z1, z2, z3, z4, z5⟩ := FIN.out _ (fun h => absurd rfl h) (fun _ => rfl)
          exact ⟨rfl, D2, ov2, es2, by simpa using z1, by simpa using z2, z3, z4, z5⟩
        · go_wp2
          go_end0
          obtain ⟨D2, ov2, es2, z1, z2, z3, z4, z5⟩ := FIN.out _ (fun _ => rfl) (fun h => absurd h hck)
          exact ⟨rfl, D2, ov2, es2, by simpa using z1, by simpa using z2, z3, z4, z5⟩
end Go.Proofs.Ytbdnhllhdjepcaa
