import Derived.Test.YtbdnhllhdjepcaaGreatCQr
namespace Go.Proofs.YtbdnhllhdjepcaaGreat
set_option linter.unusedVariables false
set_option linter.unusedSimpArgs false
open Go.RowKit Go.Maps

theorem own_rw {w : World} {base : Nat} {e : TypeId} {sz n : Nat} {v : Value} {xs : List Value} (h : w.ownsRow base e sz v n xs) (h1 : ∀ u ∈ xs, u.oneCell' = true) : Rw w e sz v n xs ∧ ∀ b ∈ own v, base ≤ b := by
  refine ⟨⟨h.1, h1, ?_⟩, fun b hb => ?_⟩
  · rcases h.2 with ⟨rfl, h0⟩ | ⟨g, cap, cur, rfl, hb, hg, hnc, hcm, hcs, htk⟩
    · exact .inl ⟨rfl, h0⟩
    · refine .inr ⟨g, cap, [], cur.toList.drop (n * sz), rfl, ?_, hnc, hcm, ?_⟩
      · have e1 : ([] ++ (xs ++ cur.toList.drop (n * sz))).toArray = cur := by rw [← htk, List.nil_append, List.take_append_drop]
        rw [e1]; exact hg
      · rw [List.length_drop, Array.length_toList, hcs]
        have : n * sz ≤ cap * sz := Nat.mul_le_mul_right _ hnc
        omega
  · rw [mem_own] at hb
    rcases h.2 with ⟨rfl, _⟩ | ⟨g, cap, cur, rfl, hb', _⟩
    · cases hb
    · cases hb; exact hb'
theorem ic_one (ws : List It) : ∀ u ∈ icells ws, u.oneCell' = true := fun u hu => by
  simp only [icells, List.mem_flatMap, icl] at hu
  obtain ⟨a, _, hu⟩ := hu
  simp at hu
  rcases hu with rfl | rfl | rfl <;> rfl


/-! ### the first of those that are due -/
def Bs (V : List It) (T : Int) (j : Nat) (bi : Int) : Prop := (bi = -1 ∧ ∀ z (hz : z < V.length), z < j → T < V[z].d) ∨ ∃ (b : Nat) (hbl : b < V.length), bi = b ∧ b < j ∧ V[b].d ≤ T ∧ ∀ z (hz : z < V.length), z < j → V[b].d ≤ V[z].d ∧ (z < b → V[b].d < V[z].d)
theorem Bs.skip {V : List It} {T bi : Int} {j : Nat} (h : Bs V T j bi) (hj : j < V.length) (hd : T < V[j].d) : Bs V T (j + 1) bi := by
  rcases h with ⟨h1, h2⟩ | ⟨b, hbl, h1, h2, h3, h4⟩
  · exact Or.inl ⟨h1, fun z hz hzj => by
      by_cases e : z = j
      · subst e; exact hd
      · exact h2 z hz (by omega)⟩
  · exact Or.inr ⟨b, hbl, h1, by omega, h3, fun z hz hzj => by
      by_cases e : z = j
      · subst e; exact ⟨by omega, fun h => by omega⟩
      · exact h4 z hz (by omega)⟩
theorem Bs.first {V : List It} {T : Int} {j : Nat} (h : Bs V T j (-1)) (hj : j < V.length) (hd : V[j].d ≤ T) : Bs V T (j + 1) j := by
  rcases h with ⟨_, h2⟩ | ⟨b, hbl, h1, _⟩
  · exact Or.inr ⟨j, hj, rfl, by omega, hd, fun z hz hzj => by
      by_cases e : z = j
      · subst e; exact ⟨Int.le_refl _, fun h => by omega⟩
      · have := h2 z hz (by omega); exact ⟨by omega, fun _ => by omega⟩⟩
  · omega
theorem Bs.better {V : List It} {T : Int} {j b : Nat} (h : Bs V T j b) (hj : j < V.length) (hb : b < V.length) (hd : V[j].d ≤ T) (hl : V[j].d < V[b].d) : Bs V T (j + 1) j := by
  rcases h with ⟨h1, _⟩ | ⟨b', hbl, h1, h2, h3, h4⟩
  · omega
  · obtain rfl : b' = b := by omega
    exact Or.inr ⟨j, hj, rfl, by omega, hd, fun z hz hzj => by
      by_cases e : z = j
      · subst e; exact ⟨Int.le_refl _, fun h => by omega⟩
      · have := (h4 z hz (by omega)).1; exact ⟨by omega, fun _ => by omega⟩⟩
theorem Bs.keep {V : List It} {T : Int} {j b : Nat} (h : Bs V T j b) (hj : j < V.length) (hb : b < V.length) (hl : V[b].d ≤ V[j].d) : Bs V T (j + 1) b := by
  rcases h with ⟨h1, _⟩ | ⟨b', hbl, h1, h2, h3, h4⟩
  · omega
  · obtain rfl : b' = b := by omega
    exact Or.inr ⟨b', hbl, rfl, by omega, h3, fun z hz hzj => by
      by_cases e : z = j
      · subst e; exact ⟨hl, fun h => by omega⟩
      · exact h4 z hz (by omega)⟩
theorem Bs.none {V : List It} {T : Int} (h : Bs V T V.length (-1)) : ∀ y ∈ V, T < y.d := fun y hy => by
  rcases h with ⟨_, h2⟩ | ⟨b, hbl, h1, _⟩
  · obtain ⟨z, hz, rfl⟩ := List.getElem_of_mem hy
    exact h2 z hz hz
  · omega
theorem Bs.some {V : List It} {T : Int} {b : Nat} (h : Bs V T V.length b) : ∃ hb : Mn V b, (V[b]'hb.lt).d ≤ T := by
  rcases h with ⟨h1, _⟩ | ⟨b', hbl, h1, h2, h3, h4⟩
  · omega
  · obtain rfl : b' = b := by omega
    exact ⟨⟨hbl, fun z hz => (h4 z hz hz).1, fun z hz hzb => (h4 z hz hz).2 hzb⟩, h3⟩
theorem Bs.cases {V : List It} {T bi : Int} {j : Nat} (h : Bs V T j bi) : bi = -1 ∨ ∃ b : Nat, bi = b ∧ b < V.length ∧ b < j := by
  rcases h with ⟨h1, _⟩ | ⟨b', hbl, h1, h2, _⟩
  · exact Or.inl h1
  · exact Or.inr ⟨b', h1, hbl, h2⟩

/-! ### what is told -/
structure PolR (w w' : World) (yb : Nat) (s : Rf) (most : Int) (e : Ending) (k : Nat) (s' : Rf) (v : Value) : Prop where
  cnt : Cnt (isort s.is) most s.T k
  e : e = .returned v
  told : Rw w' 123 3 v k (icells ((isort s.is).take k))
  pol : PolS s s' k
  ref : RefAt w' yb s'
  stp : RStp w w' yb s s'
def PolE (w w' : World) (yb : Nat) (s : Rf) (most : Int) (e : Ending) : Prop := ∃ k s' v, PolR w w' yb s most e k s' v
structure PlI (w wr : World) (yb : Nat) (s : Rf) (most : Int) (k : Nat) (V : List It) (iv v : Value) : Prop where
  le : k ≤ s.is.length
  lim : (k : Int) ≤ max most 0
  is : isort V = (isort s.is).drop k
  due : ∀ j (hj : j < (isort s.is).length), j < k → (isort s.is)[j].d ≤ s.T
  out : Rw wr 123 3 v k (icells ((isort s.is).take k))
  new : ∀ b ∈ own v, w.heap.size ≤ b
  ref : RefAt wr yb (s.itemed iv V)
  stp : RStp w wr yb s (s.itemed iv V)
  sep : ∀ b ∈ own v, b ∉ (s.itemed iv V).fp yb
  sub : ∀ i ∈ V, i ∈ s.is
theorem PlI.chg {w wr W : World} {yb : Nat} {s : Rf} {most : Int} {k : Nat} {V : List It} {iv v : Value} (h : PlI w wr yb s most k V iv v) (hc : Chg [] wr W) : PlI w W yb s most k V iv v :=
  ⟨h.le, h.lim, h.is, h.due, h.out.chg hc (by simp), h.new, h.ref.chg hc (by simp), h.stp.trans (RStp.of0 hc), h.sep, h.sub⟩
theorem PlI.stop {w wr W : World} {yb : Nat} {s : Rf} {most : Int} {k : Nat} {V : List It} {iv v : Value} (h : PlI w wr yb s most k V iv v) (hc : Chg [] wr W) (hs : (k : Int) = max most 0 ∨ ∀ y ∈ V, s.T < y.d) : PolE w W yb s most (.returned v) := by
  have h' := h.chg hc
  have hl : (isort s.is).length = s.is.length := isort_len _
  refine ⟨k, s.itemed iv V, v, ⟨by rw [hl]; exact h.le, h.lim, h.due, ?_⟩, rfl, h'.out, ⟨rfl, rfl, rfl, rfl, rfl, h.is, h.sub⟩, h'.ref, h'.stp⟩
  rcases hs with hs | hs
  · exact Or.inl hs
  · by_cases e : k = (isort s.is).length
    · exact Or.inr (Or.inl e)
    · have hk : k < (isort s.is).length := by have := h.le; omega
      refine Or.inr (Or.inr ⟨hk, hs _ ?_⟩)
      rw [← mem_isort V, h.is]
      rw [List.drop_eq_getElem_cons hk]
      exact List.mem_cons.2 (Or.inl rfl)
theorem PlI.next {w wr w8 w10 : World} {yb : Nat} {s : Rf} {most : Int} {k b : Nat} {V : List It} {iv v v8 v2 : Value} (h : PlI w wr yb s most k V iv v) (hb : Mn V b) (hd : (V[b]'hb.lt).d ≤ s.T) (hkm : (k : Int) < most) (A : Chg (own v) wr w8) (R8 : Rw w8 123 3 v8 (k + 1) (icells ((isort s.is).take k) ++ icl (V[b]'hb.lt))) (O8 : ∀ z ∈ own v8, z ∈ own v ∨ wr.heap.size ≤ z)
    (C : Chg [] w8 w10) (R2 : Rw w10 123 3 v2 (V.eraseIdx b).length (icells (V.eraseIdx b))) (O2 : ∀ z ∈ own v2, w8.heap.size ≤ z) : PlI w (w10.setCell ⟨yb, 18, none⟩ v2) yb s most (k + 1) (V.eraseIdx b) v2 v8 := by
  obtain ⟨hi, he, hn⟩ := isort_step h.is hb
  have hl : (isort s.is).length = s.is.length := isort_len _
  have hcat : icells ((isort s.is).take k) ++ icl (V[b]'hb.lt) = icells ((isort s.is).take (k + 1)) := by
    rw [he, List.take_succ_eq_append_getElem hi]
    unfold icells
    rw [List.flatMap_append, List.flatMap_cons, List.flatMap_nil, List.append_nil]
  rw [hcat] at R8
  have r8 : RefAt w8 yb (s.itemed iv V) := h.ref.chg A (fun z hz hz' => h.sep z hz' hz)
  have s8 : RStp w w8 yb s (s.itemed iv V) := ⟨h.stp.chg.trans A (fun j hj => Or.inr (h.new j hj)), h.stp.new⟩
  obtain ⟨p1, p2⟩ := r8.laidI (w' := w10) (l := V.eraseIdx b) (v := v2) (C.mono (by simp)) R2 (fun z hz => Or.inr (O2 z hz))
  have hy8 : yb ∉ own v8 := own_ty R8 r8.blk (by decide)
  have R10 := R8.chg C (by simp)
  have hw8 := h.stp.chg.size
  refine ⟨by omega, by omega, hn, fun j hj hjk => ?_, R10.chg ((Chg.refl [yb] w10).set _ _ (Or.inl (by simp))) (fun z hz => by simp only [List.mem_cons, List.not_mem_nil, or_false]; rintro rfl; exact hy8 (mem_own.2 hz)), fun z hz => ?_, p1, s8.trans p2, fun z hz hz' => ?_, fun i hi' => h.sub i (List.mem_of_mem_eraseIdx hi')⟩
  · by_cases e : j = k
    · subst e; rw [← he]; exact hd
    · exact h.due j hj (by omega)
  · rcases O8 z hz with hz | hz
    · exact h.new z hz
    · omega
  · have hz8 := R8.lt (mem_own.1 hz)
    rcases p2.new z hz' with hz' | hz'
    · rcases O8 z hz with hz | hz
      · exact h.sep z hz hz'
      · have := h.ref.lt z hz'; omega
    · omega
end Go.Proofs.YtbdnhllhdjepcaaGreat
namespace Go.Proofs.YtbdnhllhdjepcaaGreat
set_option linter.unusedVariables false
set_option linter.unusedSimpArgs false
open Go.RowKit Go.Maps

set_option maxRecDepth 100000 in
set_option maxHeartbeats 8000000 in
theorem poll_ref (yb : Nat) (s : Rf) (most : Int) (w : World) (h : RefAt w yb s) (hT : 0 ≤ s.T ∧ s.T ≤ 9223372036854775807) (hil : s.is.length ≤ 1000) (hmm : I6 most) :
    Calls Tryz.prog 43 #[.pointer (some ⟨yb, 0, none⟩), .int .i64 most] w fun e w' => PolE w w' yb s most e := by
  obtain ⟨i0, ek⟩ := ek75
  have HI0 : Hid (EK 112 123 i0 (.agg #[.int .u16 0, .int .u32 0, .int .u64 0]) 3 16) := ek
  have HP0 : Hid (PlI w w yb s most 0 s.is s.iv (.slice none 0 0)) := ⟨by omega, by omega, by rw [List.drop_zero], fun j hj h => by omega, ⟨rfl, by simp [icells], .inl ⟨rfl, rfl⟩⟩, by simp [own, Value.ownBlock], h, RStp.refl _ _ _, by simp [own, Value.ownBlock], fun i hi => hi⟩
  clear h ek
  obtain ⟨T0, T1⟩ := hT
  obtain ⟨m0, m1⟩ := hmm
  go_enter Tryz.func43, Tryz.ntmps43
  go_wp2_with fail
  go_loopw [5] (fun o wr => ∃ (k : Nat) (V : List It) (iv : Value), PlI w wr yb s most k V iv o) (fun o _ => s.is.length - (match o with | .slice _ n _ => n | _ => 0))
  case atStart => exact ⟨0, s.is, s.iv, HP0.out⟩
  case round =>
    obtain ⟨k, V, iv, hI⟩ := hrel
    have HI : Hid (PlI w wr yb s most k V iv u5) := hI
    obtain ⟨bs, cp, hv⟩ := hI.out.val
    subst hv
    have hkl := hI.le
    have hyl := lt_of_block hI.ref.blk
    by_cases hkm : (k : Int) < most
    · have hVl : V.length = s.is.length - k := by rw [← isort_len V, hI.is, List.length_drop, isort_len]
      have y18 : wr.cell? ⟨yb, 18, none⟩ = some iv := blk_cell (i := 18) hI.ref.blk rfl
      have y15 : wr.cell? ⟨yb, 15, none⟩ = some (.int .u64 s.T) := blk_cell (i := 15) hI.ref.blk rfl
      rcases hI.ref.its.2.2 with ⟨hvn, hl0⟩ | ⟨hb, hcap, P, R, hvs, hg, hnc, hcm, hcr⟩
      · have hvn' : iv = .slice none 0 0 := hvn
        have hl0' : V.length = 0 := hl0
        subst hvn'
        clear hI hvn hl0 hVl
        go_wp2_with fail
        go_loopw [6, 7] (fun b i wx => b = .int .i64 (-1) ∧ i = .int .i64 0 ∧ wx = wr) (fun _ _ _ => 0)
        case atStart => exact ⟨rfl, rfl, rfl⟩
        case round =>
          obtain ⟨rfl, rfl, rfl⟩ := hrel
          go_wp2
          go_ret
          exact HI.out.stop (Chg.refl _ _) (Or.inr (fun y hy => by rw [List.length_eq_zero_iff.1 hl0'] at hy; cases hy))
      · obtain ⟨o, ho⟩ : ∃ o, P.length = o := ⟨_, rfl⟩
        obtain ⟨n, hn⟩ : ∃ n, n = V.length := ⟨_, rfl⟩
        have hvs' : iv = .slice (some ⟨hb, o, none⟩) n hcap := by rw [← ho, hn]; exact hvs
        have hg' : wr.heap[hb]? = some (.cells (P ++ (icells V ++ R)).toArray 123 (0, 0)) := hg
        have hnc' : n ≤ hcap := by rw [hn]; exact hnc
        have HN : Hid (n = V.length) := hn
        have HO : Hid (P.length = o) := ho
        have hcm' : hcap ≤ 9223372036854775807 := by unfold maxLen at hcm; omega
        have HAT : Hid (∀ (W1 : World) (j : Nat) (hj : j < V.length), W1.heap[hb]? = some (.cells (P ++ (icells V ++ R)).toArray 123 (0, 0)) → W1.cell? ⟨hb, o + j * 3, none⟩ = some (.int .u16 V[j].t) ∧ W1.cell? ⟨hb, o + j * 3 + 1, none⟩ = some (.int .u32 V[j].x) ∧ W1.cell? ⟨hb, o + j * 3 + 2, none⟩ = some (.int .u64 V[j].d)) := fun W1 j hj hW => by
          have hat := ic_at V j hj
          rw [← ho]
          exact ⟨Rw.cell (n := 0) (sz := 0) hW hat.1, by rw [Nat.add_assoc]; exact Rw.cell (n := 0) (sz := 0) hW hat.2.1, by rw [Nat.add_assoc]; exact Rw.cell (n := 0) (sz := 0) hW hat.2.2⟩
        have hn1 : n ≤ 1000 := by omega
        have HY : Hid (∀ W, PlI w W yb s most k V iv (.slice bs k cp) → W.cell? ⟨yb, 18, none⟩ = some (.slice (some ⟨hb, o, none⟩) n hcap) ∧ W.cell? ⟨yb, 15, none⟩ = some (.int .u64 s.T) ∧ yb < W.heap.size) := fun W hW => ⟨by rw [← hvs']; exact blk_cell (i := 18) hW.ref.blk rfl, blk_cell (i := 15) hW.ref.blk rfl, lt_of_block hW.ref.blk⟩
        have HOWN : Hid (hb ∈ (s.itemed iv V).fp yb) := by show _ ∈ _; simp only [Rf.fp, Rf.itemed, hvs', List.mem_append]; exact Or.inr (by simp [own, Value.ownBlock])
        have HIV : Hid (iv = .slice (some ⟨hb, o, none⟩) n hcap) := hvs'
        rw [hvs'] at y18
        clear hI hvs hvs' hg hnc hcm hcr ho hn hVl
        go_wp2_with fail
        go_loopw [6, 7] (fun bx jx wx => ∃ (j : Nat) (bi : Int), j ≤ n ∧ jx = .int .i64 j ∧ bx = .int .i64 bi ∧ Bs V s.T j bi ∧ PlI w wx yb s most k V iv (.slice bs k cp) ∧ wx.heap[hb]? = some (.cells (P ++ (icells V ++ R)).toArray 123 (0, 0))) (fun _ jx _ => n - (intOf jx).toNat)
        case atStart => exact ⟨0, -1, by omega, rfl, rfl, Or.inl ⟨rfl, fun z hz h => by omega⟩, HI.out, hg'⟩
        case round =>
          obtain ⟨j, bi, hj, rfl, rfl, hbs, hpj, hgj⟩ := hrel
          have HBS : Hid (Bs V s.T j bi) := hbs
          have HPJ : Hid (PlI w wr yb s most k V iv (.slice bs k cp)) := hpj
          have HGJ : Hid (wr.heap[hb]? = some (.cells (P ++ (icells V ++ R)).toArray 123 (0, 0))) := hgj
          obtain ⟨y18, y15, hyl⟩ := HY.out _ hpj
          have hbl := lt_of_block hgj
          clear hbs hpj hgj hg' HI
          by_cases hjn : j < n
          · have hjl : j < V.length := by rw [← HN.out]; exact hjn
            have hjn2 : (j : Int) < (n : Int) := by omega
            have dj := (HAT.out wr j hjl HGJ.out).2.2
            obtain ⟨dd, hdd⟩ : ∃ dd, dd = V[j].d := ⟨_, rfl⟩
            have HDD : Hid (dd = V[j].d) := hdd
            rw [← hdd] at dj
            clear hdd
            by_cases hle : dd ≤ s.T
            · have hdl : decide (dd ≤ s.T) = true := by simpa using hle
              rcases HBS.out.cases with hbi | ⟨b, hbi, hbV, hbj⟩
              · subst hbi
                have hb0 : decide ((-1 : Int) < 0) = true := by decide
                go_wp2_with fail
                go_quiet (fail)
                go_wp2_with fail
                go_roundw
                case rel => exact ⟨j + 1, j, by omega, by go_num, rfl, HBS.out.first hjl (by rw [← HDD.out]; exact hle), HPJ.out.chg ((Chg.refl _ _).drewN _), HGJ.out⟩
                case measure => simp [intOf]; omega
              · subst hbi
                have hb0 : decide ((b : Int) < 0) = false := by simp
                have hbn : (b : Int) < (n : Int) := by have := HN.out; omega
                have hbn2 : b < n := by omega
                have db := (HAT.out wr b hbV HGJ.out).2.2
                obtain ⟨de, hde⟩ : ∃ de, de = V[b].d := ⟨_, rfl⟩
                have HDE : Hid (de = V[b].d) := hde
                rw [← hde] at db
                clear hde
                by_cases hlt : dd < de
                · have hdl2 : decide (dd < de) = true := by simpa using hlt
                  go_wp2_with fail
                  go_quiet (fail)
                  go_wp2_with fail
                  go_roundw
                  case rel => exact ⟨j + 1, j, by omega, by go_num, rfl, HBS.out.better hjl hbV (by rw [← HDD.out]; exact hle) (by rw [← HDD.out, ← HDE.out]; exact hlt), HPJ.out.chg ((Chg.refl _ _).drewN _), HGJ.out⟩
                  case measure => simp [intOf]; omega
                · have hdl2 : decide (dd < de) = false := by simpa using hlt
                  go_wp2_with fail
                  go_quiet (fail)
                  go_wp2_with fail
                  go_roundw
                  case rel => exact ⟨j + 1, b, by omega, by go_num, rfl, HBS.out.keep hjl hbV (by rw [← HDD.out, ← HDE.out]; omega), HPJ.out.chg ((Chg.refl _ _).drewN _), HGJ.out⟩
                  case measure => simp [intOf]; omega
            · have hdl : decide (dd ≤ s.T) = false := by simpa using hle
              go_wp2_with fail
              go_quiet (fail)
              go_wp2_with fail
              go_roundw
              case rel => exact ⟨j + 1, bi, by omega, by go_num, rfl, HBS.out.skip hjl (by rw [← HDD.out]; omega), HPJ.out.chg ((Chg.refl _ _).drewN _), HGJ.out⟩
              case measure => simp [intOf]; omega
          · obtain rfl : j = n := by omega
            have hjn2 : ¬ (j : Int) < (j : Int) := by omega
            rcases HBS.out.cases with hbi | ⟨b, hbi, hbV, hbj⟩
            · subst hbi
              go_wp2
              go_ret
              refine HPJ.out.stop (Chg.refl _ _) (Or.inr ?_)
              have := HBS.out
              rw [HN.out] at this
              exact this.none
            · subst hbi
              obtain ⟨hMn, hdT⟩ : ∃ hb : Mn V b, (V[b]'hb.lt).d ≤ s.T := by
                have := HBS.out
                rw [HN.out] at this
                exact this.some
              have HMN : Hid (Mn V b ∧ V[b].d ≤ s.T) := ⟨hMn, hdT⟩
              clear hMn hdT
              obtain ⟨d0, d1, d2⟩ := HAT.out wr b hbV HGJ.out
              obtain ⟨y, hy⟩ : ∃ y, y = V[b] := ⟨_, rfl⟩
              have HYB : Hid (y = V[b]) := hy
              rw [← hy] at d0 d1 d2
              clear hy
              have hb0 : ¬ (b : Int) < 0 := by omega
              have hbn : (b : Int) < (j : Int) := by omega
              have hA := heap_alloc_new wr (.cells [.int .u16 y.t, .int .u32 y.x, .int .u64 y.d].toArray 123)
              have cA : Chg [] wr (wr.alloc (.cells #[.int .u16 y.t, .int .u32 y.x, .int .u64 y.d] 123)) := (Chg.refl _ _).alloc _
              have ek := HI0.out
              obtain ⟨v8, w8, hr8, t1, t2, t3⟩ := run_app ek (wr.alloc (.cells #[.int .u16 y.t, .int .u32 y.x, .int .u64 y.d] 123)) 112 (.slice bs k cp) k (icells ((isort s.is).take k)) (HPJ.out.out.chg cA (by simp)) ⟨wr.heap.size, 0, none⟩ 1 1 [.int .u16 y.t, .int .u32 y.x, .int .u64 y.d] rfl (fun j x hj => by rw [Addr.add_mid, Nat.zero_add]; exact blk_cell hA hj) (by intro u hu; simp at hu; rcases hu with rfl | rfl | rfl <;> rfl) (by decide) (by omega)
              obtain ⟨la8, cp8, hv8⟩ := t1.val
              subst hv8
              have HR8 : Hid _ := hr8
              have c8 : Chg (own (.slice bs k cp)) wr w8 := (cA.mono (by simp)).trans (Chg.of_grown t2 (fun b hb => mem_own.2 hb)) (fun j hj => Or.inl hj)
              have HT1 : Hid (Rw w8 123 3 (.slice la8 (k + 1) cp8) (k + 1) (icells ((isort s.is).take k) ++ icl V[b])) := by rw [← HYB.out]; exact t1
              have HO8 : Hid (∀ z ∈ own (.slice la8 (k + 1) cp8), z ∈ own (.slice bs k cp) ∨ wr.heap.size ≤ z) := fun z hz => by
                rcases t3 with e | e
                · rw [own_eq e] at hz; exact Or.inl hz
                · rw [mem_own, e] at hz; cases hz; exact Or.inr (by simp)
              have HC8 : Hid (Chg (own (.slice bs k cp)) wr w8) := c8
              have s8c : w8.heap[hb]? = some (.cells (P ++ (icells V ++ R)).toArray 123 (0, 0)) := c8.blk HGJ.out (fun hx => HPJ.out.sep hb hx HOWN.out)
              have hyb8 := c8.blk HPJ.out.ref.blk (fun hx => HPJ.out.sep yb hx (by simp [Rf.fp]))
              have y8 : w8.cell? ⟨yb, 18, none⟩ = some (.slice (some ⟨hb, o, none⟩) j hcap) := by
                have := blk_cell (i := 18) hyb8 rfl
                rw [this]
                exact congrArg some HIV.out
              have hyl8 := lt_of_block hyb8
              have HYB8 : Hid (w8.heap[yb]? = some (.cells (rfc (s.itemed iv V)).toArray 114 (0, 0))) := hyb8
              have HS8 : Hid (w8.heap[hb]? = some (.cells (P ++ (icells V ++ R)).toArray 123 (0, 0))) := s8c
              have hbl8 := lt_of_block s8c
              clear hA cA t1 t2 t3 c8 hr8 ek hyb8
              have hbV2 : b ≤ V.length := by omega
              have hbj' : b ≤ j := by omega
              have hbc : b ≤ hcap := by omega
              have hb1 : ((b : Int) + 1).toNat = b + 1 := by omega
              have hw1 : IntKind.i64.wrap ((b : Int) + 1) = (b : Int) + 1 := by rw [IntKind.wrap_i64]; omega
              have hb2 : (b : Int) + 1 ≤ (j : Int) := by omega
              have hb3 : (0 : Int) ≤ (b : Int) + 1 := by omega
              have hb4 : b + 1 ≤ j := by omega
              have N1 : Hid (∀ (W1 : World), W1.heap[hb]? = some (.cells (P ++ (icells V ++ R)).toArray 123 (0, 0)) → ∀ z u, (icells (V.take b))[z]? = some u → W1.cell? ((⟨hb, o, none⟩ : Addr).add z) = some u) := fun W1 hW z u hz => by
                rw [Addr.add_lit, ← HO.out]
                rw [show icells (V.take b) = (icells V).take (b * 3) from (fm_take icl_len V b).symm, List.getElem?_take] at hz
                split at hz
                · exact Rw.cell (n := 0) (sz := 0) hW hz
                · cases hz
              have L1 : (icells (V.take b)).length = b * 3 := by unfold icells; rw [fm_len icl_len, List.length_take]; congr 1; omega
              have L2 : (icells (V.drop (b + 1))).length = (j - (b + 1)) * 3 := by unfold icells; rw [fm_len icl_len, List.length_drop]; have := HN.out; congr 1; omega
              obtain ⟨A, hA, N2⟩ : ∃ A : Addr, (if hcap = b + 1 then some (⟨hb, o, none⟩ : Addr) else some ⟨hb, o + (b + 1) * 3, none⟩) = some A ∧ Hid (∀ (W1 : World), W1.heap[hb]? = some (.cells (P ++ (icells V ++ R)).toArray 123 (0, 0)) → ∀ z u, (icells (V.drop (b + 1)))[z]? = some u → W1.cell? (A.add z) = some u) := by
                by_cases hcc : hcap = b + 1
                · refine ⟨⟨hb, o, none⟩, by rw [if_pos hcc], fun W1 hW z u hz => ?_⟩
                  have : icells (V.drop (b + 1)) = [] := List.length_eq_zero_iff.1 (by rw [L2, show j - (b + 1) = 0 from by omega, Nat.zero_mul])
                  rw [this] at hz; cases hz
                · refine ⟨⟨hb, o + (b + 1) * 3, none⟩, by rw [if_neg hcc], fun W1 hW z u hz => ?_⟩
                  rw [Addr.add_lit, ← HO.out, Nat.add_assoc]
                  rw [show icells (V.drop (b + 1)) = (icells V).drop ((b + 1) * 3) from (fm_drop icl_len V (b + 1)).symm, List.getElem?_drop] at hz
                  exact Rw.cell (n := 0) (sz := 0) hW hz
              have HNIL : Hid (w8.ownsRow w8.heap.size 123 3 (.slice none 0 0) 0 []) := World.ownsRow_nil _ _ _ _
              go_wp2_with (first
                | (at_builtin; refine Lib.wpList_append_run _ rfl _ _ _ _ rfl _ _ rfl rfl _ _ HR8.out ?_; clear HR8 d0 d1 d2)
                | (at_builtin; refine wpList_append_own _ rfl _ _ 112 rfl w8.heap.size 123 i0 (.agg #[.int .u16 0, .int .u32 0, .int .u64 0]) 3 16 Tryz.underlying112 HI0.out.i HI0.out.zr HI0.out.s HI0.out.b rfl (by decide) _ _ _ rfl HNIL.out ⟨hb, o, none⟩ b hcap (icells (V.take b)) rfl L1 (N1.out _ HS8.out) (ic_one _) ?c3 ?c4 (Nat.le_refl _) ?_)
                | fail)
              case c3 => unfold maxLen; omega
              case c4 => omega
              · intro v1 w9 hown1 hgrow1 _
                have ch9 : Chg [] w8 w9 := by first | exact Chg.ofGrown0 hgrow1 | exact Chg.ofGrown0 (by simpa [Value.ownBlock] using hgrow1)
                have s9c := ch9.blk HS8.out (by simp)
                have HS9 : Hid (w9.heap[hb]? = some (.cells (P ++ (icells V ++ R)).toArray 123 (0, 0))) := s9c
                have s9 := ch9.size
                obtain ⟨bs1, cp1, hv1⟩ := (own_rw hown1 (ic_one _)).1.val
                subst hv1
                have HOWN1 : Hid (w9.ownsRow w8.heap.size 123 3 (.slice bs1 b cp1) b (icells (V.take b))) := hown1
                have hyb9 := ch9.blk HYB8.out (by simp)
                have y9 : w9.cell? ⟨yb, 18, none⟩ = some (.slice (some ⟨hb, o, none⟩) j hcap) := by
                  have := blk_cell (i := 18) hyb9 rfl
                  rw [this]
                  exact congrArg some HIV.out
                have hyl9 := lt_of_block hyb9
                have hbl9 := lt_of_block s9c
                have HC9 : Hid (Chg [] w8 w9) := ch9
                clear hown1 hgrow1 s9c hyb9 ch9
                go_wp2_with (first
                  | (at_builtin; refine wpList_append_own _ rfl _ _ 112 rfl w8.heap.size 123 i0 (.agg #[.int .u16 0, .int .u32 0, .int .u64 0]) 3 16 Tryz.underlying112 HI0.out.i HI0.out.zr HI0.out.s HI0.out.b rfl (by decide) _ _ _ rfl HOWN1.out A (j - (b + 1)) (hcap - (b + 1)) (icells (V.drop (b + 1))) rfl L2 (N2.out _ HS9.out) (ic_one _) ?c3 ?c4 s9 ?_)
                  | fail)
                case c3 => unfold maxLen; omega
                case c4 => omega
                · intro v2 w10 hown2 hgrow2 _
                  have ecat : icells (V.take b) ++ icells (V.drop (b + 1)) = icells (V.eraseIdx b) := by rw [List.eraseIdx_eq_take_drop_succ]; simp [icells]
                  have elen : b + (j - (b + 1)) = (V.eraseIdx b).length := by rw [List.length_eraseIdx_of_lt hbV]; have := HN.out; omega
                  rw [ecat, elen] at hown2
                  obtain ⟨hrw2, hge2⟩ := own_rw hown2 (ic_one _)
                  have ch10 : Chg [] w8 w10 := HC9.out.trans (grown_chg hgrow2) (fun z hz => Or.inr ((own_rw HOWN1.out (ic_one _)).2 z hz))
                  have HNX : Hid (PlI w (w10.setCell ⟨yb, 18, none⟩ v2) yb s most (k + 1) (V.eraseIdx b) v2 (.slice la8 (k + 1) cp8)) := HPJ.out.next HMN.out.1 HMN.out.2 hkm HC8.out HT1.out HO8.out ch10 hrw2 hge2
                  have hyb10 := ch10.blk HYB8.out (by simp)
                  have y10 : w10.cell? ⟨yb, 18, none⟩ = some (.slice (some ⟨hb, o, none⟩) j hcap) := by
                    have := blk_cell (i := 18) hyb10 rfl
                    rw [this]
                    exact congrArg some HIV.out
                  have f10 : w10.frozen? ⟨yb, 18, none⟩ = false := blk_free hyb10
                  have hyl10 := lt_of_block hyb10
                  obtain ⟨bs2, cp2, hv2⟩ := hrw2.val
                  subst hv2
                  have hkn : k + 1 ≤ s.is.length := HNX.out.le
                  clear hown2 hgrow2 ecat hrw2 hge2 ch10 hyb10
                  go_wp2_with fail
                  go_roundw
                  case rel => exact ⟨k + 1, V.eraseIdx b, _, HNX.out⟩
                  case measure => simp; omega
    · subst_eqs
      go_wp2
      go_ret
      exact HI.out.stop (Chg.refl _ _) (Or.inl (by have := HI.out.lim; omega))
end Go.Proofs.YtbdnhllhdjepcaaGreat
