import Derived.Test.YtbdnhllhdjepcaaGreatCRs
import Derived.Test.YtbdnhllhdjepcaaGreatCRm
import Derived.Lib.AppendZeros
namespace Go.Proofs.YtbdnhllhdjepcaaGreat
set_option linter.unusedVariables false
set_option linter.unusedSimpArgs false
open Go.RowKit Go.Maps

/-! ### turns -/
def tnV (ts : List (Int × Int)) (t : Int) : Int := ts.foldl (fun a e => if e.1 = t then e.2 else a) 0
theorem tn_skip {t : Int} : ∀ (B : List (Int × Int)) (a : Int), (∀ e ∈ B, e.1 ≠ t) → B.foldl (fun a e => if e.1 = t then e.2 else a) a = a
  | [], _, _ => rfl
  | e :: B, a, h => by
    rw [List.foldl_cons, if_neg (h e (by simp))]
    exact tn_skip B a (fun x hx => h x (by simp [hx]))
theorem tn_same {t : Int} : ∀ (B : List (Int × Int)) (a b : Int), (∃ e ∈ B, e.1 = t) → B.foldl (fun a e => if e.1 = t then e.2 else a) a = B.foldl (fun a e => if e.1 = t then e.2 else a) b
  | [], _, _, h => by obtain ⟨e, he, _⟩ := h; simp at he
  | e :: B, a, b, h => by
    rw [List.foldl_cons, List.foldl_cons]
    by_cases he : e.1 = t
    · rw [if_pos he, if_pos he]
    · rw [if_neg he, if_neg he]
      refine tn_same B a b ?_
      obtain ⟨x, hx, hxt⟩ := h
      rcases List.mem_cons.1 hx with rfl | hx
      · exact absurd hxt he
      · exact ⟨x, hx, hxt⟩
theorem tnV_snoc (ts : List (Int × Int)) (t a t' : Int) : tnV (ts ++ [(t, a)]) t' = if t' = t then a else tnV ts t' := by
  unfold tnV
  rw [List.foldl_append]
  by_cases h : t' = t
  · subst h; simp
  · rw [if_neg h, List.foldl_cons, List.foldl_nil, if_neg (fun e => h e.symm)]
def tnTo (ts : List (Int × Int)) (t : Int) : Nat → Int
  | 0 => -1
  | k + 1 => if (ts[k]?).map (·.1) = some t then (k : Int) else tnTo ts t k
theorem tnTo_spec (ts : List (Int × Int)) (t : Int) : ∀ k, k ≤ ts.length → (tnTo ts t k = -1 ∧ ∀ j (hj : j < ts.length), j < k → ts[j].1 ≠ t) ∨ ∃ i, ∃ hi : i < ts.length, i < k ∧ tnTo ts t k = (i : Int) ∧ ts[i].1 = t ∧ ∀ j (hj : j < ts.length), i < j → j < k → ts[j].1 ≠ t
  | 0, _ => Or.inl ⟨rfl, fun j _ h => by omega⟩
  | k + 1, hk => by
    have hkl : k < ts.length := by omega
    unfold tnTo
    rw [List.getElem?_eq_getElem hkl]
    by_cases h : ts[k].1 = t
    · right
      exact ⟨k, hkl, by omega, by simp [h], h, fun j _ h1 h2 => by omega⟩
    · have hh : ¬ (some ts[k]).map (·.1) = some t := by simpa using h
      rw [if_neg hh]
      rcases tnTo_spec ts t k (by omega) with ⟨h1, h2⟩ | ⟨i, hi, h1, h2, h3, h4⟩
      · exact Or.inl ⟨h1, fun j hj hjk => by
          by_cases e : j = k
          · subst e; exact h
          · exact h2 j hj (by omega)⟩
      · exact Or.inr ⟨i, hi, by omega, h2, h3, fun j hj h5 h6 => by
          by_cases e : j = k
          · subst e; exact h
          · exact h4 j hj h5 (by omega)⟩
theorem tn_cut (ts : List (Int × Int)) (i : Nat) (hi : i < ts.length) : ts = ts.take i ++ ts[i] :: ts.drop (i + 1) := by
  rw [← List.drop_eq_getElem_cons hi, List.take_append_drop]
theorem tn_cutset (ts : List (Int × Int)) (i : Nat) (hi : i < ts.length) (x : Int × Int) : ts.set i x = ts.take i ++ x :: ts.drop (i + 1) := by
  rw [List.set_eq_take_append_cons_drop, if_pos hi]
theorem tnV_of (ts : List (Int × Int)) (t : Int) : (tnTo ts t ts.length = -1 ∧ tnV ts t = 0) ∨ ∃ i, ∃ hi : i < ts.length, tnTo ts t ts.length = (i : Int) ∧ ts[i].1 = t ∧ tnV ts t = ts[i].2 ∧ ∀ a t', tnV (ts.set i (t, a)) t' = if t' = t then a else tnV ts t' := by
  rcases tnTo_spec ts t ts.length (Nat.le_refl _) with ⟨h1, h2⟩ | ⟨i, hi, h1, h2, h3, h4⟩
  · refine Or.inl ⟨h1, tn_skip ts 0 (fun e he => ?_)⟩
    obtain ⟨j, hj, rfl⟩ := List.getElem_of_mem he
    exact h2 j hj hj
  · have hno : ∀ e ∈ ts.drop (i + 1), e.1 ≠ t := fun e he => by
      obtain ⟨j, hj, rfl⟩ := List.getElem_of_mem he
      rw [List.getElem_drop]
      rw [List.length_drop] at hj
      exact h4 (i + 1 + j) (by omega) (by omega) (by omega)
    have hv : ∀ (x : Int × Int), x.1 = t → tnV (ts.take i ++ x :: ts.drop (i + 1)) t = x.2 := fun x hx => by
      unfold tnV
      rw [List.foldl_append, List.foldl_cons, if_pos hx, tn_skip _ _ hno]
    refine Or.inr ⟨i, hi, h2, h3, ?_, fun a t' => ?_⟩
    · have := hv ts[i] h3
      rw [← tn_cut ts i hi] at this
      exact this
    · by_cases e : t' = t
      · subst e
        rw [if_pos rfl, tn_cutset ts i hi]
        exact hv (t', a) rfl
      · rw [if_neg e, tn_cutset ts i hi]
        conv => rhs; rw [tn_cut ts i hi]
        unfold tnV
        rw [List.foldl_append, List.foldl_append, List.foldl_cons, List.foldl_cons, if_neg (fun h => e h.symm), if_neg (fun h => e (h.symm.trans h3))]

def Rf.due (s : Rf) (t : Int) : Int := max (tnV s.ts t) s.T
def U32 (x : Int) : Prop := 0 ≤ x ∧ x ≤ 4294967295
/-- an item taken in, on the document's side -/
structure SubS (s s' : Rf) (t x : Int) : Prop where
  c : s'.c = s.c
  T : s'.T = s.T
  os : s'.os = s.os
  ms : s'.ms = s.ms
  is : s'.is = s.is ++ [⟨t, x, s.due t⟩]
  len : s'.ts.length ≤ s.ts.length + 1
  tn : ∀ t', tnV s'.ts t' = if t' = t then s.due t + s.c.ev else tnV s.ts t'
  tw : ∀ e ∈ s'.ts, e ∈ s.ts ∨ e = (t, s.due t + s.c.ev)
structure PolS (s s' : Rf) (k : Nat) : Prop where
  c : s'.c = s.c
  T : s'.T = s.T
  os : s'.os = s.os
  ms : s'.ms = s.ms
  ts : s'.ts = s.ts
  is : isort s'.is = (isort s.is).drop k
  sub : ∀ i ∈ s'.is, i ∈ s.is
end Go.Proofs.YtbdnhllhdjepcaaGreat
namespace Go.Proofs.YtbdnhllhdjepcaaGreat
set_option linter.unusedVariables false
set_option linter.unusedSimpArgs false
open Go.RowKit Go.Maps

/-! ### the document's turns and items -/
theorem Tryz.info171 : (Tryz.prog.info? 171).map (fun i => (i.zero, i.size, i.bytes)) = some (some (.agg #[.int .u16 0, .int .u64 0]), 2, 16) := by kernel_rfl
theorem ek171 : ∃ i0, EK 111 171 i0 (.agg #[.int .u16 0, .int .u64 0]) 2 16 := by
  obtain ⟨i0, hi, hz0, hz1, hz2⟩ := info_parts Tryz.info171
  exact ⟨i0, ⟨Tryz.underlying111, hi, hz0, hz1, hz2, rfl, by decide, by decide, fun n => zero_one (by decide) (by decide) n⟩⟩
def Rf.turned (s : Rf) (v : Value) (l : List (Int × Int)) : Rf := { s with tv := v, ts := l }
theorem RefAt.laidT {w w' : World} {yb : Nat} {s : Rf} {l : List (Int × Int)} {v : Value} (h : RefAt w yb s) (hc : Chg (own s.tv) w w') (hr : Rw w' 171 2 v l.length (tncells l)) (ho : ∀ b ∈ own v, b ∈ own s.tv ∨ w.heap.size ≤ b) :
    RefAt (w'.setCell ⟨yb, 17, none⟩ v) yb (s.turned v l) ∧ RStp w (w'.setCell ⟨yb, 17, none⟩ v) yb s (s.turned v l) := by
  obtain ⟨n1, n2, n3, n4⟩ := h.ne_yb
  have hcs : Chg [yb] w' (w'.setCell ⟨yb, 17, none⟩ v) := (Chg.refl _ _).set _ _ (Or.inl (by simp))
  have hcc : Chg (yb :: own s.tv) w (w'.setCell ⟨yb, 17, none⟩ v) := (hc.mono (by simp; exact fun a ha => Or.inr ha)).trans hcs (by simp)
  have ap : ∀ {v : Value} {e : TypeId} {sz n : Nat} {cs : List Value}, Rw w e sz v n cs → e ≠ 171 → yb ∉ own v → ∀ b, v.ownBlock = some b → b ∉ yb :: own s.tv := fun hr' he hy b hb => by
    simp only [List.mem_cons, not_or]
    exact ⟨fun e => hy (e ▸ mem_own.2 hb), own_own hr' h.tns he b (mem_own.2 hb)⟩
  have hb' := blk_set (i := 17) v (hc.blk h.blk n3)
  refine ⟨⟨hb', h.ovs.chg hcc (ap h.ovs (by decide) n1), h.mks.chg hcc (ap h.mks (by decide) n2), hr.chg hcs (fun b hb => by simp only [List.mem_cons, List.not_mem_nil, or_false]; rintro rfl; exact own_ty hr (hc.blk h.blk n3) (by decide) (mem_own.2 hb)), h.its.chg hcc (ap h.its (by decide) n4)⟩, ⟨hcc.mono (fun b hb => by simp only [List.mem_cons] at hb; rcases hb with rfl | hb <;> simp [Rf.fp, *]), fun b hb => ?_⟩⟩
  simp only [Rf.fp, Rf.turned, List.mem_append, List.mem_cons, List.not_mem_nil, or_false] at hb ⊢
  rcases hb with (((hb | hb) | hb) | hb) | hb
  · exact Or.inl (Or.inl (Or.inl (Or.inl (Or.inl hb))))
  · exact Or.inl (Or.inl (Or.inl (Or.inl (Or.inr hb))))
  · exact Or.inl (Or.inl (Or.inl (Or.inr hb)))
  · rcases ho b hb with hb | hc'
    · exact Or.inl (Or.inl (Or.inr hb))
    · exact Or.inr hc'
  · exact Or.inl (Or.inr hb)
def Rf.itemed (s : Rf) (v : Value) (l : List It) : Rf := { s with iv := v, is := l }
theorem RefAt.laidI {w w' : World} {yb : Nat} {s : Rf} {l : List It} {v : Value} (h : RefAt w yb s) (hc : Chg (own s.iv) w w') (hr : Rw w' 123 3 v l.length (icells l)) (ho : ∀ b ∈ own v, b ∈ own s.iv ∨ w.heap.size ≤ b) :
    RefAt (w'.setCell ⟨yb, 18, none⟩ v) yb (s.itemed v l) ∧ RStp w (w'.setCell ⟨yb, 18, none⟩ v) yb s (s.itemed v l) := by
  obtain ⟨n1, n2, n3, n4⟩ := h.ne_yb
  have hcs : Chg [yb] w' (w'.setCell ⟨yb, 18, none⟩ v) := (Chg.refl _ _).set _ _ (Or.inl (by simp))
  have hcc : Chg (yb :: own s.iv) w (w'.setCell ⟨yb, 18, none⟩ v) := (hc.mono (by simp; exact fun a ha => Or.inr ha)).trans hcs (by simp)
  have ap : ∀ {v : Value} {e : TypeId} {sz n : Nat} {cs : List Value}, Rw w e sz v n cs → e ≠ 123 → yb ∉ own v → ∀ b, v.ownBlock = some b → b ∉ yb :: own s.iv := fun hr' he hy b hb => by
    simp only [List.mem_cons, not_or]
    exact ⟨fun e => hy (e ▸ mem_own.2 hb), own_own hr' h.its he b (mem_own.2 hb)⟩
  have hb' := blk_set (i := 18) v (hc.blk h.blk n4)
  refine ⟨⟨hb', h.ovs.chg hcc (ap h.ovs (by decide) n1), h.mks.chg hcc (ap h.mks (by decide) n2), h.tns.chg hcc (ap h.tns (by decide) n3), hr.chg hcs (fun b hb => by simp only [List.mem_cons, List.not_mem_nil, or_false]; rintro rfl; exact own_ty hr (hc.blk h.blk n4) (by decide) (mem_own.2 hb))⟩, ⟨hcc.mono (fun b hb => by simp only [List.mem_cons] at hb; rcases hb with rfl | hb <;> simp [Rf.fp, *]), fun b hb => ?_⟩⟩
  simp only [Rf.fp, Rf.itemed, List.mem_append, List.mem_cons, List.not_mem_nil, or_false] at hb ⊢
  rcases hb with (((hb | hb) | hb) | hb) | hb
  · exact Or.inl (Or.inl (Or.inl (Or.inl (Or.inl hb))))
  · exact Or.inl (Or.inl (Or.inl (Or.inl (Or.inr hb))))
  · exact Or.inl (Or.inl (Or.inl (Or.inr hb)))
  · exact Or.inl (Or.inl (Or.inr hb))
  · rcases ho b hb with hb | hc'
    · exact Or.inl (Or.inr hb)
    · exact Or.inr hc'
theorem RefAt.addT {W : World} {yb : Nat} {s : Rf} (h : RefAt W yb s) (t : Int) (hlen : s.ts.length ≤ 5000000000000) :
    ∃ la cap w', (Builtin.append_ #[111, 111] 111 #[s.tv, .slice (some ⟨W.heap.size, 0, none⟩) 1 1]).run Tryz.prog (W.alloc (.cells #[.int .u16 t, .int .u64 0] 171)) = .ok (.slice la (s.ts.length + 1) cap) w' ∧ w'.cell? ⟨yb, 17, none⟩ = some s.tv ∧ w'.frozen? ⟨yb, 17, none⟩ = false ∧ yb < w'.heap.size ∧
      RefAt (w'.setCell ⟨yb, 17, none⟩ (.slice la (s.ts.length + 1) cap)) yb (s.turned (.slice la (s.ts.length + 1) cap) (s.ts ++ [(t, 0)])) ∧ RStp W (w'.setCell ⟨yb, 17, none⟩ (.slice la (s.ts.length + 1) cap)) yb s (s.turned (.slice la (s.ts.length + 1) cap) (s.ts ++ [(t, 0)])) := by
  have hA : Chg [] W (W.alloc (.cells #[.int .u16 t, .int .u64 0] 171)) := (Chg.refl _ _).alloc _
  have h' := h.chg hA (by simp)
  have hn := heap_alloc_new W (.cells [.int .u16 t, .int .u64 0].toArray 171)
  obtain ⟨i0, ek⟩ := ek171
  obtain ⟨v', w', h1, h2, h3, h4⟩ := run_app ek (W.alloc (.cells #[.int .u16 t, .int .u64 0] 171)) 111 s.tv s.ts.length (tncells s.ts) h'.tns ⟨W.heap.size, 0, none⟩ 1 1 [.int .u16 t, .int .u64 0] rfl (fun j x hj => by rw [Addr.add_mid, Nat.zero_add]; exact blk_cell hn hj) (fun x hx => by simp at hx; rcases hx with rfl | rfl <;> rfl) (by decide) (by omega)
  obtain ⟨la8, cp8, rfl⟩ := h2.val
  have hcat : tncells s.ts ++ [.int .u16 t, .int .u64 0] = tncells (s.ts ++ [(t, 0)]) := by simp [tncells, tnc]
  rw [hcat] at h2
  have nb := h.ne_yb.2.2.1
  have hc : Chg (own s.tv) (W.alloc (.cells #[.int .u16 t, .int .u64 0] 171)) w' := Chg.of_grown h3 (fun b hb => mem_own.2 hb)
  have hb := hc.blk h'.blk nb
  obtain ⟨p1, p2⟩ := h'.laidT (l := s.ts ++ [(t, 0)]) (v := .slice la8 (s.ts.length + 1) cp8) hc (by rw [List.length_append]; exact h2) (fun b hb => by rcases h4 with e | e; (rw [own_eq e] at hb; exact Or.inl hb); (rw [mem_own, e] at hb; cases hb; exact Or.inr (Nat.le_refl _)))
  exact ⟨la8, cp8, w', h1, blk_cell (i := 17) hb rfl, blk_free hb, lt_of_block hb, p1, (RStp.of0 hA).trans p2⟩
theorem RefAt.addI {W : World} {yb : Nat} {s : Rf} (h : RefAt W yb s) (t x d : Int) (hlen : s.is.length ≤ 5000000000000) :
    ∃ la cap w', (Builtin.append_ #[112, 112] 112 #[s.iv, .slice (some ⟨W.heap.size, 0, none⟩) 1 1]).run Tryz.prog (W.alloc (.cells #[.int .u16 t, .int .u32 x, .int .u64 d] 123)) = .ok (.slice la (s.is.length + 1) cap) w' ∧ w'.cell? ⟨yb, 18, none⟩ = some s.iv ∧ w'.frozen? ⟨yb, 18, none⟩ = false ∧ yb < w'.heap.size ∧
      RefAt (w'.setCell ⟨yb, 18, none⟩ (.slice la (s.is.length + 1) cap)) yb (s.itemed (.slice la (s.is.length + 1) cap) (s.is ++ [⟨t, x, d⟩])) ∧ RStp W (w'.setCell ⟨yb, 18, none⟩ (.slice la (s.is.length + 1) cap)) yb s (s.itemed (.slice la (s.is.length + 1) cap) (s.is ++ [⟨t, x, d⟩])) := by
  have hA : Chg [] W (W.alloc (.cells #[.int .u16 t, .int .u32 x, .int .u64 d] 123)) := (Chg.refl _ _).alloc _
  have h' := h.chg hA (by simp)
  have hn := heap_alloc_new W (.cells [.int .u16 t, .int .u32 x, .int .u64 d].toArray 123)
  obtain ⟨i0, ek⟩ := ek75
  obtain ⟨v', w', h1, h2, h3, h4⟩ := run_app ek (W.alloc (.cells #[.int .u16 t, .int .u32 x, .int .u64 d] 123)) 112 s.iv s.is.length (icells s.is) h'.its ⟨W.heap.size, 0, none⟩ 1 1 [.int .u16 t, .int .u32 x, .int .u64 d] rfl (fun j x hj => by rw [Addr.add_mid, Nat.zero_add]; exact blk_cell hn hj) (fun x hx => by simp at hx; rcases hx with rfl | rfl | rfl <;> rfl) (by decide) (by omega)
  obtain ⟨la8, cp8, rfl⟩ := h2.val
  have hcat : icells s.is ++ [.int .u16 t, .int .u32 x, .int .u64 d] = icells (s.is ++ [⟨t, x, d⟩]) := by simp [icells, icl]
  rw [hcat] at h2
  have nb := h.ne_yb.2.2.2
  have hc : Chg (own s.iv) (W.alloc (.cells #[.int .u16 t, .int .u32 x, .int .u64 d] 123)) w' := Chg.of_grown h3 (fun b hb => mem_own.2 hb)
  have hb := hc.blk h'.blk nb
  obtain ⟨p1, p2⟩ := h'.laidI (l := s.is ++ [⟨t, x, d⟩]) (v := .slice la8 (s.is.length + 1) cp8) hc (by rw [List.length_append]; exact h2) (fun b hb => by rcases h4 with e | e; (rw [own_eq e] at hb; exact Or.inl hb); (rw [mem_own, e] at hb; cases hb; exact Or.inr (Nat.le_refl _)))
  exact ⟨la8, cp8, w', h1, blk_cell (i := 18) hb rfl, blk_free hb, lt_of_block hb, p1, (RStp.of0 hA).trans p2⟩
theorem tn_set (ts : List (Int × Int)) (i : Nat) (hi : i < ts.length) (x : Int) : (tncells ts).set (i * 2 + 1) (.int .u64 x) = tncells (ts.set i (ts[i].1, x)) := fm_set tnc_len (fun e => (e.1, x)) 1 (.int .u64 x) (by decide) (fun _ => rfl) ts i hi
theorem tn_at (ts : List (Int × Int)) (j : Nat) (hj : j < ts.length) (i : Nat) (hi : i < 2) : (tncells ts)[j * 2 + i]? = (tnc ts[j])[i]? := fm_at tnc_len ts j hj i hi
/-- a turn is set in its place -/
theorem RefAt.setT {w : World} {yb : Nat} {s : Rf} (h : RefAt w yb s) {lb lof n cap i : Nat} (hv : s.tv = .slice (some ⟨lb, lof, none⟩) n cap) (hi : i < s.ts.length) (x : Int) :
    w.frozen? ⟨lb, lof + i * 2 + 1, none⟩ = false ∧ RefAt (w.setCell ⟨lb, lof + i * 2 + 1, none⟩ (.int .u64 x)) yb (s.turned s.tv (s.ts.set i (s.ts[i].1, x))) ∧ RStp w (w.setCell ⟨lb, lof + i * 2 + 1, none⟩ (.int .u64 x)) yb s (s.turned s.tv (s.ts.set i (s.ts[i].1, x))) := by
  obtain ⟨n1, n2, n3, n4⟩ := h.ne_yb
  have hr := h.tns
  have hn : n = s.ts.length := by
    obtain ⟨bs, cp, e⟩ := hr.val
    rw [hv] at e
    injection e
  subst hn
  rw [hv] at hr
  have hc : Chg (own s.tv) w (w.setCell ⟨lb, lof + i * 2 + 1, none⟩ (.int .u64 x)) := (Chg.refl _ _).set _ _ (Or.inl (by rw [hv]; simp [own, Value.ownBlock]))
  have ap : ∀ {v : Value} {e : TypeId} {sz n : Nat} {cs : List Value}, Rw w e sz v n cs → e ≠ 171 → ∀ b, v.ownBlock = some b → b ∉ own s.tv := fun hr' he b hb => own_own hr' h.tns he b (mem_own.2 hb)
  have hset := hr.set (j := i * 2 + 1) (u := .int .u64 x) (by rw [hr.1]; omega) rfl
  rw [tn_set s.ts i hi x, ← Nat.add_assoc] at hset
  refine ⟨?_, ⟨hc.blk h.blk n3, h.ovs.chg hc (ap h.ovs (by decide)), h.mks.chg hc (ap h.mks (by decide)), ?_, h.its.chg hc (ap h.its (by decide))⟩, ⟨hc.mono (fun b hb => by simp [Rf.fp, hb]), fun b hb => Or.inl hb⟩⟩
  · rcases hr.2.2 with ⟨hv', _⟩ | ⟨b', cap', P, R, hv', hg, _⟩
    · cases hv'
    · injection hv' with x1
      injection x1 with x1
      injection x1 with x1
      subst x1
      exact blk_free hg
  · show Rw _ 171 2 s.tv (s.ts.set i (s.ts[i].1, x)).length _
    rw [List.length_set, hv]
    exact hset
/-- what becomes of an item, by the document -/
def SubR (w w' : World) (yb : Nat) (s : Rf) (t x : Int) (e : Ending) : Prop :=
  (s.c.de < s.due t - s.T → e = .returned (.tuple #[.int .i64 4, .int .u64 0]) ∧ Chg [] w w') ∧
  (s.due t - s.T ≤ s.c.de → s.c.qu ≤ s.is.length → e = .returned (.tuple #[.int .i64 5, .int .u64 0]) ∧ Chg [] w w') ∧
  (s.due t - s.T ≤ s.c.de → (s.is.length : Int) < s.c.qu → e = .returned (.tuple #[.int .i64 3, .int .u64 (s.due t)]) ∧ ∃ s', SubS s s' t x ∧ RefAt w' yb s' ∧ RStp w w' yb s s')
theorem SubR.late {w w' : World} {yb : Nat} {s : Rf} {t x d : Int} (hd : s.due t = d) (h : s.c.de < d - s.T) (hc : Chg [] w w') : SubR w w' yb s t x (.returned (.tuple #[.int .i64 4, .int .u64 0])) := by
  subst hd
  exact ⟨fun _ => ⟨rfl, hc⟩, fun h1 => by omega, fun h1 => by omega⟩
theorem SubR.full {w w' : World} {yb : Nat} {s : Rf} {t x d : Int} (hd : s.due t = d) (h : d - s.T ≤ s.c.de) (hq : s.c.qu ≤ s.is.length) (hc : Chg [] w w') : SubR w w' yb s t x (.returned (.tuple #[.int .i64 5, .int .u64 0])) := by
  subst hd
  exact ⟨fun h1 => by omega, fun _ _ => ⟨rfl, hc⟩, fun _ h1 => by omega⟩
theorem SubR.taken {w w' : World} {yb : Nat} {s s' : Rf} {t x d : Int} (hd : s.due t = d) (h : d - s.T ≤ s.c.de) (hq : (s.is.length : Int) < s.c.qu) (hs : SubS s s' t x) (hr : RefAt w' yb s') (hp : RStp w w' yb s s') : SubR w w' yb s t x (.returned (.tuple #[.int .i64 3, .int .u64 d])) := by
  subst hd
  exact ⟨fun h1 => by omega, fun _ h1 => by omega, fun _ _ => ⟨rfl, s', hs, hr, hp⟩⟩
theorem SubS.old {s : Rf} {t x d : Int} {v v' : Value} {i : Nat} (hi : i < s.ts.length) (hd : s.due t = d) (ht : s.ts[i].1 = t) (h4 : ∀ a t', tnV (s.ts.set i (t, a)) t' = if t' = t then a else tnV s.ts t') : SubS s ((s.turned v (s.ts.set i (s.ts[i].1, d + s.c.ev))).itemed v' (s.is ++ [⟨t, x, d⟩])) t x := by
  subst hd
  rw [ht]
  refine ⟨rfl, rfl, rfl, rfl, rfl, ?_, h4 _, fun e he => ?_⟩
  · show (s.ts.set i _).length ≤ _
    rw [List.length_set]
    omega
  · rcases List.mem_or_eq_of_mem_set he with he | he
    · exact Or.inl he
    · exact Or.inr he
theorem SubS.fresh {s : Rf} {t x d : Int} {v0 v v' : Value} (hi : s.ts.length < (s.ts ++ [(t, (0 : Int))]).length) (hd : s.due t = d) : SubS s (((s.turned v0 (s.ts ++ [(t, 0)])).turned v ((s.ts ++ [(t, 0)]).set s.ts.length (((s.ts ++ [(t, 0)])[s.ts.length]'hi).1, d + s.c.ev))).itemed v' (s.is ++ [⟨t, x, d⟩])) t x := by
  subst hd
  have e1 : (s.ts ++ [(t, (0 : Int))]).set s.ts.length (((s.ts ++ [(t, (0 : Int))])[s.ts.length]'hi).1, s.due t + s.c.ev) = s.ts ++ [(t, s.due t + s.c.ev)] := by
    rw [List.set_append_right _ _ (Nat.le_refl _)]
    simp
  rw [e1]
  refine ⟨rfl, rfl, rfl, rfl, rfl, ?_, fun t' => tnV_snoc _ _ _ _, fun e he => ?_⟩
  · show (s.ts ++ [_]).length ≤ _
    simp
  · rcases List.mem_append.1 he with he | he
    · exact Or.inl he
    · exact Or.inr (by simpa using he)
set_option maxRecDepth 100000 in
set_option maxHeartbeats 4000000 in
theorem submit_ref (yb : Nat) (s : Rf) (t x : Int) (w : World) (h : RefAt w yb s) (ht : U16 t) (hT : 0 ≤ s.T ∧ s.T ≤ 9223372036854775807) (hev : 1 ≤ s.c.ev ∧ s.c.ev ≤ 4611686018427387904) (hde : 0 ≤ s.c.de ∧ s.c.de ≤ 4611686018427387904) (hlen : s.ts.length ≤ 1000000000000) (hil : s.is.length ≤ 1000) (htw : ∀ e ∈ s.ts, U16 e.1 ∧ 0 ≤ e.2 ∧ e.2 ≤ 18446744073709551615) :
    Calls Tryz.prog 41 #[.pointer (some ⟨yb, 0, none⟩), .int .u16 t, .int .u32 x] w fun e w' => SubR w w' yb s t x e := by
  have HR : Hid (RefAt w yb s) := h
  have HTW : Hid (∀ e ∈ s.ts, U16 e.1 ∧ 0 ≤ e.2 ∧ e.2 ≤ 18446744073709551615) := htw
  obtain ⟨la, lb, lof, cap, hv, hla, hl0, hlt, hcell⟩ := h.tns.laid
  obtain ⟨ila, ilb, ilof, icap, hiv, hila, hil0, hilt, hicell⟩ := h.its.laid
  have hyl := lt_of_block h.blk
  have y17 : w.cell? ⟨yb, 17, none⟩ = some s.tv := blk_cell (i := 17) h.blk rfl
  rw [hv] at y17
  have HV : Hid (s.tv = .slice la s.ts.length cap) := hv
  have HIV : Hid (s.iv = .slice ila s.is.length icap) := hiv
  have HCE : Hid (∀ j u, (tncells s.ts)[j]? = some u → w.cell? ⟨lb, lof + j, none⟩ = some u) := hcell
  have HLA : Hid (0 < s.ts.length → la = some ⟨lb, lof, none⟩ ∧ s.tv.ownBlock = some lb) := hla
  have HLT : Hid (0 < s.ts.length → lb < w.heap.size) := hlt
  have HSPEC : Hid (∀ k, k ≤ s.ts.length → _) := tnTo_spec s.ts t
  have HVOF : Hid _ := tnV_of s.ts t
  clear h hcell hla hlt hv hiv hila hil0 hilt hicell htw
  obtain ⟨t0, t1⟩ := ht
  obtain ⟨T0, T1⟩ := hT
  obtain ⟨ev0, ev1⟩ := hev
  obtain ⟨de0, de1⟩ := hde
  go_enter Tryz.func41, Tryz.ntmps41
  go_wp2_with fail
  go_loopw [8, 9] (fun a i wr => ∃ k : Nat, a = .int .i64 (tnTo s.ts t k) ∧ i = .int .i64 k ∧ k ≤ s.ts.length ∧ wr = w) (fun _ i _ => s.ts.length - (intOf i).toNat)
  case atStart => exact ⟨0, rfl, rfl, by omega, rfl⟩
  case round =>
    obtain ⟨k, rfl, rfl, hk, rfl⟩ := hrel
    by_cases hlt : k < s.ts.length
    · obtain ⟨rfl, _⟩ := HLA.out (by omega)
      have hlb := HLT.out (by omega)
      have hk2 : (k : Int) < (s.ts.length : Int) := by omega
      have hstep : tnTo s.ts t (k + 1) = if s.ts[k].1 = t then (k : Int) else tnTo s.ts t k := by
        show (if (s.ts[k]?).map (·.1) = some t then (k : Int) else tnTo s.ts t k) = _
        rw [List.getElem?_eq_getElem hlt]
        simp
      have d0 : wr.cell? ⟨lb, lof + k * 2, none⟩ = some (.int .u16 s.ts[k].1) := HCE.out (k * 2 + 0) _ (by rw [tn_at _ k hlt 0 (by decide)]; rfl)
      obtain ⟨a, ha⟩ : ∃ a, a = s.ts[k].1 := ⟨_, rfl⟩
      rw [← ha] at d0 hstep
      clear ha
      have HST : Hid _ := hstep
      obtain ⟨at0, hat0⟩ : ∃ z, z = tnTo s.ts t k := ⟨_, rfl⟩
      have HAT0 : Hid (at0 = tnTo s.ts t k) := hat0
      rw [← hat0]
      clear hstep hat0
      by_cases he : a = t
      · go_wp2_with fail
        go_roundw
        case rel => exact ⟨k + 1, by rw [HST.out, if_pos he], by go_num, by omega, by first | rfl | trivial⟩
        case measure => simp [intOf]; omega
      · go_wp2_with fail
        go_roundw
        case rel => exact ⟨k + 1, by rw [HST.out, if_neg he, ← HAT0.out], by go_num, by omega, by first | rfl | trivial⟩
        case measure => simp [intOf]; omega
    · have hk2 : ¬ (k : Int) < (s.ts.length : Int) := by omega
      obtain rfl : k = s.ts.length := by omega
      have y15 : wr.cell? ⟨yb, 15, none⟩ = some (.int .u64 s.T) := blk_cell (i := 15) HR.out.blk rfl
      have y18 : wr.cell? ⟨yb, 18, none⟩ = some (.slice ila s.is.length icap) := by rw [← HIV.out]; exact blk_cell (i := 18) HR.out.blk rfl
      have c12 : wr.cell? ⟨yb, 12, none⟩ = some (.int .i64 s.c.ev) := blk_cell (i := 12) HR.out.blk rfl
      have c13 : wr.cell? ⟨yb, 13, none⟩ = some (.int .i64 s.c.de) := blk_cell (i := 13) HR.out.blk rfl
      have c14 : wr.cell? ⟨yb, 14, none⟩ = some (.int .i64 s.c.qu) := blk_cell (i := 14) HR.out.blk rfl
      rcases HVOF.out with ⟨v1, v2⟩ | ⟨i, hi, v1, v2, v3, v4⟩
      · rw [v1]
        have HDU : Hid (s.due t = s.T) := by show _ = _; unfold Rf.due; rw [v2]; omega
        have hz : ¬ s.c.de < 0 := by omega
        clear v1 v2
        by_cases hfull : s.c.qu ≤ (s.is.length : Int)
        · go_wp2_with fail
          go_region
          go_wp2_with fail
          go_region
          go_wp2
          go_ret2
          exact SubR.full HDU.out (by omega) hfull (by repeat (first | exact Chg.refl _ _ | apply Chg.drew))
        · have hnf : ¬ s.c.qu ≤ (s.is.length : Int) := hfull
          go_wp2_with fail
          go_region
          go_wp2_with fail
          go_region
          obtain ⟨W3, hW3⟩ : ∃ W3, W3 = wr.drew.drew := ⟨_, rfl⟩
          rw [← hW3]
          have hc3 : Chg [] wr W3 := hW3 ▸ (by repeat (first | exact Chg.refl _ _ | apply Chg.drew))
          clear hW3
          have hR3 := HR.out.chg hc3 (by simp)
          obtain ⟨la7, cp7, w7, hr7, z17, zf7, zl7, P1, P2⟩ := hR3.addT t (by omega)
          have HR7 : Hid ((Builtin.append_ #[111, 111] 111 #[.slice la s.ts.length cap, .slice (some ⟨W3.heap.size, 0, none⟩) 1 1]).run Tryz.prog (W3.alloc (.cells #[.int .u16 t, .int .u64 0] 171)) = .ok (.slice la7 (s.ts.length + 1) cp7) w7) := by
            show _ = _
            rw [← HV.out]
            exact hr7
          rw [HV.out] at z17
          have x17 : W3.cell? ⟨yb, 17, none⟩ = some (.slice la s.ts.length cap) := by rw [← HV.out]; exact blk_cell (i := 17) hR3.blk rfl
          have hyl3 := lt_of_block hR3.blk
          obtain ⟨w9, hw9⟩ : ∃ w9, w9 = w7.setCell ⟨yb, 17, none⟩ (.slice la7 (s.ts.length + 1) cp7) := ⟨_, rfl⟩
          rw [← hw9] at P1 P2
          have k9 : w7.setCell ⟨yb, 17, none⟩ (.slice la7 (s.ts.length + 1) cp7) = w9 := hw9.symm
          clear hw9 hr7
          obtain ⟨la9, lb9, lof9, cap9, hv9, hla9, _, hlt9, hcell9⟩ := P1.tns.laid
          have hl9 : (s.turned (.slice la7 (s.ts.length + 1) cp7) (s.ts ++ [(t, 0)])).ts.length = s.ts.length + 1 := by show (s.ts ++ [(t, 0)]).length = _; simp
          rw [hl9] at hla9 hlt9 hv9
          have hv9' : Value.slice la7 (s.ts.length + 1) cp7 = .slice la9 (s.ts.length + 1) cap9 := hv9
          injection hv9' with e1 e2 e3
          obtain ⟨e4, _⟩ := hla9 (by omega)
          have hlb9 := hlt9 (by omega)
          rw [e4] at e1
          subst e1
          clear e2
          subst e3
          have hi9 : s.ts.length < (s.ts ++ [(t, (0 : Int))]).length := by simp
          have d1 : w9.cell? ⟨lb9, lof9 + s.ts.length * 2 + 1, none⟩ = some (.int .u64 0) := by
            rw [Nat.add_assoc]
            exact hcell9 _ _ (by rw [show (s.turned (.slice (some ⟨lb9, lof9, none⟩) (s.ts.length + 1) cp7) (s.ts ++ [(t, 0)])).ts = s.ts ++ [(t, 0)] from rfl, tn_at _ s.ts.length hi9 1 (by decide)]; simp [tnc])
          obtain ⟨fz, q1, q2⟩ := P1.setT (i := s.ts.length) (n := s.ts.length + 1) (cap := cp7) rfl hi9 (s.T + s.c.ev)
          have HQ1 : Hid (RefAt (w9.setCell ⟨lb9, lof9 + s.ts.length * 2 + 1, none⟩ (.int .u64 (s.T + s.c.ev))) yb _ ∧ RStp wr (w9.setCell ⟨lb9, lof9 + s.ts.length * 2 + 1, none⟩ (.int .u64 (s.T + s.c.ev))) yb s _) := ⟨q1, (RStp.of0 hc3).trans (P2.trans q2)⟩
          have y17 : w9.cell? ⟨yb, 17, none⟩ = some (.slice (some ⟨lb9, lof9, none⟩) (s.ts.length + 1) cp7) := blk_cell (i := 17) P1.blk rfl
          have c12 : w9.cell? ⟨yb, 12, none⟩ = some (.int .i64 s.c.ev) := blk_cell (i := 12) P1.blk rfl
          have hyl9 := lt_of_block P1.blk
          have hi2 : (s.ts.length : Int) < ((s.ts.length + 1 : Nat) : Int) := by omega
          clear q1 q2 P1 P2 hcell9 hla9 hlt9 hv9 e4 hl9 hR3 hc3
          go_wp2_with (at_builtin; refine Lib.wpList_append_run _ rfl _ _ _ _ rfl _ _ rfl rfl _ _ HR7.out ?_)
          go_region
          obtain ⟨W4, hW4⟩ : ∃ W4, W4 = (w9.setCell ⟨lb9, lof9 + s.ts.length * 2 + 1, none⟩ (.int .u64 (s.T + s.c.ev))).drew := ⟨_, rfl⟩
          rw [← hW4]
          have hc4 : Chg [] (w9.setCell ⟨lb9, lof9 + s.ts.length * 2 + 1, none⟩ (.int .u64 (s.T + s.c.ev))) W4 := hW4 ▸ (by repeat (first | exact Chg.refl _ _ | apply Chg.drew))
          clear hW4
          have hR4 := HQ1.out.1.chg hc4 (by simp)
          obtain ⟨la8, cp8, w8, hr8, z18, zf, zl, P1, P2⟩ := hR4.addI t x s.T (by show s.is.length ≤ _; omega)
          have HR8 : Hid ((Builtin.append_ #[112, 112] 112 #[.slice ila s.is.length icap, .slice (some ⟨W4.heap.size, 0, none⟩) 1 1]).run Tryz.prog (W4.alloc (.cells #[.int .u16 t, .int .u32 x, .int .u64 s.T] 123)) = .ok (.slice la8 (s.is.length + 1) cp8) w8) := by
            show _ = _
            rw [← HIV.out]
            exact hr8
          have z18' : w8.cell? ⟨yb, 18, none⟩ = some (.slice ila s.is.length icap) := by rw [← HIV.out]; exact z18
          have y18' : W4.cell? ⟨yb, 18, none⟩ = some (.slice ila s.is.length icap) := by rw [← HIV.out]; exact blk_cell (i := 18) hR4.blk rfl
          have hyl4 := lt_of_block hR4.blk
          have HP1 : Hid _ := P1
          have HP2 : Hid (RStp wr (w8.setCell ⟨yb, 18, none⟩ (.slice la8 (s.is.length + 1) cp8)) yb s _) := HQ1.out.2.trans ((RStp.of0 hc4).trans P2)
          clear P1 P2 hr8 z18 hR4 hc4
          go_wp2_with (at_builtin; refine Lib.wpList_append_run _ rfl _ _ _ _ rfl _ _ rfl rfl _ _ HR8.out ?_)
          go_ret2
          exact SubR.taken HDU.out (by omega) (by omega) (SubS.fresh hi9 HDU.out) HP1.out HP2.out
      · rw [v1]
        obtain ⟨e, he⟩ : ∃ e, e = s.ts[i].2 := ⟨_, rfl⟩
        rw [← he] at v3
        obtain ⟨rfl, _⟩ := HLA.out (by omega)
        have hlb := HLT.out (by omega)
        have d1 : wr.cell? ⟨lb, lof + i * 2 + 1, none⟩ = some (.int .u64 e) := by rw [he, Nat.add_assoc]; exact HCE.out (i * 2 + 1) _ (by rw [tn_at _ i hi 1 (by decide)]; rfl)
        have he2 := (HTW.out _ (List.getElem_mem hi)).2
        rw [← he] at he2
        obtain ⟨e0, e1⟩ := he2
        have HE : Hid (e = s.ts[i].2 ∧ s.ts[i].1 = t) := ⟨he, v2⟩
        have HV4 : Hid (∀ a t', tnV (s.ts.set i (t, a)) t' = if t' = t then a else tnV s.ts t') := v4
        have hi2 : (i : Int) < (s.ts.length : Int) := by omega
        have hi0 : ¬ (i : Int) < 0 := by omega
        by_cases hlate : s.T < e
        · have HDU : Hid (s.due t = e) := by show _ = _; unfold Rf.due; rw [v3]; omega
          clear v1 v2 v3 v4 he
          by_cases hla2 : s.c.de < e - s.T
          · go_wp2_with fail
            go_region
            go_wp2
            go_ret2
            exact SubR.late HDU.out hla2 (by repeat (first | exact Chg.refl _ _ | apply Chg.drew))
          · by_cases hfull : s.c.qu ≤ (s.is.length : Int)
            · go_wp2_with fail
              go_region
              go_wp2_with fail
              go_region
              go_wp2
              go_ret2
              exact SubR.full HDU.out (by omega) hfull (by repeat (first | exact Chg.refl _ _ | apply Chg.drew))
            · obtain ⟨fz, q1, q2⟩ := HR.out.setT (i := i) HV.out hi (e + s.c.ev)
              have HQ1 : Hid (RefAt (wr.setCell ⟨lb, lof + i * 2 + 1, none⟩ (.int .u64 (e + s.c.ev))) yb (s.turned s.tv (s.ts.set i (s.ts[i].1, e + s.c.ev))) ∧ RStp wr (wr.setCell ⟨lb, lof + i * 2 + 1, none⟩ (.int .u64 (e + s.c.ev))) yb s (s.turned s.tv (s.ts.set i (s.ts[i].1, e + s.c.ev)))) := ⟨q1, q2⟩
              clear q1 q2
              go_wp2_with fail
              go_region
              go_wp2_with fail
              go_region
              go_wp2_with fail
              go_region
              obtain ⟨W4, hW4⟩ : ∃ W4, W4 = (wr.setCell ⟨lb, lof + i * 2 + 1, none⟩ (.int .u64 (e + s.c.ev))).drew.drew.drew := ⟨_, rfl⟩
              rw [← hW4]
              have hc4 : Chg [] (wr.setCell ⟨lb, lof + i * 2 + 1, none⟩ (.int .u64 (e + s.c.ev))) W4 := hW4 ▸ (by repeat (first | exact Chg.refl _ _ | apply Chg.drew))
              clear hW4
              have hR4 := HQ1.out.1.chg hc4 (by simp)
              obtain ⟨la8, cp8, w8, hr8, z18, zf, zl, P1, P2⟩ := hR4.addI t x e (by show s.is.length ≤ _; omega)
              have HR8 : Hid ((Builtin.append_ #[112, 112] 112 #[.slice ila s.is.length icap, .slice (some ⟨W4.heap.size, 0, none⟩) 1 1]).run Tryz.prog (W4.alloc (.cells #[.int .u16 t, .int .u32 x, .int .u64 e] 123)) = .ok (.slice la8 (s.is.length + 1) cp8) w8) := by
                show _ = _
                rw [← HIV.out]
                exact hr8
              have z18' : w8.cell? ⟨yb, 18, none⟩ = some (.slice ila s.is.length icap) := by rw [← HIV.out]; exact z18
              have y18' : W4.cell? ⟨yb, 18, none⟩ = some (.slice ila s.is.length icap) := by rw [← HIV.out]; exact blk_cell (i := 18) hR4.blk rfl
              have hyl4 := lt_of_block hR4.blk
              have HP1 : Hid _ := P1
              have HP2 : Hid (RStp wr (w8.setCell ⟨yb, 18, none⟩ (.slice la8 (s.is.length + 1) cp8)) yb s _) := HQ1.out.2.trans ((RStp.of0 hc4).trans P2)
              clear P1 P2 hr8 z18 hR4 hc4
              go_wp2_with (at_builtin; refine Lib.wpList_append_run _ rfl _ _ _ _ rfl _ _ rfl rfl _ _ HR8.out ?_)
              go_ret2
              exact SubR.taken HDU.out (by omega) (by omega) (SubS.old hi HDU.out HE.out.2 HV4.out) HP1.out HP2.out
        · have HDU : Hid (s.due t = s.T) := by show _ = _; unfold Rf.due; rw [v3]; omega
          have hz : ¬ s.c.de < 0 := by omega
          clear v1 v2 v3 v4 he
          by_cases hfull : s.c.qu ≤ (s.is.length : Int)
          · go_wp2_with fail
            go_region
            go_wp2_with fail
            go_region
            go_wp2
            go_ret2
            exact SubR.full HDU.out (by omega) hfull (by repeat (first | exact Chg.refl _ _ | apply Chg.drew))
          · obtain ⟨fz, q1, q2⟩ := HR.out.setT (i := i) HV.out hi (s.T + s.c.ev)
            have HQ1 : Hid (RefAt (wr.setCell ⟨lb, lof + i * 2 + 1, none⟩ (.int .u64 (s.T + s.c.ev))) yb (s.turned s.tv (s.ts.set i (s.ts[i].1, s.T + s.c.ev))) ∧ RStp wr (wr.setCell ⟨lb, lof + i * 2 + 1, none⟩ (.int .u64 (s.T + s.c.ev))) yb s (s.turned s.tv (s.ts.set i (s.ts[i].1, s.T + s.c.ev)))) := ⟨q1, q2⟩
            clear q1 q2
            go_wp2_with fail
            go_region
            go_wp2_with fail
            go_region
            go_wp2_with fail
            go_region
            obtain ⟨W4, hW4⟩ : ∃ W4, W4 = (wr.setCell ⟨lb, lof + i * 2 + 1, none⟩ (.int .u64 (s.T + s.c.ev))).drew.drew.drew := ⟨_, rfl⟩
            rw [← hW4]
            have hc4 : Chg [] (wr.setCell ⟨lb, lof + i * 2 + 1, none⟩ (.int .u64 (s.T + s.c.ev))) W4 := hW4 ▸ (by repeat (first | exact Chg.refl _ _ | apply Chg.drew))
            clear hW4
            have hR4 := HQ1.out.1.chg hc4 (by simp)
            obtain ⟨la8, cp8, w8, hr8, z18, zf, zl, P1, P2⟩ := hR4.addI t x s.T (by show s.is.length ≤ _; omega)
            have HR8 : Hid ((Builtin.append_ #[112, 112] 112 #[.slice ila s.is.length icap, .slice (some ⟨W4.heap.size, 0, none⟩) 1 1]).run Tryz.prog (W4.alloc (.cells #[.int .u16 t, .int .u32 x, .int .u64 s.T] 123)) = .ok (.slice la8 (s.is.length + 1) cp8) w8) := by
              show _ = _
              rw [← HIV.out]
              exact hr8
            have z18' : w8.cell? ⟨yb, 18, none⟩ = some (.slice ila s.is.length icap) := by rw [← HIV.out]; exact z18
            have y18' : W4.cell? ⟨yb, 18, none⟩ = some (.slice ila s.is.length icap) := by rw [← HIV.out]; exact blk_cell (i := 18) hR4.blk rfl
            have hyl4 := lt_of_block hR4.blk
            have HP1 : Hid _ := P1
            have HP2 : Hid (RStp wr (w8.setCell ⟨yb, 18, none⟩ (.slice la8 (s.is.length + 1) cp8)) yb s _) := HQ1.out.2.trans ((RStp.of0 hc4).trans P2)
            clear P1 P2 hr8 z18 hR4 hc4
            go_wp2_with (at_builtin; refine Lib.wpList_append_run _ rfl _ _ _ _ rfl _ _ rfl rfl _ _ HR8.out ?_)
            go_ret2
            exact SubR.taken HDU.out (by omega) (by omega) (SubS.old hi HDU.out HE.out.2 HV4.out) HP1.out HP2.out
end Go.Proofs.YtbdnhllhdjepcaaGreat
