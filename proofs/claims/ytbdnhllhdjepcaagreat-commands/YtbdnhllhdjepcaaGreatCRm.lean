import Derived.Test.YtbdnhllhdjepcaaGreatCQpoll
import Derived.Test.YtbdnhllhdjepcaaGreatCOps
namespace Go.Proofs.YtbdnhllhdjepcaaGreat
set_option linter.unusedVariables false
set_option linter.unusedSimpArgs false
open Go.RowKit Go.Maps Go.MuLone Go.RwLone Go.MuLone

theorem Sub.form {s s' : Qs} {t x now : Int} {e : Ending} (h : Sub s s' t x now e) : ∃ st d, e = .returned (.tuple #[.int .i64 st, .int .u64 d]) := by
  rcases h with ⟨_, h, _⟩ | ⟨_, _, h, _⟩ | ⟨_, _, h, _⟩
  · exact ⟨_, _, h⟩
  · exact ⟨_, _, h⟩
  · exact ⟨_, _, h⟩
theorem fp_ty {w : World} {s : Qs} (h : QAt w s) {b : Nat} {x : Array Value} {t : TypeId} {fr : Nat × Nat} (hb : w.heap[b]? = some (.cells x t fr)) (h1 : t ≠ 190) (h2 : t ≠ 232) (h3 : t ≠ 245) (h4 : t ≠ 123) : b ∉ s.fp := fun hm => by
  simp only [Qs.fp, List.mem_append, List.mem_cons, List.not_mem_nil, or_false] at hm
  rcases hm with ((rfl | rfl | rfl) | hm) | hm
  · exact ne_ty hb h.blk h1 rfl
  · exact ne_ty hb h.trn.blk h2 rfl
  · exact h.trn.own.ne hb rfl
  · exact own_ty h.trn.row hb h3 hm
  · exact own_ty h.row hb h4 hm

set_option maxRecDepth 100000 in
set_option maxHeartbeats 1000000 in
theorem MSubmit (mb ab nn : Nat) (s : Qs) (t x : Int) (now : Int) (w : World) (hm : MeterAt w mb now ab nn s.qb) (h : QAt w s) (ht : (Lit.int .u16 t).wf = true) (h0 : 0 ≤ now) (hx1 : now ≤ 9223372036854775807) (hev : 0 ≤ s.ev) (hev' : s.ev ≤ 4611686018427387904) (hde : 0 ≤ s.de) (hde' : s.de ≤ 4611686018427387904) (hws : s.ws.length ≤ 900) (hes : s.es.length ≤ 900000000000) (hn : s.n ≤ 900000000000) :
    Calls Tryz.prog 40 #[.pointer (some ⟨mb, 0, none⟩), .int .u16 t, .int .u32 x] w fun e w' => MeterAt w' mb now ab nn s.qb ∧ ∃ s' : Qs, QAt w' s' ∧ SameQ s s' ∧ Chg s.fp w w' ∧ (∀ b ∈ s'.fp, b ∈ s.fp ∨ w.heap.size ≤ b) ∧ s'.n ≤ s.n + 1 ∧ s'.es.length ≤ s.es.length + 1 ∧ Sub s s' t x now e := by
  unfold MeterAt at hm
  have hmf : mb ∉ s.fp := fp_ty h hm (by decide) (by decide) (by decide) (by decide)
  have hlt := lt_of_block hm
  go_enter_defers Tryz.func40, Tryz.ntmps40
  go_wp2_with fail
  refine (rlock_open Tryz.rwRLib mb 0 0 (.int .i32 0) (.int .u32 0) w (blk_cell (i := 0) hm rfl) (blk_cell (i := 3) hm rfl) (blk_cell (i := 4) hm rfl) (blk_free hm) (by rw [rc1]; decide)).mono ?_
  rintro e w1 ⟨rfl, hw1⟩
  rw [rc1] at hw1
  have e1 : w1.heap[mb]? = _ := hw1 ▸ blk_set (i := 4) (.int .i32 1) hm
  have hc1 : Chg [mb] w w1 := hw1 ▸ (Chg.refl [mb] w).set ⟨mb, 4, none⟩ (.int .i32 1) (Or.inl (by simp))
  have h1 : QAt w1 s := h.chg hc1 (fun b hb => by simp; rintro rfl; exact hmf hb)
  clear hw1
  have HS : Hid (∀ W, Chg [] w1 W → (W.cell? ⟨mb, 8, none⟩ = some (.pointer (some ⟨s.qb, 0, none⟩)) ∧ W.cell? ⟨mb, 6, none⟩ = some (.int .u64 now))) := fun W hW => by
    have hb := hW.blk e1 (by simp)
    exact ⟨blk_cell hb rfl, blk_cell hb rfl⟩
  have HCALL : Hid (Calls Tryz.prog 88 #[.pointer (some ⟨s.qb, 0, none⟩), .int .u16 t, .int .u32 x, .int .u64 now] w1.drew fun e w2 => ∃ st d, e = .returned (.tuple #[.int .i64 st, .int .u64 d]) ∧ w2.heap[mb]? = w1.heap[mb]? ∧ Chg s.fp w1 w2 ∧ ∃ s' : Qs, QAt w2 s' ∧ SameQ s s' ∧ Chg s.fp w1.drew w2 ∧ (∀ b ∈ s'.fp, b ∈ s.fp ∨ w1.drew.heap.size ≤ b) ∧ s'.n ≤ s.n + 1 ∧ s'.es.length ≤ s.es.length + 1 ∧ Sub s s' t x now e) := by
    have h1d : QAt w1.drew s := h1.chg (l := []) (Chg.refl _ _).drew (by simp)
    refine (qsubmit_any s t x now w1.drew h1d ht h0 hx1 hev hev' hde hde' hws hes hn).mono ?_
    rintro e w2 ⟨s', z1, z2, z3, z4, z5, z6, z7⟩
    obtain ⟨st, d, rfl⟩ := z7.form
    have z3' : Chg s.fp w1 w2 := ((Chg.refl _ _).drew).trans z3 (fun j hj => Or.inl hj)
    exact ⟨st, d, rfl, z3'.block mb (lt_of_block e1) hmf, z3', s', z1, z2, z3, z4, z5, z6, z7⟩
  have HFIN : Hid (∀ (W : World) (e : Ending), W.heap[mb]? = w1.heap[mb]? → Chg s.fp w1 W → (∃ s' : Qs, QAt W s' ∧ SameQ s s' ∧ Chg s.fp w1.drew W ∧ (∀ b ∈ s'.fp, b ∈ s.fp ∨ w1.drew.heap.size ≤ b) ∧ s'.n ≤ s.n + 1 ∧ s'.es.length ≤ s.es.length + 1 ∧ Sub s s' t x now e) → MeterAt (W.setCell ⟨mb, 4, none⟩ (.int .i32 0)) mb now ab nn s.qb ∧ ∃ s' : Qs, QAt (W.setCell ⟨mb, 4, none⟩ (.int .i32 0)) s' ∧ SameQ s s' ∧ Chg s.fp w (W.setCell ⟨mb, 4, none⟩ (.int .i32 0)) ∧ (∀ b ∈ s'.fp, b ∈ s.fp ∨ w.heap.size ≤ b) ∧ s'.n ≤ s.n + 1 ∧ s'.es.length ≤ s.es.length + 1 ∧ Sub s s' t x now e) := fun W e hbb hcW hp => by
    have hbW := hbb.trans e1
    have hcs : Chg [mb] W (W.setCell ⟨mb, 4, none⟩ (.int .i32 0)) := (Chg.refl [mb] W).set _ _ (Or.inl (by simp))
    have m3 := blk_set (i := 4) (.int .i32 0) hbW
    have hs1 := hc1.size
    have hall : Chg (mb :: s.fp) w (W.setCell ⟨mb, 4, none⟩ (.int .i32 0)) := ((hc1.mono (m := mb :: s.fp) (by simp)).trans hcW (fun j hj => Or.inl (by simp [hj]))).trans hcs (by simp)
    have hall2 : Chg s.fp w (W.setCell ⟨mb, 4, none⟩ (.int .i32 0)) := hall.back (fun j hj => by
      rcases List.mem_cons.1 hj with rfl | hj
      · exact Or.inr (m3.trans hm.symm)
      · exact Or.inl hj)
    refine ⟨m3, ?_⟩
    obtain ⟨s', z1, z2, z3, z4, z5, z6, z7⟩ := hp
    have hmf' : mb ∉ s'.fp := fp_ty z1 hbW (by decide) (by decide) (by decide) (by decide)
    refine ⟨s', z1.chg hcs (fun b hb => by simp; rintro rfl; exact hmf' hb), z2, hall2, fun b hb => ?_, z5, z6, z7⟩
    rcases z4 b hb with h | h
    · exact Or.inl h
    · exact Or.inr (by simp at h; omega)
  have v1 : Chg [] w1 w1.drew := (Chg.refl _ _).drew
  have E1 : Hid _ := e1
  obtain ⟨j8, j6⟩ := HS.out w1 (Chg.refl _ _)
  clear h1 hc1 h hm
  go_upto_region 3 with fail
  go_region_held3 (fun W => W.cell? ⟨mb, 8, none⟩ = some (.pointer (some ⟨s.qb, 0, none⟩)) ∧ W.cell? ⟨mb, 6, none⟩ = some (.int .u64 now))
    (first | with_reducible exact H2.out | with_reducible exact HS.out _ v1)
    (first | (go_at_call 88; refine (HCALL.out).mono ?_; rintro e w2 ⟨st, d, rfl, hb2, hcg, hpost⟩; have m2 := hb2.trans e1; have H2 : Hid (w2.cell? ⟨mb, 8, none⟩ = some (.pointer (some ⟨s.qb, 0, none⟩)) ∧ w2.cell? ⟨mb, 6, none⟩ = some (.int .u64 now)) := ⟨blk_cell m2 rfl, blk_cell m2 rfl⟩))
  have HX : Hid _ := HFIN.out w2 _ hb2 hcg hpost
  have M2 : Hid _ := m2
  clear hpost hcg hb2
  go_wp2_with fail
  refine leaves_cons (f := 31) (args := #[.pointer (some ⟨mb, 0, none⟩)]) (by simp) (by simp [go_sem]) ?_
  refine (runlock_deferred Tryz.rwRLib mb 0 1 (.int .i32 0) (.int .u32 0) .returning _ (blk_cell (i := 0) m2 rfl) (blk_cell (i := 2) m2 rfl) (blk_cell (i := 4) m2 rfl) (blk_free m2) (by rw [rc2]; decide)).mono ?_
  rintro e u' w3 ⟨rfl, rfl, hw3⟩
  rw [rc2] at hw3
  subst hw3
  refine ⟨_, results_tmp2 rfl _ _ _, ?_⟩
  exact HX.out

set_option maxRecDepth 100000 in
set_option maxHeartbeats 1000000 in
theorem MPoll (mb ab nn : Nat) (s : Qs) (most : Int) (now : Int) (w : World) (hm : MeterAt w mb now ab nn s.qb) (h : QAt w s) (hws : s.ws.length ≤ 900) :
    Calls Tryz.prog 42 #[.pointer (some ⟨mb, 0, none⟩), .int .i64 most] w fun e w' => MeterAt w' mb now ab nn s.qb ∧ ∃ k s' v', Cnt s.ws most now k ∧ e = .returned v' ∧ Pol w w' s s' k v' := by
  unfold MeterAt at hm
  have hmf : mb ∉ s.fp := fp_ty h hm (by decide) (by decide) (by decide) (by decide)
  have hlt := lt_of_block hm
  go_enter_defers Tryz.func42, Tryz.ntmps42
  go_wp2_with fail
  refine (rlock_open Tryz.rwRLib mb 0 0 (.int .i32 0) (.int .u32 0) w (blk_cell (i := 0) hm rfl) (blk_cell (i := 3) hm rfl) (blk_cell (i := 4) hm rfl) (blk_free hm) (by rw [rc1]; decide)).mono ?_
  rintro e w1 ⟨rfl, hw1⟩
  rw [rc1] at hw1
  have e1 : w1.heap[mb]? = _ := hw1 ▸ blk_set (i := 4) (.int .i32 1) hm
  have hc1 : Chg [mb] w w1 := hw1 ▸ (Chg.refl [mb] w).set ⟨mb, 4, none⟩ (.int .i32 1) (Or.inl (by simp))
  have h1 : QAt w1 s := h.chg hc1 (fun b hb => by simp; rintro rfl; exact hmf hb)
  clear hw1
  have HS : Hid (∀ W, Chg [] w1 W → (W.cell? ⟨mb, 8, none⟩ = some (.pointer (some ⟨s.qb, 0, none⟩)) ∧ W.cell? ⟨mb, 6, none⟩ = some (.int .u64 now))) := fun W hW => by
    have hb := hW.blk e1 (by simp)
    exact ⟨blk_cell hb rfl, blk_cell hb rfl⟩
  have HCALL : Hid (Calls Tryz.prog 89 #[.pointer (some ⟨s.qb, 0, none⟩), .int .i64 most, .int .u64 now] w1.drew fun e w2 => ∃ v', e = .returned (v') ∧ w2.heap[mb]? = w1.heap[mb]? ∧ Chg s.fp w1 w2 ∧ ∃ k s' v', Cnt s.ws most now k ∧ e = .returned v' ∧ Pol w1.drew w2 s s' k v') := by
    have h1d : QAt w1.drew s := h1.chg (l := []) (Chg.refl _ _).drew (by simp)
    refine (qpoll_any s most now w1.drew h1d hws).mono ?_
    rintro e w2 ⟨k, s', v', z1, rfl, z2⟩
    have z3' : Chg s.fp w1 w2 := ((Chg.refl _ _).drew).trans z2.chg (fun j hj => Or.inl hj)
    exact ⟨v', rfl, z3'.block mb (lt_of_block e1) hmf, z3', k, s', v', z1, rfl, z2⟩
  have HFIN : Hid (∀ (W : World) (e : Ending), W.heap[mb]? = w1.heap[mb]? → Chg s.fp w1 W → (∃ k s' v', Cnt s.ws most now k ∧ e = .returned v' ∧ Pol w1.drew W s s' k v') → MeterAt (W.setCell ⟨mb, 4, none⟩ (.int .i32 0)) mb now ab nn s.qb ∧ ∃ k s' v', Cnt s.ws most now k ∧ e = .returned v' ∧ Pol w (W.setCell ⟨mb, 4, none⟩ (.int .i32 0)) s s' k v') := fun W e hbb hcW hp => by
    have hbW := hbb.trans e1
    have hcs : Chg [mb] W (W.setCell ⟨mb, 4, none⟩ (.int .i32 0)) := (Chg.refl [mb] W).set _ _ (Or.inl (by simp))
    have m3 := blk_set (i := 4) (.int .i32 0) hbW
    have hs1 := hc1.size
    have hall : Chg (mb :: s.fp) w (W.setCell ⟨mb, 4, none⟩ (.int .i32 0)) := ((hc1.mono (m := mb :: s.fp) (by simp)).trans hcW (fun j hj => Or.inl (by simp [hj]))).trans hcs (by simp)
    have hall2 : Chg s.fp w (W.setCell ⟨mb, 4, none⟩ (.int .i32 0)) := hall.back (fun j hj => by
      rcases List.mem_cons.1 hj with rfl | hj
      · exact Or.inr (m3.trans hm.symm)
      · exact Or.inl hj)
    refine ⟨m3, ?_⟩
    obtain ⟨k, s', v', z1, ze, z2⟩ := hp
    have hmf' : mb ∉ s'.fp := fp_ty z2.at_ hbW (by decide) (by decide) (by decide) (by decide)
    have hmv : mb ∉ own v' := own_ty z2.told hbW (by decide)
    refine ⟨k, s', v', z1, ze, ⟨z2.at_.chg hcs (fun b hb => by simp; rintro rfl; exact hmf' hb), z2.same, z2.n, z2.D, z2.es, z2.ws, z2.told.chg hcs (fun b hb => by simp; rintro rfl; exact hmv (mem_own.2 hb)), hall2, fun b hb => ?_, fun b hb => ?_, z2.cap⟩⟩
    · rcases z2.fp b hb with h | h
      · exact Or.inl h
      · exact Or.inr (by simp at h; omega)
    · have := z2.new b hb
      exact ⟨by have := this.1; simp at this; omega, this.2⟩
  have v1 : Chg [] w1 w1.drew := (Chg.refl _ _).drew
  have E1 : Hid _ := e1
  obtain ⟨j8, j6⟩ := HS.out w1 (Chg.refl _ _)
  clear h1 hc1 h hm
  go_upto_region 3 with fail
  go_region_held3 (fun W => W.cell? ⟨mb, 8, none⟩ = some (.pointer (some ⟨s.qb, 0, none⟩)) ∧ W.cell? ⟨mb, 6, none⟩ = some (.int .u64 now))
    (first | with_reducible exact H2.out | with_reducible exact HS.out _ v1)
    (first | (go_at_call 89; refine (HCALL.out).mono ?_; rintro e w2 ⟨v', rfl, hb2, hcg, hpost⟩; have m2 := hb2.trans e1; have H2 : Hid (w2.cell? ⟨mb, 8, none⟩ = some (.pointer (some ⟨s.qb, 0, none⟩)) ∧ w2.cell? ⟨mb, 6, none⟩ = some (.int .u64 now)) := ⟨blk_cell m2 rfl, blk_cell m2 rfl⟩))
  have HX : Hid _ := HFIN.out w2 _ hb2 hcg hpost
  have M2 : Hid _ := m2
  clear hpost hcg hb2
  go_wp2_with fail
  refine leaves_cons (f := 31) (args := #[.pointer (some ⟨mb, 0, none⟩)]) (by simp) (by simp [go_sem]) ?_
  refine (runlock_deferred Tryz.rwRLib mb 0 1 (.int .i32 0) (.int .u32 0) .returning _ (blk_cell (i := 0) m2 rfl) (blk_cell (i := 2) m2 rfl) (blk_cell (i := 4) m2 rfl) (blk_free m2) (by rw [rc2]; decide)).mono ?_
  rintro e u' w3 ⟨rfl, rfl, hw3⟩
  rw [rc2] at hw3
  subst hw3
  refine ⟨_, results_tmp rfl _ _ _, ?_⟩
  exact HX.out
end Go.Proofs.YtbdnhllhdjepcaaGreat
namespace Go.Proofs.YtbdnhllhdjepcaaGreat
set_option linter.unusedVariables false
set_option linter.unusedSimpArgs false
open Go.RowKit Go.Maps

/-! ### items as they came, and as they are told -/
def isort (W : List It) : List It := W.foldl (fun q x => ins x q) []
theorem isort_snoc (W : List It) (x : It) : isort (W ++ [x]) = ins x (isort W) := by simp [isort, List.foldl_append]
theorem it_ind {P : List It → Prop} (h0 : P []) (h1 : ∀ gs g, P gs → P (gs ++ [g])) (gs : List It) : P gs := by
  have : ∀ l : List It, P l.reverse := fun l => by
    induction l with
    | nil => exact h0
    | cons a l ih => rw [List.reverse_cons]; exact h1 _ _ ih
  have := this gs.reverse
  rwa [List.reverse_reverse] at this
theorem mem_ins {x z : It} : ∀ {q : List It}, z ∈ ins x q ↔ z = x ∨ z ∈ q
  | [] => by simp [ins]
  | y :: q => by
    unfold ins
    split
    · simp
    · simp only [List.mem_cons, mem_ins (q := q)]
      constructor
      · rintro (h | h | h)
        · exact Or.inr (Or.inl h)
        · exact Or.inl h
        · exact Or.inr (Or.inr h)
      · rintro (h | h | h)
        · exact Or.inr (Or.inl h)
        · exact Or.inl h
        · exact Or.inr (Or.inr h)
theorem mem_isort (W : List It) : ∀ z, z ∈ isort W ↔ z ∈ W := by
  refine it_ind (P := fun W => ∀ z, z ∈ isort W ↔ z ∈ W) (by simp [isort]) (fun W x ih z => ?_) W
  rw [isort_snoc, mem_ins, ih z]
  simp [or_comm]
theorem isort_len (W : List It) : (isort W).length = W.length := by
  refine it_ind (P := fun W => (isort W).length = W.length) (by simp [isort]) (fun W x ih => ?_) W
  rw [isort_snoc, ins_len, ih]
  simp
theorem isort_sorted (W : List It) : Sorted (isort W) := by
  refine it_ind (P := fun W => Sorted (isort W)) (by simp [isort, Sorted]) (fun W x ih => ?_) W
  rw [isort_snoc]
  exact ins_sorted _ _ ih
/-- the first of those that are due first -/
structure Mn (W : List It) (b : Nat) : Prop where
  lt : b < W.length
  le : ∀ j (hj : j < W.length), W[b].d ≤ W[j].d
  fst : ∀ j (hj : j < W.length), j < b → W[b].d < W[j].d
theorem isort_min (W : List It) : ∀ b (h : Mn W b), isort W = (W[b]'h.lt) :: isort (W.eraseIdx b) := by
  refine it_ind (P := fun W => ∀ b (h : Mn W b), isort W = (W[b]'h.lt) :: isort (W.eraseIdx b)) (fun b h => by have := h.lt; simp at this) (fun W x ih b h => ?_) W
  have hlt := h.lt
  rw [List.length_append] at hlt
  simp only [List.length_cons, List.length_nil] at hlt
  by_cases hb : b < W.length
  · have hW : Mn W b := ⟨hb, fun j hj => by have := h.le j (by simp; omega); rwa [List.getElem_append_left hb, List.getElem_append_left hj] at this, fun j hj hjb => by have := h.fst j (by simp; omega) hjb; rwa [List.getElem_append_left hb, List.getElem_append_left hj] at this⟩
    have hx := h.le W.length (by simp)
    rw [List.getElem_append_left hb, List.getElem_append_right (Nat.le_refl _)] at hx
    simp at hx
    rw [isort_snoc, ih b hW, List.getElem_append_left hb, List.eraseIdx_append_of_lt_length hb, isort_snoc]
    show (if x.d < W[b].d then _ else _) = _
    rw [if_neg (by omega)]
  · have hbe : b = W.length := by omega
    subst hbe
    rw [isort_snoc, List.getElem_append_right (Nat.le_refl _), List.eraseIdx_append_of_length_le (Nat.le_refl _)]
    simp
    have := ins_split x (isort W) (fun y hy => by
      obtain ⟨j, hj, rfl⟩ := List.mem_iff_getElem.1 ((mem_isort W y).1 hy)
      have := h.fst j (by simp; omega) hj
      rw [List.getElem_append_right (Nat.le_refl _), List.getElem_append_left hj] at this
      simpa using this) [] (by simp)
    simpa using this
/-- of a poll's steps: the one that is told is the first of those that wait -/
theorem isort_step {W0 W : List It} {i b : Nat} (h : isort W = (isort W0).drop i) (hb : Mn W b) : ∃ hi : i < (isort W0).length, W[b]'hb.lt = (isort W0)[i] ∧ isort (W.eraseIdx b) = (isort W0).drop (i + 1) := by
  have h1 := isort_min W b hb
  have hi : i < (isort W0).length := by
    have := isort_len W
    have h2 := hb.lt
    rw [h, List.length_drop] at this
    omega
  refine ⟨hi, ?_⟩
  rw [h1, List.drop_eq_getElem_cons hi] at h
  injection h with h3 h4
  exact ⟨h3, h4⟩
end Go.Proofs.YtbdnhllhdjepcaaGreat
namespace Go.Proofs.YtbdnhllhdjepcaaGreat
set_option linter.unusedVariables false
set_option linter.unusedSimpArgs false
open Go.RowKit Go.Maps

/-! ### the document's meter in memory -/
structure Mk where
  L : Int
  t : Int
  u : Int
  r : Int
  m : Int
def mkc (m : Mk) : List Value := [.int .i64 m.L, .int .u16 m.t, .int .u16 m.u, .int .u16 m.r, .int .u64 m.m]
theorem mkc_len (m : Mk) : (mkc m).length = 5 := rfl
def mkcells (ms : List Mk) : List Value := ms.flatMap mkc
def tnc (e : Int × Int) : List Value := [.int .u16 e.1, .int .u64 e.2]
theorem tnc_len (m : Int × Int) : (tnc m).length = 2 := rfl
def tncells (ts : List (Int × Int)) : List Value := ts.flatMap tnc
theorem ovc_len (o : Ov) : (ovc o).length = 7 := rfl
def ovcells (os : List Ov) : List Value := os.flatMap ovc
structure Rf where
  c : Cf
  ov : Value
  os : List Ov
  T : Int
  mv : Value
  ms : List Mk
  tv : Value
  ts : List (Int × Int)
  iv : Value
  is : List It
def rfc (s : Rf) : List Value := cfc s.c s.ov ++ [.int .u64 s.T, s.mv, s.tv, s.iv]
structure RefAt (w : World) (yb : Nat) (s : Rf) : Prop where
  blk : w.heap[yb]? = some (.cells (rfc s).toArray 114 (0, 0))
  ovs : Rw w 158 7 s.ov s.os.length (ovcells s.os)
  mks : Rw w 168 5 s.mv s.ms.length (mkcells s.ms)
  tns : Rw w 171 2 s.tv s.ts.length (tncells s.ts)
  its : Rw w 123 3 s.iv s.is.length (icells s.is)
def Rf.fp (s : Rf) (yb : Nat) : List Nat := [yb] ++ own s.ov ++ own s.mv ++ own s.tv ++ own s.iv
theorem RefAt.chg {l : List Nat} {w w' : World} {yb : Nat} {s : Rf} (h : RefAt w yb s) (hc : Chg l w w') (hn : ∀ b ∈ s.fp yb, b ∉ l) : RefAt w' yb s :=
  ⟨hc.blk h.blk (hn _ (by simp [Rf.fp])), h.ovs.chg hc (fun b hb => hn b (by simp [Rf.fp, mem_own.2 hb])), h.mks.chg hc (fun b hb => hn b (by simp [Rf.fp, mem_own.2 hb])), h.tns.chg hc (fun b hb => hn b (by simp [Rf.fp, mem_own.2 hb])), h.its.chg hc (fun b hb => hn b (by simp [Rf.fp, mem_own.2 hb]))⟩
theorem RefAt.lt {w : World} {yb : Nat} {s : Rf} (h : RefAt w yb s) : ∀ b ∈ s.fp yb, b < w.heap.size := fun b hb => by
  simp only [Rf.fp, List.mem_append, List.mem_cons, List.not_mem_nil, or_false] at hb
  rcases hb with (((rfl | hb) | hb) | hb) | hb
  · exact lt_of_block h.blk
  · exact h.ovs.lt (mem_own.1 hb)
  · exact h.mks.lt (mem_own.1 hb)
  · exact h.tns.lt (mem_own.1 hb)
  · exact h.its.lt (mem_own.1 hb)
/-- a row laid open: its slice, and its cells in this world and in those that leave its block alone -/
theorem Rw.laid {w : World} {e : TypeId} {sz n : Nat} {v : Value} {cs : List Value} (h : Rw w e sz v n cs) : ∃ (la : Option Addr) (lb lof cap : Nat), v = .slice la n cap ∧ (0 < n → la = some ⟨lb, lof, none⟩ ∧ v.ownBlock = some lb) ∧ n ≤ 9223372036854775807 ∧ (0 < n → lb < w.heap.size) ∧ ∀ j u, cs[j]? = some u → w.cell? ⟨lb, lof + j, none⟩ = some u := by
  rcases h.2.2 with ⟨rfl, h0⟩ | ⟨b, cap, P, R, rfl, hg, h1, h2, h3⟩
  · refine ⟨none, 0, 0, 0, by rw [h0], fun h => by omega, by omega, fun h => by omega, fun j u hj => ?_⟩
    have : cs = [] := List.length_eq_zero_iff.1 (by rw [h.1, h0, Nat.zero_mul])
    rw [this] at hj
    simp at hj
  · exact ⟨_, b, P.length, cap, rfl, fun _ => ⟨rfl, rfl⟩, by unfold maxLen at h2; omega, fun _ => lt_of_block hg, fun j u hj => Rw.cell (n := 0) (sz := 0) hg hj⟩
theorem mk_at (ms : List Mk) (j : Nat) (hj : j < ms.length) (i : Nat) (hi : i < 5) : (mkcells ms)[j * 5 + i]? = (mkc ms[j])[i]? := fm_at mkc_len ms j hj i hi
theorem ov_at (os : List Ov) (j : Nat) (hj : j < os.length) (i : Nat) (hi : i < 7) : (ovcells os)[j * 7 + i]? = (ovc os[j])[i]? := fm_at ovc_len os j hj i hi

/-! ### keys and marks -/
def cutU (L u : Int) : Int := if L < 1 then 0 else u
def cutR (L r : Int) : Int := if L < 2 then 0 else r
def hit (L t u r : Int) (m : Mk) : Bool := decide (m.L = L ∧ m.t = t ∧ m.u = cutU L u ∧ m.r = cutR L r)
def mkI (ms : List Mk) (L t u r : Int) : Option Nat := ms.findIdx? (hit L t u r)
/-- which of the marks, as it is told -/
def mkR (ms : List Mk) (L t u r : Int) : Int := match mkI ms L t u r with | some i => (i : Int) | none => -1
theorem mkI_some {ms : List Mk} {L t u r : Int} {j : Nat} (hj : j < ms.length) (h : hit L t u r ms[j] = true) (hn : ∀ i (hi : i < ms.length), i < j → hit L t u r ms[i] = false) : mkI ms L t u r = some j := by
  unfold mkI
  rw [List.findIdx?_eq_some_iff_getElem]
  exact ⟨hj, h, fun i hi => by simp [hn i (by omega) hi]⟩
theorem mkI_none {ms : List Mk} {L t u r : Int} (hn : ∀ i (hi : i < ms.length), hit L t u r ms[i] = false) : mkI ms L t u r = none := by
  unfold mkI
  rw [List.findIdx?_eq_none_iff]
  intro x hx
  obtain ⟨i, hi, rfl⟩ := List.mem_iff_getElem.1 hx
  exact hn i hi
/-- the mark itself; 0 where there is none -/
def mkM (ms : List Mk) (L t u r : Int) : Int := match ms.find? (hit L t u r) with | some m => m.m | none => 0
end Go.Proofs.YtbdnhllhdjepcaaGreat
namespace Go.Proofs.YtbdnhllhdjepcaaGreat
set_option linter.unusedVariables false
set_option linter.unusedSimpArgs false
open Go.RowKit Go.Maps

set_option maxRecDepth 100000 in
set_option maxHeartbeats 4000000 in
theorem mark_ref (yb : Nat) (s : Rf) (L t u r : Int) (w : World) (h : RefAt w yb s) (h0 : 0 ≤ L) :
    Calls Tryz.prog 86 #[.pointer (some ⟨yb, 0, none⟩), .int .i64 L, .agg #[.int .u16 t, .int .u16 u, .int .u16 r]] w fun e w' => e = .returned (.int .i64 (mkR s.ms L t u r)) ∧ Chg [] w w' := by
  obtain ⟨la, lb, lof, cap, hv, hla, hlen, hlt, hcell⟩ := h.mks.laid
  have hyl := lt_of_block h.blk
  have y16 : w.cell? ⟨yb, 16, none⟩ = some s.mv := blk_cell (i := 16) h.blk rfl
  rw [hv] at y16
  have HY : Hid (w.cell? ⟨yb, 16, none⟩ = some (.slice la s.ms.length cap)) := y16
  have HCE : Hid (∀ j u, (mkcells s.ms)[j]? = some u → w.cell? ⟨lb, lof + j, none⟩ = some u) := hcell
  have HLA : Hid (0 < s.ms.length → la = some ⟨lb, lof, none⟩ ∧ s.mv.ownBlock = some lb) := hla
  have HLT : Hid (0 < s.ms.length → lb < w.heap.size) := hlt
  obtain ⟨cu, hcu⟩ : ∃ cu, cu = cutU L u := ⟨_, rfl⟩
  obtain ⟨cr, hcr'⟩ : ∃ cr, cr = cutR L r := ⟨_, rfl⟩
  have HCut : Hid (∀ W, Calls Tryz.prog 87 #[.int .i64 L, .agg #[.int .u16 t, .int .u16 u, .int .u16 r]] W fun e w' => e = .returned (.agg #[.int .u16 t, .int .u16 cu, .int .u16 cr]) ∧ Chg [] W w') := fun W => by
    rw [hcu, hcr']
    exact cut_any L t u r W h0
  have HHIT : Hid (∀ x : Mk, hit L t u r x = decide (x.L = L ∧ x.t = t ∧ x.u = cu ∧ x.r = cr)) := fun x => by rw [hcu, hcr']; rfl
  clear h hcell hla hlt hv hcu hcr' y16
  have hbx := heap_alloc_new w (.cells [.int .u16 t, .int .u16 u, .int .u16 r].toArray 60)
  have hcw : Chg [] w (w.alloc (.cells [.int .u16 t, .int .u16 u, .int .u16 r].toArray 60)) := (Chg.refl _ _).alloc _
  obtain ⟨wb, hwb⟩ : ∃ wb, wb = w.alloc (.cells [.int .u16 t, .int .u16 u, .int .u16 r].toArray 60) := ⟨_, rfl⟩
  rw [← hwb] at hbx hcw
  have hkw : w.alloc (.cells #[.int .u16 t, .int .u16 u, .int .u16 r] 60) = wb := hwb.symm
  clear hwb
  have HBX : Hid (wb.heap[w.heap.size]? = some (.cells [.int .u16 t, .int .u16 u, .int .u16 r].toArray 60 (0, 0))) := hbx
  have HCW : Hid (Chg [] w wb) := hcw
  clear hbx hcw
  go_enter Tryz.func86, Tryz.ntmps86
  go_wp2_with fail
  go_loopw [7] (fun i wr => ∃ j : Nat, i = .int .i64 j ∧ j ≤ s.ms.length ∧ Chg [] wb wr ∧ ∀ i (hi : i < s.ms.length), i < j → hit L t u r s.ms[i] = false) (fun i _ => s.ms.length - (intOf i).toNat)
  case atStart => exact ⟨0, rfl, by omega, Chg.refl _ _, fun i hi h => absurd h (by omega)⟩
  case round =>
    obtain ⟨j, rfl, hjl, hcr, hno⟩ := hrel
    have HCR : Hid (Chg [] wb wr) := hcr
    have HCA : Hid (Chg [] w wr) := HCW.out.trans hcr (by simp)
    have HNO : Hid (∀ i (hi : i < s.ms.length), i < j → hit L t u r s.ms[i] = false) := hno
    have z16 := HCA.out.cell HY.out (by simp)
    clear hcr hno
    by_cases hlt : j < s.ms.length
    · obtain ⟨rfl, _⟩ := HLA.out (by omega)
      have hlb := HLT.out (by omega)
      obtain ⟨x, hx⟩ : ∃ x, x = s.ms[j] := ⟨_, rfl⟩
      have hat : ∀ i, i < 5 → ∀ v, (mkc x)[i]? = some v → w.cell? ⟨lb, lof + j * 5 + i, none⟩ = some v := fun i hi v hv => by
        rw [Nat.add_assoc]
        refine HCE.out _ _ ?_
        rw [mk_at _ j hlt i hi, ← hx]
        exact hv
      have HX : Hid (x = s.ms[j]) := hx
      have HSX : Hid (∀ W, Chg [] wr W → (W.cell? ⟨w.heap.size, 0, none⟩ = some (.int .u16 t) ∧ W.cell? ⟨w.heap.size, 1, none⟩ = some (.int .u16 u) ∧ W.cell? ⟨w.heap.size, 2, none⟩ = some (.int .u16 r) ∧ W.cell? ⟨yb, 16, none⟩ = some (.slice (some ⟨lb, lof, none⟩) s.ms.length cap) ∧ W.cell? ⟨lb, lof + j * 5, none⟩ = some (.int .i64 x.L) ∧ W.cell? ⟨lb, lof + j * 5 + 1, none⟩ = some (.int .u16 x.t) ∧ W.cell? ⟨lb, lof + j * 5 + 2, none⟩ = some (.int .u16 x.u) ∧ W.cell? ⟨lb, lof + j * 5 + 3, none⟩ = some (.int .u16 x.r))) := fun W hW => by
        have zc : Chg [] w W := HCA.out.trans hW (by simp)
        have zb := (HCR.out.trans hW (by simp)).blk HBX.out (by simp)
        exact ⟨blk_cell zb rfl, blk_cell zb rfl, blk_cell zb rfl, zc.cell HY.out (by simp), zc.cell (hat 0 (by decide) _ rfl) (by simp), zc.cell (hat 1 (by decide) _ rfl) (by simp), zc.cell (hat 2 (by decide) _ rfl) (by simp), zc.cell (hat 3 (by decide) _ rfl) (by simp)⟩
      obtain ⟨y0, y1, y2, y3, y4, y5, y6, y7⟩ := HSX.out wr (Chg.refl _ _)
      clear hat hx
      have hj2 : (j : Int) < (s.ms.length : Int) := by omega
      have v1 : Chg [] wr wr.drew := (Chg.refl _ _).drew
      by_cases hxl : x.L = L
      · have hxb : (x.L == L) = true := by simpa using hxl
        by_cases hsm : x.t = t ∧ x.u = cu ∧ x.r = cr
        · have HSm : Hid (∀ W, Calls Tryz.prog 131 #[.agg #[.int .u16 x.t, .int .u16 x.u, .int .u16 x.r], .agg #[.int .u16 t, .int .u16 cu, .int .u16 cr]] W fun e w' => e = .returned (.bool true) ∧ Chg [] W w') := fun W => by
            refine (same_any x.t x.u x.r t cu cr W).mono ?_
            rintro e w' ⟨rfl, hc⟩
            exact ⟨by rw [decide_eq_true hsm], hc⟩
          have HF : Hid (mkR s.ms L t u r = (j : Int)) := by
            show _ = _
            unfold mkR
            rw [mkI_some hlt (by rw [HHIT.out, ← HX.out]; exact decide_eq_true ⟨hxl, hsm⟩) HNO.out]
          clear hsm hxl
          go_upto_region 4 with fail
          go_region_held3 (fun W => W.cell? ⟨w.heap.size, 0, none⟩ = some (.int .u16 t) ∧ W.cell? ⟨w.heap.size, 1, none⟩ = some (.int .u16 u) ∧ W.cell? ⟨w.heap.size, 2, none⟩ = some (.int .u16 r) ∧ W.cell? ⟨yb, 16, none⟩ = some (.slice (some ⟨lb, lof, none⟩) s.ms.length cap) ∧ W.cell? ⟨lb, lof + j * 5, none⟩ = some (.int .i64 x.L) ∧ W.cell? ⟨lb, lof + j * 5 + 1, none⟩ = some (.int .u16 x.t) ∧ W.cell? ⟨lb, lof + j * 5 + 2, none⟩ = some (.int .u16 x.u) ∧ W.cell? ⟨lb, lof + j * 5 + 3, none⟩ = some (.int .u16 x.r))
            (first | with_reducible exact HSX.out _ v3 | with_reducible exact HSX.out _ v2 | with_reducible exact HSX.out _ v1)
            (first | (go_at_call 87; refine (HCut.out _).mono ?_; rintro e w2 ⟨rfl, q2⟩; have v2 : Chg [] wr w2 := v1.trans q2 (by simp)) | (go_at_call 131; refine (HSm.out _).mono ?_; rintro e w3 ⟨rfl, q3⟩; have v3 : Chg [] wr w3 := v2.trans q3 (by simp)))
          all_goals
            go_wp2
            go_ret
            exact ⟨by rw [HF.out]; rfl, HCA.out.trans v3 (by simp)⟩
        · have HSm : Hid (∀ W, Calls Tryz.prog 131 #[.agg #[.int .u16 x.t, .int .u16 x.u, .int .u16 x.r], .agg #[.int .u16 t, .int .u16 cu, .int .u16 cr]] W fun e w' => e = .returned (.bool false) ∧ Chg [] W w') := fun W => by
            refine (same_any x.t x.u x.r t cu cr W).mono ?_
            rintro e w' ⟨rfl, hc⟩
            exact ⟨by rw [decide_eq_false hsm], hc⟩
          have HF : Hid (hit L t u r x = false) := by show _ = _; rw [HHIT.out]; exact decide_eq_false (fun h => hsm h.2)
          clear hsm hxl
          go_upto_region 4 with fail
          go_region_held3 (fun W => W.cell? ⟨w.heap.size, 0, none⟩ = some (.int .u16 t) ∧ W.cell? ⟨w.heap.size, 1, none⟩ = some (.int .u16 u) ∧ W.cell? ⟨w.heap.size, 2, none⟩ = some (.int .u16 r) ∧ W.cell? ⟨yb, 16, none⟩ = some (.slice (some ⟨lb, lof, none⟩) s.ms.length cap) ∧ W.cell? ⟨lb, lof + j * 5, none⟩ = some (.int .i64 x.L) ∧ W.cell? ⟨lb, lof + j * 5 + 1, none⟩ = some (.int .u16 x.t) ∧ W.cell? ⟨lb, lof + j * 5 + 2, none⟩ = some (.int .u16 x.u) ∧ W.cell? ⟨lb, lof + j * 5 + 3, none⟩ = some (.int .u16 x.r))
            (first | with_reducible exact HSX.out _ v3 | with_reducible exact HSX.out _ v2 | with_reducible exact HSX.out _ v1)
            (first | (go_at_call 87; refine (HCut.out _).mono ?_; rintro e w2 ⟨rfl, q2⟩; have v2 : Chg [] wr w2 := v1.trans q2 (by simp)) | (go_at_call 131; refine (HSm.out _).mono ?_; rintro e w3 ⟨rfl, q3⟩; have v3 : Chg [] wr w3 := v2.trans q3 (by simp)))
          all_goals
            go_wp2_with fail
            go_roundw
            case rel => exact ⟨j + 1, by go_num, by omega, HCR.out.trans v3 (by simp), fun i hi hij => by rcases Nat.lt_or_ge i j with h' | h'; (exact HNO.out i hi h'); (have : i = j := by omega); (subst this; rw [← HX.out]; exact HF.out)⟩
            case measure => simp [intOf]; omega
      · have hxb : (x.L == L) = false := by simpa using hxl
        have HF : Hid (hit L t u r x = false) := by show _ = _; rw [HHIT.out]; exact decide_eq_false (fun h => hxl h.1)
        go_wp2_with fail
        go_region
        go_wp2_with fail
        go_roundw
        case rel => exact ⟨j + 1, by go_num, by omega, HCR.out.trans v1 (by simp), fun i hi hij => by rcases Nat.lt_or_ge i j with h' | h'; (exact HNO.out i hi h'); (have : i = j := by omega); (subst this; rw [← HX.out]; exact HF.out)⟩
        case measure => simp [intOf]; omega
    · have hj2 : ¬ (j : Int) < (s.ms.length : Int) := by omega
      have HF : Hid (mkR s.ms L t u r = -1) := by
        show _ = _
        unfold mkR
        rw [mkI_none (fun i hi => HNO.out i hi (by omega))]
      go_wp2
      go_ret
      exact ⟨by rw [HF.out]; rfl, HCA.out⟩

/-- time goes on -/
def Rf.adv (s : Rf) (n : Int) : Rf := { s with T := min (s.T + n) 9223372036854775807 }
def AdvR (w w' : World) (yb : Nat) (s : Rf) (n : Int) (e : Ending) : Prop := (n < 0 → e = .returned (.int .i64 1) ∧ w' = w) ∧ (0 ≤ n → e = .returned (.int .i64 0) ∧ RefAt w' yb (s.adv n) ∧ Chg [yb] w w')
set_option maxRecDepth 100000 in
set_option maxHeartbeats 2000000 in
theorem advance_ref (yb : Nat) (s : Rf) (n : Int) (w : World) (h : RefAt w yb s) (hT : 0 ≤ s.T ∧ s.T ≤ 9223372036854775807) (hn : I6 n) :
    Calls Tryz.prog 37 #[.pointer (some ⟨yb, 0, none⟩), .int .i64 n] w fun e w' => AdvR w w' yb s n e := by
  obtain ⟨hn1, hn2⟩ := hn
  obtain ⟨hT1, hT2⟩ := hT
  have hyl := lt_of_block h.blk
  have y15 : w.cell? ⟨yb, 15, none⟩ = some (.int .u64 s.T) := blk_cell (i := 15) h.blk rfl
  have f15 : w.frozen? ⟨yb, 15, none⟩ = false := blk_free h.blk
  have HH : Hid (RefAt w yb s) := h
  have HSt : Hid (∀ (x : Int) (w' : World), w'.heap[yb]? = some (.cells ((rfc s).set 15 (.int .u64 x)).toArray 114 (0, 0)) → Chg [yb] w w' → RefAt w' yb { s with T := x }) := fun x w' hb hc => by
    have hy : ∀ {v : Value} {e : TypeId} {sz n : Nat} {cs : List Value}, Rw w e sz v n cs → e ≠ 114 → ∀ b, v.ownBlock = some b → b ∉ [yb] := fun hr he b hb' => by
      simp only [List.mem_cons, List.not_mem_nil, or_false]
      rintro rfl
      exact own_ty hr HH.out.blk (Ne.symm he) (mem_own.2 hb')
    exact ⟨hb, HH.out.ovs.chg hc (hy HH.out.ovs (by decide)), HH.out.mks.chg hc (hy HH.out.mks (by decide)), HH.out.tns.chg hc (hy HH.out.tns (by decide)), HH.out.its.chg hc (hy HH.out.its (by decide))⟩
  have HB : Hid _ := h.blk
  clear h
  by_cases hneg : n < 0
  · have hn0 : ¬ 0 ≤ n := by omega
    go_enter Tryz.func37, Tryz.ntmps37
    go_wp2
    go_ret
    exact ⟨fun _ => ⟨rfl, rfl⟩, fun h => by omega⟩
  · have hn0 : 0 ≤ n := by omega
    have wn : IntKind.u64.wrap n = n := by rw [IntKind.wrap_u64]; omega
    have wa : IntKind.u64.wrap (s.T + n) = s.T + n := by rw [IntKind.wrap_u64]; omega
    by_cases hbig : 9223372036854775807 < s.T + n
    · have hmin : min (s.T + n) 9223372036854775807 = 9223372036854775807 := by omega
      go_enter Tryz.func37, Tryz.ntmps37
      go_wp2
      go_ret
      refine ⟨fun h => by omega, fun _ => ⟨rfl, ?_, ?_⟩⟩
      · unfold Rf.adv
        rw [hmin]
        have hb1 := blk_set (i := 15) (.int .u64 9223372036854775807) (blk_set (i := 15) (.int .u64 (s.T + n)) HB.out)
        rw [List.set_set] at hb1
        exact HSt.out _ _ hb1 (((Chg.refl _ _).set _ _ (Or.inl (by simp))).set _ _ (Or.inl (by simp)))
      · exact ((Chg.refl _ _).set _ _ (Or.inl (by simp))).set _ _ (Or.inl (by simp))
    · have hmin : min (s.T + n) 9223372036854775807 = s.T + n := by omega
      go_enter Tryz.func37, Tryz.ntmps37
      go_wp2
      go_ret
      refine ⟨fun h => by omega, fun _ => ⟨rfl, ?_, ?_⟩⟩
      · unfold Rf.adv
        rw [hmin]
        exact HSt.out _ _ (blk_set (i := 15) (.int .u64 (s.T + n)) HB.out) ((Chg.refl _ _).set _ _ (Or.inl (by simp)))
      · exact (Chg.refl _ _).set _ _ (Or.inl (by simp))
end Go.Proofs.YtbdnhllhdjepcaaGreat
