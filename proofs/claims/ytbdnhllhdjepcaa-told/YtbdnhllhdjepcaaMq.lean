import Derived.Test.YtbdnhllhdjepcaaQpoll
namespace Go.Proofs.Ytbdnhllhdjepcaa
set_option linter.unusedVariables false
set_option linter.unusedSimpArgs false
open Go.RowKit Go.Maps Go.MuLone Go.RwLone Go.MuLone

theorem Sub.form {s s' : Qs} {t x now : Int} {e : Ending} (h : Sub s s' t x now e) : ∃ st d, e = .returned (.tuple #[.int .i64 st, .int .u64 d]) := by
  rcases h with ⟨_, h, _⟩ | ⟨_, _, h, _⟩ | ⟨_, _, h, _⟩
  · exact ⟨_, _, h⟩
  · exact ⟨_, _, h⟩
  · exact ⟨_, _, h⟩
theorem fp_ty {w : World} {s : Qs} (h : QAt w s) {b : Nat} {x : Array Value} {t : TypeId} {fr : Nat × Nat} (hb : w.heap[b]? = some (.cells x t fr)) (h1 : t ≠ 151) (h2 : t ≠ 189) (h3 : t ≠ 191) (h4 : t ≠ 75) : b ∉ s.fp := fun hm => by
  simp only [Qs.fp, List.mem_append, List.mem_cons, List.not_mem_nil, or_false] at hm
  rcases hm with ((rfl | rfl | rfl) | hm) | hm
  · exact ne_ty hb h.blk h1 rfl
  · exact ne_ty hb h.trn.blk h2 rfl
  · exact h.trn.own.ne hb rfl
  · exact own_ty h.trn.row hb h3 hm
  · exact own_ty h.row hb h4 hm

set_option maxRecDepth 100000 in
set_option maxHeartbeats 1000000 in
theorem MSubmit (mb ab nn : Nat) (s : Qs) (t x : Int) (now : Int) (w : World) (hm : MeterAt w mb now ab nn s.qb) (h : QAt w s) (ht : (Lit.int .u16 t).wf = true) (h0 : 0 ≤ now) (hx1 : now ≤ 9223372036854775807) (hev : 0 ≤ s.ev) (hev' : s.ev ≤ 4611686018427387904) (hde : 0 ≤ s.de) (hde' : s.de ≤ 4611686018427387904) (hws : s.ws.length ≤ 900) (hes : s.es.length ≤ 900) (hn : s.n ≤ 900000) :
    Calls Try.prog 25 #[.pointer (some ⟨mb, 0, none⟩), .int .u16 t, .int .u32 x] w fun e w' => MeterAt w' mb now ab nn s.qb ∧ ∃ s' : Qs, QAt w' s' ∧ SameQ s s' ∧ Chg s.fp w w' ∧ (∀ b ∈ s'.fp, b ∈ s.fp ∨ w.heap.size ≤ b) ∧ s'.n ≤ s.n + 1 ∧ s'.es.length ≤ s.es.length + 1 ∧ Sub s s' t x now e := by
  unfold MeterAt at hm
  have hmf : mb ∉ s.fp := fp_ty h hm (by decide) (by decide) (by decide) (by decide)
  have hlt := lt_of_block hm
  go_enter_defers Try.func25, Try.ntmps25
  go_wp2_with fail
  refine (rlock_open Try.rwRLib mb 0 0 (.int .i32 0) (.int .u32 0) w (blk_cell (i := 0) hm rfl) (blk_cell (i := 3) hm rfl) (blk_cell (i := 4) hm rfl) (blk_free hm) (by rw [rc1]; decide)).mono ?_
  rintro e w1 ⟨rfl, hw1⟩
  rw [rc1] at hw1
  have e1 : w1.heap[mb]? = _ := hw1 ▸ blk_set (i := 4) (.int .i32 1) hm
  have hc1 : Chg [mb] w w1 := hw1 ▸ (Chg.refl [mb] w).set ⟨mb, 4, none⟩ (.int .i32 1) (Or.inl (by simp))
  have h1 : QAt w1 s := h.chg hc1 (fun b hb => by simp; rintro rfl; exact hmf hb)
  clear hw1
  have HS : Hid (∀ W, Chg [] w1 W → (W.cell? ⟨mb, 8, none⟩ = some (.pointer (some ⟨s.qb, 0, none⟩)) ∧ W.cell? ⟨mb, 6, none⟩ = some (.int .u64 now))) := fun W hW => by
    have hb := hW.blk e1 (by simp)
    exact ⟨blk_cell hb rfl, blk_cell hb rfl⟩
  have HCALL : Hid (Calls Try.prog 43 #[.pointer (some ⟨s.qb, 0, none⟩), .int .u16 t, .int .u32 x, .int .u64 now] w1.drew fun e w2 => ∃ st d, e = .returned (.tuple #[.int .i64 st, .int .u64 d]) ∧ w2.heap[mb]? = w1.heap[mb]? ∧ Chg s.fp w1 w2 ∧ ∃ s' : Qs, QAt w2 s' ∧ SameQ s s' ∧ Chg s.fp w1.drew w2 ∧ (∀ b ∈ s'.fp, b ∈ s.fp ∨ w1.drew.heap.size ≤ b) ∧ s'.n ≤ s.n + 1 ∧ s'.es.length ≤ s.es.length + 1 ∧ Sub s s' t x now e) := by
    have h1d : QAt w1.drew s := h1.chg (l := []) (Chg.refl _ _).drew (by simp)
    refine (qsubmit_any s t x now w1.drew h1d ht h0 hx1 hev hev' hde hde' hws hes hn).mono ?_
    rintro e w2 ⟨s', z1, z2, z3, z4, z5, z6, z7⟩
    obtain ⟨st, d, rfl⟩ := z7.form
    have z3' : Chg s.fp w1 w2 := ((Chg.refl _ _).drew).trans z3 (fun j hj => Or.inl hj)
    exact ⟨st, d, rfl, z3'.block mb (lt_of_block e1) hmf, z3', s', z1, z2, z3, z4, z5, z6, z7⟩
  have HFIN : Hid (∀ (W : World) (e : Ending), W.heap[mb]? = w1.heap[mb]? → Chg s.fp w1 W → (∃ s' : Qs, QAt W s' ∧ SameQ s s' ∧ Chg s.fp w1.drew W ∧ (∀ b ∈ s'.fp, b ∈ s.fp ∨ w1.drew.heap.size ≤ b) ∧ s'.n ≤ s.n + 1 ∧ s'.es.length ≤ s.es.length + 1 ∧ Sub s s' t x now e) → MeterAt (W.setCell ⟨mb, 4, none⟩ (.int .i32 0)) mb now ab nn s.qb ∧ ∃ s' : Qs, QAt (W.setCell ⟨mb, 4, none⟩ (.int .i32 0)) s' ∧ SameQ s s' ∧ Chg s.fp w (W.setCell ⟨mb, 4, none⟩ (.int .i32 0)) ∧ (∀ b ∈ s'.fp, b ∈ s.fp ∨ w.heap.size ≤ b) ∧ s'.n ≤ s.n + 1 ∧ s'.es.length ≤ s.es.length + 1 ∧ Sub s s' t x now e) := fun W e hbb hcW hp => by
    have hbW := hbb.trans e1
    have hcs : Chg [mb] W (W.setCell ⟨mb, 4, none⟩ (.int .i32 0)) := (Chg.refl [mb] W).set _ _ (Or.inl (by simp))
    have m3 := blk_set (i := 4) (.int .i32 0) hbW
    have hs1 := hc1.size
    have hall : Chg (mb :: s.fp) w (W.setCell ⟨mb, 4, none⟩ (.int .i32 0)) := ((hc1.mono (m := mb :: s.fp) (by simp)).trans hcW (fun j hj => Or.inl (by simp [hj]))).trans hcs (by simp)
    have hall2 : Chg s.fp w (W.setCell ⟨mb, 4, none⟩ (.int .i32 0)) := hall.back (fun j hj => by
      rcases List.mem_cons.1 hj with rfl | hj
      · exact Or.inr (m3.trans hm.symm)
      · exact Or.inl hj)
    refine ⟨m3, ?_⟩
    obtain ⟨s', z1, z2, z3, z4, z5, z6, z7⟩ := hp
    have hmf' : mb ∉ s'.fp := fp_ty z1 hbW (by decide) (by decide) (by decide) (by decide)
    refine ⟨s', z1.chg hcs (fun b hb => by simp; rintro rfl; exact hmf' hb), z2, hall2, fun b hb => ?_, z5, z6, z7⟩
    rcases z4 b hb with h | h
    · exact Or.inl h
    · exact Or.inr (by simp at h; omega)
  have v1 : Chg [] w1 w1.drew := (Chg.refl _ _).drew
  have E1 : Hid _ := e1
  obtain ⟨j8, j6⟩ := HS.out w1 (Chg.refl _ _)
  clear h1 hc1 h hm
  go_upto_region 3 with fail
  go_region_held3 (fun W => W.cell? ⟨mb, 8, none⟩ = some (.pointer (some ⟨s.qb, 0, none⟩)) ∧ W.cell? ⟨mb, 6, none⟩ = some (.int .u64 now))
    (first | with_reducible exact H2.out | with_reducible exact HS.out _ v1)
    (first | (go_at_call 43; refine (HCALL.out).mono ?_; rintro e w2 ⟨st, d, rfl, hb2, hcg, hpost⟩; have m2 := hb2.trans e1; have H2 : Hid (w2.cell? ⟨mb, 8, none⟩ = some (.pointer (some ⟨s.qb, 0, none⟩)) ∧ w2.cell? ⟨mb, 6, none⟩ = some (.int .u64 now)) := ⟨blk_cell m2 rfl, blk_cell m2 rfl⟩))
  have HX : Hid _ := HFIN.out w2 _ hb2 hcg hpost
  have M2 : Hid _ := m2
  clear hpost hcg hb2
  go_wp2_with fail
  refine leaves_cons (f := 37) (args := #[.pointer (some ⟨mb, 0, none⟩)]) (by simp) (by simp [go_sem]) ?_
  refine (runlock_deferred Try.rwRLib mb 0 1 (.int .i32 0) (.int .u32 0) .returning _ (blk_cell (i := 0) m2 rfl) (blk_cell (i := 2) m2 rfl) (blk_cell (i := 4) m2 rfl) (blk_free m2) (by rw [rc2]; decide)).mono ?_
  rintro e u' w3 ⟨rfl, rfl, hw3⟩
  rw [rc2] at hw3
  subst hw3
  refine ⟨_, results_tmp2 rfl _ _ _, ?_⟩
  exact HX.out

set_option maxRecDepth 100000 in
set_option maxHeartbeats 1000000 in
theorem MPoll (mb ab nn : Nat) (s : Qs) (most : Int) (now : Int) (w : World) (hm : MeterAt w mb now ab nn s.qb) (h : QAt w s) (hm0 : 0 ≤ most) (hm1 : most ≤ 1000000) (hws : s.ws.length ≤ 900) :
    Calls Try.prog 26 #[.pointer (some ⟨mb, 0, none⟩), .int .i64 most] w fun e w' => MeterAt w' mb now ab nn s.qb ∧ ∃ k s' v', Cnt s.ws most now k ∧ e = .returned v' ∧ Pol w w' s s' k v' := by
  unfold MeterAt at hm
  have hmf : mb ∉ s.fp := fp_ty h hm (by decide) (by decide) (by decide) (by decide)
  have hlt := lt_of_block hm
  go_enter_defers Try.func26, Try.ntmps26
  go_wp2_with fail
  refine (rlock_open Try.rwRLib mb 0 0 (.int .i32 0) (.int .u32 0) w (blk_cell (i := 0) hm rfl) (blk_cell (i := 3) hm rfl) (blk_cell (i := 4) hm rfl) (blk_free hm) (by rw [rc1]; decide)).mono ?_
  rintro e w1 ⟨rfl, hw1⟩
  rw [rc1] at hw1
  have e1 : w1.heap[mb]? = _ := hw1 ▸ blk_set (i := 4) (.int .i32 1) hm
  have hc1 : Chg [mb] w w1 := hw1 ▸ (Chg.refl [mb] w).set ⟨mb, 4, none⟩ (.int .i32 1) (Or.inl (by simp))
  have h1 : QAt w1 s := h.chg hc1 (fun b hb => by simp; rintro rfl; exact hmf hb)
  clear hw1
  have HS : Hid (∀ W, Chg [] w1 W → (W.cell? ⟨mb, 8, none⟩ = some (.pointer (some ⟨s.qb, 0, none⟩)) ∧ W.cell? ⟨mb, 6, none⟩ = some (.int .u64 now))) := fun W hW => by
    have hb := hW.blk e1 (by simp)
    exact ⟨blk_cell hb rfl, blk_cell hb rfl⟩
  have HCALL : Hid (Calls Try.prog 44 #[.pointer (some ⟨s.qb, 0, none⟩), .int .i64 most, .int .u64 now] w1.drew fun e w2 => ∃ v', e = .returned (v') ∧ w2.heap[mb]? = w1.heap[mb]? ∧ Chg s.fp w1 w2 ∧ ∃ k s' v', Cnt s.ws most now k ∧ e = .returned v' ∧ Pol w1.drew w2 s s' k v') := by
    have h1d : QAt w1.drew s := h1.chg (l := []) (Chg.refl _ _).drew (by simp)
    refine (qpoll_any s most now w1.drew h1d hm0 hm1 hws).mono ?_
    rintro e w2 ⟨k, s', v', z1, rfl, z2⟩
    have z3' : Chg s.fp w1 w2 := ((Chg.refl _ _).drew).trans z2.chg (fun j hj => Or.inl hj)
    exact ⟨v', rfl, z3'.block mb (lt_of_block e1) hmf, z3', k, s', v', z1, rfl, z2⟩
  have HFIN : Hid (∀ (W : World) (e : Ending), W.heap[mb]? = w1.heap[mb]? → Chg s.fp w1 W → (∃ k s' v', Cnt s.ws most now k ∧ e = .returned v' ∧ Pol w1.drew W s s' k v') → MeterAt (W.setCell ⟨mb, 4, none⟩ (.int .i32 0)) mb now ab nn s.qb ∧ ∃ k s' v', Cnt s.ws most now k ∧ e = .returned v' ∧ Pol w (W.setCell ⟨mb, 4, none⟩ (.int .i32 0)) s s' k v') := fun W e hbb hcW hp => by
    have hbW := hbb.trans e1
    have hcs : Chg [mb] W (W.setCell ⟨mb, 4, none⟩ (.int .i32 0)) := (Chg.refl [mb] W).set _ _ (Or.inl (by simp))
    have m3 := blk_set (i := 4) (.int .i32 0) hbW
    have hs1 := hc1.size
    have hall : Chg (mb :: s.fp) w (W.setCell ⟨mb, 4, none⟩ (.int .i32 0)) := ((hc1.mono (m := mb :: s.fp) (by simp)).trans hcW (fun j hj => Or.inl (by simp [hj]))).trans hcs (by simp)
    have hall2 : Chg s.fp w (W.setCell ⟨mb, 4, none⟩ (.int .i32 0)) := hall.back (fun j hj => by
      rcases List.mem_cons.1 hj with rfl | hj
      · exact Or.inr (m3.trans hm.symm)
      · exact Or.inl hj)
    refine ⟨m3, ?_⟩
    obtain ⟨k, s', v', z1, ze, z2⟩ := hp
    have hmf' : mb ∉ s'.fp := fp_ty z2.at_ hbW (by decide) (by decide) (by decide) (by decide)
    have hmv : mb ∉ own v' := own_ty z2.told hbW (by decide)
    refine ⟨k, s', v', z1, ze, ⟨z2.at_.chg hcs (fun b hb => by simp; rintro rfl; exact hmf' hb), z2.same, z2.n, z2.D, z2.es, z2.ws, z2.told.chg hcs (fun b hb => by simp; rintro rfl; exact hmv (mem_own.2 hb)), hall2, fun b hb => ?_, fun b hb => ?_⟩⟩
    · rcases z2.fp b hb with h | h
      · exact Or.inl h
      · exact Or.inr (by simp at h; omega)
    · have := z2.new b hb
      exact ⟨by have := this.1; simp at this; omega, this.2⟩
  have v1 : Chg [] w1 w1.drew := (Chg.refl _ _).drew
  have E1 : Hid _ := e1
  obtain ⟨j8, j6⟩ := HS.out w1 (Chg.refl _ _)
  clear h1 hc1 h hm
  go_upto_region 3 with fail
  go_region_held3 (fun W => W.cell? ⟨mb, 8, none⟩ = some (.pointer (some ⟨s.qb, 0, none⟩)) ∧ W.cell? ⟨mb, 6, none⟩ = some (.int .u64 now))
    (first | with_reducible exact H2.out | with_reducible exact HS.out _ v1)
    (first | (go_at_call 44; refine (HCALL.out).mono ?_; rintro e w2 ⟨v', rfl, hb2, hcg, hpost⟩; have m2 := hb2.trans e1; have H2 : Hid (w2.cell? ⟨mb, 8, none⟩ = some (.pointer (some ⟨s.qb, 0, none⟩)) ∧ w2.cell? ⟨mb, 6, none⟩ = some (.int .u64 now)) := ⟨blk_cell m2 rfl, blk_cell m2 rfl⟩))
  have HX : Hid _ := HFIN.out w2 _ hb2 hcg hpost
  have M2 : Hid _ := m2
  clear hpost hcg hb2
  go_wp2_with fail
  refine leaves_cons (f := 37) (args := #[.pointer (some ⟨mb, 0, none⟩)]) (by simp) (by simp [go_sem]) ?_
  refine (runlock_deferred Try.rwRLib mb 0 1 (.int .i32 0) (.int .u32 0) .returning _ (blk_cell (i := 0) m2 rfl) (blk_cell (i := 2) m2 rfl) (blk_cell (i := 4) m2 rfl) (blk_free m2) (by rw [rc2]; decide)).mono ?_
  rintro e u' w3 ⟨rfl, rfl, hw3⟩
  rw [rc2] at hw3
  subst hw3
  refine ⟨_, results_tmp rfl _ _ _, ?_⟩
  exact HX.out
end Go.Proofs.Ytbdnhllhdjepcaa
