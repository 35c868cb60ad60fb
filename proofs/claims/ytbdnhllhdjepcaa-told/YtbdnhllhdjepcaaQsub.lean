import Derived.Test.YtbdnhllhdjepcaaAdd
namespace Go.Proofs.Ytbdnhllhdjepcaa
set_option linter.unusedVariables false
set_option linter.unusedSimpArgs false
open Go.RowKit Go.Maps Go.MuLone

/-! ### the queue -/
structure Qs where
  qb : Nat
  tb : Nat
  xb : Nat
  n : Nat
  ev : Int
  de : Int
  qu : Int
  D : DW
  ov : Value
  es : List (Int × Int)
  wv : Value
  ws : List It
def Qs.fp (s : Qs) : List Nat := [s.qb, s.tb, s.xb] ++ own s.ov ++ own s.wv
structure QAt (w : World) (s : Qs) : Prop where
  blk : qblk w s.qb 0 s.ev s.de s.qu s.tb s.wv
  trn : TurnAt w s.tb s.xb s.n s.D s.ov s.es
  row : Rw w 75 3 s.wv s.ws.length (icells s.ws)
  srt : Sorted s.ws
theorem QAt.chg {w w' : World} {s : Qs} {l : List Nat} (h : QAt w s) (hc : Chg l w w') (hn : ∀ b ∈ s.fp, b ∉ l) : QAt w' s :=
  ⟨hc.blk h.blk (hn _ (by simp [Qs.fp])), h.trn.chg hc (hn _ (by simp [Qs.fp])) (hn _ (by simp [Qs.fp])) (fun b hb => hn b (by simp [Qs.fp, mem_own.2 hb])), h.row.chg hc (fun b hb => hn b (by simp [Qs.fp, mem_own.2 hb])), h.srt⟩
theorem QAt.lt {w : World} {s : Qs} (h : QAt w s) : ∀ b ∈ s.fp, b < w.heap.size := fun b hb => by
  simp only [Qs.fp, List.mem_append, List.mem_cons, List.not_mem_nil, or_false] at hb
  rcases hb with ((rfl | rfl | rfl) | hb) | hb
  · exact lt_of_block h.blk
  · exact lt_of_block h.trn.blk
  · exact h.trn.own.lt
  · exact h.trn.row.lt (mem_own.1 hb)
  · exact h.row.lt (mem_own.1 hb)
structure SameQ (s s' : Qs) : Prop where
  qb : s'.qb = s.qb
  tb : s'.tb = s.tb
  xb : s'.xb = s.xb
  ev : s'.ev = s.ev
  de : s'.de = s.de
  qu : s'.qu = s.qu
/-- what becomes of an item -/
def Sub (s s' : Qs) (t x now : Int) (e : Ending) : Prop :=
  (s.de < max (markOf s.D (tk t)) now - now ∧ e = .returned (.tuple #[.int .i64 4, .int .u64 0]) ∧ s'.ws = s.ws ∧ Keeps now s.D s'.D) ∨
  (max (markOf s.D (tk t)) now - now ≤ s.de ∧ s.qu ≤ s.ws.length ∧ e = .returned (.tuple #[.int .i64 5, .int .u64 0]) ∧ s'.ws = s.ws ∧ Keeps now s.D s'.D) ∨
  (max (markOf s.D (tk t)) now - now ≤ s.de ∧ s.ws.length < s.qu ∧ e = .returned (.tuple #[.int .i64 3, .int .u64 (max (markOf s.D (tk t)) now)]) ∧ s'.ws = ins ⟨t, x, max (markOf s.D (tk t)) now⟩ s.ws ∧ ∀ t', max (markOf s'.D (tk t')) now = max (if t' = t then max (markOf s.D (tk t)) now + s.ev else markOf s.D (tk t')) now)
theorem own_own {w : World} {e e' : TypeId} {sz sz' n n' : Nat} {v v' : Value} {cs cs' : List Value} (h : Rw w e sz v n cs) (h' : Rw w e' sz' v' n' cs') (hne : e ≠ e') : ∀ b, b ∈ own v → b ∉ own v' := fun b hb => by
  obtain ⟨xs, hx⟩ := h.blk (mem_own.1 hb)
  exact own_ty h' hx hne
theorem Rw.val {w : World} {e : TypeId} {sz n : Nat} {v : Value} {cs : List Value} (h : Rw w e sz v n cs) : ∃ bs cap, v = .slice bs n cap := by
  rcases h.2.2 with ⟨rfl, rfl⟩ | ⟨b, cap, P, R, hv, _⟩
  · exact ⟨none, 0, rfl⟩
  · exact ⟨_, cap, hv⟩
theorem mo_same {D : DW} (hD : IsMap D) {k : Lit} (hk : WideAt.IsKeyLit k) (x : Int) : markOf (D.put k (lu x)) k = x := by
  unfold markOf; rw [atKey_put_same hD hk]; rfl
theorem mo_other {D : DW} {k l : Lit} (h : l ≠ k) (x : Int) : markOf (D.put k (lu x)) l = markOf D l := by
  unfold markOf; rw [atKey_put_other h]
theorem max_put {now : Int} {D D1 : DW} (hk : Keeps now D D1) (hm : IsMap D1) (t a : Int) : ∀ t', max (markOf (D1.put (tk t) (lu a)) (tk t')) now = max (if t' = t then a else markOf D (tk t')) now := fun t' => by
  by_cases e : t' = t
  · subst e
    rw [if_pos rfl, mo_same hm (tk_key _)]
  · rw [if_neg e, mo_other (by unfold tk; simpa using e)]
    exact hk t'
theorem own_eq {v v' : Value} (h : v'.ownBlock = v.ownBlock) : own v' = own v := by unfold own; rw [h]

set_option maxRecDepth 100000 in
set_option maxHeartbeats 4000000 in
theorem qsubmit_any (s : Qs) (t x now : Int) (w : World) (h : QAt w s) (ht : (Lit.int .u16 t).wf = true) (h0 : 0 ≤ now) (h1 : now ≤ 9223372036854775807) (hev : 0 ≤ s.ev) (hev' : s.ev ≤ 4611686018427387904) (hde : 0 ≤ s.de) (hde' : s.de ≤ 4611686018427387904) (hws : s.ws.length ≤ 900) (hes : s.es.length ≤ 900) (hn : s.n ≤ 900000) :
    Calls Try.prog 43 #[.pointer (some ⟨s.qb, 0, none⟩), .int .u16 t, .int .u32 x, .int .u64 now] w fun e w' => ∃ s' : Qs, QAt w' s' ∧ SameQ s s' ∧ Chg s.fp w w' ∧ (∀ b ∈ s'.fp, b ∈ s.fp ∨ w.heap.size ≤ b) ∧ s'.n ≤ s.n + 1 ∧ s'.es.length ≤ s.es.length + 1 ∧ Sub s s' t x now e := by
  obtain ⟨qb, tb, xb, n, ev, de, qu, D, ov, es, wv, ws⟩ := s
  simp only at *
  obtain ⟨hb, htr, hr, hso⟩ := h
  simp only at hb htr hr hso
  have hqt : qb ≠ tb := ne_ty hb htr.blk (by decide)
  have hqx : qb ≠ xb := htr.own.ne hb
  have hqo : qb ∉ own ov := own_ty htr.row hb (by decide)
  have hqw : qb ∉ own wv := own_ty hr hb (by decide)
  have htw : tb ∉ own wv := own_ty hr htr.blk (by decide)
  have hxw : xb ∉ own wv := own_map hr htr.own
  have hto : tb ∉ own ov := own_ty htr.row htr.blk (by decide)
  have hxo : xb ∉ own ov := own_map htr.row htr.own
  have how : ∀ b, b ∈ own ov → b ∉ own wv := own_own htr.row hr (by decide)
  have HFP : Hid (∀ b, b ∈ (Qs.fp ⟨qb, tb, xb, n, ev, de, qu, D, ov, es, wv, ws⟩) ↔ b = qb ∨ b = tb ∨ b = xb ∨ b ∈ own ov ∨ b ∈ own wv) := fun b => by simp [Qs.fp, or_assoc]
  generalize hfp : Qs.fp ⟨qb, tb, xb, n, ev, de, qu, D, ov, es, wv, ws⟩ = fp at HFP ⊢
  clear hfp
  go_enter_defers Try.func43, Try.ntmps43
  go_wp2_with fail
  refine (lock_free Try.muLib ⟨qb, 0, none⟩ w (blk_cell (i := 0) hb rfl) (blk_free hb)).mono ?_
  rintro e w1 ⟨rfl, hw1⟩
  have hb1 : qblk w1 qb 1 ev de qu tb wv := hw1 ▸ blk_set (i := 0) (.int .i32 1) hb
  have hc1 : Chg [qb] w w1 := hw1 ▸ (Chg.refl [qb] w).set _ _ (Or.inl (by simp))
  have ht1 : TurnAt w1 tb xb n D ov es := htr.chg hc1 (by simp; exact Ne.symm hqt) (by simp; exact Ne.symm hqx) (fun b hb' => by simp; rintro rfl; exact hqo (mem_own.2 hb'))
  have hr1 : Rw w1 75 3 wv ws.length (icells ws) := hr.chg hc1 (fun b hb' => by simp; rintro rfl; exact hqw (mem_own.2 hb'))
  have HHR : Hid (Rw w 75 3 wv ws.length (icells ws) ∧ QAt w ⟨qb, tb, xb, n, ev, de, qu, D, ov, es, wv, ws⟩) := ⟨hr, ⟨hb, htr, hr, hso⟩⟩
  clear hw1 hb htr hr
  have k5 := blk_cell (i := 5) hb1 rfl
  go_wp2_with fail
  refine (tforget_any tb xb n D ov es now w1 ht1 h0 (by omega)).mono ?_
  rintro e w2 ⟨rfl, D1, ov1, es1, ht2, hc2, ho2, hel, hkp⟩
  have eo := own_eq ho2
  have hb2 := hc2.blk hb1 (by simp; exact ⟨hqt, hqx⟩)
  have hr2 : Rw w2 75 3 wv ws.length (icells ws) := hr1.chg hc2 (fun b hb' => by
    have hb'' := mem_own.2 hb'
    simp only [List.mem_cons, List.not_mem_nil, or_false]
    rintro (rfl | rfl)
    · exact htw hb''
    · exact hxw hb'')
  have hcw2 : Chg fp w w2 := (hc1.mono (fun j hj => by simp at hj; subst hj; exact (HFP.out _).2 (Or.inl rfl))).trans hc2 (fun j hj => by
    simp at hj
    rcases hj with rfl | rfl
    · exact Or.inl ((HFP.out _).2 (Or.inr (Or.inl rfl)))
    · exact Or.inl ((HFP.out _).2 (Or.inr (Or.inr (Or.inl rfl)))))
  have HKP : Hid (Keeps now D D1) := hkp
  clear hb1 ht1 hr1 hc1 hc2 k5 hkp
  have k5 := blk_cell (i := 5) hb2 rfl
  have k2 := blk_cell (i := 2) hb2 rfl
  have k3 := blk_cell (i := 3) hb2 rfl
  have k4 := blk_cell (i := 4) hb2 rfl
  have k6 := blk_cell (i := 6) hb2 rfl
  have hlk := (ht2.own.look ht).2
  have hkt := HKP.out t
  obtain ⟨c, hc⟩ : ∃ c, markOf D1 (tk t) = c := ⟨_, rfl⟩
  have HOF : Hid (Calls Try.prog 71 #[.pointer (some ⟨tb, 0, none⟩), .int .u16 t] w2 fun e w' => e = .returned (.int .u64 c) ∧ w' = w2) := by
    have := of_any tb xb n D1 ov1 t w2 ht2.blk ht2.own ht
    rw [hc] at this
    exact this
  rw [hc] at hlk hkt
  have HC : Hid (max (markOf D (tk t)) now = max c now) := hkt.symm
  have hcb := bd_u64 hlk
  clear hc hlk hkt
  go_wp2_with fail
  refine (HOF.out).mono ?_
  rintro e w2 ⟨rfl, rfl⟩
  have HUN : Hid (∀ (W : World) (n' : Nat) (D' : DW) (ov' : Value) (es' : List (Int × Int)) (wv' : Value) (ws' : List It), qblk W qb 1 ev de qu tb wv' → TurnAt W tb xb n' D' ov' es' → Rw W 75 3 wv' ws'.length (icells ws') → Sorted ws' → Chg fp w W → (∀ b ∈ own ov', b ∈ own ov ∨ w.heap.size ≤ b) → (∀ b ∈ own wv', b ∈ own wv ∨ w.heap.size ≤ b) →
      QAt (W.setCell ⟨qb, 0, none⟩ (.int .i32 0)) ⟨qb, tb, xb, n', ev, de, qu, D', ov', es', wv', ws'⟩ ∧ Chg fp w (W.setCell ⟨qb, 0, none⟩ (.int .i32 0)) ∧ ∀ b ∈ Qs.fp ⟨qb, tb, xb, n', ev, de, qu, D', ov', es', wv', ws'⟩, b ∈ fp ∨ w.heap.size ≤ b) := fun W n' D' ov' es' wv' ws' z1 z2 z3 z4 z5 z6 z7 => by
    have hcs : Chg [qb] W (W.setCell ⟨qb, 0, none⟩ (.int .i32 0)) := (Chg.refl [qb] W).set _ _ (Or.inl (by simp))
    have y1 : qb ∉ own ov' := own_ty z2.row z1 (by decide)
    have y2 : qb ∉ own wv' := own_ty z3 z1 (by decide)
    refine ⟨⟨blk_set (i := 0) (.int .i32 0) z1, z2.chg hcs (by simp; exact Ne.symm hqt) (by simp; exact Ne.symm hqx) (fun b hb' => by simp; rintro rfl; exact y1 (mem_own.2 hb')), z3.chg hcs (fun b hb' => by simp; rintro rfl; exact y2 (mem_own.2 hb')), z4⟩, z5.trans hcs (fun j hj => by simp at hj; subst hj; exact Or.inl ((HFP.out _).2 (Or.inl rfl))), fun b hb' => ?_⟩
    simp only [Qs.fp, List.mem_append, List.mem_cons, List.not_mem_nil, or_false] at hb'
    rcases hb' with ((rfl | rfl | rfl) | hb') | hb'
    · exact Or.inl ((HFP.out _).2 (by simp))
    · exact Or.inl ((HFP.out _).2 (by simp))
    · exact Or.inl ((HFP.out _).2 (by simp))
    · rcases z6 b hb' with h | h
      · exact Or.inl ((HFP.out _).2 (by simp [h]))
      · exact Or.inr h
    · rcases z7 b hb' with h | h
      · exact Or.inl ((HFP.out _).2 (by simp [h]))
      · exact Or.inr h
  have H2 : Hid (qblk w2 qb 1 ev de qu tb wv ∧ TurnAt w2 tb xb n D1 ov1 es1 ∧ Rw w2 75 3 wv ws.length (icells ws) ∧ Chg fp w w2) := ⟨hb2, ht2, hr2, hcw2⟩
  have HQ2 : Hid (∀ (W : World), Chg [] w2 W → qblk W qb 1 ev de qu tb wv ∧ QAt (W.setCell ⟨qb, 0, none⟩ (.int .i32 0)) ⟨qb, tb, xb, n, ev, de, qu, D1, ov1, es1, wv, ws⟩ ∧ Chg fp w (W.setCell ⟨qb, 0, none⟩ (.int .i32 0)) ∧ ∀ b ∈ Qs.fp ⟨qb, tb, xb, n, ev, de, qu, D1, ov1, es1, wv, ws⟩, b ∈ fp ∨ w.heap.size ≤ b) := fun W hW =>
    ⟨hW.blk hb2 (by simp), HUN.out W n D1 ov1 es1 wv ws (hW.blk hb2 (by simp)) (ht2.chg hW (by simp) (by simp) (by simp)) (hr2.chg hW (by simp)) hso (hcw2.trans hW (by simp)) (fun b hb' => Or.inl (eo ▸ hb')) (fun b hb' => Or.inl hb')⟩
  have HIM : Hid (IsMap D1) := ht2.own.isMap
  obtain ⟨bs, cp, hwv⟩ := hr2.val
  have k6' : w2.cell? ⟨qb, 6, none⟩ = some (.slice bs ws.length cp) := by rw [k6, ← hwv]
  have HEO : Hid (own ov1 = own ov ∧ es1.length ≤ es.length) := ⟨eo, hel⟩
  clear k6 hb2 ht2 hr2 hcw2 hwv eo hel ho2 HHR
  by_cases hlate : de < max c now - now
  · go_wp2_with fail
    obtain ⟨z1, z2, z3, z4⟩ := HQ2.out w2 (Chg.refl _ _)
    refine leaves_cons (f := 61) (args := #[.pointer (some ⟨qb, 0, none⟩)]) (by simp) (by simp [go_sem]) ?_
    refine (unlock_deferred Try.muLib ⟨qb, 0, none⟩ .returning _ (blk_cell (i := 0) z1 rfl) (blk_free z1)).mono ?_
    rintro e u' w'' ⟨rfl, rfl, rfl⟩
    refine ⟨_, results_tmp2 rfl _ _ _, ⟨qb, tb, xb, n, ev, de, qu, D1, ov1, es1, wv, ws⟩, z2, ⟨rfl, rfl, rfl, rfl, rfl, rfl⟩, z3, z4, by simp, by have := HEO.out.2; simp only; omega, Or.inl ⟨by rw [HC.out]; exact hlate, rfl, rfl, HKP.out⟩⟩
  · have hnl : max c now - now ≤ de := by omega
    have hmn : now ≤ max c now := by omega
    go_upto_region 7 with fail
    generalize max c now = mx at *
    go_region
    by_cases hroom : qu ≤ (ws.length : Int)
    · go_wp2_with fail
      obtain ⟨z1, z2, z3, z4⟩ := HQ2.out w2.drew (Chg.refl _ _).drew
      refine leaves_cons (f := 61) (args := #[.pointer (some ⟨qb, 0, none⟩)]) (by simp) (by simp [go_sem]) ?_
      refine (unlock_deferred Try.muLib ⟨qb, 0, none⟩ .returning _ (blk_cell (i := 0) z1 rfl) (blk_free z1)).mono ?_
      rintro e u' w'' ⟨rfl, rfl, rfl⟩
      refine ⟨_, results_tmp2 rfl _ _ _, ⟨qb, tb, xb, n, ev, de, qu, D1, ov1, es1, wv, ws⟩, z2, ⟨rfl, rfl, rfl, rfl, rfl, rfl⟩, z3, z4, by simp, by have := HEO.out.2; simp only; omega, Or.inr (Or.inl ⟨by rw [HC.out]; exact hnl, hroom, rfl, rfl, HKP.out⟩)⟩
    · have hroom' : (ws.length : Int) < qu := by omega
      have HADD : Hid (Calls Try.prog 72 #[.pointer (some ⟨qb, 0, none⟩), .agg #[.int .u16 t, .int .u32 x, .int .u64 (mx)]] w2.drew fun e w3 => e = .returned (.tuple #[]) ∧ ∃ wv', qblk w3 qb 1 ev de qu tb wv' ∧ Rw w3 75 3 wv' (ins ⟨t, x, mx⟩ ws).length (icells (ins ⟨t, x, mx⟩ ws)) ∧ TurnAt w3 tb xb n D1 ov1 es1 ∧ Chg fp w w3 ∧ ∀ b ∈ own wv', b ∈ own wv ∨ w.heap.size ≤ b) := by
        obtain ⟨y1, y2, y3, y4⟩ := H2.out
        refine (add_any qb tb 1 ev de qu wv ws ⟨t, x, mx⟩ w2.drew y1 y3 hso (by omega)).mono ?_
        rintro e w3 ⟨rfl, wv', x1, x2, x3, x4⟩
        have hsz := y4.size
        have y2' : TurnAt w2.drew tb xb n D1 ov1 es1 := y2.chg (l := []) (Chg.refl _ _).drew (by simp) (by simp) (by simp)
        have x3' : Chg (qb :: own wv) w2 w3 := ((Chg.refl _ _).drew).trans x3 (fun j hj => Or.inl hj)
        refine ⟨rfl, wv', x1, x2, y2.chg x3' (by simp; exact ⟨Ne.symm hqt, htw⟩) (by simp; exact ⟨Ne.symm hqx, hxw⟩) (fun b hb' => ?_), y4.trans x3' (fun j hj => ?_), fun b hb' => ?_⟩
        · have hb'' := mem_own.2 hb'
          rw [HEO.out.1] at hb''
          simp only [List.mem_cons, not_or]
          exact ⟨fun e => hqo (e ▸ hb''), how b hb''⟩
        · rcases List.mem_cons.1 hj with rfl | hj
          · exact Or.inl ((HFP.out _).2 (Or.inl rfl))
          · exact Or.inl ((HFP.out _).2 (by simp [hj]))
        · rcases x4 b hb' with h | h
          · exact Or.inl h
          · exact Or.inr (by simp at h; omega)
      go_wp2_with fail
      refine (HADD.out).mono ?_
      rintro e w3 ⟨rfl, wv', x1, x2, x3, x4, x5⟩
      have hmx : 0 ≤ mx + ev ∧ mx + ev ≤ 18446744073709551615 := by omega
      have hwr : IntKind.u64.wrap (mx + ev) = mx + ev := by rw [IntKind.wrap_u64]; omega
      have HSET : Hid (Calls Try.prog 73 #[.pointer (some ⟨tb, 0, none⟩), .int .u16 t, .int .u64 (mx + ev)] w3.drew fun e w4 => e = .returned (.tuple #[]) ∧ qblk w4 qb 1 ev de qu tb wv' ∧ ∃ ov2 es2, (QAt (w4.setCell ⟨qb, 0, none⟩ (.int .i32 0)) ⟨qb, tb, xb, n + 1, ev, de, qu, D1.put (tk t) (lu (mx + ev)), ov2, es2, wv', ins ⟨t, x, mx⟩ ws⟩ ∧ Chg fp w (w4.setCell ⟨qb, 0, none⟩ (.int .i32 0)) ∧ ∀ b ∈ Qs.fp ⟨qb, tb, xb, n + 1, ev, de, qu, D1.put (tk t) (lu (mx + ev)), ov2, es2, wv', ins ⟨t, x, mx⟩ ws⟩, b ∈ fp ∨ w.heap.size ≤ b) ∧ es2.length = es1.length + 1) := by
        have x3' : TurnAt w3.drew tb xb n D1 ov1 es1 := x3.chg (l := []) (Chg.refl _ _).drew (by simp) (by simp) (by simp)
        refine (set_any tb xb n D1 ov1 es1 t (mx + ev) w3.drew x3' ht (WalkArith.wf_u64 hmx) (by have := HEO.out.2; omega) (by omega)).mono ?_
        rintro e w4 ⟨rfl, ov2, es2, u1, u2, u3, u4⟩
        have hq1 : qb ∉ [tb, xb] ++ own ov1 := by rw [HEO.out.1]; simp; exact ⟨hqt, hqx, hqo⟩
        have u2' : Chg ([tb, xb] ++ own ov1) w3 w4 := ((Chg.refl _ _).drew).trans u2 (fun j hj => Or.inl hj)
        have hsz := x4.size
        have hwo : ∀ b, b ∈ own wv' → b ∉ [tb, xb] ++ own ov1 := fun b hb' hm => by
          simp only [List.mem_append, List.mem_cons, List.not_mem_nil, or_false] at hm
          rcases hm with (rfl | rfl) | hm
          · exact own_ty x2 x3.blk (by decide) hb'
          · exact own_map x2 x3.own hb'
          · exact own_own x2 x3.row (by decide) b hb' hm
        refine ⟨rfl, u2'.blk x1 hq1, ov2, es2, HUN.out w4 (n + 1) _ ov2 es2 wv' _ (u2'.blk x1 hq1) u1 (x2.chg u2' (fun b hb' => hwo b (mem_own.2 hb'))) (ins_sorted _ _ hso) (x4.trans u2' (fun j hj => ?_)) (fun b hb' => ?_) x5, u4⟩
        · rw [HEO.out.1] at hj
          simp only [List.mem_append, List.mem_cons, List.not_mem_nil, or_false] at hj
          exact Or.inl ((HFP.out _).2 (by rcases hj with (h | h) | h <;> simp [h]))
        · rcases u3 b hb' with h | h
          · rw [HEO.out.1] at h; exact Or.inl h
          · exact Or.inr (by simp at h; omega)
      have HS : Hid (∀ W, Chg [] w3 W → (W.cell? ⟨qb, 5, none⟩ = some (.pointer (some ⟨tb, 0, none⟩)) ∧ W.cell? ⟨qb, 2, none⟩ = some (.int .u64 ev))) := fun W hW => by
        have hbW := hW.blk x1 (by simp)
        exact ⟨blk_cell hbW rfl, blk_cell hbW rfl⟩
      have v3 : Chg [] w3 w3.drew := (Chg.refl _ _).drew
      have j5 := (HS.out w3 (Chg.refl _ _)).1
      have j2 := (HS.out w3 (Chg.refl _ _)).2
      clear x1 x2 x3 x4 x5
      go_upto_region 10 with fail
      go_region_held3 (fun W => W.cell? ⟨qb, 5, none⟩ = some (.pointer (some ⟨tb, 0, none⟩)) ∧ W.cell? ⟨qb, 2, none⟩ = some (.int .u64 ev))
        (first | with_reducible exact H4.out | with_reducible exact HS.out _ v3)
        (first | (go_at_call 73; refine (HSET.out).mono ?_; rintro e w4 ⟨rfl, hq4, ov2, es2, hfin, hel2⟩; have H4 : Hid (w4.cell? ⟨qb, 5, none⟩ = some (.pointer (some ⟨tb, 0, none⟩)) ∧ w4.cell? ⟨qb, 2, none⟩ = some (.int .u64 ev)) := ⟨blk_cell hq4 rfl, blk_cell hq4 rfl⟩))
      go_wp2_with fail
      refine leaves_cons (f := 61) (args := #[.pointer (some ⟨qb, 0, none⟩)]) (by simp) (by simp [go_sem]) ?_
      refine (unlock_deferred Try.muLib ⟨qb, 0, none⟩ .returning _ (blk_cell (i := 0) hq4 rfl) (blk_free hq4)).mono ?_
      rintro e u' w'' ⟨rfl, rfl, rfl⟩
      refine ⟨_, results_tmp2 rfl _ _ _, _, hfin.1, ⟨rfl, rfl, rfl, rfl, rfl, rfl⟩, hfin.2.1, hfin.2.2, by simp, by have := HEO.out.2; simp only; omega, Or.inr (Or.inr ⟨by rw [HC.out]; exact hnl, hroom', by rw [HC.out]; rfl, by rw [HC.out], by rw [HC.out]; exact max_put HKP.out HIM.out t _⟩)⟩
end Go.Proofs.Ytbdnhllhdjepcaa
