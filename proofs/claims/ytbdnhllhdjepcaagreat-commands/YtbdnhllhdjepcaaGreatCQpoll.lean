import Derived.Test.YtbdnhllhdjepcaaGreatCAdd
import Derived.Laws.MakeOwn
namespace Go.Proofs.YtbdnhllhdjepcaaGreat
set_option linter.unusedVariables false
set_option linter.unusedSimpArgs false
open Go.RowKit Go.Maps Go.MuLone

/-! ### the queue -/
structure Qs where
  qb : Nat
  tb : Nat
  xb : Nat
  n : Nat
  ev : Int
  de : Int
  qu : Int
  D : DW
  ov : Value
  es : List (Int × Int)
  wv : Value
  ws : List It
def Qs.fp (s : Qs) : List Nat := [s.qb, s.tb, s.xb] ++ own s.ov ++ own s.wv
structure QAt (w : World) (s : Qs) : Prop where
  blk : qblk w s.qb 0 s.ev s.de s.qu s.tb s.wv
  trn : TurnAt w s.tb s.xb s.n s.D s.ov s.es
  row : Rw w 123 3 s.wv s.ws.length (icells s.ws)
  srt : Sorted s.ws
theorem QAt.chg {w w' : World} {s : Qs} {l : List Nat} (h : QAt w s) (hc : Chg l w w') (hn : ∀ b ∈ s.fp, b ∉ l) : QAt w' s :=
  ⟨hc.blk h.blk (hn _ (by simp [Qs.fp])), h.trn.chg hc (hn _ (by simp [Qs.fp])) (hn _ (by simp [Qs.fp])) (fun b hb => hn b (by simp [Qs.fp, mem_own.2 hb])), h.row.chg hc (fun b hb => hn b (by simp [Qs.fp, mem_own.2 hb])), h.srt⟩
theorem QAt.lt {w : World} {s : Qs} (h : QAt w s) : ∀ b ∈ s.fp, b < w.heap.size := fun b hb => by
  simp only [Qs.fp, List.mem_append, List.mem_cons, List.not_mem_nil, or_false] at hb
  rcases hb with ((rfl | rfl | rfl) | hb) | hb
  · exact lt_of_block h.blk
  · exact lt_of_block h.trn.blk
  · exact h.trn.own.lt
  · exact h.trn.row.lt (mem_own.1 hb)
  · exact h.row.lt (mem_own.1 hb)
structure SameQ (s s' : Qs) : Prop where
  qb : s'.qb = s.qb
  tb : s'.tb = s.tb
  xb : s'.xb = s.xb
  ev : s'.ev = s.ev
  de : s'.de = s.de
  qu : s'.qu = s.qu
/-- what becomes of an item -/
def Sub (s s' : Qs) (t x now : Int) (e : Ending) : Prop :=
  (s.de < max (markOf s.D (tk t)) now - now ∧ e = .returned (.tuple #[.int .i64 4, .int .u64 0]) ∧ s'.ws = s.ws ∧ Keeps now s.D s'.D) ∨
  (max (markOf s.D (tk t)) now - now ≤ s.de ∧ s.qu ≤ s.ws.length ∧ e = .returned (.tuple #[.int .i64 5, .int .u64 0]) ∧ s'.ws = s.ws ∧ Keeps now s.D s'.D) ∨
  (max (markOf s.D (tk t)) now - now ≤ s.de ∧ s.ws.length < s.qu ∧ e = .returned (.tuple #[.int .i64 3, .int .u64 (max (markOf s.D (tk t)) now)]) ∧ s'.ws = ins ⟨t, x, max (markOf s.D (tk t)) now⟩ s.ws ∧ ∀ t', max (markOf s'.D (tk t')) now = max (if t' = t then max (markOf s.D (tk t)) now + s.ev else markOf s.D (tk t')) now)
theorem own_own {w : World} {e e' : TypeId} {sz sz' n n' : Nat} {v v' : Value} {cs cs' : List Value} (h : Rw w e sz v n cs) (h' : Rw w e' sz' v' n' cs') (hne : e ≠ e') : ∀ b, b ∈ own v → b ∉ own v' := fun b hb => by
  obtain ⟨xs, hx⟩ := h.blk (mem_own.1 hb)
  exact own_ty h' hx hne
theorem Rw.val {w : World} {e : TypeId} {sz n : Nat} {v : Value} {cs : List Value} (h : Rw w e sz v n cs) : ∃ bs cap, v = .slice bs n cap := by
  rcases h.2.2 with ⟨rfl, rfl⟩ | ⟨b, cap, P, R, hv, _⟩
  · exact ⟨none, 0, rfl⟩
  · exact ⟨_, cap, hv⟩
theorem mo_same {D : DW} (hD : IsMap D) {k : Lit} (hk : WideAt.IsKeyLit k) (x : Int) : markOf (D.put k (lu x)) k = x := by
  unfold markOf; rw [atKey_put_same hD hk]; rfl
theorem mo_other {D : DW} {k l : Lit} (h : l ≠ k) (x : Int) : markOf (D.put k (lu x)) l = markOf D l := by
  unfold markOf; rw [atKey_put_other h]
theorem max_put {now : Int} {D D1 : DW} (hk : Keeps now D D1) (hm : IsMap D1) (t a : Int) : ∀ t', max (markOf (D1.put (tk t) (lu a)) (tk t')) now = max (if t' = t then a else markOf D (tk t')) now := fun t' => by
  by_cases e : t' = t
  · subst e
    rw [if_pos rfl, mo_same hm (tk_key _)]
  · rw [if_neg e, mo_other (by unfold tk; simpa using e)]
    exact hk t'
theorem own_eq {v v' : Value} (h : v'.ownBlock = v.ownBlock) : own v' = own v := by unfold own; rw [h]

set_option maxRecDepth 100000 in
set_option maxHeartbeats 4000000 in
theorem qsubmit_any (s : Qs) (t x now : Int) (w : World) (h : QAt w s) (ht : (Lit.int .u16 t).wf = true) (h0 : 0 ≤ now) (h1 : now ≤ 9223372036854775807) (hev : 0 ≤ s.ev) (hev' : s.ev ≤ 4611686018427387904) (hde : 0 ≤ s.de) (hde' : s.de ≤ 4611686018427387904) (hws : s.ws.length ≤ 900) (hes : s.es.length ≤ 900000000000) (hn : s.n ≤ 900000000000) :
    Calls Tryz.prog 88 #[.pointer (some ⟨s.qb, 0, none⟩), .int .u16 t, .int .u32 x, .int .u64 now] w fun e w' => ∃ s' : Qs, QAt w' s' ∧ SameQ s s' ∧ Chg s.fp w w' ∧ (∀ b ∈ s'.fp, b ∈ s.fp ∨ w.heap.size ≤ b) ∧ s'.n ≤ s.n + 1 ∧ s'.es.length ≤ s.es.length + 1 ∧ Sub s s' t x now e := by
  obtain ⟨qb, tb, xb, n, ev, de, qu, D, ov, es, wv, ws⟩ := s
  simp only at *
  obtain ⟨hb, htr, hr, hso⟩ := h
  simp only at hb htr hr hso
  have hqt : qb ≠ tb := ne_ty hb htr.blk (by decide)
  have hqx : qb ≠ xb := htr.own.ne hb
  have hqo : qb ∉ own ov := own_ty htr.row hb (by decide)
  have hqw : qb ∉ own wv := own_ty hr hb (by decide)
  have htw : tb ∉ own wv := own_ty hr htr.blk (by decide)
  have hxw : xb ∉ own wv := own_map hr htr.own
  have hto : tb ∉ own ov := own_ty htr.row htr.blk (by decide)
  have hxo : xb ∉ own ov := own_map htr.row htr.own
  have how : ∀ b, b ∈ own ov → b ∉ own wv := own_own htr.row hr (by decide)
  have HFP : Hid (∀ b, b ∈ (Qs.fp ⟨qb, tb, xb, n, ev, de, qu, D, ov, es, wv, ws⟩) ↔ b = qb ∨ b = tb ∨ b = xb ∨ b ∈ own ov ∨ b ∈ own wv) := fun b => by simp [Qs.fp, or_assoc]
  generalize hfp : Qs.fp ⟨qb, tb, xb, n, ev, de, qu, D, ov, es, wv, ws⟩ = fp at HFP ⊢
  clear hfp
  go_enter_defers Tryz.func88, Tryz.ntmps88
  go_wp2_with fail
  refine (lock_free Tryz.muLib ⟨qb, 0, none⟩ w (blk_cell (i := 0) hb rfl) (blk_free hb)).mono ?_
  rintro e w1 ⟨rfl, hw1⟩
  have hb1 : qblk w1 qb 1 ev de qu tb wv := hw1 ▸ blk_set (i := 0) (.int .i32 1) hb
  have hc1 : Chg [qb] w w1 := hw1 ▸ (Chg.refl [qb] w).set _ _ (Or.inl (by simp))
  have ht1 : TurnAt w1 tb xb n D ov es := htr.chg hc1 (by simp; exact Ne.symm hqt) (by simp; exact Ne.symm hqx) (fun b hb' => by simp; rintro rfl; exact hqo (mem_own.2 hb'))
  have hr1 : Rw w1 123 3 wv ws.length (icells ws) := hr.chg hc1 (fun b hb' => by simp; rintro rfl; exact hqw (mem_own.2 hb'))
  have HHR : Hid (Rw w 123 3 wv ws.length (icells ws) ∧ QAt w ⟨qb, tb, xb, n, ev, de, qu, D, ov, es, wv, ws⟩) := ⟨hr, ⟨hb, htr, hr, hso⟩⟩
  clear hw1 hb htr hr
  have k5 := blk_cell (i := 5) hb1 rfl
  go_wp2_with fail
  refine (tforget_any tb xb n D ov es now w1 ht1 h0 (by omega)).mono ?_
  rintro e w2 ⟨rfl, D1, ov1, es1, ht2, hc2, ho2, hel, hkp⟩
  have eo := own_eq ho2
  have hb2 := hc2.blk hb1 (by simp; exact ⟨hqt, hqx⟩)
  have hr2 : Rw w2 123 3 wv ws.length (icells ws) := hr1.chg hc2 (fun b hb' => by
    have hb'' := mem_own.2 hb'
    simp only [List.mem_cons, List.not_mem_nil, or_false]
    rintro (rfl | rfl)
    · exact htw hb''
    · exact hxw hb'')
  have hcw2 : Chg fp w w2 := (hc1.mono (fun j hj => by simp at hj; subst hj; exact (HFP.out _).2 (Or.inl rfl))).trans hc2 (fun j hj => by
    simp at hj
    rcases hj with rfl | rfl
    · exact Or.inl ((HFP.out _).2 (Or.inr (Or.inl rfl)))
    · exact Or.inl ((HFP.out _).2 (Or.inr (Or.inr (Or.inl rfl)))))
  have HKP : Hid (Keeps now D D1) := hkp
  clear hb1 ht1 hr1 hc1 hc2 k5 hkp
  have k5 := blk_cell (i := 5) hb2 rfl
  have k2 := blk_cell (i := 2) hb2 rfl
  have k3 := blk_cell (i := 3) hb2 rfl
  have k4 := blk_cell (i := 4) hb2 rfl
  have k6 := blk_cell (i := 6) hb2 rfl
  have hlk := (ht2.own.look ht).2
  have hkt := HKP.out t
  obtain ⟨c, hc⟩ : ∃ c, markOf D1 (tk t) = c := ⟨_, rfl⟩
  have HOF : Hid (Calls Tryz.prog 133 #[.pointer (some ⟨tb, 0, none⟩), .int .u16 t] w2 fun e w' => e = .returned (.int .u64 c) ∧ w' = w2) := by
    have := of_any tb xb n D1 ov1 t w2 ht2.blk ht2.own ht
    rw [hc] at this
    exact this
  rw [hc] at hlk hkt
  have HC : Hid (max (markOf D (tk t)) now = max c now) := hkt.symm
  have hcb := bd_u64 hlk
  clear hc hlk hkt
  go_wp2_with fail
  refine (HOF.out).mono ?_
  rintro e w2 ⟨rfl, rfl⟩
  have HUN : Hid (∀ (W : World) (n' : Nat) (D' : DW) (ov' : Value) (es' : List (Int × Int)) (wv' : Value) (ws' : List It), qblk W qb 1 ev de qu tb wv' → TurnAt W tb xb n' D' ov' es' → Rw W 123 3 wv' ws'.length (icells ws') → Sorted ws' → Chg fp w W → (∀ b ∈ own ov', b ∈ own ov ∨ w.heap.size ≤ b) → (∀ b ∈ own wv', b ∈ own wv ∨ w.heap.size ≤ b) →
      QAt (W.setCell ⟨qb, 0, none⟩ (.int .i32 0)) ⟨qb, tb, xb, n', ev, de, qu, D', ov', es', wv', ws'⟩ ∧ Chg fp w (W.setCell ⟨qb, 0, none⟩ (.int .i32 0)) ∧ ∀ b ∈ Qs.fp ⟨qb, tb, xb, n', ev, de, qu, D', ov', es', wv', ws'⟩, b ∈ fp ∨ w.heap.size ≤ b) := fun W n' D' ov' es' wv' ws' z1 z2 z3 z4 z5 z6 z7 => by
    have hcs : Chg [qb] W (W.setCell ⟨qb, 0, none⟩ (.int .i32 0)) := (Chg.refl [qb] W).set _ _ (Or.inl (by simp))
    have y1 : qb ∉ own ov' := own_ty z2.row z1 (by decide)
    have y2 : qb ∉ own wv' := own_ty z3 z1 (by decide)
    refine ⟨⟨blk_set (i := 0) (.int .i32 0) z1, z2.chg hcs (by simp; exact Ne.symm hqt) (by simp; exact Ne.symm hqx) (fun b hb' => by simp; rintro rfl; exact y1 (mem_own.2 hb')), z3.chg hcs (fun b hb' => by simp; rintro rfl; exact y2 (mem_own.2 hb')), z4⟩, z5.trans hcs (fun j hj => by simp at hj; subst hj; exact Or.inl ((HFP.out _).2 (Or.inl rfl))), fun b hb' => ?_⟩
    simp only [Qs.fp, List.mem_append, List.mem_cons, List.not_mem_nil, or_false] at hb'
    rcases hb' with ((rfl | rfl | rfl) | hb') | hb'
    · exact Or.inl ((HFP.out _).2 (by simp))
    · exact Or.inl ((HFP.out _).2 (by simp))
    · exact Or.inl ((HFP.out _).2 (by simp))
    · rcases z6 b hb' with h | h
      · exact Or.inl ((HFP.out _).2 (by simp [h]))
      · exact Or.inr h
    · rcases z7 b hb' with h | h
      · exact Or.inl ((HFP.out _).2 (by simp [h]))
      · exact Or.inr h
  have H2 : Hid (qblk w2 qb 1 ev de qu tb wv ∧ TurnAt w2 tb xb n D1 ov1 es1 ∧ Rw w2 123 3 wv ws.length (icells ws) ∧ Chg fp w w2) := ⟨hb2, ht2, hr2, hcw2⟩
  have HQ2 : Hid (∀ (W : World), Chg [] w2 W → qblk W qb 1 ev de qu tb wv ∧ QAt (W.setCell ⟨qb, 0, none⟩ (.int .i32 0)) ⟨qb, tb, xb, n, ev, de, qu, D1, ov1, es1, wv, ws⟩ ∧ Chg fp w (W.setCell ⟨qb, 0, none⟩ (.int .i32 0)) ∧ ∀ b ∈ Qs.fp ⟨qb, tb, xb, n, ev, de, qu, D1, ov1, es1, wv, ws⟩, b ∈ fp ∨ w.heap.size ≤ b) := fun W hW =>
    ⟨hW.blk hb2 (by simp), HUN.out W n D1 ov1 es1 wv ws (hW.blk hb2 (by simp)) (ht2.chg hW (by simp) (by simp) (by simp)) (hr2.chg hW (by simp)) hso (hcw2.trans hW (by simp)) (fun b hb' => Or.inl (eo ▸ hb')) (fun b hb' => Or.inl hb')⟩
  have HIM : Hid (IsMap D1) := ht2.own.isMap
  obtain ⟨bs, cp, hwv⟩ := hr2.val
  have k6' : w2.cell? ⟨qb, 6, none⟩ = some (.slice bs ws.length cp) := by rw [k6, ← hwv]
  have HEO : Hid (own ov1 = own ov ∧ es1.length ≤ es.length) := ⟨eo, hel⟩
  clear k6 hb2 ht2 hr2 hcw2 hwv eo hel ho2 HHR
  by_cases hlate : de < max c now - now
  · go_wp2_with fail
    obtain ⟨z1, z2, z3, z4⟩ := HQ2.out w2 (Chg.refl _ _)
    refine leaves_cons (f := 73) (args := #[.pointer (some ⟨qb, 0, none⟩)]) (by simp) (by simp [go_sem]) ?_
    refine (unlock_deferred Tryz.muLib ⟨qb, 0, none⟩ .returning _ (blk_cell (i := 0) z1 rfl) (blk_free z1)).mono ?_
    rintro e u' w'' ⟨rfl, rfl, rfl⟩
    refine ⟨_, results_tmp2 rfl _ _ _, ⟨qb, tb, xb, n, ev, de, qu, D1, ov1, es1, wv, ws⟩, z2, ⟨rfl, rfl, rfl, rfl, rfl, rfl⟩, z3, z4, by simp, by have := HEO.out.2; simp only; omega, Or.inl ⟨by rw [HC.out]; exact hlate, rfl, rfl, HKP.out⟩⟩
  · have hnl : max c now - now ≤ de := by omega
    have hmn : now ≤ max c now := by omega
    go_upto_region 7 with fail
    generalize max c now = mx at *
    go_region
    by_cases hroom : qu ≤ (ws.length : Int)
    · go_wp2_with fail
      obtain ⟨z1, z2, z3, z4⟩ := HQ2.out w2.drew (Chg.refl _ _).drew
      refine leaves_cons (f := 73) (args := #[.pointer (some ⟨qb, 0, none⟩)]) (by simp) (by simp [go_sem]) ?_
      refine (unlock_deferred Tryz.muLib ⟨qb, 0, none⟩ .returning _ (blk_cell (i := 0) z1 rfl) (blk_free z1)).mono ?_
      rintro e u' w'' ⟨rfl, rfl, rfl⟩
      refine ⟨_, results_tmp2 rfl _ _ _, ⟨qb, tb, xb, n, ev, de, qu, D1, ov1, es1, wv, ws⟩, z2, ⟨rfl, rfl, rfl, rfl, rfl, rfl⟩, z3, z4, by simp, by have := HEO.out.2; simp only; omega, Or.inr (Or.inl ⟨by rw [HC.out]; exact hnl, hroom, rfl, rfl, HKP.out⟩)⟩
    · have hroom' : (ws.length : Int) < qu := by omega
      have HADD : Hid (Calls Tryz.prog 134 #[.pointer (some ⟨qb, 0, none⟩), .agg #[.int .u16 t, .int .u32 x, .int .u64 (mx)]] w2.drew fun e w3 => e = .returned (.tuple #[]) ∧ ∃ wv', qblk w3 qb 1 ev de qu tb wv' ∧ Rw w3 123 3 wv' (ins ⟨t, x, mx⟩ ws).length (icells (ins ⟨t, x, mx⟩ ws)) ∧ TurnAt w3 tb xb n D1 ov1 es1 ∧ Chg fp w w3 ∧ ∀ b ∈ own wv', b ∈ own wv ∨ w.heap.size ≤ b) := by
        obtain ⟨y1, y2, y3, y4⟩ := H2.out
        refine (add_any qb tb 1 ev de qu wv ws ⟨t, x, mx⟩ w2.drew y1 y3 hso (by omega)).mono ?_
        rintro e w3 ⟨rfl, wv', x1, x2, x3, x4⟩
        have hsz := y4.size
        have y2' : TurnAt w2.drew tb xb n D1 ov1 es1 := y2.chg (l := []) (Chg.refl _ _).drew (by simp) (by simp) (by simp)
        have x3' : Chg (qb :: own wv) w2 w3 := ((Chg.refl _ _).drew).trans x3 (fun j hj => Or.inl hj)
        refine ⟨rfl, wv', x1, x2, y2.chg x3' (by simp; exact ⟨Ne.symm hqt, htw⟩) (by simp; exact ⟨Ne.symm hqx, hxw⟩) (fun b hb' => ?_), y4.trans x3' (fun j hj => ?_), fun b hb' => ?_⟩
        · have hb'' := mem_own.2 hb'
          rw [HEO.out.1] at hb''
          simp only [List.mem_cons, not_or]
          exact ⟨fun e => hqo (e ▸ hb''), how b hb''⟩
        · rcases List.mem_cons.1 hj with rfl | hj
          · exact Or.inl ((HFP.out _).2 (Or.inl rfl))
          · exact Or.inl ((HFP.out _).2 (by simp [hj]))
        · rcases x4 b hb' with h | h
          · exact Or.inl h
          · exact Or.inr (by simp at h; omega)
      go_wp2_with fail
      refine (HADD.out).mono ?_
      rintro e w3 ⟨rfl, wv', x1, x2, x3, x4, x5⟩
      have hmx : 0 ≤ mx + ev ∧ mx + ev ≤ 18446744073709551615 := by omega
      have hwr : IntKind.u64.wrap (mx + ev) = mx + ev := by rw [IntKind.wrap_u64]; omega
      have HSET : Hid (Calls Tryz.prog 135 #[.pointer (some ⟨tb, 0, none⟩), .int .u16 t, .int .u64 (mx + ev)] w3.drew fun e w4 => e = .returned (.tuple #[]) ∧ qblk w4 qb 1 ev de qu tb wv' ∧ ∃ ov2 es2, (QAt (w4.setCell ⟨qb, 0, none⟩ (.int .i32 0)) ⟨qb, tb, xb, n + 1, ev, de, qu, D1.put (tk t) (lu (mx + ev)), ov2, es2, wv', ins ⟨t, x, mx⟩ ws⟩ ∧ Chg fp w (w4.setCell ⟨qb, 0, none⟩ (.int .i32 0)) ∧ ∀ b ∈ Qs.fp ⟨qb, tb, xb, n + 1, ev, de, qu, D1.put (tk t) (lu (mx + ev)), ov2, es2, wv', ins ⟨t, x, mx⟩ ws⟩, b ∈ fp ∨ w.heap.size ≤ b) ∧ es2.length = es1.length + 1) := by
        have x3' : TurnAt w3.drew tb xb n D1 ov1 es1 := x3.chg (l := []) (Chg.refl _ _).drew (by simp) (by simp) (by simp)
        refine (set_any tb xb n D1 ov1 es1 t (mx + ev) w3.drew x3' ht (WalkArith.wf_u64 hmx) (by have := HEO.out.2; omega) (by omega)).mono ?_
        rintro e w4 ⟨rfl, ov2, es2, u1, u2, u3, u4⟩
        have hq1 : qb ∉ [tb, xb] ++ own ov1 := by rw [HEO.out.1]; simp; exact ⟨hqt, hqx, hqo⟩
        have u2' : Chg ([tb, xb] ++ own ov1) w3 w4 := ((Chg.refl _ _).drew).trans u2 (fun j hj => Or.inl hj)
        have hsz := x4.size
        have hwo : ∀ b, b ∈ own wv' → b ∉ [tb, xb] ++ own ov1 := fun b hb' hm => by
          simp only [List.mem_append, List.mem_cons, List.not_mem_nil, or_false] at hm
          rcases hm with (rfl | rfl) | hm
          · exact own_ty x2 x3.blk (by decide) hb'
          · exact own_map x2 x3.own hb'
          · exact own_own x2 x3.row (by decide) b hb' hm
        refine ⟨rfl, u2'.blk x1 hq1, ov2, es2, HUN.out w4 (n + 1) _ ov2 es2 wv' _ (u2'.blk x1 hq1) u1 (x2.chg u2' (fun b hb' => hwo b (mem_own.2 hb'))) (ins_sorted _ _ hso) (x4.trans u2' (fun j hj => ?_)) (fun b hb' => ?_) x5, u4⟩
        · rw [HEO.out.1] at hj
          simp only [List.mem_append, List.mem_cons, List.not_mem_nil, or_false] at hj
          exact Or.inl ((HFP.out _).2 (by rcases hj with (h | h) | h <;> simp [h]))
        · rcases u3 b hb' with h | h
          · rw [HEO.out.1] at h; exact Or.inl h
          · exact Or.inr (by simp at h; omega)
      have HS : Hid (∀ W, Chg [] w3 W → (W.cell? ⟨qb, 5, none⟩ = some (.pointer (some ⟨tb, 0, none⟩)) ∧ W.cell? ⟨qb, 2, none⟩ = some (.int .u64 ev))) := fun W hW => by
        have hbW := hW.blk x1 (by simp)
        exact ⟨blk_cell hbW rfl, blk_cell hbW rfl⟩
      have v3 : Chg [] w3 w3.drew := (Chg.refl _ _).drew
      have j5 := (HS.out w3 (Chg.refl _ _)).1
      have j2 := (HS.out w3 (Chg.refl _ _)).2
      clear x1 x2 x3 x4 x5
      go_upto_region 10 with fail
      go_region_held3 (fun W => W.cell? ⟨qb, 5, none⟩ = some (.pointer (some ⟨tb, 0, none⟩)) ∧ W.cell? ⟨qb, 2, none⟩ = some (.int .u64 ev))
        (first | with_reducible exact H4.out | with_reducible exact HS.out _ v3)
        (first | (go_at_call 135; refine (HSET.out).mono ?_; rintro e w4 ⟨rfl, hq4, ov2, es2, hfin, hel2⟩; have H4 : Hid (w4.cell? ⟨qb, 5, none⟩ = some (.pointer (some ⟨tb, 0, none⟩)) ∧ w4.cell? ⟨qb, 2, none⟩ = some (.int .u64 ev)) := ⟨blk_cell hq4 rfl, blk_cell hq4 rfl⟩))
      go_wp2_with fail
      refine leaves_cons (f := 73) (args := #[.pointer (some ⟨qb, 0, none⟩)]) (by simp) (by simp [go_sem]) ?_
      refine (unlock_deferred Tryz.muLib ⟨qb, 0, none⟩ .returning _ (blk_cell (i := 0) hq4 rfl) (blk_free hq4)).mono ?_
      rintro e u' w'' ⟨rfl, rfl, rfl⟩
      refine ⟨_, results_tmp2 rfl _ _ _, _, hfin.1, ⟨rfl, rfl, rfl, rfl, rfl, rfl⟩, hfin.2.1, hfin.2.2, by simp, by have := HEO.out.2; simp only; omega, Or.inr (Or.inr ⟨by rw [HC.out]; exact hnl, hroom', by rw [HC.out]; rfl, by rw [HC.out], by rw [HC.out]; exact max_put HKP.out HIM.out t _⟩)⟩
end Go.Proofs.YtbdnhllhdjepcaaGreat
namespace Go.Proofs.YtbdnhllhdjepcaaGreat
set_option linter.unusedVariables false
set_option linter.unusedSimpArgs false
open Go.RowKit Go.Maps Go.MuLone

theorem step_app_run {P : Program} {ops : Array Oper} {o : Oper} {a : Act} {w : World} {K : Act → World → Prop} {Q : Exit → Act → World → Prop} {E : Prop}
    (hg : o.guard = none) (d x : Operand) (dT sT : TypeId) (hop : o.op = Op.call { callee := Callee.builtin Builtin.append, args := #[d, x], argTypes := #[dT, sT] })
    (v u : Value) (hd : a.eval d = v) (hx : a.eval x = u) {v' : Value} {w' : World} (hr : (Builtin.append_ #[dT, sT] o.type #[v, u]).run P w = .ok v' w') (hK : K (a.put o.dst v') w') :
    if Region.wanted o (yielded ops a.tmps) = true then Oper.wp P o a w K Q else E := by
  have hw : Region.wanted o (yielded ops a.tmps) = true := by simp [Region.wanted, hg]
  rw [if_pos hw]
  unfold Oper.wp execOp
  simp only [hop, resolve, invoke, builtin, Sem.run_bind, Sem.run_pure, Result.andThen_ok, List.map_toArray, List.map_cons, List.map_nil, hd, hx, hr]
  exact hK
theorem run_clearN {tS e : TypeId} {i0 : TypeInfo} {z : Value} {sz bytes : Nat} (k : EK tS e i0 z sz bytes) (w : World) (ty : TypeId) (b o n c : Nat) (hn : 0 < n) (cur : List Value) (t : TypeId) (hg : w.heap[b]? = some (.cells cur.toArray t (0, 0))) (hfit : o + n * sz ≤ cur.length) :
    (Builtin.clear_ #[tS] ty #[.slice (some ⟨b, o, none⟩) n c]).run Tryz.prog w = .ok (.tuple #[]) (w.setRow b (cur.take o ++ (Builtin.zeroCells z.cells n).toList ++ cur.drop (o + n * sz)).toArray) := by
  have hzl : (Builtin.zeroCells z.cells n).toList.length = n * sz := by rw [Array.length_toList, size_zeroCells, k.zs]
  have hst := run_storeCells_at Tryz.prog b o t (Builtin.zeroCells z.cells n).toList 0 cur.toArray w hg (by rw [hzl]; simpa using hfit) (k.z1 n)
  simp only [Nat.add_zero, hzl] at hst
  obtain ⟨m, rfl⟩ : ∃ m, n = m + 1 := ⟨n - 1, by omega⟩
  simp [Builtin.clear_, run_underlying k.u, zeroValue, typeInfo, k.i, k.zr, hst]

set_option maxRecDepth 100000 in
set_option maxHeartbeats 4000000 in
theorem delI (b cap n k : Nat) (P R cs : List Value) (w : World) (hl : cs.length = n * 3) (h1 : ∀ u ∈ cs, u.oneCell' = true) (hg : w.heap[b]? = some (.cells (P ++ (cs ++ R)).toArray 123 (0, 0))) (hnc : n ≤ cap) (hcm : cap ≤ maxLen) (hcr : cap * 3 ≤ n * 3 + R.length) (hk : k ≤ n) (hk0 : 0 < k) (hn : n ≤ 100000) :
    Calls Tryz.prog 136 #[.slice (some ⟨b, P.length, none⟩) n cap, .int .i64 0, .int .i64 k] w fun e w' => e = .returned (.slice (some ⟨b, P.length, none⟩) (n - k) cap) ∧ Rw w' 123 3 (.slice (some ⟨b, P.length, none⟩) (n - k) cap) (n - k) (cs.drop (k * 3)) ∧ w.grownBy w' (some b) := by
  obtain ⟨i0, ek⟩ := ek75
  obtain ⟨hl1, hl2⟩ := cut_len hl hk
  have hcat : cs = cs.take (k * 3) ++ cs.drop (k * 3) := (List.take_append_drop _ _).symm
  have h1b : ∀ u ∈ cs.drop (k * 3), u.oneCell' = true := fun u hu => h1 u (List.mem_of_mem_drop hu)
  have hat : ∀ (W : World), W.heap[b]? = some (.cells (P ++ (cs ++ R)).toArray 123 (0, 0)) → ∀ j u, (cs.drop (k * 3))[j]? = some u → W.cell? ⟨b, P.length + k * 3 + j, none⟩ = some u := fun W hW j u hj => by
    rw [List.getElem?_drop] at hj
    rw [Nat.add_assoc]
    exact Rw.cell (n := 0) (sz := 0) hW hj
  generalize cs.drop (k * 3) = C2 at *
  generalize cs.take (k * 3) = C1 at *
  obtain ⟨A, hA, hsrc⟩ : ∃ A : Addr, (if cap = k then some (⟨b, P.length, none⟩ : Addr) else some ⟨b, P.length + k * 3, none⟩) = some A ∧ (∀ j u, C2[j]? = some u → w.drew.cell? (A.add j) = some u) := by
    by_cases hck : cap = k
    · refine ⟨⟨b, P.length, none⟩, by rw [if_pos hck], fun j u hj => ?_⟩
      have : C2 = [] := List.length_eq_zero_iff.1 (by rw [hl2, show n - k = 0 from by omega, Nat.zero_mul])
      rw [this] at hj; cases hj
    · exact ⟨⟨b, P.length + k * 3, none⟩, by rw [if_neg hck], fun j u hj => by rw [Addr.add_lit]; exact hat w.drew hg j u hj⟩
  have hr := run_appN ek w.drew 112 b P.length 0 cap A (n - k) (cap - k) C2 (P ++ (cs ++ R)) 123 hg hl2 hsrc h1b (by omega) (by simp; omega)
  obtain ⟨A1, hA1⟩ : ∃ A1, A1 = (P ++ (cs ++ R)).take (P.length + 0 * 3) ++ C2 ++ (P ++ (cs ++ R)).drop (P.length + 0 * 3 + C2.length) := ⟨_, rfl⟩
  have eA : A1 = P ++ (C2 ++ (cs ++ R).drop C2.length) := by
    rw [hA1, Nat.zero_mul, Nat.add_zero, List.take_left, List.drop_length_add_append, List.append_assoc]
  rw [← hA1] at hr
  have hA1l : A1.length = P.length + (n * 3 + R.length) := by rw [eA]; simp; omega
  have hg1 : (w.drew.setRow b A1.toArray).heap[b]? = some (.cells A1.toArray 123 (0, 0)) := setRow_heap w.drew b _ _ 123 (0, 0) hg
  have hcl := fun ty => run_clearN ek (w.drew.setRow b A1.toArray) ty b (P.length + (n - k) * 3) k (cap - (n - k)) hk0 A1 123 hg1 (by omega)
  obtain ⟨A2, hA2⟩ : ∃ A2, A2 = A1.take (P.length + (n - k) * 3) ++ (Builtin.zeroCells (Value.cells (.agg #[.int .u16 0, .int .u32 0, .int .u64 0])) k).toList ++ A1.drop (P.length + (n - k) * 3 + k * 3) := ⟨_, rfl⟩
  simp only [← hA2] at hcl
  have hfin : Rw ((w.drew.setRow b A1.toArray).setRow b A2.toArray) 123 3 (.slice (some ⟨b, P.length, none⟩) (n - k) cap) (n - k) C2 := by
    refine ⟨hl2, h1b, .inr ⟨b, cap, P, (Builtin.zeroCells (Value.cells (.agg #[.int .u16 0, .int .u32 0, .int .u64 0])) k).toList ++ A1.drop (P.length + (n - k) * 3 + k * 3), rfl, ?_, by omega, hcm, ?_⟩⟩
    · rw [setRow_heap _ b _ _ 123 (0, 0) hg1]
      refine congrArg (fun l : List Value => some (Obj.cells l.toArray 123 (0, 0))) ?_
      rw [hA2]
      have e1 : A1.take (P.length + (n - k) * 3) = P ++ C2 := by
        rw [eA, ← hl2, ← List.append_assoc, show P.length + C2.length = (P ++ C2).length from by simp, List.take_left]
      rw [e1]
      simp
    · rw [List.length_append, List.length_drop, Array.length_toList, size_zeroCells, ek.zs]; omega
  have hgr : w.grownBy ((w.drew.setRow b A1.toArray).setRow b A2.toArray) (some b) := grown_setRow (grown_setRow (grown_drew (grown_refl _ _)) (Or.inl rfl) _) (Or.inl rfl) _
  have HFIN : Hid (Rw ((w.drew.setRow b A1.toArray).setRow b A2.toArray) 123 3 (.slice (some ⟨b, P.length, none⟩) (n - k) cap) (n - k) C2 ∧ w.grownBy ((w.drew.setRow b A1.toArray).setRow b A2.toArray) (some b)) := ⟨hfin, hgr⟩
  have HR : Hid ((Builtin.append_ #[112, 112] 112 #[.slice (some ⟨b, P.length, none⟩) 0 cap, .slice (some A) (n - k) (cap - k)]).run Tryz.prog w.drew = .ok (.slice (some ⟨b, P.length, none⟩) (n - k) cap) (w.drew.setRow b A1.toArray)) := by show _ = _; simpa using hr
  have HCL : Hid (∀ ty, (Builtin.clear_ #[112] ty #[.slice (some ⟨b, P.length + (n - k) * 3, none⟩) k (cap - (n - k))]).run Tryz.prog (w.drew.setRow b A1.toArray) = .ok (.tuple #[]) ((w.drew.setRow b A1.toArray).setRow b A2.toArray)) := hcl
  obtain ⟨o, ho⟩ : ∃ o, P.length = o := ⟨_, rfl⟩
  rw [ho] at HFIN HR HCL hA ⊢
  have hcm' : cap ≤ 9223372036854775807 := by unfold maxLen at hcm; omega
  have hz : ¬ ((k : Int) = 0) := by omega
  have hz' : ¬ ((0 : Int) = (k : Int)) := by omega
  have hnk : n - (n - k) = k := by omega
  have hck2 : ¬ (cap = n - k) := by omega
  have hi1 : (k : Int) ≤ (n : Int) := by omega
  have hi2 : ((n - k : Nat) : Int) ≤ (n : Int) := by omega
  have hi3 : n - k ≤ n := by omega
  have hkc : k ≤ cap := by omega
  clear hl h1 hg hcm hcr hl1 hl2 hcat h1b hat hsrc hr hA1 eA hA1l hg1 hcl hA2 hfin hgr ho
  go_enter Tryz.func136, Tryz.ntmps136
  go_wp2_with fail
  go_region_law (refine step_app_run rfl (.tmp 22) (.tmp 25) 112 112 rfl (.slice (some ⟨b, o, none⟩) 0 cap) (.slice (some A) (n - k) (cap - k)) (by simp [Act.eval, Act.put]) (by simp [Act.eval, Act.put]) HR.out ?_)
  have hcl0 := HCL.out 0
  go_wp2
  go_ret
  exact ⟨rfl, HFIN.out⟩
end Go.Proofs.YtbdnhllhdjepcaaGreat
namespace Go.Proofs.YtbdnhllhdjepcaaGreat
set_option linter.unusedVariables false
set_option linter.unusedSimpArgs false
open Go.RowKit Go.Maps Go.MuLone

/-- how many items are told -/
structure Cnt (ws : List It) (most now : Int) (k : Nat) : Prop where
  le : k ≤ ws.length
  lim : (k : Int) ≤ max most 0
  due : ∀ j (hj : j < ws.length), j < k → ws[j].d ≤ now
  stop : (k : Int) = max most 0 ∨ k = ws.length ∨ ∃ h : k < ws.length, now < ws[k].d
/-- what a poll leaves, and tells -/
structure Pol (w w' : World) (s s' : Qs) (k : Nat) (v' : Value) : Prop where
  at_ : QAt w' s'
  same : SameQ s s'
  n : s'.n = s.n
  D : s'.D = s.D
  es : s'.es = s.es
  ws : s'.ws = s.ws.drop k
  told : Rw w' 123 3 v' k (icells (s.ws.take k))
  chg : Chg s.fp w w'
  fp : ∀ b ∈ s'.fp, b ∈ s.fp ∨ w.heap.size ≤ b
  new : ∀ b ∈ own v', w.heap.size ≤ b ∧ b ∉ s'.fp
  cap : ∃ a, v' = .slice a k k
theorem sorted_drop {ws : List It} (h : Sorted ws) (k : Nat) : Sorted (ws.drop k) := List.Pairwise.sublist (List.drop_sublist k ws) h

set_option maxRecDepth 100000 in
set_option maxHeartbeats 8000000 in
theorem qpoll_any (s : Qs) (most now : Int) (w : World) (h : QAt w s) (hws : s.ws.length ≤ 900) :
    Calls Tryz.prog 89 #[.pointer (some ⟨s.qb, 0, none⟩), .int .i64 most, .int .u64 now] w fun e w' => ∃ k s' v', Cnt s.ws most now k ∧ e = .returned v' ∧ Pol w w' s s' k v' := by
  obtain ⟨i0, ek⟩ := ek75
  obtain ⟨qb, tb, xb, n, ev, de, qu, D, ov, es, wv, ws⟩ := s
  simp only at *
  obtain ⟨hb, htr, hr, hso⟩ := h
  simp only at hb htr hr hso
  have hqt : qb ≠ tb := ne_ty hb htr.blk (by decide)
  have hqx : qb ≠ xb := htr.own.ne hb
  have hqo : qb ∉ own ov := own_ty htr.row hb (by decide)
  have hqw : qb ∉ own wv := own_ty hr hb (by decide)
  have htw : tb ∉ own wv := own_ty hr htr.blk (by decide)
  have hxw : xb ∉ own wv := own_map hr htr.own
  have how : ∀ b, b ∈ own ov → b ∉ own wv := own_own htr.row hr (by decide)
  have HFP : Hid (∀ b, b ∈ (Qs.fp ⟨qb, tb, xb, n, ev, de, qu, D, ov, es, wv, ws⟩) ↔ b = qb ∨ b = tb ∨ b = xb ∨ b ∈ own ov ∨ b ∈ own wv) := fun b => by simp [Qs.fp, or_assoc]
  have HLT : Hid (∀ b ∈ (Qs.fp ⟨qb, tb, xb, n, ev, de, qu, D, ov, es, wv, ws⟩), b < w.heap.size) := QAt.lt (s := ⟨qb, tb, xb, n, ev, de, qu, D, ov, es, wv, ws⟩) ⟨hb, htr, hr, hso⟩
  go_enter_defers Tryz.func89, Tryz.ntmps89
  go_wp2_with fail
  refine (lock_free Tryz.muLib ⟨qb, 0, none⟩ w (blk_cell (i := 0) hb rfl) (blk_free hb)).mono ?_
  rintro e w1 ⟨rfl, hw1⟩
  have hb1 : qblk w1 qb 1 ev de qu tb wv := hw1 ▸ blk_set (i := 0) (.int .i32 1) hb
  have hc1 : Chg [qb] w w1 := hw1 ▸ (Chg.refl [qb] w).set _ _ (Or.inl (by simp))
  have ht1 : TurnAt w1 tb xb n D ov es := htr.chg hc1 (by simp; exact Ne.symm hqt) (by simp; exact Ne.symm hqx) (fun b hb' => by simp; rintro rfl; exact hqo (mem_own.2 hb'))
  have hr1 : Rw w1 123 3 wv ws.length (icells ws) := hr.chg hc1 (fun b hb' => by simp; rintro rfl; exact hqw (mem_own.2 hb'))
  have hs1 := hc1.size
  /- nothing is told -/
  have HNIL : Hid (Pol w (w1.setCell ⟨qb, 0, none⟩ (.int .i32 0)) ⟨qb, tb, xb, n, ev, de, qu, D, ov, es, wv, ws⟩ ⟨qb, tb, xb, n, ev, de, qu, D, ov, es, wv, ws⟩ 0 (.slice none 0 0)) := by
    have hcs : Chg [qb] w1 (w1.setCell ⟨qb, 0, none⟩ (.int .i32 0)) := (Chg.refl [qb] w1).set _ _ (Or.inl (by simp))
    refine ⟨⟨blk_set (i := 0) (.int .i32 0) hb1, ht1.chg hcs (by simp; exact Ne.symm hqt) (by simp; exact Ne.symm hqx) (fun b hb' => by simp; rintro rfl; exact hqo (mem_own.2 hb')), hr1.chg hcs (fun b hb' => by simp; rintro rfl; exact hqw (mem_own.2 hb')), hso⟩, ⟨rfl, rfl, rfl, rfl, rfl, rfl⟩, rfl, rfl, rfl, rfl, ⟨rfl, by simp [icells], .inl ⟨rfl, rfl⟩⟩, ?_, fun b hb' => Or.inl hb', fun b hb' => by simp [own, Value.ownBlock] at hb', ⟨none, rfl⟩⟩
    exact (hc1.mono (fun j hj => by simp at hj; subst hj; exact (HFP.out _).2 (Or.inl rfl))).trans hcs (fun j hj => by simp at hj; subst hj; exact Or.inl ((HFP.out _).2 (Or.inl rfl)))
  have HB1 : Hid (qblk w1 qb 1 ev de qu tb wv) := hb1
  rcases hr1.2.2 with ⟨hv, hw0⟩ | ⟨b, cap, P, R, hv, hg, hnc, hcm, hcr⟩
  · have k6 : w1.cell? ⟨qb, 6, none⟩ = some (.slice none 0 0) := blk_cell (i := 6) hb1 (by rw [hv]; rfl)
    have HCN : Hid (Cnt ws most now 0) := ⟨by omega, by omega, fun j hj h => by omega, Or.inr (Or.inl hw0.symm)⟩
    clear hw1 hb htr hr hb1 ht1 hr1 hw0 hv
    go_wp2_with fail
    go_loopw [7] (fun i wr => i = .int .i64 0 ∧ wr = w1) (fun _ _ => 0)
    case atStart => exact ⟨rfl, rfl⟩
    case round =>
      obtain ⟨rfl, rfl⟩ := hrel
      rcases (by omega : (¬ 0 < most) ∨ 0 < most) with hmm | hmm
      all_goals
        (try subst hmm)
        go_wp2_with fail
        refine leaves_cons (f := 73) (args := #[.pointer (some ⟨qb, 0, none⟩)]) (by simp) (by simp [go_sem]) ?_
        refine (unlock_deferred Tryz.muLib ⟨qb, 0, none⟩ .returning _ (blk_cell (i := 0) HB1.out rfl) (blk_free HB1.out)).mono ?_
        rintro e u' w'' ⟨rfl, rfl, rfl⟩
        first | exact ⟨_, results_tmp rfl _ _ _, 0, _, _, HCN.out, rfl, HNIL.out⟩ | exact ⟨_, results_tmp rfl _ _ _, 0, HCN.out, _, _, rfl, HNIL.out⟩
  · obtain ⟨len, hlen'⟩ : ∃ len, len = ws.length := ⟨_, rfl⟩
    have HLEN : Hid (len = ws.length) := hlen'
    have hbq : b ≠ qb := ne_ty hg hb1 (by decide)
    have hbl := lt_of_block hg
    have hcm' : cap ≤ 9223372036854775807 := by unfold maxLen at hcm; omega
    have hlc : len ≤ cap := by omega
    obtain ⟨o, ho⟩ : ∃ o, P.length = o := ⟨_, rfl⟩
    have HO : Hid (P.length = o) := ho
    have hv' : wv = .slice (some ⟨b, o, none⟩) len cap := by rw [hv, ho, hlen']
    have hown : own wv = [b] := by rw [hv']; rfl
    have HG : Hid (w1.heap[b]? = some (.cells (P ++ (icells ws ++ R)).toArray 123 (0, 0))) := hg
    /- the walk behind the count -/
    have HREST : Hid (∀ k : Nat, 0 < k → k ≤ len → ∃ W2 W3 : World, (Instr.makeSlice 112 (.int .i64 k) (.int .i64 k)).run Tryz.prog w1 = .ok (.slice (some ⟨w1.heap.size, 0, none⟩) k k) W2 ∧ W2.cell? ⟨qb, 6, none⟩ = some (.slice (some ⟨b, o, none⟩) len cap) ∧
        (Builtin.copy_ #[112, 112] 3 #[.slice (some ⟨w1.heap.size, 0, none⟩) k k, .slice (some ⟨b, o, none⟩) len cap]).run Tryz.prog W2 = .ok (goInt (Nat.min len k)) W3 ∧ W3.cell? ⟨qb, 6, none⟩ = some (.slice (some ⟨b, o, none⟩) len cap) ∧
        Calls Tryz.prog 136 #[.slice (some ⟨b, o, none⟩) len cap, .int .i64 0, .int .i64 k] W3 fun e w4 => e = .returned (.slice (some ⟨b, o, none⟩) (len - k) cap) ∧ qblk w4 qb 1 ev de qu tb (.slice (some ⟨b, o, none⟩) len cap) ∧
          ∃ s' v', v' = .slice (some ⟨w1.heap.size, 0, none⟩) k k ∧ Pol w ((w4.setCell ⟨qb, 6, none⟩ (.slice (some ⟨b, o, none⟩) (len - k) cap)).setCell ⟨qb, 0, none⟩ (.int .i32 0)) ⟨qb, tb, xb, n, ev, de, qu, D, ov, es, wv, ws⟩ s' k v') := fun k hk0 hk => by
      have hmk := run_make w1 112 123 i0 _ ek.u ek.i ek.zr .i64 .i64 (k : Int) (k : Int) (by omega) (by omega) (by rw [ek.b]; omega) (by omega)
      obtain ⟨Z, hZ⟩ : ∃ Z : List Value, Z = (madeCells (Value.cells (.agg #[.int .u16 0, .int .u32 0, .int .u64 0])) ((k : Int).toNat * i0.size)).toList := ⟨_, rfl⟩
      have hZl : Z.length = k * 3 := by rw [hZ, Array.length_toList, size_madeCells, ek.s]; simp
      obtain ⟨W2, hW2⟩ : ∃ W2, W2 = w1.alloc (.cells Z.toArray 123) := ⟨_, rfl⟩
      have e0 : (madeCells (Value.cells (.agg #[.int .u16 0, .int .u32 0, .int .u64 0])) ((k : Int).toNat * i0.size)) = Z.toArray := by rw [hZ]
      rw [e0, ← hW2] at hmk
      have c2 : Chg [] w1 W2 := hW2 ▸ (Chg.refl _ _).alloc _
      have g2 : W2.heap[w1.heap.size]? = some (.cells Z.toArray 123 (0, 0)) := hW2 ▸ heap_alloc_new w1 _
      have gb2 := c2.blk hg (by simp)
      have hk3 : k * 3 ≤ len * 3 := Nat.mul_le_mul_right _ hk
      have htl : ((icells ws).take (k * 3)).length = k * 3 := by rw [List.length_take, hr1.1]; omega
      have hcp := run_copyN ek W2 3 w1.heap.size 0 k k ⟨b, o, none⟩ len cap Z 123 ((icells ws).take (k * 3)) g2 (by rw [htl, show Nat.min len k = k from by simp only [Nat.min_def]; split <;> omega]) (fun j u hj => by
        rw [List.getElem?_take] at hj
        split at hj
        · rw [Addr.add_lit, ← ho]; exact Rw.cell (n := 0) (sz := 0) gb2 hj
        · cases hj) (by rw [htl]; omega) (fun u hu => hr1.2.1 u (List.mem_of_mem_take hu))
      obtain ⟨A3, hA3⟩ : ∃ A3, A3 = Z.take 0 ++ (icells ws).take (k * 3) ++ Z.drop (0 + ((icells ws).take (k * 3)).length) := ⟨_, rfl⟩
      rw [← hA3] at hcp
      obtain ⟨W3, hW3⟩ : ∃ W3, W3 = W2.setRow w1.heap.size A3.toArray := ⟨_, rfl⟩
      rw [← hW3] at hcp
      have g3 : W3.heap[w1.heap.size]? = some (.cells A3.toArray 123 (0, 0)) := hW3 ▸ setRow_heap W2 _ _ _ 123 (0, 0) g2
      have c3 : Chg [] w1 W3 := by
        have : w1.grownBy W3 none := hW3 ▸ hW2 ▸ grown_setRow (grown_alloc (grown_refl _ _) _) (Or.inr (Nat.le_refl _)) _
        exact Chg.ofGrown0 this
      have s3 := c3.size
      have s3' := lt_of_block g3
      refine ⟨W2, W3, by simpa using hmk, blk_cell (i := 6) (c2.blk hb1 (by simp)) (by rw [hv']; rfl), hcp, blk_cell (i := 6) (c3.blk hb1 (by simp)) (by rw [hv']; rfl), ?_⟩
      have hd := delI b cap len k P R (icells ws) W3 (by rw [hr1.1, hlen']) hr1.2.1 (c3.blk hg (by simp)) hlc hcm (by omega) hk hk0 (by omega)
      rw [ho] at hd
      refine hd.mono ?_
      rintro e w4 ⟨rfl, hrw, hgr⟩
      have hb4 : qblk w4 qb 1 ev de qu tb (.slice (some ⟨b, o, none⟩) len cap) := by
        have := (Chg.ofGrown hgr).blk (c3.blk hb1 (by simp)) (by simp; exact Ne.symm hbq)
        rw [hv'] at this
        exact this
      refine ⟨rfl, hb4, ⟨qb, tb, xb, n, ev, de, qu, D, ov, es, .slice (some ⟨b, o, none⟩) (len - k) cap, ws.drop k⟩, _, rfl, ?_⟩
      have c4 : Chg [b] w1 w4 := (c3.mono (by simp)).trans (Chg.ofGrown hgr) (fun j hj => Or.inl hj)
      have s4 := (Chg.ofGrown hgr).size
      have cE : Chg [qb] w4 ((w4.setCell ⟨qb, 6, none⟩ (.slice (some ⟨b, o, none⟩) (len - k) cap)).setCell ⟨qb, 0, none⟩ (.int .i32 0)) := ((Chg.refl [qb] w4).set _ _ (Or.inl (by simp))).set _ _ (Or.inl (by simp))
      have e5 : own (.slice (some ⟨b, o, none⟩) (len - k) cap) = own wv := by rw [hown]; rfl
      have hbt : b ≠ tb := ne_ty hg ht1.blk (by decide)
      have hbx : b ≠ xb := ht1.own.ne hg
      have hbo : b ∉ own ov := own_ty ht1.row hg (by decide)
      have hld : (ws.drop k).length = len - k := by rw [List.length_drop, ← hlen']
      have cW : Chg [b, qb] w1 _ := (c4.mono (m := [b, qb]) (by simp)).trans cE (by simp)
      have e3 : A3 = [] ++ (icells (ws.take k) ++ Z.drop (0 + ((icells ws).take (k * 3)).length)) := by rw [hA3, show (icells ws).take (k * 3) = icells (ws.take k) from fm_take icl_len ws k]; simp
      have hg4 : w4.heap[w1.heap.size]? = some (.cells ([] ++ (icells (ws.take k) ++ Z.drop (0 + ((icells ws).take (k * 3)).length))).toArray 123 (0, 0)) := by
        rw [← e3]; exact (Chg.ofGrown hgr).blk g3 (by simp; omega)
      refine ⟨⟨?_, ht1.chg cW (by simp; exact ⟨Ne.symm hbt, Ne.symm hqt⟩) (by simp; exact ⟨Ne.symm hbx, Ne.symm hqx⟩) (fun x hx => ?_), ?_, sorted_drop hso k⟩, ⟨rfl, rfl, rfl, rfl, rfl, rfl⟩, rfl, rfl, rfl, rfl, ?_, ?_, ?_, ?_, ⟨_, rfl⟩⟩
      · exact blk_set (i := 0) (.int .i32 0) (blk_set (i := 6) (.slice (some ⟨b, o, none⟩) (len - k) cap) hb4)
      · have hx' := mem_own.2 hx
        simp only [List.mem_cons, List.not_mem_nil, or_false]
        rintro (rfl | rfl)
        · exact hbo hx'
        · exact hqo hx'
      · show Rw _ 123 3 (.slice (some ⟨b, o, none⟩) (len - k) cap) (ws.drop k).length (icells (ws.drop k))
        rw [hld, show icells (ws.drop k) = (icells ws).drop (k * 3) from (fm_drop icl_len ws k).symm]
        exact hrw.chg cE (fun x hx => by cases hx; simpa using hbq)
      · refine Rw.chg (l := [qb]) (w := w4) ⟨by rw [show icells (ws.take k) = (icells ws).take (k * 3) from (fm_take icl_len ws k).symm]; exact htl, fun u hu => hr1.2.1 u ?_, .inr ⟨w1.heap.size, k, [], _, rfl, hg4, Nat.le_refl _, by unfold maxLen; omega, by omega⟩⟩ cE (fun x hx => by cases hx; have := lt_of_block hb1; simp; omega)
        have : icells (ws.take k) = (icells ws).take (k * 3) := (fm_take icl_len ws k).symm
        rw [this] at hu
        exact List.mem_of_mem_take hu
      · refine (hc1.mono (fun j hj => by simp at hj; subst hj; simp [Qs.fp])).trans cW (fun j hj => ?_)
        simp only [List.mem_cons, List.not_mem_nil, or_false] at hj
        rcases hj with rfl | rfl
        · exact Or.inl (by simp [Qs.fp, hown])
        · exact Or.inl (by simp [Qs.fp])
      · intro x hx
        refine Or.inl ?_
        simp only [Qs.fp, e5] at hx ⊢
        exact hx
      · intro x hx
        have : x = w1.heap.size := by simpa [own, Value.ownBlock] using hx
        subst this
        refine ⟨hs1, fun hm => ?_⟩
        have hm' : w1.heap.size ∈ Qs.fp ⟨qb, tb, xb, n, ev, de, qu, D, ov, es, wv, ws⟩ := by simp only [Qs.fp, e5] at hm ⊢; exact hm
        have := HLT.out _ hm'
        omega
    have HAT : Hid (∀ k (hk : k < ws.length), w1.cell? ⟨b, o + k * 3 + 2, none⟩ = some (.int .u64 ws[k].d)) := fun k hk => by
      rw [← ho, Nat.add_assoc]; exact Rw.cell (n := 0) (sz := 0) hg (ic_at ws k hk).2.2
    have k6 : w1.cell? ⟨qb, 6, none⟩ = some (.slice (some ⟨b, o, none⟩) len cap) := blk_cell (i := 6) HB1.out (by rw [hv']; rfl)
    rw [← hlen'] at hws
    clear hw1 hb htr hr hb1 ht1 hr1 hg hnc hcm hcr ho hlen' HFP HLT hv hv' hown
    go_wp2_with fail
    go_loopw [7] (fun i wr => ∃ k : Nat, k ≤ len ∧ (k : Int) ≤ max most 0 ∧ i = .int .i64 k ∧ wr = w1 ∧ ∀ j (hj : j < ws.length), j < k → ws[j].d ≤ now) (fun i _ => len - (intOf i).toNat)
    case atStart => exact ⟨0, by omega, by omega, rfl, rfl, fun j hj h => by omega⟩
    case round =>
      obtain ⟨k, hk, hkm, rfl, rfl, hdue⟩ := hrel
      have HDUE : Hid (∀ j (hj : j < ws.length), j < k → ws[j].d ≤ now) := hdue
      clear hdue
      by_cases hgo : (k : Int) < most ∧ ∃ hkl : k < ws.length, ws[k].d ≤ now
      · obtain ⟨hkm', hkl, hd⟩ := hgo
        have hat := HAT.out k hkl
        obtain ⟨dd, hdd⟩ : ∃ dd, dd = ws[k].d := ⟨_, rfl⟩
        have HDD : Hid (dd = ws[k].d) := hdd
        rw [← hdd] at hat hd
        clear hdd
        have hkl' : k < len := by rw [HLEN.out]; exact hkl
        have hkl2 : (k : Int) < (len : Int) := by omega
        go_wp2_with fail
        go_roundw
        case rel => exact ⟨k + 1, by omega, by omega, by go_num, by first | rfl | trivial, fun j hj hjk => by
          by_cases e : j = k
          · subst e; rw [← HDD.out]; exact hd
          · exact HDUE.out j hj (by omega)⟩
        case measure => simp [intOf]; omega
      · have HCN : Hid (Cnt ws most now k) := ⟨by rw [← HLEN.out]; exact hk, hkm, HDUE.out, by
          by_cases h1 : (k : Int) = max most 0
          · exact Or.inl h1
          · right
            by_cases h2 : k = ws.length
            · exact Or.inl h2
            · right
              have hkl : k < ws.length := by have := HLEN.out; omega
              refine ⟨hkl, ?_⟩
              by_cases h3 : ws[k].d ≤ now
              · exact absurd ⟨by omega, hkl, h3⟩ hgo
              · omega⟩
        have hways : (¬ (k : Int) < most) ∨ ((k : Int) < most ∧ ¬ (k : Int) < (len : Int)) ∨ ((k : Int) < most ∧ (k : Int) < (len : Int) ∧ ∃ dd, now < dd ∧ wr.cell? ⟨b, o + k * 3 + 2, none⟩ = some (.int .u64 dd)) := by
          by_cases h1 : (k : Int) < most
          · right
            by_cases h2 : (k : Int) < (len : Int)
            · right
              have hkl : k < ws.length := by have := HLEN.out; omega
              refine ⟨h1, h2, ws[k].d, ?_, HAT.out k hkl⟩
              by_cases h3 : ws[k].d ≤ now
              · exact absurd ⟨h1, hkl, h3⟩ hgo
              · omega
            · exact Or.inl ⟨h1, h2⟩
          · exact Or.inl h1
        clear hgo
        by_cases hk0 : k = 0
        · subst hk0
          rcases hways with hx | ⟨hx1, hx2⟩ | ⟨hx1, hx2, dd, hx3, hx4⟩
          all_goals
            go_wp2_with fail
            refine leaves_cons (f := 73) (args := #[.pointer (some ⟨qb, 0, none⟩)]) (by simp) (by simp [go_sem]) ?_
            refine (unlock_deferred Tryz.muLib ⟨qb, 0, none⟩ .returning _ (blk_cell (i := 0) HB1.out rfl) (blk_free HB1.out)).mono ?_
            rintro e u' w'' ⟨rfl, rfl, rfl⟩
            first | exact ⟨_, results_tmp rfl _ _ _, 0, _, _, HCN.out, rfl, HNIL.out⟩ | exact ⟨_, results_tmp rfl _ _ _, 0, HCN.out, _, _, rfl, HNIL.out⟩
        · obtain ⟨W2, W3, hmk, hc62, hcp, hc63, hdel⟩ := HREST.out k (by omega) hk
          have HDEL : Hid (Calls Tryz.prog 136 #[.slice (some ⟨b, o, none⟩) len cap, .int .i64 0, .int .i64 k] W3 _) := hdel
          clear hdel
          have hkz : ¬ ((k : Int) = 0) := by omega
          rcases hways with hx | ⟨hx1, hx2⟩ | ⟨hx1, hx2, dd, hx3, hx4⟩
          all_goals
            go_wp2_with fail
            refine (HDEL.out).mono ?_
            rintro e w4 ⟨rfl, hb4, s', v', hv', hpol⟩
            have HPOL : Hid _ := hpol
            have hfr4 : ∀ i, w4.frozen? ⟨qb, i, none⟩ = false := fun i => blk_free hb4
            have k64 := blk_cell (i := 6) hb4 rfl
            have HB4 : Hid (qblk w4 qb 1 ev de qu tb (.slice (some ⟨b, o, none⟩) len cap)) := hb4
            clear hpol hb4
            go_wp2_with fail
            have hb5 := blk_set (i := 6) (.slice (some ⟨b, o, none⟩) (len - k) cap) HB4.out
            refine leaves_cons (f := 73) (args := #[.pointer (some ⟨qb, 0, none⟩)]) (by simp) (by simp [go_sem]) ?_
            refine (unlock_deferred Tryz.muLib ⟨qb, 0, none⟩ .returning _ (blk_cell (i := 0) hb5 rfl) (blk_free hb5)).mono ?_
            rintro e u' w'' ⟨rfl, rfl, rfl⟩
            first | exact ⟨_, results_tmp rfl _ _ _, k, s', v', HCN.out, by rw [hv']; rfl, HPOL.out⟩ | exact ⟨_, results_tmp rfl _ _ _, k, HCN.out, s', v', by rw [hv']; rfl, HPOL.out⟩
end Go.Proofs.YtbdnhllhdjepcaaGreat
