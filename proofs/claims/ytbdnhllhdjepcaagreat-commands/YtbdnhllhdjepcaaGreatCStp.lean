import Derived.Test.YtbdnhllhdjepcaaGreatCAns
namespace Go.Proofs.YtbdnhllhdjepcaaGreat
set_option linter.unusedVariables false
set_option linter.unusedSimpArgs false
open Go.RowKit Go.Maps Go.MuLone Go.RwLone

/-! ### Do -/
abbrev lcells (now : Int) (ab n qb : Nat) : List Value := [.int .i32 0, .int .u32 0, .int .u32 0, .int .u32 0, .int .i32 1, .int .i32 0, .int .u64 now, .slice (some ⟨ab, 0, none⟩) n n, .pointer (some ⟨qb, 0, none⟩)]

set_option maxRecDepth 100000 in
set_option maxHeartbeats 1000000 in
theorem Do_adv (mb ab nn qb : Nat) (T : Value) (sp t u r c n x m now : Int) (w : World) (hm : MeterAt w mb now ab nn qb) (hrd : ∀ W, Calls Tryz.prog 59 #[T] W fun e w' => e = .returned (.agg #[.int .i64 4, .int .u16 t, .int .u16 u, .int .u16 r, .int .i64 c, .int .u16 n, .int .u32 x, .int .i64 m, .int .u64 sp]) ∧ Chg [] W w') (h0 : 0 ≤ now) (h1 : now ≤ 9223372036854775807) (h2 : 0 ≤ sp) (h3 : sp ≤ 9223372036854775807) :
    Calls Tryz.prog 25 #[.pointer (some ⟨mb, 0, none⟩), T] w fun e w' => e = .returned (sv (bl [4] ++ be (min (now + sp) 9223372036854775807) 8)) ∧ MeterAt w' mb (min (now + sp) 9223372036854775807) ab nn qb ∧ Chg [mb] w w' := by
  have HR : Hid _ := hrd
  have HT : Hid (∀ W, Calls Tryz.prog 60 #[.int .u64 (min (now + sp) 9223372036854775807)] W fun e w' => e = .returned (sv (bl [4] ++ be (min (now + sp) 9223372036854775807) 8)) ∧ Chg [] W w') := fun W => time_any _ W (by omega) (by omega)
  have HA : Hid (∀ W, MeterAt W mb now ab nn qb → Calls Tryz.prog 54 #[.pointer (some ⟨mb, 0, none⟩), .int .u64 sp] W fun e w' => e = .returned (.int .u64 (min (now + sp) 9223372036854775807)) ∧ MeterAt w' mb (min (now + sp) 9223372036854775807) ab nn qb ∧ Chg [mb] W w') := fun W hW => advance_any mb ab nn qb now sp W hW h0 h1 h2 h3
  generalize min (now + sp) 9223372036854775807 = tm at *
  clear hrd h0 h1 h2 h3
  go_enter_defers Tryz.func25, Tryz.ntmps25
  go_wp2_with fail
  refine (HR.out _).mono ?_
  rintro e w1 ⟨rfl, hc1⟩
  have hm1 : Hid (MeterAt (w1.alloc (.cells [.int .i64 4, .int .u16 t, .int .u16 u, .int .u16 r, .int .i64 c, .int .u16 n, .int .u32 x, .int .i64 m, .int .u64 sp].toArray 99)) mb now ab nn qb) := blk_alloc (hc1.blk hm (by simp)) _
  have hc2 : Hid (Chg [] w (w1.alloc (.cells [.int .i64 4, .int .u16 t, .int .u16 u, .int .u16 r, .int .i64 c, .int .u16 n, .int .u32 x, .int .i64 m, .int .u64 sp].toArray 99))) := hc1.alloc _
  clear hm hc1
  go_wp2_with fail
  refine (HA.out _ hm1.out).mono ?_
  rintro e w3 ⟨rfl, hm3, hc3⟩
  have HM3 : Hid _ := hm3
  have HC3 : Hid (Chg [mb] w w3) := (hc2.out.mono (by simp)).trans hc3 (by simp)
  clear hm3 hc3 hm1 hc2
  go_wp2_with fail
  refine (HT.out _).mono ?_
  rintro e w4 ⟨rfl, hc4⟩
  go_wp2_with fail
  exact ⟨_, results_tmp rfl _ _ _, rfl, hc4.blk HM3.out (by simp), HC3.out.trans hc4 (by simp)⟩

set_option maxRecDepth 100000 in
set_option maxHeartbeats 1000000 in
theorem Do_any (mb ab nn qb : Nat) (T : Value) (k t u r c n x m sp now : Int) (w : World) (Q : Value → World → Prop) (hm : MeterAt w mb now ab nn qb) (hk : k ≠ 4) (hrd : ∀ W, Calls Tryz.prog 59 #[T] W fun e w' => e = .returned (.agg #[.int .i64 k, .int .u16 t, .int .u16 u, .int .u16 r, .int .i64 c, .int .u16 n, .int .u32 x, .int .i64 m, .int .u64 sp]) ∧ Chg [] W w')
    (hans : ∀ W, Chg [mb] w W → W.heap[mb]? = some (.cells (lcells now ab nn qb).toArray 93 (0, 0)) → Calls Tryz.prog 61 #[.pointer (some ⟨mb, 0, none⟩), .agg #[.int .i64 k, .int .u16 t, .int .u16 u, .int .u16 r, .int .i64 c, .int .u16 n, .int .u32 x, .int .i64 m, .int .u64 sp], .int .u64 now] W fun e w' => ∃ a L, e = .returned a ∧ Chg L W w' ∧ mb ∉ L ∧ (∀ j ∈ L, j < w.heap.size) ∧ ∀ W', MeterAt W' mb now ab nn qb → Chg [mb] w' W' → Q a W') :
    Calls Tryz.prog 25 #[.pointer (some ⟨mb, 0, none⟩), T] w fun e w' => ∃ a, e = .returned a ∧ Q a w' := by
  have HR : Hid _ := hrd
  have HA : Hid _ := hans
  clear hrd hans
  unfold MeterAt at hm
  have hlt := lt_of_block hm
  go_enter_defers Tryz.func25, Tryz.ntmps25
  go_wp2_with fail
  refine (HR.out _).mono ?_
  rintro e wr ⟨rfl, hcr⟩
  obtain ⟨wB, hwB⟩ : ∃ wB, wB = wr.alloc (.cells [.int .i64 k, .int .u16 t, .int .u16 u, .int .u16 r, .int .i64 c, .int .u16 n, .int .u32 x, .int .i64 m, .int .u64 sp].toArray 99) := ⟨_, rfl⟩
  have hmB : wB.heap[mb]? = some (.cells (mcells now ab nn qb).toArray 93 (0, 0)) := hwB ▸ blk_alloc (hcr.blk hm (by simp)) _
  have kB : wB.heap[wr.heap.size]? = some (.cells [.int .i64 k, .int .u16 t, .int .u16 u, .int .u16 r, .int .i64 c, .int .u16 n, .int .u32 x, .int .i64 m, .int .u64 sp].toArray 99 (0, 0)) := hwB ▸ heap_alloc_new wr _
  have hcB : Chg [mb] w wB := hwB ▸ (hcr.mono (by simp)).alloc _
  have HWB : Hid (wB = wr.alloc (.cells [.int .i64 k, .int .u16 t, .int .u16 u, .int .u16 r, .int .i64 c, .int .u16 n, .int .u32 x, .int .i64 m, .int .u64 sp].toArray 99)) := hwB
  have hrs := hcr.size
  clear hwB hcr
  have b0 := blk_cell (i := 0) kB rfl
  go_upto_region 2 with fail
  rw [show wr.alloc (.cells #[.int .i64 k, .int .u16 t, .int .u16 u, .int .u16 r, .int .i64 c, .int .u16 n, .int .u32 x, .int .i64 m, .int .u64 sp] 99) = wB from HWB.out.symm]
  go_wp2_with fail
  refine (rlock_open Tryz.rwRLib mb 0 0 (.int .i32 0) (.int .u32 0) wB (blk_cell (i := 0) hmB rfl) (blk_cell (i := 3) hmB rfl) (blk_cell (i := 4) hmB rfl) (blk_free hmB) (by rw [rc1]; decide)).mono ?_
  rintro e w1 ⟨rfl, hw1⟩
  rw [rc1] at hw1
  have e1 : w1.heap[mb]? = _ := hw1 ▸ blk_set (i := 4) (.int .i32 1) hmB
  have k1 : w1.heap[wr.heap.size]? = _ := hw1 ▸ blk_set_far (k := mb) (i := 4) (u := .int .i32 1) kB (by omega)
  have hc1 : Chg [mb] w w1 := hw1 ▸ hcB.set ⟨mb, 4, none⟩ (.int .i32 1) (Or.inl (by simp))
  clear hw1 HWB hmB kB b0 hcB
  have HS : Hid (∀ (W : World), W.heap[mb]? = w1.heap[mb]? → W.heap[wr.heap.size]? = w1.heap[wr.heap.size]? → (W.cell? ⟨mb, 6, none⟩ = some (.int .u64 now) ∧ W.cell? ⟨wr.heap.size, 0, none⟩ = some (.int .i64 k) ∧ W.cell? ⟨wr.heap.size, 1, none⟩ = some (.int .u16 t) ∧ W.cell? ⟨wr.heap.size, 2, none⟩ = some (.int .u16 u) ∧ W.cell? ⟨wr.heap.size, 3, none⟩ = some (.int .u16 r) ∧ W.cell? ⟨wr.heap.size, 4, none⟩ = some (.int .i64 c) ∧ W.cell? ⟨wr.heap.size, 5, none⟩ = some (.int .u16 n) ∧ W.cell? ⟨wr.heap.size, 6, none⟩ = some (.int .u32 x) ∧ W.cell? ⟨wr.heap.size, 7, none⟩ = some (.int .i64 m) ∧ W.cell? ⟨wr.heap.size, 8, none⟩ = some (.int .u64 sp))) := fun W h1 h2 => by
    rw [e1] at h1
    rw [k1] at h2
    exact ⟨blk_cell h1 rfl, blk_cell h2 rfl, blk_cell h2 rfl, blk_cell h2 rfl, blk_cell h2 rfl, blk_cell h2 rfl, blk_cell h2 rfl, blk_cell h2 rfl, blk_cell h2 rfl, blk_cell h2 rfl⟩
  have HCALL : Hid (Calls Tryz.prog 61 #[.pointer (some ⟨mb, 0, none⟩), .agg #[.int .i64 k, .int .u16 t, .int .u16 u, .int .u16 r, .int .i64 c, .int .u16 n, .int .u32 x, .int .i64 m, .int .u64 sp], .int .u64 now] w1.drew fun e w2 => ∃ a, e = .returned a ∧ w2.heap[mb]? = w1.heap[mb]? ∧ w2.heap[wr.heap.size]? = w1.heap[wr.heap.size]? ∧ ∀ W', MeterAt W' mb now ab nn qb → Chg [mb] w2 W' → Q a W') := by
    refine (HA.out w1.drew hc1.drew (e1)).mono ?_
    rintro e w2 ⟨a, L, rfl, hc, hL, hl, hq⟩
    exact ⟨a, rfl, hc.block mb (lt_of_block (w := w1) e1) hL, hc.block _ (lt_of_block (w := w1) k1) (fun hj => by have := hl _ hj; omega), hq⟩
  have E1 : Hid _ := e1
  obtain ⟨y1, y2, y3, y4, y5, y6, y7, y8, y9, y10⟩ := HS.out w1 rfl rfl
  have KD : Hid _ := HS.out w1.drew rfl rfl
  clear hc1 k1 hm
  go_upto_region 6 with fail
  go_region_held3 (fun W => W.cell? ⟨mb, 6, none⟩ = some (.int .u64 now) ∧ W.cell? ⟨wr.heap.size, 0, none⟩ = some (.int .i64 k) ∧ W.cell? ⟨wr.heap.size, 1, none⟩ = some (.int .u16 t) ∧ W.cell? ⟨wr.heap.size, 2, none⟩ = some (.int .u16 u) ∧ W.cell? ⟨wr.heap.size, 3, none⟩ = some (.int .u16 r) ∧ W.cell? ⟨wr.heap.size, 4, none⟩ = some (.int .i64 c) ∧ W.cell? ⟨wr.heap.size, 5, none⟩ = some (.int .u16 n) ∧ W.cell? ⟨wr.heap.size, 6, none⟩ = some (.int .u32 x) ∧ W.cell? ⟨wr.heap.size, 7, none⟩ = some (.int .i64 m) ∧ W.cell? ⟨wr.heap.size, 8, none⟩ = some (.int .u64 sp))
    (first | with_reducible exact H2.out | with_reducible exact KD.out)
    (first | (go_at_call 61; refine (HCALL.out).mono ?_; rintro e w2 ⟨a, rfl, hb2, hk2, hpost⟩; have m2 := hb2.trans e1; have H2 : Hid _ := HS.out w2 hb2 hk2))
  have HP : Hid _ := hpost
  have M2 : Hid _ := m2
  clear hpost hb2 hk2
  go_wp2_with fail
  refine leaves_cons (f := 31) (args := #[.pointer (some ⟨mb, 0, none⟩)]) (by simp) (by simp [go_sem]) ?_
  refine (runlock_deferred Tryz.rwRLib mb 0 1 (.int .i32 0) (.int .u32 0) .returning _ (blk_cell (i := 0) m2 rfl) (blk_cell (i := 2) m2 rfl) (blk_cell (i := 4) m2 rfl) (blk_free m2) (by rw [rc2]; decide)).mono ?_
  rintro e u' w3 ⟨rfl, rfl, hw3⟩
  rw [rc2] at hw3
  subst hw3
  refine ⟨_, results_tmp rfl _ _ _, a, rfl, HP.out _ (blk_set (i := 4) (.int .i32 0) m2) ((Chg.refl [mb] _).set _ _ (Or.inl (by simp)))⟩
end Go.Proofs.YtbdnhllhdjepcaaGreat
namespace Go.Proofs.YtbdnhllhdjepcaaGreat
set_option linter.unusedVariables false
set_option linter.unusedSimpArgs false
open Go.RowKit Go.Maps

/-! ### a command and a call: the same step of a meter -/
structure Stp (w w' : World) (g : St) (s s' : Qs) : Prop where
  chg : Chg (g.all s) w w'
  new : ∀ b ∈ g.all s', b ∈ g.all s ∨ w.heap.size ≤ b
/-- what is asked of a meter ahead of a step -/
structure MS (g : St) (s : Qs) (now : Int) (Ds : Nat → DW) : Prop where
  ok : g.Ok
  inv : ∀ i, Inv now (Ds i)
  h0 : 0 ≤ now
  h1 : now ≤ 9223372036854775807
  ev : 0 ≤ s.ev ∧ s.ev ≤ 4611686018427387904
  de : 0 ≤ s.de ∧ s.de ≤ 4611686018427387904
  ws : s.ws.length ≤ 100
  es : s.es.length ≤ 900000000000
  n : s.n ≤ 900000000000
  wf : IWf s.ws
section
variable {w w' : World} {g : St} {s s' : Qs} {now now' : Int} {Ds : Nat → DW}
theorem all_fp {b : Nat} (h : b ∈ s.fp) : b ∈ g.all s := by simp only [St.all, List.mem_append]; exact Or.inr h
theorem all_mb : g.mb ∈ g.all s := by simp [St.all]
theorem all_sd {x : Nat × Nat} (h : x ∈ g.sd) : x.2 ∈ g.all s := by simp only [St.all, List.mem_append, List.mem_map]; exact Or.inl (Or.inr ⟨x, h, rfl⟩)
theorem Stp.fp (hc : Chg (g.mb :: s.fp) w w') (hn : ∀ b ∈ s'.fp, b ∈ s.fp ∨ w.heap.size ≤ b) : Stp w w' g s s' :=
  ⟨hc.mono (fun b hb => (List.mem_cons.1 hb).elim (fun e => e ▸ all_mb) all_fp), fun b hb => by
    simp only [St.all, List.mem_append] at hb ⊢
    rcases hb with hb | hb
    · exact Or.inl (Or.inl hb)
    · rcases hn b hb with h | h
      · exact Or.inl (Or.inr h)
      · exact Or.inr h⟩
theorem FullAt.nmb (h : FullAt w g s now Ds) : g.ab ≠ g.mb ∧ g.pb ≠ g.mb ∧ g.ob ≠ g.mb ∧ ∀ x : Nat × Nat, x ∈ g.sd → x.1 ≠ g.mb ∧ x.2 ≠ g.mb := by
  have hm := h.mtr.meter
  have nb : ∀ {b : Nat} {cs : Array Value} {t : TypeId} {fr : Nat × Nat}, w.heap[b]? = some (.cells cs t fr) → t ≠ 93 → b ≠ g.mb := fun hb ht e => by
    have := hm; unfold MeterAt at this; rw [e, this] at hb; simp at hb; exact ht hb.2.1.symm
  have nm : ∀ {b : Nat} {es : Array MapEntry} {ck : Nat}, w.heap[b]? = some (.map es ck) → b ≠ g.mb := fun hb e => by
    have := hm; unfold MeterAt at this; rw [e, this] at hb; cases hb
  refine ⟨nb h.mtr.arr (by decide), nb h.mtr.plan.1 (by decide), ?_, fun x hx => ?_⟩
  · obtain ⟨n, es, ck, hb, r⟩ := h.mtr.plan.2
    exact nm hb
  · obtain ⟨i, hi⟩ := List.getElem?_of_mem hx
    have hs := h.mtr.shards i x hi
    refine ⟨nb hs.1 (by decide), ?_⟩
    obtain ⟨n, es, ck, hb, r⟩ := hs.2
    exact nm hb
theorem FullAt.to (h : FullAt w g s now Ds) (hc : Chg (g.mb :: s.fp) w w') (hM : MeterAt w' g.mb now' g.ab g.n g.qb) (hq : QAt w' s') (hs : SameQ s s') : FullAt w' g s' now' Ds := by
  obtain ⟨f1, f2, f3, f4, f5⟩ := h.far
  obtain ⟨n1, n2, n3, n4⟩ := h.nmb
  have hx : ∀ {b : Nat}, b ∉ s.fp → b ≠ g.mb → b ∉ g.mb :: s.fp := fun h1 h2 h3 => (List.mem_cons.1 h3).elim h2 h1
  exact ⟨⟨hM, hc.blk h.mtr.arr (hx f2 n1), fun i x hi => ⟨hc.blk (h.mtr.shards i x hi).1 (hx (f5 i x hi).1 (n4 x (List.mem_of_getElem? hi)).1), (h.mtr.shards i x hi).2.chg hc (hx (f5 i x hi).2 (n4 x (List.mem_of_getElem? hi)).2)⟩, h.mtr.plan.chg hc (hx f3 n2) (hx f4 n3)⟩, hq, hs.qb.trans h.qb, by rw [hs.xb]; exact h.ob, by rw [hs.xb]; exact h.sd⟩
theorem SameQ.refl (s : Qs) : SameQ s s := ⟨rfl, rfl, rfl, rfl, rfl, rfl⟩
theorem FullAt.time (h : FullAt w g s now Ds) (hc : Chg [g.mb] w w') (hM : MeterAt w' g.mb now' g.ab g.n g.qb) : FullAt w' g s now' Ds :=
  h.to (hc.mono (by simp)) hM (h.q.chg hc (fun b hb => by simp; rintro rfl; exact h.far.1 hb)) (SameQ.refl s)
theorem Stp.mb (hc : Chg [g.mb] w w') : Stp w w' g s s := Stp.fp (hc.mono (by simp)) (fun b hb => Or.inl hb)
/-- a request -/
def AllP (w w' : World) (g : St) (s : Qs) (now : Int) (Ds : Nat → DW) (i : Nat) (cost t u r : Int) (a : Value) : Prop :=
  FullAt w' g s now (fun j => if j = i then (allowD g.p g.sl (Ds i) now cost t u r).2 else Ds j) ∧ Stp w w' g s s ∧ a = sv (bl [(allowD g.p g.sl (Ds i) now cost t u r).1.1, (allowD g.p g.sl (Ds i) now cost t u r).1.2.1] ++ be (allowD g.p g.sl (Ds i) now cost t u r).1.2.2 8)
/-- an item -/
def SubP (w w' : World) (g : St) (s : Qs) (now : Int) (Ds : Nat → DW) (t x : Int) (a : Value) : Prop :=
  ∃ (s' : Qs) (st d : Int), FullAt w' g s' now Ds ∧ Stp w w' g s s' ∧ SameQ s s' ∧ s'.n ≤ s.n + 1 ∧ s'.es.length ≤ s.es.length + 1 ∧ Sub s s' t x now (.returned (.tuple #[.int .i64 st, .int .u64 d])) ∧ a = sv (bl [st] ++ be d 8)
/-- items that are told -/
def PolP (w w' : World) (g : St) (s : Qs) (now : Int) (Ds : Nat → DW) (most : Int) (a : Value) : Prop :=
  ∃ (s' : Qs) (k : Nat), FullAt w' g s' now Ds ∧ Stp w w' g s s' ∧ SameQ s s' ∧ s'.n = s.n ∧ s'.D = s.D ∧ s'.es = s.es ∧ s'.ws = s.ws.drop k ∧ Cnt s.ws most now k ∧ a = sv (bl [3, (k : Int)] ++ ib (s.ws.take k))
/-- time goes on -/
def AdvP (w w' : World) (g : St) (s : Qs) (now : Int) (Ds : Nat → DW) (sp : Int) (a : Value) : Prop :=
  FullAt w' g s (min (now + sp) 9223372036854775807) Ds ∧ Stp w w' g s s ∧ a = sv (bl [4] ++ be (min (now + sp) 9223372036854775807) 8)
/-- nothing is done -/
def NoP (w w' : World) (g : St) (s : Qs) (now : Int) (Ds : Nat → DW) (a : Value) : Prop := FullAt w' g s now Ds ∧ Stp w w' g s s ∧ a = sv [255]

/-! the calls -/
theorem FAdvance (d : Int) (h : FullAt w g s now Ds) (H : MS g s now Ds) (h2 : 0 ≤ d) (h3 : d ≤ 9223372036854775807) :
    Calls Tryz.prog 22 #[.pointer (some ⟨g.mb, 0, none⟩), .int .i64 d] w fun e w' => e = .returned (.int .i64 0) ∧ FullAt w' g s (min (now + d) 9223372036854775807) Ds ∧ Stp w w' g s s := by
  refine (Advance_any g.mb g.ab g.n g.qb now d w h.mtr.meter H.h0 H.h1 h2 h3).mono ?_
  rintro e w' ⟨rfl, hm, hc⟩
  exact ⟨rfl, h.time hc hm, Stp.mb hc⟩
theorem FNow (h : FullAt w g s now Ds) : Calls Tryz.prog 15 #[.pointer (some ⟨g.mb, 0, none⟩)] w fun e w' => e = .returned (.int .u64 now) ∧ Chg [] w w' := Now_any g.mb g.ab g.n g.qb now w h.mtr.meter
theorem FAllow (cost t u r : Int) (i : Nat) (h : FullAt w g s now Ds) (H : MS g s now Ds) (hi : t % (g.n : Int) = (i : Int)) (hc : 1 ≤ cost) (hc' : cost ≤ 1000)
    (ht : (Lit.int .u16 t).wf = true) (hu : (Lit.int .u16 u).wf = true) (hr : (Lit.int .u16 r).wf = true) :
    Calls Tryz.prog 21 #[.pointer (some ⟨g.mb, 0, none⟩), .agg #[.int .u16 t, .int .u16 u, .int .u16 r], .int .i64 cost] w fun e w' =>
      e = .returned (.tuple #[.agg (repV (allowD g.p g.sl (Ds i) now cost t u r).1).toArray, .int .i64 0]) ∧ FullAt w' g s now (fun j => if j = i then (allowD g.p g.sl (Ds i) now cost t u r).2 else Ds j) ∧ Stp w w' g s s := by
  refine (MAllowC g now cost t u r Ds i w h.mtr H.ok hi (H.inv i) H.h0 H.h1 hc hc' ht hu hr).mono ?_
  rintro e w' ⟨rfl, hm, ⟨x, hx, hch⟩, _⟩
  obtain ⟨j, hj⟩ := List.getElem?_of_mem hx
  refine ⟨rfl, ⟨hm, h.q.chg hch (fun b hb => by simp; rintro rfl; exact (h.far.2.2.2.2 j x hj).2 hb), h.qb, h.ob, h.sd⟩, ⟨hch.mono (by simpa using all_sd hx), fun b hb => Or.inl hb⟩⟩
theorem FSubmit (t x : Int) (h : FullAt w g s now Ds) (H : MS g s now Ds) (ht : (Lit.int .u16 t).wf = true) :
    Calls Tryz.prog 40 #[.pointer (some ⟨g.mb, 0, none⟩), .int .u16 t, .int .u32 x] w fun e w' => ∃ (s' : Qs) (st d : Int), e = .returned (.tuple #[.int .i64 st, .int .u64 d]) ∧ ((0 ≤ st ∧ st < 256) ∧ 0 ≤ d ∧ d ≤ 18446744073709551615) ∧ FullAt w' g s' now Ds ∧ Stp w w' g s s' ∧ SameQ s s' ∧ s'.n ≤ s.n + 1 ∧ s'.es.length ≤ s.es.length + 1 ∧ Sub s s' t x now (.returned (.tuple #[.int .i64 st, .int .u64 d])) := by
  refine (MSubmit g.mb g.ab g.n s t x now w (by rw [h.qb]; exact h.mtr.meter) h.q ht H.h0 H.h1 H.ev.1 H.ev.2 H.de.1 H.de.2 (by have := H.ws; omega) H.es H.n).mono ?_
  rintro e w' ⟨hm, s', z1, z2, z3, z4, z5, z6, z7⟩
  obtain ⟨st, d, rfl, b1, b2, b3⟩ := z7.bd H.h0 H.h1 H.de.2
  exact ⟨s', st, d, rfl, ⟨b1, b2, b3⟩, h.to (z3.mono (by simp; exact fun a ha => Or.inr ha)) (by rw [← h.qb]; exact hm) z1 z2, Stp.fp (z3.mono (by simp; exact fun a ha => Or.inr ha)) z4, z2, z5, z6, z7⟩
theorem FPoll (most : Int) (h : FullAt w g s now Ds) (H : MS g s now Ds) (hm0 : 0 ≤ most) (hm1 : most ≤ 1000000) :
    Calls Tryz.prog 42 #[.pointer (some ⟨g.mb, 0, none⟩), .int .i64 most] w fun e w' => ∃ (s' : Qs) (k : Nat) (v : Value), e = .returned v ∧ FullAt w' g s' now Ds ∧ Stp w w' g s s' ∧ SameQ s s' ∧ s'.n = s.n ∧ s'.D = s.D ∧ s'.es = s.es ∧ s'.ws = s.ws.drop k ∧ Cnt s.ws most now k ∧ Rw w' 123 3 v k (icells (s.ws.take k)) := by
  refine (MPoll g.mb g.ab g.n s most now w (by rw [h.qb]; exact h.mtr.meter) h.q (by have := H.ws; omega)).mono ?_
  rintro e w' ⟨hm, k, s', v, z1, rfl, z⟩
  exact ⟨s', k, v, rfl, h.to (z.chg.mono (by simp; exact fun a ha => Or.inr ha)) (by rw [← h.qb]; exact hm) z.at_ z.same, Stp.fp (z.chg.mono (by simp; exact fun a ha => Or.inr ha)) z.fp, z.same, z.n, z.D, z.es, z.ws, z1, z.told⟩

/-! the commands -/
theorem Do0 (T : Value) (t u r c n x m sp : Int) (h : FullAt w g s now Ds) (H : MS g s now Ds) (hrd : ∀ W, Calls Tryz.prog 59 #[T] W fun e w' => e = .returned (.agg #[.int .i64 0, .int .u16 t, .int .u16 u, .int .u16 r, .int .i64 c, .int .u16 n, .int .u32 x, .int .i64 m, .int .u64 sp]) ∧ Chg [] W w') :
    Calls Tryz.prog 25 #[.pointer (some ⟨g.mb, 0, none⟩), T] w fun e w' => ∃ a, e = .returned a ∧ NoP w w' g s now Ds a := by
  refine Do_any g.mb g.ab g.n g.qb T 0 t u r c n x m sp now w _ h.mtr.meter (by decide) hrd (fun W hcW hbW => ?_)
  refine (answer0 g.mb t u r c n x m sp now W).mono ?_
  rintro e w' ⟨rfl, hc⟩
  refine ⟨_, [], rfl, hc, by simp, by simp, fun W' hM hc' => ?_⟩
  have hall : Chg [g.mb] w W' := (hcW.trans hc (by simp)).trans hc' (by simp)
  exact ⟨h.time hall hM, Stp.mb hall, rfl⟩
theorem Do1 (T : Value) (cost t u r x5 x6 x7 x8 : Int) (i : Nat) (h : FullAt w g s now Ds) (H : MS g s now Ds) (hrd : ∀ W, Calls Tryz.prog 59 #[T] W fun e w' => e = .returned (.agg #[.int .i64 1, .int .u16 t, .int .u16 u, .int .u16 r, .int .i64 cost, .int .u16 x5, .int .u32 x6, .int .i64 x7, .int .u64 x8]) ∧ Chg [] W w')
    (hi : t % (g.n : Int) = (i : Int)) (hc : 1 ≤ cost) (hc' : cost ≤ 1000) (ht : (Lit.int .u16 t).wf = true) (hu : (Lit.int .u16 u).wf = true) (hr : (Lit.int .u16 r).wf = true) :
    Calls Tryz.prog 25 #[.pointer (some ⟨g.mb, 0, none⟩), T] w fun e w' => ∃ a, e = .returned a ∧ AllP w w' g s now Ds i cost t u r a := by
  refine Do_any g.mb g.ab g.n g.qb T 1 t u r cost x5 x6 x7 x8 now w _ h.mtr.meter (by decide) hrd (fun W hcW hbW => ?_)
  have ok := H.ok
  have hil : i < g.sd.length := by rw [ok.len]; have := Int.emod_lt_of_pos t (show (0 : Int) < g.n from by have := ok.n1; omega); omega
  obtain ⟨x, hx⟩ : ∃ x, g.sd[i]? = some x := ⟨_, List.getElem?_eq_getElem hil⟩
  have hxm := List.mem_of_getElem? hx
  obtain ⟨n1, n2, n3, n4⟩ := h.nmb
  obtain ⟨f1, f2, f3, f4, f5⟩ := h.far
  have hs := h.mtr.shards i x hx
  refine (answer1 g.mb g.ab g.n x.1 g.pb g.ob x.2 i (lcells now g.ab g.n g.qb) (g.sd.map sptr) g.sl g.p t u r cost x5 x6 x7 x8 now (Ds i) W hbW rfl (hcW.blk h.mtr.arr (by simpa using n1)) hi (by rw [List.getElem?_map, hx]; rfl) (hcW.blk hs.1 (by simpa using (n4 x hxm).1)) (h.mtr.plan.chg hcW (by simpa using n2) (by simpa using n3)) (hs.2.chg hcW (by simpa using (n4 x hxm).2)) (Ne.symm (ok.obd x hxm)) ok.n1 ok.n4 ht hu hr ok.good (H.inv i) H.h0 H.h1 hc hc').mono ?_
  rintro e w' ⟨rfl, hd, hch⟩
  refine ⟨_, [x.2], rfl, hch, by simpa using Ne.symm (n4 x hxm).2, by simpa using hs.2.lt, fun W' hM hcM => ?_⟩
  have hall : Chg [g.mb, x.2] w W' := ((hcW.mono (by simp)).trans hch (by simp)).trans hcM (by simp)
  have nb : ∀ {b : Nat} {cs : Array Value} {t : TypeId} {fr : Nat × Nat}, w.heap[b]? = some (.cells cs t fr) → b ≠ g.mb → b ∉ [g.mb, x.2] := fun hb h1 => by simpa using ⟨h1, MapAt.ne hs.2 hb⟩
  refine ⟨⟨⟨hM, hall.blk h.mtr.arr (nb h.mtr.arr n1), fun j y hy => ?_, h.mtr.plan.chg hall (nb h.mtr.plan.1 n2) (by simpa using ⟨n3, Ne.symm (ok.obd x hxm)⟩)⟩, h.q.chg hall (fun b hb => by simp only [List.mem_cons, List.not_mem_nil, or_false]; exact fun e => e.elim (fun e => f1 (e ▸ hb)) (fun e => (f5 i x hx).2 (e ▸ hb))), h.qb, h.ob, h.sd⟩, ⟨hall.mono (by simpa using ⟨all_mb, all_sd hxm⟩), fun b hb => Or.inl hb⟩, rfl⟩
  have hs' := h.mtr.shards j y hy
  refine ⟨hall.blk hs'.1 (nb hs'.1 (n4 y (List.mem_of_getElem? hy)).1), ?_⟩
  by_cases hj : j = i
  · subst hj
    rw [hx] at hy
    cases hy
    rw [if_pos rfl]
    exact hd.chg hcM (by simpa using (n4 x hxm).2)
  · rw [if_neg hj]
    refine hs'.2.chg hall ?_
    have hnd := ok.apart
    have hjl := (List.getElem?_eq_some_iff.1 hy).1
    intro e
    simp at e
    rcases e with e | e
    · exact (n4 y (List.mem_of_getElem? hy)).2 e
    · have e1 : (g.sd.map (·.2))[j]? = some y.2 := by rw [List.getElem?_map, hy]; rfl
      have e2 : (g.sd.map (·.2))[i]? = some y.2 := by rw [List.getElem?_map, hx, e]; rfl
      exact hj ((List.getElem?_inj (by simpa using hjl) hnd).1 (e1.trans e2.symm))
theorem Do2 (T : Value) (t x x1 x2 x3 x4 x7 x8 : Int) (h : FullAt w g s now Ds) (H : MS g s now Ds) (hrd : ∀ W, Calls Tryz.prog 59 #[T] W fun e w' => e = .returned (.agg #[.int .i64 2, .int .u16 x1, .int .u16 x2, .int .u16 x3, .int .i64 x4, .int .u16 t, .int .u32 x, .int .i64 x7, .int .u64 x8]) ∧ Chg [] W w') (ht : (Lit.int .u16 t).wf = true) :
    Calls Tryz.prog 25 #[.pointer (some ⟨g.mb, 0, none⟩), T] w fun e w' => ∃ a, e = .returned a ∧ SubP w w' g s now Ds t x a := by
  refine Do_any g.mb g.ab g.n g.qb T 2 x1 x2 x3 x4 t x x7 x8 now w _ h.mtr.meter (by decide) hrd (fun W hcW hbW => ?_)
  have f1 := h.far.1
  refine (answer2 g.mb (lcells now g.ab g.n g.qb) s t x x1 x2 x3 x4 x7 x8 now W hbW (by rw [h.qb]; rfl) (h.q.chg hcW (fun b hb => by simp; rintro rfl; exact f1 hb)) ht H.h0 H.h1 H.ev.1 H.ev.2 H.de.1 H.de.2 (by have := H.ws; omega) H.es H.n).mono ?_
  rintro e w' ⟨s', st, d, z1, z2, z3, z4, z5, z6, z7, rfl⟩
  refine ⟨_, s.fp, rfl, z3, f1, h.q.lt, fun W' hM hcM => ?_⟩
  have hall : Chg (g.mb :: s.fp) w W' := ((hcW.mono (by simp)).trans z3 (fun j hj => Or.inl (by simp [hj]))).trans hcM (by simp)
  have f2 : g.mb ∉ s'.fp := fp_ty z1 (z3.blk hbW f1) (by decide) (by decide) (by decide) (by decide)
  refine ⟨s', st, d, h.to hall hM (z1.chg hcM (fun b hb => by simp; rintro rfl; exact f2 hb)) z2, Stp.fp hall (fun b hb => ?_), z2, z5, z6, z7, rfl⟩
  rcases z4 b hb with h | h
  · exact Or.inl h
  · exact Or.inr (Nat.le_trans hcW.size h)
theorem Do3 (T : Value) (most x1 x2 x3 x4 x5 x6 x8 : Int) (h : FullAt w g s now Ds) (H : MS g s now Ds) (hrd : ∀ W, Calls Tryz.prog 59 #[T] W fun e w' => e = .returned (.agg #[.int .i64 3, .int .u16 x1, .int .u16 x2, .int .u16 x3, .int .i64 x4, .int .u16 x5, .int .u32 x6, .int .i64 most, .int .u64 x8]) ∧ Chg [] W w') (hm0 : 0 ≤ most) (hm1 : most ≤ 1000000) :
    Calls Tryz.prog 25 #[.pointer (some ⟨g.mb, 0, none⟩), T] w fun e w' => ∃ a, e = .returned a ∧ PolP w w' g s now Ds most a := by
  refine Do_any g.mb g.ab g.n g.qb T 3 x1 x2 x3 x4 x5 x6 most x8 now w _ h.mtr.meter (by decide) hrd (fun W hcW hbW => ?_)
  have f1 := h.far.1
  refine (answer3 g.mb (lcells now g.ab g.n g.qb) s most x1 x2 x3 x4 x5 x6 x8 now W hbW (by rw [h.qb]; rfl) (h.q.chg hcW (fun b hb => by simp; rintro rfl; exact f1 hb)) hm0 hm1 H.ws H.wf).mono ?_
  rintro e w' ⟨s', k, z0, z1, z2, z3, z4, z5, z6, z7, z8, rfl⟩
  refine ⟨_, s.fp, rfl, z3, f1, h.q.lt, fun W' hM hcM => ?_⟩
  have hall : Chg (g.mb :: s.fp) w W' := ((hcW.mono (by simp)).trans z3 (fun j hj => Or.inl (by simp [hj]))).trans hcM (by simp)
  have f2 : g.mb ∉ s'.fp := fp_ty z1 (z3.blk hbW f1) (by decide) (by decide) (by decide) (by decide)
  refine ⟨s', k, h.to hall hM (z1.chg hcM (fun b hb => by simp; rintro rfl; exact f2 hb)) z2, Stp.fp hall (fun b hb => ?_), z2, z5, z6, z7, z8, z0, rfl⟩
  rcases z4 b hb with h | h
  · exact Or.inl h
  · exact Or.inr (Nat.le_trans hcW.size h)
theorem Do4 (T : Value) (sp t u r c n x m : Int) (h : FullAt w g s now Ds) (H : MS g s now Ds) (hrd : ∀ W, Calls Tryz.prog 59 #[T] W fun e w' => e = .returned (.agg #[.int .i64 4, .int .u16 t, .int .u16 u, .int .u16 r, .int .i64 c, .int .u16 n, .int .u32 x, .int .i64 m, .int .u64 sp]) ∧ Chg [] W w') (h2 : 0 ≤ sp) (h3 : sp ≤ 9223372036854775807) :
    Calls Tryz.prog 25 #[.pointer (some ⟨g.mb, 0, none⟩), T] w fun e w' => ∃ a, e = .returned a ∧ AdvP w w' g s now Ds sp a := by
  refine (Do_adv g.mb g.ab g.n g.qb T sp t u r c n x m now w h.mtr.meter hrd H.h0 H.h1 h2 h3).mono ?_
  rintro e w' ⟨rfl, hM, hc⟩
  exact ⟨_, rfl, h.time hc hM, Stp.mb hc, rfl⟩
end
end Go.Proofs.YtbdnhllhdjepcaaGreat
