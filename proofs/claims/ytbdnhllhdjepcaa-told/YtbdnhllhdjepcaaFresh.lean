import Derived.Test.YtbdnhllhdjepcaaConf
namespace Go.Proofs.Ytbdnhllhdjepcaa
set_option linter.unusedVariables false
set_option linter.unusedSimpArgs false
open Go.RowKit Go.Maps

/-- a meter that was just made -/
def IsNew (w w' : World) (g : St) (n : Nat) (sl : Int) (p : Pln) : Prop := g.Ok ∧ MtrAt w' g 0 (fun _ => .map []) ∧ Chg [] w w' ∧ w.heap.size ≤ g.lo ∧ g.hi ≤ w'.heap.size ∧ g.n = n ∧ g.sl = sl ∧ g.p = p
theorem isNew_of {w w' : World} {mb n : Nat} {sl : Int} {p : Pln} {ev de qu : Int} {ab qb tb xb pb ob : Nat} {sd : List (Nat × Nat)} (h : MtrNew w w' mb n sl p ev de qu ab qb tb xb pb ob sd) (h1 : 1 ≤ n) (h4 : n ≤ 4) (h3 : 3 ≤ sl) (h64 : sl ≤ 64) (hg : ∀ L l, Good (p.at_ L l)) :
    IsNew w w' ⟨w.heap.size, w'.heap.size, mb, ab, n, qb, pb, ob, sd, sl, p⟩ n sl p := by
  refine ⟨⟨h.len, h1, h4, h.apart, h.obd, ⟨h.mlo, lt_of_block h.meter⟩, ⟨h.alo, lt_of_block h.arr⟩, ⟨h.plo, lt_of_block h.plan.1⟩, ⟨h.olo, h.plan.2.elim fun _ hm => hm.lt⟩, fun x hx => ⟨⟨(h.shards x hx).2.2.1, lt_of_block (h.shards x hx).1⟩, ⟨(h.shards x hx).2.2.2, lt_of_block (h.shards x hx).2.1⟩⟩, h3, h64, hg⟩,
    ⟨h.meter, h.arr, fun i x hx => ?_, h.plan⟩, h.chg, Nat.le_refl _, Nat.le_refl _, rfl, rfl, rfl⟩
  have hx' := h.shards x (List.mem_of_getElem? hx)
  exact ⟨hx'.1, 0, #[], 0, hx'.2.1, ⟨by simp, MapKept.stamped_empty 0, by simp⟩, Nat.le_refl _, rfl⟩
theorem good_of {c0 p0 b0 c1 p1 b1 c2 p2 b2 : Int} (hq0 : QOk c0 p0 b0) (hq1 : QOk c1 p1 b1) (hq2 : QOk c2 p2 b2) : ∀ L l, Good ((⟨ivl c0 p0, b0, ivl c1 p1, b1, ivl c2 p2, b2, .map []⟩ : Pln).at_ L l) := by
  intro L l
  obtain ⟨_, _, _, _, x5, x6, x7⟩ := hq0
  obtain ⟨_, _, _, _, y5, y6, y7⟩ := hq1
  obtain ⟨_, _, _, _, z5, z6, z7⟩ := hq2
  unfold Pln.at_
  rw [if_neg (by simp [Maps.has])]
  match L with
  | 0 => exact ⟨x7, x5, by show ivl c0 p0 + b0 ≤ _; omega⟩
  | 1 => exact ⟨y7, y5, by show ivl c1 p1 + b1 ≤ _; omega⟩
  | n + 2 => exact ⟨z7, z5, by show ivl c2 p2 + b2 ≤ _; omega⟩
/-- a small quota may be -/
theorem qok_small {c p b : Int} (h1 : 1 ≤ c) (h2 : c ≤ 1000) (h3 : 1 ≤ p) (h4 : p ≤ 1000) (h5 : 0 ≤ b) (h6 : b ≤ 1000) : QOk c p b := by
  have hd : 0 ≤ (p - 1) / c := Int.ediv_nonneg (by omega) (by omega)
  have hd' : (p - 1) / c ≤ p - 1 := Int.ediv_le_self _ (by omega)
  exact ⟨h1, by omega, h3, by omega, h5, by unfold ivl; omega, by unfold ivl; omega⟩

theorem MNew (c0 p0 b0 c1 p1 b1 c2 p2 b2 sl ev de qu : Int) (n : Nat) (w : World) (hq0 : QOk c0 p0 b0) (hq1 : QOk c1 p1 b1) (hq2 : QOk c2 p2 b2) (h1 : 1 ≤ n) (h2 : n ≤ 4) (h3 : 3 ≤ sl) (h4 : sl ≤ 64) (h5 : 1 ≤ ev) (h6 : ev ≤ 4611686018427387904) (h7 : 0 ≤ de) (h8 : de ≤ 4611686018427387904) (h9 : 0 ≤ qu) (h10 : qu ≤ 50) :
    Calls Try.prog 32 #[.agg #[.int .i64 c0, .int .i64 p0, .int .i64 b0, .int .i64 c1, .int .i64 p1, .int .i64 b1, .int .i64 c2, .int .i64 p2, .int .i64 b2, .slice none 0 0, .int .i64 n, .int .i64 sl, .int .i64 ev, .int .i64 de, .int .i64 qu]] w fun e w' => ∃ g, e = .returned (.tuple #[.pointer (some ⟨g.mb, 0, none⟩), .int .i64 0]) ∧ IsNew w w' g n sl ⟨ivl c0 p0, b0, ivl c1 p1, b1, ivl c2 p2, b2, .map []⟩ := by
  refine (New_nil c0 p0 b0 c1 p1 b1 c2 p2 b2 sl ev de qu n w hq0 hq1 hq2 h1 h2 h3 h4 h5 h6 h7 h8 h9 h10).mono ?_
  rintro e w' ⟨mb, ab, qb, tb, xb, pb, ob, sd, rfl, h⟩
  exact ⟨_, rfl, isNew_of h h1 h2 h3 h4 (good_of hq0 hq1 hq2)⟩
theorem IsNew.pre {w w0 w' : World} {g : St} {n : Nat} {sl : Int} {p : Pln} (h : IsNew w0 w' g n sl p) (hc : Chg [] w w0) : IsNew w w' g n sl p :=
  ⟨h.1, h.2.1, hc.trans h.2.2.1 (by simp), Nat.le_trans hc.size h.2.2.2.1, h.2.2.2.2⟩

set_option maxRecDepth 100000 in
set_option maxHeartbeats 1000000 in
theorem fresh_any (c0 p0 b0 c1 p1 b1 c2 p2 b2 sl ev de qu : Int) (n : Nat) (w : World) (hq0 : QOk c0 p0 b0) (hq1 : QOk c1 p1 b1) (hq2 : QOk c2 p2 b2) (h1 : 1 ≤ n) (h2 : n ≤ 4) (h3 : 3 ≤ sl) (h4 : sl ≤ 64) (h5 : 1 ≤ ev) (h6 : ev ≤ 4611686018427387904) (h7 : 0 ≤ de) (h8 : de ≤ 4611686018427387904) (h9 : 0 ≤ qu) (h10 : qu ≤ 50) :
    Calls Try.prog 12 #[.agg #[.int .i64 c0, .int .i64 p0, .int .i64 b0, .int .i64 c1, .int .i64 p1, .int .i64 b1, .int .i64 c2, .int .i64 p2, .int .i64 b2, .slice none 0 0, .int .i64 n, .int .i64 sl, .int .i64 ev, .int .i64 de, .int .i64 qu]] w fun e w' => ∃ g, e = .returned (.tuple #[.pointer (some ⟨g.mb, 0, none⟩), .bool true]) ∧ IsNew w w' g n sl ⟨ivl c0 p0, b0, ivl c1 p1, b1, ivl c2 p2, b2, .map []⟩ := by
  go_enter Try.func12, Try.ntmps12
  go_wp2_with fail
  refine (MNew c0 p0 b0 c1 p1 b1 c2 p2 b2 sl ev de qu n _ hq0 hq1 hq2 h1 h2 h3 h4 h5 h6 h7 h8 h9 h10).mono ?_
  rintro e w' ⟨g, rfl, hg⟩
  have hg' := hg.pre ((Chg.refl _ _).alloc _)
  clear hg
  go_wp2
  go_ret2
  exact ⟨g, rfl, hg'⟩

theorem FrA {lo hi : Nat} {a b : World} (h : Fr lo hi a b) (o : Obj) : Fr lo hi a (b.alloc o) := h.trans (((Chg.refl [] b).alloc o).fr (by simp))
theorem FrS {lo hi : Nat} {a b : World} (h : Fr lo hi a b) (p : Addr) (u : Value) (hp : a.heap.size ≤ p.block) : Fr lo hi a (b.setCell p u) := ⟨h.os, h.tape, h.output, by simpa [World.setCell] using h.size, fun k hk ho => (Below.heap_setCell b p u k (by omega)).trans (h.block k hk ho)⟩
theorem frx {lo hi : Nat} {L : List Nat} {w w5 W : World} (h : Fr lo hi w w5) (c : Chg L w5 W) (hL : ∀ j ∈ L, w.heap.size ≤ j) : Fr lo hi w W :=
  ⟨c.os.trans h.os, c.tape.trans h.tape, c.output.trans h.output, Nat.le_trans h.size c.size, fun k hk ho => (c.block k (Nat.lt_of_lt_of_le hk h.size) (fun hj => by have := hL k hj; omega)).trans (h.block k hk ho)⟩
theorem FrD {lo hi : Nat} (a : World) (o : Obj) : Fr lo hi a (a.alloc o).drew := (((Chg.refl [] a).alloc o).drew).fr (by simp)
/-- the key, the cost, the wait of a request -/
structure Rq where
  a : Int
  t : Int
  u : Int
  r : Int
  c : Int
def Rq.Ok (o : Rq) : Prop := I64 o.a ∧ I64 o.t ∧ I64 o.u ∧ I64 o.r ∧ I64 o.c
theorem wf16 {c m : Int} (h : 1 ≤ m) (h' : m ≤ 1000) : (Lit.int .u16 (pk c m)).wf = true := WalkArith.wf_u16 (by have := pk_bd c m h; omega)

set_option maxRecDepth 100000 in
set_option maxHeartbeats 2000000 in
theorem asked_any (g : St) (now : Int) (Ds : Nat → DW) (a t u r c : Int) (i : Nat) (w : World) (hm : MtrAt w g now Ds) (ok : g.Ok) (hhi : g.hi ≤ w.heap.size) (ha : I64 a) (ht : I64 t) (hu : I64 u) (hr : I64 r) (hc : I64 c) (h0 : 0 ≤ now) (h1 : now ≤ 1000000) (hi : pk t 3 % (g.n : Int) = (i : Int)) (hinv : Inv now (Ds i)) :
    Calls Try.prog 14 #[.pointer (some ⟨g.mb, 0, none⟩), .agg #[.int .i64 a, .int .i64 t, .int .i64 u, .int .i64 r, .int .i64 c]] w fun e w' =>
      e = .returned (.tuple #[.agg (repV (allowD g.p g.sl (Ds i) (now + pk a 30) (1 + pk c 4) (pk t 3) (pk u 2) (pk r 2)).1).toArray, .bool true]) ∧
      MtrAt w' g (now + pk a 30) (fun j => if j = i then (allowD g.p g.sl (Ds i) (now + pk a 30) (1 + pk c 4) (pk t 3) (pk u 2) (pk r 2)).2 else Ds j) ∧ Fr g.lo g.hi w w' ∧ Inv (now + pk a 30) (allowD g.p g.sl (Ds i) (now + pk a 30) (1 + pk c 4) (pk t 3) (pk u 2) (pk r 2)).2 := by
  have b1 := pk_bd a 30 (by decide)
  have b2 := pk_bd c 4 (by decide)
  have b3 := pk_bd t 3 (by decide)
  have hmin : min (now + pk a 30) 9223372036854775807 = now + pk a 30 := by omega
  have HAdv : Hid (∀ W, MtrAt W g now Ds → Calls Try.prog 21 #[.pointer (some ⟨g.mb, 0, none⟩), .int .i64 (pk a 30)] W fun e w' => e = .returned (.int .i64 0) ∧ MtrAt w' g (now + pk a 30) Ds ∧ Fr g.lo g.hi W w') := fun W hW => by
    have := MAdvance g now (pk a 30) Ds W hW ok h0 (by omega) b1.1 (by omega)
    rw [hmin] at this
    exact this
  have HAll : Hid (∀ W, MtrAt W g (now + pk a 30) Ds → Calls Try.prog 20 #[.pointer (some ⟨g.mb, 0, none⟩), .agg #[.int .u16 (pk t 3), .int .u16 (pk u 2), .int .u16 (pk r 2)], .int .i64 (1 + pk c 4)] W fun e w' =>
      e = .returned (.tuple #[.agg (repV (allowD g.p g.sl (Ds i) (now + pk a 30) (1 + pk c 4) (pk t 3) (pk u 2) (pk r 2)).1).toArray, .int .i64 0]) ∧ MtrAt w' g (now + pk a 30) (fun j => if j = i then (allowD g.p g.sl (Ds i) (now + pk a 30) (1 + pk c 4) (pk t 3) (pk u 2) (pk r 2)).2 else Ds j) ∧ Fr g.lo g.hi W w' ∧ Inv (now + pk a 30) (allowD g.p g.sl (Ds i) (now + pk a 30) (1 + pk c 4) (pk t 3) (pk u 2) (pk r 2)).2) := fun W hW =>
    MAllow g (now + pk a 30) (1 + pk c 4) (pk t 3) (pk u 2) (pk r 2) Ds i W hW ok hi (hinv.mono (by omega)) (by omega) (by omega) (by omega) (by omega) (wf16 (by decide) (by decide)) (wf16 (by decide) (by decide)) (wf16 (by decide) (by decide))
  have HWt : Hid (∀ W, Calls Try.prog 13 #[.agg #[.int .i64 a, .int .i64 t, .int .i64 u, .int .i64 r, .int .i64 c]] W fun e w' => e = .returned (.int .i64 (pk a 30)) ∧ Chg [] W w') := fun W => wait_any a t u r c W ha
  have HKy : Hid (∀ W, Calls Try.prog 15 #[.agg #[.int .i64 a, .int .i64 t, .int .i64 u, .int .i64 r, .int .i64 c]] W fun e w' => e = .returned (.agg #[.int .u16 (pk t 3), .int .u16 (pk u 2), .int .u16 (pk r 2)]) ∧ Chg [] W w') := fun W => key_any a t u r c W ht hu hr
  have HCo : Hid (∀ W, Calls Try.prog 16 #[.agg #[.int .i64 a, .int .i64 t, .int .i64 u, .int .i64 r, .int .i64 c]] W fun e w' => e = .returned (.int .i64 (1 + pk c 4)) ∧ Chg [] W w') := fun W => cost_any a t u r c W hc
  obtain ⟨st, lv, rt, D', hX⟩ : ∃ st lv rt D', allowD g.p g.sl (Ds i) (now + pk a 30) (1 + pk c 4) (pk t 3) (pk u 2) (pk r 2) = ((st, lv, rt), D') := ⟨_, _, _, _, rfl⟩
  have HX : Hid (allowD g.p g.sl (Ds i) (now + pk a 30) (1 + pk c 4) (pk t 3) (pk u 2) (pk r 2) = ((st, lv, rt), D')) := hX
  simp only [hX, repV] at HAll
  obtain ⟨d, hd⟩ : ∃ d, pk a 30 = d := ⟨_, rfl⟩
  obtain ⟨k0, hk0⟩ : ∃ k, pk t 3 = k := ⟨_, rfl⟩
  obtain ⟨k1, hk1⟩ : ∃ k, pk u 2 = k := ⟨_, rfl⟩
  obtain ⟨k2, hk2⟩ : ∃ k, pk r 2 = k := ⟨_, rfl⟩
  obtain ⟨co, hco⟩ : ∃ k, 1 + pk c 4 = k := ⟨_, rfl⟩
  have HD : Hid (pk a 30 = d) := hd
  simp only [hd, hk0, hk1, hk2, hco] at HAdv HAll HWt HKy HCo b1
  clear hX hmin hd hk0 hk1 hk2 hco b2 b3 hi hinv
  have hmW := hm.chg0 (((Chg.refl [] w).alloc (.cells [.int .i64 a, .int .i64 t, .int .i64 u, .int .i64 r, .int .i64 c].toArray 38)).alloc (.cells [.int .i64 0, .int .i64 0, .int .u64 0].toArray 42))
  obtain ⟨w0, hw0⟩ : ∃ w0, w0 = (w.alloc (.cells [.int .i64 a, .int .i64 t, .int .i64 u, .int .i64 r, .int .i64 c].toArray 38)).alloc (.cells [.int .i64 0, .int .i64 0, .int .u64 0].toArray 42) := ⟨_, rfl⟩
  rw [← hw0] at hmW
  have g0 : w0.heap[w.heap.size]? = some (.cells [.int .i64 a, .int .i64 t, .int .i64 u, .int .i64 r, .int .i64 c].toArray 38 (0, 0)) := hw0 ▸ heap_alloc2_old _ _ _
  have g1 : w0.heap[w.heap.size + 1]? = some (.cells [.int .i64 0, .int .i64 0, .int .u64 0].toArray 42 (0, 0)) := hw0 ▸ heap_alloc2_new _ _ _
  have hc0 : Chg [] w w0 := hw0 ▸ ((Chg.refl _ _).alloc _).alloc _
  have HW0 : Hid (w0 = (w.alloc (.cells [.int .i64 a, .int .i64 t, .int .i64 u, .int .i64 r, .int .i64 c].toArray 38)).alloc (.cells [.int .i64 0, .int .i64 0, .int .u64 0].toArray 42)) := hw0
  clear hw0
  have e0 := blk_cell (i := 0) g0 rfl
  have e1 := blk_cell (i := 1) g0 rfl
  have e2 := blk_cell (i := 2) g0 rfl
  have e3 := blk_cell (i := 3) g0 rfl
  have e4 := blk_cell (i := 4) g0 rfl
  go_enter Try.func14, Try.ntmps14
  go_wp2_with fail
  rw [show (w.alloc (.cells #[.int .i64 a, .int .i64 t, .int .i64 u, .int .i64 r, .int .i64 c] 38)).alloc (.cells #[.int .i64 0, .int .i64 0, .int .u64 0] 42) = w0 from HW0.out.symm]
  refine (HWt.out _).mono ?_
  rintro e w1 ⟨rfl, q1⟩
  have hm1 := hmW.chg0 q1
  have g01 := q1.blk g0 (by simp)
  have g11 := q1.blk g1 (by simp)
  have hc1 := hc0.trans q1 (by simp)
  clear e0 e1 e2 e3 e4 g0 g1 q1 hmW HW0 hc0
  go_wp2_with fail
  refine (HAdv.out _ hm1).mono ?_
  rintro e w2 ⟨rfl, hm2, f2⟩
  have g02 := f2.blk g01 (Or.inr (by omega))
  have g12 := f2.blk g11 (Or.inr (by omega))
  have hl2 := lt_of_block g12
  have hf2 : Fr g.lo g.hi w w2 := (hc1.fr (by simp)).trans f2
  have HS : Hid (∀ W, Fr g.lo g.hi w2 W → (W.cell? ⟨w.heap.size, 0, none⟩ = some (.int .i64 a) ∧ W.cell? ⟨w.heap.size, 1, none⟩ = some (.int .i64 t) ∧ W.cell? ⟨w.heap.size, 2, none⟩ = some (.int .i64 u) ∧ W.cell? ⟨w.heap.size, 3, none⟩ = some (.int .i64 r) ∧ W.cell? ⟨w.heap.size, 4, none⟩ = some (.int .i64 c))) := fun W hW => by
    have k0 := hW.blk g02 (Or.inr (by omega))
    exact ⟨blk_cell k0 rfl, blk_cell k0 rfl, blk_cell k0 rfl, blk_cell k0 rfl, blk_cell k0 rfl⟩
  have HG : Hid (w2.heap[w.heap.size + 1]? = some (.cells [.int .i64 0, .int .i64 0, .int .u64 0].toArray 42 (0, 0))) := g12
  have HM : Hid (MtrAt w2 g (now + d) Ds) := hm2
  have y2 : Fr g.lo g.hi w2 w2.drew := ((Chg.refl [] _).drew).fr (by simp)
  clear hm1 g01 g11 hc1 f2 g02 g12 hm2 HWt HAdv
  go_wp2_with fail
  go_region_held3 (fun W => W.cell? ⟨w.heap.size, 0, none⟩ = some (.int .i64 a) ∧ W.cell? ⟨w.heap.size, 1, none⟩ = some (.int .i64 t) ∧ W.cell? ⟨w.heap.size, 2, none⟩ = some (.int .i64 u) ∧ W.cell? ⟨w.heap.size, 3, none⟩ = some (.int .i64 r) ∧ W.cell? ⟨w.heap.size, 4, none⟩ = some (.int .i64 c))
    (first | with_reducible exact HS.out _ y5 | with_reducible exact HS.out _ y4 | with_reducible exact HS.out _ y3 | with_reducible exact HS.out _ y2 | with_reducible exact HS.out _ (FrA y4 _) | with_reducible exact HS.out _ (FrA y3 _) | with_reducible exact HS.out _ (FrD w2 _) | with_reducible exact HS.out _ (FrA y5 _) | with_reducible exact HS.out _ (FrS (FrS (FrS y5 _ _ (by dsimp only; omega)) _ _ (by dsimp only; omega)) _ _ (by dsimp only; omega)))
    (first | (go_at_call 15; refine (HKy.out _).mono ?_; rintro e w3 ⟨rfl, q3⟩; have c3 : Chg [] w2 w3 := (by first | exact ((Chg.refl [] w2).drew).trans q3 (by simp) | exact (((Chg.refl [] w2).alloc _).drew).trans q3 (by simp)); have y3 := c3.fr (lo := g.lo) (hi := g.hi) (by simp); have s3 := c3.size; (try have z3 : w3.heap[w2.heap.size]? = some (.cells [.int .i64 0, .int .i64 0, .int .u64 0].toArray 42 (0, 0)) := q3.blk (b := w2.heap.size) (heap_alloc_new w2 _) (by simp))) | (go_at_call 16; refine (HCo.out _).mono ?_; rintro e w4 ⟨rfl, q4⟩; have c4 : Chg [] w2 w4 := (by first | exact c3.trans q4 (by simp) | exact (c3.alloc _).trans q4 (by simp)); have y4 := c4.fr (lo := g.lo) (hi := g.hi) (by simp); have s4 := q4.size; (try have z4 : w4.heap[w2.heap.size]? = some (.cells [.int .i64 0, .int .i64 0, .int .u64 0].toArray 42 (0, 0)) := q4.blk z3 (by simp)); (try have z4 : w4.heap[w3.heap.size]? = some (.cells [.int .i64 0, .int .i64 0, .int .u64 0].toArray 42 (0, 0)) := q4.blk (b := w3.heap.size) (heap_alloc_new w3 _) (by simp))) | (go_at_call 20; refine (HAll.out _ ?_).mono ?_; (first | exact HM.out.chg0 c4 | exact HM.out.chg0 (c4.alloc _)); rintro e w5 ⟨rfl, hm5, f5, i5⟩; have y5 : Fr g.lo g.hi w2 w5 := (by first | exact y4.trans f5 | exact (FrA y4 _).trans f5); have s5 := f5.size; have g5 := y5.blk HG.out (Or.inr (by omega)); have hl5 := lt_of_block g5; have g50 := blk_cell (i := 0) g5 rfl; have g51 := blk_cell (i := 1) g5 rfl; have g52 := blk_cell (i := 2) g5 rfl; have g5f : ∀ i, w5.frozen? ⟨w.heap.size + 1, i, none⟩ = false := fun i => blk_free g5; (try have z5 : w5.heap[w2.heap.size]? = some (.cells [.int .i64 0, .int .i64 0, .int .u64 0].toArray 42 (0, 0)) := f5.blk z4 (Or.inr (by omega))); (try have z5 : w5.heap[w3.heap.size]? = some (.cells [.int .i64 0, .int .i64 0, .int .u64 0].toArray 42 (0, 0)) := f5.blk z4 (Or.inr (by omega))); (try have z5 : w5.heap[w4.heap.size]? = some (.cells [.int .i64 0, .int .i64 0, .int .u64 0].toArray 42 (0, 0)) := f5.blk (b := w4.heap.size) (heap_alloc_new w4 _) (Or.inr (by omega))); try (have z50 := blk_cell (i := 0) z5 rfl; have z51 := blk_cell (i := 1) z5 rfl; have z52 := blk_cell (i := 2) z5 rfl; have z5f := fun i => blk_free (i := i) z5)))
  · go_wp2
    have rr := blk_alloc (blk_set (i := 2) (.int .u64 rt) (blk_set (i := 1) (.int .i64 lv) (blk_set (i := 0) (.int .i64 st) g5))) (.cells #[.int .i64 st, .int .i64 lv, .int .u64 rt] 42)
    have cc : Chg [w.heap.size + 1] w5 _ := ((((Chg.refl [w.heap.size + 1] w5).set ⟨w.heap.size + 1, 0, none⟩ (.int .i64 st) (Or.inl (by simp))).set ⟨w.heap.size + 1, 1, none⟩ (.int .i64 lv) (Or.inl (by simp))).set ⟨w.heap.size + 1, 2, none⟩ (.int .u64 rt) (Or.inl (by simp))).alloc (.cells #[.int .i64 st, .int .i64 lv, .int .u64 rt] 42)
    have hfin : Fr g.hi (w5.heap.size + 1) w5 _ := cc.fr (by intro j hj; simp at hj; omega)
    have hmf := hm5.fr ok hfin (Or.inl (Nat.le_refl _))
    have hff := frx (hf2.trans y5) cc (by intro j hj; simp at hj; omega)
    refine bodyPost_ret (v := .tuple #[.agg #[.int .i64 st, .int .i64 lv, .int .u64 rt], .bool true]) (results_cell2 rfl rfl rfl (load42 rr rfl rfl rfl)) rfl ?_
    rw [HX.out, HD.out]
    exact ⟨rfl, hmf, hff, i5⟩
  · go_wp2
    have rr := blk_set (i := 2) (.int .u64 rt) (blk_set (i := 1) (.int .i64 lv) (blk_set (i := 0) (.int .i64 st) (blk_set_far (k := w4.heap.size) (i := 2) (u := .int .u64 rt) (blk_set_far (k := w4.heap.size) (i := 1) (u := .int .i64 lv) (blk_set_far (k := w4.heap.size) (i := 0) (u := .int .i64 st) (g5) (by omega)) (by omega)) (by omega))))
    have hz := lt_of_block z5
    have cc : Chg [w4.heap.size, w.heap.size + 1] w5 _ := (((((((Chg.refl [w4.heap.size, w.heap.size + 1] w5)).set ⟨w4.heap.size, 0, none⟩ (.int .i64 st) (Or.inl (by simp))).set ⟨w4.heap.size, 1, none⟩ (.int .i64 lv) (Or.inl (by simp))).set ⟨w4.heap.size, 2, none⟩ (.int .u64 rt) (Or.inl (by simp))).set ⟨w.heap.size + 1, 0, none⟩ (.int .i64 st) (Or.inl (by simp))).set ⟨w.heap.size + 1, 1, none⟩ (.int .i64 lv) (Or.inl (by simp))).set ⟨w.heap.size + 1, 2, none⟩ (.int .u64 rt) (Or.inl (by simp))
    have hfin : Fr g.hi (w5.heap.size + 1) w5 _ := cc.fr (by intro j hj; simp at hj; omega)
    have hmf := hm5.fr ok hfin (Or.inl (Nat.le_refl _))
    have hff := frx (hf2.trans y5) cc (by intro j hj; simp at hj; omega)
    refine bodyPost_ret (v := .tuple #[.agg #[.int .i64 st, .int .i64 lv, .int .u64 rt], .bool true]) (results_cell2 rfl rfl rfl (load42 rr rfl rfl rfl)) rfl ?_
    rw [HX.out, HD.out]
    exact ⟨rfl, hmf, hff, i5⟩
  · go_wp2
    have rr := blk_set (i := 2) (.int .u64 rt) (blk_set (i := 1) (.int .i64 lv) (blk_set (i := 0) (.int .i64 st) (blk_set_far (k := w3.heap.size) (i := 2) (u := .int .u64 rt) (blk_set_far (k := w3.heap.size) (i := 1) (u := .int .i64 lv) (blk_set_far (k := w3.heap.size) (i := 0) (u := .int .i64 st) (g5) (by omega)) (by omega)) (by omega))))
    have hz := lt_of_block z5
    have cc : Chg [w3.heap.size, w.heap.size + 1] w5 _ := (((((((Chg.refl [w3.heap.size, w.heap.size + 1] w5)).set ⟨w3.heap.size, 0, none⟩ (.int .i64 st) (Or.inl (by simp))).set ⟨w3.heap.size, 1, none⟩ (.int .i64 lv) (Or.inl (by simp))).set ⟨w3.heap.size, 2, none⟩ (.int .u64 rt) (Or.inl (by simp))).set ⟨w.heap.size + 1, 0, none⟩ (.int .i64 st) (Or.inl (by simp))).set ⟨w.heap.size + 1, 1, none⟩ (.int .i64 lv) (Or.inl (by simp))).set ⟨w.heap.size + 1, 2, none⟩ (.int .u64 rt) (Or.inl (by simp))
    have hfin : Fr g.hi (w5.heap.size + 1) w5 _ := cc.fr (by intro j hj; simp at hj; omega)
    have hmf := hm5.fr ok hfin (Or.inl (Nat.le_refl _))
    have hff := frx (hf2.trans y5) cc (by intro j hj; simp at hj; omega)
    refine bodyPost_ret (v := .tuple #[.agg #[.int .i64 st, .int .i64 lv, .int .u64 rt], .bool true]) (results_cell2 rfl rfl rfl (load42 rr rfl rfl rfl)) rfl ?_
    rw [HX.out, HD.out]
    exact ⟨rfl, hmf, hff, i5⟩
  · go_wp2
    have rr := blk_set (i := 2) (.int .u64 rt) (blk_set (i := 1) (.int .i64 lv) (blk_set (i := 0) (.int .i64 st) (blk_set_far (k := w2.heap.size) (i := 2) (u := .int .u64 rt) (blk_set_far (k := w2.heap.size) (i := 1) (u := .int .i64 lv) (blk_set_far (k := w2.heap.size) (i := 0) (u := .int .i64 st) (g5) (by omega)) (by omega)) (by omega))))
    have hz := lt_of_block z5
    have cc : Chg [w2.heap.size, w.heap.size + 1] w5 _ := (((((((Chg.refl [w2.heap.size, w.heap.size + 1] w5)).set ⟨w2.heap.size, 0, none⟩ (.int .i64 st) (Or.inl (by simp))).set ⟨w2.heap.size, 1, none⟩ (.int .i64 lv) (Or.inl (by simp))).set ⟨w2.heap.size, 2, none⟩ (.int .u64 rt) (Or.inl (by simp))).set ⟨w.heap.size + 1, 0, none⟩ (.int .i64 st) (Or.inl (by simp))).set ⟨w.heap.size + 1, 1, none⟩ (.int .i64 lv) (Or.inl (by simp))).set ⟨w.heap.size + 1, 2, none⟩ (.int .u64 rt) (Or.inl (by simp))
    have hfin : Fr g.hi (w5.heap.size + 1) w5 _ := cc.fr (by intro j hj; simp at hj; omega)
    have hmf := hm5.fr ok hfin (Or.inl (Nat.le_refl _))
    have hff := frx (hf2.trans y5) cc (by intro j hj; simp at hj; omega)
    refine bodyPost_ret (v := .tuple #[.agg #[.int .i64 st, .int .i64 lv, .int .u64 rt], .bool true]) (results_cell2 rfl rfl rfl (load42 rr rfl rfl rfl)) rfl ?_
    rw [HX.out, HD.out]
    exact ⟨rfl, hmf, hff, i5⟩
end Go.Proofs.Ytbdnhllhdjepcaa
