import Derived.Test.YtbdnhllhdjepcaaCalled
namespace Go.Proofs.Ytbdnhllhdjepcaa
set_option linter.unusedVariables false
set_option linter.unusedSimpArgs false
open Go.RowKit Go.Maps

/-! ### two meters that keep step -/
structure Two (w0 w : World) (g1 g2 : St) (s1 s2 : Qs) (now : Int) (Ds : Nat → DW) (k : Nat) : Prop where
  chg : Chg [] w0 w
  f1 : FullAt w g1 s1 now Ds
  f2 : FullAt w g2 s2 now Ds
  ok1 : g1.Ok
  ok2 : g2.Ok
  inv : ∀ i, Inv now (Ds i)
  h0 : 0 ≤ now
  h1 : now ≤ 9223372036854775807
  apart : ∀ b ∈ g1.all s1, b ∉ g2.all s2
  lo1 : ∀ b ∈ g1.all s1, w0.heap.size ≤ b
  lo2 : ∀ b ∈ g2.all s2, w0.heap.size ≤ b
  p : g2.p = g1.p
  sl : g2.sl = g1.sl
  n1 : g1.n = 2
  n2 : g2.n = 2
  e1 : s1.ev = 3 ∧ s1.de = 20 ∧ s1.qu = 5
  e2 : s2.ev = 3 ∧ s2.de = 20 ∧ s2.qu = 5
  ws : s2.ws = s1.ws
  len : s1.ws.length ≤ 5
  wf : IWf s1.ws
  turn : ∀ t, max (markOf s2.D (tk t)) now = max (markOf s1.D (tk t)) now
  c1 : s1.n ≤ k ∧ s1.es.length ≤ k
  c2 : s2.n ≤ k ∧ s2.es.length ≤ k
section
variable {w0 w wa wb : World} {g1 g2 : St} {s1 s2 s1' s2' : Qs} {now now' : Int} {Ds Ds' : Nat → DW} {k : Nat} {a1 a2 : Value}
theorem Two.ms1 (h : Two w0 w g1 g2 s1 s2 now Ds k) (hk : k ≤ 100) : MS g1 s1 now Ds :=
  ⟨h.ok1, h.inv, h.h0, h.h1, by have := h.e1.1; omega, by have := h.e1.2.1; omega, by have := h.len; omega, by have := h.c1.2; omega, by have := h.c1.1; omega, h.wf⟩
theorem Two.ms2 (h : Two w0 w g1 g2 s1 s2 now Ds k) (hk : k ≤ 100) : MS g2 s2 now Ds :=
  ⟨h.ok2, h.inv, h.h0, h.h1, by have := h.e2.1; omega, by have := h.e2.2.1; omega, by rw [h.ws]; have := h.len; omega, by have := h.c2.2; omega, by have := h.c2.1; omega, by rw [h.ws]; exact h.wf⟩
theorem Two.other (h : Two w0 w g1 g2 s1 s2 now Ds k) (x : Stp w wa g1 s1 s1') : FullAt wa g2 s2 now Ds := h.f2.chg x.chg (fun b hb hm => h.apart b hm hb)
theorem Two.chg0 (h : Two w0 w g1 g2 s1 s2 now Ds k) (hc : Chg [] w wa) : Two w0 wa g1 g2 s1 s2 now Ds k :=
  ⟨h.chg.trans hc (by simp), h.f1.chg hc (by simp), h.f2.chg hc (by simp), h.ok1, h.ok2, h.inv, h.h0, h.h1, h.apart, h.lo1, h.lo2, h.p, h.sl, h.n1, h.n2, h.e1, h.e2, h.ws, h.len, h.wf, h.turn, h.c1, h.c2⟩
theorem Two.succ (h : Two w0 w g1 g2 s1 s2 now Ds k) : Two w0 w g1 g2 s1 s2 now Ds (k + 1) :=
  ⟨h.chg, h.f1, h.f2, h.ok1, h.ok2, h.inv, h.h0, h.h1, h.apart, h.lo1, h.lo2, h.p, h.sl, h.n1, h.n2, h.e1, h.e2, h.ws, h.len, h.wf, h.turn, by have := h.c1; omega, by have := h.c2; omega⟩
theorem Two.both (h : Two w0 w g1 g2 s1 s2 now Ds k) (x : Stp w wa g1 s1 s1') (y : Stp wa wb g2 s2 s2') (fa : FullAt wa g1 s1' now' Ds') (fb : FullAt wb g2 s2' now' Ds') (hi : ∀ i, Inv now' (Ds' i)) (h0 : 0 ≤ now') (h1 : now' ≤ 9223372036854775807) (e1 : SameQ s1 s1') (e2 : SameQ s2 s2') (hw : s2'.ws = s1'.ws) (hl : s1'.ws.length ≤ 5) (hwf : IWf s1'.ws) (ht : ∀ t, max (markOf s2'.D (tk t)) now' = max (markOf s1'.D (tk t)) now') (c1 : s1'.n ≤ s1.n + 1 ∧ s1'.es.length ≤ s1.es.length + 1) (c2 : s2'.n ≤ s2.n + 1 ∧ s2'.es.length ≤ s2.es.length + 1) : Two w0 wb g1 g2 s1' s2' now' Ds' (k + 1) := by
  have ap : ∀ b ∈ g1.all s1', b ∉ g2.all s2 := fun b hb hm => by
    rcases x.new b hb with h' | h'
    · exact h.apart b h' hm
    · have := h.f2.lt b hm; omega
  have hs := h.chg.size
  have hs2 := x.chg.size
  refine ⟨(h.chg.trans x.chg (fun j hj => Or.inr (h.lo1 j hj))).trans y.chg (fun j hj => Or.inr (h.lo2 j hj)), fa.chg y.chg ap, fb, h.ok1, h.ok2, hi, h0, h1, fun b hb hm => ?_, fun b hb => ?_, fun b hb => ?_, h.p, h.sl, h.n1, h.n2, ?_, ?_, hw, hl, hwf, ht, by have := h.c1; omega, by have := h.c2; omega⟩
  · rcases y.new b hm with h' | h'
    · exact ap b hb h'
    · have := fa.lt b hb; omega
  · rcases x.new b hb with h' | h'
    · exact h.lo1 b h'
    · omega
  · rcases y.new b hb with h' | h'
    · exact h.lo2 b h'
    · omega
  · rw [e1.ev, e1.de, e1.qu]; exact h.e1
  · rw [e2.ev, e2.de, e2.qu]; exact h.e2
theorem Two.allow (h : Two w0 w g1 g2 s1 s2 now Ds k) {i : Nat} {c t u r : Int} (hc : 1 ≤ c) (x : AllP w wa g1 s1 now Ds i c t u r a1) (y : AllP wa wb g2 s2 now Ds i c t u r a2) : a2 = a1 ∧ ∃ Ds', Two w0 wb g1 g2 s1 s2 now Ds' (k + 1) := by
  obtain ⟨fa, x2, rfl⟩ := x
  obtain ⟨fb, y2, rfl⟩ := y
  rw [h.p, h.sl] at fb
  refine ⟨by rw [h.p, h.sl], _, h.both x2 y2 fa fb (fun j => ?_) h.h0 h.h1 (SameQ.refl _) (SameQ.refl _) h.ws h.len h.wf h.turn (by omega) (by omega)⟩
  by_cases hj : j = i
  · simp only [if_pos hj]
    exact (h.inv i).allow h.ok1.good h.h0 h.h1 hc h.ok1.shi
  · simp only [if_neg hj]
    exact h.inv j
theorem Two.adv (h : Two w0 w g1 g2 s1 s2 now Ds k) {sp : Int} (hsp : 0 ≤ sp) (x : AdvP w wa g1 s1 now Ds sp a1) (y : AdvP wa wb g2 s2 now Ds sp a2) : a2 = a1 ∧ Two w0 wb g1 g2 s1 s2 (min (now + sp) 9223372036854775807) Ds (k + 1) := by
  obtain ⟨fa, x2, rfl⟩ := x
  obtain ⟨fb, y2, rfl⟩ := y
  have h0 := h.h0
  have h1 := h.h1
  refine ⟨rfl, h.both x2 y2 fa fb (fun j => (h.inv j).mono (by omega)) (by omega) (by omega) (SameQ.refl _) (SameQ.refl _) h.ws h.len h.wf (fun t => ?_) (by omega) (by omega)⟩
  have := h.turn t
  omega
theorem Cnt.uniq {ws : List It} {most now : Int} {k k' : Nat} (h : Cnt ws most now k) (h' : Cnt ws most now k') : k' = k := by
  have key : ∀ {a b : Nat}, Cnt ws most now a → Cnt ws most now b → ¬ a < b := fun {a b} ha hb hlt => by
    have h1 := hb.le
    have h2 := hb.lim
    rcases ha.stop with h3 | h3 | ⟨h3, h4⟩
    · omega
    · omega
    · have := hb.due a h3 hlt
      omega
  rcases Nat.lt_trichotomy k k' with h3 | h3 | h3
  · exact absurd h3 (key h h')
  · exact h3.symm
  · exact absurd h3 (key h' h)
theorem Two.poll (h : Two w0 w g1 g2 s1 s2 now Ds k) {most : Int} (x : PolP w wa g1 s1 now Ds most a1) (y : PolP wa wb g2 s2 now Ds most a2) : a2 = a1 ∧ ∃ s1' s2', Two w0 wb g1 g2 s1' s2' now Ds (k + 1) := by
  obtain ⟨s1', k1, fa, x2, x3, x4, x5, x6, x7, x8, rfl⟩ := x
  obtain ⟨s2', k2, fb, y2, y3, y4, y5, y6, y7, y8, rfl⟩ := y
  rw [h.ws] at y8
  have hk := x8.uniq y8
  subst hk
  refine ⟨by rw [h.ws], s1', s2', h.both x2 y2 fa fb h.inv h.h0 h.h1 x3 y3 (by rw [x7, y7, h.ws]) ?_ ?_ (fun t => ?_) ⟨by omega, by rw [x6]; omega⟩ ⟨by omega, by rw [y6]; omega⟩⟩
  · rw [x7, List.length_drop]; have := h.len; omega
  · rw [x7]; exact fun y hy => h.wf y (List.mem_of_mem_drop hy)
  · rw [x5, y5]; exact h.turn t
theorem tup_inj {a b c d : Int} (h : Ending.returned (.tuple #[.int .i64 a, .int .u64 b]) = Ending.returned (.tuple #[.int .i64 c, .int .u64 d])) : a = c ∧ b = d := by
  simpa using h
theorem Two.submit (h : Two w0 w g1 g2 s1 s2 now Ds k) {t x : Int} (ht : 0 ≤ t ∧ t < 65536) (hx : 0 ≤ x ∧ x < 4294967296) (X : SubP w wa g1 s1 now Ds t x a1) (Y : SubP wa wb g2 s2 now Ds t x a2) : a2 = a1 ∧ ∃ s1' s2', Two w0 wb g1 g2 s1' s2' now Ds (k + 1) := by
  obtain ⟨s1', st1, d1, fa, x2, x3, x4, x5, x6, rfl⟩ := X
  obtain ⟨s2', st2, d2, fb, y2, y3, y4, y5, y6, rfl⟩ := Y
  have htn := h.turn t
  obtain ⟨v1, v2, v3⟩ := h.e1
  obtain ⟨u1, u2, u3⟩ := h.e2
  have hws := h.ws
  have hlen := h.len
  have hh0 := h.h0
  have hh1 := h.h1
  unfold Sub at x6 y6
  rw [htn, u1, u2, u3, hws] at y6
  rw [v1, v2, v3] at x6
  rcases x6 with ⟨p1, p2, p3, p4⟩ | ⟨p1, p2, p3, p4, p5⟩ | ⟨p1, p2, p3, p4, p5⟩ <;> rcases y6 with ⟨q1, q2, q3, q4⟩ | ⟨q1, q2, q3, q4, q5⟩ | ⟨q1, q2, q3, q4, q5⟩
  · obtain ⟨rfl, rfl⟩ := tup_inj p2
    obtain ⟨rfl, rfl⟩ := tup_inj q2
    exact ⟨rfl, s1', s2', h.both x2 y2 fa fb h.inv hh0 hh1 x3 y3 (by rw [p3, q3]) (by rw [p3]; exact hlen) (by rw [p3]; exact h.wf) (fun t' => by rw [p4 t', q4 t']; exact h.turn t') ⟨x4, x5⟩ ⟨y4, y5⟩⟩
  · omega
  · omega
  · omega
  · obtain ⟨rfl, rfl⟩ := tup_inj p3
    obtain ⟨rfl, rfl⟩ := tup_inj q3
    exact ⟨rfl, s1', s2', h.both x2 y2 fa fb h.inv hh0 hh1 x3 y3 (by rw [p4, q4]) (by rw [p4]; exact hlen) (by rw [p4]; exact h.wf) (fun t' => by rw [p5 t', q5 t']; exact h.turn t') ⟨x4, x5⟩ ⟨y4, y5⟩⟩
  · omega
  · omega
  · omega
  · obtain ⟨rfl, rfl⟩ := tup_inj p3
    obtain ⟨rfl, rfl⟩ := tup_inj q3
    refine ⟨rfl, s1', s2', h.both x2 y2 fa fb h.inv hh0 hh1 x3 y3 (by rw [p4, q4]) (by rw [p4, ins_len]; omega) ?_ (fun t' => ?_) ⟨x4, x5⟩ ⟨y4, y5⟩⟩
    · rw [p4]
      intro y hy
      rcases mem_ins.1 hy with rfl | hy
      · exact ⟨ht, hx, by dsimp only; omega, by dsimp only; omega⟩
      · exact h.wf y hy
    · rw [p5 t', q5 t']
      split
      · rfl
      · exact h.turn t'
theorem AllP.next {g : St} {s : Qs} {w' : World} {i : Nat} {c t u r : Int} {a : Value} (x : AllP w wa g s now Ds i c t u r a) (hc : Chg [] wa w') : AllP w w' g s now Ds i c t u r a := ⟨x.1.chg hc (by simp), Stp.chain (Chg.refl _ _) x.2.1 hc, x.2.2⟩
theorem AdvP.next {g : St} {s : Qs} {w' : World} {c : Int} {a : Value} (x : AdvP w wa g s now Ds c a) (hc : Chg [] wa w') : AdvP w w' g s now Ds c a := ⟨x.1.chg hc (by simp), Stp.chain (Chg.refl _ _) x.2.1 hc, x.2.2⟩
theorem SubP.next {g : St} {s : Qs} {w' : World} {t y : Int} {a : Value} (x : SubP w wa g s now Ds t y a) (hc : Chg [] wa w') : SubP w w' g s now Ds t y a := by
  obtain ⟨s', st, d, z1, z2, z3⟩ := x
  exact ⟨s', st, d, z1.chg hc (by simp), Stp.chain (Chg.refl _ _) z2 hc, z3⟩
theorem PolP.next {g : St} {s : Qs} {w' : World} {c : Int} {a : Value} (x : PolP w wa g s now Ds c a) (hc : Chg [] wa w') : PolP w w' g s now Ds c a := by
  obtain ⟨s', k', z1, z2, z3⟩ := x
  exact ⟨s', k', z1.chg hc (by simp), Stp.chain (Chg.refl _ _) z2 hc, z3⟩
end
end Go.Proofs.Ytbdnhllhdjepcaa
namespace Go.Proofs.Ytbdnhllhdjepcaa
set_option linter.unusedVariables false
set_option linter.unusedSimpArgs false
open Go.RowKit Go.Maps

/-! ### a round of Told -/
def St2 (w0 w : World) (g1 g2 : St) (k : Nat) : Prop := ∃ s1 s2 now Ds, Two w0 w g1 g2 s1 s2 now Ds k
abbrev wdv (K : Int) (q : Rq) (x : Int) (tx : ByteArray) : Value := .agg #[.int .i64 K, .int .i64 q.a, .int .i64 q.t, .int .i64 q.u, .int .i64 q.r, .int .i64 q.c, .int .u32 x, .string tx]
/-- what the call tells behind a command's answer -/
def Then2 (w0 : World) (g1 g2 : St) (k : Nat) (v : Value) (t : ByteArray) (w : World) : Prop := ∀ W, Chg [] w W → Calls Try.prog 29 #[.pointer (some ⟨g2.mb, 0, none⟩), v] W fun e w' => e = .returned (.tuple #[.string t, .bool true]) ∧ St2 w0 w' g1 g2 (k + 1)
/-- what lies behind a world's blocks is kept -/
def Kp (w W w' : World) : Prop := ∀ (b : Nat) (o : Obj), w.heap.size ≤ b → W.heap[b]? = some o → w'.heap[b]? = some o
/-- what a command does -/
def Then1 (w0 wr : World) (g1 g2 : St) (k : Nat) (v : Value) (c : ByteArray) (w : World) : Prop := ∀ W, Chg [] w W → Calls Try.prog 27 #[.pointer (some ⟨g1.mb, 0, none⟩), .string c] W fun e w' => ∃ t : ByteArray, e = .returned (.string t) ∧ Kp wr W w' ∧ Then2 w0 g1 g2 k v t w'
section
variable {w0 w W0 : World} {g1 g2 : St} {k : Nat} {q : Rq} {x : Int} {tx : ByteArray}
theorem St2.chg0 {wa : World} (h : St2 w0 w g1 g2 k) (hc : Chg [] w wa) : St2 w0 wa g1 g2 k := by
  obtain ⟨s1, s2, now, Ds, h⟩ := h
  exact ⟨s1, s2, now, Ds, h.chg0 hc⟩
theorem Two.kp {s1 s2 s' : Qs} {now : Int} {Ds : Nat → DW} {W w' : World} (h : Two w0 w g1 g2 s1 s2 now Ds k) (x : Stp W w' g1 s1 s') : Kp w W w' := fun b o hb ho => x.chg.blk ho (fun hm => by have := h.f1.lt b hm; omega)
theorem St2.chg (h : St2 w0 w g1 g2 k) : Chg [] w0 w := by
  obtain ⟨s1, s2, now, Ds, h⟩ := h
  exact h.chg
theorem St2.succ (h : St2 w0 w g1 g2 k) : St2 w0 w g1 g2 (k + 1) := by
  obtain ⟨s1, s2, now, Ds, h⟩ := h
  exact ⟨s1, s2, now, Ds, h.succ⟩
theorem St2.kind1 (h : St2 w0 w g1 g2 k) (hk : k < 100) (hq : q.Ok) (hx : 0 ≤ x ∧ x < 4294967296) (h0 : Chg [] w W0) : Calls Try.prog 28 #[wdv 1 q x tx] W0 fun e w1 => ∃ c : ByteArray, e = .returned (.string c) ∧ Chg [] W0 w1 ∧ Then1 w0 w g1 g2 k (wdv 1 q x tx) c w1 := by
  obtain ⟨s1, s2, now, Ds, h⟩ := h
  have bt := pk_bd q.t 3 (by decide)
  have bc := pk_bd q.c 4 (by decide)
  have hi : pk q.t 3 % ((2 : Nat) : Int) = (((pk q.t 3 % 2).toNat : Nat) : Int) := by omega
  refine (command1 q x tx W0 hq hx).mono ?_
  rintro e w1 ⟨rfl, hc⟩
  refine ⟨_, rfl, hc, fun W hW => ?_⟩
  have T := h.chg0 ((h0.trans hc (by simp)).trans hW (by simp))
  refine (Do1 (sv (1 :: cmd1 q)) (1 + pk q.c 4) (pk q.t 3) (pk q.u 2) (pk q.r 2) 0 0 0 0 (pk q.t 3 % 2).toNat T.f1 (T.ms1 (by omega)) (fun W' => ?_) (by rw [T.n1]; exact hi) (by omega) (by omega) (wf16 (by decide) (by decide)) (wf16 (by decide) (by decide)) (wf16 (by decide) (by decide))).mono ?_
  · have := read_cons 1 (cmd1 q) W' (by simp [cmd1, be_len])
    rw [rd_cmd1] at this
    exact this
  rintro e w2 ⟨a, rfl, X⟩
  obtain ⟨l, hl⟩ : ∃ l, a = sv l := ⟨_, X.2.2⟩
  subst hl
  refine ⟨_, rfl, h.kp X.2.1, fun W2 h2 => ?_⟩
  have X' := X.next h2
  refine (called1 g2 s2 now Ds q x tx W2 (T.other X'.2.1) (T.ms2 (by omega)) hq hx (pk q.t 3 % 2).toNat (by rw [T.n2]; exact hi)).mono ?_
  rintro e w3 ⟨a2, rfl, Y⟩
  obtain ⟨rfl, Ds', T'⟩ := T.allow (by omega) X' Y
  exact ⟨rfl, _, _, _, _, T'⟩
theorem St2.kind2 (h : St2 w0 w g1 g2 k) (hk : k < 100) (hq : q.Ok) (hx : 0 ≤ x ∧ x < 4294967296) (h0 : Chg [] w W0) : Calls Try.prog 28 #[wdv 2 q x tx] W0 fun e w1 => ∃ c : ByteArray, e = .returned (.string c) ∧ Chg [] W0 w1 ∧ Then1 w0 w g1 g2 k (wdv 2 q x tx) c w1 := by
  obtain ⟨s1, s2, now, Ds, h⟩ := h
  have bt := pk_bd q.t 3 (by decide)
  refine (command2 q x tx W0 hq hx).mono ?_
  rintro e w1 ⟨rfl, hc⟩
  refine ⟨_, rfl, hc, fun W hW => ?_⟩
  have T := h.chg0 ((h0.trans hc (by simp)).trans hW (by simp))
  refine (Do2 (sv (2 :: cmd2 q x)) (pk q.t 3) x 0 0 0 0 0 0 T.f1 (T.ms1 (by omega)) (fun W' => ?_) (wf16 (by decide) (by decide))).mono ?_
  · have := read_cons 2 (cmd2 q x) W' (by simp [cmd2, be_len])
    rw [rd_cmd2 q x hx] at this
    exact this
  rintro e w2 ⟨a, rfl, X⟩
  obtain ⟨l, hl⟩ : ∃ l, a = sv l := by
    obtain ⟨_, _, _, _, _, _, _, _, _, z⟩ := X
    exact ⟨_, z⟩
  subst hl
  have hst0 : ∃ s', Stp W w2 g1 s1 s' := by
    obtain ⟨s', _, _, _, z, _⟩ := X
    exact ⟨s', z⟩
  refine ⟨_, rfl, hst0.elim fun _ z => h.kp z, fun W2 h2 => ?_⟩
  have X' := X.next h2
  have hst : ∃ s', Stp W W2 g1 s1 s' := by
    obtain ⟨s', _, _, _, z, _⟩ := X'
    exact ⟨s', z⟩
  obtain ⟨s', z⟩ := hst
  refine (called2 g2 s2 now Ds q x tx W2 (T.other z) (T.ms2 (by omega)) hq hx).mono ?_
  rintro e w3 ⟨a2, rfl, Y⟩
  obtain ⟨rfl, _, _, T'⟩ := T.submit (by omega) hx X' Y
  exact ⟨rfl, _, _, _, _, T'⟩
theorem St2.kind3 (h : St2 w0 w g1 g2 k) (hk : k < 100) (hq : q.Ok) (hx : 0 ≤ x ∧ x < 4294967296) (h0 : Chg [] w W0) : Calls Try.prog 28 #[wdv 3 q x tx] W0 fun e w1 => ∃ c : ByteArray, e = .returned (.string c) ∧ Chg [] W0 w1 ∧ Then1 w0 w g1 g2 k (wdv 3 q x tx) c w1 := by
  obtain ⟨s1, s2, now, Ds, h⟩ := h
  have bc := pk_bd q.c 4 (by decide)
  refine (command3 q x tx W0 hq hx).mono ?_
  rintro e w1 ⟨rfl, hc⟩
  refine ⟨_, rfl, hc, fun W hW => ?_⟩
  have T := h.chg0 ((h0.trans hc (by simp)).trans hW (by simp))
  refine (Do3 (sv (3 :: cmd3 q)) (pk q.c 4) 0 0 0 0 0 0 0 T.f1 (T.ms1 (by omega)) (fun W' => ?_) (by omega) (by omega)).mono ?_
  · have := read_cons 3 (cmd3 q) W' (by simp [cmd3, be_len])
    rw [rd_cmd3] at this
    exact this
  rintro e w2 ⟨a, rfl, X⟩
  obtain ⟨l, hl⟩ : ∃ l, a = sv l := by
    obtain ⟨_, _, _, _, _, _, _, _, _, _, z⟩ := X
    exact ⟨_, z⟩
  subst hl
  have hst0 : ∃ s', Stp W w2 g1 s1 s' := by
    obtain ⟨s', _, _, z, _⟩ := X
    exact ⟨s', z⟩
  refine ⟨_, rfl, hst0.elim fun _ z => h.kp z, fun W2 h2 => ?_⟩
  have X' := X.next h2
  have hst : ∃ s', Stp W W2 g1 s1 s' := by
    obtain ⟨s', _, _, z, _⟩ := X'
    exact ⟨s', z⟩
  obtain ⟨s', z⟩ := hst
  refine (called3 g2 s2 now Ds q x tx W2 (T.other z) (T.ms2 (by omega)) hq hx).mono ?_
  rintro e w3 ⟨a2, rfl, Y⟩
  obtain ⟨rfl, _, _, T'⟩ := T.poll X' Y
  exact ⟨rfl, _, _, _, _, T'⟩
theorem St2.kind4 (h : St2 w0 w g1 g2 k) (hk : k < 100) (hq : q.Ok) (hx : 0 ≤ x ∧ x < 4294967296) (h0 : Chg [] w W0) : Calls Try.prog 28 #[wdv 4 q x tx] W0 fun e w1 => ∃ c : ByteArray, e = .returned (.string c) ∧ Chg [] W0 w1 ∧ Then1 w0 w g1 g2 k (wdv 4 q x tx) c w1 := by
  obtain ⟨s1, s2, now, Ds, h⟩ := h
  have ba := pk_bd q.a 30 (by decide)
  refine (command4 q x tx W0 hq hx).mono ?_
  rintro e w1 ⟨rfl, hc⟩
  refine ⟨_, rfl, hc, fun W hW => ?_⟩
  have T := h.chg0 ((h0.trans hc (by simp)).trans hW (by simp))
  refine (Do4 (sv (4 :: cmd4 q)) (pk q.a 30) 0 0 0 0 0 0 0 T.f1 (T.ms1 (by omega)) (fun W' => ?_) (by omega) (by omega)).mono ?_
  · have := read_cons 4 (cmd4 q) W' (by simp [cmd4, be_len])
    rw [rd_cmd4] at this
    exact this
  rintro e w2 ⟨a, rfl, X⟩
  obtain ⟨l, hl⟩ : ∃ l, a = sv l := ⟨_, X.2.2⟩
  subst hl
  refine ⟨_, rfl, h.kp X.2.1, fun W2 h2 => ?_⟩
  have X' := X.next h2
  refine (called4 g2 s2 now Ds q x tx W2 (T.other X'.2.1) (T.ms2 (by omega)) hq hx).mono ?_
  rintro e w3 ⟨a2, rfl, Y⟩
  obtain ⟨rfl, T'⟩ := T.adv (by omega) X' Y
  exact ⟨rfl, _, _, _, _, T'⟩
theorem St2.kind (K : Int) (h14 : 1 ≤ K ∧ K ≤ 4) (h : St2 w0 w g1 g2 k) (hk : k < 100) (hq : q.Ok) (hx : 0 ≤ x ∧ x < 4294967296) (h0 : Chg [] w W0) : Calls Try.prog 28 #[wdv K q x tx] W0 fun e w1 => ∃ c : ByteArray, e = .returned (.string c) ∧ Chg [] W0 w1 ∧ Then1 w0 w g1 g2 k (wdv K q x tx) c w1 := by
  have : K = 1 ∨ K = 2 ∨ K = 3 ∨ K = 4 := by omega
  rcases this with rfl | rfl | rfl | rfl
  · exact h.kind1 hk hq hx h0
  · exact h.kind2 hk hq hx h0
  · exact h.kind3 hk hq hx h0
  · exact h.kind4 hk hq hx h0
theorem St2.refuse (h : St2 w0 w g1 g2 k) (hk : k < 100) (T : Value) (t u r c n x m sp : Int) (hrd : ∀ W, Calls Try.prog 45 #[T] W fun e w' => e = .returned (.agg #[.int .i64 0, .int .u16 t, .int .u16 u, .int .u16 r, .int .i64 c, .int .u16 n, .int .u32 x, .int .i64 m, .int .u64 sp]) ∧ Chg [] W w') :
    Calls Try.prog 27 #[.pointer (some ⟨g1.mb, 0, none⟩), T] w fun e w' => e = .returned (sv [255]) ∧ St2 w0 w' g1 g2 (k + 1) := by
  obtain ⟨s1, s2, now, Ds, h⟩ := h
  refine (Do0 T t u r c n x m sp h.f1 (h.ms1 (by omega)) hrd).mono ?_
  rintro e w2 ⟨a, rfl, X⟩
  obtain ⟨fa, z, rfl⟩ := X
  exact ⟨rfl, s1, s2, now, Ds, h.both z (Stp.mb (Chg.refl _ _)) fa (h.other z) h.inv h.h0 h.h1 (SameQ.refl _) (SameQ.refl _) h.ws h.len h.wf h.turn (by omega) (by omega)⟩
theorem St2.text (h : St2 w0 w g1 g2 k) (hk : k < 100) (hs : tx.size ≤ 9223372036854775807) : Calls Try.prog 30 #[.string tx] w fun e w1 => ∃ o : Bool, e = .returned (.bool o) ∧ Chg [] w w1 ∧ (o = false → ∀ W, Chg [] w1 W → Calls Try.prog 27 #[.pointer (some ⟨g1.mb, 0, none⟩), .string tx] W fun e w2 => e = .returned (sv [255]) ∧ St2 w0 w2 g1 g2 (k + 1)) := by
  obtain ⟨l, rfl⟩ : ∃ l : List UInt8, tx = ⟨l.toArray⟩ := ⟨tx.data.toList, by cases tx; simp⟩
  rw [ba_size] at hs
  cases l with
  | nil =>
    refine (is_nil w).mono ?_
    rintro e w1 ⟨rfl, rfl⟩
    exact ⟨false, rfl, Chg.refl _ _, fun _ W hW => (h.chg0 hW).refuse hk _ 0 0 0 0 0 0 0 0 read_nil⟩
  | cons b l =>
    have hl : l.length ≤ 9223372036854775806 := by simp at hs; omega
    refine (is_cons b l w hl).mono ?_
    rintro e w1 ⟨rfl, hc⟩
    refine ⟨_, rfl, hc, fun ho W hW => ?_⟩
    have hr := fun W => read_cons b l W hl
    generalize rd b l = C at hr ho
    obtain ⟨ck, ct, cu, cr, cc, cn, cx, cm, cs⟩ := C
    have hz : ck = 0 := by simpa using ho
    subst hz
    exact (h.chg0 (hc.trans hW (by simp))).refuse hk _ ct cu cr cc cn cx cm cs hr
theorem St2.now (h : St2 w0 w g1 g2 k) : ∃ now : Int, Calls Try.prog 31 #[.pointer (some ⟨g1.mb, 0, none⟩)] w fun e w1 => e = .returned (.int .u64 now) ∧ ∀ W, Chg [] w1 W → Calls Try.prog 31 #[.pointer (some ⟨g2.mb, 0, none⟩)] W fun e w2 => e = .returned (.int .u64 now) ∧ Chg [] w0 w2 := by
  obtain ⟨s1, s2, now, Ds, h⟩ := h
  refine ⟨now, (FNow h.f1).mono ?_⟩
  rintro e w1 ⟨rfl, hc⟩
  refine ⟨rfl, fun W hW => (FNow (h.f2.chg (hc.trans hW (by simp)) (by simp))).mono ?_⟩
  rintro e w2 ⟨rfl, hc2⟩
  exact ⟨rfl, ((h.chg.trans hc (by simp)).trans hW (by simp)).trans hc2 (by simp)⟩
end

/-! ### two new meters -/
structure NewF (w w' : World) (g : St) (s : Qs) (p : Pln) : Prop where
  f : FullAt w' g s 0 (fun _ => .map [])
  ok : g.Ok
  lo : ∀ b ∈ g.all s, w.heap.size ≤ b
  chg : Chg [] w w'
  p : g.p = p
  sl : g.sl = 5
  n : g.n = 2
  e : s.ev = 3 ∧ s.de = 20 ∧ s.qu = 5
  ws : s.ws = []
  D : s.D = .map []
  es : s.es = []
  n0 : s.n = 0
theorem newF_of {w w' : World} {mb : Nat} {p : Pln} {ab qb tb xb pb ob : Nat} {sd : List (Nat × Nat)} (h : MtrNew w w' mb 2 5 p 3 20 5 ab qb tb xb pb ob sd) (hg : ∀ L l, Good (p.at_ L l)) :
    NewF w w' ⟨w.heap.size, w'.heap.size, mb, ab, 2, qb, pb, ob, sd, 5, p⟩ ⟨qb, tb, xb, 0, 3, 20, 5, .map [], .slice none 0 0, [], .slice none 0 0, []⟩ p := by
  have a := isNew_of h (by decide) (by decide) (by decide) (by decide) hg
  have b := isNewQ_of h
  refine ⟨⟨a.2.1, b.at_, rfl, h.xbo, h.xbd⟩, a.1, fun c hc => ?_, h.chg, rfl, rfl, rfl, ⟨rfl, rfl, rfl⟩, rfl, rfl, rfl, rfl⟩
  simp only [St.all, List.mem_append, List.mem_cons, List.not_mem_nil, or_false, List.mem_map] at hc
  rcases hc with (((rfl | rfl | rfl | rfl) | ⟨x, hx, rfl⟩) | ⟨x, hx, rfl⟩) | hc
  · exact h.mlo
  · exact h.alo
  · exact h.plo
  · exact h.olo
  · exact (h.shards x hx).2.2.1
  · exact (h.shards x hx).2.2.2
  · exact b.fp c hc
theorem NewF.pre {w w0 w' : World} {g : St} {s : Qs} {p : Pln} (h : NewF w0 w' g s p) (hc : Chg [] w w0) : NewF w w' g s p :=
  ⟨h.f, h.ok, fun b hb => Nat.le_trans hc.size (h.lo b hb), hc.trans h.chg (by simp), h.p, h.sl, h.n, h.e, h.ws, h.D, h.es, h.n0⟩
theorem NewF.two {w w1 w2 w3 : World} {g1 g2 : St} {s1 s2 : Qs} {p : Pln} (h1 : NewF w w1 g1 s1 p) (hc : Chg [] w1 w2) (h2 : NewF w2 w3 g2 s2 p) : St2 w w3 g1 g2 0 := by
  have hs1 := h1.chg.size
  have hs2 := hc.size
  have h13 : Chg [] w1 w3 := hc.trans h2.chg (by simp)
  exact ⟨s1, s2, 0, fun _ => .map [], h1.chg.trans h13 (by simp), h1.f.chg h13 (by simp), h2.f, h1.ok, h2.ok, fun _ => Inv.empty, by decide, by decide, fun b hb hm => by have := h1.f.lt b hb; have := h2.lo b hm; omega, h1.lo, fun b hb => by have := h2.lo b hb; omega, by rw [h1.p, h2.p], by rw [h1.sl, h2.sl], h1.n, h2.n, h1.e, h2.e, by rw [h1.ws, h2.ws], by rw [h1.ws]; simp, fun y hy => by rw [h1.ws] at hy; simp at hy, fun t => by rw [h1.D, h2.D], ⟨Nat.le_of_eq h1.n0, by rw [h1.es]; simp⟩, ⟨Nat.le_of_eq h2.n0, by rw [h2.es]; simp⟩⟩
set_option maxRecDepth 100000 in
set_option maxHeartbeats 1000000 in
theorem freshf_any (c0 p0 b0 c1 p1 b1 c2 p2 b2 : Int) (w : World) (hq0 : QOk c0 p0 b0) (hq1 : QOk c1 p1 b1) (hq2 : QOk c2 p2 b2) :
    Calls Try.prog 12 #[.agg #[.int .i64 c0, .int .i64 p0, .int .i64 b0, .int .i64 c1, .int .i64 p1, .int .i64 b1, .int .i64 c2, .int .i64 p2, .int .i64 b2, .slice none 0 0, .int .i64 2, .int .i64 5, .int .i64 3, .int .i64 20, .int .i64 5]] w fun e w' => ∃ g s, e = .returned (.tuple #[.pointer (some ⟨g.mb, 0, none⟩), .bool true]) ∧ NewF w w' g s ⟨ivl c0 p0, b0, ivl c1 p1, b1, ivl c2 p2, b2, .map []⟩ := by
  go_enter Try.func12, Try.ntmps12
  go_wp2_with fail
  refine (New_nil c0 p0 b0 c1 p1 b1 c2 p2 b2 5 3 20 5 2 _ hq0 hq1 hq2 (by decide) (by decide) (by decide) (by decide) (by decide) (by decide) (by decide) (by decide) (by decide) (by decide)).mono ?_
  rintro e w' ⟨mb, ab, qb, tb, xb, pb, ob, sd, rfl, h⟩
  have hg : Hid (NewF w w' _ _ _) := (newF_of h (good_of hq0 hq1 hq2)).pre ((Chg.refl _ _).alloc _)
  clear h
  go_wp2
  go_ret2
  exact ⟨_, _, rfl, hg.out⟩

/-! ### the words that came in -/
structure Wd where
  k : Int
  q : Rq
  x : Int
  tx : ByteArray
def Wd.Ok (d : Wd) : Prop := I64 d.k ∧ d.q.Ok ∧ (0 ≤ d.x ∧ d.x < 4294967296) ∧ d.tx.size ≤ 9223372036854775807
def WdAt (w : World) (b o : Nat) (d : Wd) : Prop := w.cell? ⟨b, o, none⟩ = some (.int .i64 d.k) ∧ w.cell? ⟨b, o + 1, none⟩ = some (.int .i64 d.q.a) ∧ w.cell? ⟨b, o + 2, none⟩ = some (.int .i64 d.q.t) ∧ w.cell? ⟨b, o + 3, none⟩ = some (.int .i64 d.q.u) ∧ w.cell? ⟨b, o + 4, none⟩ = some (.int .i64 d.q.r) ∧ w.cell? ⟨b, o + 5, none⟩ = some (.int .i64 d.q.c) ∧ w.cell? ⟨b, o + 6, none⟩ = some (.int .u32 d.x) ∧ w.cell? ⟨b, o + 7, none⟩ = some (.string d.tx)
end Go.Proofs.Ytbdnhllhdjepcaa
