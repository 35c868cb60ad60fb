import Derived.Test.YtbdnhllhdjepcaaIns
namespace Go.Proofs.Ytbdnhllhdjepcaa
set_option linter.unusedVariables false
set_option linter.unusedSimpArgs false
open Go.RowKit Go.Maps

/-! ### lists of structs as cells -/
section
variable {α : Type} {f : α → List Value} {sz : Nat}
theorem fm_len (h : ∀ a, (f a).length = sz) : ∀ l : List α, (l.flatMap f).length = l.length * sz
  | [] => by simp
  | a :: l => by rw [List.flatMap_cons, List.length_append, h, fm_len h l, List.length_cons, Nat.add_mul]; omega
theorem fm_drop (h : ∀ a, (f a).length = sz) : ∀ (l : List α) (k : Nat), (l.flatMap f).drop (k * sz) = (l.drop k).flatMap f
  | l, 0 => by simp
  | [], k + 1 => by simp
  | a :: l, k + 1 => by
    rw [List.flatMap_cons, Nat.add_mul, Nat.one_mul, Nat.add_comm, ← h a, ← List.drop_drop, List.drop_left, h a, fm_drop h l k]
    rfl
theorem fm_take (h : ∀ a, (f a).length = sz) : ∀ (l : List α) (k : Nat), (l.flatMap f).take (k * sz) = (l.take k).flatMap f
  | l, 0 => by simp
  | [], k + 1 => by simp
  | a :: l, k + 1 => by
    rw [List.flatMap_cons, Nat.add_mul, Nat.one_mul, Nat.add_comm, ← h a, List.take_length_add_append, h a, fm_take h l k, List.take_succ_cons, List.flatMap_cons]
theorem fm_at (h : ∀ a, (f a).length = sz) : ∀ (l : List α) (j : Nat) (hj : j < l.length) (i : Nat), i < sz → (l.flatMap f)[j * sz + i]? = (f l[j])[i]?
  | [], j, hj, _, _ => by simp at hj
  | a :: l, 0, _, i, hi => by
    rw [List.flatMap_cons, Nat.zero_mul, Nat.zero_add, List.getElem?_append_left (by rw [h]; exact hi)]
    rfl
  | a :: l, j + 1, hj, i, hi => by
    rw [List.flatMap_cons, List.getElem?_append_right (by rw [h, Nat.add_mul]; omega)]
    have e : (j + 1) * sz + i - (f a).length = j * sz + i := by rw [h, Nat.add_mul]; omega
    rw [e, fm_at h l j (by simpa using hj) i hi]
    rfl
end
/-- a cell of a row -/
theorem Rw.cell {w : World} {e : TypeId} {sz n : Nat} {cs P R : List Value} {b : Nat} (hg : w.heap[b]? = some (.cells (P ++ (cs ++ R)).toArray e (0, 0))) {j : Nat} {u : Value} (hj : cs[j]? = some u) : w.cell? ⟨b, P.length + j, none⟩ = some u := by
  have hjl := (List.getElem?_eq_some_iff.1 hj).1
  refine blk_cell hg ?_
  rw [List.getElem?_append_right (by omega), List.getElem?_append_left (by omega), ← hj]
  congr 1; omega

/-! ### turns -/
def ecl (e : Int × Int) : List Value := [.int .u16 e.1, .int .u64 e.2]
theorem ecl_len (e : Int × Int) : (ecl e).length = 2 := rfl
def ecells (es : List (Int × Int)) : List Value := es.flatMap ecl
def EWf (es : List (Int × Int)) : Prop := ∀ e ∈ es, (Lit.int .u16 e.1).wf = true ∧ (Lit.int .u64 e.2).wf = true
def tk (t : Int) : Lit := .int .u16 t
theorem tk_key (t : Int) : WideAt.IsKeyLit (tk t) := by unfold tk; simp [WideAt.IsKeyLit]
abbrev TOwn (w : World) (xb n : Nat) (D : DW) : Prop := w.ownsMap Try.prog 45 (plainElem Try.prog 40) xb n D
theorem law45 : Keyed Try.prog 45 := int_keyed Try.underlying45
theorem key45 {t : Int} (h : (Lit.int .u16 t).wf = true) : keyOf Try.prog 45 (.int .u16 t) = some (tk t) := keyOf_int_mk Try.underlying45 h
theorem TOwn.look {w : World} {xb n : Nat} {D : DW} (h : TOwn w xb n D) {t : Int} (ht : (Lit.int .u16 t).wf = true) : (Instr.lookup 186 (.map (some xb)) (.int .u16 t) false).run Try.prog w = .ok (.int .u64 (markOf D (tk t))) w ∧ (Lit.int .u64 (markOf D (tk t))).wf = true := by
  obtain ⟨c, h1, h2, h3⟩ := World.ownsMap.lookup_int h law45 Try.underlying186 Try.underlying40 (Try.zeroValue40 _) (key45 ht)
  have e : markOf D (tk t) = c := by unfold markOf; rw [show lu 0 = .lit (.int .u64 0) from rfl, h2]; rfl
  rw [e]; exact ⟨h1, h3⟩
def Keeps (now : Int) (D D' : DW) : Prop := ∀ t, max (markOf D' (tk t)) now = max (markOf D (tk t)) now
theorem Keeps.refl (now : Int) (D : DW) : Keeps now D D := fun _ => rfl
theorem Keeps.trans {now : Int} {D D' D'' : DW} (h : Keeps now D D') (k : Keeps now D' D'') : Keeps now D D'' := fun t => (k t).trans (h t)
theorem keeps_del {now : Int} {D : DW} {t a : Int} (h : markOf D (tk t) = a) (ha : a ≤ now) (h0 : 0 ≤ now) : Keeps now D (D.del (tk t)) := fun t' => by
  by_cases e : t' = t
  · subst e
    rw [h]
    unfold markOf
    rw [atKey_del_same]
    show max 0 now = _
    omega
  · unfold markOf
    rw [atKey_del_other (by unfold tk; simpa using e)]
structure TurnAt (w : World) (tb xb n : Nat) (D : DW) (ov : Value) (es : List (Int × Int)) : Prop where
  blk : w.heap[tb]? = some (.cells [.map (some xb), ov].toArray 189 (0, 0))
  own : TOwn w xb n D
  row : Rw w 191 2 ov es.length (ecells es)
  wf : EWf es
theorem TOwn.ne {w : World} {xb n : Nat} {D : DW} (h : TOwn w xb n D) {b : Nat} {cs : Array Value} {t : TypeId} {fr : Nat × Nat} (hb : w.heap[b]? = some (.cells cs t fr)) : b ≠ xb := fun e => by
  obtain ⟨_, _, hm, _⟩ := h
  rw [e, hm] at hb
  cases hb
theorem Rw.blk {w : World} {e : TypeId} {sz n : Nat} {v : Value} {cs : List Value} (h : Rw w e sz v n cs) {b : Nat} (hb : v.ownBlock = some b) : ∃ xs, w.heap[b]? = some (.cells xs e (0, 0)) := by
  rcases h.2.2 with ⟨rfl, _⟩ | ⟨g, cap, P, R, rfl, hg, _⟩
  · cases hb
  · cases hb; exact ⟨_, hg⟩
theorem TurnAt.chg {w w' : World} {tb xb n : Nat} {D : DW} {ov : Value} {es : List (Int × Int)} {l : List Nat} (h : TurnAt w tb xb n D ov es) (hc : Chg l w w') (h1 : tb ∉ l) (h2 : xb ∉ l) (h3 : ∀ b, ov.ownBlock = some b → b ∉ l) : TurnAt w' tb xb n D ov es :=
  ⟨hc.blk h.blk h1, hc.map h.own h2, h.row.chg hc h3, h.wf⟩

set_option maxRecDepth 100000 in
set_option maxHeartbeats 1000000 in
theorem drop_any (tb xb n : Nat) (D : DW) (ov : Value) (t a : Int) (w : World) (hb : w.heap[tb]? = some (.cells [.map (some xb), ov].toArray 189 (0, 0))) (hm : TOwn w xb n D) (ht : (Lit.int .u16 t).wf = true) :
    Calls Try.prog 97 #[.pointer (some ⟨tb, 0, none⟩), .agg #[.int .u16 t, .int .u64 a]] w fun e w' => e = .returned (.tuple #[]) ∧ ∃ D', TOwn w' xb n D' ∧ Chg [xb] w w' ∧ (D' = D ∨ (D' = D.del (tk t) ∧ markOf D (tk t) = a)) := by
  have hm1 : TOwn (w.alloc (.cells #[.int .u16 t, .int .u64 a] 191)).drew xb n D := hm.alloc _
  have hc1 : Chg [xb] w (w.alloc (.cells #[.int .u16 t, .int .u64 a] 191)).drew := ((Chg.refl _ _).alloc _).drew
  have hlk := (hm1.look ht).1
  have hb1 : ∀ o, (w.alloc o).heap[tb]? = some (.cells [.map (some xb), ov].toArray 189 (0, 0)) := fun o => blk_alloc hb o
  have c0 : ∀ o, (w.alloc o).cell? ⟨tb, 0, none⟩ = some (.map (some xb)) := fun o => blk_cell (i := 0) (hb1 o) rfl
  obtain ⟨w2, hrun, hm2, hturn⟩ := World.ownsMap.drop (w := (w.alloc (.cells #[.int .u16 t, .int .u64 a] 191)).drew.drew) hm1 law45 Try.underlying186 (key45 ht) 0
  have hc2 := hc1.drew.trans (Chg.ofGrown hturn.grown) (by simp)
  have HM1 : Hid (TOwn (w.alloc (.cells #[.int .u16 t, .int .u64 a] 191)).drew xb n D) := hm1
  have HM2 : Hid (TOwn w2 xb n (D.del (tk t))) := hm2
  have HC : Hid (Chg [xb] w (w.alloc (.cells #[.int .u16 t, .int .u64 a] 191)).drew ∧ Chg [xb] w w2) := ⟨hc1, hc2⟩
  clear hm hm1 hm2 hturn hc1 hc2 hb hb1
  generalize hmk : markOf D (tk t) = c at hlk
  have HMK : Hid (markOf D (tk t) = c) := hmk
  clear hmk
  by_cases hca : c = a
  · subst hca
    go_enter Try.func97, Try.ntmps97
    go_wp2_with fail
    go_region
    go_wp2_with fail
    go_region
    go_wp2
    go_end0
    exact ⟨rfl, _, HM2.out, HC.out.2, Or.inr ⟨rfl, by first | exact HMK.out | trivial⟩⟩
  · have hca' : (c == a) = false := by simpa using hca
    go_enter Try.func97, Try.ntmps97
    go_wp2_with fail
    go_region
    go_wp2
    go_end0
    exact ⟨rfl, _, HM1.out, HC.out.1, Or.inl rfl⟩
set_option maxRecDepth 100000 in
theorem of_any (tb xb n : Nat) (D : DW) (ov : Value) (t : Int) (w : World) (hb : w.heap[tb]? = some (.cells [.map (some xb), ov].toArray 189 (0, 0))) (hm : TOwn w xb n D) (ht : (Lit.int .u16 t).wf = true) :
    Calls Try.prog 71 #[.pointer (some ⟨tb, 0, none⟩), .int .u16 t] w fun e w' => e = .returned (.int .u64 (markOf D (tk t))) ∧ w' = w := by
  have hlk := (hm.look ht).1
  have c0 : w.cell? ⟨tb, 0, none⟩ = some (.map (some xb)) := blk_cell (i := 0) hb rfl
  clear hm hb
  go_enter Try.func71, Try.ntmps71
  go_wp2
  go_ret
  exact ⟨rfl, rfl⟩
end Go.Proofs.Ytbdnhllhdjepcaa
