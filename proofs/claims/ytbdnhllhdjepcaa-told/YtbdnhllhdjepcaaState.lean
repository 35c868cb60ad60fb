import Derived.Test.YtbdnhllhdjepcaaMake
namespace Go.Proofs.Ytbdnhllhdjepcaa
set_option linter.unusedVariables false
set_option linter.unusedSimpArgs false
open Go.RowKit Go.Maps Go.MuLone Go.RwLone

/-! ### bounds on a map of marks -/
/-- it is a map; no mark is above B -/
def LeB (B : Int) (D : DW) : Prop := ∃ es, D = .map es ∧ ∀ p ∈ es, 0 ≤ num p.2 ∧ num p.2 ≤ B
theorem LeB.empty (B : Int) : LeB B (.map []) := ⟨[], rfl, by simp⟩
theorem LeB.mono {B B' : Int} {D : DW} (h : LeB B D) (hb : B ≤ B') : LeB B' D := by
  obtain ⟨es, rfl, h⟩ := h
  exact ⟨es, rfl, fun p hp => ⟨(h p hp).1, Int.le_trans (h p hp).2 hb⟩⟩
theorem LeB.fgt {B : Int} {D : DW} (h : LeB B D) (now : Int) : LeB B (fgt now D) := by
  obtain ⟨es, rfl, h⟩ := h
  exact ⟨_, rfl, fun p hp => h p (List.mem_filter.1 hp).1⟩
theorem LeB.put {B : Int} {D : DW} (h : LeB B D) (k : Lit) {x : Int} (h0 : 0 ≤ x) (hx : x ≤ B) : LeB B (D.put k (lu x)) := by
  obtain ⟨es, rfl, h⟩ := h
  refine ⟨_, rfl, fun p hp => ?_⟩
  rcases ChangeMaps.mem_insert_iff.1 hp with rfl | hp
  · exact ⟨h0, hx⟩
  · exact h p (List.mem_filter.1 hp).1
theorem LeB.mark {B : Int} {D : DW} (h : LeB B D) (hB : 0 ≤ B) (l : Lit) : 0 ≤ markOf D l ∧ markOf D l ≤ B := by
  obtain ⟨es, rfl, h⟩ := h
  unfold markOf
  simp only [DataW.atKey]
  cases hf : es.find? (fun p => p.1.sameKey l) with
  | none => exact ⟨Int.le_refl 0, hB⟩
  | some p => exact h p (List.mem_of_find?_eq_some hf)
theorem size_put_le (D : DW) (k : Lit) (d : DW) : Maps.size (D.put k d) ≤ Maps.size D + (if Maps.has D k then 0 else 1) := by
  cases D with
  | map es =>
    by_cases h : Maps.has (.map es) k = true
    · rw [if_pos h]
      simp only [DataW.put, Maps.size, length_insert]
      rw [Maps.has_eq] at h
      have : (es.filter fun p => !p.1.sameKey k).length < es.length := by
        rw [List.any_eq_true] at h
        obtain ⟨p, hp, hs⟩ := h
        have h1 := List.length_filter_le (fun p => !p.1.sameKey k) es
        rcases Nat.lt_or_ge (es.filter fun p => !p.1.sameKey k).length es.length with h2 | h2
        · exact h2
        · have h3 : (es.filter fun p => !p.1.sameKey k).length = es.length := by omega
          rw [List.length_filter_eq_length_iff] at h3
          have := h3 p hp
          simp [hs] at this
      omega
    · rw [if_neg h]
      simp only [DataW.put, Maps.size, length_insert]
      have := List.length_filter_le (fun p => !p.1.sameKey k) es
      omega
  | _ => simp [DataW.put, Maps.size]
theorem size_putTo (D : DW) (t u r a b c : Int) : Maps.size (putTo D t u r a b c 3) ≤ Maps.size D + 3 := by
  have h1 := size_put_le D (kl 0 t 0 0) (lu a)
  have h2 := size_put_le (D.put (kl 0 t 0 0) (lu a)) (kl 1 t u 0) (lu b)
  have h3 := size_put_le ((D.put (kl 0 t 0 0) (lu a)).put (kl 1 t u 0) (lu b)) (kl 2 t u r) (lu c)
  show Maps.size (((D.put (kl 0 t 0 0) (lu a)).put (kl 1 t u 0) (lu b)).put (kl 2 t u r) (lu c)) ≤ _
  split at h1 <;> split at h2 <;> split at h3 <;> omega

/-- what holds of a shard's marks at a time -/
structure Inv (now : Int) (D : DW) : Prop where
  le : LeB (now + 4611686018427387904) D
  size : Maps.size D ≤ 70
theorem Inv.empty {now : Int} : Inv now (.map []) := ⟨LeB.empty _, by simp [Maps.size]⟩
theorem Inv.mono {now now' : Int} {D : DW} (h : Inv now D) (hn : now ≤ now') : Inv now' D := ⟨h.le.mono (by omega), h.size⟩
theorem Inv.fgt {now now' : Int} {D : DW} (h : Inv now D) : Inv now (fgt now' D) := ⟨h.le.fgt _, Nat.le_trans (size_fgt _ _) h.size⟩
theorem Inv.mark {now now' : Int} {D : DW} (h : Inv now D) (h0 : 0 ≤ now) (h1 : now ≤ 9223372036854775807) (l : Lit) : markOf (Go.Proofs.Ytbdnhllhdjepcaa.fgt now' D) l ≤ 13835058055282163711 :=
  Int.le_trans ((h.fgt (now' := now')).le.mark (by omega) l).2 (by omega)

theorem repTo_ok {f : Nat → Int × Int} (hf : ∀ j, 0 ≤ (f j).2) (h : (repTo f 3).1 = 0) : ∀ j, j < 3 → (f j).2 = 0 := by
  have key : ∀ k, (repTo f k).1 = 0 → ∀ j, j < k → (f j).2 = 0 := by
    intro k
    induction k with
    | zero => intro _ j hj; omega
    | succ k ih =>
      intro hk j hj
      unfold repTo at hk
      by_cases h0 : (f k).2 = 0
      · rw [if_pos h0] at hk
        rcases Nat.lt_or_ge j k with h' | h'
        · exact ih hk j h'
        · have : j = k := by omega
          rw [this]; exact h0
      · rw [if_neg h0] at hk
        by_cases h1 : (repTo f k).1 = 0
        · rw [if_pos h1] at hk; simp at hk
        · rw [if_neg h1] at hk; exact absurd hk h1
  exact key 3 h

/-- a request keeps the bounds -/
theorem Inv.allow {now : Int} {D : DW} (h : Inv now D) {p : Pln} {slots cost t u r : Int} (hgd : ∀ L l, Good (p.at_ L l)) (h0 : 0 ≤ now) (h1 : now ≤ 9223372036854775807) (hc : 1 ≤ cost) (hs : slots ≤ 64) : Inv now (allowD p slots D now cost t u r).2 := by
  unfold allowD
  by_cases hroom : (Maps.size (Go.Proofs.Ytbdnhllhdjepcaa.fgt now D) : Int) + miss (Go.Proofs.Ytbdnhllhdjepcaa.fgt now D) t u r 3 ≤ slots
  · rw [if_pos hroom]
    have hb : ∀ j, _ := fun j => ask_bd (mark := markOf (Go.Proofs.Ytbdnhllhdjepcaa.fgt now D) (plk t u r j)) (hgd j (plk t u r j)).1 (hgd j (plk t u r j)).2.1 (hgd j (plk t u r j)).2.2 ((h.fgt (now' := now)).le.mark (by omega) _).1 (h.mark h0 h1 _) h0 h1 hc
    by_cases hrep : (repTo (askAt p (Go.Proofs.Ytbdnhllhdjepcaa.fgt now D) now cost t u r) 3).1 = 0
    · rw [if_pos hrep]
      have hz := repTo_ok (f := askAt p (Go.Proofs.Ytbdnhllhdjepcaa.fgt now D) now cost t u r) (fun j => (hb j).2.2.1) hrep
      have hl : ∀ j, j < 3 → (askAt p (Go.Proofs.Ytbdnhllhdjepcaa.fgt now D) now cost t u r j).1 ≤ now + 4611686018427387904 := fun j hj => ((hb j).2.2.2.2 (hz j hj)).1
      refine ⟨(((h.le.fgt now).put _ (hb 0).1 (hl 0 (by omega))).put _ (hb 1).1 (hl 1 (by omega))).put _ (hb 2).1 (hl 2 (by omega)), ?_⟩
      have h2 := size_putTo (Go.Proofs.Ytbdnhllhdjepcaa.fgt now D) t u r (askAt p (Go.Proofs.Ytbdnhllhdjepcaa.fgt now D) now cost t u r 0).1 (askAt p (Go.Proofs.Ytbdnhllhdjepcaa.fgt now D) now cost t u r 1).1 (askAt p (Go.Proofs.Ytbdnhllhdjepcaa.fgt now D) now cost t u r 2).1
      have h3 := miss_bd (Go.Proofs.Ytbdnhllhdjepcaa.fgt now D) t u r 3
      dsimp only
      omega
    · rw [if_neg hrep]
      exact h.fgt
  · rw [if_neg hroom]
    exact h.fgt

theorem fgt_fgt {a b : Int} (h : a ≤ b) (D : DW) : fgt b (fgt a D) = fgt b D := by
  cases D with
  | map es =>
    simp only [fgt, List.filter_filter]
    congr 1
    refine List.filter_congr fun p _ => ?_
    by_cases h1 : b < num p.2
    · simp [h1, show a < num p.2 from by omega]
    · simp [h1]
  | _ => rfl
theorem allowD_fgt {a now : Int} (h : a ≤ now) (p : Pln) (slots : Int) (D D' : DW) (cost t u r : Int) (he : fgt a D = fgt a D') : allowD p slots D now cost t u r = allowD p slots D' now cost t u r := by
  have : fgt now D = fgt now D' := by rw [← fgt_fgt h D, ← fgt_fgt h D', he]
  unfold allowD
  rw [this]

/-! ### a meter in memory -/
/-- the names of a meter's blocks; all lie from lo on, below hi -/
structure St where
  lo : Nat
  hi : Nat
  mb : Nat
  ab : Nat
  n : Nat
  qb : Nat
  pb : Nat
  ob : Nat
  sd : List (Nat × Nat)
  sl : Int
  p : Pln
/-- what holds of the names -/
structure St.Ok (g : St) : Prop where
  len : g.sd.length = g.n
  n1 : 1 ≤ g.n
  n4 : g.n ≤ 4
  apart : (g.sd.map (·.2)).Nodup
  obd : ∀ x ∈ g.sd, x.2 ≠ g.ob
  mr : g.lo ≤ g.mb ∧ g.mb < g.hi
  ar : g.lo ≤ g.ab ∧ g.ab < g.hi
  pr : g.lo ≤ g.pb ∧ g.pb < g.hi
  or : g.lo ≤ g.ob ∧ g.ob < g.hi
  sr : ∀ x ∈ g.sd, (g.lo ≤ x.1 ∧ x.1 < g.hi) ∧ (g.lo ≤ x.2 ∧ x.2 < g.hi)
  slo : 3 ≤ g.sl
  shi : g.sl ≤ 64
  good : ∀ L l, Good (g.p.at_ L l)
/-- the meter in memory: the time, and the marks of each shard -/
structure MtrAt (w : World) (g : St) (now : Int) (Ds : Nat → DW) : Prop where
  meter : MeterAt w g.mb now g.ab g.n g.qb
  arr : w.heap[g.ab]? = some (.cells (g.sd.map sptr).toArray 108 (0, 0))
  shards : ∀ i x, g.sd[i]? = some x → ShardAt w x.1 g.pb x.2 g.sl ∧ MapAt w x.2 (Ds i)
  plan : PlanAt w g.pb g.ob g.p
/-- of the blocks that were there none has turned but those from lo on, below hi -/
structure Fr (lo hi : Nat) (w w' : World) : Prop where
  os : w'.os = w.os
  tape : w'.tape = w.tape
  output : w'.output = w.output
  size : w.heap.size ≤ w'.heap.size
  block : ∀ k, k < w.heap.size → (k < lo ∨ hi ≤ k) → w'.heap[k]? = w.heap[k]?
theorem Chg.fr {l : List Nat} {w w' : World} {lo hi : Nat} (h : Chg l w w') (hl : ∀ j ∈ l, lo ≤ j ∧ j < hi) : Fr lo hi w w' :=
  ⟨h.os, h.tape, h.output, h.size, fun k hk ho => h.block k hk (fun hj => by have := hl k hj; omega)⟩
theorem Fr.trans {lo hi : Nat} {a b c : World} (h : Fr lo hi a b) (k : Fr lo hi b c) : Fr lo hi a c :=
  ⟨k.os.trans h.os, k.tape.trans h.tape, k.output.trans h.output, Nat.le_trans h.size k.size, fun i hi' ho => (k.block i (Nat.lt_of_lt_of_le hi' h.size) ho).trans (h.block i hi' ho)⟩
theorem Fr.blk {lo hi : Nat} {w w' : World} {b : Nat} {o : Obj} (h : Fr lo hi w w') (hb : w.heap[b]? = some o) (hn : b < lo ∨ hi ≤ b) : w'.heap[b]? = some o := (h.block b (lt_of_block hb) hn).trans hb
theorem Fr.below {B lo hi : Nat} {w w' : World} (h : Fr lo hi w w') (hB : B ≤ w.heap.size) (hl : B ≤ lo) : Below B w w' := ⟨h.os, h.tape, h.output, h.size, fun k hk => h.block k (by omega) (Or.inl (by omega))⟩
/-- a meter stands while another one's blocks turn -/
theorem MtrAt.fr {w w' : World} {g : St} {now : Int} {Ds : Nat → DW} {lo hi : Nat} (h : MtrAt w g now Ds) (ok : g.Ok) (hf : Fr lo hi w w') (ha : g.hi ≤ lo ∨ hi ≤ g.lo) : MtrAt w' g now Ds := by
  have out : ∀ b, g.lo ≤ b ∧ b < g.hi → (b < lo ∨ hi ≤ b) := fun b hb => by omega
  refine ⟨hf.blk h.meter (out _ ok.mr), hf.blk h.arr (out _ ok.ar), fun i x hx => ?_, hf.blk h.plan.1 (out _ ok.pr), ?_⟩
  · have hm := List.mem_of_getElem? hx
    have hs := h.shards i x hx
    refine ⟨hf.blk hs.1 (out _ (ok.sr x hm).1), ?_⟩
    obtain ⟨n, es, ck, hb, r⟩ := hs.2
    exact ⟨n, es, ck, hf.blk hb (out _ (ok.sr x hm).2), r⟩
  · obtain ⟨n, es, ck, hb, r⟩ := h.plan.2
    exact ⟨n, es, ck, hf.blk hb (out _ ok.or), r⟩
theorem MtrAt.chg0 {w w' : World} {g : St} {now : Int} {Ds : Nat → DW} (h : MtrAt w g now Ds) (hc : Chg [] w w') : MtrAt w' g now Ds :=
  ⟨hc.blk h.meter (by simp), hc.blk h.arr (by simp), fun i x hx => ⟨hc.blk (h.shards i x hx).1 (by simp), (h.shards i x hx).2.chg hc (by simp)⟩, h.plan.chg hc (by simp) (by simp)⟩

/-- time goes on -/
theorem MAdvance (g : St) (now d : Int) (Ds : Nat → DW) (w : World) (hm : MtrAt w g now Ds) (ok : g.Ok) (h0 : 0 ≤ now) (h1 : now ≤ 9223372036854775807) (h2 : 0 ≤ d) (h3 : d ≤ 9223372036854775807) :
    Calls Try.prog 21 #[.pointer (some ⟨g.mb, 0, none⟩), .int .i64 d] w fun e w' => e = .returned (.int .i64 0) ∧ MtrAt w' g (min (now + d) 9223372036854775807) Ds ∧ Fr g.lo g.hi w w' := by
  refine (Advance_any g.mb g.ab g.n g.qb now d w hm.meter h0 h1 h2 h3).mono ?_
  rintro e w' ⟨rfl, hm', hc⟩
  have nb : ∀ {b : Nat} {cs : Array Value} {t : TypeId} {fr : Nat × Nat}, w.heap[b]? = some (.cells cs t fr) → t ≠ 107 → b ≠ g.mb := fun hb ht e => by
    have := hm.meter; unfold MeterAt at this; rw [e, this] at hb; simp at hb; exact ht hb.2.1.symm
  have nm : ∀ {b : Nat} {es : Array MapEntry} {ck : Nat}, w.heap[b]? = some (.map es ck) → b ≠ g.mb := fun hb e => by
    have := hm.meter; unfold MeterAt at this; rw [e, this] at hb; cases hb
  refine ⟨rfl, ⟨hm', hc.blk hm.arr (by simpa using nb hm.arr (by decide)), fun i x hx => ?_, ?_⟩, hc.fr (by simpa using ok.mr)⟩
  · have hs := hm.shards i x hx
    refine ⟨hc.blk hs.1 (by simpa using nb hs.1 (by decide)), hs.2.chg hc ?_⟩
    obtain ⟨n, es, ck, hb, r⟩ := hs.2
    simpa using nm hb
  · refine hm.plan.chg hc (by simpa using nb hm.plan.1 (by decide)) ?_
    obtain ⟨n, es, ck, hb, r⟩ := hm.plan.2
    simpa using nm hb

/-- a request comes: shard i decides it -/
theorem MAllow (g : St) (now cost t u r : Int) (Ds : Nat → DW) (i : Nat) (w : World) (hm : MtrAt w g now Ds) (ok : g.Ok) (hi : t % (g.n : Int) = (i : Int)) (hinv : Inv now (Ds i)) (h0 : 0 ≤ now) (h1 : now ≤ 9223372036854775807) (hc : 1 ≤ cost) (hc' : cost ≤ 1000)
    (ht : (Lit.int .u16 t).wf = true) (hu : (Lit.int .u16 u).wf = true) (hr : (Lit.int .u16 r).wf = true) :
    Calls Try.prog 20 #[.pointer (some ⟨g.mb, 0, none⟩), .agg #[.int .u16 t, .int .u16 u, .int .u16 r], .int .i64 cost] w fun e w' =>
      e = .returned (.tuple #[.agg (repV (allowD g.p g.sl (Ds i) now cost t u r).1).toArray, .int .i64 0]) ∧ MtrAt w' g now (fun j => if j = i then (allowD g.p g.sl (Ds i) now cost t u r).2 else Ds j) ∧ Fr g.lo g.hi w w' ∧ Inv now (allowD g.p g.sl (Ds i) now cost t u r).2 := by
  have hil : i < g.sd.length := by rw [ok.len]; have := Int.emod_lt_of_pos t (show (0 : Int) < g.n from by have := ok.n1; omega); omega
  obtain ⟨x, hx⟩ : ∃ x, g.sd[i]? = some x := ⟨_, List.getElem?_eq_getElem hil⟩
  have hxm := List.mem_of_getElem? hx
  have hs := hm.shards i x hx
  have hfm : MapAt w x.2 (Ds i) := hs.2
  refine (Allow_any g.mb g.ab g.n g.qb x.1 g.pb g.ob x.2 i (g.sd.map sptr) g.sl g.p t u r cost now (Ds i) w hm.meter hm.arr hi (by rw [List.getElem?_map, hx]; rfl) hs.1 hm.plan hs.2 (Ne.symm (ok.obd x hxm)) (by have := hinv.size; omega) ok.n1 ok.n4 ht hu hr ok.good (hinv.mark h0 h1) h0 h1 hc hc').mono ?_
  rintro e w' ⟨rfl, hd, hch⟩
  have nb : ∀ {b : Nat} {cs : Array Value} {t : TypeId} {fr : Nat × Nat}, w.heap[b]? = some (.cells cs t fr) → b ∉ [x.2] := fun hb => by simpa using MapAt.ne hs.2 hb
  have hob : g.ob ∉ [x.2] := by simpa using Ne.symm (ok.obd x hxm)
  refine ⟨rfl, ⟨hch.blk hm.meter (nb hm.meter), hch.blk hm.arr (nb hm.arr), fun j y hy => ?_, hm.plan.chg hch (nb hm.plan.1) hob⟩, hch.fr (by simpa using (ok.sr x hxm).2), ?_⟩
  · have hs' := hm.shards j y hy
    refine ⟨hch.blk hs'.1 (nb hs'.1), ?_⟩
    by_cases hj : j = i
    · subst hj
      rw [hx] at hy
      cases hy
      rw [if_pos rfl]
      exact hd
    · rw [if_neg hj]
      refine hs'.2.chg hch ?_
      have hnd := ok.apart
      have hjl := (List.getElem?_eq_some_iff.1 hy).1
      intro e
      simp at e
      have e1 : (g.sd.map (·.2))[j]? = some y.2 := by rw [List.getElem?_map, hy]; rfl
      have e2 : (g.sd.map (·.2))[i]? = some y.2 := by rw [List.getElem?_map, hx, e]; rfl
      exact hj ((List.getElem?_inj (by simpa using hjl) hnd).1 (e1.trans e2.symm))
  · exact hinv.allow ok.good h0 h1 hc ok.shi
end Go.Proofs.Ytbdnhllhdjepcaa
