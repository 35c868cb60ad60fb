import Derived.Test.YtbdnhllhdjepcaaGreatRows
import Derived.Test.YtbdnhllhdjepcaaGreatCOps
import Derived.ProofKit
import Derived.OpenShut
import Derived.ShutString
import Derived.ChangeOld
import Derived.Lib.SmallJoins
import Derived.Deep.Slices
import Derived.SizedLaws
namespace Go.Proofs.YtbdnhllhdjepcaaGreat
set_option linter.unusedVariables false
set_option linter.unusedSimpArgs false
open Go.ChangeShapes Go.WideShapes Go.ChangeAt Go.RowKit Go.Joins Go.Deep

/-! ### how much came in -/
section
variable {H : Type}
def Wt (t : TypeId) (d : DataW H) : Prop := ∀ n ∈ d.weights Tryz.prog t, n ≤ 140737488351232
theorem wa_mem {e : TypeId} {d : DataW H} : ∀ {l : List (DataW H)}, d ∈ l → ∀ n ∈ d.weights Tryz.prog e, n ∈ DataW.weightsAll Tryz.prog e l
  | x :: r, h, n, hn => by
    simp only [DataW.weightsAll, List.mem_append]
    rcases List.mem_cons.1 h with rfl | h
    · exact Or.inl hn
    · exact Or.inr (wa_mem h n hn)
theorem Wt.part {T : TypeId} {fs : Array Field} {xs : List (DataW H × List MemPlace)} {i : Nat} {y : DataW H × List MemPlace} {f : Field} (h : Wt T (.agg (xs.map (·.1)))) (hu : Tryz.prog.underlying T = some (.struct fs)) (hy : xs[i]? = some y) (hf : fs[i]? = some f) : Wt f.type y.1 := fun n hn => h n (by
  simp only [DataW.weights, hu]
  exact DataW.weights_mem_each (j := i) (by rw [List.getElem?_map, Array.getElem?_toList, hf]; rfl) (by rw [List.getElem?_map, hy]; rfl) n hn)
theorem Wt.row {T e : TypeId} {D : Nat → DataW H} {len : Nat} {sp : List (DataW H)} (h : Wt T (.slice ((List.range len).map D) sp)) (hu : Tryz.prog.underlying T = some (.slice e)) : len * Tryz.prog.bytesOf e ≤ 140737488351232 := by
  have h1 := h ((len + sp.length) * Tryz.prog.bytesOf e) (by simp [DataW.weights, hu])
  have h2 : len * Tryz.prog.bytesOf e ≤ (len + sp.length) * Tryz.prog.bytesOf e := Nat.mul_le_mul_right _ (by omega)
  omega
theorem Wt.elem {T e : TypeId} {D : Nat → DataW H} {len i : Nat} {sp : List (DataW H)} (h : Wt T (.slice ((List.range len).map D) sp)) (hu : Tryz.prog.underlying T = some (.slice e)) (hi : i < len) : Wt e (D i) := fun n hn => h n (by
  simp only [DataW.weights, hu, List.mem_cons, List.mem_append]
  exact Or.inr (Or.inl (wa_mem (List.mem_map_of_mem (List.mem_range.2 hi)) n hn)))
end
theorem by62 : Tryz.prog.bytesOf 62 = 216 := by kernel_rfl
theorem by158 : Tryz.prog.bytesOf 158 = 40 := by kernel_rfl
theorem ownk : ownKnob Tryz.prog.godebug = none := by kernel_rfl
theorem cz3 : Tryz.prog.cellsOf 3 = 1 := by kernel_rfl
theorem cz9 : Tryz.prog.cellsOf 9 = 1 := by kernel_rfl
theorem cz29 : Tryz.prog.cellsOf 29 = 3 := by kernel_rfl
theorem cz30 : Tryz.prog.cellsOf 30 = 9 := by kernel_rfl
theorem cz31 : Tryz.prog.cellsOf 31 = 1 := by kernel_rfl
theorem cz33 : Tryz.prog.cellsOf 33 = 15 := by kernel_rfl
theorem cz40 : Tryz.prog.cellsOf 40 = 1 := by kernel_rfl
theorem cz53 : Tryz.prog.cellsOf 53 = 1 := by kernel_rfl
theorem cz58 : Tryz.prog.cellsOf 58 = 1 := by kernel_rfl
theorem cz60 : Tryz.prog.cellsOf 60 = 3 := by kernel_rfl
theorem cz62 : Tryz.prog.cellsOf 62 = 24 := by kernel_rfl
theorem cz158 : Tryz.prog.cellsOf 158 = 7 := by kernel_rfl
theorem bd_i6 {n : Int} (h : (Lit.int .i64 n).wf = true) : I6 n := by
  simp [Lit.wf, IntKind.min, IntKind.max, IntKind.signed, IntKind.bits] at h
  exact ⟨by omega, by omega⟩
theorem bd_u16 {n : Int} (h : (Lit.int .u16 n).wf = true) : U16 n := by
  simp [Lit.wf, IntKind.min, IntKind.max, IntKind.signed, IntKind.bits] at h
  exact ⟨by omega, by omega⟩
theorem bd_u32 {n : Int} (h : (Lit.int .u32 n).wf = true) : 0 ≤ n ∧ n ≤ 4294967295 := by
  simp [Lit.wf, IntKind.min, IntKind.max, IntKind.signed, IntKind.bits] at h
  exact ⟨by omega, by omega⟩
theorem lst3 {cs : List Value} (h : cs.length = 3) : ∃ c0 c1 c2, cs = [c0, c1, c2] := by
  match cs, h with
  | [c0, c1, c2], _ => exact ⟨c0, c1, c2, rfl⟩
theorem lst7 {cs : List Value} (h : cs.length = 7) : ∃ c0 c1 c2 c3 c4 c5 c6, cs = [c0, c1, c2, c3, c4, c5, c6] := by
  match cs, h with
  | [c0, c1, c2, c3, c4, c5, c6], _ => exact ⟨c0, c1, c2, c3, c4, c5, c6, rfl⟩
theorem lst9 {cs : List Value} (h : cs.length = 9) : ∃ c0 c1 c2 c3 c4 c5 c6 c7 c8, cs = [c0, c1, c2, c3, c4, c5, c6, c7, c8] := by
  match cs, h with
  | [c0, c1, c2, c3, c4, c5, c6, c7, c8], _ => exact ⟨c0, c1, c2, c3, c4, c5, c6, c7, c8, rfl⟩
theorem lst15 {cs : List Value} (h : cs.length = 15) : ∃ c0 c1 c2 c3 c4 c5 c6 c7 c8 c9 c10 c11 c12 c13 c14, cs = [c0, c1, c2, c3, c4, c5, c6, c7, c8, c9, c10, c11, c12, c13, c14] := by
  match cs, h with
  | [c0, c1, c2, c3, c4, c5, c6, c7, c8, c9, c10, c11, c12, c13, c14], _ => exact ⟨c0, c1, c2, c3, c4, c5, c6, c7, c8, c9, c10, c11, c12, c13, c14, rfl⟩
theorem lst24 {cs : List Value} (h : cs.length = 24) : ∃ c0 c1 c2 c3 c4 c5 c6 c7 c8 c9 c10 c11 c12 c13 c14 c15 c16 c17 c18 c19 c20 c21 c22 c23, cs = [c0, c1, c2, c3, c4, c5, c6, c7, c8, c9, c10, c11, c12, c13, c14, c15, c16, c17, c18, c19, c20, c21, c22, c23] := by
  match cs, h with
  | [c0, c1, c2, c3, c4, c5, c6, c7, c8, c9, c10, c11, c12, c13, c14, c15, c16, c17, c18, c19, c20, c21, c22, c23], _ => exact ⟨c0, c1, c2, c3, c4, c5, c6, c7, c8, c9, c10, c11, c12, c13, c14, c15, c16, c17, c18, c19, c20, c21, c22, c23, rfl⟩

section
variable {H : Type} {enc : TypeId × Value → H} {W : World}
theorem mem_lt {t : TypeId} {v : Value} {d : DataW H} {p : List MemPlace} (h : DataW.Trod enc Tryz.prog W 0 (fun _ => true) true t v d p) : ∀ x ∈ p, x.block < W.heap.size := by
  obtain ⟨m, hm⟩ := h
  exact DataW.trod_lt m _ _ _ hm
/-- cells read as one stand one by one -/
theorem cells_each {b o n : Nat} {cs : List Value} (h : W.cells? 0 ⟨b, o, none⟩ n = some cs) (hn : cs.length = n) : ∀ i v, cs[i]? = some v → W.cell? ⟨b, o + i, none⟩ = some v := fun i v hv => by
  obtain ⟨_, _, hc⟩ := World.cells?_some h
  have hi := (List.getElem?_eq_some_iff.1 hv).1
  rw [← Addr.add_mid, hc i (by omega), hv]
set_option maxRecDepth 100000 in
theorem open_key {n : Nat} {cs : List Value} {x : DataW H × List MemPlace} (h : DataW.trod enc Tryz.prog W 0 (fun _ => true) true n 60 cs = some x) : ∃ t u r : Int, U16 t ∧ U16 u ∧ U16 r ∧ cs = [.int .u16 t, .int .u16 u, .int .u16 r] := by
  obtain ⟨xs, m, _, hx, hlen, hxl, hf⟩ := DataW.trod_struct Tryz.underlying60 h
  rw [cz60] at hlen
  obtain ⟨c0, c1, c2, hcs⟩ := lst3 hlen
  rw [hcs] at hf
  have g : ∀ i, i < 3 → ∃ y, xs[i]? = some y := fun i hi => ⟨_, List.getElem?_eq_getElem (by rw [hxl]; exact hi)⟩
  obtain ⟨y0, g0⟩ := g 0 (by decide)
  have f0 : DataW.trod enc Tryz.prog W 0 (fun _ => true) true m 58 [c0] = some y0 := by
    have := (hf 0 _ rfl).trans g0
    simpa [cz3, cz9, cz29, cz30, cz31, cz33, cz40, cz53, cz58, cz60] using this
  obtain ⟨y1, g1⟩ := g 1 (by decide)
  have f1 : DataW.trod enc Tryz.prog W 0 (fun _ => true) true m 58 [c1] = some y1 := by
    have := (hf 1 _ rfl).trans g1
    simpa [cz3, cz9, cz29, cz30, cz31, cz33, cz40, cz53, cz58, cz60] using this
  obtain ⟨y2, g2⟩ := g 2 (by decide)
  have f2 : DataW.trod enc Tryz.prog W 0 (fun _ => true) true m 58 [c2] = some y2 := by
    have := (hf 2 _ rfl).trans g2
    simpa [cz3, cz9, cz29, cz30, cz31, cz33, cz40, cz53, cz58, cz60] using this
  obtain ⟨x0, e0, _, w0⟩ := DataW.trod_int Tryz.underlying58 f0
  obtain ⟨x1, e1, _, w1⟩ := DataW.trod_int Tryz.underlying58 f1
  obtain ⟨x2, e2, _, w2⟩ := DataW.trod_int Tryz.underlying58 f2
  simp at e0 e1 e2
  exact ⟨x0, x1, x2, bd_u16 w0, bd_u16 w1, bd_u16 w2, by rw [hcs, e0, e1, e2]⟩
set_option maxRecDepth 100000 in
theorem open_quota {n : Nat} {cs : List Value} {x : DataW H × List MemPlace} (h : DataW.trod enc Tryz.prog W 0 (fun _ => true) true n 29 cs = some x) : ∃ a b c : Int, I6 a ∧ I6 b ∧ I6 c ∧ cs = [.int .i64 a, .int .i64 b, .int .i64 c] := by
  obtain ⟨xs, m, _, hx, hlen, hxl, hf⟩ := DataW.trod_struct Tryz.underlying29 h
  rw [cz29] at hlen
  obtain ⟨c0, c1, c2, hcs⟩ := lst3 hlen
  rw [hcs] at hf
  have g : ∀ i, i < 3 → ∃ y, xs[i]? = some y := fun i hi => ⟨_, List.getElem?_eq_getElem (by rw [hxl]; exact hi)⟩
  obtain ⟨y0, g0⟩ := g 0 (by decide)
  have f0 : DataW.trod enc Tryz.prog W 0 (fun _ => true) true m 3 [c0] = some y0 := by
    have := (hf 0 _ rfl).trans g0
    simpa [cz3, cz9, cz29, cz30, cz31, cz33, cz40, cz53, cz58, cz60] using this
  obtain ⟨y1, g1⟩ := g 1 (by decide)
  have f1 : DataW.trod enc Tryz.prog W 0 (fun _ => true) true m 3 [c1] = some y1 := by
    have := (hf 1 _ rfl).trans g1
    simpa [cz3, cz9, cz29, cz30, cz31, cz33, cz40, cz53, cz58, cz60] using this
  obtain ⟨y2, g2⟩ := g 2 (by decide)
  have f2 : DataW.trod enc Tryz.prog W 0 (fun _ => true) true m 3 [c2] = some y2 := by
    have := (hf 2 _ rfl).trans g2
    simpa [cz3, cz9, cz29, cz30, cz31, cz33, cz40, cz53, cz58, cz60] using this
  obtain ⟨x0, e0, _, w0⟩ := DataW.trod_int Tryz.underlying3 f0
  obtain ⟨x1, e1, _, w1⟩ := DataW.trod_int Tryz.underlying3 f1
  obtain ⟨x2, e2, _, w2⟩ := DataW.trod_int Tryz.underlying3 f2
  simp at e0 e1 e2
  exact ⟨x0, x1, x2, bd_i6 w0, bd_i6 w1, bd_i6 w2, by rw [hcs, e0, e1, e2]⟩
set_option maxRecDepth 100000 in
theorem open_quotas {n : Nat} {cs : List Value} {x : DataW H × List MemPlace} (h : DataW.trod enc Tryz.prog W 0 (fun _ => true) true n 30 cs = some x) : ∃ a b c a1 b1 c1 a2 b2 c2 : Int, (I6 a ∧ I6 b ∧ I6 c) ∧ (I6 a1 ∧ I6 b1 ∧ I6 c1) ∧ (I6 a2 ∧ I6 b2 ∧ I6 c2) ∧ cs = [.int .i64 a, .int .i64 b, .int .i64 c, .int .i64 a1, .int .i64 b1, .int .i64 c1, .int .i64 a2, .int .i64 b2, .int .i64 c2] := by
  obtain ⟨xs, m, _, hx, hlen, hxl, hf⟩ := DataW.trod_array Tryz.underlying30 h
  rw [cz30] at hlen
  obtain ⟨c0, c1, c2, c3, c4, c5, c6, c7, c8, hcs⟩ := lst9 hlen
  rw [hcs, cz29] at hf
  have g : ∀ i, i < 3 → ∃ y, xs[i]? = some y := fun i hi => ⟨_, List.getElem?_eq_getElem (by rw [hxl]; exact hi)⟩
  obtain ⟨y0, g0⟩ := g 0 (by decide)
  have f0 : DataW.trod enc Tryz.prog W 0 (fun _ => true) true m 29 [c0, c1, c2] = some y0 := by
    have := (hf 0 (by decide)).trans g0
    simpa using this
  obtain ⟨a0, b0, d0, w0, u0, v0, e0⟩ := open_quota f0
  obtain ⟨y1, g1⟩ := g 1 (by decide)
  have f1 : DataW.trod enc Tryz.prog W 0 (fun _ => true) true m 29 [c3, c4, c5] = some y1 := by
    have := (hf 1 (by decide)).trans g1
    simpa using this
  obtain ⟨a1, b1, d1, w1, u1, v1, e1⟩ := open_quota f1
  obtain ⟨y2, g2⟩ := g 2 (by decide)
  have f2 : DataW.trod enc Tryz.prog W 0 (fun _ => true) true m 29 [c6, c7, c8] = some y2 := by
    have := (hf 2 (by decide)).trans g2
    simpa using this
  obtain ⟨a2, b2, d2, w2, u2, v2, e2⟩ := open_quota f2
  simp at e0 e1 e2
  exact ⟨a0, b0, d0, a1, b1, d1, a2, b2, d2, ⟨w0, u0, v0⟩, ⟨w1, u1, v1⟩, ⟨w2, u2, v2⟩, by rw [hcs, e0.1, e0.2.1, e0.2.2, e1.1, e1.2.1, e1.2.2, e2.1, e2.2.1, e2.2.2]⟩
set_option maxRecDepth 100000 in
/-- an override that came in -/
theorem open_ov {n : Nat} {cs : List Value} {x : DataW H × List MemPlace} (h : DataW.trod enc Tryz.prog W 0 (fun _ => true) true n 158 cs = some x) : ∃ o : Ov, o.Ok ∧ cs = ovc o := by
  obtain ⟨xs, m, _, hx, hlen, hxl, hf⟩ := DataW.trod_struct Tryz.underlying158 h
  rw [cz158] at hlen
  obtain ⟨c0, c1, c2, c3, c4, c5, c6, hcs⟩ := lst7 hlen
  rw [hcs] at hf
  have g : ∀ i, i < 3 → ∃ y, xs[i]? = some y := fun i hi => ⟨_, List.getElem?_eq_getElem (by rw [hxl]; exact hi)⟩
  obtain ⟨y0, g0⟩ := g 0 (by decide)
  have f0 : DataW.trod enc Tryz.prog W 0 (fun _ => true) true m 3 [c0] = some y0 := by
    have := (hf 0 _ rfl).trans g0
    simpa [cz3, cz9, cz29, cz30, cz31, cz33, cz40, cz53, cz58, cz60] using this
  obtain ⟨y1, g1⟩ := g 1 (by decide)
  have f1 : DataW.trod enc Tryz.prog W 0 (fun _ => true) true m 60 [c1, c2, c3] = some y1 := by
    have := (hf 1 _ rfl).trans g1
    simpa [cz3, cz9, cz29, cz30, cz31, cz33, cz40, cz53, cz58, cz60] using this
  obtain ⟨y2, g2⟩ := g 2 (by decide)
  have f2 : DataW.trod enc Tryz.prog W 0 (fun _ => true) true m 29 [c4, c5, c6] = some y2 := by
    have := (hf 2 _ rfl).trans g2
    simpa [cz3, cz9, cz29, cz30, cz31, cz33, cz40, cz53, cz58, cz60] using this
  obtain ⟨x0, e0, _, w0⟩ := DataW.trod_int Tryz.underlying3 f0
  obtain ⟨kt, ku, kr, k1, k2, k3, ek⟩ := open_key f1
  obtain ⟨qa, qb, qc, q1, q2, q3, eq⟩ := open_quota f2
  simp at e0 ek eq
  refine ⟨⟨x0, kt, ku, kr, qa, qb, qc⟩, ⟨bd_i6 w0, k1, k2, k3, q1, q2, q3⟩, by rw [hcs, e0, ek.1, ek.2.1, ek.2.2, eq.1, eq.2.1, eq.2.2]; rfl⟩
set_option maxRecDepth 100000 in
/-- a list of overrides that came in -/
theorem open_ovs {n : Nat} {cs : List Value} {x : DataW H × List MemPlace} (h : DataW.trod enc Tryz.prog W 0 (fun _ => true) true n 31 cs = some x) (hw : Wt 31 x.1) : ∃ (la : Option Addr) (lb lof cap : Nat) (os : List Ov), cs = [.slice la os.length cap] ∧ OvsAt W la lb lof os ∧ (∀ o ∈ os, o.Ok) ∧ os.length ≤ 3518437208780 := by
  rcases open_slice Tryz.underlying31 h with ⟨hcs, hx⟩ | ⟨a, len, cap, m, n, D, Pl, hcs, _, hl, hm, hmm, hx, hel⟩
  · exact ⟨none, 0, 0, 0, [], hcs, ⟨by simp, by simp, by simp, by simp⟩, by simp, by simp⟩
  · simp only [if_true] at hmm
    subst hmm
    unfold maxLen at hm
    by_cases h0 : 0 < len
    · obtain ⟨lb, lof, spot⟩ := a
      have hspot : spot = none ∧ lb < W.heap.size := by
        obtain ⟨cs', hc', ht'⟩ := hel 0 (by omega)
        rw [cz158] at hc'
        obtain ⟨_, hlc, hc⟩ := World.cells?_some hc'
        have hs := World.cell?_spot ((hc 0 (by decide)).trans (List.getElem?_eq_getElem (by omega)))
        have hb := World.cells?_block hc' (by decide)
        exact ⟨by simpa [Addr.add] using hs, by simpa [Addr.add] using hb⟩
      obtain ⟨rfl, hlb⟩ := hspot
      have hq : ∀ j, j < len → ∃ q : Ov, q.Ok ∧ OvAt W lb (lof + j * 7) q := fun j hj => by
        obtain ⟨cs', hc', ht'⟩ := hel j (by omega)
        rw [cz158, Addr.add_mid] at hc'
        obtain ⟨q, hq, rfl⟩ := open_ov ht'
        have g := cells_each hc' rfl
        exact ⟨q, hq, g 0 _ rfl, g 1 _ rfl, g 2 _ rfl, g 3 _ rfl, g 4 _ rfl, g 5 _ rfl, g 6 _ rfl⟩
      obtain ⟨f, hf⟩ : ∃ f : Nat → Ov, ∀ j, j < len → (f j).Ok ∧ OvAt W lb (lof + j * 7) (f j) :=
        ⟨fun j => if hj : j < len then (hq j hj).choose else ⟨0, 0, 0, 0, 0, 0, 0⟩, fun j hj => by dsimp only; rw [dif_pos hj]; exact (hq j hj).choose_spec⟩
      have hol : ((List.range len).map f).length = len := by simp
      refine ⟨some ⟨lb, lof, none⟩, lb, lof, _, (List.range len).map f, by rw [hol]; exact hcs, ⟨fun _ => rfl, fun _ => hlb, by rw [hol]; omega, fun j hj => ?_⟩, fun o ho => ?_, ?_⟩
      · rw [List.getElem_map, List.getElem_range]
        exact (hf j (by omega)).2
      · obtain ⟨j, hj, rfl⟩ := List.mem_map.1 ho
        exact (hf j (List.mem_range.1 hj)).1
      · rw [hx] at hw
        have hr := Wt.row hw Tryz.underlying31
        rw [by158] at hr
        rw [hol]
        omega
    · obtain rfl : len = 0 := by omega
      exact ⟨some a, 0, 0, _, [], hcs, ⟨by simp, by simp, by simp, by simp⟩, by simp, by simp⟩
set_option maxRecDepth 100000 in
/-- a config that came in -/
theorem open_conf {n : Nat} {cs : List Value} {x : DataW H × List MemPlace} (h : DataW.trod enc Tryz.prog W 0 (fun _ => true) true n 33 cs = some x) (hw : Wt 33 x.1) : ∃ (c : Cf) (la : Option Addr) (lb lof cap : Nat) (os : List Ov), cs = cfc c (.slice la os.length cap) ∧ c.Ok ∧ OvsAt W la lb lof os ∧ (∀ o ∈ os, o.Ok) ∧ os.length ≤ 3518437208780 := by
  obtain ⟨xs, m, _, hx, hlen, hxl, hf⟩ := DataW.trod_struct Tryz.underlying33 h
  rw [cz33] at hlen
  obtain ⟨c0, c1, c2, c3, c4, c5, c6, c7, c8, c9, c10, c11, c12, c13, c14, hcs⟩ := lst15 hlen
  rw [hcs] at hf
  have g : ∀ i, i < 7 → ∃ y, xs[i]? = some y := fun i hi => ⟨_, List.getElem?_eq_getElem (by rw [hxl]; exact hi)⟩
  obtain ⟨y0, g0⟩ := g 0 (by decide)
  have f0 : DataW.trod enc Tryz.prog W 0 (fun _ => true) true m 30 [c0, c1, c2, c3, c4, c5, c6, c7, c8] = some y0 := by
    have := (hf 0 _ rfl).trans g0
    simpa [cz3, cz9, cz29, cz30, cz31, cz33, cz40, cz53, cz58, cz60] using this
  obtain ⟨y1, g1⟩ := g 1 (by decide)
  have f1 : DataW.trod enc Tryz.prog W 0 (fun _ => true) true m 31 [c9] = some y1 := by
    have := (hf 1 _ rfl).trans g1
    simpa [cz3, cz9, cz29, cz30, cz31, cz33, cz40, cz53, cz58, cz60] using this
  obtain ⟨y2, g2⟩ := g 2 (by decide)
  have f2 : DataW.trod enc Tryz.prog W 0 (fun _ => true) true m 3 [c10] = some y2 := by
    have := (hf 2 _ rfl).trans g2
    simpa [cz3, cz9, cz29, cz30, cz31, cz33, cz40, cz53, cz58, cz60] using this
  obtain ⟨y3, g3⟩ := g 3 (by decide)
  have f3 : DataW.trod enc Tryz.prog W 0 (fun _ => true) true m 3 [c11] = some y3 := by
    have := (hf 3 _ rfl).trans g3
    simpa [cz3, cz9, cz29, cz30, cz31, cz33, cz40, cz53, cz58, cz60] using this
  obtain ⟨y4, g4⟩ := g 4 (by decide)
  have f4 : DataW.trod enc Tryz.prog W 0 (fun _ => true) true m 3 [c12] = some y4 := by
    have := (hf 4 _ rfl).trans g4
    simpa [cz3, cz9, cz29, cz30, cz31, cz33, cz40, cz53, cz58, cz60] using this
  obtain ⟨y5, g5⟩ := g 5 (by decide)
  have f5 : DataW.trod enc Tryz.prog W 0 (fun _ => true) true m 3 [c13] = some y5 := by
    have := (hf 5 _ rfl).trans g5
    simpa [cz3, cz9, cz29, cz30, cz31, cz33, cz40, cz53, cz58, cz60] using this
  obtain ⟨y6, g6⟩ := g 6 (by decide)
  have f6 : DataW.trod enc Tryz.prog W 0 (fun _ => true) true m 3 [c14] = some y6 := by
    have := (hf 6 _ rfl).trans g6
    simpa [cz3, cz9, cz29, cz30, cz31, cz33, cz40, cz53, cz58, cz60] using this
  obtain ⟨qa, qb, qc, ra, rb, rc, sa, sb, sc, ⟨q1, q2, q3⟩, ⟨r1, r2, r3⟩, ⟨s1, s2, s3⟩, eq⟩ := open_quotas f0
  rw [hx] at hw
  obtain ⟨la, lb, lof, cap, os, eo, ho, hok, hbk⟩ := open_ovs f1 (hw.part Tryz.underlying33 g1 rfl)
  obtain ⟨x2, e2, _, w2⟩ := DataW.trod_int Tryz.underlying3 f2
  obtain ⟨x3, e3, _, w3⟩ := DataW.trod_int Tryz.underlying3 f3
  obtain ⟨x4, e4, _, w4⟩ := DataW.trod_int Tryz.underlying3 f4
  obtain ⟨x5, e5, _, w5⟩ := DataW.trod_int Tryz.underlying3 f5
  obtain ⟨x6, e6, _, w6⟩ := DataW.trod_int Tryz.underlying3 f6
  simp at eq eo e2 e3 e4 e5 e6
  refine ⟨⟨qa, qb, qc, ra, rb, rc, sa, sb, sc, x2, x3, x4, x5, x6⟩, la, lb, lof, cap, os, ?_, ⟨q1, q2, q3, r1, r2, r3, s1, s2, s3, bd_i6 w2, bd_i6 w3, bd_i6 w4, bd_i6 w5, bd_i6 w6⟩, ho, hok, hbk⟩
  obtain ⟨u0, u1, u2, u3, u4, u5, u6, u7, u8⟩ := eq
  rw [hcs, u0, u1, u2, u3, u4, u5, u6, u7, u8, eo, e2, e3, e4, e5, e6]
  rfl
set_option maxRecDepth 100000 in
/-- a step that came in -/
theorem open_op {n : Nat} {cs : List Value} {x : DataW H × List MemPlace} (h : DataW.trod enc Tryz.prog W 0 (fun _ => true) true n 62 cs = some x) (hw : Wt 62 x.1) : ∃ o : Op, o.Ok ∧ cs = opc o ∧ OvsAt W o.la o.lb o.lof o.os := by
  obtain ⟨xs, m, _, hx, hlen, hxl, hf⟩ := DataW.trod_struct Tryz.underlying62 h
  rw [cz62] at hlen
  obtain ⟨c0, c1, c2, c3, c4, c5, c6, c7, c8, c9, c10, c11, c12, c13, c14, c15, c16, c17, c18, c19, c20, c21, c22, c23, hcs⟩ := lst24 hlen
  rw [hcs] at hf
  have g : ∀ i, i < 8 → ∃ y, xs[i]? = some y := fun i hi => ⟨_, List.getElem?_eq_getElem (by rw [hxl]; exact hi)⟩
  obtain ⟨y0, g0⟩ := g 0 (by decide)
  have f0 : DataW.trod enc Tryz.prog W 0 (fun _ => true) true m 3 [c0] = some y0 := by
    have := (hf 0 _ rfl).trans g0
    simpa [cz3, cz9, cz29, cz30, cz31, cz33, cz40, cz53, cz58, cz60] using this
  obtain ⟨y1, g1⟩ := g 1 (by decide)
  have f1 : DataW.trod enc Tryz.prog W 0 (fun _ => true) true m 3 [c1] = some y1 := by
    have := (hf 1 _ rfl).trans g1
    simpa [cz3, cz9, cz29, cz30, cz31, cz33, cz40, cz53, cz58, cz60] using this
  obtain ⟨y2, g2⟩ := g 2 (by decide)
  have f2 : DataW.trod enc Tryz.prog W 0 (fun _ => true) true m 33 [c2, c3, c4, c5, c6, c7, c8, c9, c10, c11, c12, c13, c14, c15, c16] = some y2 := by
    have := (hf 2 _ rfl).trans g2
    simpa [cz3, cz9, cz29, cz30, cz31, cz33, cz40, cz53, cz58, cz60] using this
  obtain ⟨y3, g3⟩ := g 3 (by decide)
  have f3 : DataW.trod enc Tryz.prog W 0 (fun _ => true) true m 60 [c17, c18, c19] = some y3 := by
    have := (hf 3 _ rfl).trans g3
    simpa [cz3, cz9, cz29, cz30, cz31, cz33, cz40, cz53, cz58, cz60] using this
  obtain ⟨y4, g4⟩ := g 4 (by decide)
  have f4 : DataW.trod enc Tryz.prog W 0 (fun _ => true) true m 3 [c20] = some y4 := by
    have := (hf 4 _ rfl).trans g4
    simpa [cz3, cz9, cz29, cz30, cz31, cz33, cz40, cz53, cz58, cz60] using this
  obtain ⟨y5, g5⟩ := g 5 (by decide)
  have f5 : DataW.trod enc Tryz.prog W 0 (fun _ => true) true m 53 [c21] = some y5 := by
    have := (hf 5 _ rfl).trans g5
    simpa [cz3, cz9, cz29, cz30, cz31, cz33, cz40, cz53, cz58, cz60] using this
  obtain ⟨y6, g6⟩ := g 6 (by decide)
  have f6 : DataW.trod enc Tryz.prog W 0 (fun _ => true) true m 9 [c22] = some y6 := by
    have := (hf 6 _ rfl).trans g6
    simpa [cz3, cz9, cz29, cz30, cz31, cz33, cz40, cz53, cz58, cz60] using this
  obtain ⟨y7, g7⟩ := g 7 (by decide)
  have f7 : DataW.trod enc Tryz.prog W 0 (fun _ => true) true m 40 [c23] = some y7 := by
    have := (hf 7 _ rfl).trans g7
    simpa [cz3, cz9, cz29, cz30, cz31, cz33, cz40, cz53, cz58, cz60] using this
  obtain ⟨x0, e0, _, w0⟩ := DataW.trod_int Tryz.underlying3 f0
  obtain ⟨x1, e1, _, w1⟩ := DataW.trod_int Tryz.underlying3 f1
  obtain ⟨x4, e4, _, w4⟩ := DataW.trod_int Tryz.underlying3 f4
  obtain ⟨x5, e5, _, w5⟩ := DataW.trod_int Tryz.underlying53 f5
  rw [hx] at hw
  obtain ⟨c, la, lb, lof, cap, os, ec, hc, ho, hok, hbk⟩ := open_conf f2 (hw.part Tryz.underlying62 g2 rfl)
  obtain ⟨kt, ku, kr, k1, k2, k3, ek⟩ := open_key f3
  obtain ⟨tx, e6, _, w6⟩ := DataW.trod_string Tryz.underlying9 f6
  obtain ⟨ll, ln, lc, e7⟩ : ∃ ll ln lc, [c23] = [.slice ll ln lc] := by
    rcases open_slice Tryz.underlying40 f7 with ⟨hcs, _⟩ | ⟨a, len, cap, m, n, D, Pl, hcs, _⟩
    · exact ⟨none, 0, 0, hcs⟩
    · exact ⟨some a, len, cap, hcs⟩
  simp [cfc] at e0 e1 ec ek e4 e5 e6 e7
  unfold maxLen at w6
  refine ⟨⟨x0, x1, c, la, lb, lof, cap, os, kt, ku, kr, x4, x5, tx, ll, ln, lc⟩, ⟨bd_i6 w0, bd_i6 w1, hc, hok, hbk, k1, k2, k3, bd_i6 w4, bd_u32 w5, by dsimp only; omega⟩, ?_, ho⟩
  obtain ⟨u0, u1, u2, u3, u4, u5, u6, u7, u8, u9, u10, u11, u12, u13, u14⟩ := ec
  rw [hcs, e0, e1, u0, u1, u2, u3, u4, u5, u6, u7, u8, u9, u10, u11, u12, u13, u14, ek.1, ek.2.1, ek.2.2, e4, e5, e6, e7]
  rfl
set_option maxRecDepth 100000 in
/-- a script that came in -/
theorem open_ops {r : Reach} {b0 : Nat} {v : Value} {d : DataW H} {p : List MemPlace} (hv : Value.okWide Tryz.prog W r b0 22 v) (h : DataW.Trod enc Tryz.prog W 0 (fun _ => true) true 22 v d p) (hw : Wt 22 d) :
    ∃ (la : Option Addr) (lb lof cap : Nat) (ops : List Op), v = .slice la ops.length cap ∧ (0 < ops.length → la = some ⟨lb, lof, none⟩ ∧ lb < W.heap.size) ∧ ops.length ≤ 660000000000 ∧ (∀ k (hk : k < ops.length), OpAt W lb (lof + k * 24) ops[k]) ∧ ∀ o ∈ ops, o.Ok := by
  obtain ⟨a0, len, cap, rfl⟩ := okWide_slice Tryz.underlying22 hv
  obtain ⟨fuel, hf⟩ := h
  rcases open_slice Tryz.underlying22 hf with ⟨hcs, _⟩ | ⟨a, len', cap', m, n, D, Pl, hcs, _, hl, hm, hmm, hx, hel⟩
  · simp [Value.cells] at hcs
    obtain ⟨rfl, rfl, rfl⟩ := hcs
    exact ⟨none, 0, 0, 0, [], rfl, by simp, by simp, by simp, by simp⟩
  · simp [Value.cells] at hcs
    obtain ⟨rfl, rfl, rfl⟩ := hcs
    simp only [if_true] at hmm
    subst hmm
    obtain ⟨hd, _⟩ := Prod.mk.inj hx
    subst hd
    by_cases h0 : 0 < len
    · obtain ⟨lb, lof, spot⟩ := a
      have hspot : spot = none ∧ lb < W.heap.size := by
        obtain ⟨cs', hc', ht'⟩ := hel 0 (by omega)
        rw [cz62] at hc'
        obtain ⟨_, hlc, hc⟩ := World.cells?_some hc'
        have hs := World.cell?_spot ((hc 0 (by decide)).trans (List.getElem?_eq_getElem (by omega)))
        have hb := World.cells?_block hc' (by decide)
        exact ⟨by simpa [Addr.add] using hs, by simpa [Addr.add] using hb⟩
      obtain ⟨rfl, hlb⟩ := hspot
      have hq : ∀ j, j < len → ∃ q : Op, q.Ok ∧ OpAt W lb (lof + j * 24) q := fun j hj => by
        obtain ⟨cs', hc', ht'⟩ := hel j (by omega)
        rw [cz62, Addr.add_mid] at hc'
        obtain ⟨q, hq, rfl, hov⟩ := open_op ht' (hw.elem Tryz.underlying22 hj)
        exact ⟨q, hq, cells_each hc' rfl, hov⟩
      obtain ⟨f, hf⟩ : ∃ f : Nat → Op, ∀ j, j < len → (f j).Ok ∧ OpAt W lb (lof + j * 24) (f j) :=
        ⟨fun j => if hj : j < len then (hq j hj).choose else (hq 0 h0).choose, fun j hj => by dsimp only; rw [dif_pos hj]; exact (hq j hj).choose_spec⟩
      have hol : ((List.range len).map f).length = len := by simp
      have hmul := hw.row Tryz.underlying22
      rw [by62] at hmul
      refine ⟨some ⟨lb, lof, none⟩, lb, lof, _, (List.range len).map f, by rw [hol], fun _ => ⟨rfl, hlb⟩, by rw [hol]; omega, fun j hj => ?_, fun o ho => ?_⟩
      · rw [List.getElem_map, List.getElem_range]
        exact (hf j (by omega)).2
      · obtain ⟨j, hj, rfl⟩ := List.mem_map.1 ho
        exact (hf j (List.mem_range.1 hj)).1
    · obtain rfl : len = 0 := by omega
      exact ⟨some a, 0, 0, _, [], rfl, by simp, by simp, by simp, by simp⟩
end
end Go.Proofs.YtbdnhllhdjepcaaGreat
