import Derived.Test.YtbdnhllhdjepcaaArgt
import Derived.Test.YtbdnhllhdjepcaaKin
import Derived.Test.YtbdnhllhdjepcaaTold
namespace Go.Proofs.Ytbdnhllhdjepcaa
set_option linter.unusedVariables false
set_option linter.unusedSimpArgs false
open Go.ChangeShapes Go.WideShapes Go.ChangeAt Go.RowKit Go.Joins Go.Deep

section
variable {H : Type} {enc : TypeId × Value → H} {W : World}
theorem wlst8 {cs : List Value} (h : cs.length = 8) : ∃ c0 c1 c2 c3 c4 c5 c6 c7, cs = [c0, c1, c2, c3, c4, c5, c6, c7] := by
  match cs, h with
  | [c0, c1, c2, c3, c4, c5, c6, c7], _ => exact ⟨c0, c1, c2, c3, c4, c5, c6, c7, rfl⟩
theorem cells80 : Try.prog.cellsOf 80 = 8 := by kernel_rfl
theorem bd_u32 {n : Int} (h : (Lit.int .u32 n).wf = true) : 0 ≤ n ∧ n < 4294967296 := by
  simp [Lit.wf, IntKind.min, IntKind.max, IntKind.signed, IntKind.bits] at h
  exact ⟨by omega, by omega⟩
set_option maxRecDepth 100000 in
/-- a word that came in, as eight cells -/
theorem open_word {n : Nat} {cs : List Value} {x : DataW H × List MemPlace} (h : DataW.trod enc Try.prog W 0 (fun _ => true) true n 80 cs = some x) : ∃ d : Wd, d.Ok ∧ cs = [.int .i64 d.k, .int .i64 d.q.a, .int .i64 d.q.t, .int .i64 d.q.u, .int .i64 d.q.r, .int .i64 d.q.c, .int .u32 d.x, .string d.tx] := by
  obtain ⟨xs, m, _, _, hlen, hxl, hf⟩ := DataW.trod_struct Try.underlying80 h
  rw [cells80] at hlen
  obtain ⟨c0, c1, c2, c3, c4, c5, c6, c7, hcs⟩ := wlst8 hlen
  rw [hcs] at hf
  have g : ∀ i, i < 4 → ∃ y, xs[i]? = some y := fun i hi => ⟨_, List.getElem?_eq_getElem (by rw [hxl]; exact hi)⟩
  obtain ⟨y0, g0⟩ := g 0 (by decide)
  obtain ⟨y1, g1⟩ := g 1 (by decide)
  obtain ⟨y2, g2⟩ := g 2 (by decide)
  obtain ⟨y3, g3⟩ := g 3 (by decide)
  have c67 : Try.prog.cellsOf 67 = 1 := by kernel_rfl
  have c9' : Try.prog.cellsOf 9 = 1 := by kernel_rfl
  have f0 : DataW.trod enc Try.prog W 0 (fun _ => true) true m 3 [c0] = some y0 := by
    have := (hf 0 _ rfl).trans g0
    simpa [cells3, cells38, c67, c9'] using this
  have f1 : DataW.trod enc Try.prog W 0 (fun _ => true) true m 38 [c1, c2, c3, c4, c5] = some y1 := by
    have := (hf 1 _ rfl).trans g1
    simpa [cells3, cells38, c67, c9'] using this
  have f2 : DataW.trod enc Try.prog W 0 (fun _ => true) true m 67 [c6] = some y2 := by
    have := (hf 2 _ rfl).trans g2
    simpa [cells3, cells38, c67, c9'] using this
  have f3 : DataW.trod enc Try.prog W 0 (fun _ => true) true m 9 [c7] = some y3 := by
    have := (hf 3 _ rfl).trans g3
    simpa [cells3, cells38, c67, c9'] using this
  obtain ⟨x0, e0, _, w0⟩ := DataW.trod_int Try.underlying3 f0
  obtain ⟨q, hq, e1⟩ := open_ask f1
  obtain ⟨x2, e2, _, w2⟩ := DataW.trod_int Try.underlying67 f2
  obtain ⟨x3, e3, _, w3⟩ := DataW.trod_string Try.underlying9 f3
  simp at e0 e1 e2 e3
  obtain ⟨r1, r2, r3, r4, r5⟩ := e1
  unfold maxLen at w3
  exact ⟨⟨x0, q, x2, x3⟩, ⟨bd_i64 w0, hq, bd_u32 w2, by dsimp only; omega⟩, by rw [hcs, e0, r1, r2, r3, r4, r5, e2, e3]⟩
theorem cells8 {w : World} {b o : Nat} {c0 c1 c2 c3 c4 c5 c6 c7 : Value} (h : w.cells? 0 ⟨b, o, none⟩ 8 = some [c0, c1, c2, c3, c4, c5, c6, c7]) : w.cell? ⟨b, o, none⟩ = some c0 ∧ w.cell? ⟨b, o + 1, none⟩ = some c1 ∧ w.cell? ⟨b, o + 2, none⟩ = some c2 ∧ w.cell? ⟨b, o + 3, none⟩ = some c3 ∧ w.cell? ⟨b, o + 4, none⟩ = some c4 ∧ w.cell? ⟨b, o + 5, none⟩ = some c5 ∧ w.cell? ⟨b, o + 6, none⟩ = some c6 ∧ w.cell? ⟨b, o + 7, none⟩ = some c7 := by
  obtain ⟨_, _, hc⟩ := World.cells?_some h
  have g : ∀ i, i < 8 → w.cell? ⟨b, o + i, none⟩ = [c0, c1, c2, c3, c4, c5, c6, c7][i]? := fun i hi => by rw [← Addr.add_mid]; exact hc i hi
  exact ⟨g 0 (by decide), g 1 (by decide), g 2 (by decide), g 3 (by decide), g 4 (by decide), g 5 (by decide), g 6 (by decide), g 7 (by decide)⟩
set_option maxRecDepth 100000 in
/-- a list of words that came in -/
theorem open_words {r : Reach} {b0 : Nat} {v : Value} {d : DataW H} {p : List MemPlace} (hv : Value.okWide Try.prog W r b0 78 v) (h : DataW.Trod enc Try.prog W 0 (fun _ => true) true 78 v d p) :
    ∃ (la : Option Addr) (lb lof len cap : Nat), v = .slice la len cap ∧ len ≤ 9223372036854775807 ∧ (0 < len → la = some ⟨lb, lof, none⟩ ∧ lb < W.heap.size) ∧ ∀ j : Nat, j < len → ∃ q : Wd, q.Ok ∧ WdAt W lb (lof + j * 8) q := by
  obtain ⟨a0, len, cap, rfl⟩ := okWide_slice Try.underlying78 hv
  obtain ⟨fuel, hf⟩ := h
  rcases open_slice Try.underlying78 hf with ⟨hcs, _⟩ | ⟨a, len', cap', m, n, D, Pl, hcs, _, hl, hm, hmm, _, hel⟩
  · simp [Value.cells] at hcs
    obtain ⟨rfl, rfl, rfl⟩ := hcs
    exact ⟨none, 0, 0, 0, 0, rfl, by omega, by omega, by omega⟩
  · simp [Value.cells] at hcs
    obtain ⟨rfl, rfl, rfl⟩ := hcs
    simp only [if_true] at hmm
    subst hmm
    unfold maxLen at hm
    by_cases h0 : 0 < len
    · obtain ⟨cs', hc', ht'⟩ := hel 0 (by omega)
      rw [cells80] at hc'
      obtain ⟨q, _, rfl⟩ := open_word ht'
      obtain ⟨lb, lof, spot⟩ := a
      have hspot : spot = none := by
        obtain ⟨_, _, hc⟩ := World.cells?_some hc'
        have := World.cell?_spot (hc 0 (by decide))
        simpa [Addr.add] using this
      subst hspot
      refine ⟨_, lb, lof, len, _, rfl, by omega, fun _ => ⟨rfl, ?_⟩, fun j hj => ?_⟩
      · have := World.cells?_block hc' (by decide)
        simpa [Addr.add] using this
      · obtain ⟨cs', hc', ht'⟩ := hel j (by omega)
        rw [cells80, Addr.add_mid] at hc'
        obtain ⟨q, hq, rfl⟩ := open_word ht'
        exact ⟨q, hq, cells8 hc'⟩
    · exact ⟨_, 0, 0, len, _, rfl, by omega, fun h => absurd h h0, fun j hj => by omega⟩
end
end Go.Proofs.Ytbdnhllhdjepcaa
namespace Go.Proofs.Ytbdnhllhdjepcaa
set_option linter.unusedVariables false
set_option linter.unusedSimpArgs false
open Go.ChangeShapes Go.WideShapes Go.ChangeAt Go.RowKit Go.Joins Go.Deep

set_option maxRecDepth 100000 in
theorem told_lifted (os : Os) (started : os.Started) (H : Type) (enc : TypeId × Value → H) :
    ReturnsInHanded {} Try.checked os 9 .any (Rows.toldSpec.pre6 enc Try.prog Try.f9 Rows.toldRow.domain false) (Rows.toldSpec.post enc Try.prog Try.f9 false true false false) := by
  refine returnsInHanded_of_change (C := Try.checked) ownk started (by kernel_rfl) Try.func9
    (ChangeSpec.witness6 (enc := enc) (C := Try.checked) false ⟨#[], #[.agg #[.int .i64 0, .int .i64 0, .int .i64 0], .agg #[.int .i64 0, .int .i64 0, .int .i64 0], .agg #[.int .i64 0, .int .i64 0, .int .i64 0], .slice none 0 0], []⟩ 8 (by kernel_rfl) (by kernel_rfl) (by kernel_rfl) (by kernel_rfl)) ?_
  intro W base args ds gs before hval0 hW hcnd _
  have hval : ∀ (j : Nat) t v, Try.f9.params[j]? = some t → args[j]? = some v → Value.okWide Try.prog W .any base t v := hval0
  have hW' := hW
  obtain ⟨p, q, hA0, hV, rfl, hfz, hnd⟩ := hW
  have hA : DataW.TrodAll enc Try.prog W 0 (fun _ => true) true Try.f9.params.toList args.toList ds p := hA0
  rw [Try.params9] at hA hval
  obtain ⟨v0, vs0, d0, ds0, p0, pl0, hargs, rfl, rfl, h0, r0⟩ := trodAll_cons hA
  obtain ⟨v1, vs1, d1, ds1, p1, pl1, rfl, rfl, rfl, h1, r1⟩ := trodAll_cons r0
  obtain ⟨v2, vs2, d2, ds2, p2, pl2, rfl, rfl, rfl, h2, r2⟩ := trodAll_cons r1
  obtain ⟨v3, vs3, d3, ds3, p3, pl3, rfl, rfl, rfl, h3, r3⟩ := trodAll_cons r2
  obtain ⟨rfl, rfl, rfl⟩ := trodAll_nil r3
  obtain rfl : args = #[v0, v1, v2, v3] := by cases args; simp_all
  obtain ⟨rfl, rfl⟩ := trodVars_none hV
  have k0 := h0
  have lt0 := mem_lt h0
  have k1 := h1
  have lt1 := mem_lt h1
  have k2 := h2
  have lt2 := mem_lt h2
  have k3 := h3
  have lt3 := mem_lt h3
  obtain ⟨x0, y0, z0, rfl, hx0⟩ := open_rate (hval 0 23 v0 rfl rfl) h0
  obtain ⟨x1, y1, z1, rfl, hx1⟩ := open_rate (hval 1 23 v1 rfl rfl) h1
  obtain ⟨x2, y2, z2, rfl, hx2⟩ := open_rate (hval 2 23 v2 rfl rfl) h2
  obtain ⟨la3, lb3, lof3, len3, cap3, rfl, hlen3, hla3, hl3⟩ := open_words (hval 3 78 v3 rfl rfl) h3
  clear hA0 hval0
  refine (told_any x0 y0 z0 x1 y1 z1 x2 y2 z2 la3 lb3 lof3 len3 cap3 W hx0 hx1 hx2 hlen3 hla3 hl3).mono fun e W' ⟨he, hc⟩ => ?_
  subst he
  have bel := hc.below (Nat.le_refl _) (by simp)
  exact ⟨_, rfl, _, _, _, [], _, [], hW', trodAll_mk1 (shut_bool Try.underlying4 _), (trodAll_cons_mk (Below.trod laidOut (by kernel_rfl) (of_decide_eq_true (by kernel_rfl)) k0 bel lt0) (trodAll_cons_mk (Below.trod laidOut (by kernel_rfl) (of_decide_eq_true (by kernel_rfl)) k1 bel lt1) (trodAll_cons_mk (Below.trod laidOut (by kernel_rfl) (of_decide_eq_true (by kernel_rfl)) k2 bel lt2) (trodAll_cons_mk (Below.trod laidOut (by kernel_rfl) (of_decide_eq_true (by kernel_rfl)) k3 bel lt3) trodAll_mk0)))), rfl, bel.frame _, fun h => by cases h⟩

theorem told_holds : Rows.ToldSaid :=
  OpenClaim.holds_of_wide 9 Try.f9 rfl rfl rfl rfl rfl rfl rfl ⟨rfl, rfl, rfl, rfl, rfl⟩ rfl rfl rfl rfl rfl (by kernel_rfl) Try.func9 (by kernel_rfl)
    (of_decide_eq_true (by kernel_rfl)) (by unfold Func.isWrapper; first | (rw [if_pos (by decide +kernel)]; kernel_rfl) | (rw [if_neg (by decide +kernel)]; exact ⟨rfl, rfl⟩))
    (fun os started H enc _ => told_lifted os started H enc)
#print axioms told_holds
end Go.Proofs.Ytbdnhllhdjepcaa
