import Derived.Test.YtbdnhllhdjepcaaRow5
namespace Go.Proofs.Ytbdnhllhdjepcaa
set_option linter.unusedVariables false
set_option linter.unusedSimpArgs false
open Go.RowKit Go.Maps

/-! ### how many keys are awake -/
/-- none of these shares the key's place -/
def lone (gs : List Gr) (lv t u r : Int) : Bool := !(gs.any fun x => shr lv x.kt x.ku x.kr t u r)
theorem lone_take (gs : List Gr) (lv t u r : Int) (j : Nat) (h : j < gs.length) : lone (gs.take (j + 1)) lv t u r = (lone (gs.take j) lv t u r && !(shr lv gs[j].kt gs[j].ku gs[j].kr t u r)) := by
  unfold lone
  rw [← List.take_append_getElem h, List.any_append, Bool.not_or]
  simp [-List.take_append_getElem]
def awk (gs : List Gr) (lv iv now : Int) (i : Nat) : Bool := match gs[i]? with
  | some g => lone (gs.take i) lv g.kt g.ku g.kr && decide (now < untilL gs lv g.kt g.ku g.kr iv)
  | none => false
theorem awk_at (gs : List Gr) (lv iv now : Int) (i : Nat) (h : i < gs.length) : awk gs lv iv now i = (lone (gs.take i) lv gs[i].kt gs[i].ku gs[i].kr && decide (now < untilL gs lv gs[i].kt gs[i].ku gs[i].kr iv)) := by
  unfold awk
  rw [List.getElem?_eq_getElem h]
def cnt (gs : List Gr) (lv iv now : Int) : Nat → Int
  | 0 => 0
  | i + 1 => cnt gs lv iv now i + (if awk gs lv iv now i then 1 else 0)
theorem cnt_bd (gs : List Gr) (lv iv now : Int) (i : Nat) : 0 ≤ cnt gs lv iv now i ∧ cnt gs lv iv now i ≤ i := by
  induction i with
  | zero => simp [cnt]
  | succ i ih => unfold cnt; split <;> omega
def slp (gs : List Gr) (lv iv t u r now : Int) : Int := if untilL gs lv t u r iv ≤ now then 1 else 0
theorem slp_bd (gs : List Gr) (lv iv t u r now : Int) : 0 ≤ slp gs lv iv t u r now ∧ slp gs lv iv t u r now ≤ 1 := by unfold slp; split <;> omega
/-- the keys awake, with those of a request that are not, of the first levels -/
def placesL (gs : List Gr) (p : Pln) (t u r now : Int) : Nat → Int
  | 0 => 0
  | a + 1 => placesL gs p t u r now a + slp gs a (p.lev a).1 t u r now + cnt gs a (p.lev a).1 now gs.length
def wk (gs : List Gr) (a : Nat) (iv now : Int) : Nat → List Lit
  | 0 => []
  | i + 1 => wk gs a iv now i ++ (if awk gs a iv now i then [match gs[i]? with | some g => plk g.kt g.ku g.kr a | none => kl 0 0 0 0] else [])
theorem wk_len (gs : List Gr) (a : Nat) (iv now : Int) : ∀ i, ((wk gs a iv now i).length : Int) = cnt gs a iv now i
  | 0 => rfl
  | i + 1 => by
    unfold wk cnt
    rw [List.length_append, ← wk_len gs a iv now i]
    split <;> simp
theorem wk_mem (gs : List Gr) (a : Nat) (iv now : Int) : ∀ i, i ≤ gs.length → ∀ x ∈ wk gs a iv now i, ∃ j, ∃ h : j < gs.length, j < i ∧ x = plk gs[j].kt gs[j].ku gs[j].kr a ∧ now < untilL gs a gs[j].kt gs[j].ku gs[j].kr iv
  | 0, _, x, hx => by simp [wk] at hx
  | i + 1, hi, x, hx => by
    unfold wk at hx
    rcases List.mem_append.1 hx with hx | hx
    · obtain ⟨j, h, hj, e1, e2⟩ := wk_mem gs a iv now i (by omega) x hx
      exact ⟨j, h, by omega, e1, e2⟩
    · have hl : i < gs.length := by omega
      rw [awk_at _ _ _ _ _ hl, List.getElem?_eq_getElem hl] at hx
      split at hx
      · rename_i hc
        simp only [Bool.and_eq_true, decide_eq_true_eq] at hc
        simp only [List.mem_singleton] at hx
        exact ⟨i, hl, by omega, hx, hc.2⟩
      · simp at hx
theorem wk_nodup (gs : List Gr) (a : Nat) (iv now : Int) (hr : ∀ g ∈ gs, Rng g.kt g.ku g.kr) (ha : a < 3) : ∀ i, i ≤ gs.length → (wk gs a iv now i).Nodup
  | 0, _ => by simp [wk]
  | i + 1, hi => by
    have hl : i < gs.length := by omega
    unfold wk
    rw [awk_at _ _ _ _ _ hl, List.getElem?_eq_getElem hl]
    split
    · rename_i hc
      simp only [Bool.and_eq_true, decide_eq_true_eq] at hc
      rw [List.nodup_append]
      refine ⟨wk_nodup gs a iv now hr ha i (by omega), by simp, fun x hx y hy e => ?_⟩
      simp only [List.mem_singleton] at hy
      obtain ⟨j, h, hj, e1, _⟩ := wk_mem gs a iv now i (by omega) x hx
      rw [e, hy] at e1
      have hs := (plk_shr (hr _ (List.getElem_mem hl)) (hr _ (List.getElem_mem h)) ha).1 e1
      have hs' := (plk_shr (hr _ (List.getElem_mem h)) (hr _ (List.getElem_mem hl)) ha).1 e1.symm
      have hlo := hc.1
      unfold lone at hlo
      simp only [Bool.not_eq_true', List.any_eq_false] at hlo
      have := hlo gs[j] (by rw [List.mem_take_iff_getElem]; exact ⟨j, by omega, rfl⟩)
      exact this hs'
    · rw [List.append_nil]
      exact wk_nodup gs a iv now hr ha i (by omega)
theorem wk_mono (gs : List Gr) (a : Nat) (iv now : Int) {x : Lit} {i : Nat} (h : x ∈ wk gs a iv now i) : ∀ d, x ∈ wk gs a iv now (i + d)
  | 0 => h
  | d + 1 => by
    show x ∈ wk gs a iv now (i + d + 1)
    unfold wk
    exact List.mem_append.2 (Or.inl (wk_mono gs a iv now h d))
theorem wk_all (gs : List Gr) (a : Nat) (iv now : Int) (hr : ∀ g ∈ gs, Rng g.kt g.ku g.kr) (ha : a < 3) : ∀ n j : Nat, j < n → ∀ h : j < gs.length, now < untilL gs a gs[j].kt gs[j].ku gs[j].kr iv → plk gs[j].kt gs[j].ku gs[j].kr a ∈ wk gs a iv now gs.length
  | 0, j, hj, _, _ => by omega
  | n + 1, j, hj, h, hw => by
    by_cases hlo : lone (gs.take j) a gs[j].kt gs[j].ku gs[j].kr = true
    · have hc : awk gs a iv now j = true := by
        rw [awk_at _ _ _ _ _ h]
        simp [hlo, hw]
      have : plk gs[j].kt gs[j].ku gs[j].kr a ∈ wk gs a iv now (j + 1) := by
        unfold wk
        rw [hc, List.getElem?_eq_getElem h]
        simp
      have := wk_mono gs a iv now this (gs.length - (j + 1))
      rwa [show j + 1 + (gs.length - (j + 1)) = gs.length from by omega] at this
    · unfold lone at hlo
      simp only [Bool.not_eq_true, Bool.not_eq_false', List.any_eq_true] at hlo
      obtain ⟨x, hx, hs⟩ := hlo
      rw [List.mem_take_iff_getElem] at hx
      obtain ⟨m, hm, rfl⟩ := hx
      have hml : m < gs.length := by omega
      have e := (plk_shr (hr _ (List.getElem_mem hml)) (hr _ (List.getElem_mem h)) ha).2 hs
      rw [← e]
      refine wk_all gs a iv now hr ha n m (by omega) hml ?_
      rw [untilL_congr hs]
      exact hw
theorem until_pos (lv t u r iv : Int) (gs : List Gr) : 0 < untilL gs lv t u r iv → ∃ g ∈ gs, shr lv g.kt g.ku g.kr t u r = true := by
  refine snoc_ind (P := fun gs => 0 < untilL gs lv t u r iv → ∃ g ∈ gs, shr lv g.kt g.ku g.kr t u r = true) ?_ ?_ gs
  · intro h; simp [untilL] at h
  · intro gs g ih h
    rw [untilL_snoc] at h
    unfold ust at h
    by_cases hs : shr lv g.kt g.ku g.kr t u r = true
    · exact ⟨g, by simp, hs⟩
    · rw [if_neg hs] at h
      obtain ⟨x, hx, e⟩ := ih h
      exact ⟨x, by simp [hx], e⟩
theorem univ_inv {x : Lit} (h : x ∈ univ) : ∃ a : Nat, a < 3 ∧ ∃ t u r, Rng t u r ∧ x = plk t u r a := by
  unfold univ at h
  simp only [List.mem_append, List.mem_map, List.mem_flatMap] at h
  have h3 : ∀ y : Int, y ∈ ([0, 1, 2] : List Int) → 0 ≤ y ∧ y < 3 := fun y hy => by simp at hy; omega
  have h2 : ∀ y : Int, y ∈ ([0, 1] : List Int) → 0 ≤ y ∧ y < 2 := fun y hy => by simp at hy; omega
  rcases h with (⟨t, ht, rfl⟩ | ⟨t, ht, u, hu, rfl⟩) | ⟨t, ht, u, hu, r, hr, rfl⟩
  · exact ⟨0, by decide, t, 0, 0, ⟨h3 t ht, by decide, by decide⟩, rfl⟩
  · exact ⟨1, by decide, t, u, 0, ⟨h3 t ht, h2 u hu, by decide⟩, rfl⟩
  · exact ⟨2, by decide, t, u, r, ⟨h3 t ht, h2 u hu, h2 r hr⟩, rfl⟩
theorem KI.awake {p : Pln} {now : Int} {D : DW} {gs : List Gr} (h : KI p now D gs) (h0 : 0 ≤ now) {a : Nat} (ha : a < 3) {t u r : Int} (hr : Rng t u r) : Maps.has (Go.Proofs.Ytbdnhllhdjepcaa.fgt now D) (plk t u r a) = decide (now < untilL gs a t u r (p.lev a).1) := by
  rw [has_fgt h.tm.tidy h0]
  have := h.rel a ha t u r hr
  rw [Bool.eq_iff_iff, decide_eq_true_eq, decide_eq_true_eq]
  omega
theorem KI.size {p : Pln} {now : Int} {D : DW} {gs : List Gr} (h : KI p now D gs) (h0 : 0 ≤ now) : (Maps.size (Go.Proofs.Ytbdnhllhdjepcaa.fgt now D) : Int) = cnt gs 0 (p.lev 0).1 now gs.length + cnt gs 1 (p.lev 1).1 now gs.length + cnt gs 2 (p.lev 2).1 now gs.length := by
  have hrg : ∀ g ∈ gs, Rng g.kt g.ku g.kr := fun g hg => (h.rng g hg).1
  have haw : ∀ (a : Nat), a < 3 → ∀ t u r, Rng t u r → Maps.has (Go.Proofs.Ytbdnhllhdjepcaa.fgt now D) (plk t u r a) = decide (now < untilL gs a t u r (p.lev a).1) := fun a ha t u r hr => h.awake h0 ha hr
  have hf := h.tm.fgt (now' := now)
  obtain ⟨es, e, hp⟩ := hf.tidy
  obtain ⟨es', e', hs⟩ := hf.sub
  rw [e] at e' haw ⊢
  cases e'
  have hm : ∀ l : Lit, WideAt.IsKeyLit l → (l ∈ es.map (fun p => p.1) ↔ Maps.has (.map es : DW) l = true) := fun l hl => by
    rw [has_eq, List.any_eq_true, List.mem_map]
    constructor
    · rintro ⟨q, hq, rfl⟩; exact ⟨q, hq, WideAt.sameKey_self hl⟩
    · rintro ⟨q, hq, hk⟩; exact ⟨q, hq, WideAt.sameKey_eq hk⟩
  have hnd : (es.map (fun p => p.1)).Nodup := by rw [List.nodup_iff_pairwise_ne, List.pairwise_map]; exact hp
  have hK : (wk gs 0 (p.lev 0).1 now gs.length ++ wk gs 1 (p.lev 1).1 now gs.length ++ wk gs 2 (p.lev 2).1 now gs.length).Nodup := by
    have dj : ∀ a b : Nat, a < 3 → b < 3 → a ≠ b → ∀ x ∈ wk gs a (p.lev a).1 now gs.length, ∀ y ∈ wk gs b (p.lev b).1 now gs.length, x ≠ y := fun a b ha hb hab x hx y hy => by
      obtain ⟨j, hj, _, e1, _⟩ := wk_mem _ _ _ _ _ (Nat.le_refl _) x hx
      obtain ⟨m, hm, _, e2, _⟩ := wk_mem _ _ _ _ _ (Nat.le_refl _) y hy
      rw [e1, e2]
      exact plk_ne (hrg _ (List.getElem_mem hj)) (hrg _ (List.getElem_mem hm)) ha hb hab
    rw [List.nodup_append, List.nodup_append]
    refine ⟨⟨wk_nodup _ _ _ _ hrg (by decide) _ (Nat.le_refl _), wk_nodup _ _ _ _ hrg (by decide) _ (Nat.le_refl _), dj 0 1 (by decide) (by decide) (by decide)⟩, wk_nodup _ _ _ _ hrg (by decide) _ (Nat.le_refl _), fun x hx y hy => ?_⟩
    rcases List.mem_append.1 hx with hx | hx
    · exact dj 0 2 (by decide) (by decide) (by decide) x hx y hy
    · exact dj 1 2 (by decide) (by decide) (by decide) x hx y hy
  have hsub1 : ∀ x ∈ es.map (fun p => p.1), x ∈ wk gs 0 (p.lev 0).1 now gs.length ++ wk gs 1 (p.lev 1).1 now gs.length ++ wk gs 2 (p.lev 2).1 now gs.length := fun x hx => by
    have hxu : x ∈ univ := by
      obtain ⟨q, hq, rfl⟩ := List.mem_map.1 hx
      exact hs q hq
    obtain ⟨a, ha, t, u, r, hr, rfl⟩ := univ_inv hxu
    have hx := (hm _ (isKey_plk t u r a)).1 hx
    rw [haw a ha t u r hr, decide_eq_true_eq] at hx
    obtain ⟨g, hg, hsh⟩ := until_pos a t u r (p.lev a).1 gs (by omega)
    have hgr := hrg g hg
    obtain ⟨j, hj, rfl⟩ := List.mem_iff_getElem.1 hg
    rw [← untilL_congr hsh] at hx
    have := wk_all gs a (p.lev a).1 now hrg ha (j + 1) j (by omega) hj hx
    rw [(plk_shr hgr hr ha).2 hsh] at this
    simp only [List.mem_append]
    rcases (show a = 0 ∨ a = 1 ∨ a = 2 from by omega) with rfl | rfl | rfl
    · exact Or.inl (Or.inl this)
    · exact Or.inl (Or.inr this)
    · exact Or.inr this
  have hsub2 : ∀ x ∈ wk gs 0 (p.lev 0).1 now gs.length ++ wk gs 1 (p.lev 1).1 now gs.length ++ wk gs 2 (p.lev 2).1 now gs.length, x ∈ es.map (fun p => p.1) := fun x hx => by
    have go : ∀ a : Nat, a < 3 → x ∈ wk gs a (p.lev a).1 now gs.length → x ∈ es.map (fun p => p.1) := fun a ha hx => by
      obtain ⟨j, hj, _, rfl, e2⟩ := wk_mem _ _ _ _ _ (Nat.le_refl _) x hx
      rw [hm _ (isKey_plk _ _ _ a), haw a ha _ _ _ (hrg _ (List.getElem_mem hj)), decide_eq_true_eq]
      exact e2
    rcases List.mem_append.1 hx with hx | hx
    · rcases List.mem_append.1 hx with hx | hx
      · exact go 0 (by decide) hx
      · exact go 1 (by decide) hx
    · exact go 2 (by decide) hx
  have l1 := nodup_le _ _ hnd hsub1
  have l2 := nodup_le _ _ hK hsub2
  have c0 := wk_len gs 0 (p.lev 0).1 now gs.length
  have c1 := wk_len gs 1 (p.lev 1).1 now gs.length
  have c2 := wk_len gs 2 (p.lev 2).1 now gs.length
  rw [size_eq]
  rw [List.length_append, List.length_append, List.length_map] at l1 l2
  have n0 : ((0 : Nat) : Int) = 0 := rfl
  have n1 : ((1 : Nat) : Int) = 1 := rfl
  have n2 : ((2 : Nat) : Int) = 2 := rfl
  rw [n0] at c0
  rw [n1] at c1
  rw [n2] at c2
  omega
theorem KI.places {p : Pln} {now : Int} {D : DW} {gs : List Gr} (h : KI p now D gs) (h0 : 0 ≤ now) {t u r : Int} (hr : Rng t u r) : (Maps.size (Go.Proofs.Ytbdnhllhdjepcaa.fgt now D) : Int) + miss (Go.Proofs.Ytbdnhllhdjepcaa.fgt now D) t u r 3 = placesL gs p t u r now 3 := by
  have hs := h.size h0
  have hm : ∀ a : Nat, a < 3 → (if Maps.has (Go.Proofs.Ytbdnhllhdjepcaa.fgt now D) (plk t u r a) then 0 else 1 : Int) = slp gs a (p.lev a).1 t u r now := fun a ha => by
    rw [h.awake h0 ha hr]
    unfold slp
    by_cases hh : now < untilL gs a t u r (p.lev a).1
    · rw [if_pos (by simpa using hh), if_neg (by omega)]
    · rw [if_neg (by simpa using hh), if_pos (by omega)]
  have m0 := hm 0 (by decide)
  have m1 := hm 1 (by decide)
  have m2 := hm 2 (by decide)
  have e : miss (Go.Proofs.Ytbdnhllhdjepcaa.fgt now D) t u r 3 = 0 + (if Maps.has (Go.Proofs.Ytbdnhllhdjepcaa.fgt now D) (plk t u r 0) then 0 else 1 : Int) + (if Maps.has (Go.Proofs.Ytbdnhllhdjepcaa.fgt now D) (plk t u r 1) then 0 else 1 : Int) + (if Maps.has (Go.Proofs.Ytbdnhllhdjepcaa.fgt now D) (plk t u r 2) then 0 else 1 : Int) := rfl
  have e2 : placesL gs p t u r now 3 = 0 + slp gs (0 : Nat) (p.lev 0).1 t u r now + cnt gs (0 : Nat) (p.lev 0).1 now gs.length + slp gs (1 : Nat) (p.lev 1).1 t u r now + cnt gs (1 : Nat) (p.lev 1).1 now gs.length + slp gs (2 : Nat) (p.lev 2).1 t u r now + cnt gs (2 : Nat) (p.lev 2).1 now gs.length := rfl
  have n0 : ((0 : Nat) : Int) = 0 := rfl
  have n1 : ((1 : Nat) : Int) = 1 := rfl
  have n2 : ((2 : Nat) : Int) = 2 := rfl
  rw [e, e2, m0, m1, m2, hs, n0, n1, n2]
  omega
/-- few places and many give the same replies, but where more keys than places would be awake -/
theorem KI.two {p : Pln} {now : Int} {D D2 : DW} {gs : List Gr} (h : KI p now D gs) (h2 : KI p now D2 gs) (h0 : 0 ≤ now) {s cost t u r : Int} (hr : Rng t u r) :
    (s < placesL gs p t u r now 3 → allowD p s D now cost t u r = ((2, 0, 0), Go.Proofs.Ytbdnhllhdjepcaa.fgt now D)) ∧
    (placesL gs p t u r now 3 ≤ s → allowD p s D now cost t u r = allowD p 64 D now cost t u r) ∧
    (allowD p 64 D now cost t u r).1 = (allowD p 64 D2 now cost t u r).1 := by
  have hpl := h.places h0 hr
  refine ⟨fun hs => ?_, fun hs => ?_, ?_⟩
  · unfold allowD
    rw [if_neg (by omega)]
  · unfold allowD
    rw [if_pos (by omega), if_pos (room_ok h.tm t u r)]
  · rw [allowD_room h.tm h0, allowD_room h2.tm h0]
    have e : ∀ a : Nat, a < 3 → askAt p D now cost t u r a = askAt p D2 now cost t u r a := fun a ha => by
      unfold askAt
      rw [ask_max, h.rel a ha t u r hr, ← h2.rel a ha t u r hr, ← ask_max]
    have e3 : ∀ f g : Nat → Int × Int, (∀ a, a < 3 → f a = g a) → repTo f 3 = repTo g 3 := fun f g hfg => by
      have q0 := hfg 0 (by decide)
      have q1 := hfg 1 (by decide)
      have q2 := hfg 2 (by decide)
      simp only [repTo, q0, q1, q2]
    exact e3 _ _ e
end Go.Proofs.Ytbdnhllhdjepcaa
