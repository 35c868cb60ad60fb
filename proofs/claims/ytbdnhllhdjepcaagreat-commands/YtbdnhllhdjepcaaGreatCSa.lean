import Derived.Test.YtbdnhllhdjepcaaGreatCPq
namespace Go.Proofs.YtbdnhllhdjepcaaGreat
set_option linter.unusedVariables false
set_option linter.unusedSimpArgs false
open Go.RowKit Go.Maps
open Classical

/-! ### marks that are forgotten, and marks that are kept: they keep step -/
theorem same_kl (L t u r : Int) : (kl L t u r).sameKey (kl L t u r) = true := by unfold kl; simp [Lit.sameKey]
theorem same_eq {a b : Lit} (h : a.sameKey b = true) : a = b := Classical.byContradiction fun hn => by rw [sameKey_ne hn] at h; cases h
def Mk.key (m : Mk) : Lit := kl m.L m.t m.u m.r
/-- a key that is cut as its level asks -/
structure KOk (L t u r : Int) : Prop where
  hL : 0 ≤ L ∧ L ≤ 2
  ht : U16 t
  hu : U16 u
  hr : U16 r
  cu : cutU L u = u
  cr : cutR L r = r
theorem KOk.inj {L t u r L' t' u' r' : Int} (h : KOk L t u r) (h' : KOk L' t' u' r') (e : kl L t u r = kl L' t' u' r') : L = L' ∧ t = t' ∧ u = u' ∧ r = r' :=
  kl_inj (wf64 ⟨by have := h.hL; omega, by have := h.hL; omega⟩) (wf16 h.ht) (wf16 h.hu) (wf16 h.hr) (wf64 ⟨by have := h'.hL; omega, by have := h'.hL; omega⟩) (wf16 h'.ht) (wf16 h'.hu) (wf16 h'.hr) e
theorem KOk.cut {L t u r : Int} (hL : 0 ≤ L ∧ L ≤ 2) (ht : U16 t) (hu : U16 u) (hr : U16 r) : KOk L t (cutU L u) (cutR L r) :=
  ⟨hL, ht, (cut16 hu).1, (cut16 hr).2, by unfold cutU; split <;> simp_all, by unfold cutR; split <;> simp_all⟩
structure Sim (sh now : Int) (Ds : Nat → DW) (ms : List Mk) : Prop where
  tidy : ∀ i, Tidy (Ds i)
  keys : ∀ (i : Nat) es, Ds i = .map es → ∀ p ∈ es, ∃ L t u r, p.1 = kl L t u r ∧ KOk L t u r ∧ t % sh = (i : Int)
  mok : ∀ m ∈ ms, KOk m.L m.t m.u m.r
  dist : ms.Pairwise (fun a b => a.key ≠ b.key)
  mark : ∀ L t u r, KOk L t u r → max (markOf (Ds (t % sh).toNat) (kl L t u r)) now = max (mkM ms L t u r) now
theorem Sim.mono {sh now now' : Int} {Ds : Nat → DW} {ms : List Mk} (h : Sim sh now Ds ms) (hn : now ≤ now') : Sim sh now' Ds ms :=
  ⟨h.tidy, h.keys, h.mok, h.dist, fun L t u r hk => by have := h.mark L t u r hk; omega⟩
theorem Sim.empty (sh now : Int) : Sim sh now (fun _ => .map []) [] :=
  ⟨fun _ => tidy_empty, fun i es he p hp => (by cases he; simp at hp), fun m hm => (by simp at hm), List.Pairwise.nil, fun L t u r _ => rfl⟩
theorem hit_key {m : Mk} (hm : KOk m.L m.t m.u m.r) {L t u r : Int} (hk : KOk L t u r) : hit L t u r m = true ↔ m.key = kl L t u r := by
  unfold hit Mk.key
  rw [decide_eq_true_eq, hk.cu, hk.cr]
  constructor
  · rintro ⟨h1, h2, h3, h4⟩
    rw [h1, h2, h3, h4]
  · exact fun e => hm.inj hk e
section
variable {sh now : Int} {Ds : Nat → DW} {ms : List Mk}
/-- a mark is found by its own key -/
theorem Sim.own (h : Sim sh now Ds ms) {m : Mk} (hm : m ∈ ms) : ms.find? (hit m.L m.t m.u m.r) = some m := by
  have hmk := h.mok m hm
  cases hf : ms.find? (hit m.L m.t m.u m.r) with
  | none =>
    rw [List.find?_eq_none] at hf
    exact absurd ((hit_key hmk hmk).2 rfl) (by simpa using hf m hm)
  | some m' =>
    have hm' := List.mem_of_find?_eq_some hf
    have hh := (hit_key (h.mok m' hm') hmk).1 (List.find?_some hf)
    obtain ⟨i, hi, rfl⟩ := List.mem_iff_getElem.1 hm
    obtain ⟨j, hj, rfl⟩ := List.mem_iff_getElem.1 hm'
    rcases Nat.lt_trichotomy i j with hij | hij | hij
    · exact absurd hh.symm (List.pairwise_iff_getElem.1 h.dist i j hi hj hij)
    · subst hij; rfl
    · exact absurd hh (List.pairwise_iff_getElem.1 h.dist j i hj hi hij)
theorem Sim.markOf_own (h : Sim sh now Ds ms) {m : Mk} (hm : m ∈ ms) : mkM ms m.L m.t m.u m.r = m.m := by unfold mkM; rw [h.own hm]
/-- as many are awake -/
theorem Sim.awake (h : Sim sh now Ds ms) (h0 : 0 ≤ now) (hsh : 1 ≤ sh) {i : Nat} (hi : (i : Int) < sh) : (awk ms sh now i : Int) = Maps.size (fgt now (Ds i)) := by
  obtain ⟨es, he, hp⟩ := h.tidy i
  have hm : ∀ l, markOf (Ds i) l = match es.find? (fun p => p.1.sameKey l) with | some p => num p.2 | none => 0 := fun l => by rw [he, markOf_map]; cases es.find? (fun p => p.1.sameKey l) <;> rfl
  have hsz : Maps.size (fgt now (Ds i)) = ((es.filter (fun p => decide (now < num p.2))).map (·.1)).length := by rw [he]; simp [fgt, size_eq]
  have hak : awk ms sh now i = ((ms.filter (awkP sh now i)).map Mk.key).length := by rw [List.length_map, ← List.countP_eq_length_filter]; rfl
  rw [hsz, hak]
  have ndA : ((es.filter (fun p => decide (now < num p.2))).map (·.1)).Nodup := by
    rw [List.nodup_iff_pairwise_ne, List.pairwise_map]
    exact hp.filter _
  have ndB : ((ms.filter (awkP sh now i)).map Mk.key).Nodup := by
    rw [List.nodup_iff_pairwise_ne, List.pairwise_map]
    exact h.dist.filter _
  have tn : ∀ {t : Int}, t % sh = (i : Int) → (t % sh).toNat = i := fun e => by omega
  refine congrArg _ (Nat.le_antisymm (nodup_le _ _ ndB fun y hy => ?_) (nodup_le _ _ ndA fun x hx => ?_))
  · obtain ⟨m, hm', rfl⟩ := List.mem_map.1 hy
    obtain ⟨hmm, ha⟩ := List.mem_filter.1 hm'
    unfold awkP at ha
    simp only [Bool.and_eq_true, decide_eq_true_eq] at ha
    have hk := h.mok m hmm
    have hmk := h.mark _ _ _ _ hk
    rw [tn ha.1, h.markOf_own hmm, hm] at hmk
    cases hf : es.find? (fun p => p.1.sameKey (kl m.L m.t m.u m.r)) with
    | none => rw [hf] at hmk; simp only at hmk; omega
    | some p =>
      rw [hf] at hmk
      simp only at hmk
      have hpe := List.mem_of_find?_eq_some hf
      have hps0 := List.find?_some hf
      have hps := same_eq (a := p.1) hps0
      exact List.mem_map.2 ⟨p, List.mem_filter.2 ⟨hpe, by simp; omega⟩, hps⟩
  · obtain ⟨p, hp', rfl⟩ := List.mem_map.1 hx
    obtain ⟨hpe, ha⟩ := List.mem_filter.1 hp'
    simp only [decide_eq_true_eq] at ha
    obtain ⟨L, t, u, r, hpk, hk, hti⟩ := h.keys i es he p hpe
    have hmk := h.mark _ _ _ _ hk
    have hfind : es.find? (fun q => q.1.sameKey (kl L t u r)) = some p := by
      cases hf : es.find? (fun q => q.1.sameKey (kl L t u r)) with
      | none =>
        rw [List.find?_eq_none] at hf
        exact absurd (by rw [hpk]; exact same_kl L t u r) (hf p hpe)
      | some q =>
        have hq0 := List.find?_some hf
        have hq := same_eq (a := q.1) hq0
        have hqe := List.mem_of_find?_eq_some hf
        obtain ⟨a, ha', rfl⟩ := List.mem_iff_getElem.1 hpe
        obtain ⟨b, hb', rfl⟩ := List.mem_iff_getElem.1 hqe
        rcases Nat.lt_trichotomy a b with hab | hab | hab
        · exact absurd (hpk.trans hq.symm) (List.pairwise_iff_getElem.1 hp a b ha' hb' hab)
        · subst hab; rfl
        · exact absurd (hq.trans hpk.symm) (List.pairwise_iff_getElem.1 hp b a hb' ha' hab)
    rw [tn hti, hm, hfind] at hmk
    simp only at hmk
    have hgt : now < mkM ms L t u r := by omega
    unfold mkM at hgt
    cases hf : ms.find? (hit L t u r) with
    | none => rw [hf] at hgt; simp only at hgt; omega
    | some m =>
      rw [hf] at hgt
      simp only at hgt
      have hme := List.mem_of_find?_eq_some hf
      have hkk := (hit_key (h.mok m hme) hk).1 (List.find?_some hf)
      have hin := (h.mok m hme).inj hk hkk
      refine List.mem_map.2 ⟨m, List.mem_filter.2 ⟨hme, ?_⟩, by rw [hkk, hpk]⟩
      unfold awkP
      rw [hin.2.1, hti]
      simp [hgt]
end
end Go.Proofs.YtbdnhllhdjepcaaGreat
namespace Go.Proofs.YtbdnhllhdjepcaaGreat
set_option linter.unusedVariables false
set_option linter.unusedSimpArgs false
open Go.RowKit Go.Maps
open Classical

/-! ### a mark is set on both sides -/
theorem mkM_mem {ms : List Mk} (hok : ∀ m ∈ ms, KOk m.L m.t m.u m.r) (hd : (ms.map Mk.key).Nodup) {m : Mk} (hm : m ∈ ms) {L t u r : Int} (hk : KOk L t u r) (he : m.key = kl L t u r) : mkM ms L t u r = m.m := by
  have hd' : ms.Pairwise (fun a b => a.key ≠ b.key) := by rw [List.nodup_iff_pairwise_ne, List.pairwise_map] at hd; exact hd
  have hin := (hok m hm).inj hk he
  have hs : Sim 1 0 (fun _ => .map []) [] := Sim.empty 1 0
  unfold mkM
  cases hf : ms.find? (hit L t u r) with
  | none =>
    rw [List.find?_eq_none] at hf
    exact absurd ((hit_key (hok m hm) hk).2 he) (by simpa using hf m hm)
  | some m' =>
    have hm' := List.mem_of_find?_eq_some hf
    have hh := (hit_key (hok m' hm') hk).1 (List.find?_some hf)
    have hkk : m'.key = m.key := hh.trans he.symm
    obtain ⟨i, hi, rfl⟩ := List.mem_iff_getElem.1 hm
    obtain ⟨j, hj, rfl⟩ := List.mem_iff_getElem.1 hm'
    rcases Nat.lt_trichotomy i j with hij | hij | hij
    · exact absurd hkk.symm (List.pairwise_iff_getElem.1 hd' i j hi hj hij)
    · subst hij; rfl
    · exact absurd hkk (List.pairwise_iff_getElem.1 hd' j i hj hi hij)
theorem mkM_not {ms : List Mk} (hok : ∀ m ∈ ms, KOk m.L m.t m.u m.r) {L t u r : Int} (hk : KOk L t u r) (hn : ∀ m ∈ ms, m.key ≠ kl L t u r) : mkM ms L t u r = 0 := by
  have : ms.find? (hit L t u r) = none := by
    rw [List.find?_eq_none]
    intro x hx hh
    exact hn x hx ((hit_key (hok x hx) hk).1 hh)
  unfold mkM
  rw [this]
theorem Mk.key_to (m : Mk) (x : Int) : (m.to x).key = m.key := rfl
/-- what setting a mark does to the list -/
theorem mkPut_spec {ms : List Mk} (hok : ∀ m ∈ ms, KOk m.L m.t m.u m.r) (hd : (ms.map Mk.key).Nodup) {L t u r : Int} (hk : KOk L t u r) (x : Int) :
    (∀ m ∈ mkPut ms L t u r x, KOk m.L m.t m.u m.r) ∧ ((mkPut ms L t u r x).map Mk.key).Nodup ∧ (∃ m ∈ mkPut ms L t u r x, m.key = kl L t u r ∧ m.m = x) ∧ ∀ m, m.key ≠ kl L t u r → (m ∈ mkPut ms L t u r x ↔ m ∈ ms) := by
  unfold mkPut
  cases hI : mkI ms L t u r with
  | some a =>
    obtain ⟨ha, _, hh⟩ := mkM_some hI
    have hak := (hit_key (hok _ (List.getElem_mem ha)) hk).1 hh
    simp only
    rw [modify_set ms a ha x]
    have hmap : (ms.set a (ms[a].to x)).map Mk.key = ms.map Mk.key := by
      rw [List.map_set, Mk.key_to]
      have : (ms.map Mk.key)[a]'(by simpa using ha) = ms[a].key := by simp
      rw [← this, List.set_getElem_self]
    refine ⟨fun m hm => ?_, by rw [hmap]; exact hd, ⟨ms[a].to x, List.mem_set ha _, hak, rfl⟩, fun m hm => ⟨fun h => ?_, fun h => ?_⟩⟩
    · rcases List.mem_or_eq_of_mem_set hm with hm | rfl
      · exact hok m hm
      · exact hok ms[a] (List.getElem_mem ha)
    · rcases List.mem_or_eq_of_mem_set h with h | rfl
      · exact h
      · exact absurd hak hm
    · obtain ⟨j, hj, rfl⟩ := List.mem_iff_getElem.1 h
      have hja : j ≠ a := fun e => by subst e; exact hm hak
      rw [List.mem_iff_getElem]
      exact ⟨j, by simpa using hj, by rw [List.getElem_set_ne (Ne.symm hja)]⟩
  | none =>
    have hno : ∀ m ∈ ms, m.key ≠ kl L t u r := fun m hm e => by
      unfold mkI at hI
      rw [List.findIdx?_eq_none_iff] at hI
      have := hI m hm
      rw [(hit_key (hok m hm) hk).2 e] at this
      cases this
    simp only [hk.cu, hk.cr]
    refine ⟨fun m hm => ?_, ?_, ⟨⟨L, t, u, r, x⟩, by simp, rfl, rfl⟩, fun m hm => ⟨fun h => ?_, fun h => by simp [h]⟩⟩
    · rcases List.mem_append.1 hm with hm | hm
      · exact hok m hm
      · rw [List.mem_singleton] at hm
        subst hm
        exact hk
    · rw [List.map_append, List.nodup_append]
      refine ⟨hd, by simp, fun a ha b hb e => ?_⟩
      obtain ⟨m, hm, rfl⟩ := List.mem_map.1 ha
      simp at hb
      subst hb
      exact hno m hm e
    · rcases List.mem_append.1 h with h | h
      · exact h
      · rw [List.mem_singleton] at h
        subst h
        exact absurd rfl hm
theorem mkM_put {ms : List Mk} (hok : ∀ m ∈ ms, KOk m.L m.t m.u m.r) (hd : (ms.map Mk.key).Nodup) {L t u r : Int} (hk : KOk L t u r) (x : Int) {L' t' u' r' : Int} (hk' : KOk L' t' u' r') : mkM (mkPut ms L t u r x) L' t' u' r' = if kl L' t' u' r' = kl L t u r then x else mkM ms L' t' u' r' := by
  obtain ⟨h1, h2, ⟨m, hm, hmk, hmx⟩, h4⟩ := mkPut_spec hok hd hk x
  by_cases e : kl L' t' u' r' = kl L t u r
  · rw [if_pos e, mkM_mem h1 h2 hm hk' (hmk.trans e.symm), hmx]
  · rw [if_neg e]
    by_cases hex : ∃ m ∈ ms, m.key = kl L' t' u' r'
    · obtain ⟨m', hm', he'⟩ := hex
      have hm'' := (h4 m' (fun h => e (he'.symm.trans h))).2 hm'
      rw [mkM_mem h1 h2 hm'' hk' he', mkM_mem hok hd hm' hk' he']
    · rw [mkM_not hok hk' (fun m hm he => hex ⟨m, hm, he⟩), mkM_not h1 hk' (fun m hm he => hex ⟨m, (h4 m (fun h => e (he.symm.trans h))).1 hm, he⟩)]
section
variable {sh now : Int} {Ds : Nat → DW} {ms : List Mk}
theorem Sim.nodup (h : Sim sh now Ds ms) : (ms.map Mk.key).Nodup := by rw [List.nodup_iff_pairwise_ne, List.pairwise_map]; exact h.dist
theorem Sim.put (h : Sim sh now Ds ms) {L t u r : Int} (hk : KOk L t u r) {i : Nat} (hi : t % sh = (i : Int)) (x : Int) : Sim sh now (fun j => if j = i then (Ds i).put (kl L t u r) (lu x) else Ds j) (mkPut ms L t u r x) := by
  obtain ⟨h1, h2, _, _⟩ := mkPut_spec h.mok h.nodup hk x
  have hm := h.tidy i
  have hIs : IsMap (Ds i) := by obtain ⟨es, e, _⟩ := hm; exact ⟨es, e⟩
  refine ⟨fun j => ?_, fun j es he p hp => ?_, h1, by rw [List.nodup_iff_pairwise_ne, List.pairwise_map] at h2; exact h2, fun L' t' u' r' hk' => ?_⟩
  · by_cases hj : j = i
    · simp only [if_pos hj]
      exact hm.put (isKey_kl _ _ _ _) _
    · simp only [if_neg hj]
      exact h.tidy j
  · by_cases hj : j = i
    · simp only [if_pos hj] at he
      subst hj
      obtain ⟨es0, e0, _⟩ := hm
      rw [e0] at he
      cases he
      rcases ChangeMaps.mem_insert_iff.1 hp with rfl | hp
      · exact ⟨L, t, u, r, rfl, hk, hi⟩
      · exact h.keys j es0 e0 p (List.mem_filter.1 hp).1
    · simp only [if_neg hj] at he
      exact h.keys j es he p hp
  · rw [mkM_put h.mok h.nodup hk x hk']
    by_cases e : kl L' t' u' r' = kl L t u r
    · have hin := hk'.inj hk e
      have hj : (t' % sh).toNat = i := by rw [hin.2.1, hi]; simp
      simp only [if_pos e, if_pos hj]
      rw [e, mo_same hIs (isKey_kl _ _ _ _)]
    · simp only [if_neg e]
      by_cases hj : (t' % sh).toNat = i
      · simp only [if_pos hj]
        rw [mo_other e, ← hj]
        exact h.mark L' t' u' r' hk'
      · simp only [if_neg hj]
        exact h.mark L' t' u' r' hk'
theorem Sim.forget (h : Sim sh now Ds ms) (h0 : 0 ≤ now) (i : Nat) : Sim sh now (fun j => if j = i then fgt now (Ds i) else Ds j) ms := by
  refine ⟨fun j => ?_, fun j es he p hp => ?_, h.mok, h.dist, fun L t u r hk => ?_⟩
  · by_cases hj : j = i
    · simp only [if_pos hj]; exact tidy_fgt (h.tidy i) now
    · simp only [if_neg hj]; exact h.tidy j
  · by_cases hj : j = i
    · simp only [if_pos hj] at he
      subst hj
      obtain ⟨es0, e0, _⟩ := h.tidy j
      rw [e0] at he
      cases he
      exact h.keys j es0 e0 p (List.mem_filter.1 hp).1
    · simp only [if_neg hj] at he
      exact h.keys j es he p hp
  · by_cases hj : (t % sh).toNat = i
    · simp only [if_pos hj]
      rw [max_fgt (h.tidy i) (Int.le_refl _) h0, ← hj]
      exact h.mark L t u r hk
    · simp only [if_neg hj]
      exact h.mark L t u r hk
end
end Go.Proofs.YtbdnhllhdjepcaaGreat
namespace Go.Proofs.YtbdnhllhdjepcaaGreat
set_option linter.unusedVariables false
set_option linter.unusedSimpArgs false
open Go.RowKit Go.Maps
open Classical

/-! ### a request: the program's answer is the document's -/
theorem cutU_cut (L u : Int) : cutU L (cutU L u) = cutU L u := by unfold cutU; split <;> rfl
theorem cutR_cut (L r : Int) : cutR L (cutR L r) = cutR L r := by unfold cutR; split <;> rfl
theorem hit_cut (L t u r : Int) : hit L t (cutU L u) (cutR L r) = hit L t u r := by funext m; unfold hit; rw [cutU_cut, cutR_cut]
theorem mkM_cut (ms : List Mk) (L t u r : Int) : mkM ms L t (cutU L u) (cutR L r) = mkM ms L t u r := by unfold mkM; rw [hit_cut]
theorem mkPut_cut (ms : List Mk) (L t u r x : Int) : mkPut ms L t (cutU L u) (cutR L r) x = mkPut ms L t u r x := by unfold mkPut mkI; rw [hit_cut, cutU_cut, cutR_cut]
theorem repTo_congr {f g : Nat → Int × Int} : ∀ k, (∀ j, j < k → f j = g j) → repTo f k = repTo g k
  | 0, _ => rfl
  | k + 1, h => by
    have ih := repTo_congr k (fun j hj => h j (by omega))
    unfold repTo
    rw [ih, h k (by omega)]
theorem msTo_congr (ms : List Mk) (t u r : Int) {f g : Nat → Int × Int} : ∀ k, (∀ j, j < k → f j = g j) → msTo ms t u r f k = msTo ms t u r g k
  | 0, _ => rfl
  | k + 1, h => by
    unfold msTo
    rw [msTo_congr ms t u r k (fun j hj => h j (by omega)), h k (by omega)]
theorem kok (k : Nat) (hk : k < 3) {t u r : Int} (ht : U16 t) (hu : U16 u) (hr : U16 r) : KOk k t (cutU k u) (cutR k r) := KOk.cut ⟨by omega, by omega⟩ ht hu hr
section
variable {Ds : Nat → DW} {s : Rf} {t u r : Int} {i : Nat}
theorem Sim.maxk (h : Sim s.c.sh s.T Ds s.ms) (ht : U16 t) (hu : U16 u) (hr : U16 r) (hi : t % s.c.sh = (i : Int)) {k : Nat} (hk : k < 3) : max (markOf (Ds i) (plk t u r k)) s.T = max (mkM s.ms k t u r) s.T := by
  have := h.mark _ _ _ _ (kok k hk ht hu hr)
  rw [mkM_cut, ← plk_eq t u r hk, show (t % s.c.sh).toNat = i from by omega] at this
  exact this
theorem Sim.asks (h : Sim s.c.sh s.T Ds s.ms) (hc : CfOk s.c s.os) (hov : ∀ o ∈ s.os, o.Ok) (h0 : 0 ≤ s.T) (ht : U16 t) (hu : U16 u) (hr : U16 r) (hi : t % s.c.sh = (i : Int)) (cost : Int) {k : Nat} (hk : k < 3) : askAt (plnTo s.c s.os s.os.length) (fgt s.T (Ds i)) s.T cost t u r k = s.f cost t u r k := by
  unfold askAt Rf.f
  rw [pln_at hov hc ht hu hr hk, ask_max, max_fgt (h.tidy i) (Int.le_refl _) h0, h.maxk ht hu hr hi hk, ← ask_max]
theorem Sim.rooms (h : Sim s.c.sh s.T Ds s.ms) (hc : CfOk s.c s.os) (h0 : 0 ≤ s.T) (ht : U16 t) (hu : U16 u) (hr : U16 r) (hi : t % s.c.sh = (i : Int)) : (Maps.size (fgt s.T (Ds i)) : Int) + miss (fgt s.T (Ds i)) t u r 3 = roomN s t u r := by
  have hm : ∀ k, k ≤ 3 → miss (fgt s.T (Ds i)) t u r k = slp s.ms s.T t u r k := by
    intro k
    induction k with
    | zero => intro _; rfl
    | succ k ih =>
      intro hk
      unfold miss slp
      rw [ih (by omega), has_fgt (h.tidy i) h0]
      have := h.maxk ht hu hr hi (show k < 3 by omega)
      by_cases hlt : s.T < markOf (Ds i) (plk t u r k)
      · rw [if_pos (by simpa using hlt), if_neg (by omega)]
      · rw [if_neg (by simpa using hlt), if_pos (by omega)]
  have hlt : (i : Int) < s.c.sh := by rw [← hi]; exact Int.emod_lt_of_pos t (by have := hc.sh; omega)
  have hak := h.awake h0 hc.sh.1 hlt
  unfold roomN
  rw [hm 3 (Nat.le_refl _), hi, hak]
theorem Sim.allow (h : Sim s.c.sh s.T Ds s.ms) (hc : CfOk s.c s.os) (hov : ∀ o ∈ s.os, o.Ok) (h0 : 0 ≤ s.T) (ht : U16 t) (hu : U16 u) (hr : U16 r) (hi : t % s.c.sh = (i : Int)) (cost : Int) :
    (allowD (plnTo s.c s.os s.os.length) s.c.sl (Ds i) s.T cost t u r).1 = s.rep cost t u r ∧ Sim s.c.sh s.T (fun j => if j = i then (allowD (plnTo s.c s.os s.os.length) s.c.sl (Ds i) s.T cost t u r).2 else Ds j) (s.ms' cost t u r) := by
  have hf : ∀ k, k < 3 → askAt (plnTo s.c s.os s.os.length) (fgt s.T (Ds i)) s.T cost t u r k = s.f cost t u r k := fun k hk => h.asks hc hov h0 ht hu hr hi cost hk
  have hrep := repTo_congr (f := askAt (plnTo s.c s.os s.os.length) (fgt s.T (Ds i)) s.T cost t u r) (g := s.f cost t u r) 3 hf
  unfold allowD Rf.rep Rf.ms'
  rw [h.rooms hc h0 ht hu hr hi, hrep, hf 0 (by omega), hf 1 (by omega), hf 2 (by omega)]
  by_cases hroom : roomN s t u r ≤ s.c.sl
  · by_cases hz : (repTo (s.f cost t u r) 3).1 = 0
    · simp only [if_pos hroom, if_pos hz, if_pos (show roomN s t u r ≤ s.c.sl ∧ (repTo (s.f cost t u r) 3).1 = 0 from ⟨hroom, hz⟩)]
      refine ⟨trivial, ?_⟩
      have s1 := (h.forget h0 i).put (kok 0 (by omega) ht hu hr) hi (s.f cost t u r 0).1
      have s2 := s1.put (kok 1 (by omega) ht hu hr) hi (s.f cost t u r 1).1
      have s3 := s2.put (kok 2 (by omega) ht hu hr) hi (s.f cost t u r 2).1
      rw [mkPut_cut, mkPut_cut, mkPut_cut] at s3
      have e : (fun j => if j = i then putTo (fgt s.T (Ds i)) t u r (s.f cost t u r 0).1 (s.f cost t u r 1).1 (s.f cost t u r 2).1 3 else Ds j) = _ := rfl
      have key : ∀ {A B : Nat → DW}, A = B → Sim s.c.sh s.T A (msTo s.ms t u r (s.f cost t u r) 3) → Sim s.c.sh s.T B (msTo s.ms t u r (s.f cost t u r) 3) := fun e h => e ▸ h
      refine key ?_ s3
      funext j
      by_cases hj : j = i
      · subst hj
        simp only [if_true]
        rfl
      · simp only [if_neg hj]
    · simp only [if_pos hroom, if_neg hz, if_neg (fun h : roomN s t u r ≤ s.c.sl ∧ (repTo (s.f cost t u r) 3).1 = 0 => hz h.2)]
      exact ⟨trivial, h.forget h0 i⟩
  · simp only [if_neg hroom, if_neg (fun h : roomN s t u r ≤ s.c.sl ∧ (repTo (s.f cost t u r) 3).1 = 0 => hroom h.1)]
    exact ⟨trivial, h.forget h0 i⟩
end
end Go.Proofs.YtbdnhllhdjepcaaGreat
