import Derived.Test.YtbdnhllhdjepcaaIsort
import Derived.BigQuiet
namespace Go.Proofs.Ytbdnhllhdjepcaa
set_option linter.unusedVariables false
set_option linter.unusedSimpArgs false
open Go.RowKit Go.Maps

/-- what polled leaves -/
structure Pd (w w' : World) (mb ab nn : Nat) (now : Int) (s s' : Qs) (k : Nat) (hv hv' : Value) (W' : List It) : Prop where
  mtr : MeterAt w' mb now ab nn s.qb
  at_ : QAt w' s'
  same : SameQ s s'
  n : s'.n = s.n
  D : s'.D = s.D
  es : s'.es = s.es
  ws : s'.ws = s.ws.drop k
  srt : s'.ws = isort W'
  row : Rw w' 75 3 hv' W'.length (icells W')
  chg : Chg s.fp w w'
  fp : ∀ b ∈ s'.fp, b ∈ s.fp ∨ w.heap.size ≤ b
  new : ∀ b ∈ own hv', (b ∈ own hv ∨ w.heap.size ≤ b) ∧ b ∉ s'.fp
def PdE (w : World) (mb ab nn : Nat) (now most : Int) (s : Qs) (hv : Value) (e : Ending) (w' : World) : Prop := ∃ k s' hv' W', Cnt s.ws most now k ∧ e = .returned (.tuple #[hv', .bool true]) ∧ Pd w w' mb ab nn now s s' k hv hv' W'
theorem own_rw {w : World} {base : Nat} {e : TypeId} {sz n : Nat} {v : Value} {xs : List Value} (h : w.ownsRow base e sz v n xs) (h1 : ∀ u ∈ xs, u.oneCell' = true) : Rw w e sz v n xs ∧ ∀ b ∈ own v, base ≤ b := by
  refine ⟨⟨h.1, h1, ?_⟩, fun b hb => ?_⟩
  · rcases h.2 with ⟨rfl, h0⟩ | ⟨g, cap, cur, rfl, hb, hg, hnc, hcm, hcs, htk⟩
    · exact .inl ⟨rfl, h0⟩
    · refine .inr ⟨g, cap, [], cur.toList.drop (n * sz), rfl, ?_, hnc, hcm, ?_⟩
      · have e1 : ([] ++ (xs ++ cur.toList.drop (n * sz))).toArray = cur := by rw [← htk, List.nil_append, List.take_append_drop]
        rw [e1]; exact hg
      · rw [List.length_drop, Array.length_toList, hcs]
        have : n * sz ≤ cap * sz := Nat.mul_le_mul_right _ hnc
        omega
  · rw [mem_own] at hb
    rcases h.2 with ⟨rfl, _⟩ | ⟨g, cap, cur, rfl, hb', _⟩
    · cases hb
    · cases hb; exact hb'
theorem ic_one (ws : List It) : ∀ u ∈ icells ws, u.oneCell' = true := fun u hu => by
  simp only [icells, List.mem_flatMap, icl] at hu
  obtain ⟨a, _, hu⟩ := hu
  simp at hu
  rcases hu with rfl | rfl | rfl <;> rfl

set_option maxRecDepth 100000 in
set_option maxHeartbeats 8000000 in
theorem polled_any (mb ab nn : Nat) (s : Qs) (most now : Int) (W : List It) (hv : Value) (w : World) (hm : MeterAt w mb now ab nn s.qb) (hq : QAt w s) (hws : s.ws = isort W) (hr : Rw w 75 3 hv W.length (icells W)) (hdis : ∀ b ∈ own hv, b ∉ s.fp) (hlen : W.length ≤ 100) (hm0 : 0 ≤ most) (hm1 : most ≤ 1000000) (h0 : 0 ≤ now) (h1 : now ≤ 1000000) :
    Calls Try.prog 24 #[.pointer (some ⟨mb, 0, none⟩), hv, .int .i64 most, .int .i64 now] w fun e w' => PdE w mb ab nn now most s hv e w' := by
  obtain ⟨i0, ek⟩ := ek75
  have HI0 : Hid (EK 65 75 i0 (.agg #[.int .u16 0, .int .u32 0, .int .u64 0]) 3 16) := ek
  have hrlt : ∀ b ∈ own hv, b < w.heap.size := fun b hb => hr.lt (mem_own.1 hb)
  obtain ⟨bs0, cp0, hv0⟩ := hr.val
  have HMP : Hid (Calls Try.prog 26 #[.pointer (some ⟨mb, 0, none⟩), .int .i64 most] w fun e w1 => ∃ k v' bs cp, Cnt s.ws most now k ∧ e = .returned v' ∧ v' = .slice bs k cp ∧ Rw w1 75 3 v' k (icells (s.ws.take k)) ∧ Rw w1 75 3 hv W.length (icells W) ∧ w.heap.size ≤ w1.heap.size ∧
      ∀ (W' : List It) (hv' : Value) (wE : World), isort W' = (isort W).drop k → Rw wE 75 3 hv' W'.length (icells W') → Chg [] w1 wE → (∀ b ∈ own hv', b ∈ own hv ∨ w1.heap.size ≤ b) → PdE w mb ab nn now most s hv (.returned (.tuple #[hv', .bool true])) wE) := by
    refine (MPoll mb ab nn s most now w hm hq hm0 hm1 (by rw [hws, isort_len]; omega)).mono ?_
    rintro e w1 ⟨hm1', k, s', v', hcn, rfl, hp⟩
    obtain ⟨bs, cp, hvv⟩ := hp.told.val
    have hsz := hp.chg.size
    refine ⟨k, v', bs, cp, hcn, rfl, hvv, hp.told, hr.chg hp.chg (fun b hb => hdis b (mem_own.2 hb)), hsz, fun W' hv' wE hi hrw hcE hox => ⟨k, s', hv', W', hcn, rfl, ?_⟩⟩
    have hqE := hp.at_.chg hcE (by simp)
    refine ⟨hcE.blk hm1' (by simp), hqE, hp.same, hp.n, hp.D, hp.es, hp.ws, by rw [hp.ws, hws, hi], hrw, hp.chg.trans hcE (by simp), hp.fp, fun b hb => ?_⟩
    rcases hox b hb with h | h
    · refine ⟨Or.inl h, fun hm => ?_⟩
      rcases hp.fp b hm with h' | h'
      · exact hdis b h h'
      · have := hrlt b h; omega
    · exact ⟨Or.inr (by omega), fun hm => by have := hp.at_.lt b hm; omega⟩
  have HWS : Hid (s.ws = isort W) := hws
  clear hws hq hm hr hdis hrlt ek
  have HV0 : Hid (hv = .slice bs0 W.length cp0) := hv0
  clear hv0
  go_enter Try.func24, Try.ntmps24
  go_wp2_with fail
  refine (HMP.out).mono ?_
  rintro e w1 ⟨k, v', bs, cp, hcn, rfl, hvv, htold, hr1, hsz1, hfin⟩
  have HCN : Hid (Cnt s.ws most now k) := hcn
  have HFIN : Hid _ := hfin
  have HFAW : Hid (¬ most ≤ (k : Int) → ∀ y ∈ (isort W).drop k, now < y.d) := fun hlt y hy => by
    have hs := isort_sorted W
    rw [← HWS.out] at hs hy
    rcases hcn.stop with h | h | ⟨hk, h⟩
    · omega
    · rw [h, List.drop_length] at hy; cases hy
    · obtain ⟨j, hj, rfl⟩ := List.mem_iff_getElem.1 hy
      rw [List.getElem_drop]
      rw [List.length_drop] at hj
      by_cases e : j = 0
      · subst e; exact h
      · have := List.pairwise_iff_getElem.1 hs k (k + j) hk (by omega) (by omega)
        omega
  clear HMP hfin
  by_cases hk0 : k = 0
  · subst hk0
    subst hvv
    have HFA : Hid (¬ most ≤ ((0 : Nat) : Int) → ∀ j (hj : j < W.length), now < W[j].d) := fun h j hj => HFAW.out h _ (by rw [List.drop_zero]; exact (mem_isort W _).2 (List.getElem_mem hj))
    have HIS : Hid (isort W = (isort W).drop 0) := by show _ = _; rw [List.drop_zero]
    have HR1 : Hid (Rw w1 75 3 hv W.length (icells W)) := hr1
    clear htold hr1 HFAW hcn
    go_wp2_with fail
    go_loopw [1, 11] (fun hv1 i wx => i = .int .i64 0 ∧ wx = w1 ∧ hv1 = hv) (fun _ _ _ => 0)
    case atStart => exact ⟨rfl, rfl, rfl⟩
    case round =>
      obtain ⟨rfl, rfl, rfl⟩ := hrel
      have hrw := HR1.out
      have hch : Chg [] wr wr := Chg.refl _ _
      have hox : ∀ b ∈ own u1, b ∈ own u1 ∨ wr.heap.size ≤ b := fun b hb => Or.inl hb
      have hv1e : Hid (u1 = u1) := rfl
      by_cases hkm : most ≤ (0 : Int)
      · have hke : (0 : Int) = most := by have := HCN.out.lim; omega
        have hke' : most = (0 : Int) := hke.symm
        clear hke hkm
        subst hke'
        go_wp2
        go_ret2
        exact HFIN.out _ _ _ HIS.out hrw hch hox
      · have HFAR : Hid (∀ j (hj : j < W.length), now < W[j].d) := HFA.out (by omega)
        rcases hrw.2.2 with ⟨hvn, hl0⟩ | ⟨hb, hcap, P2, R2, hvs, hg2, hnc2, hcm2, hcr2⟩
        · subst hvn
          have HRW : Hid (Rw wr 75 3 (.slice none 0 0) W.length (icells W)) := hrw
          clear hrw
          go_wp2_with fail
          go_loopw [15] (fun i wx => i = .int .i64 0 ∧ wx = wr) (fun _ _ => 0)
          case atStart => exact ⟨rfl, rfl⟩
          case round =>
            obtain ⟨rfl, rfl⟩ := hrel
            go_wp2
            go_ret2
            exact HFIN.out _ _ _ HIS.out HRW.out hch hox
        · have HRW : Hid (Rw wr 75 3 u1 W.length (icells W)) := hrw
          have hcm2' : hcap ≤ 9223372036854775807 := by unfold maxLen at hcm2; omega
          have HAT2 : Hid (∀ j (hj : j < W.length), wr.cell? ⟨hb, P2.length + j * 3 + 2, none⟩ = some (.int .u64 W[j].d)) := fun j hj => by rw [Nat.add_assoc]; exact Rw.cell (n := 0) (sz := 0) hg2 (ic_at W j hj).2.2
          obtain ⟨o2, ho2⟩ : ∃ o2, P2.length = o2 := ⟨_, rfl⟩
          obtain ⟨l2, hl2⟩ : ∃ l2, l2 = W.length := ⟨_, rfl⟩
          have HL2 : Hid (l2 = W.length) := hl2
          rw [ho2] at HAT2 hvs
          rw [← hl2] at hvs hnc2
          subst hvs
          clear hrw hg2 hcr2 ho2 hcm2 hl2
          go_wp2_with fail
          go_loopw [15] (fun i wx => ∃ j : Nat, j ≤ l2 ∧ i = .int .i64 j ∧ wx = wr) (fun i _ => l2 - (intOf i).toNat)
          case atStart => exact ⟨0, by omega, rfl, rfl⟩
          case round =>
            obtain ⟨j, hj, rfl, rfl⟩ := hrel
            by_cases hlt2 : j < l2
            · have hjl : j < W.length := by rw [← HL2.out]; exact hlt2
              have hat2 := HAT2.out j hjl
              have hfar2 := HFAR.out j hjl
              generalize W[j].d = dd at hat2 hfar2
              have hj2 : (j : Int) < (l2 : Int) := by omega
              go_wp2_with fail
              go_roundw
              case rel => exact ⟨j + 1, by omega, by go_num, by first | rfl | trivial⟩
              case measure => simp [intOf]; omega
            · go_wp2
              go_ret2
              exact HFIN.out _ _ _ HIS.out HRW.out hch hox
  · have hkp : 0 < k := by omega
    rcases htold.2.2 with ⟨_, h⟩ | ⟨gb, gcap, PG, RG, hgv, hgg, hgn, hgm, hgr⟩
    · omega
    · rw [hgv] at hvv
      injection hvv with e1 e2 e3
      subst e1 e3
      subst hgv
      obtain ⟨og, hog⟩ : ∃ og, PG.length = og := ⟨_, rfl⟩
      have hkl : k ≤ W.length := by have := hcn.le; rw [HWS.out, isort_len] at this; exact this
      have HGOT : Hid (∀ (W1 : World) (i : Nat) (hi : i < k) (hi' : i < (isort W).length), Chg [] w1 W1 → W1.cell? ⟨gb, og + i * 3, none⟩ = some (.int .u16 (isort W)[i].t) ∧ W1.cell? ⟨gb, og + i * 3 + 1, none⟩ = some (.int .u32 (isort W)[i].x) ∧ W1.cell? ⟨gb, og + i * 3 + 2, none⟩ = some (.int .u64 (isort W)[i].d)) := fun W1 i hi hi' hW => by
        have hgg' := hW.blk hgg (by simp)
        have hl : i < (s.ws.take k).length := by rw [HWS.out, List.length_take]; omega
        have hat := ic_at (s.ws.take k) i hl
        have e4 : (s.ws.take k)[i] = (isort W)[i] := by rw [List.getElem_take]; simp only [HWS.out]
        rw [e4] at hat
        rw [← hog]
        exact ⟨Rw.cell (n := 0) (sz := 0) hgg' hat.1, by rw [Nat.add_assoc]; exact Rw.cell (n := 0) (sz := 0) hgg' hat.2.1, by rw [Nat.add_assoc]; exact Rw.cell (n := 0) (sz := 0) hgg' hat.2.2⟩
      have HDUE : Hid (∀ i (hi : i < k) (hi' : i < (isort W).length), (isort W)[i].d ≤ now) := fun i hi hi' => by
        have := hcn.due i (by rw [HWS.out]; exact hi') hi
        simpa only [HWS.out] using this
      have hgm' : gcap ≤ 9223372036854775807 := by unfold maxLen at hgm; omega
      have HR1 : Hid (Rw w1 75 3 hv W.length (icells W)) := hr1
      rw [hog]
      clear htold hr1 hcn hgg hgr hgm hog
      go_wp2_with fail
      go_loopw [1, 11] (fun hv1 ix wr => ∃ (i : Nat) (V : List It), i ≤ k ∧ ix = .int .i64 i ∧ isort V = (isort W).drop i ∧ Rw wr 75 3 hv1 V.length (icells V) ∧ Chg [] w1 wr ∧ ∀ b ∈ own hv1, b ∈ own hv ∨ w1.heap.size ≤ b) (fun _ ix _ => k - (intOf ix).toNat)
      case atStart => exact ⟨0, W, by omega, rfl, by rw [List.drop_zero], HR1.out, Chg.refl _ _, fun b hb => Or.inl hb⟩
      case round =>
        obtain ⟨i, V, hi, rfl, his, hrw, hch, hox⟩ := hrel
        have HIS : Hid (isort V = (isort W).drop i) := his
        have hVl : V.length = W.length - i := by rw [← isort_len V, his, List.length_drop, isort_len]
        clear his
        by_cases hik : i < k
        · have hVp : 0 < V.length := by omega
          rcases hrw.2.2 with ⟨_, h⟩ | ⟨hb, hcap, P, R, hvs, hg, hnc, hcm, hcr⟩
          · omega
          · have hi' : i < (isort W).length := by rw [isort_len]; omega
            obtain ⟨o, ho⟩ : ∃ o, P.length = o := ⟨_, rfl⟩
            obtain ⟨n, hn⟩ : ∃ n, n = V.length := ⟨_, rfl⟩
            have HN : Hid (n = V.length) := hn
            have HO : Hid (P.length = o) := ho
            have hcm' : hcap ≤ 9223372036854775807 := by unfold maxLen at hcm; omega
            have HAT : Hid (∀ (W1 : World) (j : Nat) (hj : j < V.length), W1.heap[hb]? = some (.cells (P ++ (icells V ++ R)).toArray 75 (0, 0)) → W1.cell? ⟨hb, o + j * 3, none⟩ = some (.int .u16 V[j].t) ∧ W1.cell? ⟨hb, o + j * 3 + 1, none⟩ = some (.int .u32 V[j].x) ∧ W1.cell? ⟨hb, o + j * 3 + 2, none⟩ = some (.int .u64 V[j].d)) := fun W1 j hj hW => by
              have hat := ic_at V j hj
              rw [← ho]
              exact ⟨Rw.cell (n := 0) (sz := 0) hW hat.1, by rw [Nat.add_assoc]; exact Rw.cell (n := 0) (sz := 0) hW hat.2.1, by rw [Nat.add_assoc]; exact Rw.cell (n := 0) (sz := 0) hW hat.2.2⟩
            have HOX : Hid (∀ b ∈ own u1, b ∈ own hv ∨ w1.heap.size ≤ b) := hox
            rw [ho, ← hn] at hvs
            rw [← hn] at hnc hVl hVp
            subst hvs
            have hik2 : (i : Int) < (k : Int) := by omega
            have hn100 : n ≤ 100 := by omega
            have hnp : 0 < n := by omega
            clear hrw hcr ho hn hcm hox hVl hVp
            go_wp2_with fail
            go_loopw [12, 13] (fun bx jx wr => ∃ (j : Nat) (bi : Int), j ≤ n ∧ jx = .int .i64 j ∧ bx = .int .i64 bi ∧ ((j = 0 ∧ bi = -1) ∨ ∃ (b : Nat) (hbl : b < V.length), bi = b ∧ b < j ∧ ∀ z (hz : z < V.length), z < j → V[b].d ≤ V[z].d ∧ (z < b → V[b].d < V[z].d)) ∧ Chg [] w1 wr ∧ wr.heap[hb]? = some (.cells (P ++ (icells V ++ R)).toArray 75 (0, 0))) (fun _ jx _ => n - (intOf jx).toNat)
            case atStart => exact ⟨0, -1, by omega, rfl, rfl, Or.inl ⟨rfl, rfl⟩, hch, hg⟩
            case round =>
              obtain ⟨j, bi, hj, rfl, rfl, hor, hchj, hgj⟩ := hrel
              clear hch hg
              by_cases hjn : j < n
              · have hjl : j < V.length := by rw [← HN.out]; exact hjn
                have hjn2 : (j : Int) < (n : Int) := by omega
                have dj := (HAT.out wr j hjl hgj).2.2
                have HGJ : Hid (Chg [] w1 wr ∧ wr.heap[hb]? = some (.cells (P ++ (icells V ++ R)).toArray 75 (0, 0))) := ⟨hchj, hgj⟩
                clear hchj hgj
                rcases hor with ⟨hj0, rfl⟩ | ⟨b, hbl, rfl, hbj, hmin⟩
                · subst hj0
                  clear dj
                  go_wp2_with fail
                  go_quiet (fail)
                  go_wp2_with fail
                  go_roundw
                  case rel => exact ⟨1, 0, by omega, by go_num, rfl, Or.inr ⟨0, hjl, rfl, by omega, fun z hz hz1 => by obtain rfl : z = 0 := (by omega); exact ⟨Int.le_refl _, fun h => by omega⟩⟩, HGJ.out.1.drewN _, HGJ.out.2⟩
                  case measure => simp [intOf]; omega
                · have db := (HAT.out wr b hbl HGJ.out.2).2.2
                  have HMIN : Hid (∀ z (hz : z < V.length), z < j → V[b].d ≤ V[z].d ∧ (z < b → V[b].d < V[z].d)) := hmin
                  clear hmin
                  obtain ⟨dd, hdd⟩ : ∃ dd, dd = V[j].d := ⟨_, rfl⟩
                  obtain ⟨de, hde⟩ : ∃ de, de = V[b].d := ⟨_, rfl⟩
                  have HDD : Hid (dd = V[j].d ∧ de = V[b].d) := ⟨hdd, hde⟩
                  rw [← hdd] at dj
                  rw [← hde] at db
                  clear hdd hde
                  have hb0 : decide ((b : Int) < 0) = false := by simp
                  have hbn : (b : Int) < (n : Int) := by have := HN.out; omega
                  have hbn2 : b < n := by omega
                  by_cases hlt : dd < de
                  · have hdl : decide (dd < de) = true := by simpa using hlt
                    go_wp2_with fail
                    go_quiet (fail)
                    go_wp2_with fail
                    go_roundw
                    case rel => exact ⟨j + 1, j, by omega, by go_num, rfl, Or.inr ⟨j, hjl, rfl, by omega, fun z hz hz1 => by
                      by_cases e : z = j
                      · subst e; exact ⟨Int.le_refl _, fun h => by omega⟩
                      · have h3 := (HMIN.out z hz (by omega)).1
                        have h4 := HDD.out
                        exact ⟨by omega, fun _ => by omega⟩⟩, HGJ.out.1.drewN _, HGJ.out.2⟩
                    case measure => simp [intOf]; omega
                  · have hdl : decide (dd < de) = false := by simpa using hlt
                    go_wp2_with fail
                    go_quiet (fail)
                    go_wp2_with fail
                    go_roundw
                    case rel => exact ⟨j + 1, b, by omega, by go_num, rfl, Or.inr ⟨b, hbl, rfl, by omega, fun z hz hz1 => by
                      by_cases e : z = j
                      · subst e; have h4 := HDD.out; exact ⟨by omega, fun h => by omega⟩
                      · exact HMIN.out z hz (by omega)⟩, HGJ.out.1.drewN _, HGJ.out.2⟩
                    case measure => simp [intOf]; omega
              · obtain rfl : j = n := by omega
                rcases hor with ⟨hj0, _⟩ | ⟨b, hbl, rfl, hbj, hmin⟩
                · omega
                · have hMn : Mn V b := ⟨hbl, fun z hz => (hmin z hz (by have := HN.out; omega)).1, fun z hz hzb => (hmin z hz (by have := HN.out; omega)).2 hzb⟩
                  obtain ⟨_, heq, hnext⟩ := isort_step HIS.out hMn
                  have hd := HDUE.out i hik hi'
                  obtain ⟨c0, c1, c2⟩ := HGOT.out wr i hik hi' hchj
                  obtain ⟨d0, d1, d2⟩ := HAT.out wr b hbl hgj
                  rw [heq] at d0 d1 d2
                  generalize (isort W)[i] = y at *
                  obtain ⟨yt, yx, yd⟩ := y
                  simp only at c0 c1 c2 d0 d1 d2 hd
                  have HNX : Hid (isort (V.eraseIdx b) = (isort W).drop (i + 1)) := hnext
                  have HGJ : Hid (Chg [] w1 wr ∧ wr.heap[hb]? = some (.cells (P ++ (icells V ++ R)).toArray 75 (0, 0))) := ⟨hchj, hgj⟩
                  clear hMn hmin heq hnext hchj hgj
                  have hb0 : decide ((b : Int) < 0) = false := by simp
                  have hbn : (b : Int) < (j : Int) := by omega
                  have hnd : decide (now < yd) = false := by simp; omega
                  have hnd2 : decide (yd > now) = false := by simp; omega
                  have hwn : IntKind.u64.wrap now = now := by rw [IntKind.wrap_u64]; omega
                  go_wp2_with fail
                  go_quiet (fail)
                  obtain ⟨s1x, s1c⟩ := HGJ.out
                  have hsz := s1x.size
                  have hbV : b ≤ V.length := by omega
                  have hbj' : b ≤ j := by omega
                  have hbc : b ≤ hcap := by omega
                  have hb1 : ((b : Int) + 1).toNat = b + 1 := by omega
                  have hw1 : IntKind.i64.wrap ((b : Int) + 1) = (b : Int) + 1 := by rw [IntKind.wrap_i64]; omega
                  have hb2 : (b : Int) + 1 ≤ (j : Int) := by omega
                  have hb3 : (0 : Int) ≤ (b : Int) + 1 := by omega
                  have hb4 : b + 1 ≤ j := by omega
                  have N1 : Hid (∀ (W1 : World), W1.heap[hb]? = some (.cells (P ++ (icells V ++ R)).toArray 75 (0, 0)) → ∀ z u, (icells (V.take b))[z]? = some u → W1.cell? ((⟨hb, o, none⟩ : Addr).add z) = some u) := fun W1 hW z u hz => by
                    rw [Addr.add_lit, ← HO.out]
                    rw [show icells (V.take b) = (icells V).take (b * 3) from (fm_take icl_len V b).symm, List.getElem?_take] at hz
                    split at hz
                    · exact Rw.cell (n := 0) (sz := 0) hW hz
                    · cases hz
                  have L1 : (icells (V.take b)).length = b * 3 := by unfold icells; rw [fm_len icl_len, List.length_take]; congr 1; omega
                  have L2 : (icells (V.drop (b + 1))).length = (j - (b + 1)) * 3 := by unfold icells; rw [fm_len icl_len, List.length_drop]; have := HN.out; congr 1; omega
                  obtain ⟨A, hA, N2⟩ : ∃ A : Addr, (if hcap = b + 1 then some (⟨hb, o, none⟩ : Addr) else some ⟨hb, o + (b + 1) * 3, none⟩) = some A ∧ Hid (∀ (W1 : World), W1.heap[hb]? = some (.cells (P ++ (icells V ++ R)).toArray 75 (0, 0)) → ∀ z u, (icells (V.drop (b + 1)))[z]? = some u → W1.cell? (A.add z) = some u) := by
                    by_cases hcc : hcap = b + 1
                    · refine ⟨⟨hb, o, none⟩, by rw [if_pos hcc], fun W1 hW z u hz => ?_⟩
                      have : icells (V.drop (b + 1)) = [] := List.length_eq_zero_iff.1 (by rw [L2, show j - (b + 1) = 0 from by omega, Nat.zero_mul])
                      rw [this] at hz; cases hz
                    · refine ⟨⟨hb, o + (b + 1) * 3, none⟩, by rw [if_neg hcc], fun W1 hW z u hz => ?_⟩
                      rw [Addr.add_lit, ← HO.out, Nat.add_assoc]
                      rw [show icells (V.drop (b + 1)) = (icells V).drop ((b + 1) * 3) from (fm_drop icl_len V (b + 1)).symm, List.getElem?_drop] at hz
                      exact Rw.cell (n := 0) (sz := 0) hW hz
                  have hnil : (wr.drew).ownsRow w1.heap.size 75 3 (.slice none 0 0) 0 [] := World.ownsRow_nil _ _ _ _
                  have HNIL : Hid ((wr.drew).ownsRow w1.heap.size 75 3 (.slice none 0 0) 0 []) := hnil
                  clear hnil c0 c1 c2 d0 d1 d2
                  go_wp2_with (first
                    | (at_builtin; refine wpList_append_own _ rfl _ _ 65 rfl w1.heap.size 75 i0 (.agg #[.int .u16 0, .int .u32 0, .int .u64 0]) 3 16 Try.underlying65 HI0.out.i HI0.out.zr HI0.out.s HI0.out.b rfl (by decide) _ _ _ rfl HNIL.out ⟨hb, o, none⟩ b hcap (icells (V.take b)) rfl L1 (N1.out _ s1c) (ic_one _) ?c3 ?c4 ?c5 ?_))
                  case c3 => unfold maxLen; omega
                  case c4 => omega
                  case c5 => exact hsz
                  · intro v1 w2 hown1 hgrow1 _
                    have ch2 : Chg [] wr w2 := by first | exact ((Chg.refl [] wr).drewN _).trans (Chg.ofGrown0 hgrow1) (by simp) | exact ((Chg.refl [] wr).drewN _).trans (Chg.ofGrown0 (by simpa [Value.ownBlock] using hgrow1)) (by simp)
                    have s2c := ch2.blk s1c (by simp)
                    have s2 := ch2.size
                    obtain ⟨bs1, cp1, hv1⟩ := (own_rw hown1 (ic_one _)).1.val
                    subst hv1
                    have HOWN1 : Hid (w2.ownsRow w1.heap.size 75 3 (.slice bs1 b cp1) b (icells (V.take b))) := hown1
                    clear hown1 hgrow1
                    go_wp2_with (first
                      | (at_builtin; refine wpList_append_own _ rfl _ _ 65 rfl w1.heap.size 75 i0 (.agg #[.int .u16 0, .int .u32 0, .int .u64 0]) 3 16 Try.underlying65 HI0.out.i HI0.out.zr HI0.out.s HI0.out.b rfl (by decide) _ _ _ rfl HOWN1.out A (j - (b + 1)) (hcap - (b + 1)) (icells (V.drop (b + 1))) rfl L2 (N2.out _ s2c) (ic_one _) ?c3 ?c4 ?c5 ?_))
                    case c3 => unfold maxLen; omega
                    case c4 => omega
                    case c5 => omega
                    · intro v2 w3 hown2 hgrow2 _
                      have ecat : icells (V.take b) ++ icells (V.drop (b + 1)) = icells (V.eraseIdx b) := by rw [List.eraseIdx_eq_take_drop_succ]; simp [icells]
                      have elen : b + (j - (b + 1)) = (V.eraseIdx b).length := by rw [List.length_eraseIdx_of_lt hbl]; have := HN.out; omega
                      rw [ecat, elen] at hown2
                      obtain ⟨hrw2, hge2⟩ := own_rw hown2 (ic_one _)
                      have ch3 : Chg [] w1 w3 := (s1x.trans ch2 (by simp)).trans (grown_chg hgrow2) (fun z hz => Or.inr ((own_rw HOWN1.out (ic_one _)).2 z hz))
                      have HRW2 : Hid (Rw w3 75 3 v2 (V.eraseIdx b).length (icells (V.eraseIdx b)) ∧ Chg [] w1 w3 ∧ ∀ z ∈ own v2, w1.heap.size ≤ z) := ⟨hrw2, ch3, hge2⟩
                      clear hown2 hgrow2 ecat hrw2 hge2 ch3
                      go_wp2_with fail
                      go_roundw
                      case rel => exact ⟨i + 1, V.eraseIdx b, by omega, by go_num, HNX.out, HRW2.out.1, HRW2.out.2.1, fun z hz => Or.inr (HRW2.out.2.2 z hz)⟩
                      case measure => simp [intOf]; omega
        · obtain rfl : i = k := by omega
          have HFA : Hid (¬ most ≤ (i : Int) → ∀ j (hj : j < V.length), now < V[j].d) := fun h j hj => HFAW.out (by omega) _ (by rw [← HIS.out]; exact (mem_isort V _).2 (List.getElem_mem hj))
          clear hVl hi
          by_cases hkm : most ≤ (i : Int)
          · have hke : (i : Int) = most := by have := HCN.out.lim; omega
            have hke' : most = (i : Int) := hke.symm
            clear hke hkm
            subst hke'
            go_wp2
            go_ret2
            exact HFIN.out _ _ _ HIS.out hrw hch hox
          · have HFAR : Hid (∀ j (hj : j < V.length), now < V[j].d) := HFA.out (by omega)
            rcases hrw.2.2 with ⟨hvn, hl0⟩ | ⟨hb, hcap, P2, R2, hvs, hg2, hnc2, hcm2, hcr2⟩
            · subst hvn
              have HRW : Hid (Rw wr 75 3 (.slice none 0 0) V.length (icells V)) := hrw
              clear hrw
              go_wp2_with fail
              go_loopw [15] (fun i wx => i = .int .i64 0 ∧ wx = wr) (fun _ _ => 0)
              case atStart => exact ⟨rfl, rfl⟩
              case round =>
                obtain ⟨rfl, rfl⟩ := hrel
                go_wp2
                go_ret2
                exact HFIN.out _ _ _ HIS.out HRW.out hch hox
            · have HRW : Hid (Rw wr 75 3 u1 V.length (icells V)) := hrw
              have hcm2' : hcap ≤ 9223372036854775807 := by unfold maxLen at hcm2; omega
              have HAT2 : Hid (∀ j (hj : j < V.length), wr.cell? ⟨hb, P2.length + j * 3 + 2, none⟩ = some (.int .u64 V[j].d)) := fun j hj => by rw [Nat.add_assoc]; exact Rw.cell (n := 0) (sz := 0) hg2 (ic_at V j hj).2.2
              obtain ⟨o2, ho2⟩ : ∃ o2, P2.length = o2 := ⟨_, rfl⟩
              obtain ⟨l2, hl2⟩ : ∃ l2, l2 = V.length := ⟨_, rfl⟩
              have HL2 : Hid (l2 = V.length) := hl2
              rw [ho2] at HAT2 hvs
              rw [← hl2] at hvs hnc2
              subst hvs
              clear hrw hg2 hcr2 ho2 hcm2 hl2
              go_wp2_with fail
              go_loopw [15] (fun i wx => ∃ j : Nat, j ≤ l2 ∧ i = .int .i64 j ∧ wx = wr) (fun i _ => l2 - (intOf i).toNat)
              case atStart => exact ⟨0, by omega, rfl, rfl⟩
              case round =>
                obtain ⟨j, hj, rfl, rfl⟩ := hrel
                by_cases hlt2 : j < l2
                · have hjl : j < V.length := by rw [← HL2.out]; exact hlt2
                  have hat2 := HAT2.out j hjl
                  have hfar2 := HFAR.out j hjl
                  generalize V[j].d = dd at hat2 hfar2
                  have hj2 : (j : Int) < (l2 : Int) := by omega
                  go_wp2_with fail
                  go_roundw
                  case rel => exact ⟨j + 1, by omega, by go_num, by first | rfl | trivial⟩
                  case measure => simp [intOf]; omega
                · go_wp2
                  go_ret2
                  exact HFIN.out _ _ _ HIS.out HRW.out hch hox

end Go.Proofs.Ytbdnhllhdjepcaa
