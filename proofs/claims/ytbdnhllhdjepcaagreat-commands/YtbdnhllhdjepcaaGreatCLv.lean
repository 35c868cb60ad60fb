import Derived.Test.YtbdnhllhdjepcaaGreatCLja
import Derived.Deep.RegionHeld3
import Derived.Test.YtbdnhllhdjepcaaGreatCLu
namespace Go.Proofs.YtbdnhllhdjepcaaGreat
set_option linter.unusedVariables false
set_option linter.unusedSimpArgs false
open Go.RowKit Go.Maps

set_option maxRecDepth 100000 in
set_option maxHeartbeats 4000000 in
theorem ownItems_any (wb : Nat) (mv x1 x2 x3 x4 : Value) (nx : Int) (bs : Option Addr) (k : Nat) (l : List It) (L : List Lst) (w : World) (hb : w.heap[wb]? = some (.cells [mv, x1, x2, x3, x4, .int .u32 nx].toArray 55 (0, 0))) (hls : LsAt w x1 x3 L) (hr : Rw w 123 3 (.slice bs k k) k (icells l)) (hfar : ∀ b ∈ own (.slice bs k k), b ∉ lfp x1 x3 L) (hk : k ≤ 1000) (hL : L.length ≤ 3000000000000) (hnx : 0 ≤ nx ∧ nx ≤ 4294967295) :
    Calls Tryz.prog 45 #[.pointer (some ⟨wb, 0, none⟩), .slice bs k k] w fun e w' => OwnE w w' wb mv x1 x2 x3 x4 (IntKind.u32.wrap (nx + 1)) (.slice bs k k) L e := by
  obtain ⟨m, hm⟩ : ∃ m, IntKind.u32.wrap (nx + 1) = m := ⟨_, rfl⟩
  rw [hm]
  have hll : l.length = k := by
    have := hr.1
    rw [show (icells l).length = l.length * 3 from fm_len icl_len l] at this
    omega
  obtain ⟨n0, n1⟩ := hnx
  have hwbL : wb ∉ lfp x1 x3 L := fun hx => by
    rcases mem_lfp.1 hx with hx | hx | ⟨y, hy, hx⟩
    · exact own_ty hls.r1 hb (by decide) hx
    · exact own_ty hls.r3 hb (by decide) hx
    · exact own_ty (hls.each y hy) hb (by decide) hx
  have hwbv : wb ∉ own (.slice bs k k) := own_ty hr hb (by decide)
  obtain ⟨w1, hw1⟩ : ∃ w1, w1 = w.setCell ⟨wb, 5, none⟩ (.int .u32 m) := ⟨_, rfl⟩
  have hb1 : w1.heap[wb]? = some (.cells [mv, x1, x2, x3, x4, .int .u32 m].toArray 55 (0, 0)) := hw1 ▸ blk_set (i := 5) (.int .u32 m) hb
  have c1 : Chg [wb] w w1 := hw1 ▸ (Chg.refl _ _).set _ _ (Or.inl (by simp))
  have hp := heap_alloc_new w1 (.cells [.int .u16 7777, .int .u32 m, .int .u64 7777].toArray 123)
  obtain ⟨w2, hw2⟩ : ∃ w2, w2 = w1.alloc (.cells [.int .u16 7777, .int .u32 m, .int .u64 7777].toArray 123) := ⟨_, rfl⟩
  rw [← hw2] at hp
  have c2 : Chg [] w1 w2 := hw2 ▸ (Chg.refl _ _).alloc _
  have c12 : Chg [wb] w w2 := c1.trans c2 (by simp)
  have k1 : w.setCell ⟨wb, 5, none⟩ (.int .u32 m) = w1 := hw1.symm
  have k2 : w1.alloc (.cells #[.int .u16 7777, .int .u32 m, .int .u64 7777] 123) = w2 := hw2.symm
  clear hw1 hw2
  have z5 := blk_cell (i := 5) hb rfl
  have zf : w.frozen? ⟨wb, 5, none⟩ = false := blk_free hb
  have z51 := blk_cell (i := 5) hb1 rfl
  have hwl := lt_of_block hb
  have hwl1 := lt_of_block hb1
  have hsz1 : w.heap.size ≤ w1.heap.size := c1.size
  have HB2 : Hid (w2.heap[wb]? = some (.cells [mv, x1, x2, x3, x4, .int .u32 m].toArray 55 (0, 0))) := c2.blk hb1 (by simp)
  have HP2 : Hid (w2.heap[w1.heap.size]? = some (.cells [.int .u16 7777, .int .u32 m, .int .u64 7777].toArray 123 (0, 0))) := hp
  have HR2 : Hid (Rw w2 123 3 (.slice bs k k) k (icells l)) := hr.chg c12 (fun b hb' => by simp only [List.mem_cons, List.not_mem_nil, or_false]; rintro rfl; exact hwbv (mem_own.2 hb'))
  have HPB : Hid (w1.heap.size ∉ own (.slice bs k k)) := fun hx => by have := hr.lt (mem_own.1 hx); omega
  have HC2 : Hid (Chg [wb] w w2) := c12
  have HLS : Hid (LsAt w x1 x3 L ∧ wb ∉ lfp x1 x3 L ∧ (∀ b ∈ own (.slice bs k k), b ∉ lfp x1 x3 L) ∧ wb ∉ own (.slice bs k k)) := ⟨hls, hwbL, hfar, hwbv⟩
  obtain ⟨x1a, x1c, hx1⟩ := hls.r1.val
  obtain ⟨x3a, x3c, hx3⟩ := hls.r3.val
  subst hx1 hx3
  have HCW : Hid (∀ wr, Chg (own (.slice bs k k)) w2 wr → Chg ([wb] ++ own (.slice bs k k)) w wr) := fun wr hc => (HC2.out.mono (by simp)).trans hc (fun j hj => Or.inl (List.mem_append_right _ hj))
  have HR1 : Hid (∀ wr, Chg (own (.slice bs k k)) w2 wr → Rw wr 112 1 (.slice x1a L.length x1c) L.length (L.map Lst.v)) := fun wr hc => hls.r1.chg (HCW.out wr hc) (fun b hb' hx => by
    have hbl := mem_lfp.2 (.inl (mem_own.2 hb') : b ∈ own (.slice x1a L.length x1c) ∨ b ∈ own (.slice x3a L.length x3c) ∨ ∃ l ∈ L, b ∈ own l.v)
    rcases List.mem_append.1 hx with hx | hx
    · simp at hx; subst hx; exact hwbL hbl
    · exact hfar b hx hbl)
  clear hb hls hr hfar hp hb1 c1 c2 c12 hwbL hwbv
  go_enter Tryz.func45, Tryz.ntmps45
  go_wp2_with fail
  go_loopw [5] (fun i wr => ∃ j : Nat, i = .int .i64 j ∧ j ≤ k ∧ Rw wr 123 3 (.slice bs k k) k (icells (List.replicate j (pI m) ++ l.drop j)) ∧ Chg (own (.slice bs k k)) w2 wr) (fun i _ => k - (intOf i).toNat)
  case atStart => exact ⟨0, rfl, by omega, HR2.out, Chg.refl _ _⟩
  case round =>
    obtain ⟨j, rfl, hj, hrw, hch⟩ := hrel
    have HRW : Hid (Rw wr 123 3 (.slice bs k k) k (icells (List.replicate j (pI m) ++ l.drop j))) := hrw
    have HCH : Hid (Chg (own (.slice bs k k)) w2 wr) := hch
    have hpb := hch.blk HP2.out HPB.out
    have p0 := blk_cell (i := 0) hpb rfl
    have p1 := blk_cell (i := 1) hpb rfl
    have p2 := blk_cell (i := 2) hpb rfl
    have hpl := lt_of_block hpb
    clear hrw hch
    by_cases hlt : j < k
    · have hj2 : (j : Int) < (k : Int) := by omega
      obtain ⟨la, lb, lof, cap, hv, hla, hlen, hltb, hcell⟩ := HRW.out.laid
      obtain ⟨rfl, _⟩ := hla (by omega)
      have hlb := hltb (by omega)
      injection hv with e1 e2 e3
      subst e1
      have hjl : j < (List.replicate j (pI m) ++ l.drop j).length := by simp; omega
      obtain ⟨i0, i1, i2⟩ := ic_at _ j hjl
      have d0 := hcell _ _ i0
      have d1 := hcell _ _ i1
      have d2 := hcell _ _ i2
      simp only [← Nat.add_assoc] at d0 d1 d2
      have hfz : ∀ i, wr.frozen? ⟨lb, i, none⟩ = false := by
        rcases HRW.out.2.2 with ⟨hv', _⟩ | ⟨b', cap', P, R, hv', hg, _⟩
        · cases hv'
        · injection hv' with x1
          injection x1 with x1
          injection x1 with x1
          subst x1
          exact fun i => blk_free hg
      generalize (List.replicate j (pI m) ++ l.drop j)[j] = y at d0 d1 d2
      clear hcell hla hltb i0 i1 i2 hjl e2 e3
      go_wp2_with fail
      go_roundw
      case rel =>
        have hs := HRW.out.set3 (i := j) (by simp; omega) (pI m)
        rw [rep_step l j (by omega)] at hs
        exact ⟨j + 1, by go_num, by omega, hs, ((HCH.out.set _ _ (Or.inl (by simp [own, Value.ownBlock]))).set _ _ (Or.inl (by simp [own, Value.ownBlock]))).set _ _ (Or.inl (by simp [own, Value.ownBlock]))⟩
      case measure => simp [intOf]; omega
    · have hj2 : ¬ (j : Int) < (k : Int) := by omega
      obtain rfl : j = k := by omega
      have hrk : Rw wr 123 3 (.slice bs j j) j (icells (List.replicate j (pI m))) := by
        have := HRW.out
        rw [List.drop_of_length_le (by omega), List.append_nil] at this
        exact this
      have hbk := HCH.out.blk HB2.out HLS.out.2.2.2
      obtain ⟨a1, c1, B1, a2, c2, B2, a3, c3, B3, a4, c4, B4, r1, r2, r3, r4, g1, g2, g3, hb4, hch⟩ := own_chain wr w1.heap.size wb m bs j mv _ x2 _ x4 L hpb hrk hbk (HR1.out wr HCH.out) hk hL
      have HA1 : Hid _ := r1
      have HA2 : Hid _ := r2
      have HA3 : Hid _ := r3
      have HA4 : Hid _ := r4
      have HCN : Hid _ := hch
      have hp1 := g1.blk hpb (by simp)
      have hp2 := g2.blk hpb (by simp)
      have s0 := blk_cell (i := 0) hp1 rfl
      have s1 := blk_cell (i := 1) hp1 rfl
      have s2 := blk_cell (i := 2) hp1 rfl
      have t0 := blk_cell (i := 0) hp2 rfl
      have t1 := blk_cell (i := 1) hp2 rfl
      have t2 := blk_cell (i := 2) hp2 rfl
      have hpl1 := lt_of_block hp1
      have hpl2 := lt_of_block hp2
      have hb3 := g3.blk hbk (by simp)
      have u1 := blk_cell (i := 1) hb3 rfl
      have hwl3 := lt_of_block hb3
      have u4 := blk_cell (i := 1) hb4 rfl
      have f4 : B4.frozen? ⟨wb, 1, none⟩ = false := blk_free hb4
      have hwl4 := lt_of_block hb4
      have HAP : Hid (∀ W, Chg [] (B4.setCell ⟨wb, 1, none⟩ (.slice a4 (L.length + 4) c4)) W → _) := fun W hW => HCN.out.done HLS.out.1 (HCW.out wr HCH.out) HLS.out.2.2.1 HLS.out.2.1 hL W hW
      have hb5 := HCN.out.blk
      have v3 := blk_cell (i := 3) hb5 rfl
      have v5 := blk_cell (i := 5) hb5 rfl
      have hwl5 := lt_of_block hb5
      obtain ⟨B5, hB5⟩ : ∃ B5, B5 = B4.setCell ⟨wb, 1, none⟩ (.slice a4 (L.length + 4) c4) := ⟨_, rfl⟩
      rw [← hB5] at HAP v3 v5 hwl5
      have k5 : B4.setCell ⟨wb, 1, none⟩ (.slice a4 (L.length + 4) c4) = B5 := hB5.symm
      clear hB5 hb5 hb4 hb3 hp1 hp2 r1 r2 r3 r4 hch g1 g2 g3 hrk hbk hpb
      obtain ⟨A1, hA1⟩ : ∃ A, A = wr.alloc (.cells #[.int .u16 7777, .int .u32 m, .int .u64 7777] 123) := ⟨_, rfl⟩
      have q1 : wr.alloc (.cells #[.int .u16 7777, .int .u32 m, .int .u64 7777] 123) = A1 := hA1.symm
      rw [← hA1] at HA1
      clear hA1
      obtain ⟨A2, hA2⟩ : ∃ A, A = B1.alloc (.cells #[.int .u16 7777, .int .u32 m, .int .u64 7777, .int .u16 7777, .int .u32 m, .int .u64 7777] 123) := ⟨_, rfl⟩
      have q2 : B1.alloc (.cells #[.int .u16 7777, .int .u32 m, .int .u64 7777, .int .u16 7777, .int .u32 m, .int .u64 7777] 123) = A2 := hA2.symm
      rw [← hA2] at HA2
      clear hA2
      obtain ⟨A3, hA3⟩ : ∃ A, A = B2.alloc (.cells #[.int .u16 7777, .int .u32 m, .int .u64 7777, .int .u16 7777, .int .u32 m, .int .u64 7777, .int .u16 7777, .int .u32 m, .int .u64 7777] 123) := ⟨_, rfl⟩
      have q3 : B2.alloc (.cells #[.int .u16 7777, .int .u32 m, .int .u64 7777, .int .u16 7777, .int .u32 m, .int .u64 7777, .int .u16 7777, .int .u32 m, .int .u64 7777] 123) = A3 := hA3.symm
      rw [← hA3] at HA3
      clear hA3
      obtain ⟨A4, hA4⟩ : ∃ A, A = B3.alloc (.cells #[.slice bs j j, .slice a1 (j + 1) c1, .slice a2 (j + 2) c2, .slice a3 (j + 3) c3] 112) := ⟨_, rfl⟩
      have q4 : B3.alloc (.cells #[.slice bs j j, .slice a1 (j + 1) c1, .slice a2 (j + 2) c2, .slice a3 (j + 3) c3] 112) = A4 := hA4.symm
      rw [← hA4] at HA4
      clear hA4
      go_wp2_with (first | (at_builtin; refine Lib.wpList_append_run _ rfl _ _ _ _ rfl _ _ rfl rfl _ _ HA1.out ?_; clear HA1) | (at_builtin; refine Lib.wpList_append_run _ rfl _ _ _ _ rfl _ _ rfl rfl _ _ HA2.out ?_; clear HA2) | (at_builtin; refine Lib.wpList_append_run _ rfl _ _ _ _ rfl _ _ rfl rfl _ _ HA3.out ?_; clear HA3) | (at_builtin; refine Lib.wpList_append_run _ rfl _ _ _ _ rfl _ _ rfl rfl _ _ HA4.out ?_; clear HA4) | fail)
      have v6 : Chg [] B5 B5.drew := (Chg.refl _ _).drew
      obtain ⟨a5, c5, B6, hr6, hb6, hfin⟩ := HAP.out B5.drew v6
      have HR6 : Hid ((Builtin.append_ #[51, 51] 51 #[.slice x3a L.length x3c, .slice (some ⟨B5.heap.size, 0, none⟩) 4 4]).run Tryz.prog (B5.drew.alloc (.cells #[.int .u32 m, .int .u32 m, .int .u32 m, .int .u32 m] 53)) = .ok (.slice a5 (L.length + 4) c5) B6) := hr6
      have v36 := blk_cell (i := 3) hb6 rfl
      have f6 : B6.frozen? ⟨wb, 3, none⟩ = false := blk_free hb6
      have hwl6 := lt_of_block hb6
      have HFIN : Hid _ := hfin
      have HB6 : Hid _ := hb6
      clear hr6 hb6 hfin
      have v56 := blk_cell (i := 5) HB6.out rfl
      have HS5 : Hid (∀ W, Chg [] B5 W → W.cell? ⟨wb, 5, none⟩ = some (.int .u32 m)) := fun W hW => hW.cell v5 (by simp)
      have HF5 : Hid ((B6.setCell ⟨wb, 3, none⟩ (.slice a5 (L.length + 4) c5)).cell? ⟨wb, 5, none⟩ = some (.int .u32 m)) := blk_cell (i := 5) (blk_set (i := 3) (.slice a5 (L.length + 4) c5) HB6.out) rfl
      clear p0 p1 p2 s0 s1 s2 t0 t1 t2 u1 u4 f4 q1 q2 q3 q4 k5 z5 zf z51 k1 k2 hpl hpl1 hpl2 hwl hwl1 hsz1 hwl3 hwl4 hm
      refine wp_region_held_drew (S := fun W => W.cell? ⟨wb, 5, none⟩ = some (.int .u32 m)) (by kernel_rfl) (HS5.out _ v6) (fun hHeld => ?_)
      refine wpAnyH_take (i := 0) (v := ?v0) rfl (by kernel_rfl) (by kernel_rfl) (by kernel_rfl) (fun _ _ _ h => h) (Or.inl ⟨by rfl, ?hy⟩) (by assumption) ?_
      case hy =>
        intro w' hSw
        (try dsimp only at hSw)
        go_simp
        (try with_reducible rfl)
      (try simp only [Act.put, List.setIfInBounds_toArray, List.set_cons_zero, List.set_cons_succ])
      refine wpAnyH_take (i := 1) (v := ?v1) rfl (by kernel_rfl) (by kernel_rfl) (by kernel_rfl) (fun _ _ _ h => h) (Or.inl ⟨by rfl, ?hy⟩) (by assumption) ?_
      case hy =>
        intro w' hSw
        (try dsimp only at hSw)
        go_simp
        (try with_reducible rfl)
      (try simp only [Act.put, List.setIfInBounds_toArray, List.set_cons_zero, List.set_cons_succ])
      refine wpAnyH_take (i := 2) (v := ?v2) rfl (by kernel_rfl) (by kernel_rfl) (by kernel_rfl) (fun _ _ _ h => h) (Or.inl ⟨by rfl, ?hy⟩) (by assumption) ?_
      case hy =>
        intro w' hSw
        (try dsimp only at hSw)
        go_simp
        (try with_reducible rfl)
      (try simp only [Act.put, List.setIfInBounds_toArray, List.set_cons_zero, List.set_cons_succ])
      refine wpAnyH_take (i := 3) (v := ?v3) rfl (by kernel_rfl) (by kernel_rfl) (by kernel_rfl) (fun _ _ _ h => h) (Or.inl ⟨by rfl, ?hy⟩) (by assumption) ?_
      case hy =>
        intro w' hSw
        (try dsimp only at hSw)
        go_simp
        (try with_reducible rfl)
      (try simp only [Act.put, List.setIfInBounds_toArray, List.set_cons_zero, List.set_cons_succ])
      refine wpAnyH_take (i := 4) (v := ?v4) rfl (by kernel_rfl) (by kernel_rfl) (by kernel_rfl) (fun _ _ _ h => h) (Or.inl ⟨by rfl, ?hy⟩) (by assumption) ?_
      case hy =>
        intro w' hSw
        (try dsimp only at hSw)
        go_simp
        (try with_reducible rfl)
      (try simp only [Act.put, List.setIfInBounds_toArray, List.set_cons_zero, List.set_cons_succ])
      refine wpAnyH_take (i := 6) (v := ?v6) rfl (by kernel_rfl) (by kernel_rfl) (by kernel_rfl) (fun _ _ _ h => h) (Or.inl ⟨by rfl, ?hy⟩) (by assumption) ?_
      case hy =>
        intro w' hSw
        (try dsimp only at hSw)
        go_simp
        (try with_reducible rfl)
      (try simp only [Act.put, List.setIfInBounds_toArray, List.set_cons_zero, List.set_cons_succ])
      refine wpAnyH_take (i := 7) (v := ?v7) rfl (by kernel_rfl) (by kernel_rfl) (by kernel_rfl) (fun _ _ _ h => h) (Or.inl ⟨by rfl, ?hy⟩) (by assumption) ?_
      case hy =>
        intro w' hSw
        (try dsimp only at hSw)
        go_simp
        (try with_reducible rfl)
      (try simp only [Act.put, List.setIfInBounds_toArray, List.set_cons_zero, List.set_cons_succ])
      refine wpAnyH_take (i := 8) (v := ?v8) rfl (by kernel_rfl) (by kernel_rfl) (by kernel_rfl) (fun _ _ _ h => h) (Or.inl ⟨by rfl, ?hy⟩) (by assumption) ?_
      case hy =>
        intro w' hSw
        (try dsimp only at hSw)
        go_simp
        (try with_reducible rfl)
      (try simp only [Act.put, List.setIfInBounds_toArray, List.set_cons_zero, List.set_cons_succ])
      refine wpAnyH_take (i := 9) (v := ?v9) rfl (by kernel_rfl) (by kernel_rfl) (by kernel_rfl) (fun _ _ _ h => h) (Or.inl ⟨by rfl, ?hy⟩) (by assumption) ?_
      case hy =>
        intro w' hSw
        (try dsimp only at hSw)
        go_simp
        (try with_reducible rfl)
      (try simp only [Act.put, List.setIfInBounds_toArray, List.set_cons_zero, List.set_cons_succ])
      refine wpAnyH_take (i := 10) (v := ?v10) rfl (by kernel_rfl) (by kernel_rfl) (by kernel_rfl) (fun _ _ _ h => h) (Or.inl ⟨by rfl, ?hy⟩) (by assumption) ?_
      case hy =>
        intro w' hSw
        (try dsimp only at hSw)
        go_simp
        (try with_reducible rfl)
      (try simp only [Act.put, List.setIfInBounds_toArray, List.set_cons_zero, List.set_cons_succ])
      refine wpAnyH_take (i := 11) (v := ?v11) rfl (by kernel_rfl) (by kernel_rfl) (by kernel_rfl) (fun _ _ _ h => h) (Or.inl ⟨by rfl, ?hy⟩) (by assumption) ?_
      case hy =>
        intro w' hSw
        (try dsimp only at hSw)
        go_simp
        (try with_reducible rfl)
      (try simp only [Act.put, List.setIfInBounds_toArray, List.set_cons_zero, List.set_cons_succ])
      refine wpAnyH_take (i := 12) (v := ?v12) rfl (by kernel_rfl) (by kernel_rfl) (by kernel_rfl) (fun _ _ _ h => h) (Or.inl ⟨by rfl, ?hy⟩) (by assumption) ?_
      case hy =>
        intro w' hSw
        (try dsimp only at hSw)
        go_simp
        (try with_reducible rfl)
      (try simp only [Act.put, List.setIfInBounds_toArray, List.set_cons_zero, List.set_cons_succ])
      refine wpAnyH_take (i := 13) (v := ?v13) rfl (by kernel_rfl) (by kernel_rfl) (by kernel_rfl) (fun _ _ _ h => h) (Or.inl ⟨by rfl, ?hy⟩) (by assumption) ?_
      case hy =>
        intro w' hSw
        (try dsimp only at hSw)
        go_simp
        (try with_reducible rfl)
      (try simp only [Act.put, List.setIfInBounds_toArray, List.set_cons_zero, List.set_cons_succ])
      refine wpAnyH_take (i := 14) (v := ?v14) rfl (by kernel_rfl) (by kernel_rfl) (by kernel_rfl) (fun _ _ _ h => h) (Or.inl ⟨by rfl, ?hy⟩) (by assumption) ?_
      case hy =>
        intro w' hSw
        (try dsimp only at hSw)
        go_simp
        (try with_reducible rfl)
      (try simp only [Act.put, List.setIfInBounds_toArray, List.set_cons_zero, List.set_cons_succ])
      refine wpAnyH_take (i := 15) (v := ?v15) rfl (by kernel_rfl) (by kernel_rfl) (by kernel_rfl) (fun _ _ _ h => h) (Or.inl ⟨by rfl, ?hy⟩) (by assumption) ?_
      case hy =>
        intro w' hSw
        (try dsimp only at hSw)
        go_simp
        (try with_reducible rfl)
      (try simp only [Act.put, List.setIfInBounds_toArray, List.set_cons_zero, List.set_cons_succ])
      refine wpAnyH_take (i := 16) (v := ?v16) rfl (by kernel_rfl) (by kernel_rfl) (by kernel_rfl) (fun _ _ _ h => h) (Or.inl ⟨by rfl, ?hy⟩) (by assumption) ?_
      case hy =>
        intro w' hSw
        (try dsimp only at hSw)
        go_simp
        (try with_reducible rfl)
      (try simp only [Act.put, List.setIfInBounds_toArray, List.set_cons_zero, List.set_cons_succ])
      refine wpAnyH_take (i := 17) (v := ?v17) rfl (by kernel_rfl) (by kernel_rfl) (by kernel_rfl) (fun _ _ _ h => h) (Or.inl ⟨by rfl, ?hy⟩) (by assumption) ?_
      case hy =>
        intro w' hSw
        (try dsimp only at hSw)
        go_simp
        (try with_reducible rfl)
      (try simp only [Act.put, List.setIfInBounds_toArray, List.set_cons_zero, List.set_cons_succ])
      refine wpAnyH_take (i := 18) (v := ?v18) rfl (by kernel_rfl) (by kernel_rfl) (by kernel_rfl) (fun _ _ _ h => h) (Or.inl ⟨by rfl, ?hy⟩) (by assumption) ?_
      case hy =>
        intro w' hSw
        (try dsimp only at hSw)
        go_simp
        (try with_reducible rfl)
      (try simp only [Act.put, List.setIfInBounds_toArray, List.set_cons_zero, List.set_cons_succ])
      refine wpAnyH_take (i := 19) (v := ?v19) rfl (by kernel_rfl) (by kernel_rfl) (by kernel_rfl) (fun _ _ _ h => h) (Or.inl ⟨by rfl, ?hy⟩) (by assumption) ?_
      case hy =>
        intro w' hSw
        (try dsimp only at hSw)
        go_simp
        (try with_reducible rfl)
      (try simp only [Act.put, List.setIfInBounds_toArray, List.set_cons_zero, List.set_cons_succ])
      refine wpAnyH_take (i := 20) (v := ?v20) rfl (by kernel_rfl) (by kernel_rfl) (by kernel_rfl) (fun _ _ _ h => h) (Or.inl ⟨by rfl, ?hy⟩) (by assumption) ?_
      case hy =>
        intro w' hSw
        (try dsimp only at hSw)
        go_simp
        (try with_reducible rfl)
      (try simp only [Act.put, List.setIfInBounds_toArray, List.set_cons_zero, List.set_cons_succ])
      refine wpAnyH_take (i := 21) (v := ?v21) rfl (by kernel_rfl) (by kernel_rfl) (by kernel_rfl) (fun _ _ _ h => h) (Or.inl ⟨by rfl, ?hy⟩) (by assumption) ?_
      case hy =>
        intro w' hSw
        (try dsimp only at hSw)
        go_simp
        (try with_reducible rfl)
      (try simp only [Act.put, List.setIfInBounds_toArray, List.set_cons_zero, List.set_cons_succ])
      refine wpAnyH_take (i := 24) (v := ?v24) rfl (by kernel_rfl) (by kernel_rfl) (by kernel_rfl) (fun _ _ _ h => h) (Or.inl ⟨by rfl, ?hy⟩) (by assumption) ?_
      case hy =>
        intro w' hSw
        (try dsimp only at hSw)
        go_simp
        (try with_reducible rfl)
      (try simp only [Act.put, List.setIfInBounds_toArray, List.set_cons_zero, List.set_cons_succ])
      refine wpAnyH_take (i := 25) (v := ?v25) rfl (by kernel_rfl) (by kernel_rfl) (by kernel_rfl) (fun _ _ _ h => h) (Or.inl ⟨by rfl, ?hy⟩) (by assumption) ?_
      case hy =>
        intro w' hSw
        (try dsimp only at hSw)
        go_simp
        (try with_reducible rfl)
      (try simp only [Act.put, List.setIfInBounds_toArray, List.set_cons_zero, List.set_cons_succ])
      refine wpAnyH_ready (rs := [5, 22]) (by kernel_rfl) (by simp) ?_
      refine AllReadyH.cons rfl (fun K hK => ?_) (AllReadyH.cons rfl (fun K hK => ?_) AllReadyH.nil)
      · go_simp
        refine hK.out _ _ (HS5.out _ v6) (fun hHeld => ?_)
        clear hK K
        refine wpAnyH_ready (rs := [22]) (by kernel_rfl) (by simp) ?_
        refine AllReadyH.cons rfl (fun K hK => ?_) AllReadyH.nil
        go_simp
        refine hK.out _ _ (HS5.out _ (v6.alloc _)) (fun hHeld => ?_)
        clear hK K
        refine wpAnyH_ready (rs := [23]) (by kernel_rfl) (by simp) ?_
        refine AllReadyH.cons rfl (fun K hK => ?_) AllReadyH.nil
        refine step_app_run rfl (.tmp 64) (.tmp 81) 51 51 rfl (.slice x3a L.length x3c) (.slice (some ⟨B5.heap.size, 0, none⟩) 4 4) (by simp [Act.eval, Act.put]) (by simp [Act.eval, Act.put]) HR6.out ?_
        refine hK.out _ _ v56 (fun hHeld => ?_)
        clear hK K
        refine wpAnyH_take (i := 26) (v := ?v26) rfl (by kernel_rfl) (by kernel_rfl) (by kernel_rfl) (fun _ _ _ h => h) (Or.inl ⟨by rfl, ?hy⟩) (by assumption) ?_
        case hy =>
          intro w' hSw
          (try dsimp only at hSw)
          go_simp
          (try with_reducible rfl)
        (try simp only [Act.put, List.setIfInBounds_toArray, List.set_cons_zero, List.set_cons_succ])
        refine wpAnyH_ready (rs := [27]) (by kernel_rfl) (by simp) ?_
        refine AllReadyH.cons rfl (fun K hK => ?_) AllReadyH.nil
        go_simp
        refine hK.out _ _ HF5.out (fun hHeld => ?_)
        clear hK K
        refine wpAnyH_done (by kernel_rfl) ?_ _
        go_end0
        exact ⟨rfl, _, _, _, HFIN.out _ (by repeat (first | exact Chg.refl _ _ | apply Chg.drew))⟩
      · go_simp
        refine hK.out _ _ (HS5.out _ (v6.alloc _)) (fun hHeld => ?_)
        clear hK K
        refine wpAnyH_ready (rs := [5]) (by kernel_rfl) (by simp) ?_
        refine AllReadyH.cons rfl (fun K hK => ?_) AllReadyH.nil
        go_simp
        refine hK.out _ _ (HS5.out _ (v6.alloc _)) (fun hHeld => ?_)
        clear hK K
        refine wpAnyH_ready (rs := [23]) (by kernel_rfl) (by simp) ?_
        refine AllReadyH.cons rfl (fun K hK => ?_) AllReadyH.nil
        refine step_app_run rfl (.tmp 64) (.tmp 81) 51 51 rfl (.slice x3a L.length x3c) (.slice (some ⟨B5.heap.size, 0, none⟩) 4 4) (by simp [Act.eval, Act.put]) (by simp [Act.eval, Act.put]) HR6.out ?_
        refine hK.out _ _ v56 (fun hHeld => ?_)
        clear hK K
        refine wpAnyH_take (i := 26) (v := ?v26) rfl (by kernel_rfl) (by kernel_rfl) (by kernel_rfl) (fun _ _ _ h => h) (Or.inl ⟨by rfl, ?hy⟩) (by assumption) ?_
        case hy =>
          intro w' hSw
          (try dsimp only at hSw)
          go_simp
          (try with_reducible rfl)
        (try simp only [Act.put, List.setIfInBounds_toArray, List.set_cons_zero, List.set_cons_succ])
        refine wpAnyH_ready (rs := [27]) (by kernel_rfl) (by simp) ?_
        refine AllReadyH.cons rfl (fun K hK => ?_) AllReadyH.nil
        go_simp
        refine hK.out _ _ HF5.out (fun hHeld => ?_)
        clear hK K
        refine wpAnyH_done (by kernel_rfl) ?_ _
        go_end0
        exact ⟨rfl, _, _, _, HFIN.out _ (by repeat (first | exact Chg.refl _ _ | apply Chg.drew))⟩
end Go.Proofs.YtbdnhllhdjepcaaGreat
namespace Go.Proofs.YtbdnhllhdjepcaaGreat
set_option linter.unusedVariables false
set_option linter.unusedSimpArgs false
open Go.RowKit Go.Maps

/-! ### the law's world, and the lists that came out -/
theorem WAt.relay {Q : Qs → Rf → Prop} {w w' : World} {lo wb : Nat} {mv x1 x2 x3 x4 x5 y1 y2 y3 y4 y5 : Value} {ps : List Pr} {N : Nat} {c : List Nat} (h : WAt Q w lo wb mv x1 x2 x3 x4 x5 ps N) (hc : Chg c w w') (hb : w'.heap[wb]? = some (.cells [mv, y1, y2, y3, y4, y5].toArray 55 (0, 0))) (hm : ∀ b ∈ own mv, b ∉ c) (hf : ∀ p ∈ ps, ∀ b ∈ p.fp, b ∉ c) : WAt Q w' lo wb mv y1 y2 y3 y4 y5 ps N :=
  ⟨hb, h.row.chg hc (fun b hb => hm b (mem_own.2 hb)), fun p hp => (h.each p hp).chg hc (hf p hp), h.few, h.apart, h.far, h.lo⟩
structure WL (K : Nat) (w : World) (lo wb : Nat) (mv x1 x2 x3 x4 : Value) (nx : Int) (ps : List Pr) (N : Nat) (L : List Lst) : Prop where
  at_ : WAt (QSim K) w lo wb mv x1 x2 x3 x4 (.int .u32 nx) ps N
  ls : LsAt w x1 x3 L
  sep : ∀ b ∈ lfp x1 x3 L, b ∉ wfp wb mv ps
  low : ∀ b ∈ lfp x1 x3 L, lo ≤ b
  nx : 0 ≤ nx ∧ nx ≤ 4294967295
def StpL (K : Nat) (w w' : World) (lo wb : Nat) (x2 x4 : Value) (ps : List Pr) (N : Nat) (L : List Lst) (e : Ending) : Prop :=
  e = .returned (.bool true) ∧ ∃ mv' x1' x3' nx' ps' L', WL (K + 1) w' lo wb mv' x1' x2 x3' x4 nx' ps' (N + 3) L' ∧ ps'.length ≤ ps.length + 1 ∧ L'.length ≤ L.length + 4 ∧ ∃ c, (∀ b ∈ c, lo ≤ b) ∧ Chg c w w'
theorem WL.chg {K : Nat} {w w' : World} {lo wb : Nat} {mv x1 x2 x3 x4 : Value} {nx : Int} {ps : List Pr} {N : Nat} {L : List Lst} (h : WL K w lo wb mv x1 x2 x3 x4 nx ps N L) (hc : Chg [] w w') : WL K w' lo wb mv x1 x2 x3 x4 nx ps N L :=
  ⟨h.at_.chg hc (by simp), h.ls.chg hc (by simp), h.sep, h.low, h.nx⟩
theorem WL.mono {K K' : Nat} {w : World} {lo wb : Nat} {mv x1 x2 x3 x4 : Value} {nx : Int} {ps : List Pr} {N : Nat} {L : List Lst} (h : WL K w lo wb mv x1 x2 x3 x4 nx ps N L) (hK : K ≤ K') : WL K' w lo wb mv x1 x2 x3 x4 nx ps N L :=
  ⟨h.at_.imp (fun q s hq => hq.mono hK), h.ls, h.sep, h.low, h.nx⟩
/-- a step that touches no list -/
theorem WL.of {K K' : Nat} (hK : K' ≤ K + 1) {w w' : World} {lo wb : Nat} {mv x1 x2 x3 x4 : Value} {nx : Int} {ps : List Pr} {N : Nat} {L : List Lst} {e : Ending} (h : WL K w lo wb mv x1 x2 x3 x4 nx ps N L) (hs : StpP (QSim K') w w' lo wb mv x1 x2 x3 x4 (.int .u32 nx) ps N e) : StpL K w w' lo wb x2 x4 ps N L e := by
  obtain ⟨rfl, mv', ps', z1, z2, z3⟩ := hs
  refine ⟨rfl, mv', x1, x3, nx, ps', L, ⟨z1.imp (fun q s hq => hq.mono hK), h.ls.chg z3.chg h.sep, fun b hb hb' => ?_, h.low, h.nx⟩, z2, by omega, _, h.at_.lo, z3.chg⟩
  rcases z3.new b hb' with hx | hx
  · exact h.sep b hb hx
  · have := h.ls.lt b hb; omega
theorem StpL.head {K : Nat} {w w1 w2 : World} {lo wb : Nat} {x2 x4 : Value} {ps : List Pr} {N : Nat} {L : List Lst} {e : Ending} (h : StpL K w1 w2 lo wb x2 x4 ps N L e) (hc : Chg [] w w1) (hlo : lo ≤ w.heap.size) : StpL K w w2 lo wb x2 x4 ps N L e := by
  obtain ⟨rfl, mv', x1', x3', nx', ps', L', z1, z2, z3, c, z4, z5⟩ := h
  exact ⟨rfl, mv', x1', x3', nx', ps', L', z1, z2, z3, c, z4, (hc.mono (by simp)).trans z5 (fun j hj => Or.inl hj)⟩
/-- a list more is the caller's -/
theorem WL.owned {K : Nat} {w W wz : World} {lo wb : Nat} {mv x1 x2 x3 x4 X1 X3 v : Value} {nx m : Int} {ps : List Pr} {N : Nat} {L L' : List Lst} (h : WL K w lo wb mv x1 x2 x3 x4 nx ps N L) (ho : OwnP w W wb mv x1 x2 x3 x4 m v L X1 X3 L') (hv : ∀ b ∈ own v, b ∉ wfp wb mv ps) (hl : ∀ b ∈ own v, lo ≤ b) (hm : 0 ≤ m ∧ m ≤ 4294967295) (hz : Chg [] W wz) : WL K wz lo wb mv X1 x2 X3 x4 m ps N L' := by
  have hlow : lo ≤ w.heap.size := by
    have h1 := h.at_.lo wb (mem_wfp.2 (.inl rfl))
    have h2 := h.at_.lt wb (mem_wfp.2 (.inl rfl))
    omega
  have far : ∀ b, b ∈ wfp wb mv ps → b ≠ wb → b ∉ [wb] ++ own v ++ own x1 ++ own x3 := fun b hb hne hb' => by
    simp only [List.mem_append, List.mem_cons, List.not_mem_nil, or_false] at hb'
    rcases hb' with ((rfl | hb') | hb') | hb'
    · exact hne rfl
    · exact hv b hb' hb
    · exact h.sep b (mem_lfp.2 (.inl hb')) hb
    · exact h.sep b (mem_lfp.2 (.inr (.inl hb'))) hb
  have hmw : wb ∉ own mv := own_ty h.at_.row h.at_.blk (by decide)
  have hW : WL K W lo wb mv X1 x2 X3 x4 m ps N L' := by
    refine ⟨h.at_.relay ho.chg ho.blk (fun b hb => far b (mem_wfp.2 (.inr (.inl hb))) (fun e => hmw (e ▸ hb))) (fun p hp b hb => far b (mem_wfp.2 (.inr (.inr ⟨p, hp, hb⟩))) (h.at_.far p hp b hb).1), ho.ls, fun b hb hb' => ?_, fun b hb => ?_, hm⟩
    · rcases ho.fp b hb with hx | hx | hx
      · exact h.sep b hx hb'
      · exact hv b hx hb'
      · have := h.at_.lt b hb'; omega
    · rcases ho.fp b hb with hx | hx | hx
      · exact h.low b hx
      · exact hl b hx
      · omega
  exact hW.chg hz
end Go.Proofs.YtbdnhllhdjepcaaGreat
