import Derived.Test.YtbdnhllhdjepcaaReadc
namespace Go.Proofs.Ytbdnhllhdjepcaa
set_option linter.unusedVariables false
set_option linter.unusedSimpArgs false
open Go.RowKit Go.Maps

theorem lst8 {l : List UInt8} (h : l.length = 8) : ∃ c0 c1 c2 c3 c4 c5 c6 c7, l = [c0, c1, c2, c3, c4, c5, c6, c7] := by
  match l, h with
  | [c0, c1, c2, c3, c4, c5, c6, c7], _ => exact ⟨c0, c1, c2, c3, c4, c5, c6, c7, rfl⟩
set_option maxRecDepth 100000 in
theorem is_nil (w : World) : Calls Try.prog 30 #[sv []] w fun e w' => e = .returned (.bool false) ∧ w' = w := by
  go_enter Try.func30, Try.ntmps30
  go_wp2
  go_ret
  exact ⟨rfl, rfl⟩
theorem nb_cons8 (d0 d1 d2 d3 d4 d5 d6 d7 : UInt8) : nb [d0, d1, d2, d3, d4, d5, d6, d7] ≤ 9223372036854775807 ↔ d0.toNat < 128 := by
  have h0 := d0.toNat_lt
  have h1 := d1.toNat_lt
  have h2 := d2.toNat_lt
  have h3 := d3.toNat_lt
  have h4 := d4.toNat_lt
  have h5 := d5.toNat_lt
  have h6 := d6.toNat_lt
  have h7 := d7.toNat_lt
  simp only [nb, List.foldl]
  omega
set_option maxRecDepth 100000 in
set_option maxHeartbeats 2000000 in
theorem is_cons (b : UInt8) (l : List UInt8) (w : World) (hl : l.length ≤ 9223372036854775806) : Calls Try.prog 30 #[sv (b :: l)] w fun e w' => e = .returned (.bool (decide ((rd b l).k ≠ 0))) ∧ Chg [] w w' := by
  obtain ⟨L, hL⟩ : ∃ L, L = b :: l := ⟨_, rfl⟩
  have hsz : (⟨L.toArray⟩ : ByteArray).size = l.length + 1 := by rw [hL]; show (b :: l).toArray.size = _; simp
  have hn1 : ¬ (L = []) := by rw [hL]; simp
  have hn2 : (L == []) = false := by rw [hL]; rfl
  have hn3 : L.isEmpty = false := by rw [hL]; rfl
  have hg0 : ∀ h : 0 < (⟨L.toArray⟩ : ByteArray).size, (⟨L.toArray⟩ : ByteArray)[0]'h = b := by subst hL; exact fun _ => rfl
  have HRD : Hid (rd b l = if b.toNat = 1 ∧ l.length = 8 then rdAll l else if b.toNat = 2 ∧ l.length = 6 then rdSub l else if b.toNat = 3 ∧ l.length = 1 then rdPol l else if b.toNat = 4 ∧ l.length = 8 then rdAdv l else Cm.zero) := rfl
  have hbb := b.toNat_lt
  obtain ⟨K, hK⟩ : ∃ K, K = decide ((rd b l).k ≠ 0) := ⟨_, rfl⟩
  have HK : Hid (K = decide ((rd b l).k ≠ 0)) := hK
  have HL : Hid (L = b :: l) := hL
  rw [← hK, ← hL]
  clear hK hL
  obtain ⟨k, hk⟩ : ∃ k : Nat, b.toNat = k := ⟨_, rfl⟩
  rw [hk] at HRD hbb
  by_cases c1 : k = 1 ∧ l.length = 8
  · rw [if_pos c1] at HRD
    obtain ⟨rfl, c2⟩ := c1
    obtain ⟨d0, d1, d2, d3, d4, d5, d6, d7, rfl⟩ := lst8 c2
    have e1 : (rdAll [d0, d1, d2, d3, d4, d5, d6, d7]).k = if 1 ≤ (d6.toNat : Int) * 256 + d7.toNat ∧ (d6.toNat : Int) * 256 + d7.toNat ≤ 1000 then 1 else 0 := by
      unfold rdAll
      simp only [List.drop, List.take, nb, List.foldl]
      rw [show ((0 : Int) * 256 + (d6.toNat : Int)) * 256 + (d7.toNat : Int) = (d6.toNat : Int) * 256 + d7.toNat from by omega]
      split <;> rfl
    have HKK : Hid (K = decide (1 ≤ (d6.toNat : Int) * 256 + d7.toNat ∧ (d6.toNat : Int) * 256 + d7.toNat ≤ 1000)) := by
      show _ = _
      rw [HK.out, HRD.out, e1]
      split <;> simp_all
    have g6 : ∀ h : 7 < (⟨L.toArray⟩ : ByteArray).size, (⟨L.toArray⟩ : ByteArray)[7]'h = d6 := by have := HL.out; subst this; exact fun _ => rfl
    have g7 : ∀ h : 8 < (⟨L.toArray⟩ : ByteArray).size, (⟨L.toArray⟩ : ByteArray)[8]'h = d7 := by have := HL.out; subst this; exact fun _ => rfl
    have h6 := d6.toNat_lt
    have h7 := d7.toNat_lt
    obtain ⟨x6, hx6⟩ : ∃ x6, d6.toNat = x6 := ⟨_, rfl⟩
    obtain ⟨x7, hx7⟩ : ∃ x7, d7.toNat = x7 := ⟨_, rfl⟩
    rw [hx6, hx7] at HKK
    rw [hx6] at h6
    rw [hx7] at h7
    have hsz9 : (⟨L.toArray⟩ : ByteArray).size = 9 := hsz
    have hw6 : IntKind.i64.wrap (x6 : Int) = x6 := by rw [IntKind.wrap_i64]; omega
    have hw7 : IntKind.i64.wrap (x7 : Int) = x7 := by rw [IntKind.wrap_i64]; omega
    clear HK HRD e1 hl hsz hbb c2 HL
    go_enter Try.func30, Try.ntmps30
    by_cases y1 : 1 ≤ 256 * (x6 : Int) + x7
    · go_wp2_with fail
      go_region
      go_wp2
      go_ret
      refine ⟨ret_bool ?_, (Chg.refl _ _).drew⟩
      rw [HKK.out, Bool.eq_iff_iff]
      simp
      omega
    · go_wp2_with fail
      go_region
      go_wp2
      go_ret
      refine ⟨ret_bool ?_, (Chg.refl _ _).drew⟩
      rw [HKK.out, Bool.eq_iff_iff]
      simp
      omega
  · rw [if_neg c1] at HRD
    by_cases c2 : k = 2
    · subst c2
      have HKK : Hid (K = decide (l.length = 6)) := by
        show _ = _
        rw [HK.out, HRD.out]
        by_cases c : l.length = 6
        · rw [if_pos ⟨rfl, c⟩]; simp [c, rdSub]
        · rw [if_neg (by omega), if_neg (by omega), if_neg (by omega)]; simp [c, Cm.zero]
      generalize l.length = n at *
      clear HK HRD hbb HL c1
      go_enter Try.func30, Try.ntmps30
      go_wp2
      go_ret
      refine ⟨ret_bool ?_, Chg.refl _ _⟩
      rw [HKK.out, Bool.eq_iff_iff]
      simp
      omega
    · by_cases c3 : k = 3
      · subst c3
        have HKK : Hid (K = decide (l.length = 1)) := by
          show _ = _
          rw [HK.out, HRD.out]
          rw [if_neg (by omega)]
          by_cases c : l.length = 1
          · rw [if_pos ⟨rfl, c⟩]; simp [c, rdPol]
          · rw [if_neg (by omega), if_neg (by omega)]; simp [c, Cm.zero]
        generalize l.length = n at *
        clear HK HRD hbb HL c1
        go_enter Try.func30, Try.ntmps30
        go_wp2
        go_ret
        refine ⟨ret_bool ?_, Chg.refl _ _⟩
        rw [HKK.out, Bool.eq_iff_iff]
        simp
        omega
      · by_cases c4 : k = 4
        · subst c4
          rw [if_neg (by omega), if_neg (by omega)] at HRD
          by_cases c : l.length = 8
          · rw [if_pos ⟨rfl, c⟩] at HRD
            obtain ⟨d0, d1, d2, d3, d4, d5, d6, d7, rfl⟩ := lst8 c
            have HKK : Hid (K = decide (d0.toNat < 128)) := by
              show _ = _
              rw [HK.out, HRD.out]
              unfold rdAdv
              have := nb_cons8 d0 d1 d2 d3 d4 d5 d6 d7
              by_cases h : d0.toNat < 128
              · rw [if_pos (this.2 h)]; simp [h]
              · rw [if_neg (fun h' => h (this.1 h'))]; simp [h, Cm.zero]
            have g1 : ∀ h : 1 < (⟨L.toArray⟩ : ByteArray).size, (⟨L.toArray⟩ : ByteArray)[1]'h = d0 := by have := HL.out; subst this; exact fun _ => rfl
            have hsz9 : (⟨L.toArray⟩ : ByteArray).size = 9 := hsz
            obtain ⟨x0, hx0⟩ : ∃ x0, d0.toNat = x0 := ⟨_, rfl⟩
            rw [hx0] at HKK
            clear HK HRD hl hsz hbb c HL c1
            go_enter Try.func30, Try.ntmps30
            go_wp2
            go_ret
            refine ⟨ret_bool ?_, Chg.refl _ _⟩
            rw [HKK.out, Bool.eq_iff_iff]
            simp
            omega
          · rw [if_neg (by omega)] at HRD
            have HKK : Hid (K = false) := by show _ = _; rw [HK.out, HRD.out]; simp [Cm.zero]
            have o9 : ¬ ((l.length : Int) + 1 = 9) := by omega
            have o9' : ((l.length : Int) + 1 == 9) = false := by simpa using o9
            generalize l.length = n at *
            clear HK HRD hbb HL c1
            go_enter Try.func30, Try.ntmps30
            go_wp2
            go_ret
            exact ⟨ret_bool HKK.out.symm, Chg.refl _ _⟩
        · by_cases c5 : k = 1
          · subst c5
            have HKK : Hid (K = false) := by show _ = _; rw [HK.out, HRD.out, if_neg (by omega), if_neg (by omega), if_neg (by omega)]; simp [Cm.zero]
            have o9 : ¬ ((l.length : Int) + 1 = 9) := by omega
            have o9' : ((l.length : Int) + 1 == 9) = false := by simpa using o9
            generalize l.length = n at *
            clear HK HRD hbb HL c1
            go_enter Try.func30, Try.ntmps30
            go_wp2
            go_ret
            exact ⟨ret_bool HKK.out.symm, Chg.refl _ _⟩
          · have HKK : Hid (K = false) := by show _ = _; rw [HK.out, HRD.out, if_neg (by omega), if_neg (by omega), if_neg (by omega)]; simp [Cm.zero]
            have o1 : ((k : Int) == 1) = false := by simp; omega
            have o2 : ((k : Int) == 2) = false := by simp; omega
            have o3 : ((k : Int) == 3) = false := by simp; omega
            have o4 : ((k : Int) == 4) = false := by simp; omega
            generalize l.length = n at *
            clear HK HRD hbb HL c1
            go_enter Try.func30, Try.ntmps30
            go_wp2
            go_ret
            exact ⟨ret_bool HKK.out.symm, Chg.refl _ _⟩
end Go.Proofs.Ytbdnhllhdjepcaa
