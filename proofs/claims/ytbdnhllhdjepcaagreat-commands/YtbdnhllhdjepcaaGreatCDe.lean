import Derived.Test.YtbdnhllhdjepcaaGreatCDr
import Derived.Test.YtbdnhllhdjepcaaGreatCQob
import Derived.Test.YtbdnhllhdjepcaaGreatCRl
namespace Go.Proofs.YtbdnhllhdjepcaaGreat
set_option linter.unusedVariables false
set_option linter.unusedSimpArgs false
open Go.RowKit Go.Maps

/-! ### the document's Do -/
theorem lsu8 {l : List UInt8} (h : l.length = 8) : ∃ c0 c1 c2 c3 c4 c5 c6 c7, l = [c0, c1, c2, c3, c4, c5, c6, c7] := by
  match l, h with
  | [c0, c1, c2, c3, c4, c5, c6, c7], _ => exact ⟨c0, c1, c2, c3, c4, c5, c6, c7, rfl⟩
theorem nb_high (l : List UInt8) (h : l.length = 8) (h0 : 0 < l.length) : nb l ≤ 9223372036854775807 ↔ (l[0]'h0).toNat < 128 := by
  obtain ⟨d0, d1, d2, d3, d4, d5, d6, d7, rfl⟩ := lsu8 h
  have b1 := d1.toNat_lt
  have b2 := d2.toNat_lt
  have b3 := d3.toNat_lt
  have b4 := d4.toNat_lt
  have b5 := d5.toNat_lt
  have b6 := d6.toNat_lt
  have b7 := d7.toNat_lt
  simp only [nb, List.foldl_cons, List.foldl_nil, List.getElem_cons_zero]
  omega
set_option maxRecDepth 100000 in
set_option maxHeartbeats 4000000 in
theorem do_nil (yb : Nat) (w : World) : Calls Tryz.prog 46 #[.pointer (some ⟨yb, 0, none⟩), sv []] w fun e w' => e = .returned (sv [255]) ∧ Chg [] w w' := by
  go_enter Tryz.func46, Tryz.ntmps46
  go_wp2
  go_ret
  exact ⟨rfl, Chg.refl _ _⟩
set_option maxRecDepth 100000 in
set_option maxHeartbeats 4000000 in
theorem do_none (yb : Nat) (b : UInt8) (l : List UInt8) (w : World) (hl : l.length ≤ 9223372036854775806) (h1 : ¬ (b.toNat = 1 ∧ l.length = 8)) (h2 : ¬ (b.toNat = 2 ∧ l.length = 6)) (h3 : ¬ (b.toNat = 3 ∧ l.length = 1)) (h4 : ¬ (b.toNat = 4 ∧ l.length = 8)) :
    Calls Tryz.prog 46 #[.pointer (some ⟨yb, 0, none⟩), sv (b :: l)] w fun e w' => e = .returned (sv [255]) ∧ Chg [] w w' := by
  have hsz : (⟨(b :: l).toArray⟩ : ByteArray).size = l.length + 1 := by show (b :: l).toArray.size = _; simp
  have hex := sv_ext (b :: l)
  have hg0 : ∀ h : 0 < (⟨(b :: l).toArray⟩ : ByteArray).size, (⟨(b :: l).toArray⟩ : ByteArray)[0]'h = b := fun _ => rfl
  have hbb := b.toNat_lt
  obtain ⟨k, hk⟩ : ∃ k : Nat, b.toNat = k := ⟨_, rfl⟩
  rw [hk] at h1 h2 h3 h4 hbb
  obtain ⟨n, hn⟩ : ∃ n, n = l.length := ⟨_, rfl⟩
  rw [← hn] at hsz h1 h2 h3 h4 hl
  clear hn hex
  rcases (by omega : n = 8 ∨ n = 6 ∨ n = 1 ∨ (n ≠ 8 ∧ n ≠ 6 ∧ n ≠ 1)) with rfl | rfl | rfl | ⟨n1, n2, n3⟩
  · have e1 : ¬ (k : Int) = 1 := by omega
    have e2 : ¬ (k : Int) = 4 := by omega
    clear h1 h2 h3 h4
    go_enter Tryz.func46, Tryz.ntmps46
    go_wp2
    go_ret
    exact ⟨rfl, Chg.refl _ _⟩
  · have e1 : ¬ (k : Int) = 2 := by omega
    clear h1 h2 h3 h4
    go_enter Tryz.func46, Tryz.ntmps46
    go_wp2
    go_ret
    exact ⟨rfl, Chg.refl _ _⟩
  · have e1 : ¬ (k : Int) = 3 := by omega
    clear h1 h2 h3 h4
    go_enter Tryz.func46, Tryz.ntmps46
    go_wp2
    go_ret
    exact ⟨rfl, Chg.refl _ _⟩
  · have e1 : ¬ (n : Int) + 1 = 9 := by omega
    have e2 : ¬ (n : Int) + 1 = 7 := by omega
    have e3 : ¬ (n : Int) + 1 = 2 := by omega
    clear h1 h2 h3 h4
    go_enter Tryz.func46, Tryz.ntmps46
    go_wp2
    go_ret
    exact ⟨rfl, Chg.refl _ _⟩
set_option maxRecDepth 100000 in
set_option maxHeartbeats 4000000 in
theorem do_high (yb : Nat) (b : UInt8) (l : List UInt8) (w : World) (hb : b.toNat = 4) (h8 : l.length = 8) (h1 : 9223372036854775807 < nb l) :
    Calls Tryz.prog 46 #[.pointer (some ⟨yb, 0, none⟩), sv (b :: l)] w fun e w' => e = .returned (sv [255]) ∧ Chg [] w w' := by
  have hsz : (⟨(b :: l).toArray⟩ : ByteArray).size = l.length + 1 := by show (b :: l).toArray.size = _; simp
  have hex := sv_ext (b :: l)
  have hg0 : ∀ h : 0 < (⟨(b :: l).toArray⟩ : ByteArray).size, (⟨(b :: l).toArray⟩ : ByteArray)[0]'h = b := fun _ => rfl
  have hbb := b.toNat_lt
  have hhi : ¬ (l[0]'(by omega)).toNat < 128 := fun h => by have := (nb_high l h8 (by omega)).2 h; omega
  have hg1 : ∀ h : 1 < (⟨(b :: l).toArray⟩ : ByteArray).size, (⟨(b :: l).toArray⟩ : ByteArray)[1]'h = l[0]'(by omega) := fun _ => rfl
  generalize l[0]'(by omega) = c at *
  have hc2 : ¬ (c.toNat : Int) < 128 := by omega
  clear h1 hex
  rw [h8] at hsz
  go_enter Tryz.func46, Tryz.ntmps46
  go_wp2
  go_ret
  exact ⟨rfl, Chg.refl _ _⟩
end Go.Proofs.YtbdnhllhdjepcaaGreat
namespace Go.Proofs.YtbdnhllhdjepcaaGreat
set_option linter.unusedVariables false
set_option linter.unusedSimpArgs false
open Go.RowKit Go.Maps

theorem bs_size (l : List UInt8) : (⟨l.toArray⟩ : ByteArray).size = l.length := by show l.toArray.size = _; simp
theorem bs_add (a b : List UInt8) : (⟨a.toArray⟩ : ByteArray) ++ (⟨b.toArray⟩ : ByteArray) = ⟨(a ++ b).toArray⟩ := by
  have := sv_add a b
  simp only [sv] at this
  injection this
theorem be_one {x : Int} (h0 : 0 ≤ x) (h1 : x < 256) : be x 1 = bl [x] := by
  show be (x / 256) 0 ++ [(x % 256).toNat.toUInt8] = [x.toNat.toUInt8]
  rw [show x % 256 = x from by omega]
  rfl
theorem SubR.tail {w w1 w2 : World} {yb : Nat} {s : Rf} {t x : Int} {e : Ending} (h : SubR w w1 yb s t x e) (hc : Chg [] w1 w2) : SubR w w2 yb s t x e := by
  obtain ⟨h1, h2, h3⟩ := h
  refine ⟨fun h => ⟨(h1 h).1, (h1 h).2.trans hc (by simp)⟩, fun h h' => ⟨(h2 h h').1, (h2 h h').2.trans hc (by simp)⟩, fun h h' => ?_⟩
  obtain ⟨e1, s', q1, q2, q3⟩ := h3 h h'
  exact ⟨e1, s', q1, q2.chg hc (by simp), q3.trans (RStp.of0 hc)⟩
theorem SubR.head {w w1 w2 : World} {yb : Nat} {s : Rf} {t x : Int} {e : Ending} (h : SubR w1 w2 yb s t x e) (hc : Chg [] w w1) : SubR w w2 yb s t x e := by
  obtain ⟨h1, h2, h3⟩ := h
  refine ⟨fun h => ⟨(h1 h).1, hc.trans (h1 h).2 (by simp)⟩, fun h h' => ⟨(h2 h h').1, hc.trans (h2 h h').2 (by simp)⟩, fun h h' => ?_⟩
  obtain ⟨e1, s', q1, q2, q3⟩ := h3 h h'
  exact ⟨e1, s', q1, q2, (RStp.of0 hc).trans q3⟩
theorem SubR.form {w w' : World} {yb : Nat} {s : Rf} {t x : Int} {e : Ending} (h : SubR w w' yb s t x e) (hd : 0 ≤ s.due t ∧ s.due t ≤ 18446744073709551615) : ∃ st d, e = .returned (.tuple #[.int .i64 st, .int .u64 d]) ∧ (0 ≤ st ∧ st < 256) ∧ 0 ≤ d ∧ d ≤ 18446744073709551615 := by
  obtain ⟨h1, h2, h3⟩ := h
  by_cases a : s.c.de < s.due t - s.T
  · exact ⟨4, 0, (h1 a).1, by decide, by decide, by decide⟩
  · by_cases c : s.c.qu ≤ (s.is.length : Int)
    · exact ⟨5, 0, (h2 (by omega) c).1, by decide, by decide, by decide⟩
    · exact ⟨3, s.due t, (h3 (by omega) (by omega)).1, by decide, hd⟩
theorem nb2 {l : List UInt8} (h : l.length ≤ 2) : 0 ≤ nb l ∧ nb l < 65536 := by
  have hb := nb_bd l
  rcases (show l.length = 0 ∨ l.length = 1 ∨ l.length = 2 from by omega) with e | e | e <;> rw [e] at hb <;> simp at hb <;> omega
theorem nb4 {l : List UInt8} (h : l.length = 4) : 0 ≤ nb l ∧ nb l < 4294967296 := by
  have hb := nb_bd l
  rw [h] at hb
  simp at hb
  omega
set_option maxRecDepth 100000 in
set_option maxHeartbeats 4000000 in
theorem do_adv (yb : Nat) (s : Rf) (b : UInt8) (l : List UInt8) (w : World) (h : RefAt w yb s) (hT : 0 ≤ s.T ∧ s.T ≤ 9223372036854775807) (hb : b.toNat = 4) (h8 : l.length = 8) (h1 : nb l ≤ 9223372036854775807) :
    Calls Tryz.prog 46 #[.pointer (some ⟨yb, 0, none⟩), sv (b :: l)] w fun e w' => e = .returned (sv (bl [4] ++ be (s.adv (nb l)).T 8)) ∧ RefAt w' yb (s.adv (nb l)) ∧ Chg [yb] w w' := by
  have hsz : (⟨(b :: l).toArray⟩ : ByteArray).size = 9 := by show (b :: l).toArray.size = _; simp [h8]
  have hex : (⟨(b :: l).toArray⟩ : ByteArray).extract 1 9 = ⟨l.toArray⟩ := by rw [sv_ext]; simp [← h8]
  have hg0 : ∀ h : 0 < (⟨(b :: l).toArray⟩ : ByteArray).size, (⟨(b :: l).toArray⟩ : ByteArray)[0]'h = b := fun _ => rfl
  have hlo : (l[0]'(by omega)).toNat < 128 := (nb_high l h8 (by omega)).1 h1
  have hg1 : ∀ h : 1 < (⟨(b :: l).toArray⟩ : ByteArray).size, (⟨(b :: l).toArray⟩ : ByteArray)[1]'h = l[0]'(by omega) := fun _ => rfl
  generalize l[0]'(by omega) = c at *
  have hc2 : (c.toNat : Int) < 128 := by omega
  have hn0 := (nb_bd l).1
  have H90 : Hid (∀ W, Calls Tryz.prog 90 #[sv l] W fun e w' => e = .returned (.int .u64 (nb l)) ∧ w' = W) := fun W => read_ref l W (by omega)
  generalize nb l = n at *
  have hwn : IntKind.i64.wrap n = n := by rw [IntKind.wrap_i64]; omega
  have H37 : Hid (Calls Tryz.prog 37 #[.pointer (some ⟨yb, 0, none⟩), .int .i64 n] w fun e w' => e = .returned (.int .i64 0) ∧ RefAt w' yb (s.adv n) ∧ Chg [yb] w w') := by
    refine (advance_ref yb s n w h hT ⟨by omega, by omega⟩).mono ?_
    rintro e w1 ⟨_, h2⟩
    exact h2 (by omega)
  have HT1 : Hid (0 ≤ (s.adv n).T ∧ (s.adv n).T ≤ 9223372036854775807) := by
    show 0 ≤ min (s.T + n) _ ∧ min (s.T + n) _ ≤ _
    omega
  clear h
  go_enter Tryz.func46, Tryz.ntmps46
  go_wp2_with fail
  refine (H90.out _).mono ?_
  rintro e w0 ⟨rfl, rfl⟩
  go_wp2_with fail
  refine (H37.out).mono ?_
  rintro e w1 ⟨rfl, hr, c1⟩
  have HR : Hid (RefAt w1 yb (s.adv n) ∧ Chg [yb] w0 w1) := ⟨hr, c1⟩
  have y15 : w1.cell? ⟨yb, 15, none⟩ = some (.int .u64 (s.adv n).T) := blk_cell (i := 15) hr.blk rfl
  have hyl := lt_of_block hr.blk
  clear hr c1
  obtain ⟨T1, hT1⟩ : ∃ T1, T1 = (s.adv n).T := ⟨_, rfl⟩
  rw [← hT1] at HT1 y15
  have HTE : Hid (T1 = (s.adv n).T) := hT1
  clear hT1
  obtain ⟨t0, t1⟩ := HT1.out
  have HW4 : Hid (∀ W, Calls Tryz.prog 91 #[.int .u64 4, .int .i64 1] W fun e w' => e = .returned (sv (bl [4])) ∧ Chg [] W w') := fun W => by
    have := write_ref 1 4 W (by decide) (by decide) (by decide)
    rw [be_one (by decide) (by decide)] at this
    exact this
  have HWT : Hid (∀ W, Calls Tryz.prog 91 #[.int .u64 T1, .int .i64 8] W fun e w' => e = .returned (sv (be T1 8)) ∧ Chg [] W w') := fun W => write_ref 8 T1 W (by decide) t0 (by omega)
  have HS : Hid (∀ W, Chg [] w1 W → W.cell? ⟨yb, 15, none⟩ = some (.int .u64 T1)) := fun W hW => hW.cell y15 (by simp)
  have hbs := bs_size
  have hbl := be_len
  have hba := bs_add
  have hb4 : (bl [4]).length = 1 := rfl
  have vv : Chg [] w1 w1.drew := (Chg.refl _ _).drew
  go_wp2_with fail
  go_region_held3 (fun W => W.cell? ⟨yb, 15, none⟩ = some (.int .u64 T1))
    (first | with_reducible exact HS.out _ vv | fail)
    (first | (go_at_call 91; with_reducible refine (HW4.out _).mono ?_; rintro e wc ⟨rfl, qc⟩; have vv := vv.trans qc (by simp)) | (go_at_call 91; with_reducible refine (HWT.out _).mono ?_; rintro e wc ⟨rfl, qc⟩; have vv := vv.trans qc (by simp)) | fail)
  all_goals
    go_wp2
    go_ret
    exact ⟨by rw [← HTE.out]; rfl, HR.out.1.chg vv (by simp), HR.out.2.trans vv (by simp)⟩
set_option maxRecDepth 100000 in
set_option maxHeartbeats 4000000 in
theorem do_sub (yb : Nat) (s : Rf) (b : UInt8) (l : List UInt8) (w : World) (h : RefAt w yb s) (hb : b.toNat = 2) (h6 : l.length = 6) (hT : 0 ≤ s.T ∧ s.T ≤ 9223372036854775807) (hev : 1 ≤ s.c.ev ∧ s.c.ev ≤ 4611686018427387904) (hde : 0 ≤ s.c.de ∧ s.c.de ≤ 4611686018427387904) (hlen : s.ts.length ≤ 1000000000000) (hil : s.is.length ≤ 1000) (htw : ∀ e ∈ s.ts, U16 e.1 ∧ 0 ≤ e.2 ∧ e.2 ≤ 18446744073709551615) (hdu : ∀ t, 0 ≤ s.due t ∧ s.due t ≤ 18446744073709551615) :
    Calls Tryz.prog 46 #[.pointer (some ⟨yb, 0, none⟩), sv (b :: l)] w fun e w' => ∃ st d, e = .returned (sv (bl [st] ++ be d 8)) ∧ SubR w w' yb s (nb (l.take 2)) (nb ((l.drop 2).take 4)) (.returned (.tuple #[.int .i64 st, .int .u64 d])) := by
  have hsz : (⟨(b :: l).toArray⟩ : ByteArray).size = 7 := by show (b :: l).toArray.size = _; simp [h6]
  have hex1 : (⟨(b :: l).toArray⟩ : ByteArray).extract 1 3 = ⟨(l.take 2).toArray⟩ := by rw [sv_ext]; simp
  have hex2 : (⟨(b :: l).toArray⟩ : ByteArray).extract 3 7 = ⟨((l.drop 2).take 4).toArray⟩ := by rw [sv_ext]; simp
  have hg0 : ∀ h : 0 < (⟨(b :: l).toArray⟩ : ByteArray).size, (⟨(b :: l).toArray⟩ : ByteArray)[0]'h = b := fun _ => rfl
  have l1 : (l.take 2).length = 2 := by rw [List.length_take]; omega
  have l2 : ((l.drop 2).take 4).length = 4 := by rw [List.length_take, List.length_drop]; omega
  have b1 := nb2 (l := l.take 2) (by omega)
  have b2 := nb4 l2
  have H0 : Hid (∀ W, Calls Tryz.prog 90 #[sv (l.take 2)] W fun e w' => e = .returned (.int .u64 (nb (l.take 2))) ∧ w' = W) := fun W => read_ref _ W (by omega)
  have H1 : Hid (∀ W, Calls Tryz.prog 90 #[sv ((l.drop 2).take 4)] W fun e w' => e = .returned (.int .u64 (nb ((l.drop 2).take 4))) ∧ w' = W) := fun W => read_ref _ W (by omega)
  generalize nb (l.take 2) = N0 at *
  generalize nb ((l.drop 2).take 4) = N1 at *
  have w0 : IntKind.u16.wrap N0 = N0 := by rw [IntKind.wrap_u16]; omega
  have w1 : IntKind.u32.wrap N1 = N1 := by rw [IntKind.wrap_u32]; omega
  have HSU : Hid (∀ W, Chg [] w W → Calls Tryz.prog 41 #[.pointer (some ⟨yb, 0, none⟩), .int .u16 N0, .int .u32 N1] W fun e w' => ∃ st d, e = .returned (.tuple #[.int .i64 st, .int .u64 d]) ∧ (0 ≤ st ∧ st < 256) ∧ 0 ≤ d ∧ d ≤ 18446744073709551615 ∧ SubR w w' yb s N0 N1 (.returned (.tuple #[.int .i64 st, .int .u64 d]))) := fun W hW => by
    refine (submit_ref yb s N0 N1 W (h.chg hW (by simp)) ⟨by omega, by omega⟩ hT hev hde hlen hil htw).mono ?_
    rintro e w' hs
    obtain ⟨st, d, rfl, q1, q2, q3⟩ := hs.form (hdu N0)
    exact ⟨st, d, rfl, q1, q2, q3, hs.head hW⟩
  clear h htw hdu b1 b2 l1 l2
  generalize l.take 2 = L0 at *
  generalize (l.drop 2).take 4 = L1 at *
  have vv : Chg [] w w.drew := (Chg.refl _ _).drew
  go_enter Tryz.func46, Tryz.ntmps46
  go_wp2_with fail
  go_region_with (first | (go_at_call 90; with_reducible refine (H0.out _).mono ?_; rintro e wz ⟨rfl, rfl⟩) | (go_at_call 90; with_reducible refine (H1.out _).mono ?_; rintro e wz ⟨rfl, rfl⟩) | (go_at_call 41; with_reducible refine (HSU.out _ vv).mono ?_; rintro e wz ⟨st, d, rfl, q1, q2, q3, hs⟩))
  all_goals
    have HSR : Hid (SubR w wz yb s N0 N1 (.returned (.tuple #[.int .i64 st, .int .u64 d]))) := hs
    clear hs
    have hbs := bs_size
    have hbl := be_len
    have hba := bs_add
    have hb1 : (bl [st]).length = 1 := rfl
    have ws : IntKind.u64.wrap st = st := by rw [IntKind.wrap_u64]; omega
    have HW1 : Hid (∀ W, Calls Tryz.prog 91 #[.int .u64 st, .int .i64 1] W fun e w' => e = .returned (sv (bl [st])) ∧ Chg [] W w') := fun W => by
      have := write_ref 1 st W (by decide) (by omega) (by omega)
      rw [be_one (by omega) (by omega)] at this
      exact this
    have HW2 : Hid (∀ W, Calls Tryz.prog 91 #[.int .u64 d, .int .i64 8] W fun e w' => e = .returned (sv (be d 8)) ∧ Chg [] W w') := fun W => write_ref 8 d W (by decide) q2 q3
    go_wp2_with fail
    refine (HW1.out _).mono ?_
    rintro e wu ⟨rfl, cu⟩
    have HCU : Hid (Chg [] wz wu) := cu
    clear cu
    go_wp2_with fail
    refine (HW2.out _).mono ?_
    rintro e wv ⟨rfl, cv⟩
    have HCV : Hid (Chg [] wz wv) := HCU.out.trans cv (by simp)
    clear cv
    go_wp2
    go_ret
    exact ⟨st, d, rfl, HSR.out.tail HCV.out⟩
end Go.Proofs.YtbdnhllhdjepcaaGreat
