import Derived.Test.YtbdnhllhdjepcaaGreatCDe
namespace Go.Proofs.YtbdnhllhdjepcaaGreat
set_option linter.unusedVariables false
set_option linter.unusedSimpArgs false
open Go.RowKit Go.Maps

/-- what a text that asks for items leaves, by the document -/
def PolD (w w' : World) (yb : Nat) (s : Rf) (most : Int) (ws : List It) : Prop := ∃ k s', ws = (isort s.is).take k ∧ ws.length = k ∧ Cnt (isort s.is) most s.T k ∧ PolS s s' k ∧ RefAt w' yb s' ∧ RStp w w' yb s s'
theorem PolD.tail {w w1 w2 : World} {yb : Nat} {s : Rf} {most : Int} {ws : List It} (h : PolD w w1 yb s most ws) (hc : Chg [] w1 w2) : PolD w w2 yb s most ws := by
  obtain ⟨k, s', h1, h2, h3, h4, h5, h6⟩ := h
  exact ⟨k, s', h1, h2, h3, h4, h5.chg hc (by simp), h6.trans (RStp.of0 hc)⟩
theorem nb_one {l : List UInt8} (h : l.length = 1) : ∃ c : UInt8, l = [c] ∧ nb l = (c.toNat : Int) := by
  match l, h with
  | [c], _ => exact ⟨c, rfl, by simp [nb]⟩
set_option maxRecDepth 100000 in
set_option maxHeartbeats 8000000 in
theorem do_pol (yb : Nat) (s : Rf) (b : UInt8) (l : List UInt8) (w : World) (h : RefAt w yb s) (hT : 0 ≤ s.T ∧ s.T ≤ 9223372036854775807) (hb : b.toNat = 3) (h1 : l.length = 1) (hil : s.is.length ≤ 50) (hwf : IWf (isort s.is)) :
    Calls Tryz.prog 46 #[.pointer (some ⟨yb, 0, none⟩), sv (b :: l)] w fun e w' => ∃ ws, e = .returned (sv (bl [3, (ws.length : Int)] ++ ib ws)) ∧ PolD w w' yb s (nb l) ws := by
  obtain ⟨c, rfl, hnc⟩ := nb_one h1
  rw [hnc]
  have hsz : (⟨[b, c].toArray⟩ : ByteArray).size = 2 := rfl
  have hg0 : ∀ h : 0 < (⟨[b, c].toArray⟩ : ByteArray).size, (⟨[b, c].toArray⟩ : ByteArray)[0]'h = b := fun _ => rfl
  have hg1 : ∀ h : 1 < (⟨[b, c].toArray⟩ : ByteArray).size, (⟨[b, c].toArray⟩ : ByteArray)[1]'h = c := fun _ => rfl
  have hcb := c.toNat_lt
  have HB1 : Hid (∀ (n : Int) W, 0 ≤ n → n ≤ 18446744073709551615 → Calls Tryz.prog 91 #[.int .u64 n, .int .i64 1] W fun e w' => e = .returned (sv (be n 1)) ∧ Chg [] W w') := fun n W h2 h3 => write_ref 1 n W (by decide) h2 h3
  have HB2 : Hid (∀ (n : Int) W, 0 ≤ n → n ≤ 18446744073709551615 → Calls Tryz.prog 91 #[.int .u64 n, .int .i64 2] W fun e w' => e = .returned (sv (be n 2)) ∧ Chg [] W w') := fun n W h2 h3 => write_ref 2 n W (by decide) h2 h3
  have HB4 : Hid (∀ (n : Int) W, 0 ≤ n → n ≤ 18446744073709551615 → Calls Tryz.prog 91 #[.int .u64 n, .int .i64 4] W fun e w' => e = .returned (sv (be n 4)) ∧ Chg [] W w') := fun n W h2 h3 => write_ref 4 n W (by decide) h2 h3
  have HB8 : Hid (∀ (n : Int) W, 0 ≤ n → n ≤ 18446744073709551615 → Calls Tryz.prog 91 #[.int .u64 n, .int .i64 8] W fun e w' => e = .returned (sv (be n 8)) ∧ Chg [] W w') := fun n W h2 h3 => write_ref 8 n W (by decide) h2 h3
  obtain ⟨m, hm⟩ : ∃ m : Nat, c.toNat = m := ⟨_, rfl⟩
  rw [hm] at hcb ⊢
  have HPo : Hid (Calls Tryz.prog 43 #[.pointer (some ⟨yb, 0, none⟩), .int .i64 (m : Int)] w fun e w' => ∃ (ws : List It) (v : Value), e = .returned v ∧ Rw w' 123 3 v ws.length (icells ws) ∧ IWf ws ∧ ws.length ≤ 100 ∧ PolD w w' yb s m ws) := by
    refine (poll_ref yb s m w h hT (by omega) ⟨by omega, by omega⟩).mono ?_
    rintro e w' ⟨k, s', v, hR⟩
    have hle := hR.cnt.le
    have hln := isort_len s.is
    have hkl : ((isort s.is).take k).length = k := by rw [List.length_take]; omega
    exact ⟨(isort s.is).take k, v, hR.e, by rw [hkl]; exact hR.told, fun y hy => hwf y (List.mem_of_mem_take hy), by omega, k, s', rfl, hkl, hR.cnt, hR.pol, hR.ref, hR.stp⟩
  have wm : IntKind.i64.wrap (m : Int) = m := by rw [IntKind.wrap_i64]; omega
  have hbs := bs_size
  have hbl := be_len
  have hba := bs_add
  clear h hwf hnc h1
  go_enter Tryz.func46, Tryz.ntmps46
  go_wp2_with fail
  refine (HPo.out).mono ?_
  rintro e w2 ⟨ws, v, rfl, hr, hw, hl, hfin⟩
  obtain ⟨bs, cp, hv⟩ := hr.val
  have HR : Hid (Rw w2 123 3 v ws.length (icells ws)) := hr
  have HW : Hid (IWf ws) := hw
  have HFN : Hid (PolD w w2 yb s m ws) := hfin
  have wln : IntKind.u64.wrap (ws.length : Int) = (ws.length : Int) := by rw [IntKind.wrap_u64]; omega
  subst hv
  clear hr hw hfin HPo
  go_wp2_with fail
  refine (HB1.out _ _ (by omega) (by omega)).mono ?_
  rintro e w3 ⟨rfl, q3⟩
  have HQ3 : Hid (Chg [] w2 w3) := q3
  clear q3
  go_wp2_with fail
  refine (HB1.out _ _ (by omega) (by omega)).mono ?_
  rintro e w4 ⟨rfl, q4⟩
  have HQ4 : Hid (Chg [] w2 w4) := HQ3.out.trans q4 (by simp)
  have HB0 : Hid (be 3 1 ++ (be (ws.length : Int) 1 ++ ib ws) = bl [3, (ws.length : Int)] ++ ib ws) := by
    rw [be_one (by decide) (by decide), be_one (by omega) (by omega)]
    rfl
  clear q4
  go_wp2_with fail
  go_loopw [11, 12] (fun tv ix wr => ∃ j : Nat, j ≤ ws.length ∧ tv = sv (be 3 1 ++ be (ws.length : Int) 1 ++ ib (ws.take j)) ∧ ix = .int .i64 j ∧ Chg [] w2 wr) (fun _ ix _ => ws.length - (intOf ix).toNat)
  case atStart => exact ⟨0, by omega, by simp [ib], rfl, HQ4.out⟩
  case round =>
    obtain ⟨j, hj, rfl, rfl, hch⟩ := hrel
    by_cases hlt : j < ws.length
    · rcases HR.out.2.2 with ⟨_, hz⟩ | ⟨b, cap, P, R', hv, hg, _⟩
      · omega
      · injection hv with e1 e2 e3
        subst e1 e3
        clear e2
        have hgr := hch.blk hg (by simp)
        have hat := ic_at ws j hlt
        have hy := HW.out _ (List.getElem_mem hlt)
        have HTK : Hid (ib (ws.take (j + 1)) = ib (ws.take j) ++ be ws[j].t 2 ++ be ws[j].x 4 ++ be ws[j].d 8) := ib_take ws j hlt
        generalize ws[j] = y at *
        obtain ⟨yt, yx, yd⟩ := y
        simp only at hat hy
        have HSR : Hid (∀ W, Chg [] wr W → (W.cell? ⟨b, P.length + j * 3, none⟩ = some (.int .u16 yt) ∧ W.cell? ⟨b, P.length + j * 3 + 1, none⟩ = some (.int .u32 yx) ∧ W.cell? ⟨b, P.length + j * 3 + 2, none⟩ = some (.int .u64 yd))) := fun W hW => by
          have hgW := hW.blk hgr (by simp)
          exact ⟨Rw.cell (n := 0) (sz := 0) hgW hat.1, by rw [Nat.add_assoc]; exact Rw.cell (n := 0) (sz := 0) hgW hat.2.1, by rw [Nat.add_assoc]; exact Rw.cell (n := 0) (sz := 0) hgW hat.2.2⟩
        obtain ⟨d0, d1, d2⟩ := HSR.out wr (Chg.refl _ _)
        have hjj : (j : Int) < (ws.length : Int) := by omega
        have hw1 : IntKind.u64.wrap yt = yt := by rw [IntKind.wrap_u64]; omega
        have hw2 : IntKind.u64.wrap yx = yx := by rw [IntKind.wrap_u64]; omega
        obtain ⟨Y1, hY1⟩ : ∃ Y : ByteArray, Y = ⟨(be yt 2).toArray⟩ := ⟨_, rfl⟩
        obtain ⟨Y2, hY2⟩ : ∃ Y : ByteArray, Y = ⟨(be yx 4).toArray⟩ := ⟨_, rfl⟩
        obtain ⟨Y3, hY3⟩ : ∃ Y : ByteArray, Y = ⟨(be yd 8).toArray⟩ := ⟨_, rfl⟩
        obtain ⟨F, hF⟩ : ∃ Y : ByteArray, Y = ⟨(be 3 1 ++ be (ws.length : Int) 1 ++ ib (ws.take j)).toArray⟩ := ⟨_, rfl⟩
        have HYt : Hid (∀ W, Calls Tryz.prog 91 #[.int .u64 yt, .int .i64 2] W fun e w' => e = .returned (.string Y1) ∧ Chg [] W w') := fun W => by rw [hY1]; exact HB2.out yt W (by omega) (by omega)
        have HYx : Hid (∀ W, Calls Tryz.prog 91 #[.int .u64 yx, .int .i64 4] W fun e w' => e = .returned (.string Y2) ∧ Chg [] W w') := fun W => by rw [hY2]; exact HB4.out yx W (by omega) (by omega)
        have HYd : Hid (∀ W, Calls Tryz.prog 91 #[.int .u64 yd, .int .i64 8] W fun e w' => e = .returned (.string Y3) ∧ Chg [] W w') := fun W => by rw [hY3]; exact HB8.out yd W (by omega) (by omega)
        have hl1 : Y1.size = 2 := by rw [hY1, bs_size, be_len]
        have hl2 : Y2.size = 4 := by rw [hY2, bs_size, be_len]
        have hl3 : Y3.size = 8 := by rw [hY3, bs_size, be_len]
        have hFl : F.size ≤ 2000 := by rw [hF, bs_size, List.length_append, List.length_append, be_len, be_len, ib_len, List.length_take]; omega
        have m1 : F.size + Y1.size ≤ 9223372036854775807 := by omega
        have m2 : F.size + Y1.size + Y2.size ≤ 9223372036854775807 := by omega
        have m3 : F.size + Y1.size + Y2.size + Y3.size ≤ 9223372036854775807 := by omega
        have A1 : ∀ W : World, (Op.stringOp .add F Y1).run Tryz.prog W = .ok (.string (F ++ Y1)) W := fun W => run_string_add_sum W F Y1 m1
        have A2 : ∀ W : World, (Op.stringOp .add (F ++ Y1) Y2).run Tryz.prog W = .ok (.string (F ++ Y1 ++ Y2)) W := fun W => run_string_add_sum W _ Y2 (by rw [ByteArray.size_append]; exact m2)
        have A3 : ∀ W : World, (Op.stringOp .add (F ++ Y1 ++ Y2) Y3).run Tryz.prog W = .ok (.string (F ++ Y1 ++ Y2 ++ Y3)) W := fun W => run_string_add_sum W _ Y3 (by rw [ByteArray.size_append, ByteArray.size_append]; exact m3)
        have heq : F ++ Y1 ++ Y2 ++ Y3 = ⟨(be 3 1 ++ be (ws.length : Int) 1 ++ ib (ws.take (j + 1))).toArray⟩ := by
          rw [HTK.out, hF, hY1, hY2, hY3, bs_add, bs_add, bs_add]
          simp
        have HEQ : Hid _ := heq
        clear heq
        rw [show sv (be 3 1 ++ be (ws.length : Int) 1 ++ ib (ws.take j)) = .string F from by rw [hF]]
        have HCH : Hid _ := hch
        have vv : Chg [] wr wr.drew := (Chg.refl _ _).drew
        clear hF hgr hat hg hch hl1 hl2 hl3 hFl m1 m2 m3 hY1 hY2 hY3 hbs hbl hba
        go_upto_region 16 with fail
        go_region_held3 (fun W => W.cell? ⟨b, P.length + j * 3, none⟩ = some (.int .u16 yt) ∧ W.cell? ⟨b, P.length + j * 3 + 1, none⟩ = some (.int .u32 yx) ∧ W.cell? ⟨b, P.length + j * 3 + 2, none⟩ = some (.int .u64 yd))
          (first | with_reducible exact HSR.out _ vv)
          (first | (go_at_call 91; with_reducible refine (HYt.out _).mono ?_; rintro e wd ⟨rfl, qd⟩; have vv := vv.trans qd (by simp)) | (go_at_call 91; with_reducible refine (HYx.out _).mono ?_; rintro e wd ⟨rfl, qd⟩; have vv := vv.trans qd (by simp)) | (go_at_call 91; with_reducible refine (HYd.out _).mono ?_; rintro e wd ⟨rfl, qd⟩; have vv := vv.trans qd (by simp)))
        go_wp2_with fail
        go_roundw
        case rel => exact ⟨j + 1, by omega, by rw [HEQ.out], by go_num, HCH.out.trans vv (by simp)⟩
        case measure => simp [intOf]; omega
    · have hje : ¬ (j : Int) < (ws.length : Int) := by omega
      have hjl : j = ws.length := by omega
      have HCH : Hid _ := hch
      have HJ : Hid (ws.take j = ws) := by rw [hjl]; exact List.take_length
      clear hch hjl
      go_wp2
      go_ret
      refine ⟨ws, ?_, HFN.out.tail HCH.out⟩
      rw [HJ.out]
      exact congrArg (fun x => Ending.returned (sv x)) HB0.out
end Go.Proofs.YtbdnhllhdjepcaaGreat
