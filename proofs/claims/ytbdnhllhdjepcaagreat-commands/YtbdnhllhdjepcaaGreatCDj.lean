import Derived.Test.YtbdnhllhdjepcaaGreatCDf
import Derived.Deep.DeepCutAuto
namespace Go.Proofs.YtbdnhllhdjepcaaGreat
set_option linter.unusedVariables false
set_option linter.unusedSimpArgs false
open Go.RowKit Go.Maps

theorem blk_alloc_new (w : World) (o : Obj) : (w.alloc o).drew.heap[w.heap.size]? = some o := heap_alloc_new w o
set_option maxRecDepth 100000 in
set_option maxHeartbeats 8000000 in
theorem do_all (yb : Nat) (s : Rf) (b : UInt8) (l : List UInt8) (w : World) (h : RefAt w yb s) (ok : s.Ok) (hb : b.toNat = 1) (h8 : l.length = 8) (hlen : s.ms.length ≤ 5000000000000) :
    Calls Tryz.prog 46 #[.pointer (some ⟨yb, 0, none⟩), sv (b :: l)] w fun e w' => e = .returned (sv (s.ans1 (nb ((l.drop 6).take 2)) (nb (l.take 2)) (nb ((l.drop 2).take 2)) (nb ((l.drop 4).take 2)))) ∧ ∃ e', AllR w w' yb s (nb ((l.drop 6).take 2)) (nb (l.take 2)) (nb ((l.drop 2).take 2)) (nb ((l.drop 4).take 2)) e' := by
  have hsz : (⟨(b :: l).toArray⟩ : ByteArray).size = 9 := by show (b :: l).toArray.size = _; simp [h8]
  have hex1 : (⟨(b :: l).toArray⟩ : ByteArray).extract 1 3 = ⟨(l.take 2).toArray⟩ := by rw [sv_ext]; simp
  have hex2 : (⟨(b :: l).toArray⟩ : ByteArray).extract 3 5 = ⟨((l.drop 2).take 2).toArray⟩ := by rw [sv_ext]; simp
  have hex3 : (⟨(b :: l).toArray⟩ : ByteArray).extract 5 7 = ⟨((l.drop 4).take 2).toArray⟩ := by rw [sv_ext]; simp
  have hex4 : (⟨(b :: l).toArray⟩ : ByteArray).extract 7 9 = ⟨((l.drop 6).take 2).toArray⟩ := by rw [sv_ext]; simp
  have hg0 : ∀ h : 0 < (⟨(b :: l).toArray⟩ : ByteArray).size, (⟨(b :: l).toArray⟩ : ByteArray)[0]'h = b := fun _ => rfl
  have l1 : (l.take 2).length = 2 := by rw [List.length_take]; omega
  have l2 : ((l.drop 2).take 2).length = 2 := by rw [List.length_take, List.length_drop]; omega
  have l3 : ((l.drop 4).take 2).length = 2 := by rw [List.length_take, List.length_drop]; omega
  have l4 : ((l.drop 6).take 2).length = 2 := by rw [List.length_take, List.length_drop]; omega
  have b1 := nb2 (l := l.take 2) (by omega)
  have b2 := nb2 (l := (l.drop 2).take 2) (by omega)
  have b3 := nb2 (l := (l.drop 4).take 2) (by omega)
  have b4 := nb2 (l := (l.drop 6).take 2) (by omega)
  have H1 : Hid (∀ W, Calls Tryz.prog 90 #[sv (l.take 2)] W fun e w' => e = .returned (.int .u64 (nb (l.take 2))) ∧ w' = W) := fun W => read_ref _ W (by omega)
  have H2 : Hid (∀ W, Calls Tryz.prog 90 #[sv ((l.drop 2).take 2)] W fun e w' => e = .returned (.int .u64 (nb ((l.drop 2).take 2))) ∧ w' = W) := fun W => read_ref _ W (by omega)
  have H3 : Hid (∀ W, Calls Tryz.prog 90 #[sv ((l.drop 4).take 2)] W fun e w' => e = .returned (.int .u64 (nb ((l.drop 4).take 2))) ∧ w' = W) := fun W => read_ref _ W (by omega)
  have H4 : Hid (∀ W, Calls Tryz.prog 90 #[sv ((l.drop 6).take 2)] W fun e w' => e = .returned (.int .u64 (nb ((l.drop 6).take 2))) ∧ w' = W) := fun W => read_ref _ W (by omega)
  generalize nb (l.take 2) = t at *
  generalize nb ((l.drop 2).take 2) = u at *
  generalize nb ((l.drop 4).take 2) = r at *
  generalize nb ((l.drop 6).take 2) = c at *
  have w1 : IntKind.u16.wrap t = t := by rw [IntKind.wrap_u16]; omega
  have w2 : IntKind.u16.wrap u = u := by rw [IntKind.wrap_u16]; omega
  have w3 : IntKind.u16.wrap r = r := by rw [IntKind.wrap_u16]; omega
  have w4 : IntKind.i64.wrap c = c := by rw [IntKind.wrap_i64]; omega
  have hb3 := ok.rep3_bd c t u r
  have HRF : Hid (RefAt w yb s) := h
  have HAL : Hid (∀ W, Chg [] w W → Calls Tryz.prog 38 #[.pointer (some ⟨yb, 0, none⟩), .agg #[.int .u16 t, .int .u16 u, .int .u16 r], .int .i64 c] W fun e w' => e = .returned (.tuple #[.agg #[.int .i64 (s.rep3 c t u r).1, .int .i64 (s.rep3 c t u r).2.1, .int .u64 (s.rep3 c t u r).2.2.1], .int .i64 (s.rep3 c t u r).2.2.2]) ∧ ∃ e', AllR W w' yb s c t u r e') := fun W hW => by
    refine (allow_ref yb s c t u r W (h.chg hW (by simp)) ok ⟨by omega, by omega⟩ hlen ⟨by omega, by omega⟩).mono ?_
    intro e w' hs
    exact ⟨hs.form, e, hs⟩
  have HAN : Hid (s.ans1 c t u r = if (s.rep3 c t u r).2.2.2 = 0 then bl [(s.rep3 c t u r).1, (s.rep3 c t u r).2.1] ++ be (s.rep3 c t u r).2.2.1 8 else [255]) := rfl
  generalize s.ans1 c t u r = AN at *
  obtain ⟨st, lv, rt, er, hre⟩ : ∃ st lv rt er, s.rep3 c t u r = (st, lv, rt, er) := ⟨_, _, _, _, rfl⟩
  rw [hre] at hb3 HAL HAN
  simp only at hb3 HAL HAN
  clear h hre b1 b2 b3 b4 l1 l2 l3 l4 ok
  generalize l.take 2 = L1 at *
  generalize (l.drop 2).take 2 = L2 at *
  generalize (l.drop 4).take 2 = L3 at *
  generalize (l.drop 6).take 2 = L4 at *
  have hbk := heap_alloc_new w (.cells [.int .u16 t, .int .u16 u, .int .u16 r].toArray 60)
  obtain ⟨wk, hwk⟩ : ∃ wk, wk = (w.alloc (.cells [.int .u16 t, .int .u16 u, .int .u16 r].toArray 60)).drew := ⟨_, rfl⟩
  have HBK : Hid (wk.heap[w.heap.size]? = some (.cells [.int .u16 t, .int .u16 u, .int .u16 r].toArray 60 (0, 0))) := hwk ▸ hbk
  have HCK : Hid (Chg [] w wk) := hwk ▸ ((Chg.refl _ _).alloc _).drew
  have HWK : Hid ((w.alloc (.cells #[.int .u16 t, .int .u16 u, .int .u16 r] 60)).drew = wk) := hwk.symm
  clear hwk hbk
  go_enter Tryz.func46, Tryz.ntmps46
  go_upto_region 2 with fail
  go_cut [5] (fun s5 wx => s5 = .pointer (some ⟨w.heap.size, 0, none⟩) ∧ wx = wk)
  case first =>
    go_region_with (first | (go_at_call 90; with_reducible refine (H1.out _).mono ?_; rintro e wz ⟨rfl, rfl⟩) | (go_at_call 90; with_reducible refine (H2.out _).mono ?_; rintro e wz ⟨rfl, rfl⟩) | (go_at_call 90; with_reducible refine (H3.out _).mono ?_; rintro e wz ⟨rfl, rfl⟩))
    all_goals
      go_wp2
      go_meet
      case rel => exact ⟨rfl, HWK.out⟩
  case rest =>
    obtain ⟨rfl, rfl⟩ := hcut
    have b0 := blk_cell (i := 0) HBK.out rfl
    have b1 := blk_cell (i := 1) HBK.out rfl
    have b2 := blk_cell (i := 2) HBK.out rfl
    have hkl := lt_of_block HBK.out
    have vv : Chg [] w wc.drew := HCK.out.drew
    have hzn : (wc.alloc (.cells [.int .i64 0, .int .i64 0, .int .u64 0].toArray 68)).drew.heap[wc.heap.size]? = some (.cells [.int .i64 0, .int .i64 0, .int .u64 0].toArray 68 (0, 0)) := blk_alloc_new wc _
    have HZB : Hid (Calls Tryz.prog 38 #[.pointer (some ⟨yb, 0, none⟩), .agg #[.int .u16 t, .int .u16 u, .int .u16 r], .int .i64 c] (wc.alloc (.cells #[.int .i64 0, .int .i64 0, .int .u64 0] 68)).drew fun e w' => e = .returned (.tuple #[.agg #[.int .i64 st, .int .i64 lv, .int .u64 rt], .int .i64 er]) ∧ w'.heap[wc.heap.size]? = some (.cells [.int .i64 0, .int .i64 0, .int .u64 0].toArray 68 (0, 0)) ∧ ∀ w2, Chg [wc.heap.size] w' w2 → ∃ e', AllR w w2 yb s c t u r e') := by
      have vw : Chg [] w (wc.alloc (.cells #[.int .i64 0, .int .i64 0, .int .u64 0] 68)).drew := (HCK.out.alloc _).drew
      refine (HAL.out _ vw).mono ?_
      rintro e w' ⟨he, e', hal⟩
      exact ⟨he, hal.chg.blk hzn (fun hb => by have := HRF.out.lt _ hb; omega), fun w2 h2 => ⟨e', hal.past HRF.out vw h2 (by omega) (lt_of_block hzn)⟩⟩
    clear hzn
    go_upto_region 3 with fail
    go_cut [6, 7] (fun s6 s7 wx => ∃ b : Nat, s6 = .pointer (some ⟨b, 0, none⟩) ∧ s7 = .int .i64 er ∧ wx.heap[b]? = some (.cells [.int .i64 st, .int .i64 lv, .int .u64 rt].toArray 68 (0, 0)) ∧ ∃ e', AllR w wx yb s c t u r e')
    case first =>
      go_region_with (first | (go_at_call 90; with_reducible refine (H4.out _).mono ?_; rintro e wz ⟨rfl, rfl⟩) | (go_at_call 38; with_reducible refine (HAL.out _ vv).mono ?_; rintro e wz ⟨rfl, e', hal⟩) | (go_at_call 38; with_reducible refine (HZB.out).mono ?_; rintro e wz ⟨rfl, zb, hpast⟩; have y0 := blk_cell (i := 0) zb rfl; have y1 := blk_cell (i := 1) zb rfl; have y2 := blk_cell (i := 2) zb rfl; have f0 := blk_free (i := 0) zb; have f1 := blk_free (i := 1) zb; have f2 := blk_free (i := 2) zb))
      all_goals
        go_wp2
        go_meet
        case rel =>
          first
            | exact ⟨wz.heap.size, rfl, rfl, heap_alloc_new wz _, e', (hal.head vv).tail ((Chg.refl _ _).alloc _)⟩
            | exact ⟨wc.heap.size, rfl, rfl, blk_set (i := 2) _ (blk_set (i := 1) _ (blk_set (i := 0) _ zb)), hpast _ ((((Chg.refl [wc.heap.size] _).set _ _ (Or.inl (by simp))).set _ _ (Or.inl (by simp))).set _ _ (Or.inl (by simp)))⟩
    case rest =>
      obtain ⟨bx, rfl, rfl, hbx, e', hal⟩ := hcut
      have HAR : Hid (AllR w wc yb s c t u r e') := hal
      have HBX : Hid (wc.heap[bx]? = some (.cells [.int .i64 st, .int .i64 lv, .int .u64 rt].toArray 68 (0, 0))) := hbx
      clear hal hbx b0 b1 b2 hkl vv HZB HAL HBK HCK HWK H1 H2 H3 H4 HRF
      obtain ⟨⟨s0, s1⟩, ⟨v0, v1⟩, ⟨r0, r1⟩, hre⟩ := hb3
      have HST : Hid (0 ≤ st ∧ st < 256) := ⟨s0, s1⟩
      rcases hre with rfl | rfl
      · have HA2 : Hid (AN = bl [st, lv] ++ be rt 8) := by
          have := HAN.out
          rw [if_pos rfl] at this
          exact this
        have ws : IntKind.u64.wrap st = st := by rw [IntKind.wrap_u64]; omega
        have wl : IntKind.u64.wrap lv = lv := by rw [IntKind.wrap_u64]; omega
        have HWS : Hid (∀ W, Calls Tryz.prog 91 #[.int .u64 st, .int .i64 1] W fun e w' => e = .returned (sv (bl [st])) ∧ Chg [] W w') := fun W => by
          have := write_ref 1 st W (by decide) (by omega) (by omega)
          rw [be_one (by omega) (by omega)] at this
          exact this
        have HWL : Hid (∀ W, Calls Tryz.prog 91 #[.int .u64 lv, .int .i64 1] W fun e w' => e = .returned (sv (bl [lv])) ∧ Chg [] W w') := fun W => by
          have := write_ref 1 lv W (by decide) (by omega) (by omega)
          rw [be_one (by omega) (by omega)] at this
          exact this
        have HWR : Hid (∀ W, Calls Tryz.prog 91 #[.int .u64 rt, .int .i64 8] W fun e w' => e = .returned (sv (be rt 8)) ∧ Chg [] W w') := fun W => write_ref 8 rt W (by decide) r0 r1
        have HS : Hid (∀ W, Chg [] wc W → (W.cell? ⟨bx, 0, none⟩ = some (.int .i64 st) ∧ W.cell? ⟨bx, 1, none⟩ = some (.int .i64 lv) ∧ W.cell? ⟨bx, 2, none⟩ = some (.int .u64 rt))) := fun W hW =>
          ⟨blk_cell (i := 0) (hW.blk HBX.out (by simp)) rfl, blk_cell (i := 1) (hW.blk HBX.out (by simp)) rfl, blk_cell (i := 2) (hW.blk HBX.out (by simp)) rfl⟩
        have hbs := bs_size
        have hbl := be_len
        have hba := bs_add
        have hb1 : (bl [st]).length = 1 := rfl
        have hb2 : (bl [lv]).length = 1 := rfl
        have vv : Chg [] wc wc.drew := (Chg.refl _ _).drew
        obtain ⟨x0, x1, x2⟩ := HS.out wc (Chg.refl _ _)
        have hxl := lt_of_block HBX.out
        clear HAN
        go_upto_region 6 with fail
        go_region_held3 (fun W => W.cell? ⟨bx, 0, none⟩ = some (.int .i64 st) ∧ W.cell? ⟨bx, 1, none⟩ = some (.int .i64 lv) ∧ W.cell? ⟨bx, 2, none⟩ = some (.int .u64 rt))
          (first | with_reducible exact HS.out _ vv)
          (first | (go_at_call 91; with_reducible refine (HWS.out _).mono ?_; rintro e wd ⟨rfl, qd⟩; have vv := vv.trans qd (by simp)) | (go_at_call 91; with_reducible refine (HWL.out _).mono ?_; rintro e wd ⟨rfl, qd⟩; have vv := vv.trans qd (by simp)) | (go_at_call 91; with_reducible refine (HWR.out _).mono ?_; rintro e wd ⟨rfl, qd⟩; have vv := vv.trans qd (by simp)))
        all_goals
          go_wp2
          go_ret
          exact ⟨by rw [HA2.out]; rfl, e', HAR.out.tail vv⟩
      · have HA2 : Hid (AN = [255]) := by
          have := HAN.out
          rw [if_neg (by decide)] at this
          exact this
        clear HAN
        go_wp2
        go_ret
        exact ⟨by rw [HA2.out]; rfl, e', HAR.out⟩
end Go.Proofs.YtbdnhllhdjepcaaGreat
