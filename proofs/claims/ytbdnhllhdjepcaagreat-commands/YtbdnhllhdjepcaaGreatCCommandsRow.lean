import Derived.Test.YtbdnhllhdjepcaaGreatCLca
import Derived.Deep.MidRow
import Derived.KernelRfl
import Derived.Test.YtbdnhllhdjepcaaGreatCArg
namespace Go.Proofs.YtbdnhllhdjepcaaGreat
set_option linter.unusedVariables false
set_option linter.unusedSimpArgs false
open Go.RowKit Go.Maps

set_option maxRecDepth 100000 in
set_option maxHeartbeats 4000000 in
theorem played_commands (la : Option Addr) (lb lof cap : Nat) (ops : List Op) (w : World) (hla : 0 < ops.length → la = some ⟨lb, lof, none⟩ ∧ lb < w.heap.size) (hlen : ops.length ≤ 660000000000) (hat : ∀ k (hk : k < ops.length), OpAt w lb (lof + k * 24) ops[k]) (hok : ∀ o ∈ ops, o.Ok) :
    Calls Tryz.prog 8 #[.slice la ops.length cap, .int .i64 7] w fun e w' => e = .returned (.bool true) ∧ Chg [] w w' := by
  have HLA : Hid (0 < ops.length → la = some ⟨lb, lof, none⟩ ∧ lb < w.heap.size) := hla
  have HAT : Hid (∀ k (hk : k < ops.length), OpAt w lb (lof + k * 24) ops[k]) := hat
  have HOK : Hid (∀ o ∈ ops, o.Ok) := hok
  have hbw := heap_alloc_new w (.cells [.slice none 0 0, .slice none 0 0, .slice none 0 0, .slice none 0 0, .slice none 0 0, .int .u32 0].toArray 55)
  have hcw : Chg [] w (w.alloc (.cells [.slice none 0 0, .slice none 0 0, .slice none 0 0, .slice none 0 0, .slice none 0 0, .int .u32 0].toArray 55)) := (Chg.refl _ _).alloc _
  obtain ⟨wa, hwa⟩ : ∃ wa, wa = w.alloc (.cells [.slice none 0 0, .slice none 0 0, .slice none 0 0, .slice none 0 0, .slice none 0 0, .int .u32 0].toArray 55) := ⟨_, rfl⟩
  rw [← hwa] at hbw hcw
  have hkw : w.alloc (.cells #[.slice none 0 0, .slice none 0 0, .slice none 0 0, .slice none 0 0, .slice none 0 0, .int .u32 0] 55) = wa := hwa.symm
  have HWA : Hid (WAt (QSim 0) wa w.heap.size w.heap.size (.slice none 0 0) (.slice none 0 0) (.slice none 0 0) (.slice none 0 0) (.slice none 0 0) (.int .u32 0) [] 0) := ⟨hbw, ⟨rfl, by simp [pcells], .inl ⟨rfl, rfl⟩⟩, by simp, by simp, List.Pairwise.nil, by simp, fun b hb => by rcases mem_wfp.1 hb with rfl | hb | ⟨p, hp, _⟩; exact Nat.le_refl _; simp [own, Value.ownBlock] at hb; simp at hp⟩
  have HCW : Hid (Chg [] w wa) := hcw
  clear hwa hbw hcw hla hat hok
  go_enter Tryz.func8, Tryz.ntmps8
  go_wp2_with fail
  refine (first_any _).mono ?_
  rintro e w1 ⟨rfl, c1⟩
  have HC1 : Hid (Chg [] wa w1) := c1
  clear c1
  go_wp2_with fail
  refine (made_any (qp_sim 0) ⟨1, 5, 5, 1, 5, 5, 1, 5, 5, 2, 4, 3, 5, 3⟩ none 0 0 0 [] w1 ⟨by simp, by simp, by simp, by simp⟩ (by simp) (by constructor <;> exact ⟨by decide, by decide⟩) (by decide) w.heap.size w.heap.size (.slice none 0 0) (.slice none 0 0) (.slice none 0 0) (.slice none 0 0) (.slice none 0 0) (.int .u32 0) [] 0 (HWA.out.chg HC1.out (by simp)) (by decide)).mono ?_
  intro e w2 hst
  obtain ⟨rfl, hp0⟩ := PlyJ.first (HCW.out.trans HC1.out (by simp)) hst HWA.out.lo
  have HP0 : Hid (PlyJ w w2 0) := hp0
  clear hp0 hst
  go_wp2_with fail
  go_loopw [6, 7] (fun b i wr => ∃ k : Nat, b = .bool true ∧ i = .int .i64 k ∧ k ≤ ops.length ∧ PlyJ w wr k) (fun _ i _ => ops.length - (intOf i).toNat)
  case atStart => exact ⟨0, rfl, rfl, by omega, HP0.out⟩
  case round =>
    obtain ⟨k, rfl, rfl, hk, hpl⟩ := hrel
    have HPL : Hid (PlyJ w wr k) := hpl
    clear hpl
    by_cases hlt : k < ops.length
    · have hk1 : (k : Int) < (ops.length : Int) := by omega
      obtain ⟨hla1, hlb⟩ := HLA.out (by omega)
      subst hla1
      obtain ⟨o, ho⟩ : ∃ o, o = ops[k] := ⟨_, rfl⟩
      have hoo : o.Ok := ho ▸ HOK.out _ (List.getElem_mem hlt)
      have HOO : Hid o.Ok := hoo
      have hoa : OpAt wr lb (lof + k * 24) o := by
        obtain ⟨_, _, _, _, _, _, _, _, _, z3⟩ := HPL.out
        exact ho ▸ (HAT.out k hlt).chg z3
      have HOA : Hid (OpAt wr lb (lof + k * 24) o) := hoa
      have d0 : wr.cell? ⟨lb, lof + k * 24, none⟩ = some (.int .i64 o.k) := hoa.cells 0 _ rfl
      have hlbr : lb < wr.heap.size := by
        obtain ⟨_, _, _, _, _, _, _, _, _, z3⟩ := HPL.out
        have := z3.size
        omega
      clear ho hoo hoa
      by_cases h4 : o.k ≤ 7
      · have h4' : ¬ 7 < o.k := by omega
        have HSt : Hid (Calls Tryz.prog 18 #[.pointer (some ⟨w.heap.size, 0, none⟩), .agg (opc o).toArray] wr fun e w' => e = .returned (.bool true) ∧ PlyJ w w' (k + 1)) := by
          obtain ⟨mv, x1, x3, nx, ps, L, z1, z2, z3, z4⟩ := HPL.out
          exact (step_commands k (by omega) o HOO.out h4 wr HOA.out.ovs w.heap.size w.heap.size mv x1 _ x3 _ nx ps (3 * k + 3) L z1 (by omega) (by omega) (by omega)).mono (fun e w' hst => PlyJ.step z2 z3 z4 hst)
        go_wp2_with (refine wpList_load_mid rfl 62 _ rfl lb (lof + k * 24) rfl (opc o) _ HOA.out.cells Tryz.underlying62 rfl (by kernel_rfl) ?_)
        refine HSt.out.mono ?_
        rintro e w3 ⟨rfl, hp3⟩
        have HP3 : Hid (PlyJ w w3 (k + 1)) := hp3
        have HLo : Hid (Calls Tryz.prog 19 #[.pointer (some ⟨w.heap.size, 0, none⟩)] w3 fun e w' => e = .returned (.bool true) ∧ PlyJ w w' (k + 1)) := by
          obtain ⟨mv, x1, x3, nx, ps, L, z1, z2, z3, z4⟩ := hp3
          refine (looks_any w.heap.size mv x1 x3 _ _ L w3 z1.at_.blk z1.ls).mono ?_
          rintro e w4 ⟨rfl, c4⟩
          exact ⟨rfl, HP3.out.chg c4⟩
        clear hp3
        go_wp2_with fail
        refine HLo.out.mono ?_
        rintro e w4 ⟨rfl, hp4⟩
        have HP4 : Hid (PlyJ w w4 (k + 1)) := hp4
        clear hp4
        go_wp2_with fail
        go_roundw
        case rel => exact ⟨k + 1, rfl, by go_num, by omega, HP4.out⟩
        case measure => simp [intOf]; omega
      · have h4' : 7 < o.k := by omega
        go_wp2_with fail
        go_roundw
        case rel => exact ⟨k + 1, rfl, by go_num, by omega, HPL.out.next⟩
        case measure => simp [intOf]; omega
    · have hk1 : ¬ (k : Int) < (ops.length : Int) := by omega
      go_wp2
      go_ret
      refine ⟨rfl, ?_⟩
      obtain ⟨_, _, _, _, _, _, _, _, _, z3⟩ := HPL.out
      exact z3
set_option maxRecDepth 100000 in
set_option maxHeartbeats 4000000 in
theorem commands_any (la : Option Addr) (lb lof cap : Nat) (ops : List Op) (w : World) (hla : 0 < ops.length → la = some ⟨lb, lof, none⟩ ∧ lb < w.heap.size) (hlen : ops.length ≤ 660000000000) (hat : ∀ k (hk : k < ops.length), OpAt w lb (lof + k * 24) ops[k]) (hok : ∀ o ∈ ops, o.Ok) :
    Calls Tryz.prog 5 #[.slice la ops.length cap] w fun e w' => e = .returned (.bool true) ∧ Chg [] w w' := by
  have HPl : Hid (Calls Tryz.prog 8 #[.slice la ops.length cap, .int .i64 7] w fun e w' => e = .returned (.bool true) ∧ Chg [] w w') := played_commands la lb lof cap ops w hla hlen hat hok
  clear hla hat hok
  go_enter Tryz.func5, Tryz.ntmps5
  go_wp2_with fail
  refine HPl.out.mono ?_
  rintro e w1 ⟨rfl, c1⟩
  have HC1 : Hid (Chg [] w w1) := c1
  clear c1
  go_wp2
  go_ret
  exact ⟨rfl, HC1.out⟩
end Go.Proofs.YtbdnhllhdjepcaaGreat
namespace Go.Proofs.YtbdnhllhdjepcaaGreat
set_option linter.unusedVariables false
set_option linter.unusedSimpArgs false
open Go.ChangeShapes Go.WideShapes Go.ChangeAt Go.RowKit Go.Joins Go.Deep

set_option maxRecDepth 100000 in
theorem commands_lifted (os : Os) (started : os.Started) (H : Type) (enc : TypeId × Value → H) :
    ReturnsInHanded {} Tryz.checked os 5 .any (Rows.commandsSpec.pre6 enc Tryz.prog Tryz.f5 Rows.commandsRow.domain false) (Rows.commandsSpec.post enc Tryz.prog Tryz.f5 false true false false) := by
  refine returnsInHanded_of_change_sized (C := Tryz.checked) ownk started (by kernel_rfl) Tryz.func5
    (ChangeSpec.witness6 (enc := enc) (C := Tryz.checked) false ⟨#[], #[.slice none 0 0], []⟩ 8 (by kernel_rfl) (by kernel_rfl) (by kernel_rfl) (by kernel_rfl)) ?_
  intro W base args ds gs before hval0 hW hcnd hwt _
  have hval : ∀ (j : Nat) t v, Tryz.f5.params[j]? = some t → args[j]? = some v → Value.okWide Tryz.prog W .any base t v := hval0
  have hwt' : (DataW.weightsEach Tryz.prog (Tryz.f5.params.toList ++ Rows.commandsSpec.plain.varTypes Tryz.prog) (ds ++ gs)).all (· ≤ reachBytes) = true := hwt
  have hW' := hW
  obtain ⟨p, q, hA0, hV, rfl, hfz, hnd⟩ := hW
  have hA : DataW.TrodAll enc Tryz.prog W 0 (fun _ => true) true Tryz.f5.params.toList args.toList ds p := hA0
  rw [Tryz.params5] at hA hval hwt'
  obtain ⟨v0, vs0, d0, ds0, p0, pl0, hargs, rfl, rfl, h0, r0⟩ := trodAll_cons hA
  obtain ⟨rfl, rfl, rfl⟩ := trodAll_nil r0
  obtain rfl : args = #[v0] := by cases args; simp_all
  obtain ⟨rfl, rfl⟩ := trodVars_none hV
  have k0 := h0
  have lt0 := mem_lt h0
  have hbk : Wt 22 d0 := fun n hn => by
    have hz := List.all_eq_true.1 hwt' n (DataW.weights_mem_each (j := 0) (t := 22) (d := d0) rfl rfl n hn)
    have hz' := of_decide_eq_true hz
    unfold reachBytes at hz'
    omega
  obtain ⟨la, lb, lof, cap, ops, rfl, hla, hlen, hat, hok⟩ := open_ops (hval 0 22 v0 rfl rfl) h0 hbk
  clear hA0 hval0
  refine (commands_any la lb lof cap ops W hla hlen hat hok).mono fun e W' ⟨he, hc⟩ => ?_
  subst he
  have bel := hc.below (Nat.le_refl _) (by simp)
  exact ⟨_, rfl, _, _, _, [], _, [], hW', trodAll_mk1 (shut_bool Tryz.underlying4 _), (trodAll_cons_mk (Below.trod laidOut (by kernel_rfl) (of_decide_eq_true (by kernel_rfl)) k0 bel lt0) trodAll_mk0), rfl, bel.frame _, fun h => by cases h⟩

theorem commands_holds : Rows.CommandsSaid :=
  OpenClaim.holds_of_wide 5 Tryz.f5 rfl rfl rfl rfl rfl rfl rfl ⟨rfl, rfl, rfl, rfl, rfl⟩ rfl rfl rfl rfl rfl (by kernel_rfl) Tryz.func5 (by kernel_rfl)
    (of_decide_eq_true (by kernel_rfl)) (by unfold Func.isWrapper; first | (rw [if_pos (by decide +kernel)]; kernel_rfl) | (rw [if_neg (by decide +kernel)]; exact ⟨rfl, rfl⟩))
    (fun os started H enc _ => commands_lifted os started H enc)
#print axioms commands_holds
end Go.Proofs.YtbdnhllhdjepcaaGreat
