import Derived.Test.YtbdnhllhdjepcaaPut
namespace Go.Proofs.Ytbdnhllhdjepcaa
set_option linter.unusedVariables false
set_option linter.unusedSimpArgs false
open Go.RowKit Go.Maps

def bl (xs : List Int) : List UInt8 := xs.map (fun x => x.toNat.toUInt8)
theorem bl_cells {xs : List Int} (hx : ∀ x ∈ xs, 0 ≤ x ∧ x < 256) : bcells (bl xs) = xs.map (fun x => .int .u8 x) := by
  induction xs with
  | nil => rfl
  | cons x xs ih =>
    have h := hx x (by simp)
    have e : bcells (bl (x :: xs)) = bcl x.toNat.toUInt8 ++ bcells (bl xs) := by simp [bcells, bl]
    rw [e, ih (fun y hy => hx y (by simp [hy]))]
    unfold bcl
    rw [u8_back h.1 h.2]
    rfl
theorem conv_rw {w : World} {v : Value} {l : List UInt8} (h : Rw w 5 1 v l.length (bcells l)) (hl : 0 < l.length) : (convert 158 9 v).run Try.prog w = .ok (sv l) w := by
  rcases h.2.2 with ⟨_, h0⟩ | ⟨b, cap, P, R, rfl, hg, _⟩
  · omega
  · exact conv_back (fun j hj => Rw.cell (n := 0) (sz := 0) hg (by
      have := fm_at bcl_len l j hj 0 (by decide)
      rw [Nat.mul_one, Nat.add_zero] at this
      exact this))
theorem row_new (w : World) (xs : List Int) (hx : ∀ x ∈ xs, 0 ≤ x ∧ x < 256) (hl : xs.length ≤ 100) : Rw (w.alloc (.cells (xs.map (fun x => Value.int .u8 x)).toArray 5)) 5 1 (.slice (some ⟨w.heap.size, 0, none⟩) xs.length xs.length) (bl xs).length (bcells (bl xs)) := by
  have e : (bl xs).length = xs.length := by simp [bl]
  refine ⟨by rw [bc_len, Nat.mul_one], bc_one _, ?_⟩
  rw [e, bl_cells hx]
  exact .inr ⟨w.heap.size, xs.length, [], [], rfl, by simpa using heap_alloc_new w (.cells (xs.map (fun x => Value.int .u8 x)).toArray 5), Nat.le_refl _, by unfold maxLen; omega, by omega⟩
theorem put_new (xs : List Int) (hx : ∀ x ∈ xs, 0 ≤ x ∧ x < 256) (hl : xs.length ≤ 100) (n : Int) (k : Nat) (w : World) (h0 : 0 ≤ n) (h1 : n ≤ 18446744073709551615) (hk : k ≤ 8) :
    Calls Try.prog 79 #[.slice (some ⟨w.heap.size, 0, none⟩) xs.length xs.length, .int .u64 n, .int .i64 k] (w.alloc (.cells (xs.map (fun x => Value.int .u8 x)).toArray 5)) fun e w2 => ∃ v', e = .returned v' ∧ Rw w2 5 1 v' (bl xs ++ be n k).length (bcells (bl xs ++ be n k)) ∧ Chg [] w w2 ∧ ∀ b ∈ own v', w.heap.size ≤ b := by
  have hr := row_new w xs hx hl
  have e : (bl xs).length = xs.length := by simp [bl]
  refine (put_any _ (bl xs) n k _ hr h0 h1 hk (by omega)).mono ?_
  rintro e w2 ⟨v', rfl, h2, hc, ho⟩
  refine ⟨v', rfl, h2, ((Chg.refl [] w).alloc _).trans hc (fun j hj => ?_), fun b hb => ?_⟩
  · right
    have : j = w.heap.size := by simpa [own, Value.ownBlock] using hj
    omega
  · rcases ho b hb with h | h
    · have : b = w.heap.size := by simpa [own, Value.ownBlock] using h
      omega
    · simp at h; omega
set_option maxRecDepth 100000 in
set_option maxHeartbeats 1000000 in
theorem time_any (n : Int) (w : World) (h0 : 0 ≤ n) (h1 : n ≤ 18446744073709551615) : Calls Try.prog 46 #[.int .u64 n] w fun e w' => e = .returned (sv (bl [4] ++ be n 8)) ∧ Chg [] w w' := by
  have HP : Hid (Calls Try.prog 79 #[.slice (some ⟨w.heap.size, 0, none⟩) 1 1, .int .u64 n, .int .i64 8] (w.alloc (.cells #[.int .u8 4] 5)) fun e w2 => ∃ v', e = .returned v' ∧ (convert 158 9 v').run Try.prog w2 = .ok (sv (bl [4] ++ be n 8)) w2 ∧ Chg [] w w2) := by
    refine (put_new [4] (by simp) (by simp) n 8 w h0 h1 (by omega)).mono ?_
    rintro e w2 ⟨v', rfl, hr, hc, _⟩
    exact ⟨v', rfl, conv_rw hr (by simp [bl]), hc⟩
  generalize bl [4] ++ be n 8 = L at *
  go_enter Try.func46, Try.ntmps46
  go_wp2_with fail
  refine (HP.out).mono ?_
  rintro e w2 ⟨v', rfl, hcv, hc⟩
  go_wp2
  go_ret
  exact ⟨rfl, hc⟩
set_option maxRecDepth 100000 in
set_option maxHeartbeats 1000000 in
theorem reply_any (st lv rt : Int) (w : World) (hs : 0 ≤ st ∧ st < 256) (hl : 0 ≤ lv ∧ lv < 256) (h0 : 0 ≤ rt) (h1 : rt ≤ 18446744073709551615) : Calls Try.prog 80 #[.agg #[.int .i64 st, .int .i64 lv, .int .u64 rt]] w fun e w' => e = .returned (sv (bl [st, lv] ++ be rt 8)) ∧ Chg [] w w' := by
  have HP : Hid (∀ W : World, Calls Try.prog 79 #[.slice (some ⟨W.heap.size, 0, none⟩) 2 2, .int .u64 rt, .int .i64 8] (W.alloc (.cells #[.int .u8 st, .int .u8 lv] 5)) fun e w2 => ∃ v', e = .returned v' ∧ (convert 158 9 v').run Try.prog w2 = .ok (sv (bl [st, lv] ++ be rt 8)) w2 ∧ Chg [] W w2) := fun W => by
    refine (put_new [st, lv] (by simp; omega) (by simp) rt 8 W h0 h1 (by omega)).mono ?_
    rintro e w2 ⟨v', rfl, hr, hc, _⟩
    exact ⟨v', rfl, conv_rw hr (by simp [bl]), hc⟩
  have hw1 : IntKind.u8.wrap st = st := by rw [IntKind.wrap_u8]; omega
  have hw2 : IntKind.u8.wrap lv = lv := by rw [IntKind.wrap_u8]; omega
  generalize bl [st, lv] ++ be rt 8 = L at *
  have hcA : Chg [] w (w.alloc (.cells #[.int .i64 st, .int .i64 lv, .int .u64 rt] 42)) := (Chg.refl _ _).alloc _
  have HPA := HP.out (w.alloc (.cells #[.int .i64 st, .int .i64 lv, .int .u64 rt] 42))
  rw [show (w.alloc (.cells #[.int .i64 st, .int .i64 lv, .int .u64 rt] 42)).heap.size = w.heap.size + 1 from by simp] at HPA
  have HQ : Hid (Calls Try.prog 79 #[.slice (some ⟨w.heap.size + 1, 0, none⟩) 2 2, .int .u64 rt, .int .i64 8] ((w.alloc (.cells #[.int .i64 st, .int .i64 lv, .int .u64 rt] 42)).alloc (.cells #[.int .u8 st, .int .u8 lv] 5)) fun e w2 => ∃ v', e = .returned v' ∧ (convert 158 9 v').run Try.prog w2 = .ok (sv L) w2 ∧ Chg [] (w.alloc (.cells #[.int .i64 st, .int .i64 lv, .int .u64 rt] 42)) w2) := HPA
  clear HPA HP
  go_enter Try.func80, Try.ntmps80
  go_wp2_with fail
  refine (HQ.out).mono ?_
  rintro e w2 ⟨v', rfl, hcv, hc⟩
  go_wp2
  go_ret
  exact ⟨rfl, hcA.trans hc (by simp)⟩
set_option maxRecDepth 100000 in
set_option maxHeartbeats 1000000 in
theorem due_any (st d : Int) (w : World) (hs : 0 ≤ st ∧ st < 256) (h0 : 0 ≤ d) (h1 : d ≤ 18446744073709551615) : Calls Try.prog 81 #[.int .i64 st, .int .u64 d] w fun e w' => e = .returned (sv (bl [st] ++ be d 8)) ∧ Chg [] w w' := by
  have HP : Hid (Calls Try.prog 79 #[.slice (some ⟨w.heap.size, 0, none⟩) 1 1, .int .u64 d, .int .i64 8] (w.alloc (.cells #[.int .u8 st] 5)) fun e w2 => ∃ v', e = .returned v' ∧ (convert 158 9 v').run Try.prog w2 = .ok (sv (bl [st] ++ be d 8)) w2 ∧ Chg [] w w2) := by
    refine (put_new [st] (by simp; omega) (by simp) d 8 w h0 h1 (by omega)).mono ?_
    rintro e w2 ⟨v', rfl, hr, hc, _⟩
    exact ⟨v', rfl, conv_rw hr (by simp [bl]), hc⟩
  have hw1 : IntKind.u8.wrap st = st := by rw [IntKind.wrap_u8]; omega
  generalize bl [st] ++ be d 8 = L at *
  go_enter Try.func81, Try.ntmps81
  go_wp2_with fail
  refine (HP.out).mono ?_
  rintro e w2 ⟨v', rfl, hcv, hc⟩
  go_wp2
  go_ret
  exact ⟨rfl, hc⟩
theorem fm_len' : ∀ ws : List It, (ws.flatMap (fun y => be y.t 2 ++ be y.x 4 ++ be y.d 8)).length = ws.length * 14
  | [] => rfl
  | y :: ws => by rw [List.flatMap_cons, List.length_append, fm_len' ws]; simp [be_len]; omega
/-- the bytes of items -/
def ib (ws : List It) : List UInt8 := ws.flatMap (fun y => be y.t 2 ++ be y.x 4 ++ be y.d 8)
theorem ib_len (ws : List It) : (ib ws).length = ws.length * 14 := by
  unfold ib
  exact fm_len' ws
theorem ib_take (ws : List It) (j : Nat) (h : j < ws.length) : ib (ws.take (j + 1)) = ib (ws.take j) ++ be ws[j].t 2 ++ be ws[j].x 4 ++ be ws[j].d 8 := by
  rw [← List.take_append_getElem h]
  simp [ib, -List.take_append_getElem]
def IWf (ws : List It) : Prop := ∀ y ∈ ws, (0 ≤ y.t ∧ y.t < 65536) ∧ (0 ≤ y.x ∧ y.x < 4294967296) ∧ 0 ≤ y.d ∧ y.d ≤ 18446744073709551615
set_option maxRecDepth 100000 in
set_option maxHeartbeats 2000000 in
theorem items_any (v : Value) (ws : List It) (w : World) (h : Rw w 75 3 v ws.length (icells ws)) (hw : IWf ws) (hl : ws.length ≤ 100) : Calls Try.prog 82 #[v] w fun e w' => e = .returned (sv (bl [3, (ws.length : Int)] ++ ib ws)) ∧ Chg [] w w' := by
  have hwl : IntKind.u8.wrap (ws.length : Int) = (ws.length : Int) := by rw [IntKind.wrap_u8]; omega
  have hrow := row_new w [3, (ws.length : Int)] (by simp; omega) (by simp)
  have HROW : Hid (Rw (w.alloc (.cells #[.int .u8 3, .int .u8 (ws.length : Int)] 5)) 5 1 (.slice (some ⟨w.heap.size, 0, none⟩) 2 2) (bl [3, (ws.length : Int)]).length (bcells (bl [3, (ws.length : Int)]))) := hrow
  have HR : Hid (Rw w 75 3 v ws.length (icells ws)) := h
  have HW : Hid (IWf ws) := hw
  obtain ⟨bs, cp, hv⟩ := h.val
  obtain ⟨B, hB⟩ : ∃ B, B = bl [3, (ws.length : Int)] := ⟨_, rfl⟩
  have hBl : B.length = 2 := by rw [hB]; rfl
  rw [← hB] at HROW
  rw [← hB]
  have HBL : Hid (B.length = 2) := hBl
  have HPUT : Hid (∀ (v1 : Value) (L : List UInt8) (n : Int) (k : Nat) (W : World), Rw W 5 1 v1 L.length (bcells L) → Chg [] w W → (∀ b ∈ own v1, w.heap.size ≤ b) → 0 ≤ n → n ≤ 18446744073709551615 → k ≤ 8 → L.length ≤ 10000 → Calls Try.prog 79 #[v1, .int .u64 n, .int .i64 k] W fun e w' => ∃ v', e = .returned v' ∧ Rw w' 5 1 v' (L ++ be n k).length (bcells (L ++ be n k)) ∧ Chg [] w w' ∧ (∀ b ∈ own v', w.heap.size ≤ b) ∧ Chg (own v1) W w') := fun v1 L n k W hr hc ho h0 h1 hk hL => by
    refine (put_any v1 L n k W hr h0 h1 hk hL).mono ?_
    rintro e w' ⟨v', rfl, z1, z2, z3⟩
    exact ⟨v', rfl, z1, hc.trans z2 (fun j hj => Or.inr (ho j hj)), fun b hb => by rcases z3 b hb with h | h; exact ho b h; have := hc.size; omega, z2⟩
  subst hv
  clear h hw hrow hB hBl
  go_enter Try.func82, Try.ntmps82
  go_wp2_with fail
  go_loopw [3, 12] (fun v1 ix wr => ∃ j : Nat, j ≤ ws.length ∧ ix = .int .i64 j ∧ Rw wr 5 1 v1 (B ++ ib (ws.take j)).length (bcells (B ++ ib (ws.take j))) ∧ Chg [] w wr ∧ (∀ b ∈ own v1, w.heap.size ≤ b)) (fun _ ix _ => ws.length - (intOf ix).toNat)
  case atStart => exact ⟨0, by omega, rfl, by simpa [ib] using HROW.out, (Chg.refl _ _).alloc _, fun b hb => by have : b = w.heap.size := (by simpa [own, Value.ownBlock] using hb); omega⟩
  case round =>
    obtain ⟨j, hj, rfl, hrw, hch, hox⟩ := hrel
    have hll : (B ++ ib (ws.take j)).length ≤ 2000 := by rw [List.length_append, ib_len, List.length_take, HBL.out]; omega
    by_cases hlt : j < ws.length
    · rcases HR.out.2.2 with ⟨_, hz⟩ | ⟨b, cap, P, R, hv, hg, _⟩
      · omega
      · injection hv with e1 e2 e3
        subst e1 e3
        clear e2
        have hgr := hch.blk hg (by simp)
        have hat := ic_at ws j hlt
        have hy := HW.out _ (List.getElem_mem hlt)
        have HTK : Hid (ib (ws.take (j + 1)) = ib (ws.take j) ++ be ws[j].t 2 ++ be ws[j].x 4 ++ be ws[j].d 8) := ib_take ws j hlt
        generalize ws[j] = y at *
        obtain ⟨yt, yx, yd⟩ := y
        simp only at hat hy
        have d0 : wr.cell? ⟨b, P.length + j * 3, none⟩ = some (.int .u16 yt) := Rw.cell (n := 0) (sz := 0) hgr hat.1
        have d1 : wr.cell? ⟨b, P.length + j * 3 + 1, none⟩ = some (.int .u32 yx) := by rw [Nat.add_assoc]; exact Rw.cell (n := 0) (sz := 0) hgr hat.2.1
        have d2 : wr.cell? ⟨b, P.length + j * 3 + 2, none⟩ = some (.int .u64 yd) := by rw [Nat.add_assoc]; exact Rw.cell (n := 0) (sz := 0) hgr hat.2.2
        have hjj : (j : Int) < (ws.length : Int) := by omega
        have hbA := heap_alloc_new wr (.cells [.int .u16 yt, .int .u32 yx, .int .u64 yd].toArray 75)
        have hcA := hch.alloc (.cells [.int .u16 yt, .int .u32 yx, .int .u64 yd].toArray 75)
        have hrA := hrw.chg (l := []) ((Chg.refl _ _).alloc (.cells [.int .u16 yt, .int .u32 yx, .int .u64 yd].toArray 75)) (by simp)
        have hw1 : IntKind.u64.wrap yt = yt := by rw [IntKind.wrap_u64]; omega
        have hw2 : IntKind.u64.wrap yx = yx := by rw [IntKind.wrap_u64]; omega
        obtain ⟨wA, hwA⟩ : ∃ wA, wA = wr.alloc (.cells [.int .u16 yt, .int .u32 yx, .int .u64 yd].toArray 75) := ⟨_, rfl⟩
        rw [← hwA] at hbA hcA hrA
        have HWA : Hid (wr.alloc (.cells #[.int .u16 yt, .int .u32 yx, .int .u64 yd] 75) = wA) := hwA.symm
        have P1 : Hid (Calls Try.prog 79 #[u3, .int .u64 yt, .int .i64 2] wA fun e w5 => ∃ v5, e = .returned v5 ∧ Rw w5 5 1 v5 (B ++ ib (ws.take j) ++ be yt 2).length (bcells (B ++ ib (ws.take j) ++ be yt 2)) ∧ Chg [] w w5 ∧ (∀ b ∈ own v5, w.heap.size ≤ b) ∧ w5.heap[wr.heap.size]? = some (.cells [.int .u16 yt, .int .u32 yx, .int .u64 yd].toArray 75 (0, 0))) := by
          refine (HPUT.out u3 _ yt 2 wA hrA hcA hox (by omega) (by omega) (by omega) (by omega)).mono ?_
          rintro e w5 ⟨v5, rfl, z1, z2, z3, z4⟩
          exact ⟨v5, rfl, z1, z2, z3, z4.blk hbA (own_ty hrA hbA (by decide))⟩
        have l1 : (B ++ ib (ws.take j) ++ be yt 2).length ≤ 3000 := by rw [List.length_append, be_len]; omega
        have l2 : (B ++ ib (ws.take j) ++ be yt 2 ++ be yx 4).length ≤ 3000 := by rw [List.length_append, List.length_append, be_len, be_len]; omega
        clear hwA hbA hcA hrA hrw hch hgr hat hox
        go_wp2_with fail
        rw [HWA.out]
        refine (P1.out).mono ?_
        rintro e w5 ⟨v5, rfl, r5, c5, o5, x5⟩
        have x51 := blk_cell (i := 1) x5 rfl
        have P2 : Hid (Calls Try.prog 79 #[v5, .int .u64 yx, .int .i64 4] w5 fun e w6 => ∃ v6, e = .returned v6 ∧ Rw w6 5 1 v6 (B ++ ib (ws.take j) ++ be yt 2 ++ be yx 4).length (bcells (B ++ ib (ws.take j) ++ be yt 2 ++ be yx 4)) ∧ Chg [] w w6 ∧ (∀ b ∈ own v6, w.heap.size ≤ b) ∧ w6.heap[wr.heap.size]? = some (.cells [.int .u16 yt, .int .u32 yx, .int .u64 yd].toArray 75 (0, 0))) := by
          refine (HPUT.out v5 _ yx 4 w5 r5 c5 o5 (by omega) (by omega) (by omega) (by omega)).mono ?_
          rintro e w6 ⟨v6, rfl, z1, z2, z3, z4⟩
          exact ⟨v6, rfl, z1, z2, z3, z4.blk x5 (own_ty r5 x5 (by decide))⟩
        clear r5 c5 o5 x5 d0 d1 d2
        go_wp2_with fail
        refine (P2.out).mono ?_
        rintro e w6 ⟨v6, rfl, r6, c6, o6, x6⟩
        have x62 := blk_cell (i := 2) x6 rfl
        have P3 : Hid (Calls Try.prog 79 #[v6, .int .u64 yd, .int .i64 8] w6 fun e w7 => ∃ v7, e = .returned v7 ∧ Rw w7 5 1 v7 (B ++ ib (ws.take j) ++ be yt 2 ++ be yx 4 ++ be yd 8).length (bcells (B ++ ib (ws.take j) ++ be yt 2 ++ be yx 4 ++ be yd 8)) ∧ Chg [] w w7 ∧ (∀ b ∈ own v7, w.heap.size ≤ b)) := by
          refine (HPUT.out v6 _ yd 8 w6 r6 c6 o6 (by omega) (by omega) (by omega) (by omega)).mono ?_
          rintro e w7 ⟨v7, rfl, z1, z2, z3, z4⟩
          exact ⟨v7, rfl, z1, z2, z3⟩
        clear r6 c6 o6 x6 x51
        go_wp2_with fail
        refine (P3.out).mono ?_
        rintro e w7 ⟨v7, rfl, r7, c7, o7⟩
        have e7 : B ++ ib (ws.take j) ++ be yt 2 ++ be yx 4 ++ be yd 8 = B ++ ib (ws.take (j + 1)) := by rw [HTK.out]; simp
        rw [e7] at r7
        have HX : Hid (Rw w7 5 1 v7 (B ++ ib (ws.take (j + 1))).length (bcells (B ++ ib (ws.take (j + 1)))) ∧ Chg [] w w7 ∧ (∀ b ∈ own v7, w.heap.size ≤ b)) := ⟨r7, c7, o7⟩
        clear r7 c7 o7 e7
        go_wp2_with fail
        go_roundw
        case rel => exact ⟨j + 1, by omega, by go_num, HX.out.1, HX.out.2.1, HX.out.2.2⟩
        case measure => simp [intOf]; omega
    · have hjl : j = ws.length := by omega
      subst hjl
      have hcv := conv_rw hrw (by rw [List.length_append, HBL.out]; omega)
      rw [List.take_length] at hcv
      clear hrw
      go_wp2
      go_ret
      exact ⟨rfl, hch⟩
end Go.Proofs.Ytbdnhllhdjepcaa
