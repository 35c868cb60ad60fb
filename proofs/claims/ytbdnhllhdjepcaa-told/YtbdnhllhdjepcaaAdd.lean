import Derived.Test.YtbdnhllhdjepcaaSet
import Derived.Deep.RegionWith
namespace Go.Proofs.Ytbdnhllhdjepcaa
set_option linter.unusedVariables false
set_option linter.unusedSimpArgs false
open Go.RowKit Go.Maps

/-! ### items that wait -/
structure It where
  t : Int
  x : Int
  d : Int
def icl (i : It) : List Value := [.int .u16 i.t, .int .u32 i.x, .int .u64 i.d]
theorem icl_len (i : It) : (icl i).length = 3 := rfl
def icells (ws : List It) : List Value := ws.flatMap icl
theorem ic_at (ws : List It) (j : Nat) (hj : j < ws.length) : (icells ws)[j * 3]? = some (.int .u16 ws[j].t) ∧ (icells ws)[j * 3 + 1]? = some (.int .u32 ws[j].x) ∧ (icells ws)[j * 3 + 2]? = some (.int .u64 ws[j].d) :=
  ⟨fm_at icl_len ws j hj 0 (by decide), fm_at icl_len ws j hj 1 (by decide), fm_at icl_len ws j hj 2 (by decide)⟩
/-- an item behind those that are due no later -/
def ins (x : It) : List It → List It
  | [] => [x]
  | y :: q => if x.d < y.d then x :: y :: q else y :: ins x q
theorem ins_len (x : It) : ∀ q, (ins x q).length = q.length + 1
  | [] => rfl
  | y :: q => by unfold ins; split <;> simp [ins_len x q]
theorem ins_split (x : It) (B : List It) (hB : ∀ y ∈ B, x.d < y.d) : ∀ A : List It, (∀ y ∈ A, y.d ≤ x.d) → ins x (A ++ B) = A ++ x :: B
  | [], _ => by
    cases B with
    | nil => rfl
    | cons y B => simp [ins, hB y (by simp)]
  | a :: A, hA => by
    have h := hA a (by simp)
    rw [List.cons_append]
    unfold ins
    rw [if_neg (by omega), ins_split x B hB A (fun y hy => hA y (by simp [hy]))]
    rfl
def Sorted (ws : List It) : Prop := ws.Pairwise (fun a b => a.d ≤ b.d)
theorem ins_sorted (x : It) : ∀ q, Sorted q → Sorted (ins x q)
  | [], _ => by simp [ins, Sorted]
  | y :: q, h => by
    obtain ⟨h1, h2⟩ := List.pairwise_cons.1 h
    unfold ins
    split
    · rename_i hx
      exact List.pairwise_cons.2 ⟨fun z hz => by rcases List.mem_cons.1 hz with rfl | hz; omega; have := h1 z hz; omega, h⟩
    · rename_i hx
      refine List.pairwise_cons.2 ⟨fun z hz => ?_, ins_sorted x q h2⟩
      have : z = x ∨ z ∈ q := by
        clear h1 h2 h
        induction q with
        | nil => simp [ins] at hz; exact Or.inl hz
        | cons w q ih =>
          unfold ins at hz
          split at hz
          · rcases List.mem_cons.1 hz with rfl | hz
            · exact Or.inl rfl
            · exact Or.inr hz
          · rcases List.mem_cons.1 hz with rfl | hz
            · exact Or.inr (by simp)
            · rcases ih hz with h | h
              · exact Or.inl h
              · exact Or.inr (by simp [h])
      rcases this with rfl | hz
      · omega
      · exact h1 z hz
/-- where the scan from the right stops -/
theorem ins_stop {x : It} {ws : List It} {k : Nat} (hs : Sorted ws) (hk : k ≤ ws.length) (hgt : ∀ j (hj : j < ws.length), k ≤ j → x.d < ws[j].d) (hle : ∀ hk0 : 0 < k, (ws[k - 1]'(by omega)).d ≤ x.d) : ws.take k ++ x :: ws.drop k = ins x ws := by
  have := ins_split x (ws.drop k) (fun y hy => by
    obtain ⟨j, hj, rfl⟩ := List.mem_iff_getElem.1 hy
    rw [List.getElem_drop]
    exact hgt _ (by rw [List.length_drop] at hj; omega) (by omega)) (ws.take k) (fun y hy => by
    obtain ⟨j, hj, rfl⟩ := List.mem_iff_getElem.1 hy
    rw [List.length_take] at hj
    rw [List.getElem_take]
    have hk0 : 0 < k := by omega
    have h1 := hle hk0
    by_cases hjk : j = k - 1
    · subst hjk; exact h1
    · have := List.pairwise_iff_getElem.1 hs j (k - 1) (by omega) (by omega) (by omega)
      omega)
  rw [List.take_append_drop] at this
  exact this.symm
abbrev qv (lk ev de qu : Int) (tb : Nat) (wv : Value) : List Value := [.int .i32 lk, .int .u32 0, .int .u64 ev, .int .u64 de, .int .i64 qu, .pointer (some ⟨tb, 0, none⟩), wv]
abbrev qblk (w : World) (qb : Nat) (lk ev de qu : Int) (tb : Nat) (wv : Value) : Prop := w.heap[qb]? = some (.cells (qv lk ev de qu tb wv).toArray 151 (0, 0))

set_option maxRecDepth 100000 in
set_option maxHeartbeats 4000000 in
theorem add_any (qb tb : Nat) (lk ev de qu : Int) (wv : Value) (ws : List It) (it : It) (w : World) (hb : qblk w qb lk ev de qu tb wv) (hr : Rw w 75 3 wv ws.length (icells ws)) (hs : Sorted ws) (hlen : ws.length ≤ 1000) :
    Calls Try.prog 72 #[.pointer (some ⟨qb, 0, none⟩), .agg #[.int .u16 it.t, .int .u32 it.x, .int .u64 it.d]] w fun e w' => e = .returned (.tuple #[]) ∧ ∃ wv', qblk w' qb lk ev de qu tb wv' ∧ Rw w' 75 3 wv' (ins it ws).length (icells (ins it ws)) ∧ Chg (qb :: own wv) w w' ∧ ∀ b ∈ own wv', b ∈ own wv ∨ w.heap.size ≤ b := by
  have hqo : qb ∉ own wv := own_ty hr hb (by decide)
  have hql := lt_of_block hb
  have HFIN : Hid (∀ (k : Nat) (v' : Value) (W w2 : World), Chg [] w W → k ≤ ws.length → ws.take k ++ it :: ws.drop k = ins it ws → Rw w2 75 3 v' (ws.length + 1) ((icells ws).take (k * 3) ++ icl it ++ (icells ws).drop (k * 3)) → W.grownBy w2 wv.ownBlock → (v'.ownBlock = wv.ownBlock ∨ v'.ownBlock = some W.heap.size) →
      ∃ wv', qblk (w2.setCell ⟨qb, 6, none⟩ v') qb lk ev de qu tb wv' ∧ Rw (w2.setCell ⟨qb, 6, none⟩ v') 75 3 wv' (ins it ws).length (icells (ins it ws)) ∧ Chg (qb :: own wv) w (w2.setCell ⟨qb, 6, none⟩ v') ∧ ∀ b ∈ own wv', b ∈ own wv ∨ w.heap.size ≤ b) := fun k v' W w2 hW hk hi hrw hgr hown => by
    have hcA : Chg (own wv) w w2 := (hW.mono (by simp)).trans (grown_chg hgr) (fun j hj => Or.inl hj)
    have hb2 := hcA.blk hb hqo
    have ecat : (icells ws).take (k * 3) ++ icl it ++ (icells ws).drop (k * 3) = icells (ins it ws) := by
      rw [← hi]
      unfold icells
      rw [fm_take icl_len, fm_drop icl_len]
      simp
    rw [ecat, ← ins_len it ws] at hrw
    have htv : qb ∉ own v' := own_ty hrw hb2 (by decide)
    refine ⟨v', blk_set (i := 6) v' hb2, hrw.chg ((Chg.refl [qb] w2).set _ _ (Or.inl (by simp))) (fun b hb' => by simp; rintro rfl; exact htv (mem_own.2 hb')), (hcA.mono (m := qb :: own wv) (fun j hj => by simp [hj])).set _ _ (Or.inl (by simp)), ?_⟩
    intro b hb
    rcases hown with e | e
    · left; rw [mem_own] at hb ⊢; rw [← e]; exact hb
    · right; rw [mem_own, e] at hb; cases hb; exact hW.size
  have HINS : Hid (∀ (k : Nat) (W : World), Chg [] w W → k ≤ ws.length → ws.take k ++ it :: ws.drop k = ins it ws → Calls Try.prog 98 #[wv, .int .i64 k, .slice (some ⟨W.heap.size, 0, none⟩) 1 1] (W.alloc (.cells #[.int .u16 it.t, .int .u32 it.x, .int .u64 it.d] 75)) fun e w' => ∃ bb oo cc, e = .returned (.slice (some ⟨bb, oo, none⟩) (ws.length + 1) cc) ∧ qblk w' qb lk ev de qu tb (wv) ∧ (∃ wv', qblk (w'.setCell ⟨qb, 6, none⟩ (.slice (some ⟨bb, oo, none⟩) (ws.length + 1) cc)) qb lk ev de qu tb wv' ∧ Rw (w'.setCell ⟨qb, 6, none⟩ (.slice (some ⟨bb, oo, none⟩) (ws.length + 1) cc)) 75 3 wv' (ins it ws).length (icells (ins it ws)) ∧ Chg (qb :: own (wv)) w (w'.setCell ⟨qb, 6, none⟩ (.slice (some ⟨bb, oo, none⟩) (ws.length + 1) cc)) ∧ ∀ b' ∈ own wv', b' ∈ own (wv) ∨ w.heap.size ≤ b')) := fun k W hW hk hi => by
    have hW1 : Chg [] w (W.alloc (.cells #[.int .u16 it.t, .int .u32 it.x, .int .u64 it.d] 75)) := hW.alloc _
    have hrW := hr.chg hW1 (by simp)
    have hsz := hW.size
    refine (insI wv ws.length k (icells ws) (icl it) W.heap.size _ hrW hk hlen (heap_alloc_new W _) rfl (by simp [icl]; exact ⟨rfl, rfl, rfl⟩) (fun e => by have := hr.lt e; omega)).mono ?_
    rintro e w2 ⟨v', rfl, x1, x2, x3⟩
    have hbW := hW1.blk hb (by simp)
    have hb2 := (grown_chg x2).blk hbW hqo
    have hx := HFIN.out k v' _ w2 hW1 hk hi x1 x2 x3
    obtain ⟨bb, oo, cc, rfl⟩ := x1.form (by omega)
    exact ⟨bb, oo, cc, rfl, hb2, hx⟩
  clear HFIN
  rcases hr.2.2 with ⟨rfl, hes⟩ | ⟨b, cap, P, R, rfl, hg, hnc, hcm, hcr⟩
  · have hes0 : ws.length = 0 := hes
    have hws : ws = [] := List.length_eq_zero_iff.1 hes0
    subst hws
    have HB : Hid (qblk w qb lk ev de qu tb (.slice none 0 0)) := hb
    clear hr hes hes0 hb hs
    go_enter Try.func72, Try.ntmps72
    have cA : ∀ o, (w.alloc o).cell? ⟨qb, 6, none⟩ = some (.slice none 0 0) := fun o => blk_cell (i := 6) (blk_alloc HB.out o) rfl
    go_wp2_with fail
    go_loopw [4] (fun i wr => i = .int .i64 0 ∧ Chg [] w wr ∧ wr.heap[w.heap.size]? = some (.cells [.int .u16 it.t, .int .u32 it.x, .int .u64 it.d].toArray 75 (0, 0))) (fun _ _ => 0)
    case atStart => exact ⟨rfl, (Chg.refl _ _).alloc _, heap_alloc_new w _⟩
    case round =>
      obtain ⟨rfl, hch, hbx⟩ := hrel
      have stop : Hid (Calls Try.prog 98 #[.slice none 0 0, .int .i64 (0 : Nat), .slice (some ⟨wr.drew.drew.heap.size, 0, none⟩) 1 1] (wr.drew.drew.alloc (.cells #[.int .u16 it.t, .int .u32 it.x, .int .u64 it.d] 75)) fun e w' => ∃ bb oo cc, e = .returned (.slice (some ⟨bb, oo, none⟩) (0 + 1) cc) ∧ qblk w' qb lk ev de qu tb (.slice none 0 0) ∧ (∃ wv', qblk (w'.setCell ⟨qb, 6, none⟩ (.slice (some ⟨bb, oo, none⟩) (0 + 1) cc)) qb lk ev de qu tb wv' ∧ Rw (w'.setCell ⟨qb, 6, none⟩ (.slice (some ⟨bb, oo, none⟩) (0 + 1) cc)) 75 3 wv' (ins it []).length (icells (ins it [])) ∧ Chg (qb :: own (.slice none 0 0)) w (w'.setCell ⟨qb, 6, none⟩ (.slice (some ⟨bb, oo, none⟩) (0 + 1) cc)) ∧ ∀ b' ∈ own wv', b' ∈ own (.slice none 0 0) ∨ w.heap.size ≤ b')) := HINS.out 0 wr.drew.drew hch.drew.drew (by simp) rfl
      have hbr := hch.blk HB.out (by simp)
      have c6 : wr.cell? ⟨qb, 6, none⟩ = some (.slice none 0 0) := blk_cell (i := 6) hbr rfl
      have b0 := blk_cell (i := 0) hbx rfl
      have b1 := blk_cell (i := 1) hbx rfl
      have b2 := blk_cell (i := 2) hbx rfl
      have c6a : ∀ o, (wr.alloc o).cell? ⟨qb, 6, none⟩ = some (.slice none 0 0) := fun o => blk_cell (i := 6) (blk_alloc hbr o) rfl
      have b0a : ∀ o, (wr.alloc o).cell? ⟨w.heap.size, 0, none⟩ = some (.int .u16 it.t) := fun o => blk_cell (i := 0) (blk_alloc hbx o) rfl
      have b1a : ∀ o, (wr.alloc o).cell? ⟨w.heap.size, 1, none⟩ = some (.int .u32 it.x) := fun o => blk_cell (i := 1) (blk_alloc hbx o) rfl
      have b2a : ∀ o, (wr.alloc o).cell? ⟨w.heap.size, 2, none⟩ = some (.int .u64 it.d) := fun o => blk_cell (i := 2) (blk_alloc hbx o) rfl
      clear hbr hbx hch
      go_wp2_with fail
      go_region
      go_upto_region 4 with fail
      go_region_with (go_at_call 98; refine (stop.out).mono ?_; rintro e w2 ⟨bb, oo, cc, rfl, k2, x1⟩; have hfr2 : ∀ i, w2.frozen? ⟨qb, i, none⟩ = false := fun i => blk_free k2; have k26 : w2.cell? ⟨qb, 6, none⟩ = some (.slice none 0 0) := blk_cell (i := 6) k2 rfl; have HX : Hid _ := x1; clear x1 k2)
      all_goals
        go_wp2
        go_end0
        exact ⟨rfl, HX.out⟩
  · obtain ⟨len, hlen'⟩ : ∃ len, len = ws.length := ⟨_, rfl⟩
    have HLEN : Hid (len = ws.length) := hlen'
    have HG : Hid (w.heap[b]? = some (.cells (P ++ (icells ws ++ R)).toArray 75 (0, 0))) := hg
    have hcm' : cap ≤ 9223372036854775807 := by unfold maxLen at hcm; omega
    have hlc : len ≤ cap := by omega
    obtain ⟨o, ho⟩ : ∃ o, P.length = o := ⟨_, rfl⟩
    have HO : Hid (P.length = o) := ho
    have HS : Hid (Sorted ws) := hs
    rw [ho, ← hlen'] at HINS hb
    rw [← hlen'] at hlen
    rw [ho, ← hlen']
    have HB : Hid (qblk w qb lk ev de qu tb (.slice (some ⟨b, o, none⟩) len cap)) := hb
    clear hr hlen' hg hnc hcm hcr ho hb hs
    go_enter Try.func72, Try.ntmps72
    have cA : ∀ o', (w.alloc o').cell? ⟨qb, 6, none⟩ = some (.slice (some ⟨b, o, none⟩) len cap) := fun o' => blk_cell (i := 6) (blk_alloc HB.out o') rfl
    go_wp2_with fail
    go_loopw [4] (fun i wr => ∃ k : Nat, k ≤ len ∧ i = .int .i64 k ∧ Chg [] w wr ∧ wr.heap[w.heap.size]? = some (.cells [.int .u16 it.t, .int .u32 it.x, .int .u64 it.d].toArray 75 (0, 0)) ∧ ∀ j (hj : j < ws.length), k ≤ j → it.d < ws[j].d) (fun i _ => (intOf i).toNat)
    case atStart => exact ⟨len, by omega, rfl, (Chg.refl _ _).alloc _, heap_alloc_new w _, fun j hj h => by have := HLEN.out; omega⟩
    case round =>
      obtain ⟨k, hk, rfl, hch, hbx, hgt⟩ := hrel
      have HGT : Hid (∀ j (hj : j < ws.length), k ≤ j → it.d < ws[j].d) := hgt
      have stop0 : Hid (ws.take k ++ it :: ws.drop k = ins it ws → Calls Try.prog 98 #[.slice (some ⟨b, o, none⟩) len cap, .int .i64 k, .slice (some ⟨wr.drew.drew.heap.size, 0, none⟩) 1 1] (wr.drew.drew.alloc (.cells #[.int .u16 it.t, .int .u32 it.x, .int .u64 it.d] 75)) fun e w' => ∃ bb oo cc, e = .returned (.slice (some ⟨bb, oo, none⟩) (len + 1) cc) ∧ qblk w' qb lk ev de qu tb (.slice (some ⟨b, o, none⟩) len cap) ∧ (∃ wv', qblk (w'.setCell ⟨qb, 6, none⟩ (.slice (some ⟨bb, oo, none⟩) (len + 1) cc)) qb lk ev de qu tb wv' ∧ Rw (w'.setCell ⟨qb, 6, none⟩ (.slice (some ⟨bb, oo, none⟩) (len + 1) cc)) 75 3 wv' (ins it ws).length (icells (ins it ws)) ∧ Chg (qb :: own (.slice (some ⟨b, o, none⟩) len cap)) w (w'.setCell ⟨qb, 6, none⟩ (.slice (some ⟨bb, oo, none⟩) (len + 1) cc)) ∧ ∀ b' ∈ own wv', b' ∈ own (.slice (some ⟨b, o, none⟩) len cap) ∨ w.heap.size ≤ b')) := fun hi => HINS.out k wr.drew.drew hch.drew.drew (by have := HLEN.out; omega) hi
      have hbr := hch.blk HB.out (by simp)
      have hgr := hch.blk HG.out (by simp)
      have HR : Hid (Chg [] w wr ∧ wr.heap[w.heap.size]? = some (.cells [.int .u16 it.t, .int .u32 it.x, .int .u64 it.d].toArray 75 (0, 0))) := ⟨hch, hbx⟩
      have c6 : wr.cell? ⟨qb, 6, none⟩ = some (.slice (some ⟨b, o, none⟩) len cap) := blk_cell (i := 6) hbr rfl
      have b0 := blk_cell (i := 0) hbx rfl
      have b1 := blk_cell (i := 1) hbx rfl
      have b2 := blk_cell (i := 2) hbx rfl
      have c6a : ∀ o', (wr.alloc o').cell? ⟨qb, 6, none⟩ = some (.slice (some ⟨b, o, none⟩) len cap) := fun o' => blk_cell (i := 6) (blk_alloc hbr o') rfl
      have b0a : ∀ o, (wr.alloc o).cell? ⟨w.heap.size, 0, none⟩ = some (.int .u16 it.t) := fun o => blk_cell (i := 0) (blk_alloc hbx o) rfl
      have b1a : ∀ o, (wr.alloc o).cell? ⟨w.heap.size, 1, none⟩ = some (.int .u32 it.x) := fun o => blk_cell (i := 1) (blk_alloc hbx o) rfl
      have b2a : ∀ o, (wr.alloc o).cell? ⟨w.heap.size, 2, none⟩ = some (.int .u64 it.d) := fun o => blk_cell (i := 2) (blk_alloc hbx o) rfl
      clear hbr hbx hch hgt
      by_cases hk0 : 0 < k
      · have hkl : k - 1 < ws.length := by rw [← HLEN.out]; omega
        have hat := (ic_at ws (k - 1) hkl).2.2
        obtain ⟨aa, haa'⟩ : ∃ aa, aa = ws[k - 1].d := ⟨_, rfl⟩
        have HAA : Hid (aa = ws[k - 1].d) := haa'
        rw [← haa'] at hat
        have d1 : wr.cell? ⟨b, o + (k - 1) * 3 + 2, none⟩ = some (.int .u64 aa) := by rw [← HO.out, Nat.add_assoc]; exact Rw.cell (n := 0) (sz := 0) hgr hat
        clear hat hgr haa'
        have hk1 : (0 : Int) < (k : Int) := by omega
        have hw1 : IntKind.i64.wrap ((k : Int) - 1) = (k : Int) - 1 := by rw [IntKind.wrap_i64]; omega
        have hk2 : (k : Int) - 1 < (len : Int) := by omega
        have hk3 : (0 : Int) ≤ (k : Int) - 1 := by omega
        have hk4 : ((k : Int) - 1).toNat = k - 1 := by omega
        by_cases haa : it.d < aa
        · go_wp2_with fail
          go_region
          go_wp2_with fail
          go_roundw
          case rel => exact ⟨k - 1, by omega, by go_num, HR.out.1.drew, HR.out.2, fun j hj hkj => by
            by_cases e : j = k - 1
            · subst e; rw [← HAA.out]; exact haa
            · exact HGT.out j hj (by omega)⟩
          case measure => simp [intOf]; omega
        · have stop : Hid (Calls Try.prog 98 #[.slice (some ⟨b, o, none⟩) len cap, .int .i64 k, .slice (some ⟨wr.drew.drew.heap.size, 0, none⟩) 1 1] (wr.drew.drew.alloc (.cells #[.int .u16 it.t, .int .u32 it.x, .int .u64 it.d] 75)) fun e w' => ∃ bb oo cc, e = .returned (.slice (some ⟨bb, oo, none⟩) (len + 1) cc) ∧ qblk w' qb lk ev de qu tb (.slice (some ⟨b, o, none⟩) len cap) ∧ (∃ wv', qblk (w'.setCell ⟨qb, 6, none⟩ (.slice (some ⟨bb, oo, none⟩) (len + 1) cc)) qb lk ev de qu tb wv' ∧ Rw (w'.setCell ⟨qb, 6, none⟩ (.slice (some ⟨bb, oo, none⟩) (len + 1) cc)) 75 3 wv' (ins it ws).length (icells (ins it ws)) ∧ Chg (qb :: own (.slice (some ⟨b, o, none⟩) len cap)) w (w'.setCell ⟨qb, 6, none⟩ (.slice (some ⟨bb, oo, none⟩) (len + 1) cc)) ∧ ∀ b' ∈ own wv', b' ∈ own (.slice (some ⟨b, o, none⟩) len cap) ∨ w.heap.size ≤ b')) := stop0.out (ins_stop HS.out (by have := HLEN.out; omega) HGT.out (fun _ => by have := HAA.out; omega))
          go_wp2_with fail
          go_region
          go_upto_region 4 with fail
          go_region_with (go_at_call 98; refine (stop.out).mono ?_; rintro e w2 ⟨bb, oo, cc, rfl, k2, x1⟩; have hfr2 : ∀ i, w2.frozen? ⟨qb, i, none⟩ = false := fun i => blk_free k2; have k26 : w2.cell? ⟨qb, 6, none⟩ = some (.slice (some ⟨b, o, none⟩) len cap) := blk_cell (i := 6) k2 rfl; have HX : Hid _ := x1; clear x1 k2)
          all_goals
            go_wp2
            go_end0
            exact ⟨rfl, HX.out⟩
      · obtain rfl : k = 0 := by omega
        have stop : Hid (Calls Try.prog 98 #[.slice (some ⟨b, o, none⟩) len cap, .int .i64 (0 : Nat), .slice (some ⟨wr.drew.drew.heap.size, 0, none⟩) 1 1] (wr.drew.drew.alloc (.cells #[.int .u16 it.t, .int .u32 it.x, .int .u64 it.d] 75)) fun e w' => ∃ bb oo cc, e = .returned (.slice (some ⟨bb, oo, none⟩) (len + 1) cc) ∧ qblk w' qb lk ev de qu tb (.slice (some ⟨b, o, none⟩) len cap) ∧ (∃ wv', qblk (w'.setCell ⟨qb, 6, none⟩ (.slice (some ⟨bb, oo, none⟩) (len + 1) cc)) qb lk ev de qu tb wv' ∧ Rw (w'.setCell ⟨qb, 6, none⟩ (.slice (some ⟨bb, oo, none⟩) (len + 1) cc)) 75 3 wv' (ins it ws).length (icells (ins it ws)) ∧ Chg (qb :: own (.slice (some ⟨b, o, none⟩) len cap)) w (w'.setCell ⟨qb, 6, none⟩ (.slice (some ⟨bb, oo, none⟩) (len + 1) cc)) ∧ ∀ b' ∈ own wv', b' ∈ own (.slice (some ⟨b, o, none⟩) len cap) ∨ w.heap.size ≤ b')) := stop0.out (ins_stop HS.out (by omega) HGT.out (fun h => by omega))
        clear stop0 hgr
        go_wp2_with fail
        go_region
        go_upto_region 4 with fail
        go_region_with (go_at_call 98; refine (stop.out).mono ?_; rintro e w2 ⟨bb, oo, cc, rfl, k2, x1⟩; have hfr2 : ∀ i, w2.frozen? ⟨qb, i, none⟩ = false := fun i => blk_free k2; have k26 : w2.cell? ⟨qb, 6, none⟩ = some (.slice (some ⟨b, o, none⟩) len cap) := blk_cell (i := 6) k2 rfl; have HX : Hid _ := x1; clear x1 k2)
        all_goals
          go_wp2
          go_end0
          exact ⟨rfl, HX.out⟩
end Go.Proofs.Ytbdnhllhdjepcaa
