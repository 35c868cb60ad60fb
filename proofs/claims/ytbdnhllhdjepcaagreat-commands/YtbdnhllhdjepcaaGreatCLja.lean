import Derived.Test.YtbdnhllhdjepcaaGreatCRs
import Derived.Test.YtbdnhllhdjepcaaGreatCQpoll
import Derived.Deep.RegionLaw
namespace Go.Proofs.YtbdnhllhdjepcaaGreat
set_option linter.unusedVariables false
set_option linter.unusedSimpArgs false
open Go.RowKit Go.Maps

/-! ### lists that came out -/
theorem Tryz.info112 : (Tryz.prog.info? 112).map (fun i => (i.zero, i.size, i.bytes)) = some (some (.slice none 0 0), 1, 24) := by kernel_rfl
theorem ek112 : ∃ i0, EK 49 112 i0 (.slice none 0 0) 1 24 := by
  obtain ⟨i0, hi, hz0, hz1, hz2⟩ := info_parts Tryz.info112
  exact ⟨i0, ⟨Tryz.underlying49, hi, hz0, hz1, hz2, rfl, by decide, by decide, fun n => zero_one (by decide) (by decide) n⟩⟩
theorem Tryz.info53 : (Tryz.prog.info? 53).map (fun i => (i.zero, i.size, i.bytes)) = some (some (.int .u32 0), 1, 4) := by kernel_rfl
theorem ek53 : ∃ i0, EK 51 53 i0 (.int .u32 0) 1 4 := by
  obtain ⟨i0, hi, hz0, hz1, hz2⟩ := info_parts Tryz.info53
  exact ⟨i0, ⟨Tryz.underlying51, hi, hz0, hz1, hz2, rfl, by decide, by decide, fun n => zero_one (by decide) (by decide) n⟩⟩
section
variable {tS e : TypeId} {i0 : TypeInfo} {z : Value} {sz bytes : Nat}
/-- append onto a row that is full: a row anew -/
theorem run_appF (k : EK tS e i0 z sz bytes) (w : World) (ty : TypeId) (bs : Option Addr) (n : Nat) (cs : List Value) (h : Rw w e sz (.slice bs n n) n cs) (a : Addr) (m c : Nat) (news : List Value) (hl : news.length = m * sz) (hnews : ∀ j u, news[j]? = some u → w.cell? (a.add j) = some u)
    (h1 : ∀ u ∈ news, u.oneCell' = true) (hm : 0 < m) (hbig : (n + m) * bytes ≤ 140737488355328) :
    ∃ v' w', (Builtin.append_ #[tS, tS] ty #[.slice bs n n, .slice (some a) m c]).run Tryz.prog w = .ok v' w' ∧ Rw w' e sz v' (n + m) (cs ++ news) ∧ w.grownBy w' none ∧ v'.ownBlock = some w.heap.size := by
  have hone : ∀ u ∈ cs ++ news, u.oneCell' = true := fun u hu => by
    rcases List.mem_append.1 hu with hu | hu
    · exact h.2.1 u hu
    · exact h1 u hu
  have hlen : (cs ++ news).length = (n + m) * sz := by rw [List.length_append, h.1, hl, Nat.add_mul]
  have hsrc : Src Tryz.prog i0.size tS (.slice (some a) m c) m news w := by rw [k.s]; exact Src.ofSlice w k.u a m c news hl hnews h1
  have hmb : (n + m) * bytes ≤ 140737488355328 := hbig
  have hnm : n + m ≤ 140737488355328 := Nat.le_trans (Nat.le_mul_of_pos_right _ k.bb.1) hbig
  have hold : (Builtin.firstCells i0.size n (.slice bs n n)).run Tryz.prog w.drew = .ok cs.toArray w.drew := by
    rcases h.2.2 with ⟨hv, h0⟩ | ⟨b, cap, P, R, hv, hg, hnc, hcm, hcr⟩
    · have : cs = [] := List.length_eq_zero_iff.1 (by rw [h.1, h0, Nat.zero_mul])
      injection hv with e1 e2 e3
      rw [this, e1]
      exact run_firstCells_none w.drew _ _ _ _
    · injection hv with e1 e2 e3
      rw [k.s, e1]
      exact run_firstCells_some w.drew sz n _ n _ cs h.1 (fun j u hj => by
        rw [Addr.add_lit]
        have hjl := (List.getElem?_eq_some_iff.1 hj).1
        refine blk_cell (w := w.drew) hg ?_
        rw [List.getElem?_append_right (by omega), List.getElem?_append_left (by omega)]
        rw [← hj]; congr 1; omega)
  have hr := run_append_grow_src w tS tS ty e i0 z k.u k.i k.zr bs n n cs hold (.slice (some a) m c) m news hsrc (by omega) (by omega) (by rw [k.b]; exact growslice_fits (by omega) (by omega))
  refine ⟨_, _, hr, ⟨hlen, hone, .inr ⟨w.heap.size, grownCap w (n + m) n e, [], (Builtin.zeroCells z.cells (grownCap w (n + m) n e - (n + m))).toList, rfl, ?_, grownCap_ge _ _ _ _, grownCap_le_maxLen _ _ _ _ (by unfold maxLen; omega), ?_⟩⟩, grown_alloc (grown_drew (grown_refl _ _)) _, rfl⟩
  · have := heap_alloc_new w.drew (.cells ((cs ++ news).toArray ++ Builtin.zeroCells z.cells (grownCap w (n + m) n e - (n + m))) e)
    have e2 : (cs ++ news).toArray ++ Builtin.zeroCells z.cells (grownCap w (n + m) n e - (n + m)) = ([] ++ (cs ++ news ++ (Builtin.zeroCells z.cells (grownCap w (n + m) n e - (n + m))).toList)).toArray := by apply Array.ext'; simp
    rw [e2] at this ⊢
    exact this
  · have hge := grownCap_ge w (n + m) n e
    rw [Array.length_toList, size_zeroCells, k.zs, ← Nat.add_mul]
    exact Nat.mul_le_mul_right _ (by omega)
end
structure Lst where
  v : Value
  n : Nat
  m : Int
def pI (m : Int) : It := ⟨7777, m, 7777⟩
def lit (l : Lst) : List It := List.replicate l.n (pI l.m)
theorem lit_len (l : Lst) : (lit l).length = l.n := by simp [lit]
def lfp (x1 x3 : Value) (L : List Lst) : List Nat := own x1 ++ own x3 ++ L.flatMap (fun l => own l.v)
theorem mem_lfp {b : Nat} {x1 x3 : Value} {L : List Lst} : b ∈ lfp x1 x3 L ↔ b ∈ own x1 ∨ b ∈ own x3 ∨ ∃ l ∈ L, b ∈ own l.v := by
  simp only [lfp, List.mem_append, List.mem_flatMap, or_assoc]
structure LsAt (w : World) (x1 x3 : Value) (L : List Lst) : Prop where
  r1 : Rw w 112 1 x1 L.length (L.map Lst.v)
  r3 : Rw w 53 1 x3 L.length (L.map fun l => .int .u32 l.m)
  each : ∀ l ∈ L, Rw w 123 3 l.v l.n (icells (lit l))
  few : ∀ l ∈ L, l.n ≤ 2000
theorem LsAt.chg {c : List Nat} {w w' : World} {x1 x3 : Value} {L : List Lst} (h : LsAt w x1 x3 L) (hc : Chg c w w') (hn : ∀ b ∈ lfp x1 x3 L, b ∉ c) : LsAt w' x1 x3 L :=
  ⟨h.r1.chg hc (fun b hb => hn b (mem_lfp.2 (.inl (mem_own.2 hb)))), h.r3.chg hc (fun b hb => hn b (mem_lfp.2 (.inr (.inl (mem_own.2 hb))))), fun l hl => (h.each l hl).chg hc (fun b hb => hn b (mem_lfp.2 (.inr (.inr ⟨l, hl, mem_own.2 hb⟩)))), h.few⟩
theorem LsAt.lt {w : World} {x1 x3 : Value} {L : List Lst} (h : LsAt w x1 x3 L) : ∀ b ∈ lfp x1 x3 L, b < w.heap.size := fun b hb => by
  rcases mem_lfp.1 hb with hb | hb | ⟨l, hl, hb⟩
  · exact h.r1.lt (mem_own.1 hb)
  · exact h.r3.lt (mem_own.1 hb)
  · exact (h.each l hl).lt (mem_own.1 hb)
theorem LsAt.nil (w : World) : LsAt w (.slice none 0 0) (.slice none 0 0) [] := ⟨⟨rfl, by simp, .inl ⟨rfl, rfl⟩⟩, ⟨rfl, by simp, .inl ⟨rfl, rfl⟩⟩, by simp, by simp⟩
theorem LsAt.add {w W : World} {x1 x3 X1 X3 : Value} {L M : List Lst} {c : List Nat} (h : LsAt w x1 x3 L) (hc : Chg c w W) (hf : ∀ l ∈ L, ∀ b ∈ own l.v, b ∉ c) (r1 : Rw W 112 1 X1 (L ++ M).length ((L ++ M).map Lst.v)) (r3 : Rw W 53 1 X3 (L ++ M).length ((L ++ M).map fun l => .int .u32 l.m)) (hM : ∀ l ∈ M, Rw W 123 3 l.v l.n (icells (lit l)) ∧ l.n ≤ 2000) : LsAt W X1 X3 (L ++ M) :=
  ⟨r1, r3, fun l hl => by
    rcases List.mem_append.1 hl with hl | hl
    · exact (h.each l hl).chg hc (fun b hb => hf l hl b (mem_own.2 hb))
    · exact (hM l hl).1, fun l hl => by
    rcases List.mem_append.1 hl with hl | hl
    · exact h.few l hl
    · exact (hM l hl).2⟩

set_option maxRecDepth 100000 in
set_option maxHeartbeats 4000000 in
theorem sameItems_any (v1 v2 : Value) (l : List It) (w : World) (h1 : Rw w 123 3 v1 l.length (icells l)) (h2 : Rw w 123 3 v2 l.length (icells l)) :
    Calls Tryz.prog 44 #[v1, v2] w fun e w' => e = .returned (.bool true) ∧ Chg [] w w' := by
  obtain ⟨la, lb, lof, cap, hv, hla, hlen, hlt, hcell⟩ := h1.laid
  obtain ⟨ma, mb, mof, mcap, hmv, hma, hmlen, hmt, hmcell⟩ := h2.laid
  subst hv hmv
  have HCE : Hid (∀ j u, (icells l)[j]? = some u → w.cell? ⟨lb, lof + j, none⟩ = some u ∧ w.cell? ⟨mb, mof + j, none⟩ = some u) := fun j u hj => ⟨hcell j u hj, hmcell j u hj⟩
  have HLA : Hid (0 < l.length → la = some ⟨lb, lof, none⟩ ∧ ma = some ⟨mb, mof, none⟩ ∧ lb < w.heap.size ∧ mb < w.heap.size) := fun h => ⟨(hla h).1, (hma h).1, hlt h, hmt h⟩
  clear h1 h2 hla hma hlt hmt hcell hmcell hmlen
  go_enter Tryz.func44, Tryz.ntmps44
  go_wp2_with fail
  go_loopw [5] (fun i wr => ∃ k : Nat, i = .int .i64 k ∧ k ≤ l.length ∧ Chg [] w wr) (fun i _ => l.length - (intOf i).toNat)
  case atStart => exact ⟨0, rfl, by omega, Chg.refl _ _⟩
  case round =>
    obtain ⟨k, rfl, hk, hc⟩ := hrel
    have HC : Hid (Chg [] w wr) := hc
    clear hc
    by_cases hlt : k < l.length
    · obtain ⟨rfl, rfl, hlb, hmb⟩ := HLA.out (by omega)
      have hsz := HC.out.size
      have hlb' : lb < wr.heap.size := by omega
      have hmb' : mb < wr.heap.size := by omega
      have hk2 : (k : Int) < (l.length : Int) := by omega
      obtain ⟨i0, i1, i2⟩ := ic_at l k hlt
      have a0 := HC.out.cell (HCE.out _ _ i0).1 (by simp)
      have a1 := HC.out.cell (HCE.out _ _ i1).1 (by simp)
      have a2 := HC.out.cell (HCE.out _ _ i2).1 (by simp)
      have b0 := HC.out.cell (HCE.out _ _ i0).2 (by simp)
      have b1 := HC.out.cell (HCE.out _ _ i1).2 (by simp)
      have b2 := HC.out.cell (HCE.out _ _ i2).2 (by simp)
      simp only [← Nat.add_assoc] at a0 a1 a2 b0 b1 b2
      clear i0 i1 i2 hlb hmb
      go_wp2_with fail
      go_quiet (fail)
      go_wp2_with fail
      go_roundw
      case rel => exact ⟨k + 1, by go_num, by omega, HC.out.drewN _⟩
      case measure => simp [intOf]; omega
    · have hk2 : ¬ (k : Int) < (l.length : Int) := by omega
      go_wp2
      go_ret
      exact ⟨rfl, HC.out⟩
set_option maxRecDepth 100000 in
set_option maxHeartbeats 4000000 in
theorem looks_any (wb : Nat) (mv x1 x3 x4 x5 : Value) (L : List Lst) (w : World) (hb : w.heap[wb]? = some (.cells [mv, x1, .slice none 0 0, x3, x4, x5].toArray 55 (0, 0))) (hL : LsAt w x1 x3 L) :
    Calls Tryz.prog 19 #[.pointer (some ⟨wb, 0, none⟩)] w fun e w' => e = .returned (.bool true) ∧ Chg [] w w' := by
  obtain ⟨la, lb, lof, cap, hv, hla, hlen, hlt, hcell⟩ := hL.r1.laid
  obtain ⟨ma, mb, mof, mcap, hmv, hma, hmlen, hmt, hmcell⟩ := hL.r3.laid
  subst hv hmv
  have HB : Hid (w.heap[wb]? = some (.cells [mv, .slice la L.length cap, .slice none 0 0, .slice ma L.length mcap, x4, x5].toArray 55 (0, 0))) := hb
  have HC1 : Hid (∀ (j : Nat) (hj : j < L.length), w.cell? ⟨lb, lof + j * 1, none⟩ = some L[j].v ∧ w.cell? ⟨mb, mof + j * 1, none⟩ = some (.int .u32 L[j].m)) := fun j hj => ⟨by rw [Nat.mul_one]; exact hcell j _ (by rw [List.getElem?_map, List.getElem?_eq_getElem hj]; rfl), by rw [Nat.mul_one]; exact hmcell j _ (by rw [List.getElem?_map, List.getElem?_eq_getElem hj]; rfl)⟩
  have HLA : Hid (0 < L.length → la = some ⟨lb, lof, none⟩ ∧ ma = some ⟨mb, mof, none⟩ ∧ lb < w.heap.size ∧ mb < w.heap.size) := fun h => ⟨(hla h).1, (hma h).1, hlt h, hmt h⟩
  have HEA : Hid (∀ l ∈ L, Rw w 123 3 l.v l.n (icells (lit l))) := hL.each
  have hwl := lt_of_block hb
  clear hb hL hla hma hlt hmt hcell hmcell hmlen
  go_enter Tryz.func19, Tryz.ntmps19
  go_wp2_with fail
  go_loopw [3] (fun i wr => ∃ k : Nat, i = .int .i64 k ∧ k ≤ L.length ∧ Chg [] w wr) (fun i _ => L.length - (intOf i).toNat)
  case atStart => exact ⟨0, rfl, by omega, Chg.refl _ _⟩
  case round =>
    obtain ⟨k, rfl, hk, hc⟩ := hrel
    have HC : Hid (Chg [] w wr) := hc
    have hblk := hc.blk HB.out (by simp)
    have c1 := blk_cell (i := 1) hblk rfl
    have c2 := blk_cell (i := 2) hblk rfl
    have hsz := hc.size
    have hwl' : wb < wr.heap.size := by omega
    clear hc hblk
    by_cases hlt : k < L.length
    · obtain ⟨rfl, rfl, hlb, hmb⟩ := HLA.out (by omega)
      have hlb' : lb < wr.heap.size := by omega
      have hk2 : (k : Int) < (L.length : Int) := by omega
      obtain ⟨l, hl⟩ : ∃ l, l = L[k] := ⟨_, rfl⟩
      have hrw := HEA.out L[k] (List.getElem_mem hlt)
      obtain ⟨e1, e2⟩ := HC1.out k hlt
      rw [← hl] at hrw e1 e2
      obtain ⟨na, nb, nof, ncap, hnv, hna, hnlen, hnt, hncell⟩ := hrw.laid
      rw [hnv] at e1
      have HN : Hid (∀ (j : Nat), j < l.n → w.cell? ⟨nb, nof + j * 3, none⟩ = some (.int .u16 7777) ∧ w.cell? ⟨nb, nof + j * 3 + 1, none⟩ = some (.int .u32 l.m) ∧ w.cell? ⟨nb, nof + j * 3 + 2, none⟩ = some (.int .u64 7777)) := fun j hj => by
        obtain ⟨i0, i1, i2⟩ := ic_at (lit l) j (by rw [lit_len]; exact hj)
        have ei : (lit l)[j]'(by rw [lit_len]; exact hj) = pI l.m := by simp [lit]
        rw [ei] at i0 i1 i2
        exact ⟨hncell _ _ i0, by rw [Nat.add_assoc]; exact hncell _ _ i1, by rw [Nat.add_assoc]; exact hncell _ _ i2⟩
      have HNA : Hid (0 < l.n → na = some ⟨nb, nof, none⟩ ∧ nb < w.heap.size) := fun h => ⟨(hna h).1, hnt h⟩
      have HE : Hid (w.cell? ⟨lb, lof + k * 1, none⟩ = some (.slice na l.n ncap) ∧ w.cell? ⟨mb, mof + k * 1, none⟩ = some (.int .u32 l.m)) := ⟨e1, e2⟩
      have e1' := HC.out.cell e1 (by simp)
      simp only [Nat.mul_one] at e1'
      clear hrw e1 e2 hl hnv hna hnt hncell c2
      go_wp2_with fail
      go_loopw [4] (fun i wx => ∃ j : Nat, i = .int .i64 j ∧ j ≤ l.n ∧ Chg [] w wx) (fun i _ => l.n - (intOf i).toNat)
      case atStart => exact ⟨0, rfl, by omega, HC.out⟩
      case round =>
        obtain ⟨j, rfl, hj, hc⟩ := hrel
        have HC : Hid (Chg [] w wr) := hc
        have hblk := hc.blk HB.out (by simp)
        have c1 := blk_cell (i := 1) hblk rfl
        have hsz := hc.size
        have hwl' : wb < wr.heap.size := by omega
        have hlb' : lb < wr.heap.size := by omega
        have e1' := hc.cell HE.out.1 (by simp)
        simp only [Nat.mul_one] at e1'
        clear hc hblk
        by_cases hjn : j < l.n
        · obtain ⟨rfl, hnb⟩ := HNA.out (by omega)
          have hnb' : nb < wr.heap.size := by omega
          have hj2 : (j : Int) < (l.n : Int) := by omega
          obtain ⟨i0, i1, i2⟩ := HN.out j hjn
          have n0 := HC.out.cell i0 (by simp)
          have n1 := HC.out.cell i1 (by simp)
          have n2 := HC.out.cell i2 (by simp)
          have hbp := heap_alloc_new wr (.cells [.int .u16 7777, .int .u32 l.m, .int .u64 7777].toArray 123)
          obtain ⟨wa, hwa⟩ : ∃ wa, wa = wr.alloc (.cells [.int .u16 7777, .int .u32 l.m, .int .u64 7777].toArray 123) := ⟨_, rfl⟩
          have cA : Chg [] wr wa := hwa ▸ (Chg.refl _ _).alloc _
          rw [← hwa] at hbp
          have hka : wr.alloc (.cells #[.int .u16 7777, .int .u32 l.m, .int .u64 7777] 123) = wa := hwa.symm
          have HCA : Hid (Chg [] w wa) := HC.out.trans cA (by simp)
          have q0 := blk_cell (i := 0) hbp rfl
          have q1 := blk_cell (i := 1) hbp rfl
          have q2 := blk_cell (i := 2) hbp rfl
          have hblk := HCA.out.blk HB.out (by simp)
          have c3 := blk_cell (i := 3) hblk rfl
          have e2' := HCA.out.cell HE.out.2 (by simp)
          simp only [Nat.mul_one] at e2'
          have hsa := HCA.out.size
          have hwl2 : wb < wa.heap.size := by omega
          have hmb2 : mb < wa.heap.size := by omega
          clear hwa hbp hblk cA i0 i1 i2
          go_wp2_with fail
          go_quiet (fail)
          go_wp2_with fail
          go_roundw
          case rel => exact ⟨j + 1, by go_num, by omega, HCA.out.drewN _⟩
          case measure => simp [intOf]; omega
        · have hj2 : ¬ (j : Int) < (l.n : Int) := by omega
          go_wp2_with fail
          go_roundw
          case rel => exact ⟨k + 1, by go_num, by omega, HC.out⟩
          case measure => simp [intOf]; omega
    · have hk2 : ¬ (k : Int) < (L.length : Int) := by omega
      go_wp2_with fail
      go_loopw [6] (fun i wx => i = .int .i64 0 ∧ wx = wr) (fun _ _ => 0)
      case atStart => exact ⟨rfl, rfl⟩
      case round =>
        obtain ⟨rfl, rfl⟩ := hrel
        go_wp2
        go_ret
        exact ⟨rfl, HC.out⟩
end Go.Proofs.YtbdnhllhdjepcaaGreat
namespace Go.Proofs.YtbdnhllhdjepcaaGreat
set_option linter.unusedVariables false
set_option linter.unusedSimpArgs false
open Go.RowKit Go.Maps

/-! ### a list is its caller's -/
theorem ic_set3 (l : List It) (i : Nat) (hi : i < l.length) (p : It) : (((icells l).set (i * 3) (.int .u16 p.t)).set (i * 3 + 1) (.int .u32 p.x)).set (i * 3 + 2) (.int .u64 p.d) = icells (l.set i p) := by
  unfold icells
  have s1 := fm_set icl_len (fun a => ⟨p.t, a.x, a.d⟩) 0 (.int .u16 p.t) (by decide) (fun _ => rfl) l i hi
  rw [Nat.add_zero] at s1
  rw [s1]
  have s2 := fm_set icl_len (fun a => ⟨a.t, p.x, a.d⟩) 1 (.int .u32 p.x) (by decide) (fun _ => rfl) (l.set i ⟨p.t, l[i].x, l[i].d⟩) i (by rw [List.length_set]; exact hi)
  simp only [List.getElem_set_self, List.set_set] at s2
  rw [s2]
  have s3 := fm_set icl_len (fun a => ⟨a.t, a.x, p.d⟩) 2 (.int .u64 p.d) (by decide) (fun _ => rfl) (l.set i ⟨p.t, p.x, l[i].d⟩) i (by rw [List.length_set]; exact hi)
  simp only [List.getElem_set_self, List.set_set] at s3
  exact s3
theorem Rw.set3 {w : World} {n cap b o i : Nat} {l : List It} (h : Rw w 123 3 (.slice (some ⟨b, o, none⟩) n cap) n (icells l)) (hi : i < l.length) (p : It) : Rw (((w.setCell ⟨b, o + i * 3, none⟩ (.int .u16 p.t)).setCell ⟨b, o + i * 3 + 1, none⟩ (.int .u32 p.x)).setCell ⟨b, o + i * 3 + 2, none⟩ (.int .u64 p.d)) 123 3 (.slice (some ⟨b, o, none⟩) n cap) n (icells (l.set i p)) := by
  have hl : (icells l).length = l.length * 3 := fm_len icl_len l
  have h1 := h.set (j := i * 3) (u := .int .u16 p.t) (by omega) rfl
  have h2 := h1.set (j := i * 3 + 1) (u := .int .u32 p.x) (by rw [List.length_set]; omega) rfl
  have h3 := h2.set (j := i * 3 + 2) (u := .int .u64 p.d) (by rw [List.length_set, List.length_set]; omega) rfl
  rw [ic_set3 l i hi p] at h3
  simp only [← Nat.add_assoc] at h3
  exact h3
theorem rep_step (l : List It) (i : Nat) (hi : i < l.length) (p : It) : (List.replicate i p ++ l.drop i).set i p = List.replicate (i + 1) p ++ l.drop (i + 1) := by
  rw [List.set_append_right _ _ (by simp), List.drop_eq_getElem_cons hi, List.length_replicate, Nat.sub_self, List.set_cons_zero, List.replicate_succ', List.append_assoc]
  rfl
/-- the lists are laid, and stored -/
structure Chn (w B : World) (wb : Nat) (mv X1 x1 x2 x3 x4 : Value) (m : Int) (v : Value) (L M : List Lst) : Prop where
  blk : B.heap[wb]? = some (.cells [mv, X1, x2, x3, x4, .int .u32 m].toArray 55 (0, 0))
  r1 : Rw B 112 1 X1 (L ++ M).length ((L ++ M).map Lst.v)
  chg : Chg ([wb] ++ own x1) w B
  each : ∀ l ∈ M, Rw B 123 3 l.v l.n (icells (lit l)) ∧ l.n ≤ 2000
  fp1 : ∀ b ∈ own X1, b ∈ own x1 ∨ w.heap.size ≤ b
  fpM : ∀ l ∈ M, ∀ b ∈ own l.v, b ∈ own v ∨ w.heap.size ≤ b
  marks : (M.map fun l => Value.int .u32 l.m) = [.int .u32 m, .int .u32 m, .int .u32 m, .int .u32 m]
  len : M.length = 4
set_option maxHeartbeats 2000000 in
theorem own_chain (w : World) (pb wb : Nat) (m : Int) (bs : Option Addr) (k : Nat) (mv x1 x2 x3 x4 : Value) (L : List Lst) (hp : w.heap[pb]? = some (.cells [.int .u16 7777, .int .u32 m, .int .u64 7777].toArray 123 (0, 0))) (hv : Rw w 123 3 (.slice bs k k) k (icells (List.replicate k (pI m)))) (hb : w.heap[wb]? = some (.cells [mv, x1, x2, x3, x4, .int .u32 m].toArray 55 (0, 0))) (h1 : Rw w 112 1 x1 L.length (L.map Lst.v)) (hk : k ≤ 1000) (hL : L.length ≤ 3000000000000) :
    ∃ a1 c1 B1 a2 c2 B2 a3 c3 B3 a4 c4 B4,
      (Builtin.append_ #[112, 112] 112 #[.slice bs k k, .slice (some ⟨w.heap.size, 0, none⟩) 1 1]).run Tryz.prog (w.alloc (.cells #[.int .u16 7777, .int .u32 m, .int .u64 7777] 123)) = .ok (.slice a1 (k + 1) c1) B1 ∧
      (Builtin.append_ #[112, 112] 112 #[.slice bs k k, .slice (some ⟨B1.heap.size, 0, none⟩) 2 2]).run Tryz.prog (B1.alloc (.cells #[.int .u16 7777, .int .u32 m, .int .u64 7777, .int .u16 7777, .int .u32 m, .int .u64 7777] 123)) = .ok (.slice a2 (k + 2) c2) B2 ∧
      (Builtin.append_ #[112, 112] 112 #[.slice bs k k, .slice (some ⟨B2.heap.size, 0, none⟩) 3 3]).run Tryz.prog (B2.alloc (.cells #[.int .u16 7777, .int .u32 m, .int .u64 7777, .int .u16 7777, .int .u32 m, .int .u64 7777, .int .u16 7777, .int .u32 m, .int .u64 7777] 123)) = .ok (.slice a3 (k + 3) c3) B3 ∧
      (Builtin.append_ #[49, 49] 49 #[x1, .slice (some ⟨B3.heap.size, 0, none⟩) 4 4]).run Tryz.prog (B3.alloc (.cells #[.slice bs k k, .slice a1 (k + 1) c1, .slice a2 (k + 2) c2, .slice a3 (k + 3) c3] 112)) = .ok (.slice a4 (L.length + 4) c4) B4 ∧
      Chg [] w B1 ∧ Chg [] w B2 ∧ Chg [] w B3 ∧ B4.heap[wb]? = some (.cells [mv, x1, x2, x3, x4, .int .u32 m].toArray 55 (0, 0)) ∧
      Chn w (B4.setCell ⟨wb, 1, none⟩ (.slice a4 (L.length + 4) c4)) wb mv (.slice a4 (L.length + 4) c4) x1 x2 x3 x4 m (.slice bs k k) L [⟨.slice bs k k, k, m⟩, ⟨.slice a1 (k + 1) c1, k + 1, m⟩, ⟨.slice a2 (k + 2) c2, k + 2, m⟩, ⟨.slice a3 (k + 3) c3, k + 3, m⟩] := by
  obtain ⟨i0, ek⟩ := ek75
  obtain ⟨j0, ekL⟩ := ek112
  have hn1 := heap_alloc_new w (.cells [.int .u16 7777, .int .u32 m, .int .u64 7777].toArray 123)
  have cA1 : Chg [] w (w.alloc (.cells #[.int .u16 7777, .int .u32 m, .int .u64 7777] 123)) := (Chg.refl _ _).alloc _
  obtain ⟨v1, B1, hr1, t1, g1, o1⟩ := run_appF ek (w.alloc (.cells #[.int .u16 7777, .int .u32 m, .int .u64 7777] 123)) 112 bs k (icells (List.replicate k (pI m))) ((hv.chg (Chg.refl [] w) (by simp)).chg cA1 (by simp)) ⟨w.heap.size, 0, none⟩ 1 1 [.int .u16 7777, .int .u32 m, .int .u64 7777] rfl (fun j x hj => by rw [Addr.add_mid, Nat.zero_add]; exact blk_cell hn1 hj) (fun u hu => by simp only [List.mem_cons, List.not_mem_nil, or_false] at hu; rcases hu with rfl | rfl | rfl <;> rfl) (by decide) (by omega)
  obtain ⟨a1, c1, hv1⟩ := t1.val
  subst hv1
  have cB1 : Chg [] w B1 := cA1.trans (Chg.ofGrown0 g1) (by simp)
  have cW1 : Chg [] w B1 := ((Chg.refl [] w)).trans cB1 (by simp)
  have e1 : icells (List.replicate k (pI m)) ++ [.int .u16 7777, .int .u32 m, .int .u64 7777] = icells (lit ⟨.slice a1 (k + 1) c1, k + 1, m⟩) := by
    simp only [lit, icells]
    rw [← List.replicate_append_replicate, List.flatMap_append]
    rfl
  rw [e1] at t1
  have hn2 := heap_alloc_new B1 (.cells [.int .u16 7777, .int .u32 m, .int .u64 7777, .int .u16 7777, .int .u32 m, .int .u64 7777].toArray 123)
  have cA2 : Chg [] B1 (B1.alloc (.cells #[.int .u16 7777, .int .u32 m, .int .u64 7777, .int .u16 7777, .int .u32 m, .int .u64 7777] 123)) := (Chg.refl _ _).alloc _
  obtain ⟨v2, B2, hr2, t2, g2, o2⟩ := run_appF ek (B1.alloc (.cells #[.int .u16 7777, .int .u32 m, .int .u64 7777, .int .u16 7777, .int .u32 m, .int .u64 7777] 123)) 112 bs k (icells (List.replicate k (pI m))) ((hv.chg cW1 (by simp)).chg cA2 (by simp)) ⟨B1.heap.size, 0, none⟩ 2 2 [.int .u16 7777, .int .u32 m, .int .u64 7777, .int .u16 7777, .int .u32 m, .int .u64 7777] rfl (fun j x hj => by rw [Addr.add_mid, Nat.zero_add]; exact blk_cell hn2 hj) (fun u hu => by simp only [List.mem_cons, List.not_mem_nil, or_false] at hu; rcases hu with rfl | rfl | rfl | rfl | rfl | rfl <;> rfl) (by decide) (by omega)
  obtain ⟨a2, c2, hv2⟩ := t2.val
  subst hv2
  have cB2 : Chg [] B1 B2 := cA2.trans (Chg.ofGrown0 g2) (by simp)
  have cW2 : Chg [] w B2 := (cW1).trans cB2 (by simp)
  have e2 : icells (List.replicate k (pI m)) ++ [.int .u16 7777, .int .u32 m, .int .u64 7777, .int .u16 7777, .int .u32 m, .int .u64 7777] = icells (lit ⟨.slice a2 (k + 2) c2, k + 2, m⟩) := by
    simp only [lit, icells]
    rw [← List.replicate_append_replicate, List.flatMap_append]
    rfl
  rw [e2] at t2
  have hn3 := heap_alloc_new B2 (.cells [.int .u16 7777, .int .u32 m, .int .u64 7777, .int .u16 7777, .int .u32 m, .int .u64 7777, .int .u16 7777, .int .u32 m, .int .u64 7777].toArray 123)
  have cA3 : Chg [] B2 (B2.alloc (.cells #[.int .u16 7777, .int .u32 m, .int .u64 7777, .int .u16 7777, .int .u32 m, .int .u64 7777, .int .u16 7777, .int .u32 m, .int .u64 7777] 123)) := (Chg.refl _ _).alloc _
  obtain ⟨v3, B3, hr3, t3, g3, o3⟩ := run_appF ek (B2.alloc (.cells #[.int .u16 7777, .int .u32 m, .int .u64 7777, .int .u16 7777, .int .u32 m, .int .u64 7777, .int .u16 7777, .int .u32 m, .int .u64 7777] 123)) 112 bs k (icells (List.replicate k (pI m))) ((hv.chg cW2 (by simp)).chg cA3 (by simp)) ⟨B2.heap.size, 0, none⟩ 3 3 [.int .u16 7777, .int .u32 m, .int .u64 7777, .int .u16 7777, .int .u32 m, .int .u64 7777, .int .u16 7777, .int .u32 m, .int .u64 7777] rfl (fun j x hj => by rw [Addr.add_mid, Nat.zero_add]; exact blk_cell hn3 hj) (fun u hu => by simp only [List.mem_cons, List.not_mem_nil, or_false] at hu; rcases hu with rfl | rfl | rfl | rfl | rfl | rfl | rfl | rfl | rfl <;> rfl) (by decide) (by omega)
  obtain ⟨a3, c3, hv3⟩ := t3.val
  subst hv3
  have cB3 : Chg [] B2 B3 := cA3.trans (Chg.ofGrown0 g3) (by simp)
  have cW3 : Chg [] w B3 := (cW2).trans cB3 (by simp)
  have e3 : icells (List.replicate k (pI m)) ++ [.int .u16 7777, .int .u32 m, .int .u64 7777, .int .u16 7777, .int .u32 m, .int .u64 7777, .int .u16 7777, .int .u32 m, .int .u64 7777] = icells (lit ⟨.slice a3 (k + 3) c3, k + 3, m⟩) := by
    simp only [lit, icells]
    rw [← List.replicate_append_replicate, List.flatMap_append]
    rfl
  rw [e3] at t3
  have hn4 := heap_alloc_new B3 (.cells [.slice bs k k, .slice a1 (k + 1) c1, .slice a2 (k + 2) c2, .slice a3 (k + 3) c3].toArray 112)
  have cA4 : Chg [] B3 (B3.alloc (.cells #[.slice bs k k, .slice a1 (k + 1) c1, .slice a2 (k + 2) c2, .slice a3 (k + 3) c3] 112)) := (Chg.refl _ _).alloc _
  have cW4 : Chg [] w (B3.alloc (.cells #[.slice bs k k, .slice a1 (k + 1) c1, .slice a2 (k + 2) c2, .slice a3 (k + 3) c3] 112)) := cW3.trans cA4 (by simp)
  obtain ⟨v4, B4, hr4, t4, g4, o4⟩ := run_app ekL (B3.alloc (.cells #[.slice bs k k, .slice a1 (k + 1) c1, .slice a2 (k + 2) c2, .slice a3 (k + 3) c3] 112)) 49 x1 L.length (L.map Lst.v) (h1.chg cW4 (by simp)) ⟨B3.heap.size, 0, none⟩ 4 4 [.slice bs k k, .slice a1 (k + 1) c1, .slice a2 (k + 2) c2, .slice a3 (k + 3) c3] rfl (fun j x hj => by rw [Addr.add_mid, Nat.zero_add]; exact blk_cell hn4 hj) (fun u hu => by simp only [List.mem_cons, List.not_mem_nil, or_false] at hu; rcases hu with rfl | rfl | rfl | rfl <;> rfl) (by decide) (by omega)
  obtain ⟨a4, c4, hv4⟩ := t4.val
  subst hv4
  have c4' : Chg (own x1) w B4 := (cW4.mono (by simp)).trans (Chg.of_grown g4 (fun b hb => mem_own.2 hb)) (fun j hj => Or.inl hj)
  have hb4 := c4'.blk hb (own_ty h1 hb (by decide))
  have cs : Chg [wb] B4 (B4.setCell ⟨wb, 1, none⟩ (.slice a4 (L.length + 4) c4)) := (Chg.refl _ _).set _ _ (Or.inl (by simp))
  have cE : Chg ([wb] ++ own x1) w (B4.setCell ⟨wb, 1, none⟩ (.slice a4 (L.length + 4) c4)) := (c4'.mono (by simp; exact fun a ha => Or.inr ha)).trans cs (by simp)
  have hw4 : Rw B4 112 1 (.slice a4 (L.length + 4) c4) (L ++ ([⟨.slice bs k k, k, m⟩, ⟨.slice a1 (k + 1) c1, k + 1, m⟩, ⟨.slice a2 (k + 2) c2, k + 2, m⟩, ⟨.slice a3 (k + 3) c3, k + 3, m⟩] : List Lst)).length ((L ++ ([⟨.slice bs k k, k, m⟩, ⟨.slice a1 (k + 1) c1, k + 1, m⟩, ⟨.slice a2 (k + 2) c2, k + 2, m⟩, ⟨.slice a3 (k + 3) c3, k + 3, m⟩] : List Lst)).map Lst.v) := by
    rw [List.map_append, List.length_append]
    exact t4
  have far : ∀ {W : World} {u : Value} {n : Nat} {cs : List Value}, Rw W 123 3 u n cs → Chg [] W (B3.alloc (.cells #[.slice bs k k, .slice a1 (k + 1) c1, .slice a2 (k + 2) c2, .slice a3 (k + 3) c3] 112)) → Rw (B4.setCell ⟨wb, 1, none⟩ (.slice a4 (L.length + 4) c4)) 123 3 u n cs := fun {W u n xs} hr hc => by
    have r2 := hr.chg hc (by simp)
    have r3 := r2.chg (Chg.of_grown g4 (fun b hb => mem_own.2 hb) : Chg (own x1) _ _) (fun b hb => own_own r2 (h1.chg cW4 (by simp)) (by decide) b (mem_own.2 hb))
    exact r3.chg cs (fun b hbo => by simp only [List.mem_cons, List.not_mem_nil, or_false]; rintro rfl; exact own_ty r3 hb4 (by decide) (mem_own.2 hbo))
  have s1 := cW1.size
  have s2 := cW2.size
  refine ⟨a1, c1, B1, a2, c2, B2, a3, c3, B3, a4, c4, B4, hr1, hr2, hr3, hr4, cW1, cW2, cW3, hb4, ⟨blk_set (i := 1) (.slice a4 (L.length + 4) c4) hb4, hw4.chg cs (fun b hbo => by simp only [List.mem_cons, List.not_mem_nil, or_false]; rintro rfl; exact own_ty hw4 hb4 (by decide) (mem_own.2 hbo)), cE, fun l hl => ?_, fun b hb => ?_, fun l hl b hb => ?_, rfl, rfl⟩⟩
  · simp only [List.mem_cons, List.not_mem_nil, or_false] at hl
    rcases hl with rfl | rfl | rfl | rfl
    · exact ⟨far hv cW4, by dsimp only; omega⟩
    · exact ⟨far t1 ((cB2.trans cB3 (by simp)).trans cA4 (by simp)), by dsimp only; omega⟩
    · exact ⟨far t2 (cB3.trans cA4 (by simp)), by dsimp only; omega⟩
    · exact ⟨far t3 cA4, by dsimp only; omega⟩
  · rcases o4 with e | e
    · rw [own_eq e] at hb; exact Or.inl hb
    · rw [mem_own, e] at hb; cases hb; exact Or.inr cW4.size
  · simp only [List.mem_cons, List.not_mem_nil, or_false] at hl
    rcases hl with rfl | rfl | rfl | rfl
    · exact Or.inl hb
    · rw [mem_own, o1] at hb; cases hb; exact Or.inr (by simp)
    · rw [mem_own, o2] at hb; cases hb; exact Or.inr (by simp; omega)
    · rw [mem_own, o3] at hb; cases hb; exact Or.inr (by simp; omega)
/-- a list that came out is its caller's -/
structure OwnP (w w' : World) (wb : Nat) (mv x1 x2 x3 x4 : Value) (m : Int) (v : Value) (L : List Lst) (X1 X3 : Value) (L' : List Lst) : Prop where
  blk : w'.heap[wb]? = some (.cells [mv, X1, x2, X3, x4, .int .u32 m].toArray 55 (0, 0))
  ls : LsAt w' X1 X3 L'
  len : L'.length = L.length + 4
  chg : Chg ([wb] ++ own v ++ own x1 ++ own x3) w w'
  fp : ∀ b ∈ lfp X1 X3 L', b ∈ lfp x1 x3 L ∨ b ∈ own v ∨ w.heap.size ≤ b
def OwnE (w w' : World) (wb : Nat) (mv x1 x2 x3 x4 : Value) (m : Int) (v : Value) (L : List Lst) (e : Ending) : Prop := e = .returned (.tuple #[]) ∧ ∃ X1 X3 L', OwnP w w' wb mv x1 x2 x3 x4 m v L X1 X3 L'
theorem Chn.done {w0 w B : World} {wb : Nat} {mv X1 x1 x2 x3 x4 : Value} {m : Int} {v : Value} {L M : List Lst} (h : Chn w B wb mv X1 x1 x2 x3 x4 m v L M) (hls : LsAt w0 x1 x3 L) (h0 : Chg ([wb] ++ own v) w0 w) (hwv : ∀ b ∈ own v, b ∉ lfp x1 x3 L) (hwb : wb ∉ lfp x1 x3 L) (hL : L.length ≤ 3000000000000) (W : World) (hW : Chg [] B W) :
    ∃ a5 c5 B6, (Builtin.append_ #[51, 51] 51 #[x3, .slice (some ⟨W.heap.size, 0, none⟩) 4 4]).run Tryz.prog (W.alloc (.cells #[.int .u32 m, .int .u32 m, .int .u32 m, .int .u32 m] 53)) = .ok (.slice a5 (L.length + 4) c5) B6 ∧ B6.heap[wb]? = some (.cells [mv, X1, x2, x3, x4, .int .u32 m].toArray 55 (0, 0)) ∧
      ∀ W', Chg [] (B6.setCell ⟨wb, 3, none⟩ (.slice a5 (L.length + 4) c5)) W' → OwnP w0 W' wb mv x1 x2 x3 x4 m v L X1 (.slice a5 (L.length + 4) c5) (L ++ M) := by
  obtain ⟨i0, ek⟩ := ek53
  have hn := heap_alloc_new W (.cells [.int .u32 m, .int .u32 m, .int .u32 m, .int .u32 m].toArray 53)
  have cA : Chg [] B (W.alloc (.cells #[.int .u32 m, .int .u32 m, .int .u32 m, .int .u32 m] 53)) := hW.alloc _
  have cB : Chg ([wb] ++ own x1) w (W.alloc (.cells #[.int .u32 m, .int .u32 m, .int .u32 m, .int .u32 m] 53)) := h.chg.trans cA (by simp)
  have c0B : Chg ([wb] ++ own v ++ own x1) w0 (W.alloc (.cells #[.int .u32 m, .int .u32 m, .int .u32 m, .int .u32 m] 53)) := (h0.mono (by simp; exact fun a ha => Or.inr (Or.inl ha))).trans cB (fun j hj => Or.inl (by simp only [List.mem_append] at hj ⊢; rcases hj with hj | hj; exact Or.inl (Or.inl hj); exact Or.inr hj))
  have hx3 : ∀ b ∈ own x3, b ∉ [wb] ++ own v ++ own x1 := fun b hb hb' => by
    simp only [List.mem_append, List.mem_cons, List.not_mem_nil, or_false] at hb'
    rcases hb' with (rfl | hb') | hb'
    · exact hwb (mem_lfp.2 (.inr (.inl hb)))
    · exact hwv b hb' (mem_lfp.2 (.inr (.inl hb)))
    · exact own_own hls.r3 hls.r1 (by decide) b hb hb'
  have r3 := hls.r3.chg c0B (fun b hb => hx3 b (mem_own.2 hb))
  obtain ⟨v5, B6, hr, t, g, o⟩ := run_app ek (W.alloc (.cells #[.int .u32 m, .int .u32 m, .int .u32 m, .int .u32 m] 53)) 51 x3 L.length (L.map fun l => .int .u32 l.m) r3 ⟨W.heap.size, 0, none⟩ 4 4 [.int .u32 m, .int .u32 m, .int .u32 m, .int .u32 m] rfl (fun j x hj => by rw [Addr.add_mid, Nat.zero_add]; exact blk_cell hn hj) (fun u hu => by simp only [List.mem_cons, List.not_mem_nil, or_false] at hu; rcases hu with rfl | rfl | rfl | rfl <;> rfl) (by decide) (by omega)
  obtain ⟨a5, c5, hv5⟩ := t.val
  subst hv5
  have hbA := cA.blk h.blk (by simp)
  have cG : Chg (own x3) (W.alloc (.cells #[.int .u32 m, .int .u32 m, .int .u32 m, .int .u32 m] 53)) B6 := Chg.of_grown g (fun b hb => mem_own.2 hb)
  have hb6 := cG.blk hbA (own_ty r3 hbA (by decide))
  refine ⟨a5, c5, B6, hr, hb6, fun W' hW' => ?_⟩
  have cs : Chg [wb] B6 (B6.setCell ⟨wb, 3, none⟩ (.slice a5 (L.length + 4) c5)) := (Chg.refl _ _).set _ _ (Or.inl (by simp))
  have cE : Chg ([wb] ++ own x3) (W.alloc (.cells #[.int .u32 m, .int .u32 m, .int .u32 m, .int .u32 m] 53)) W' := ((cG.mono (by simp; exact fun a ha => Or.inr ha)).trans cs (by simp)).trans hW' (by simp)
  have c0E : Chg ([wb] ++ own v ++ own x1 ++ own x3) w0 W' := (c0B.mono (fun b hb => List.mem_append_left _ hb)).trans cE (fun j hj => Or.inl (by simp only [List.mem_append] at hj ⊢; rcases hj with hj | hj; exact Or.inl (Or.inl (Or.inl hj)); exact Or.inr hj))
  have keep : ∀ {u : Value} {e : TypeId} {sz n : Nat} {cs : List Value}, Rw B e sz u n cs → e ≠ 53 → e ≠ 55 → Rw W' e sz u n cs := fun {u e sz n cs} hr h1 h2 => by
    have r2 := hr.chg cA (by simp)
    exact r2.chg cE (fun b hb => by
      simp only [List.mem_append, List.mem_cons, List.not_mem_nil, or_false, not_or]
      exact ⟨fun e' => by subst e'; exact own_ty r2 hbA (Ne.symm h2) (mem_own.2 hb), own_own r2 r3 h1 b (mem_own.2 hb)⟩)
  have t' : Rw W' 53 1 (.slice a5 (L.length + 4) c5) (L ++ M).length ((L ++ M).map fun l => .int .u32 l.m) := by
    rw [List.length_append, h.len, List.map_append, h.marks]
    exact (t.chg cs (fun b hb => by simp only [List.mem_cons, List.not_mem_nil, or_false]; rintro rfl; exact own_ty t hb6 (by decide) (mem_own.2 hb))).chg hW' (by simp)
  refine ⟨hW'.blk (blk_set (i := 3) (.slice a5 (L.length + 4) c5) hb6) (by simp), hls.add c0E (fun l hl b hb hb' => ?_) (keep h.r1 (by decide) (by decide)) t' (fun l hl => ⟨keep (h.each l hl).1 (by decide) (by decide), (h.each l hl).2⟩), by rw [List.length_append, h.len], c0E, fun b hb => ?_⟩
  · simp only [List.mem_append, List.mem_cons, List.not_mem_nil, or_false] at hb'
    rcases hb' with ((rfl | hb') | hb') | hb'
    · exact hwb (mem_lfp.2 (.inr (.inr ⟨l, hl, hb⟩)))
    · exact hwv b hb' (mem_lfp.2 (.inr (.inr ⟨l, hl, hb⟩)))
    · exact own_own (hls.each l hl) hls.r1 (by decide) b hb hb'
    · exact own_own (hls.each l hl) hls.r3 (by decide) b hb hb'
  · have s0 := h0.size
    have s1 := c0B.size
    rcases mem_lfp.1 hb with hb | hb | ⟨l, hl, hb⟩
    · rcases h.fp1 b hb with hb | hb
      · exact Or.inl (mem_lfp.2 (.inl hb))
      · exact Or.inr (Or.inr (by omega))
    · rcases o with e | e
      · rw [own_eq e] at hb; exact Or.inl (mem_lfp.2 (.inr (.inl hb)))
      · rw [mem_own, e] at hb; cases hb; exact Or.inr (Or.inr s1)
    · rcases List.mem_append.1 hl with hl | hl
      · exact Or.inl (mem_lfp.2 (.inr (.inr ⟨l, hl, hb⟩)))
      · rcases h.fpM l hl b hb with hb | hb
        · exact Or.inr (Or.inl hb)
        · exact Or.inr (Or.inr (by omega))
end Go.Proofs.YtbdnhllhdjepcaaGreat
