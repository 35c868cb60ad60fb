import Derived.Test.YtbdnhllhdjepcaaRoom
namespace Go.Proofs.Ytbdnhllhdjepcaa
set_option linter.unusedVariables false
set_option linter.unusedSimpArgs false
open Go.RowKit Go.Maps

def lu (x : Int) : DW := .lit (.int .u64 x)
/-- the map behind the first k marks that are written -/
def putTo (D : DW) (t u r a b c : Int) : Nat → DW
  | 0 => D
  | 1 => D.put (kl 0 t 0 0) (lu a)
  | 2 => (D.put (kl 0 t 0 0) (lu a)).put (kl 1 t u 0) (lu b)
  | _ => ((D.put (kl 0 t 0 0) (lu a)).put (kl 1 t u 0) (lu b)).put (kl 2 t u r) (lu c)

theorem store_pl {w : World} {db n : Nat} {D : DW} {L t u r x : Int} {l : Lit} (hown : w.ownsMap Try.prog 140 (plainElem Try.prog 40) db n D) (hn : n ≤ 1000000) (hkey : keyOf Try.prog 140 (.agg #[.int .i64 L, .int .u16 t, .int .u16 u, .int .u16 r]) = some l) (hx : (Lit.int .u64 x).wf = true) :
    ∃ w', (Instr.mapUpdate 135 (.map (some db)) (.agg #[.int .i64 L, .int .u16 t, .int .u16 u, .int .u16 r]) (.int .u64 x)).run Try.prog (w.alloc (.cells #[.int .i64 L, .int .u16 t, .int .u16 u, .int .u16 r] 140)).drew = .ok () w' ∧
      w'.ownsMap Try.prog 140 (plainElem Try.prog 40) db (n + 1) (D.put l (lu x)) ∧ Chg [db] w w' := by
  obtain ⟨w', h1, h2, h3⟩ := (hown.alloc (.cells #[.int .i64 L, .int .u16 t, .int .u16 u, .int .u16 r] 140)).drew.store law140 Try.underlying135 (by unfold maxLen; omega) hkey (plainElem_int Try.underlying40 hx)
  exact ⟨w', h1, h2, (((Chg.refl _ _).alloc _).drew).trans (Chg.ofGrown h3.grown) (by simp)⟩

set_option maxRecDepth 100000 in
set_option maxHeartbeats 1000000 in
theorem keep_any (sb db n : Nat) (t u r a b c : Int) (D : DW) (w : World) (c4 : w.cell? ⟨sb, 4, none⟩ = some (.map (some db)))
    (hown : w.ownsMap Try.prog 140 (plainElem Try.prog 40) db n D) (hn : n ≤ 999990) (ht : (Lit.int .u16 t).wf = true) (hu : (Lit.int .u16 u).wf = true) (hr : (Lit.int .u16 r).wf = true) (ha : (Lit.int .u64 a).wf = true) (hb : (Lit.int .u64 b).wf = true) (hc : (Lit.int .u64 c).wf = true) :
    Calls Try.prog 66 #[.pointer (some ⟨sb, 0, none⟩), .agg (plv t u r), .agg #[.int .u64 a, .int .u64 b, .int .u64 c]] w fun e w' => e = .returned (.tuple #[]) ∧
      w'.ownsMap Try.prog 140 (plainElem Try.prog 40) db (n + 3) (putTo D t u r a b c 3) ∧ Chg [db] w w' := by
  have hsl := World.block_lt_of_cell? w _ c4
  have hdl := hown.lt
  have hsd : sb ≠ db := fun e => by obtain ⟨_, _, hb, _⟩ := hown; subst e; simp [World.cell?, hb] at c4
  go_enter Try.func66, Try.ntmps66
  go_wp2_with fail
  go_loopw [9] (fun i wr => ∃ k : Nat, k ≤ 3 ∧ i = .int .i64 k ∧ wr.ownsMap Try.prog 140 (plainElem Try.prog 40) db (n + k) (putTo D t u r a b c k) ∧ Chg [db] w wr ∧ wr.heap[w.heap.size + 1]? = some (.cells [.int .u64 a, .int .u64 b, .int .u64 c].toArray 144 (0, 0))) (fun i _ => 3 - (intOf i).toNat)
  case atStart => exact ⟨0, by omega, rfl, (hown.alloc _).alloc _, ((Chg.refl _ _).alloc _).alloc _, heap_alloc2_new _ _ _⟩
  case round =>
    obtain ⟨k, hk, rfl, hownr, hch, hblk⟩ := hrel
    have c4r : wr.cell? ⟨sb, 4, none⟩ = some (.map (some db)) := (World.cell?_of_block (a := ⟨sb, 4, none⟩) (hch.block sb hsl (by simpa using hsd))).trans c4
    have ca : ∀ o, (wr.alloc o).cell? ⟨sb, 4, none⟩ = some (.map (some db)) := fun o => (World.cell?_alloc_past _ _ _ (World.block_lt_of_cell? _ _ c4r)).trans c4r
    have cb : ∀ o i v, [Value.int .u64 a, .int .u64 b, .int .u64 c][i]? = some v → (wr.alloc o).cell? ⟨w.heap.size + 1, i, none⟩ = some v := fun o i v hv => blk_cell (blk_alloc hblk o) hv
    have cb0 := fun o => cb o 0 _ rfl
    have cb1 := fun o => cb o 1 _ rfl
    have cb2 := fun o => cb o 2 _ rfl
    clear cb
    by_cases hlt : k < 3
    · rcases (show k = 0 ∨ k = 1 ∨ k = 2 from by omega) with rfl | rfl | rfl
      · have hix := index0 t u r
        obtain ⟨w2, hrun, hown2, hch2⟩ := store_pl hownr (by omega) (keyOf_kl (by decide) ht (by decide) (by decide) : keyOf Try.prog 140 (.agg #[.int .i64 0, .int .u16 t, .int .u16 0, .int .u16 0]) = some (kl 0 t 0 0)) ha
        have hb2 := hch2.blk hblk (by simp; omega)
        go_wp2_with fail
        go_region
        go_wp2
        go_roundw
        case rel => exact ⟨1, by omega, by go_num, hown2, hch.trans hch2 (by simp), hb2⟩
        case measure => simp [intOf]
      · have hix := index1 t u r
        obtain ⟨w2, hrun, hown2, hch2⟩ := store_pl hownr (by omega) (keyOf_kl (by decide) ht hu (by decide) : keyOf Try.prog 140 (.agg #[.int .i64 1, .int .u16 t, .int .u16 u, .int .u16 0]) = some (kl 1 t u 0)) hb
        have hb2 := hch2.blk hblk (by simp; omega)
        go_wp2_with fail
        go_region
        go_wp2
        go_roundw
        case rel => exact ⟨2, by omega, by go_num, hown2, hch.trans hch2 (by simp), hb2⟩
        case measure => simp [intOf]
      · have hix := index2 t u r
        obtain ⟨w2, hrun, hown2, hch2⟩ := store_pl hownr (by omega) (keyOf_kl (by decide) ht hu hr : keyOf Try.prog 140 (.agg #[.int .i64 2, .int .u16 t, .int .u16 u, .int .u16 r]) = some (kl 2 t u r)) hc
        have hb2 := hch2.blk hblk (by simp; omega)
        go_wp2_with fail
        go_region
        go_wp2
        go_roundw
        case rel => exact ⟨3, by omega, by go_num, hown2, hch.trans hch2 (by simp), hb2⟩
        case measure => simp [intOf]
    · obtain rfl : k = 3 := by omega
      go_wp2
      go_end0
      exact ⟨rfl, hownr, hch⟩
end Go.Proofs.Ytbdnhllhdjepcaa
