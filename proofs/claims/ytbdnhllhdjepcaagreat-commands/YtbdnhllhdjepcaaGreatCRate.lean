import Derived.Test.YtbdnhllhdjepcaaGreatCKeys
import Derived.Maps.OwnSet
namespace Go.Proofs.YtbdnhllhdjepcaaGreat
set_option linter.unusedVariables false
set_option linter.unusedSimpArgs false
open Go.RowKit Go.Maps

abbrev DW := DataW Unit
/-- the number of a datum -/
def num : DW → Int
  | .lit (.int _ a) => a
  | _ => 0
/-- of a map's entries those whose mark is above the time -/
def fgt (now : Int) : DW → DW
  | .map es => .map (es.filter fun p => decide (now < num p.2))
  | d => d
/-- what is left while the loop goes: those above the time, and those still to come -/
def Fs (now : Int) (es : List (Lit × DW)) (left : Lit → Bool) : DW := .map (es.filter fun p => decide (now < num p.2) || left p.1)

theorem Fs_start (now : Int) {es : List (Lit × DW)} (hk : ∀ p ∈ es, WideAt.IsKeyLit p.1) : Fs now es (Maps.has (.map es)) = .map es := by
  unfold Fs
  congr 1
  rw [List.filter_eq_self]
  intro p hp
  have : Maps.has (.map es) p.1 = true := by
    rw [Maps.has_eq, List.any_eq_true]
    exact ⟨p, hp, WideAt.sameKey_self (hk p hp)⟩
  simp [this]
theorem Fs_end (now : Int) {es : List (Lit × DW)} {left : Lit → Bool} (hl : ∀ k, left k = false) : Fs now es left = fgt now (.map es) := by
  simp [Fs, fgt, hl]
theorem at_mem {es : List (Lit × DW)} (hap : es.Pairwise (fun p q => p.1 ≠ q.1)) {p : Lit × DW} (hp : p ∈ es) (hk : WideAt.IsKeyLit p.1) (z : DW) : (DataW.map es).atKey p.1 z = p.2 := by
  induction es with
  | nil => cases hp
  | cons q r ih =>
    obtain ⟨h1, h2⟩ := List.pairwise_cons.1 hap
    simp only [DataW.atKey, List.find?_cons]
    rcases List.mem_cons.1 hp with rfl | hp'
    · simp [WideAt.sameKey_self hk]
    · have : q.1.sameKey p.1 = false := sameKey_ne (h1 p hp')
      rw [this]
      exact ih h2 hp'
theorem Fs_val (now : Int) {es : List (Lit × DW)} {left : Lit → Bool} {k : Lit} {c : Int} (hap : es.Pairwise (fun p q => p.1 ≠ q.1)) (hk : ∀ p ∈ es, WideAt.IsKeyLit p.1) (hl : left k = true)
    (hat : ∀ z, (Fs now es left).atKey k z = .lit (.int .u64 c)) {p : Lit × DW} (hp : p ∈ es) (hpk : p.1 = k) : num p.2 = c := by
  have hm : p ∈ es.filter (fun p => decide (now < num p.2) || left p.1) := List.mem_filter.2 ⟨hp, by simp [hpk, hl]⟩
  have := at_mem (hap.filter _) hm (hk p hp) .nil
  have h2 := hat .nil
  unfold Fs at h2
  rw [hpk, h2] at this
  rw [← this]
  rfl
theorem Fs_struck (now : Int) {es : List (Lit × DW)} {left : Lit → Bool} {k : Lit} {c : Int} (hap : es.Pairwise (fun p q => p.1 ≠ q.1)) (hk : ∀ p ∈ es, WideAt.IsKeyLit p.1) (hl : left k = true) (hc : c ≤ now)
    (hat : ∀ z, (Fs now es left).atKey k z = .lit (.int .u64 c)) : (Fs now es left).del k = Fs now es (fun z => left z && !z.sameKey k) := by
  unfold Fs
  simp only [DataW.del, List.filter_filter]
  congr 1
  refine List.filter_congr fun p hp => ?_
  cases hs : p.1.sameKey k
  · simp
  · have := Fs_val now hap hk hl hat hp (WideAt.sameKey_eq hs)
    simp [this, Int.not_lt.2 hc]
theorem Fs_stays (now : Int) {es : List (Lit × DW)} {left : Lit → Bool} {k : Lit} {c : Int} (hap : es.Pairwise (fun p q => p.1 ≠ q.1)) (hk : ∀ p ∈ es, WideAt.IsKeyLit p.1) (hl : left k = true) (hc : now < c)
    (hat : ∀ z, (Fs now es left).atKey k z = .lit (.int .u64 c)) : Fs now es left = Fs now es (fun z => left z && !z.sameKey k) := by
  unfold Fs
  congr 1
  refine List.filter_congr fun p hp => ?_
  cases hs : p.1.sameKey k
  · simp [hs]
  · have := Fs_val now hap hk hl hat hp (WideAt.sameKey_eq hs)
    simp [this, hc]

section
variable {P : Program} (w : World) {ops : Array Oper} {rest : List Oper} {o : Oper} {a : Act} {Q : Exit → Act → World → Prop}
/-- the loop's step over a map from places to marks, the shapes written out -/
theorem wpList_next_pl (hg : o.guard = none) (it : Operand) (hop : o.op = Op.next it false)
    (b r n : Nat) (D : DW) (left : Lit → Bool) (cnt : Nat) (hit : a.eval it = .pointer (some ⟨r, 0, none⟩)) (h : w.ranges Tryz.prog 196 (plainElem Tryz.prog 44) b r n D left cnt)
    (hDone : cnt = 0 → (∀ kl, left kl = false) → wpList Tryz.prog ops Q rest (a.put o.dst (.tuple #[.bool false])) w)
    (hMore : ∀ (L t u s c : Int) (w' : World) (cnt' : Nat), (Lit.int .i64 L).wf = true → (Lit.int .u16 t).wf = true → (Lit.int .u16 u).wf = true → (Lit.int .u16 s).wf = true → (Lit.int .u64 c).wf = true → left (kl L t u s) = true → (∀ zd, D.atKey (kl L t u s) zd = .lit (.int .u64 c)) →
      w'.ranges Tryz.prog 196 (plainElem Tryz.prog 44) b r n D (fun z => left z && !z.sameKey (kl L t u s)) cnt' → cnt' < cnt →
      w.grownBy w' (some r) → w'.heap.size = w.heap.size → (Instr.entry (.pointer (some ⟨r, 0, none⟩))).run Tryz.prog w' = .ok (.tuple #[.agg #[.int .i64 L, .int .u16 t, .int .u16 u, .int .u16 s], .int .u64 c]) w' →
      wpList Tryz.prog ops Q rest (a.put o.dst (.tuple #[.bool true, .agg #[.int .i64 L, .int .u16 t, .int .u16 u, .int .u16 s], .int .u64 c])) w') :
    wpList Tryz.prog ops Q (o :: rest) a w :=
  wpList_next_ranges (α := Int × Int × Int × Int) (β := Int) w hg it hop 196 law140 (plainElem Tryz.prog 44) (fun x => .agg #[.int .i64 x.1, .int .u16 x.2.1, .int .u16 x.2.2.1, .int .u16 x.2.2.2]) (fun c => .int .u64 c)
    (fun key l hkey => by obtain ⟨L, t, u, s, h1, _⟩ := keyOf_inv hkey; exact ⟨(L, t, u, s), h1⟩) (fun v y hv => by obtain ⟨c, rfl, _⟩ := plainElem_int_inv Tryz.underlying44 hv; exact ⟨c, rfl⟩)
    b r n D left cnt hit h hDone (fun x c l y w' cnt' hkey hlk hv hat hrg hlt hgr hsz hen => by
      obtain ⟨L, t, u, s, h1, h2, wL, wt, wu, ws⟩ := keyOf_inv hkey
      simp at h1
      obtain ⟨h11, h12, h13, h14⟩ := h1
      obtain ⟨c', ec, rfl, hwc⟩ := plainElem_int_inv Tryz.underlying44 hv
      cases ec
      obtain ⟨x1, x2, x3, x4⟩ := x
      simp only at h11 h12 h13 h14
      subst h11 h12 h13 h14
      subst h2
      exact hMore _ _ _ _ c w' cnt' wL wt wu ws hwc hlk hat hrg hlt hgr hsz hen)
end

set_option maxRecDepth 100000 in
set_option maxHeartbeats 1000000 in
theorem forget_any (sb db n : Nat) (now : Int) (es : List (Lit × DW)) (w : World) (c4 : w.cell? ⟨sb, 4, none⟩ = some (.map (some db))) (hown : w.ownsMap Tryz.prog 196 (plainElem Tryz.prog 44) db n (.map es)) :
    Calls Tryz.prog 99 #[.pointer (some ⟨sb, 0, none⟩), .int .u64 now] w fun e w' => e = .returned (.tuple #[]) ∧ w'.ownsMap Tryz.prog 196 (plainElem Tryz.prog 44) db n (fgt now (.map es)) ∧ Chg [db] w w' := by
  obtain ⟨es', he', hap, hkeys⟩ := hown.entries law140
  cases he'
  have hsd : sb ≠ db := fun e => by obtain ⟨_, _, hb, _⟩ := hown; subst e; simp [World.cell?, hb] at c4
  have hsl := World.block_lt_of_cell? w _ c4
  go_enter Tryz.func99, Tryz.ntmps99
  go_wp2_with (first
    | (at_range; refine wpList_range_own _ rfl _ 191 rfl 196 44 law140 Tryz.underlying191 _ db n _ rfl hown ?_; intro w0 hrg0 hg0 hs0))
  go_loopw [11] (fun _ wr => ∃ (left : Lit → Bool) (cnt : Nat), wr.ranges Tryz.prog 196 (plainElem Tryz.prog 44) db w.heap.size n (Fs now es left) left cnt ∧ Chg [db] w wr)
    (fun _ wr => wr.rangeLeft db w.heap.size)
  case atStart => exact ⟨_, _, by rw [Fs_start now hkeys]; exact hrg0, (Chg.ofGrown0 hg0).mono (by simp)⟩
  case round =>
    obtain ⟨left, cnt, hrg, hch⟩ := hrel
    have c4r : wr.cell? ⟨sb, 4, none⟩ = some (.map (some db)) := (World.cell?_of_block (a := ⟨sb, 4, none⟩) (hch.block sb hsl (by simpa using hsd))).trans c4
    go_wp2_with (first
      | (at_next; refine wpList_next_pl _ rfl _ rfl db w.heap.size n _ _ _ rfl hrg ?_ ?_))
    · intro _ hl0
      go_wp2
      go_end0
      exact ⟨rfl, by rw [← Fs_end now hl0]; exact hrg.owns, hch⟩
    · intro L t u s c w1 cnt1 wL wt wu ws wc hlx hat hrg1 hlt hg1 hs1 hen
      have c41 : w1.cell? ⟨sb, 4, none⟩ = some (.map (some db)) := (World.cell?_of_block (a := ⟨sb, 4, none⟩) (hg1.block sb (Nat.lt_of_lt_of_le hsl hch.size) (by simp; omega))).trans c4r
      have hch1 : Chg [db] w w1 := hch.trans (Chg.ofGrown hg1) (by simp)
      by_cases hcn : c ≤ now
      · have hrgW : ((w1.alloc (.cells #[.int .i64 L, .int .u16 t, .int .u16 u, .int .u16 s] 196)).drew).ranges Tryz.prog 196 (plainElem Tryz.prog 44) db w.heap.size n (Fs now es left) (fun z => left z && !z.sameKey (kl L t u s)) cnt1 := hrg1.alloc _
        obtain ⟨w2, cnt2, hrun, hrg2, hle, hturn⟩ := hrgW.drop law140 Tryz.underlying191 (keyOf_kl wL wt wu ws) 0
        have ca : ∀ o, (w1.alloc o).cell? ⟨sb, 4, none⟩ = some (.map (some db)) := fun o => (World.cell?_alloc_past _ _ _ (World.block_lt_of_cell? _ _ c41)).trans c41
        go_wp2_with fail
        go_region
        rw [strike_twice] at hrg2
        go_wp2
        go_roundw
        case rel => exact ⟨_, cnt2, by rw [← Fs_struck now hap hkeys hlx hcn hat]; exact hrg2, ((hch1.alloc _).drew).trans (Chg.ofGrown hturn.grown) (by simp)⟩
        case measure => rw [hrg2.left_eq, hrg.left_eq]; omega
      · have hcn' : now < c := by omega
        go_wp2_with fail
        go_roundw
        case rel => exact ⟨_, cnt1, by rw [← Fs_stays now hap hkeys hlx hcn' hat]; exact hrg1.alloc _, hch1.alloc _⟩
        case measure => rw [(hrg1.alloc _).left_eq, hrg.left_eq]; exact hlt
end Go.Proofs.YtbdnhllhdjepcaaGreat
namespace Go.Proofs.YtbdnhllhdjepcaaGreat
set_option linter.unusedVariables false
set_option linter.unusedSimpArgs false
open Go.RowKit Go.Maps

/-- the cells, and what the key reads as, of the place of a key at a level -/
def plc (t u r : Int) : Nat → List Value
  | 0 => [.int .i64 0, .int .u16 t, .int .u16 0, .int .u16 0]
  | 1 => [.int .i64 1, .int .u16 t, .int .u16 u, .int .u16 0]
  | _ => [.int .i64 2, .int .u16 t, .int .u16 u, .int .u16 r]
def plk (t u r : Int) : Nat → Lit
  | 0 => kl 0 t 0 0
  | 1 => kl 1 t u 0
  | _ => kl 2 t u r
theorem plk_key {t u r : Int} (ht : (Lit.int .u16 t).wf = true) (hu : (Lit.int .u16 u).wf = true) (hr : (Lit.int .u16 r).wf = true) (k : Nat) :
    keyOf Tryz.prog 196 (.agg (plc t u r k).toArray) = some (plk t u r k) := by
  match k with
  | 0 => exact keyOf_kl (by decide) ht (by decide) (by decide)
  | 1 => exact keyOf_kl (by decide) ht hu (by decide)
  | n + 2 => exact keyOf_kl (by decide) ht hu hr
/-- of the first k places those that are not kept -/
def miss (D : DW) (t u r : Int) : Nat → Int
  | 0 => 0
  | k + 1 => miss D t u r k + (if Maps.has D (plk t u r k) then 0 else 1)
theorem miss_bd (D : DW) (t u r : Int) (k : Nat) : 0 ≤ miss D t u r k ∧ miss D t u r k ≤ k := by
  induction k with
  | zero => simp [miss]
  | succ k ih => unfold miss; split <;> omega

theorem index0 (t u r : Int) : ∀ w : World, (Instr.index 197 (.agg (plv t u r)) (.int .i64 0)).run Tryz.prog w = .ok (.agg #[.int .i64 0, .int .u16 t, .int .u16 0, .int .u16 0]) w := fun _ => by kernel_rfl
theorem index1 (t u r : Int) : ∀ w : World, (Instr.index 197 (.agg (plv t u r)) (.int .i64 1)).run Tryz.prog w = .ok (.agg #[.int .i64 1, .int .u16 t, .int .u16 u, .int .u16 0]) w := fun _ => by kernel_rfl
theorem index2 (t u r : Int) : ∀ w : World, (Instr.index 197 (.agg (plv t u r)) (.int .i64 2)).run Tryz.prog w = .ok (.agg #[.int .i64 2, .int .u16 t, .int .u16 u, .int .u16 r]) w := fun _ => by kernel_rfl

/-- a look-up with 'ok', behind the block in which the place lies, in a statement that draws -/
theorem look_pl {w : World} {db n : Nat} {D : DW} {L t u r : Int} {l : Lit} (hown : w.ownsMap Tryz.prog 196 (plainElem Tryz.prog 44) db n D) (hkey : keyOf Tryz.prog 196 (.agg #[.int .i64 L, .int .u16 t, .int .u16 u, .int .u16 r]) = some l) :
    ∃ c : Int, (Instr.lookup 191 (.map (some db)) (.agg #[.int .i64 L, .int .u16 t, .int .u16 u, .int .u16 r]) true).run Tryz.prog (w.alloc (.cells #[.int .i64 L, .int .u16 t, .int .u16 u, .int .u16 r] 196)).drew =
      .ok (.tuple #[.int .u64 c, .bool (Maps.has D l)]) (w.alloc (.cells #[.int .i64 L, .int .u16 t, .int .u16 u, .int .u16 r] 196)).drew := by
  obtain ⟨v, ps, hrun, hv⟩ := (hown.alloc (.cells #[.int .i64 L, .int .u16 t, .int .u16 u, .int .u16 r] 196)).drew.look_ok law140 Tryz.underlying191 (Tryz.zeroValue44 _) (plainElem_int Tryz.underlying44 (by decide)) hkey
  obtain ⟨c, rfl, _⟩ := plainElem_int_inv Tryz.underlying44 hv
  exact ⟨c, hrun⟩

set_option maxRecDepth 100000 in
set_option maxHeartbeats 1000000 in
theorem hasRoom_any (sb db n : Nat) (slots t u r : Int) (D : DW) (w : World) (c3 : w.cell? ⟨sb, 3, none⟩ = some (.int .i64 slots)) (c4 : w.cell? ⟨sb, 4, none⟩ = some (.map (some db)))
    (hown : w.ownsMap Tryz.prog 196 (plainElem Tryz.prog 44) db n D) (hn : n ≤ 1000000) (ht : (Lit.int .u16 t).wf = true) (hu : (Lit.int .u16 u).wf = true) (hr : (Lit.int .u16 r).wf = true) :
    Calls Tryz.prog 101 #[.pointer (some ⟨sb, 0, none⟩), .agg (plv t u r)] w fun e w' => e = .returned (.bool (decide ((Maps.size D : Int) + miss D t u r 3 ≤ slots))) ∧ Chg [] w w' := by
  have hsl := World.block_lt_of_cell? w _ c4
  have hsz := hown.size_le
  go_enter Tryz.func101, Tryz.ntmps101
  go_wp2_with (first
    | (at_len; refine wpList_len_own _ rfl _ 191 rfl 196 44 Tryz.underlying191 _ db n D rfl (hown.alloc _) ?_))
  go_loopw [5, 16] (fun keys i wr => ∃ k : Nat, k ≤ 3 ∧ i = .int .i64 k ∧ keys = .int .i64 ((Maps.size D : Int) + miss D t u r k) ∧ Chg [] w wr) (fun _ i _ => 3 - (intOf i).toNat)
  case atStart => exact ⟨0, by omega, rfl, by simp [miss], (Chg.refl _ _).alloc _⟩
  case round =>
    obtain ⟨k, hk, rfl, rfl, hch⟩ := hrel
    have hmb := miss_bd D t u r k
    have c3r : wr.cell? ⟨sb, 3, none⟩ = some (.int .i64 slots) := (World.cell?_of_block (a := ⟨sb, 3, none⟩) (hch.block sb hsl (by simp))).trans c3
    have c4r : wr.cell? ⟨sb, 4, none⟩ = some (.map (some db)) := (World.cell?_of_block (a := ⟨sb, 4, none⟩) (hch.block sb hsl (by simp))).trans c4
    have hownr := hch.map hown (by simp)
    have ca : ∀ o, (wr.alloc o).cell? ⟨sb, 4, none⟩ = some (.map (some db)) := fun o => (World.cell?_alloc_past _ _ _ (World.block_lt_of_cell? _ _ c4r)).trans c4r
    by_cases hlt : k < 3
    · rcases (show k = 0 ∨ k = 1 ∨ k = 2 from by omega) with rfl | rfl | rfl
      · have hix := index0 t u r
        obtain ⟨c, hrun⟩ := look_pl hownr (keyOf_kl (by decide) ht (by decide) (by decide) : keyOf Tryz.prog 196 (.agg #[.int .i64 0, .int .u16 t, .int .u16 0, .int .u16 0]) = some (kl 0 t 0 0))
        have hms : Hid (miss D t u r 1 = miss D t u r 0 + (if Maps.has D (kl 0 t 0 0) then 0 else 1)) := rfl
        generalize Maps.has D (kl 0 t 0 0) = hh at *
        cases hh
        all_goals
          go_wp2_with fail
          go_region
          go_wp2
          go_roundw
          case rel => exact ⟨1, by omega, by go_num, by rw [hms.out]; first | (simp; done) | (simp; omega), (hch.alloc _).drew⟩
          case measure => simp [intOf]
      · have hix := index1 t u r
        obtain ⟨c, hrun⟩ := look_pl hownr (keyOf_kl (by decide) ht hu (by decide) : keyOf Tryz.prog 196 (.agg #[.int .i64 1, .int .u16 t, .int .u16 u, .int .u16 0]) = some (kl 1 t u 0))
        have hms : Hid (miss D t u r 2 = miss D t u r 1 + (if Maps.has D (kl 1 t u 0) then 0 else 1)) := rfl
        generalize Maps.has D (kl 1 t u 0) = hh at *
        cases hh
        all_goals
          go_wp2_with fail
          go_region
          go_wp2
          go_roundw
          case rel => exact ⟨2, by omega, by go_num, by rw [hms.out]; first | (simp; done) | (simp; omega), (hch.alloc _).drew⟩
          case measure => simp [intOf]
      · have hix := index2 t u r
        obtain ⟨c, hrun⟩ := look_pl hownr (keyOf_kl (by decide) ht hu hr : keyOf Tryz.prog 196 (.agg #[.int .i64 2, .int .u16 t, .int .u16 u, .int .u16 r]) = some (kl 2 t u r))
        have hms : Hid (miss D t u r 3 = miss D t u r 2 + (if Maps.has D (kl 2 t u r) then 0 else 1)) := rfl
        generalize Maps.has D (kl 2 t u r) = hh at *
        cases hh
        all_goals
          go_wp2_with fail
          go_region
          go_wp2
          go_roundw
          case rel => exact ⟨3, by omega, by go_num, by rw [hms.out]; first | (simp; done) | (simp; omega), (hch.alloc _).drew⟩
          case measure => simp [intOf]
    · obtain rfl : k = 3 := by omega
      go_wp2
      go_ret
      exact ⟨rfl, hch⟩
end Go.Proofs.YtbdnhllhdjepcaaGreat
namespace Go.Proofs.YtbdnhllhdjepcaaGreat
set_option linter.unusedVariables false
set_option linter.unusedSimpArgs false
open Go.RowKit Go.Maps

def lu (x : Int) : DW := .lit (.int .u64 x)
/-- the map behind the first k marks that are written -/
def putTo (D : DW) (t u r a b c : Int) : Nat → DW
  | 0 => D
  | 1 => D.put (kl 0 t 0 0) (lu a)
  | 2 => (D.put (kl 0 t 0 0) (lu a)).put (kl 1 t u 0) (lu b)
  | _ => ((D.put (kl 0 t 0 0) (lu a)).put (kl 1 t u 0) (lu b)).put (kl 2 t u r) (lu c)

theorem store_pl {w : World} {db n : Nat} {D : DW} {L t u r x : Int} {l : Lit} (hown : w.ownsMap Tryz.prog 196 (plainElem Tryz.prog 44) db n D) (hn : n ≤ 1000000) (hkey : keyOf Tryz.prog 196 (.agg #[.int .i64 L, .int .u16 t, .int .u16 u, .int .u16 r]) = some l) (hx : (Lit.int .u64 x).wf = true) :
    ∃ w', (Instr.mapUpdate 191 (.map (some db)) (.agg #[.int .i64 L, .int .u16 t, .int .u16 u, .int .u16 r]) (.int .u64 x)).run Tryz.prog (w.alloc (.cells #[.int .i64 L, .int .u16 t, .int .u16 u, .int .u16 r] 196)).drew = .ok () w' ∧
      w'.ownsMap Tryz.prog 196 (plainElem Tryz.prog 44) db (n + 1) (D.put l (lu x)) ∧ Chg [db] w w' := by
  obtain ⟨w', h1, h2, h3⟩ := (hown.alloc (.cells #[.int .i64 L, .int .u16 t, .int .u16 u, .int .u16 r] 196)).drew.store law140 Tryz.underlying191 (by unfold maxLen; omega) hkey (plainElem_int Tryz.underlying44 hx)
  exact ⟨w', h1, h2, (((Chg.refl _ _).alloc _).drew).trans (Chg.ofGrown h3.grown) (by simp)⟩

set_option maxRecDepth 100000 in
set_option maxHeartbeats 1000000 in
theorem keep_any (sb db n : Nat) (t u r a b c : Int) (D : DW) (w : World) (c4 : w.cell? ⟨sb, 4, none⟩ = some (.map (some db)))
    (hown : w.ownsMap Tryz.prog 196 (plainElem Tryz.prog 44) db n D) (hn : n ≤ 999990) (ht : (Lit.int .u16 t).wf = true) (hu : (Lit.int .u16 u).wf = true) (hr : (Lit.int .u16 r).wf = true) (ha : (Lit.int .u64 a).wf = true) (hb : (Lit.int .u64 b).wf = true) (hc : (Lit.int .u64 c).wf = true) :
    Calls Tryz.prog 103 #[.pointer (some ⟨sb, 0, none⟩), .agg (plv t u r), .agg #[.int .u64 a, .int .u64 b, .int .u64 c]] w fun e w' => e = .returned (.tuple #[]) ∧
      w'.ownsMap Tryz.prog 196 (plainElem Tryz.prog 44) db (n + 3) (putTo D t u r a b c 3) ∧ Chg [db] w w' := by
  have hsl := World.block_lt_of_cell? w _ c4
  have hdl := hown.lt
  have hsd : sb ≠ db := fun e => by obtain ⟨_, _, hb, _⟩ := hown; subst e; simp [World.cell?, hb] at c4
  go_enter Tryz.func103, Tryz.ntmps103
  go_wp2_with fail
  go_loopw [9] (fun i wr => ∃ k : Nat, k ≤ 3 ∧ i = .int .i64 k ∧ wr.ownsMap Tryz.prog 196 (plainElem Tryz.prog 44) db (n + k) (putTo D t u r a b c k) ∧ Chg [db] w wr ∧ wr.heap[w.heap.size + 1]? = some (.cells [.int .u64 a, .int .u64 b, .int .u64 c].toArray 162 (0, 0))) (fun i _ => 3 - (intOf i).toNat)
  case atStart => exact ⟨0, by omega, rfl, (hown.alloc _).alloc _, ((Chg.refl _ _).alloc _).alloc _, heap_alloc2_new _ _ _⟩
  case round =>
    obtain ⟨k, hk, rfl, hownr, hch, hblk⟩ := hrel
    have c4r : wr.cell? ⟨sb, 4, none⟩ = some (.map (some db)) := (World.cell?_of_block (a := ⟨sb, 4, none⟩) (hch.block sb hsl (by simpa using hsd))).trans c4
    have ca : ∀ o, (wr.alloc o).cell? ⟨sb, 4, none⟩ = some (.map (some db)) := fun o => (World.cell?_alloc_past _ _ _ (World.block_lt_of_cell? _ _ c4r)).trans c4r
    have cb : ∀ o i v, [Value.int .u64 a, .int .u64 b, .int .u64 c][i]? = some v → (wr.alloc o).cell? ⟨w.heap.size + 1, i, none⟩ = some v := fun o i v hv => blk_cell (blk_alloc hblk o) hv
    have cb0 := fun o => cb o 0 _ rfl
    have cb1 := fun o => cb o 1 _ rfl
    have cb2 := fun o => cb o 2 _ rfl
    clear cb
    by_cases hlt : k < 3
    · rcases (show k = 0 ∨ k = 1 ∨ k = 2 from by omega) with rfl | rfl | rfl
      · have hix := index0 t u r
        obtain ⟨w2, hrun, hown2, hch2⟩ := store_pl hownr (by omega) (keyOf_kl (by decide) ht (by decide) (by decide) : keyOf Tryz.prog 196 (.agg #[.int .i64 0, .int .u16 t, .int .u16 0, .int .u16 0]) = some (kl 0 t 0 0)) ha
        have hb2 := hch2.blk hblk (by simp; omega)
        go_wp2_with fail
        go_region
        go_wp2
        go_roundw
        case rel => exact ⟨1, by omega, by go_num, hown2, hch.trans hch2 (by simp), hb2⟩
        case measure => simp [intOf]
      · have hix := index1 t u r
        obtain ⟨w2, hrun, hown2, hch2⟩ := store_pl hownr (by omega) (keyOf_kl (by decide) ht hu (by decide) : keyOf Tryz.prog 196 (.agg #[.int .i64 1, .int .u16 t, .int .u16 u, .int .u16 0]) = some (kl 1 t u 0)) hb
        have hb2 := hch2.blk hblk (by simp; omega)
        go_wp2_with fail
        go_region
        go_wp2
        go_roundw
        case rel => exact ⟨2, by omega, by go_num, hown2, hch.trans hch2 (by simp), hb2⟩
        case measure => simp [intOf]
      · have hix := index2 t u r
        obtain ⟨w2, hrun, hown2, hch2⟩ := store_pl hownr (by omega) (keyOf_kl (by decide) ht hu hr : keyOf Tryz.prog 196 (.agg #[.int .i64 2, .int .u16 t, .int .u16 u, .int .u16 r]) = some (kl 2 t u r)) hc
        have hb2 := hch2.blk hblk (by simp; omega)
        go_wp2_with fail
        go_region
        go_wp2
        go_roundw
        case rel => exact ⟨3, by omega, by go_num, hown2, hch.trans hch2 (by simp), hb2⟩
        case measure => simp [intOf]
    · obtain rfl : k = 3 := by omega
      go_wp2
      go_end0
      exact ⟨rfl, hownr, hch⟩
end Go.Proofs.YtbdnhllhdjepcaaGreat
namespace Go.Proofs.YtbdnhllhdjepcaaGreat
set_option linter.unusedVariables false
set_option linter.unusedSimpArgs false
open Go.RowKit Go.Maps

/-- how a rate in the map of own rates reads -/
def rateElem : Value → Option (DW × List MemPlace)
  | .agg cs => match cs.toList with
    | [.int .u64 a, .int .u64 b] => if (Lit.int .u64 a).wf = true ∧ (Lit.int .u64 b).wf = true then some (.agg [lu a, lu b], []) else none
    | _ => none
  | _ => none
theorem rateElem_mk {a b : Int} (ha : (Lit.int .u64 a).wf = true) (hb : (Lit.int .u64 b).wf = true) : rateElem (.agg #[.int .u64 a, .int .u64 b]) = some (.agg [lu a, lu b], []) := by simp [rateElem, ha, hb]
theorem rateElem_inv {v : Value} {z : DW × List MemPlace} (h : rateElem v = some z) : ∃ a b, v = .agg #[.int .u64 a, .int .u64 b] ∧ z = (.agg [lu a, lu b], []) ∧ (Lit.int .u64 a).wf = true ∧ (Lit.int .u64 b).wf = true := by
  unfold rateElem at h
  split at h
  · rename_i cs
    split at h
    · rename_i a b hl
      by_cases hc : (Lit.int .u64 a).wf = true ∧ (Lit.int .u64 b).wf = true
      · rw [if_pos hc] at h
        cases h
        refine ⟨a, b, ?_, rfl, hc.1, hc.2⟩
        rw [show cs = #[.int .u64 a, .int .u64 b] from by rw [← Array.toArray_toList (xs := cs), hl]]
      · rw [if_neg hc] at h; cases h
    · cases h
  · cases h
/-- a plan's rates: three, and the map of own ones -/
structure Pln where
  i0 : Int
  b0 : Int
  i1 : Int
  b1 : Int
  i2 : Int
  b2 : Int
  own : DW
def Pln.lev (p : Pln) : Nat → Int × Int
  | 0 => (p.i0, p.b0)
  | 1 => (p.i1, p.b1)
  | _ => (p.i2, p.b2)
def ratePair : DW → Int × Int
  | .agg [.lit (.int _ a), .lit (.int _ b)] => (a, b)
  | _ => (0, 0)
/-- the rate that holds at a place -/
def Pln.at_ (p : Pln) (L : Nat) (k : Lit) : Int × Int := if Maps.has p.own k then ratePair (p.own.atKey k .nil) else p.lev L
/-- the plan in memory -/
def PlanAt (w : World) (pb ob : Nat) (p : Pln) : Prop :=
  w.heap[pb]? = some (.cells [.int .u64 p.i0, .int .u64 p.b0, .int .u64 p.i1, .int .u64 p.b1, .int .u64 p.i2, .int .u64 p.b2, .map (some ob)].toArray 183 (0, 0)) ∧ ∃ n, w.ownsMap Tryz.prog 196 rateElem ob n p.own
theorem PlanAt.chg {l : List Nat} {w w' : World} {pb ob : Nat} {p : Pln} (h : PlanAt w pb ob p) (hc : Chg l w w') (h1 : pb ∉ l) (h2 : ob ∉ l) : PlanAt w' pb ob p :=
  ⟨hc.blk h.1 h1, h.2.imp fun _ hm => hc.map hm h2⟩
theorem atKey_has {D : DW} {k : Lit} (h : Maps.has D k = true) (z z' : DW) : D.atKey k z = D.atKey k z' := by
  cases D with
  | map es =>
    simp only [Maps.has, DataW.atKey] at h ⊢
    cases hf : es.find? (fun p => p.1.sameKey k) with
    | some p => rfl
    | none =>
      rw [List.any_eq_true] at h
      obtain ⟨p, hp, hs⟩ := h
      have := List.find?_eq_none.1 hf p hp
      simp [hs] at this
  | _ => cases h

theorem lookr {w : World} {ob : Nat} {p : Pln} {L t u r : Int} {l : Lit} (hm : ∃ n, w.ownsMap Tryz.prog 196 rateElem ob n p.own) (hkey : keyOf Tryz.prog 196 (.agg #[.int .i64 L, .int .u16 t, .int .u16 u, .int .u16 r]) = some l) :
    ∃ a b : Int, (Maps.has p.own l = true → p.at_ 0 l = (a, b) ∧ p.at_ 1 l = (a, b) ∧ p.at_ 2 l = (a, b)) ∧ ∀ W, Chg [] w W → (Instr.lookup 178 (.map (some ob)) (.agg #[.int .i64 L, .int .u16 t, .int .u16 u, .int .u16 r]) true).run Tryz.prog W =
      .ok (.tuple #[.agg #[.int .u64 a, .int .u64 b], .bool (Maps.has p.own l)]) W := by
  obtain ⟨n, hown⟩ := hm
  obtain ⟨v, ps, hrun, hv⟩ := hown.look_ok law140 Tryz.underlying178 (Tryz.zeroValue180 _) (rateElem_mk (by decide) (by decide)) hkey
  obtain ⟨a, b, rfl, h2, _⟩ := rateElem_inv hv
  refine ⟨a, b, fun h => ?_, fun W hW => ?_⟩
  · have := atKey_has h (.agg [lu 0, lu 0]) .nil
    have h3 := congrArg Prod.fst h2
    simp only at h3
    rw [this] at h3
    unfold Pln.at_
    rw [if_pos h, if_pos h, if_pos h, h3]
    exact ⟨rfl, rfl, rfl⟩
  · obtain ⟨v', ps', hrun', hv'⟩ := (hW.map hown (by simp)).look_ok law140 Tryz.underlying178 (Tryz.zeroValue180 _) (rateElem_mk (by decide) (by decide)) hkey
    obtain ⟨a', b', rfl, h2', _⟩ := rateElem_inv hv'
    have h3 := congrArg Prod.fst h2
    have h3' := congrArg Prod.fst h2'
    simp only at h3 h3'
    rw [h3] at h3'
    simp [lu] at h3'
    rw [h3'.1, h3'.2]
    exact hrun'

set_option maxRecDepth 100000 in
set_option maxHeartbeats 1000000 in
theorem rateAt0 (pb ob : Nat) (p : Pln) (t u r : Int) (w : World) (hp : PlanAt w pb ob p) {l : Lit} (hkey : keyOf Tryz.prog 196 (.agg #[.int .i64 0, .int .u16 t, .int .u16 u, .int .u16 r]) = some l) :
    Calls Tryz.prog 138 #[.pointer (some ⟨pb, 0, none⟩), .agg #[.int .i64 0, .int .u16 t, .int .u16 u, .int .u16 r]] w fun e w' => e = .returned (.agg #[.int .u64 (p.at_ 0 l).1, .int .u64 (p.at_ 0 l).2]) ∧ Chg [] w w' := by
  obtain ⟨hb, hm⟩ := hp
  obtain ⟨a, b, hyes, hrun0⟩ := lookr hm hkey
  have hrun := fun o1 o2 => hrun0 _ ((((Chg.refl [] w).alloc o1).alloc o2).drew)
  have hrun3 := fun o1 o2 o3 => hrun0 _ (((((Chg.refl [] w).alloc o1).alloc o2).alloc o3).drew)
  clear hrun0
  have HY : Hid (Maps.has p.own l = true → p.at_ 0 l = (a, b) ∧ p.at_ 1 l = (a, b) ∧ p.at_ 2 l = (a, b)) := hyes
  have HN : Hid (Maps.has p.own l = false → p.at_ 0 l = (p.i0, p.b0)) := fun h => by unfold Pln.at_; rw [if_neg (by simp [h])]; rfl
  clear hyes hm hkey
  have hlt := lt_of_block hb
  have c0 := blk_cell (i := 0) hb rfl
  have c1 := blk_cell (i := 1) hb rfl
  have c6 := blk_cell (i := 6) hb rfl
  have c63 := fun o1 o2 o3 => blk_cell (i := 6) (blk_alloc (blk_alloc (blk_alloc hb o1) o2) o3) rfl
  have c03 := fun o1 o2 o3 => blk_cell (i := 0) (blk_alloc (blk_alloc (blk_alloc hb o1) o2) o3) rfl
  have c13 := fun o1 o2 o3 => blk_cell (i := 1) (blk_alloc (blk_alloc (blk_alloc hb o1) o2) o3) rfl
  clear hb
  generalize p.at_ 0 l = x at *
  generalize hv : Maps.has p.own l = hh at *
  have HV : Hid (Maps.has p.own l = hh) := hv
  clear hv
  cases hh
  · have hx := HN.out rfl
    have HX : Hid (x = (p.i0, p.b0)) := hx
    clear hx HY HN HV
    go_enter Tryz.func138, Tryz.ntmps138
    go_wp2_with fail
    go_region
    go_wp2_with fail
    go_region
    go_wp2
    rw [HX.out]
    refine bodyPost_ret (v := .agg #[.int .u64 p.i0, .int .u64 p.b0]) (by simp [results, Tryz.results138, go_sem, World.cell?_alloc_past]) rfl ⟨rfl, ?_⟩
    repeat (first | exact Chg.refl _ _ | refine Chg.drew ?_ | refine Chg.alloc ?_ _ | refine Chg.set ?_ _ _ (Or.inr (by simp)))
  · have hx := HY.out rfl
    have HX : Hid (x = (a, b)) := hx.1
    clear hx HY HN HV
    go_enter Tryz.func138, Tryz.ntmps138
    go_wp2_with fail
    go_region
    go_wp2
    rw [HX.out]
    refine bodyPost_ret (v := .agg #[.int .u64 a, .int .u64 b]) (by simp [results, Tryz.results138, go_sem, World.cell?_alloc_past]) rfl ⟨rfl, ?_⟩
    repeat (first | exact Chg.refl _ _ | refine Chg.drew ?_ | refine Chg.alloc ?_ _ | refine Chg.set ?_ _ _ (Or.inr (by simp)))

set_option maxRecDepth 100000 in
set_option maxHeartbeats 1000000 in
theorem rateAt1 (pb ob : Nat) (p : Pln) (t u r : Int) (w : World) (hp : PlanAt w pb ob p) {l : Lit} (hkey : keyOf Tryz.prog 196 (.agg #[.int .i64 1, .int .u16 t, .int .u16 u, .int .u16 r]) = some l) :
    Calls Tryz.prog 138 #[.pointer (some ⟨pb, 0, none⟩), .agg #[.int .i64 1, .int .u16 t, .int .u16 u, .int .u16 r]] w fun e w' => e = .returned (.agg #[.int .u64 (p.at_ 1 l).1, .int .u64 (p.at_ 1 l).2]) ∧ Chg [] w w' := by
  obtain ⟨hb, hm⟩ := hp
  obtain ⟨a, b, hyes, hrun0⟩ := lookr hm hkey
  have hrun := fun o1 o2 => hrun0 _ ((((Chg.refl [] w).alloc o1).alloc o2).drew)
  have hrun3 := fun o1 o2 o3 => hrun0 _ (((((Chg.refl [] w).alloc o1).alloc o2).alloc o3).drew)
  clear hrun0
  have HY : Hid (Maps.has p.own l = true → p.at_ 0 l = (a, b) ∧ p.at_ 1 l = (a, b) ∧ p.at_ 2 l = (a, b)) := hyes
  have HN : Hid (Maps.has p.own l = false → p.at_ 1 l = (p.i1, p.b1)) := fun h => by unfold Pln.at_; rw [if_neg (by simp [h])]; rfl
  clear hyes hm hkey
  have hlt := lt_of_block hb
  have c0 := blk_cell (i := 2) hb rfl
  have c1 := blk_cell (i := 3) hb rfl
  have c6 := blk_cell (i := 6) hb rfl
  have c63 := fun o1 o2 o3 => blk_cell (i := 6) (blk_alloc (blk_alloc (blk_alloc hb o1) o2) o3) rfl
  have c03 := fun o1 o2 o3 => blk_cell (i := 2) (blk_alloc (blk_alloc (blk_alloc hb o1) o2) o3) rfl
  have c13 := fun o1 o2 o3 => blk_cell (i := 3) (blk_alloc (blk_alloc (blk_alloc hb o1) o2) o3) rfl
  clear hb
  generalize p.at_ 1 l = x at *
  generalize hv : Maps.has p.own l = hh at *
  have HV : Hid (Maps.has p.own l = hh) := hv
  clear hv
  cases hh
  · have hx := HN.out rfl
    have HX : Hid (x = (p.i1, p.b1)) := hx
    clear hx HY HN HV
    go_enter Tryz.func138, Tryz.ntmps138
    go_wp2_with fail
    go_region
    go_wp2_with fail
    go_region
    go_wp2
    rw [HX.out]
    refine bodyPost_ret (v := .agg #[.int .u64 p.i1, .int .u64 p.b1]) (by simp [results, Tryz.results138, go_sem, World.cell?_alloc_past]) rfl ⟨rfl, ?_⟩
    repeat (first | exact Chg.refl _ _ | refine Chg.drew ?_ | refine Chg.alloc ?_ _ | refine Chg.set ?_ _ _ (Or.inr (by simp)))
  · have hx := HY.out rfl
    have HX : Hid (x = (a, b)) := hx.2.1
    clear hx HY HN HV
    go_enter Tryz.func138, Tryz.ntmps138
    go_wp2_with fail
    go_region
    go_wp2
    rw [HX.out]
    refine bodyPost_ret (v := .agg #[.int .u64 a, .int .u64 b]) (by simp [results, Tryz.results138, go_sem, World.cell?_alloc_past]) rfl ⟨rfl, ?_⟩
    repeat (first | exact Chg.refl _ _ | refine Chg.drew ?_ | refine Chg.alloc ?_ _ | refine Chg.set ?_ _ _ (Or.inr (by simp)))

set_option maxRecDepth 100000 in
set_option maxHeartbeats 1000000 in
theorem rateAt2 (pb ob : Nat) (p : Pln) (t u r : Int) (w : World) (hp : PlanAt w pb ob p) {l : Lit} (hkey : keyOf Tryz.prog 196 (.agg #[.int .i64 2, .int .u16 t, .int .u16 u, .int .u16 r]) = some l) :
    Calls Tryz.prog 138 #[.pointer (some ⟨pb, 0, none⟩), .agg #[.int .i64 2, .int .u16 t, .int .u16 u, .int .u16 r]] w fun e w' => e = .returned (.agg #[.int .u64 (p.at_ 2 l).1, .int .u64 (p.at_ 2 l).2]) ∧ Chg [] w w' := by
  obtain ⟨hb, hm⟩ := hp
  obtain ⟨a, b, hyes, hrun0⟩ := lookr hm hkey
  have hrun := fun o1 o2 => hrun0 _ ((((Chg.refl [] w).alloc o1).alloc o2).drew)
  have hrun3 := fun o1 o2 o3 => hrun0 _ (((((Chg.refl [] w).alloc o1).alloc o2).alloc o3).drew)
  clear hrun0
  have HY : Hid (Maps.has p.own l = true → p.at_ 0 l = (a, b) ∧ p.at_ 1 l = (a, b) ∧ p.at_ 2 l = (a, b)) := hyes
  have HN : Hid (Maps.has p.own l = false → p.at_ 2 l = (p.i2, p.b2)) := fun h => by unfold Pln.at_; rw [if_neg (by simp [h])]; rfl
  clear hyes hm hkey
  have hlt := lt_of_block hb
  have c0 := blk_cell (i := 4) hb rfl
  have c1 := blk_cell (i := 5) hb rfl
  have c6 := blk_cell (i := 6) hb rfl
  have c63 := fun o1 o2 o3 => blk_cell (i := 6) (blk_alloc (blk_alloc (blk_alloc hb o1) o2) o3) rfl
  have c03 := fun o1 o2 o3 => blk_cell (i := 4) (blk_alloc (blk_alloc (blk_alloc hb o1) o2) o3) rfl
  have c13 := fun o1 o2 o3 => blk_cell (i := 5) (blk_alloc (blk_alloc (blk_alloc hb o1) o2) o3) rfl
  clear hb
  generalize p.at_ 2 l = x at *
  generalize hv : Maps.has p.own l = hh at *
  have HV : Hid (Maps.has p.own l = hh) := hv
  clear hv
  cases hh
  · have hx := HN.out rfl
    have HX : Hid (x = (p.i2, p.b2)) := hx
    clear hx HY HN HV
    go_enter Tryz.func138, Tryz.ntmps138
    go_wp2_with fail
    go_region
    go_wp2_with fail
    go_region
    go_wp2
    rw [HX.out]
    refine bodyPost_ret (v := .agg #[.int .u64 p.i2, .int .u64 p.b2]) (by simp [results, Tryz.results138, go_sem, World.cell?_alloc_past]) rfl ⟨rfl, ?_⟩
    repeat (first | exact Chg.refl _ _ | refine Chg.drew ?_ | refine Chg.alloc ?_ _ | refine Chg.set ?_ _ _ (Or.inr (by simp)))
  · have hx := HY.out rfl
    have HX : Hid (x = (a, b)) := hx.2.2
    clear hx HY HN HV
    go_enter Tryz.func138, Tryz.ntmps138
    go_wp2_with fail
    go_region
    go_wp2
    rw [HX.out]
    refine bodyPost_ret (v := .agg #[.int .u64 a, .int .u64 b]) (by simp [results, Tryz.results138, go_sem, World.cell?_alloc_past]) rfl ⟨rfl, ?_⟩
    repeat (first | exact Chg.refl _ _ | refine Chg.drew ?_ | refine Chg.alloc ?_ _ | refine Chg.set ?_ _ _ (Or.inr (by simp)))
end Go.Proofs.YtbdnhllhdjepcaaGreat
