import Derived.Test.YtbdnhllhdjepcaaKeys
import Derived.Maps.OwnSet
namespace Go.Proofs.Ytbdnhllhdjepcaa
set_option linter.unusedVariables false
set_option linter.unusedSimpArgs false
open Go.RowKit Go.Maps

abbrev DW := DataW Unit
/-- the number of a datum -/
def num : DW → Int
  | .lit (.int _ a) => a
  | _ => 0
/-- of a map's entries those whose mark is above the time -/
def fgt (now : Int) : DW → DW
  | .map es => .map (es.filter fun p => decide (now < num p.2))
  | d => d
/-- what is left while the loop goes: those above the time, and those still to come -/
def Fs (now : Int) (es : List (Lit × DW)) (left : Lit → Bool) : DW := .map (es.filter fun p => decide (now < num p.2) || left p.1)

theorem Fs_start (now : Int) {es : List (Lit × DW)} (hk : ∀ p ∈ es, WideAt.IsKeyLit p.1) : Fs now es (Maps.has (.map es)) = .map es := by
  unfold Fs
  congr 1
  rw [List.filter_eq_self]
  intro p hp
  have : Maps.has (.map es) p.1 = true := by
    rw [Maps.has_eq, List.any_eq_true]
    exact ⟨p, hp, WideAt.sameKey_self (hk p hp)⟩
  simp [this]
theorem Fs_end (now : Int) {es : List (Lit × DW)} {left : Lit → Bool} (hl : ∀ k, left k = false) : Fs now es left = fgt now (.map es) := by
  simp [Fs, fgt, hl]
theorem at_mem {es : List (Lit × DW)} (hap : es.Pairwise (fun p q => p.1 ≠ q.1)) {p : Lit × DW} (hp : p ∈ es) (hk : WideAt.IsKeyLit p.1) (z : DW) : (DataW.map es).atKey p.1 z = p.2 := by
  induction es with
  | nil => cases hp
  | cons q r ih =>
    obtain ⟨h1, h2⟩ := List.pairwise_cons.1 hap
    simp only [DataW.atKey, List.find?_cons]
    rcases List.mem_cons.1 hp with rfl | hp'
    · simp [WideAt.sameKey_self hk]
    · have : q.1.sameKey p.1 = false := sameKey_ne (h1 p hp')
      rw [this]
      exact ih h2 hp'
theorem Fs_val (now : Int) {es : List (Lit × DW)} {left : Lit → Bool} {k : Lit} {c : Int} (hap : es.Pairwise (fun p q => p.1 ≠ q.1)) (hk : ∀ p ∈ es, WideAt.IsKeyLit p.1) (hl : left k = true)
    (hat : ∀ z, (Fs now es left).atKey k z = .lit (.int .u64 c)) {p : Lit × DW} (hp : p ∈ es) (hpk : p.1 = k) : num p.2 = c := by
  have hm : p ∈ es.filter (fun p => decide (now < num p.2) || left p.1) := List.mem_filter.2 ⟨hp, by simp [hpk, hl]⟩
  have := at_mem (hap.filter _) hm (hk p hp) .nil
  have h2 := hat .nil
  unfold Fs at h2
  rw [hpk, h2] at this
  rw [← this]
  rfl
theorem Fs_struck (now : Int) {es : List (Lit × DW)} {left : Lit → Bool} {k : Lit} {c : Int} (hap : es.Pairwise (fun p q => p.1 ≠ q.1)) (hk : ∀ p ∈ es, WideAt.IsKeyLit p.1) (hl : left k = true) (hc : c ≤ now)
    (hat : ∀ z, (Fs now es left).atKey k z = .lit (.int .u64 c)) : (Fs now es left).del k = Fs now es (fun z => left z && !z.sameKey k) := by
  unfold Fs
  simp only [DataW.del, List.filter_filter]
  congr 1
  refine List.filter_congr fun p hp => ?_
  cases hs : p.1.sameKey k
  · simp
  · have := Fs_val now hap hk hl hat hp (WideAt.sameKey_eq hs)
    simp [this, Int.not_lt.2 hc]
theorem Fs_stays (now : Int) {es : List (Lit × DW)} {left : Lit → Bool} {k : Lit} {c : Int} (hap : es.Pairwise (fun p q => p.1 ≠ q.1)) (hk : ∀ p ∈ es, WideAt.IsKeyLit p.1) (hl : left k = true) (hc : now < c)
    (hat : ∀ z, (Fs now es left).atKey k z = .lit (.int .u64 c)) : Fs now es left = Fs now es (fun z => left z && !z.sameKey k) := by
  unfold Fs
  congr 1
  refine List.filter_congr fun p hp => ?_
  cases hs : p.1.sameKey k
  · simp [hs]
  · have := Fs_val now hap hk hl hat hp (WideAt.sameKey_eq hs)
    simp [this, hc]

section
variable {P : Program} (w : World) {ops : Array Oper} {rest : List Oper} {o : Oper} {a : Act} {Q : Exit → Act → World → Prop}
/-- the loop's step over a map from places to marks, the shapes written out -/
theorem wpList_next_pl (hg : o.guard = none) (it : Operand) (hop : o.op = Op.next it false)
    (b r n : Nat) (D : DW) (left : Lit → Bool) (cnt : Nat) (hit : a.eval it = .pointer (some ⟨r, 0, none⟩)) (h : w.ranges Try.prog 140 (plainElem Try.prog 40) b r n D left cnt)
    (hDone : cnt = 0 → (∀ kl, left kl = false) → wpList Try.prog ops Q rest (a.put o.dst (.tuple #[.bool false])) w)
    (hMore : ∀ (L t u s c : Int) (w' : World) (cnt' : Nat), (Lit.int .i64 L).wf = true → (Lit.int .u16 t).wf = true → (Lit.int .u16 u).wf = true → (Lit.int .u16 s).wf = true → (Lit.int .u64 c).wf = true → left (kl L t u s) = true → (∀ zd, D.atKey (kl L t u s) zd = .lit (.int .u64 c)) →
      w'.ranges Try.prog 140 (plainElem Try.prog 40) b r n D (fun z => left z && !z.sameKey (kl L t u s)) cnt' → cnt' < cnt →
      w.grownBy w' (some r) → w'.heap.size = w.heap.size → (Instr.entry (.pointer (some ⟨r, 0, none⟩))).run Try.prog w' = .ok (.tuple #[.agg #[.int .i64 L, .int .u16 t, .int .u16 u, .int .u16 s], .int .u64 c]) w' →
      wpList Try.prog ops Q rest (a.put o.dst (.tuple #[.bool true, .agg #[.int .i64 L, .int .u16 t, .int .u16 u, .int .u16 s], .int .u64 c])) w') :
    wpList Try.prog ops Q (o :: rest) a w :=
  wpList_next_ranges (α := Int × Int × Int × Int) (β := Int) w hg it hop 140 law140 (plainElem Try.prog 40) (fun x => .agg #[.int .i64 x.1, .int .u16 x.2.1, .int .u16 x.2.2.1, .int .u16 x.2.2.2]) (fun c => .int .u64 c)
    (fun key l hkey => by obtain ⟨L, t, u, s, h1, _⟩ := keyOf_inv hkey; exact ⟨(L, t, u, s), h1⟩) (fun v y hv => by obtain ⟨c, rfl, _⟩ := plainElem_int_inv Try.underlying40 hv; exact ⟨c, rfl⟩)
    b r n D left cnt hit h hDone (fun x c l y w' cnt' hkey hlk hv hat hrg hlt hgr hsz hen => by
      obtain ⟨L, t, u, s, h1, h2, wL, wt, wu, ws⟩ := keyOf_inv hkey
      simp at h1
      obtain ⟨h11, h12, h13, h14⟩ := h1
      obtain ⟨c', ec, rfl, hwc⟩ := plainElem_int_inv Try.underlying40 hv
      cases ec
      obtain ⟨x1, x2, x3, x4⟩ := x
      simp only at h11 h12 h13 h14
      subst h11 h12 h13 h14
      subst h2
      exact hMore _ _ _ _ c w' cnt' wL wt wu ws hwc hlk hat hrg hlt hgr hsz hen)
end

set_option maxRecDepth 100000 in
set_option maxHeartbeats 1000000 in
theorem forget_any (sb db n : Nat) (now : Int) (es : List (Lit × DW)) (w : World) (c4 : w.cell? ⟨sb, 4, none⟩ = some (.map (some db))) (hown : w.ownsMap Try.prog 140 (plainElem Try.prog 40) db n (.map es)) :
    Calls Try.prog 62 #[.pointer (some ⟨sb, 0, none⟩), .int .u64 now] w fun e w' => e = .returned (.tuple #[]) ∧ w'.ownsMap Try.prog 140 (plainElem Try.prog 40) db n (fgt now (.map es)) ∧ Chg [db] w w' := by
  obtain ⟨es', he', hap, hkeys⟩ := hown.entries law140
  cases he'
  have hsd : sb ≠ db := fun e => by obtain ⟨_, _, hb, _⟩ := hown; subst e; simp [World.cell?, hb] at c4
  have hsl := World.block_lt_of_cell? w _ c4
  go_enter Try.func62, Try.ntmps62
  go_wp2_with (first
    | (at_range; refine wpList_range_own _ rfl _ 135 rfl 140 40 law140 Try.underlying135 _ db n _ rfl hown ?_; intro w0 hrg0 hg0 hs0))
  go_loopw [11] (fun _ wr => ∃ (left : Lit → Bool) (cnt : Nat), wr.ranges Try.prog 140 (plainElem Try.prog 40) db w.heap.size n (Fs now es left) left cnt ∧ Chg [db] w wr)
    (fun _ wr => wr.rangeLeft db w.heap.size)
  case atStart => exact ⟨_, _, by rw [Fs_start now hkeys]; exact hrg0, (Chg.ofGrown0 hg0).mono (by simp)⟩
  case round =>
    obtain ⟨left, cnt, hrg, hch⟩ := hrel
    have c4r : wr.cell? ⟨sb, 4, none⟩ = some (.map (some db)) := (World.cell?_of_block (a := ⟨sb, 4, none⟩) (hch.block sb hsl (by simpa using hsd))).trans c4
    go_wp2_with (first
      | (at_next; refine wpList_next_pl _ rfl _ rfl db w.heap.size n _ _ _ rfl hrg ?_ ?_))
    · intro _ hl0
      go_wp2
      go_end0
      exact ⟨rfl, by rw [← Fs_end now hl0]; exact hrg.owns, hch⟩
    · intro L t u s c w1 cnt1 wL wt wu ws wc hlx hat hrg1 hlt hg1 hs1 hen
      have c41 : w1.cell? ⟨sb, 4, none⟩ = some (.map (some db)) := (World.cell?_of_block (a := ⟨sb, 4, none⟩) (hg1.block sb (Nat.lt_of_lt_of_le hsl hch.size) (by simp; omega))).trans c4r
      have hch1 : Chg [db] w w1 := hch.trans (Chg.ofGrown hg1) (by simp)
      by_cases hcn : c ≤ now
      · have hrgW : ((w1.alloc (.cells #[.int .i64 L, .int .u16 t, .int .u16 u, .int .u16 s] 140)).drew).ranges Try.prog 140 (plainElem Try.prog 40) db w.heap.size n (Fs now es left) (fun z => left z && !z.sameKey (kl L t u s)) cnt1 := hrg1.alloc _
        obtain ⟨w2, cnt2, hrun, hrg2, hle, hturn⟩ := hrgW.drop law140 Try.underlying135 (keyOf_kl wL wt wu ws) 0
        have ca : ∀ o, (w1.alloc o).cell? ⟨sb, 4, none⟩ = some (.map (some db)) := fun o => (World.cell?_alloc_past _ _ _ (World.block_lt_of_cell? _ _ c41)).trans c41
        go_wp2_with fail
        go_region
        rw [strike_twice] at hrg2
        go_wp2
        go_roundw
        case rel => exact ⟨_, cnt2, by rw [← Fs_struck now hap hkeys hlx hcn hat]; exact hrg2, ((hch1.alloc _).drew).trans (Chg.ofGrown hturn.grown) (by simp)⟩
        case measure => rw [hrg2.left_eq, hrg.left_eq]; omega
      · have hcn' : now < c := by omega
        go_wp2_with fail
        go_roundw
        case rel => exact ⟨_, cnt1, by rw [← Fs_stays now hap hkeys hlx hcn' hat]; exact hrg1.alloc _, hch1.alloc _⟩
        case measure => rw [(hrg1.alloc _).left_eq, hrg.left_eq]; exact hlt
end Go.Proofs.Ytbdnhllhdjepcaa
