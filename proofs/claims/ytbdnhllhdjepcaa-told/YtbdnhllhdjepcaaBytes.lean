import Derived.Test.YtbdnhllhdjepcaaFreshq
import Derived.Laws.IdiomStrings
import Derived.Laws.BitsAllLaws
namespace Go.Proofs.Ytbdnhllhdjepcaa
set_option linter.unusedVariables false
set_option linter.unusedSimpArgs false
open Go.RowKit Go.Maps

/-- a number as so many bytes, the high ones first -/
def be (n : Int) : Nat → List UInt8
  | 0 => []
  | k + 1 => be (n / 256) k ++ [(n % 256).toNat.toUInt8]
theorem be_len : ∀ (k : Nat) (n : Int), (be n k).length = k
  | 0, _ => rfl
  | k + 1, n => by unfold be; rw [List.length_append, be_len k]; rfl
abbrev sv (l : List UInt8) : Value := .string ⟨l.toArray⟩
theorem sv_add (a b : List UInt8) : Value.string ((⟨a.toArray⟩ : ByteArray) ++ (⟨b.toArray⟩ : ByteArray)) = sv (a ++ b) := by
  have : (⟨a.toArray⟩ : ByteArray) ++ (⟨b.toArray⟩ : ByteArray) = ⟨(a ++ b).toArray⟩ := by
    apply ByteArray.ext
    rw [ByteArray.data_append]
    simp
  rw [this]
theorem u8_back {x : Int} (h0 : 0 ≤ x) (h1 : x < 256) : ((x.toNat.toUInt8).toNat : Int) = x := by
  have : x.toNat % 256 = x.toNat := Nat.mod_eq_of_lt (by omega)
  simp [Nat.toUInt8, this]
  omega
/-- string(b), where b's cells are these bytes -/
theorem conv_back {w : World} {b o cap : Nat} {l : List UInt8} (hc : ∀ j (hj : j < l.length), w.cell? ⟨b, o + j, none⟩ = some (.int .u8 (l[j].toNat : Int))) : (convert 158 9 (.slice (some ⟨b, o, none⟩) l.length cap)).run Try.prog w = .ok (sv l) w :=
  run_convert_bytes_back w 158 9 5 ⟨b, o, none⟩ cap l Try.underlying158 Try.underlying5 Try.underlying9 (fun j hj => by rw [Addr.add_lit]; exact hc j hj)
theorem conv_one (W : World) {b : Nat} {x : Int} {t : TypeId} (h0 : 0 ≤ x) (h1 : x < 256) (hb : W.heap[b]? = some (.cells [.int .u8 x].toArray t (0, 0))) : (convert 158 9 (.slice (some ⟨b, 0, none⟩) 1 1)).run Try.prog W = .ok (sv [x.toNat.toUInt8]) W :=
  conv_back (l := [x.toNat.toUInt8]) (fun j hj => by
    have : j = 0 := by simp at hj; exact hj
    subst this
    simp only [Nat.zero_add, List.getElem_cons_zero]
    rw [u8_back h0 h1]
    exact blk_cell hb rfl)
set_option maxRecDepth 100000 in
set_option maxHeartbeats 1000000 in
theorem bytes_any : ∀ (k : Nat) (n : Int) (w : World), k ≤ 8 → 0 ≤ n → n ≤ 18446744073709551615 → Calls Try.prog 48 #[.int .u64 n, .int .i64 k] w fun e w' => e = .returned (sv (be n k)) ∧ Chg [] w w'
  | 0, n, w, _, _, _ => by
    go_enter Try.func48, Try.ntmps48
    go_wp2
    go_ret
    exact ⟨rfl, Chg.refl _ _⟩
  | k + 1, n, w, hk, h0, h1 => by
    have ih := fun W => bytes_any k (n / 256) W (by omega) (by omega) (by omega)
    have HIH : Hid (∀ W, Calls Try.prog 48 #[.int .u64 (n / 256), .int .i64 k] W fun e w' => e = .returned (sv (be (n / 256) k)) ∧ Chg [] W w') := ih
    have hkz : ¬ ((k : Int) + 1 = 0) := by omega
    clear ih
    go_enter Try.func48, Try.ntmps48
    have hw8 : IntKind.u8.wrap n = n % 256 := by rw [IntKind.wrap_u8]
    have hwk : IntKind.i64.wrap (k : Int) = k := by rw [IntKind.wrap_i64]; omega
    have hm : 0 ≤ n % 256 ∧ n % 256 < 256 := by omega
    have hcv : ∀ W : World, (convert 158 9 (.slice (some ⟨W.heap.size, 0, none⟩) 1 1)).run Try.prog (W.alloc (.cells #[.int .u8 (n % 256)] 5)) = .ok (sv [(n % 256).toNat.toUInt8]) (W.alloc (.cells #[.int .u8 (n % 256)] 5)) := fun W => conv_one _ hm.1 hm.2 (heap_alloc_new W _)
    have hcv2 : (convert 158 9 (.slice (some ⟨w.heap.size, 0, none⟩) 1 1)).run Try.prog (w.alloc (.cells #[.int .u8 (n % 256)] 5)).drew = .ok (sv [(n % 256).toNat.toUInt8]) (w.alloc (.cells #[.int .u8 (n % 256)] 5)).drew := conv_one _ hm.1 hm.2 (heap_alloc_new w _)
    have HBE : Hid (be n (k + 1) = be (n / 256) k ++ [(n % 256).toNat.toUInt8]) := rfl
    have HCV : Hid (∀ (W : World) (b : Nat), W.heap[b]? = some (.cells [.int .u8 (n % 256)].toArray 5 (0, 0)) → (convert 158 9 (.slice (some ⟨b, 0, none⟩) 1 1)).run Try.prog W = .ok (sv [(n % 256).toNat.toUInt8]) W) := fun W b hb => conv_one _ hm.1 hm.2 hb
    have hLl := be_len k (n / 256)
    generalize be (n / 256) k = L at *
    have hsz : (⟨L.toArray⟩ : ByteArray).size = k := by show L.toArray.size = k; simpa using hLl
    have HLL : Hid (L.length = k) := hLl
    clear hLl
    generalize (n % 256).toNat.toUInt8 = U at *
    go_wp2_with fail
    go_region_with (go_at_call 48; refine (HIH.out _).mono ?_; rintro e w1 ⟨rfl, q1⟩; (try have hcw := HCV.out w1 _ (q1.blk (heap_alloc_new w _) (by simp))); (try have hcw := HCV.out w1 _ (q1.blk (heap_alloc_new w.drew _) (by simp))))
    all_goals
      go_wp2
      go_ret
      refine ⟨?_, by first | exact (((Chg.refl [] w).alloc _).drew).trans q1 (by simp) | exact (((Chg.refl [] w).drew).trans q1 (by simp)).alloc _⟩
      rw [HBE.out]
      exact congrArg Ending.returned (sv_add L [U])
end Go.Proofs.Ytbdnhllhdjepcaa
