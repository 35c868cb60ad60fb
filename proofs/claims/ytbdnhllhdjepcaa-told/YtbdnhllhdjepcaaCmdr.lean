import Derived.Test.YtbdnhllhdjepcaaCmd
namespace Go.Proofs.Ytbdnhllhdjepcaa
set_option linter.unusedVariables false
set_option linter.unusedSimpArgs false
open Go.RowKit Go.Maps

/-! ### what a command's text says -/
theorem nb_be : ∀ (k : Nat) (n : Int), 0 ≤ n → n < 256 ^ k → nb (be n k) = n
  | 0, n, h0, h1 => by
    simp at h1
    have h : n = 0 := by omega
    rw [h]; rfl
  | k + 1, n, h0, h1 => by
    have hp : (256 : Int) ^ (k + 1) = 256 ^ k * 256 := Int.pow_succ 256 k
    rw [be_top, nb_snoc, nb_be k (n / 256) (by omega) (by rw [hp] at h1; omega), u8_back (by omega) (by omega)]
    omega
theorem tk_app (a b : List UInt8) {n : Nat} (h : a.length = n) : (a ++ b).take n = a := by rw [← h]; exact List.take_left
theorem dr_app (a b : List UInt8) {n : Nat} (h : a.length = n) : (a ++ b).drop n = b := by rw [← h]; exact List.drop_left
theorem rd_cmd1 (q : Rq) : rd 1 (cmd1 q) = ⟨1, pk q.t 3, pk q.u 2, pk q.r 2, 1 + pk q.c 4, 0, 0, 0, 0⟩ := by
  have pt := pk_bd q.t 3 (by decide)
  have pu := pk_bd q.u 2 (by decide)
  have pr := pk_bd q.r 2 (by decide)
  have pc := pk_bd q.c 4 (by decide)
  unfold cmd1
  generalize pk q.t 3 = T at *
  generalize pk q.u 2 = U at *
  generalize pk q.r 2 = R at *
  generalize pk q.c 4 = C at *
  have l1 := be_len 2 T
  have l2 := be_len 2 U
  have l3 := be_len 2 R
  have l4 := be_len 2 (1 + C)
  have n1 := nb_be 2 T (by omega) (by simp; omega)
  have n2 := nb_be 2 U (by omega) (by simp; omega)
  have n3 := nb_be 2 R (by omega) (by simp; omega)
  have n4 := nb_be 2 (1 + C) (by omega) (by simp; omega)
  generalize be T 2 = a at *
  generalize be U 2 = b at *
  generalize be R 2 = c at *
  generalize be (1 + C) 2 = d at *
  have e2 : (a ++ (b ++ (c ++ d))).drop 2 = b ++ (c ++ d) := dr_app _ _ l1
  have e4 : (a ++ (b ++ (c ++ d))).drop 4 = c ++ d := by rw [show 4 = 2 + 2 from rfl, ← List.drop_drop, e2, dr_app _ _ l2]
  have e6 : (a ++ (b ++ (c ++ d))).drop 6 = d := by rw [show 6 = 4 + 2 from rfl, ← List.drop_drop, e4, dr_app _ _ l3]
  unfold rd
  rw [if_pos ⟨rfl, by simp [l1, l2, l3, l4]⟩]
  unfold rdAll
  rw [e2, e4, e6, tk_app _ _ l1, tk_app _ _ l2, tk_app _ _ l3, List.take_of_length_le (by omega), n1, n2, n3, n4, if_pos (by omega)]
theorem rd_cmd2 (q : Rq) (x : Int) (hx : 0 ≤ x ∧ x < 4294967296) : rd 2 (cmd2 q x) = ⟨2, 0, 0, 0, 0, pk q.t 3, x, 0, 0⟩ := by
  have pt := pk_bd q.t 3 (by decide)
  unfold cmd2
  generalize pk q.t 3 = T at *
  have l1 := be_len 2 T
  have l2 := be_len 4 x
  have n1 := nb_be 2 T (by omega) (by simp; omega)
  have n2 := nb_be 4 x (by omega) (by simp; omega)
  generalize be T 2 = a at *
  generalize be x 4 = b at *
  unfold rd
  rw [if_neg (by intro h; have := h.1; revert this; decide), if_pos ⟨rfl, by simp [l1, l2]⟩]
  unfold rdSub
  rw [tk_app _ _ l1, dr_app _ _ l1, List.take_of_length_le (by omega), n1, n2]
theorem rd_cmd3 (q : Rq) : rd 3 (cmd3 q) = ⟨3, 0, 0, 0, 0, 0, 0, pk q.c 4, 0⟩ := by
  have pc := pk_bd q.c 4 (by decide)
  unfold cmd3
  generalize pk q.c 4 = C at *
  have l1 := be_len 1 C
  have n1 := nb_be 1 C (by omega) (by simp; omega)
  generalize be C 1 = a at *
  unfold rd
  rw [if_neg (by intro h; have := h.1; revert this; decide), if_neg (by intro h; have := h.1; revert this; decide), if_pos ⟨rfl, l1⟩]
  unfold rdPol
  rw [n1]
theorem rd_cmd4 (q : Rq) : rd 4 (cmd4 q) = ⟨4, 0, 0, 0, 0, 0, 0, 0, pk q.a 30⟩ := by
  have pc := pk_bd q.a 30 (by decide)
  unfold cmd4
  generalize pk q.a 30 = A at *
  have l1 := be_len 8 A
  have n1 := nb_be 8 A (by omega) (by simp; omega)
  generalize be A 8 = a at *
  unfold rd
  rw [if_neg (by intro h; have := h.1; revert this; decide), if_neg (by intro h; have := h.1; revert this; decide), if_neg (by intro h; have := h.1; revert this; decide), if_pos ⟨rfl, l1⟩]
  unfold rdAdv
  rw [n1, if_pos (by omega)]
end Go.Proofs.Ytbdnhllhdjepcaa
