import Derived.Test.YtbdnhllhdjepcaaBegun
import Derived.Deep.DeepCutAuto
namespace Go.Proofs.Ytbdnhllhdjepcaa
set_option linter.unusedVariables false
set_option linter.unusedSimpArgs false
open Go.RowKit Go.Maps

theorem qok_pk (a b c : Int) : QOk (1 + pk a 9) (1 + pk b 60) (pk c 201) := by
  have h1 := pk_bd a 9 (by decide)
  have h2 := pk_bd b 60 (by decide)
  have h3 := pk_bd c 201 (by decide)
  exact qok_small (by omega) (by omega) (by omega) (by omega) (by omega) (by omega)
/-- three raw rates -/
def Raw (a b c : Int) : Prop := I64 a ∧ I64 b ∧ I64 c
/-- the request that lies at a place -/
def AskAt (w : World) (b o : Nat) (q : Rq) : Prop := w.cell? ⟨b, o, none⟩ = some (.int .i64 q.a) ∧ w.cell? ⟨b, o + 1, none⟩ = some (.int .i64 q.t) ∧ w.cell? ⟨b, o + 2, none⟩ = some (.int .i64 q.u) ∧ w.cell? ⟨b, o + 3, none⟩ = some (.int .i64 q.r) ∧ w.cell? ⟨b, o + 4, none⟩ = some (.int .i64 q.c)
/-- one shard: time goes on, and a request comes -/
theorem asked1 (g : St) (now : Int) (D : DW) (a t u r c : Int) (w : World) (hm : MtrAt w g now (fun _ => D)) (ok : g.Ok) (hn : g.n = 1) (hhi : g.hi ≤ w.heap.size) (ha : I64 a) (ht : I64 t) (hu : I64 u) (hr : I64 r) (hc : I64 c) (h0 : 0 ≤ now) (h1 : now ≤ 1000000) (hinv : Inv now D) :
    Calls Try.prog 14 #[.pointer (some ⟨g.mb, 0, none⟩), .agg #[.int .i64 a, .int .i64 t, .int .i64 u, .int .i64 r, .int .i64 c]] w fun e w' =>
      e = .returned (.tuple #[.agg (repV (allowD g.p g.sl D (now + pk a 30) (1 + pk c 4) (pk t 3) (pk u 2) (pk r 2)).1).toArray, .bool true]) ∧
      MtrAt w' g (now + pk a 30) (fun _ => (allowD g.p g.sl D (now + pk a 30) (1 + pk c 4) (pk t 3) (pk u 2) (pk r 2)).2) ∧ Fr g.lo g.hi w w' ∧ Inv (now + pk a 30) (allowD g.p g.sl D (now + pk a 30) (1 + pk c 4) (pk t 3) (pk u 2) (pk r 2)).2 := by
  refine (asked_any g now (fun _ => D) a t u r c 0 w hm ok hhi ha ht hu hr hc h0 h1 (by rw [hn]; exact Int.emod_one _) hinv).mono ?_
  rintro e w' ⟨rfl, hm', hf, hi⟩
  refine ⟨rfl, ⟨hm'.meter, hm'.arr, fun i x hx => ?_, hm'.plan⟩, hf, hi⟩
  have hl := (List.getElem?_eq_some_iff.1 hx).1
  rw [ok.len, hn] at hl
  have h := hm'.shards i x hx
  rw [if_pos (by omega)] at h
  exact h

end Go.Proofs.Ytbdnhllhdjepcaa
