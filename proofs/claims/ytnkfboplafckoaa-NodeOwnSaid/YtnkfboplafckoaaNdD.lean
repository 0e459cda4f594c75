/- What is asked of package node's own Right, RefRight and Low; the walk of NodeRights. -/
import Derived.Test.YtnkfboplafckoaaNdAC
import Derived.Test.YtnkfboplafckoaaQuN


namespace Go.Proofs.Ytnkfboplafckoaa.nodes
set_option linter.unusedVariables false
set_option linter.unusedSimpArgs false
open Go.RowKit Go.Proofs.Ytnkfboplafckoaa.base Go.Proofs.Ytnkfboplafckoaa.quotas Go.Proofs.Ytnkfboplafckoaa.vers

def RightIs : Prop := ∀ (a b c d e f h : Int) (lf : Bool) (es : List E) (ks : List K) (A : Option Addr) (cap : Nat) (A' : Option Addr) (cap' : Nat) (w : World), Es w w.heap.size es A cap → Ks w w.heap.size ks A' cap' →
  Calls Try.prog 15 #[.agg #[.int .i64 a, .int .i64 b, .int .i64 c, .int .i64 d, .int .i64 e, .int .i64 f, .int .i64 h], .agg #[.bool lf, .slice A es.length cap, .slice A' ks.length cap']] w fun x w' => x = .returned (.int .i64 (ndbad a b c d e f h lf es ks)) ∧ Below w.heap.size w w'
def RefIs : Prop := ∀ (k : Nat) (g o n : Int) (w : World),
  Calls Try.prog 94 #[.agg #[.int .u64 (k : Int), .int .i64 g, .int .i64 o, .int .i64 n]] w fun x w' => x = .returned (.bool (decide (refOk g o n))) ∧ Below w.heap.size w w'
def LowIs : Prop := ∀ (lf : Bool) (es : List E) (ks : List K) (A : Option Addr) (cap : Nat) (A' : Option Addr) (cap' : Nat) (w : World), Es w w.heap.size es A cap → Ks w w.heap.size ks A' cap' →
  Calls Try.prog 10 #[.agg #[.bool lf, .slice A es.length cap, .slice A' ks.length cap']] w fun x w' => x = .returned (.string (lowOf lf es ks)) ∧ Below w.heap.size w w'

theorem call_in {P : Program} {f : FuncId} {args : Array Value} {v : Value} {S : World → Prop} {N : World → World} {n : World} (hS : ∀ w w', S w → Below w.heap.size w w' → S w') (h1 : ∀ n, S (N n)) (h2 : ∀ w', S w' → ∃ n, w' = N n)
    (hc : Calls P f args (N n) fun e w' => e = .returned v ∧ Below (N n).heap.size (N n) w') : Calls P f args (N n) fun e w'' => e = .returned v ∧ ∃ m, w'' = N m :=
  hc.mono fun _ _ ⟨he, hb⟩ => ⟨he, h2 _ (hS _ _ (h1 n) hb)⟩

/-- behind the law's beginning: the quota's, the node's and the reference's boxes -/
def Br (w : World) (a b c d e f h : Int) (lf : Bool) (u u' : Value) (k : Nat) (g o n : Int) (wr : World) : Prop :=
  Bn w a b c d e f h lf u u' wr ∧ (wr.cell? ⟨w.heap.size + 2, 0, none⟩ = some (.int .u64 (k : Int)) ∧ wr.cell? ⟨w.heap.size + 2, 1, none⟩ = some (.int .i64 g) ∧ wr.cell? ⟨w.heap.size + 2, 2, none⟩ = some (.int .i64 o) ∧ wr.cell? ⟨w.heap.size + 2, 3, none⟩ = some (.int .i64 n)) ∧ w.heap.size + 2 < wr.heap.size
theorem Br.new (w : World) (a b c d e f h : Int) (lf : Bool) (u u' : Value) (k : Nat) (g o n : Int) : Br w a b c d e f h lf u u' k g o n (((w.alloc (.cells #[.int .i64 a, .int .i64 b, .int .i64 c, .int .i64 d, .int .i64 e, .int .i64 f, .int .i64 h] 23)).alloc (.cells #[.bool lf, u, u'] 27)).alloc (.cells #[.int .u64 (k : Int), .int .i64 g, .int .i64 o, .int .i64 n] 41)) := by
  have q := Blk.new ((w.alloc (.cells #[.int .i64 a, .int .i64 b, .int .i64 c, .int .i64 d, .int .i64 e, .int .i64 f, .int .i64 h] 23)).alloc (.cells #[.bool lf, u, u'] 27)) 41 #[.int .u64 (k : Int), .int .i64 g, .int .i64 o, .int .i64 n]
  simp only [World.size_alloc] at q
  exact ⟨(Bn.new w a b c d e f h lf u u').alloc _, ⟨q.cell 0, q.cell 1, q.cell 2, q.cell 3⟩, by simp⟩
theorem Br.next {w wr w' : World} {a b c d e f h : Int} {lf : Bool} {u u' : Value} {k : Nat} {g o n : Int} (h1 : Br w a b c d e f h lf u u' k g o n wr) (hb : Below wr.heap.size wr w') : Br w a b c d e f h lf u u' k g o n w' := by
  obtain ⟨h1, ⟨h2, h3, h5, h6⟩, h4⟩ := h1
  have hs := hb.size
  exact ⟨h1.next hb, ⟨by rw [hb.cell (by simpa using h4)]; exact h2, by rw [hb.cell (by simpa using h4)]; exact h3, by rw [hb.cell (by simpa using h4)]; exact h5, by rw [hb.cell (by simpa using h4)]; exact h6⟩, by omega⟩

end Go.Proofs.Ytnkfboplafckoaa.nodes
