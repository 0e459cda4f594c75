/- What is asked of package node's own Right, RefRight and Low; the walk of NodeRights. -/
import Derived.Test.YtanfjnahdnafnaaNdC
import Derived.Test.YtanfjnahdnafnaaQuN


namespace Go.Proofs.Ytanfjnahdnafnaa.nodes
set_option linter.unusedVariables false
set_option linter.unusedSimpArgs false
open Go.RowKit Go.Proofs.Ytanfjnahdnafnaa.base Go.Proofs.Ytanfjnahdnafnaa.quotas Go.Proofs.Ytanfjnahdnafnaa.vers

def RightIs : Prop := ∀ (a b c d e f h : Int) (lf : Bool) (es : List E) (ks : List K) (A : Option Addr) (cap : Nat) (A' : Option Addr) (cap' : Nat) (w : World), Es w w.heap.size es A cap → Ks w w.heap.size ks A' cap' →
  Calls Try.prog 10 #[.agg #[.int .i64 a, .int .i64 b, .int .i64 c, .int .i64 d, .int .i64 e, .int .i64 f, .int .i64 h], .agg #[.bool lf, .slice A es.length cap, .slice A' ks.length cap']] w fun x w' => x = .returned (.int .i64 (ndbad a b c d e f h lf es ks)) ∧ Below w.heap.size w w'
def RefIs : Prop := ∀ (k : Nat) (g o n : Int) (w : World),
  Calls Try.prog 12 #[.agg #[.int .u64 (k : Int), .int .i64 g, .int .i64 o, .int .i64 n]] w fun x w' => x = .returned (.bool (decide (refOk g o n))) ∧ Below w.heap.size w w'
def LowIs : Prop := ∀ (lf : Bool) (es : List E) (ks : List K) (A : Option Addr) (cap : Nat) (A' : Option Addr) (cap' : Nat) (w : World), Es w w.heap.size es A cap → Ks w w.heap.size ks A' cap' →
  Calls Try.prog 14 #[.agg #[.bool lf, .slice A es.length cap, .slice A' ks.length cap']] w fun x w' => x = .returned (.string (lowOf lf es ks)) ∧ Below w.heap.size w w'

theorem call_in {P : Program} {f : FuncId} {args : Array Value} {v : Value} {S : World → Prop} {N : World → World} {n : World} (hS : ∀ w w', S w → Below w.heap.size w w' → S w') (h1 : ∀ n, S (N n)) (h2 : ∀ w', S w' → ∃ n, w' = N n)
    (hc : Calls P f args (N n) fun e w' => e = .returned v ∧ Below (N n).heap.size (N n) w') : Calls P f args (N n) fun e w'' => e = .returned v ∧ ∃ m, w'' = N m :=
  hc.mono fun _ _ ⟨he, hb⟩ => ⟨he, h2 _ (hS _ _ (h1 n) hb)⟩

/-- behind the law's beginning: the quota's, the node's and the reference's boxes -/
def Br (w : World) (a b c d e f h : Int) (lf : Bool) (u u' : Value) (k : Nat) (g o n : Int) (wr : World) : Prop :=
  Bn w a b c d e f h lf u u' wr ∧ (wr.cell? ⟨w.heap.size + 2, 0, none⟩ = some (.int .u64 (k : Int)) ∧ wr.cell? ⟨w.heap.size + 2, 1, none⟩ = some (.int .i64 g) ∧ wr.cell? ⟨w.heap.size + 2, 2, none⟩ = some (.int .i64 o) ∧ wr.cell? ⟨w.heap.size + 2, 3, none⟩ = some (.int .i64 n)) ∧ w.heap.size + 2 < wr.heap.size
theorem Br.new (w : World) (a b c d e f h : Int) (lf : Bool) (u u' : Value) (k : Nat) (g o n : Int) : Br w a b c d e f h lf u u' k g o n (((w.alloc (.cells #[.int .i64 a, .int .i64 b, .int .i64 c, .int .i64 d, .int .i64 e, .int .i64 f, .int .i64 h] 23)).alloc (.cells #[.bool lf, u, u'] 27)).alloc (.cells #[.int .u64 (k : Int), .int .i64 g, .int .i64 o, .int .i64 n] 30)) := by
  have q := Blk.new ((w.alloc (.cells #[.int .i64 a, .int .i64 b, .int .i64 c, .int .i64 d, .int .i64 e, .int .i64 f, .int .i64 h] 23)).alloc (.cells #[.bool lf, u, u'] 27)) 30 #[.int .u64 (k : Int), .int .i64 g, .int .i64 o, .int .i64 n]
  simp only [World.size_alloc] at q
  exact ⟨(Bn.new w a b c d e f h lf u u').alloc _, ⟨q.cell 0, q.cell 1, q.cell 2, q.cell 3⟩, by simp⟩
theorem Br.next {w wr w' : World} {a b c d e f h : Int} {lf : Bool} {u u' : Value} {k : Nat} {g o n : Int} (h1 : Br w a b c d e f h lf u u' k g o n wr) (hb : Below wr.heap.size wr w') : Br w a b c d e f h lf u u' k g o n w' := by
  obtain ⟨h1, ⟨h2, h3, h5, h6⟩, h4⟩ := h1
  have hs := hb.size
  exact ⟨h1.next hb, ⟨by rw [hb.cell (by simpa using h4)]; exact h2, by rw [hb.cell (by simpa using h4)]; exact h3, by rw [hb.cell (by simpa using h4)]; exact h5, by rw [hb.cell (by simpa using h4)]; exact h6⟩, by omega⟩

set_option maxRecDepth 100000 in
set_option maxHeartbeats 1000000 in
theorem law_rights (hp : RightIs) (hq : RefIs) (hl : LowIs) (a b c d e f h : Int) (lf : Bool) (es : List E) (ks : List K) (A : Option Addr) (cap : Nat) (A' : Option Addr) (cap' : Nat) (k : Nat) (g o n : Int) (w : World) (hv : Es w w.heap.size es A cap) (hk : Ks w w.heap.size ks A' cap') :
    Calls Try.prog 3 #[.agg #[.int .i64 a, .int .i64 b, .int .i64 c, .int .i64 d, .int .i64 e, .int .i64 f, .int .i64 h], .agg #[.bool lf, .slice A es.length cap, .slice A' ks.length cap'], .agg #[.int .u64 (k : Int), .int .i64 g, .int .i64 o, .int .i64 n]] w fun x w' => x = .returned (.bool true) ∧ Below w.heap.size w w' := by
  have B0 := Br.new w a b c d e f h lf (.slice A es.length cap) (.slice A' ks.length cap') k g o n
  have h1 := fun wr (hb : Below w.heap.size w wr) => hp a b c d e f h lf es ks A cap A' cap' wr (hv.at_world hb) (hk.at_world hb)
  have h2 := fun wr (hb : Below w.heap.size w wr) => refNode_any a b c d e f h lf es ks A cap A' cap' wr (hv.at_world hb) (hk.at_world hb)
  have h3 := fun wr => hq k g o n wr
  have h4 := fun wr => refRef_any k g o n wr
  have h5 := fun wr (hb : Below w.heap.size w wr) => hl lf es ks A cap A' cap' wr (hv.at_world hb) (hk.at_world hb)
  have h6 := fun wr (hb : Below w.heap.size w wr) => refLow_any lf es ks A cap A' cap' wr (hv.at_world hb) (hk.at_world hb)
  generalize ndbad a b c d e f h lf es ks = r1 at h1 h2
  generalize decide (refOk g o n) = r2 at h3 h4
  generalize lowOf lf es ks = r3 at h5 h6
  clear hv hk hp hq hl
  generalize es.length = ne at B0 h1 h2 h5 h6 ⊢
  generalize ks.length = nk at B0 h1 h2 h5 h6 ⊢
  go_enter Try.func3, Try.ntmps3
  go_wp2_with fail
  obtain ⟨N, hN, hM⟩ := norms _ _ B0
  have hne : Nonempty World := ⟨w⟩
  have q0 := fun n => (hN n).1.1.1.1
  have q1 := fun n => (hN n).1.1.1.2.1
  have q2 := fun n => (hN n).1.1.1.2.2.1
  have q3 := fun n => (hN n).1.1.1.2.2.2.1
  have q4 := fun n => (hN n).1.1.1.2.2.2.2.1
  have q5 := fun n => (hN n).1.1.1.2.2.2.2.2.1
  have q6 := fun n => (hN n).1.1.1.2.2.2.2.2.2
  have q7 := fun n => (hN n).1.2.1.1
  have q8 := fun n => (hN n).1.2.1.2.1
  have q9 := fun n => (hN n).1.2.1.2.2
  have q10 := fun n => (hN n).2.1.1
  have q11 := fun n => (hN n).2.1.2.1
  have q12 := fun n => (hN n).2.1.2.2.1
  have q13 := fun n => (hN n).2.1.2.2.2
  refine region_class N (by kernel_rfl) (by kernel_rfl) (hM _ (B0.next ((Below.refl _ _).drew))) ?_
  repeat (go_big_quiet_step (first
    | (go_at_call 10; exact call_in (fun _ _ => Br.next) hN hM (h1 _ (hN _).1.below))
    | (go_at_call 11; exact call_in (fun _ _ => Br.next) hN hM (h2 _ (hN _).1.below))
    | (go_at_call 12; exact call_in (fun _ _ => Br.next) hN hM (h3 _))
    | (go_at_call 13; exact call_in (fun _ _ => Br.next) hN hM (h4 _))
    | (go_at_call 14; exact call_in (fun _ _ => Br.next) hN hM (h5 _ (hN _).1.below))
    | (go_at_call 15; exact call_in (fun _ _ => Br.next) hN hM (h6 _ (hN _).1.below))))
  refine wpQuiet_nil ?_
  rintro _ ⟨n, rfl⟩
  have I9 := hN n
  generalize N n = w9 at I9 ⊢
  clear q0 q1 q2 q3 q4 q5 q6 q7 q8 q9 q10 q11 q12 q13 hM hN N n hne h1 h2 h3 h4 h5 h6
  go_wp2_with fail
  go_ret
  exact ⟨rfl, I9.1.below⟩
end Go.Proofs.Ytanfjnahdnafnaa.nodes
