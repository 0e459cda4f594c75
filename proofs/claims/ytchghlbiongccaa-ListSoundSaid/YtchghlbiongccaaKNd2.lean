/- What is asked of package node's own Right, RefRight and Low; the walk of NodeRights. -/
import Derived.Test.YtchghlbiongccaaKEs
import Derived.Test.YtchghlbiongccaaKQuA
import Derived.Test.YtchghlbiongccaaKVerI


namespace Go.Proofs.Ytchghlbiongccaa.nodes.two
set_option linter.unusedVariables false
set_option linter.unusedSimpArgs false
open Go.RowKit Go.Proofs.Ytchghlbiongccaa.base Go.Proofs.Ytchghlbiongccaa.quotas Go.Proofs.Ytchghlbiongccaa.vers

def RightIs : Prop := ∀ (a b c d e f h : Int) (lf : Bool) (es : List E) (ks : List K) (A : Option Addr) (cap : Nat) (A' : Option Addr) (cap' : Nat) (w : World), Es w w.heap.size es A cap → Ks w w.heap.size ks A' cap' →
  Calls Try.prog 76 #[.agg #[.int .i64 a, .int .i64 b, .int .i64 c, .int .i64 d, .int .i64 e, .int .i64 f, .int .i64 h], .agg #[.bool lf, .slice A es.length cap, .slice A' ks.length cap']] w fun x w' => x = .returned (.int .i64 (ndbad a b c d e f h lf es ks)) ∧ Below w.heap.size w w'
def RefIs : Prop := ∀ (k : Nat) (g o n : Int) (w : World),
  Calls Try.prog 163 #[.agg #[.int .u64 (k : Int), .int .i64 g, .int .i64 o, .int .i64 n]] w fun x w' => x = .returned (.bool (decide (refOk g o n))) ∧ Below w.heap.size w w'
def LowIs : Prop := ∀ (lf : Bool) (es : List E) (ks : List K) (A : Option Addr) (cap : Nat) (A' : Option Addr) (cap' : Nat) (w : World), Es w w.heap.size es A cap → Ks w w.heap.size ks A' cap' →
  Calls Try.prog 143 #[.agg #[.bool lf, .slice A es.length cap, .slice A' ks.length cap']] w fun x w' => x = .returned (.string (lowOf lf es ks)) ∧ Below w.heap.size w w'

theorem call_in {P : Program} {f : FuncId} {args : Array Value} {v : Value} {S : World → Prop} {N : World → World} {n : World} (hS : ∀ w w', S w → Below w.heap.size w w' → S w') (h1 : ∀ n, S (N n)) (h2 : ∀ w', S w' → ∃ n, w' = N n)
    (hc : Calls P f args (N n) fun e w' => e = .returned v ∧ Below (N n).heap.size (N n) w') : Calls P f args (N n) fun e w'' => e = .returned v ∧ ∃ m, w'' = N m :=
  hc.mono fun _ _ ⟨he, hb⟩ => ⟨he, h2 _ (hS _ _ (h1 n) hb)⟩

/-- behind the law's beginning: the quota's, the node's and the reference's boxes -/
def Br (w : World) (a b c d e f h : Int) (lf : Bool) (u u' : Value) (k : Nat) (g o n : Int) (wr : World) : Prop :=
  Bn w a b c d e f h lf u u' wr ∧ (wr.cell? ⟨w.heap.size + 2, 0, none⟩ = some (.int .u64 (k : Int)) ∧ wr.cell? ⟨w.heap.size + 2, 1, none⟩ = some (.int .i64 g) ∧ wr.cell? ⟨w.heap.size + 2, 2, none⟩ = some (.int .i64 o) ∧ wr.cell? ⟨w.heap.size + 2, 3, none⟩ = some (.int .i64 n)) ∧ w.heap.size + 2 < wr.heap.size
theorem Br.new (w : World) (a b c d e f h : Int) (lf : Bool) (u u' : Value) (k : Nat) (g o n : Int) : Br w a b c d e f h lf u u' k g o n (((w.alloc (.cells #[.int .i64 a, .int .i64 b, .int .i64 c, .int .i64 d, .int .i64 e, .int .i64 f, .int .i64 h] 71)).alloc (.cells #[.bool lf, u, u'] 101)).alloc (.cells #[.int .u64 (k : Int), .int .i64 g, .int .i64 o, .int .i64 n] 44)) := by
  have q := Blk.new ((w.alloc (.cells #[.int .i64 a, .int .i64 b, .int .i64 c, .int .i64 d, .int .i64 e, .int .i64 f, .int .i64 h] 71)).alloc (.cells #[.bool lf, u, u'] 101)) 44 #[.int .u64 (k : Int), .int .i64 g, .int .i64 o, .int .i64 n]
  simp only [World.size_alloc] at q
  exact ⟨(Bn.new w a b c d e f h lf u u').alloc _, ⟨q.cell 0, q.cell 1, q.cell 2, q.cell 3⟩, by simp⟩
theorem Br.next {w wr w' : World} {a b c d e f h : Int} {lf : Bool} {u u' : Value} {k : Nat} {g o n : Int} (h1 : Br w a b c d e f h lf u u' k g o n wr) (hb : Below wr.heap.size wr w') : Br w a b c d e f h lf u u' k g o n w' := by
  obtain ⟨h1, ⟨h2, h3, h5, h6⟩, h4⟩ := h1
  have hs := hb.size
  exact ⟨h1.next hb, ⟨by rw [hb.cell (by simpa using h4)]; exact h2, by rw [hb.cell (by simpa using h4)]; exact h3, by rw [hb.cell (by simpa using h4)]; exact h5, by rw [hb.cell (by simpa using h4)]; exact h6⟩, by omega⟩

end Go.Proofs.Ytchghlbiongccaa.nodes.two

/- What package node's own within, RefRight, rightKid and Low answer, and the judges that rightLeaf and rightInner hand on. -/

namespace Go.Proofs.Ytchghlbiongccaa.nodes.two
set_option linter.unusedVariables false
set_option linter.unusedSimpArgs false
open Go.RowKit Go.Proofs.Ytchghlbiongccaa.base Go.Proofs.Ytchghlbiongccaa.quotas Go.Proofs.Ytchghlbiongccaa.vers

set_option maxRecDepth 100000 in
set_option maxHeartbeats 1000000 in
theorem own_within (n lo hi : Int) (r : Bool) (w : World) (h : decide (lo ≤ n ∧ n ≤ hi) = r) :
    Calls Try.prog 180 #[.int .i64 n, .int .i64 lo, .int .i64 hi] w fun x w' => x = .returned (.bool r) ∧ Below w.heap.size w w' := by
  by_cases h1 : lo ≤ n
  · have d1 : decide (lo ≤ n) = true := decide_eq_true h1
    by_cases h2 : n ≤ hi
    · have d2 : decide (n ≤ hi) = true := decide_eq_true h2
      rw [← h, decide_eq_true ⟨h1, h2⟩]
      clear h h1 h2
      go_enter Try.func180, Try.ntmps180
      go_wp2_with fail
      go_ret
      exact ⟨rfl, Below.refl _ _⟩
    · have d2 : decide (n ≤ hi) = false := decide_eq_false h2
      rw [← h, decide_eq_false (fun k => h2 k.2)]
      clear h h1 h2
      go_enter Try.func180, Try.ntmps180
      go_wp2_with fail
      go_ret
      exact ⟨rfl, Below.refl _ _⟩
  · have d1 : decide (lo ≤ n) = false := decide_eq_false h1
    rw [← h, decide_eq_false (fun k => h1 k.1)]
    clear h h1
    go_enter Try.func180, Try.ntmps180
    go_wp2_with fail
    go_ret
    exact ⟨rfl, Below.refl _ _⟩

/-- a box of the call's own that holds a reference -/
def Rb (w : World) (k : Nat) (g o n : Int) (wr : World) : Prop := (wr.cell? ⟨w.heap.size, 0, none⟩ = some (.int .u64 (k : Int)) ∧ wr.cell? ⟨w.heap.size, 1, none⟩ = some (.int .i64 g) ∧ wr.cell? ⟨w.heap.size, 2, none⟩ = some (.int .i64 o) ∧ wr.cell? ⟨w.heap.size, 3, none⟩ = some (.int .i64 n)) ∧ w.heap.size < wr.heap.size ∧ Below w.heap.size w wr
theorem Rb.new (w : World) (k : Nat) (g o n : Int) : Rb w k g o n (w.alloc (.cells #[.int .u64 (k : Int), .int .i64 g, .int .i64 o, .int .i64 n] 44)) := by
  have q := Blk.new w 44 #[.int .u64 (k : Int), .int .i64 g, .int .i64 o, .int .i64 n]
  exact ⟨⟨q.cell 0, q.cell 1, q.cell 2, q.cell 3⟩, by simp, (Below.refl _ _).alloc (Nat.le_refl _) _⟩
theorem Rb.next {w wr w' : World} {k : Nat} {g o n : Int} (h1 : Rb w k g o n wr) (hb : Below wr.heap.size wr w') : Rb w k g o n w' := by
  obtain ⟨⟨h2, h3, h5, h6⟩, h4, h7⟩ := h1
  have hs := hb.size
  refine ⟨⟨?_, ?_, ?_, ?_⟩, by omega, h7.trans (hb.mono h7.size)⟩ <;> (rw [hb.cell (by simpa using h4)]; assumption)
theorem refOk_is {g o n : Int} {r1 r2 r3 : Bool} (h1 : decide ((0 : Int) ≤ g ∧ g ≤ 1048576) = r1) (h2 : decide ((0 : Int) ≤ o ∧ o ≤ 134217728) = r2) (h3 : decide ((1 : Int) ≤ n ∧ n ≤ 1048576) = r3) : decide (refOk g o n) = (r1 && r2 && r3) := by
  subst h1 h2 h3
  rw [Bool.eq_iff_iff, decide_eq_true_iff]
  unfold refOk
  simp [and_assoc]

set_option maxRecDepth 100000 in
set_option maxHeartbeats 1000000 in
theorem ownRef_any (k : Nat) (g o n : Int) (w : World) :
    Calls Try.prog 163 #[.agg #[.int .u64 (k : Int), .int .i64 g, .int .i64 o, .int .i64 n]] w fun x w' => x = .returned (.bool (decide (refOk g o n))) ∧ Below w.heap.size w w' := by
  have I0 := Rb.new w k g o n
  cases h1 : decide ((0 : Int) ≤ g ∧ g ≤ 1048576) with
  | false =>
    rw [refOk_is h1 rfl rfl]
    have hc := fun w' => own_within g 0 1048576 false w' h1
    clear h1
    go_enter Try.func163, Try.ntmps163
    go_wp2_with fail
    refine (hc _).mono ?_
    rintro x w1 ⟨rfl, hb1⟩
    have I1 := I0.next hb1
    clear I0 hb1
    obtain ⟨⟨c0, c1, c2, c3⟩, c4, c5⟩ := I1
    go_wp2_with fail
    go_ret
    exact ⟨ret_bool (by simp), c5⟩
  | true =>
    cases h2 : decide ((0 : Int) ≤ o ∧ o ≤ 134217728) with
    | false =>
      rw [refOk_is h1 h2 rfl]
      have hc := fun w' => own_within g 0 1048576 true w' h1
      have hc2 := fun w' => own_within o 0 134217728 false w' h2
      clear h1 h2
      go_enter Try.func163, Try.ntmps163
      go_wp2_with fail
      refine (hc _).mono ?_
      rintro x w1 ⟨rfl, hb1⟩
      have I1 := I0.next hb1
      clear I0 hb1
      obtain ⟨⟨c0, c1, c2, c3⟩, c4, c5⟩ := id I1
      go_wp2_with fail
      refine (hc2 _).mono ?_
      rintro x w2 ⟨rfl, hb2⟩
      have I2 := I1.next hb2
      clear I1 hb2 c0 c1 c2 c3 c4 c5
      obtain ⟨⟨c0, c1, c2, c3⟩, c4, c5⟩ := I2
      go_wp2_with fail
      go_ret
      exact ⟨ret_bool (by simp), c5⟩
    | true =>
      rw [refOk_is h1 h2 rfl]
      generalize h3 : decide ((1 : Int) ≤ n ∧ n ≤ 1048576) = r3
      have hc := fun w' => own_within g 0 1048576 true w' h1
      have hc2 := fun w' => own_within o 0 134217728 true w' h2
      have hc3 := fun w' => own_within n 1 1048576 r3 w' h3
      clear h1 h2 h3
      go_enter Try.func163, Try.ntmps163
      go_wp2_with fail
      refine (hc _).mono ?_
      rintro x w1 ⟨rfl, hb1⟩
      have I1 := I0.next hb1
      clear I0 hb1
      obtain ⟨⟨c0, c1, c2, c3⟩, c4, c5⟩ := id I1
      go_wp2_with fail
      refine (hc2 _).mono ?_
      rintro x w2 ⟨rfl, hb2⟩
      have I2 := I1.next hb2
      clear I1 hb2 c0 c1 c2 c3 c4 c5
      obtain ⟨⟨c0, c1, c2, c3⟩, c4, c5⟩ := id I2
      go_wp2_with fail
      refine (hc3 _).mono ?_
      rintro x w3 ⟨rfl, hb3⟩
      have I3 := I2.next hb3
      clear I2 hb3 c0 c1 c2 c3 c4 c5
      obtain ⟨⟨c0, c1, c2, c3⟩, c4, c5⟩ := I3
      go_wp2_with fail
      go_ret
      exact ⟨ret_bool (by simp), c5⟩
theorem refIs : RefIs := fun k g o n w => ownRef_any k g o n w

/-- what is wrong with a kid alone -/
def kone (b : Int) (x : K) : Int := if x.s.size = 0 then 4 else if b < x.s.size then 5 else if ¬ refOk x.g x.o x.n then 61 else 0
/-- behind rightKid's beginning: the quota's and the kid's boxes -/
def Kq (w : World) (a b c d e f h : Int) (x : K) (wr : World) : Prop :=
  In7 w w.heap.size a b c d e f h wr ∧ (wr.cell? ⟨w.heap.size + 1, 0, none⟩ = some (.string x.s) ∧ wr.cell? ⟨w.heap.size + 1, 1, none⟩ = some (.int .u64 (x.k : Int)) ∧ wr.cell? ⟨w.heap.size + 1, 2, none⟩ = some (.int .i64 x.g) ∧ wr.cell? ⟨w.heap.size + 1, 3, none⟩ = some (.int .i64 x.o) ∧ wr.cell? ⟨w.heap.size + 1, 4, none⟩ = some (.int .i64 x.n)) ∧ w.heap.size + 1 < wr.heap.size
theorem Kq.new (w : World) (a b c d e f h : Int) (x : K) : Kq w a b c d e f h x ((w.alloc (.cells #[.int .i64 a, .int .i64 b, .int .i64 c, .int .i64 d, .int .i64 e, .int .i64 f, .int .i64 h] 71)).alloc (.cells #[.string x.s, .int .u64 (x.k : Int), .int .i64 x.g, .int .i64 x.o, .int .i64 x.n] 157)) := by
  have k := Blk.new (w.alloc (.cells #[.int .i64 a, .int .i64 b, .int .i64 c, .int .i64 d, .int .i64 e, .int .i64 f, .int .i64 h] 71)) 157 #[.string x.s, .int .u64 (x.k : Int), .int .i64 x.g, .int .i64 x.o, .int .i64 x.n]
  rw [World.size_alloc] at k
  exact ⟨(In7.new w a b c d e f h).alloc _, ⟨k.cell 0, k.cell 1, k.cell 2, k.cell 3, k.cell 4⟩, by simp⟩
theorem Kq.next {w wr w' : World} {a b c d e f h : Int} {x : K} (h1 : Kq w a b c d e f h x wr) (hb : Below wr.heap.size wr w') : Kq w a b c d e f h x w' := by
  obtain ⟨h1, ⟨h2, h3, h5, h6, h7⟩, h4⟩ := h1
  have hs := hb.size
  refine ⟨h1.next hb, ⟨?_, ?_, ?_, ?_, ?_⟩, by omega⟩ <;> (rw [hb.cell (by simpa using h4)]; assumption)

set_option maxRecDepth 100000 in
set_option maxHeartbeats 1000000 in
theorem rightKid_any (a b c d e f h : Int) (x : K) (w : World) :
    Calls Try.prog 142 #[.agg #[.int .i64 a, .int .i64 b, .int .i64 c, .int .i64 d, .int .i64 e, .int .i64 f, .int .i64 h], .agg #[.string x.s, .int .u64 (x.k : Int), .int .i64 x.g, .int .i64 x.o, .int .i64 x.n]] w fun y w' => y = .returned (.int .i64 (kone b x)) ∧ Below w.heap.size w w' := by
  have I0 := Kq.new w a b c d e f h x
  unfold kone
  by_cases g1 : x.s.size = 0
  · have hs0 := empty_yes g1
    rw [if_pos g1]
    clear g1
    go_enter Try.func142, Try.ntmps142
    go_wp2_with fail
    go_ret
    exact ⟨rfl, I0.1.2.2.2⟩
  · have hs0 := empty_no g1
    rw [if_neg g1]
    clear g1
    by_cases g2 : b < (x.s.size : Int)
    · have d2 : decide (b < (x.s.size : Int)) = true := decide_eq_true g2
      rw [if_pos g2]
      clear g2
      go_enter Try.func142, Try.ntmps142
      go_wp2_with fail
      go_ret
      exact ⟨rfl, I0.1.2.2.2⟩
    · have d2 : decide (b < (x.s.size : Int)) = false := decide_eq_false g2
      rw [if_neg g2]
      clear g2
      have hc := fun w' => ownRef_any x.k x.g x.o x.n w'
      by_cases g3 : refOk x.g x.o x.n
      · rw [decide_eq_true g3] at hc
        rw [if_neg (by simpa using g3)]
        clear g3
        go_enter Try.func142, Try.ntmps142
        go_wp2_with fail
        refine (hc _).mono ?_
        rintro y w1 ⟨rfl, hb1⟩
        have I1 := I0.next hb1
        go_wp2_with fail
        go_ret
        exact ⟨rfl, I1.1.2.2.2⟩
      · rw [decide_eq_false g3] at hc
        rw [if_pos g3]
        clear g3
        go_enter Try.func142, Try.ntmps142
        go_wp2_with fail
        refine (hc _).mono ?_
        rintro y w1 ⟨rfl, hb1⟩
        have I1 := I0.next hb1
        go_wp2_with fail
        go_ret
        exact ⟨rfl, I1.1.2.2.2⟩

/-- block g holds a quota -/
def Q7 (w : World) (g : Nat) (a b c d e f h : Int) : Prop :=
  (w.cell? ⟨g, 0, none⟩ = some (.int .i64 a) ∧ w.cell? ⟨g, 1, none⟩ = some (.int .i64 b) ∧ w.cell? ⟨g, 2, none⟩ = some (.int .i64 c) ∧ w.cell? ⟨g, 3, none⟩ = some (.int .i64 d) ∧
    w.cell? ⟨g, 4, none⟩ = some (.int .i64 e) ∧ w.cell? ⟨g, 5, none⟩ = some (.int .i64 f) ∧ w.cell? ⟨g, 6, none⟩ = some (.int .i64 h)) ∧ g < w.heap.size
theorem Q7.next {w w' : World} {g : Nat} {a b c d e f h : Int} (h1 : Q7 w g a b c d e f h) (hb : Below w.heap.size w w') : Q7 w' g a b c d e f h := by
  obtain ⟨⟨c0, c1, c2, c3, c4, c5, c6⟩, h3⟩ := h1
  have hs := hb.size
  refine ⟨⟨?_, ?_, ?_, ?_, ?_, ?_, ?_⟩, by omega⟩ <;> (rw [hb.cell (by simpa using h3)]; assumption)
theorem Q7.at_ {w wr : World} {g : Nat} {a b c d e f h : Int} (h1 : Q7 w g a b c d e f h) (hb : Below w.heap.size w wr) : Q7 wr g a b c d e f h := h1.next hb
theorem Q7.of {w w0 : World} {g : Nat} {a b c d e f h : Int} (h1 : In7 w0 g a b c d e f h w) : Q7 w g a b c d e f h := ⟨h1.1, h1.2.2.1⟩
/-- behind a judge's beginning: the quota, the box of what is judged -/
def Jb (w : World) (g : Nat) (a b c d e f h : Int) (cs : List Value) (wr : World) : Prop := Q7 wr g a b c d e f h ∧ (∀ j v, cs[j]? = some v → wr.cell? ⟨w.heap.size, j, none⟩ = some v) ∧ w.heap.size < wr.heap.size ∧ Below w.heap.size w wr
theorem Jb.new {w : World} {g : Nat} {a b c d e f h : Int} (h1 : Q7 w g a b c d e f h) (cs : Array Value) (t : Nat) : Jb w g a b c d e f h cs.toList (w.alloc (.cells cs t)) :=
  ⟨h1.next ((Below.refl _ _).alloc (Nat.le_refl _) _), fun j v hj => by rw [(Blk.new w t cs).cell j]; simpa using hj, by simp, (Below.refl _ _).alloc (Nat.le_refl _) _⟩
theorem Jb.next {w wr w' : World} {g : Nat} {a b c d e f h : Int} {cs : List Value} (h1 : Jb w g a b c d e f h cs wr) (hb : Below wr.heap.size wr w') : Jb w g a b c d e f h cs w' := by
  obtain ⟨h1, h2, h3, h4⟩ := h1
  have hs := hb.size
  exact ⟨h1.next hb, fun j v hj => by rw [hb.cell (by simpa using h3)]; exact h2 j v hj, by omega, h4.trans (hb.mono h4.size)⟩

set_option maxRecDepth 100000 in
set_option maxHeartbeats 1000000 in
theorem judgeK_any (a b c d e f h : Int) (x : K) (g : Nat) (w : World) (hq : Q7 w g a b c d e f h) :
    Calls Try.prog 141 #[.agg #[.string x.s, .int .u64 (x.k : Int), .int .i64 x.g, .int .i64 x.o, .int .i64 x.n], .pointer (some ⟨g, 0, none⟩)] w fun y w' => y = .returned (.tuple #[.string x.s, .int .i64 (kone b x)]) ∧ Below w.heap.size w w' := by
  have I0 := Jb.new hq #[.string x.s, .int .u64 (x.k : Int), .int .i64 x.g, .int .i64 x.o, .int .i64 x.n] 157
  have hc := fun wr (_ : Below w.heap.size w wr) => rightKid_any a b c d e f h x wr
  clear hq
  go_enter Try.func141, Try.ntmps141
  go_wp2_with fail
  obtain ⟨N, hN, hM⟩ := norms _ _ I0
  have hne : Nonempty World := ⟨w⟩
  have q0 := fun n => (hN n).1.1.1
  have q1 := fun n => (hN n).1.1.2.1
  have q2 := fun n => (hN n).1.1.2.2.1
  have q3 := fun n => (hN n).1.1.2.2.2.1
  have q4 := fun n => (hN n).1.1.2.2.2.2.1
  have q5 := fun n => (hN n).1.1.2.2.2.2.2.1
  have q6 := fun n => (hN n).1.1.2.2.2.2.2.2
  have q7 := fun n => (hN n).2.1 0 _ rfl
  have q8 := fun n => (hN n).2.1 1 _ rfl
  have q9 := fun n => (hN n).2.1 2 _ rfl
  have q10 := fun n => (hN n).2.1 3 _ rfl
  have q11 := fun n => (hN n).2.1 4 _ rfl
  have gl := fun n => (hN n).1.2
  refine region_class N (by kernel_rfl) (by kernel_rfl) (hM _ (I0.next ((Below.refl _ _).drew))) ?_
  repeat (go_big_quiet_step (first | (go_at_call 142; exact call_in (fun _ _ => Jb.next) hN hM (hc _ (hN _).2.2.2))))
  refine wpQuiet_nil ?_
  rintro _ ⟨n, rfl⟩
  have I9 := hN n
  generalize N n = w9 at I9 ⊢
  clear q0 q1 q2 q3 q4 q5 q6 q7 q8 q9 q10 q11 gl hM hN N n hne hc
  go_wp2_with fail
  go_ret2
  exact ⟨rfl, I9.2.2.2⟩

set_option maxRecDepth 100000 in
set_option maxHeartbeats 1000000 in
theorem judgeE_any (a b c d e f h : Int) (s : ByteArray) (l : List V) (A : Option Addr) (cap : Nat) (g : Nat) (w : World) (hq : Q7 w g a b c d e f h) (hv : Vs w w.heap.size l A cap) :
    Calls Try.prog 138 #[.agg #[.string s, .slice A l.length cap], .pointer (some ⟨g, 0, none⟩)] w fun y w' => y = .returned (.tuple #[.string s, .int .i64 (rb (nbad a b c d e f h s l) l)]) ∧ Below w.heap.size w w' := by
  have I0 := Jb.new hq #[.string s, .slice A l.length cap] 58
  have hc := fun wr (hb : Below w.heap.size w wr) => right_any a b c d e f h s l A cap wr (hv.now hb hb.size)
  generalize rb (nbad a b c d e f h s l) l = r at hc ⊢
  generalize l.length = ne at I0 hc ⊢
  clear hv
  clear hq
  go_enter Try.func138, Try.ntmps138
  go_wp2_with fail
  obtain ⟨N, hN, hM⟩ := norms _ _ I0
  have hne : Nonempty World := ⟨w⟩
  have q0 := fun n => (hN n).1.1.1
  have q1 := fun n => (hN n).1.1.2.1
  have q2 := fun n => (hN n).1.1.2.2.1
  have q3 := fun n => (hN n).1.1.2.2.2.1
  have q4 := fun n => (hN n).1.1.2.2.2.2.1
  have q5 := fun n => (hN n).1.1.2.2.2.2.2.1
  have q6 := fun n => (hN n).1.1.2.2.2.2.2.2
  have q7 := fun n => (hN n).2.1 0 _ rfl
  have q8 := fun n => (hN n).2.1 1 _ rfl
  have gl := fun n => (hN n).1.2
  refine region_class N (by kernel_rfl) (by kernel_rfl) (hM _ (I0.next ((Below.refl _ _).drew))) ?_
  repeat (go_big_quiet_step (first | (go_at_call 139; exact call_in (fun _ _ => Jb.next) hN hM (hc _ (hN _).2.2.2))))
  refine wpQuiet_nil ?_
  rintro _ ⟨n, rfl⟩
  have I9 := hN n
  generalize N n = w9 at I9 ⊢
  clear q0 q1 q2 q3 q4 q5 q6 q7 q8 gl hM hN N n hne hc
  go_wp2_with fail
  go_ret2
  exact ⟨rfl, I9.2.2.2⟩

set_option maxRecDepth 100000 in
set_option maxHeartbeats 1000000 in
theorem ownLow_none1 (A : Option Addr) (cap : Nat) (A' : Option Addr) (cap' : Nat) (nk : Nat) (w : World) :
    Calls Try.prog 143 #[.agg #[.bool true, .slice A 0 cap, .slice A' nk cap']] w fun x w' => x = .returned (.string ⟨#[]⟩) ∧ Below w.heap.size w w' := by
  go_enter Try.func143, Try.ntmps143
  go_wp2_with fail
  go_ret
  exact ⟨rfl, (Below.refl _ _).alloc (Nat.le_refl _) _⟩

set_option maxRecDepth 100000 in
set_option maxHeartbeats 1000000 in
theorem ownLow_none2 (A : Option Addr) (cap : Nat) (A' : Option Addr) (cap' : Nat) (ne : Nat) (w : World) :
    Calls Try.prog 143 #[.agg #[.bool false, .slice A ne cap, .slice A' 0 cap']] w fun x w' => x = .returned (.string ⟨#[]⟩) ∧ Below w.heap.size w w' := by
  go_enter Try.func143, Try.ntmps143
  go_wp2_with fail
  go_ret
  exact ⟨rfl, (Below.refl _ _).alloc (Nat.le_refl _) _⟩

set_option maxRecDepth 100000 in
set_option maxHeartbeats 1000000 in
theorem ownLow_leaf (bk off cap : Nat) (A' : Option Addr) (cap' : Nat) (ne nk : Nat) (s : ByteArray) (w : World) (hp : 0 < ne) (hm : ne ≤ 140737488355328) (hb : bk < w.heap.size) (hs : w.cell? ⟨bk, off, none⟩ = some (.string s)) :
    Calls Try.prog 143 #[.agg #[.bool true, .slice (some ⟨bk, off, none⟩) ne cap, .slice A' nk cap']] w fun x w' => x = .returned (.string s) ∧ Below w.heap.size w w' := by
  have hp1 : (0 : Int) < (ne : Int) := by omega
  go_enter Try.func143, Try.ntmps143
  go_wp2_with fail
  go_ret
  exact ⟨rfl, (Below.refl _ _).alloc (Nat.le_refl _) _⟩

set_option maxRecDepth 100000 in
set_option maxHeartbeats 1000000 in
theorem ownLow_inner (A : Option Addr) (cap : Nat) (bk off cap' : Nat) (ne nk : Nat) (s : ByteArray) (w : World) (hp : 0 < nk) (hm : nk ≤ 140737488355328) (hb : bk < w.heap.size) (hs : w.cell? ⟨bk, off, none⟩ = some (.string s)) :
    Calls Try.prog 143 #[.agg #[.bool false, .slice A ne cap, .slice (some ⟨bk, off, none⟩) nk cap']] w fun x w' => x = .returned (.string s) ∧ Below w.heap.size w w' := by
  have hp1 : (0 : Int) < (nk : Int) := by omega
  go_enter Try.func143, Try.ntmps143
  go_wp2_with fail
  go_ret
  exact ⟨rfl, (Below.refl _ _).alloc (Nat.le_refl _) _⟩

theorem ownLow_any (lf : Bool) (es : List E) (ks : List K) (A : Option Addr) (cap : Nat) (A' : Option Addr) (cap' : Nat) (w : World) (hv : Es w w.heap.size es A cap) (hk : Ks w w.heap.size ks A' cap') :
    Calls Try.prog 143 #[.agg #[.bool lf, .slice A es.length cap, .slice A' ks.length cap']] w fun x w' => x = .returned (.string (lowOf lf es ks)) ∧ Below w.heap.size w w' := by
  have hlen : es.length ≤ 140737488355328 := by have := hv.2.1; omega
  have hlen' : ks.length ≤ 140737488355328 := by have := hk.2.1; omega
  cases lf with
  | true =>
    by_cases h0 : es = []
    · subst h0
      exact ownLow_none1 A cap A' cap' _ w
    · have hp : 0 < es.length := by cases es with | nil => exact absurd rfl h0 | cons _ _ => simp
      obtain ⟨bk, off, rfl, hb, e0, _, _⟩ := hv.at_ hp
      rw [show lowOf true es ks = es[0].s by cases es with | nil => exact absurd rfl h0 | cons _ _ => rfl]
      exact ownLow_leaf bk off cap A' cap' _ _ _ w hp hlen hb (by simpa using e0)
  | false =>
    by_cases h0 : ks = []
    · subst h0
      exact ownLow_none2 A cap A' cap' _ w
    · have hp : 0 < ks.length := by cases ks with | nil => exact absurd rfl h0 | cons _ _ => simp
      obtain ⟨bk, off, rfl, hb, e0, _, _⟩ := hk.at_ hp
      rw [show lowOf false es ks = ks[0].s by cases ks with | nil => exact absurd rfl h0 | cons _ _ => rfl]
      exact ownLow_inner A cap bk off cap' _ _ _ w hp hlen' hb (by simpa using e0)

theorem lowIs : LowIs := fun lf es ks A cap A2 cap2 w hv hk => ownLow_any lf es ks A cap A2 cap2 w hv hk
end Go.Proofs.Ytchghlbiongccaa.nodes.two

/- What package node's own Right answers: a loop over parts, each judged by a function that is handed on. -/

namespace Go.Proofs.Ytchghlbiongccaa.nodes.two
set_option linter.unusedVariables false
set_option linter.unusedSimpArgs false
open Go.RowKit Go.Proofs.Ytchghlbiongccaa.base Go.Proofs.Ytchghlbiongccaa.quotas Go.Proofs.Ytchghlbiongccaa.vers

/-- the text that stands ahead: the empty one ahead of all -/
def bef : Option ByteArray → ByteArray
  | none => ⟨#[]⟩
  | some s => s
theorem behind_bef {s : ByteArray} (h : s.size ≠ 0) (p : Option ByteArray) : behind s p = sle s (bef p) := by
  cases p with
  | some y => rfl
  | none =>
    have h1 := empty_no h
    have he : (⟨#[]⟩ : ByteArray).toList = [] := List.isEmpty_iff.1 (empty_yes (s := ⟨#[]⟩) rfl)
    show false = sle s ⟨#[]⟩
    cases hs : s.toList with
    | nil => rw [hs] at h1; cases h1
    | cons x l => unfold sle; rw [hs, he]; rfl
theorem kbad_one (b : Int) (p : Option ByteArray) (l : List K) {j : Nat} (hj : j < l.length) : kbad b p (l.drop j) = if kone b l[j] ≠ 0 then kone b l[j] else if sle l[j].s (bef p) = true then 60 else kbad b (some l[j].s) (l.drop (j + 1)) := by
  rw [kbad_at b p l hj]
  unfold kone
  by_cases h1 : l[j].s.size = 0
  · rw [if_pos h1, if_pos h1]; simp
  · rw [if_neg h1, if_neg h1]
    by_cases h2 : b < (l[j].s.size : Int)
    · rw [if_pos h2, if_pos h2]; simp
    · rw [if_neg h2, if_neg h2]
      by_cases h3 : ¬ refOk l[j].g l[j].o l[j].n
      · rw [if_pos h3, if_pos h3]; simp
      · rw [if_neg h3, if_neg h3, behind_bef h1]; simp
theorem nbad_name {a b c d e f h : Int} {s : ByteArray} {l : List V} (hz : rb (nbad a b c d e f h s l) l = 0) : s.size ≠ 0 := by
  intro h0
  unfold rb nbad at hz
  by_cases hk : ok a b c d e f h
  · rw [if_pos hk, if_pos h0] at hz
    simp at hz
  · rw [if_neg hk] at hz
    simp at hz
theorem ebad_one (a b c d e f h : Int) (p : Option ByteArray) (l : List E) {j : Nat} (hj : j < l.length) : ebad a b c d e f h p (l.drop j) = if rb (nbad a b c d e f h l[j].s l[j].l) l[j].l ≠ 0 then rb (nbad a b c d e f h l[j].s l[j].l) l[j].l else if sle l[j].s (bef p) = true then 60 else ebad a b c d e f h (some l[j].s) (l.drop (j + 1)) := by
  rw [ebad_at a b c d e f h p l hj]
  by_cases hz : rb (nbad a b c d e f h l[j].s l[j].l) l[j].l = 0
  · rw [behind_bef (nbad_name hz)]
  · rw [if_pos hz, if_pos hz]

/-- a round's head: so far nothing is wrong -/
def RHeadK (w : World) (g : Nat) (a b c d e f h : Int) (ks : List K) (x y : Value) (wr : World) : Prop :=
  ∃ j : Nat, j ≤ ks.length ∧ x = .string (bef (aheadK ks j)) ∧ y = .int .i64 j ∧ Hid (kbad b none ks = kbad b (aheadK ks j) (ks.drop j)) ∧ Q7 wr g a b c d e f h ∧ Below w.heap.size w wr

set_option maxRecDepth 100000 in
set_option maxHeartbeats 1000000 in
theorem risingK_any (a b c d e f h : Int) (ks : List K) (A : Option Addr) (cap : Nat) (g : Nat) (w : World) (hq : Q7 w g a b c d e f h) (hk : Ks w w.heap.size ks A cap) :
    Calls Try.prog 140 #[.slice A ks.length cap, .func (.func 141) #[] #[.pointer (some ⟨g, 0, none⟩)]] w fun x w' => x = .returned (.int .i64 (kbad b none ks)) ∧ Below w.heap.size w w' := by
  have hlen : ks.length ≤ 140737488355328 := by have := hk.2.1; omega
  go_enter Try.func140, Try.ntmps140
  go_wp2_with fail
  go_loopw [5, 12] (fun x y wr => RHeadK w g a b c d e f h ks x y wr) (fun _ y _ => ks.length - (intOf y).toNat)
  case atStart => exact ⟨0, Nat.zero_le _, by rw [aheadK_zero]; rfl, rfl, lay (by rw [aheadK_zero]; rfl), hq, Below.refl _ _⟩
  case round =>
    obtain ⟨j, hj, rfl, rfl, hV, I2, b1⟩ := hrel
    clear hq
    by_cases hlt : j < ks.length
    · obtain ⟨bk, off, rfl, hbk, e0, e1, e2, e3, e4⟩ := (hk.below b1).at_ hlt
      have hat := lay (kbad_one b (aheadK ks j) ks hlt)
      have hsu := lay (aheadK_succ ks hlt)
      generalize hbp : bef (aheadK ks j) = p at hat ⊢
      clear hbp
      have D3 : Below wr.heap.size wr (wr.alloc (.cells #[.string ks[j].s, .int .u64 (ks[j].k : Int), .int .i64 ks[j].g, .int .i64 ks[j].o, .int .i64 ks[j].n] 157)) := (Below.refl _ _).alloc (Nat.le_refl _) _
      have I3 := I2.next D3
      have b3 := b1.trans (D3.mono b1.size)
      have hc := judgeK_any a b c d e f h ks[j] g _ I3
      generalize hn : kone b ks[j] = n at hc hat
      clear hn D3 I2
      by_cases hn0 : n = 0
      · have z1 : (n != 0) = false := by simp [hn0]
        have hat2 := lay (hat.out.trans (if_neg (by simpa using hn0)))
        clear hn0 hat
        cases hs1 : Op.bytesLess ks[j].s.toList p.toList
        · cases hs2 : (ks[j].s.toList == p.toList)
          · have hb0 := sle_no hs1 hs2
            have hV2 : Hid (kbad b none ks = kbad b (aheadK ks (j + 1)) (ks.drop (j + 1))) := lay (hV.out.trans (hat2.out.trans ((if_neg (by rw [hb0]; simp)).trans (by rw [hsu.out]))))
            have hx : Hid (bef (aheadK ks (j + 1)) = ks[j].s) := lay (by rw [hsu.out]; rfl)
            clear hat2 hb0
            go_wp2_with fail
            refine hc.mono ?_
            rintro x w1 ⟨rfl, hb1⟩
            have I4 := I3.next hb1
            have b4 := b3.trans (hb1.mono b3.size)
            clear e0 e1 e2 e3 e4 I3 hc hb1 b3
            go_wp2_with fail
            exact ⟨⟨j + 1, hlt, by rw [hx.out], by go_num, hV2, I4, b4⟩, by simp [intOf]; omega⟩
          · have hb0 := sle_same hs2
            have hr := lay (hV.out.trans (hat2.out.trans (if_pos hb0)))
            clear hat2 hb0
            go_wp2_with fail
            refine hc.mono ?_
            rintro x w1 ⟨rfl, hb1⟩
            have b4 := b3.trans (hb1.mono b3.size)
            clear e0 e1 e2 e3 e4 I3 hc hb1 b3
            go_wp2_with fail
            go_ret
            exact ⟨ret_int hr.out.symm, b4⟩
        · have hb0 := sle_less hs1
          have hr := lay (hV.out.trans (hat2.out.trans (if_pos hb0)))
          clear hat2 hb0
          go_wp2_with fail
          refine hc.mono ?_
          rintro x w1 ⟨rfl, hb1⟩
          have b4 := b3.trans (hb1.mono b3.size)
          clear e0 e1 e2 e3 e4 I3 hc hb1 b3
          go_wp2_with fail
          go_ret
          exact ⟨ret_int hr.out.symm, b4⟩
      · have z1 : (n != 0) = true := by simpa using hn0
        have hr := lay (hV.out.trans (hat.out.trans (if_pos (by simpa using hn0))))
        clear hn0 hat
        go_wp2_with fail
        refine hc.mono ?_
        rintro x w1 ⟨rfl, hb1⟩
        have b4 := b3.trans (hb1.mono b3.size)
        clear e0 e1 e2 e3 e4 I3 hc hb1 b3
        go_wp2_with fail
        go_ret
        exact ⟨ret_int hr.out.symm, b4⟩
    · have hr := lay (hV.out.trans (kbad_end b _ ks (by omega)))
      go_wp2_with fail
      go_ret
      exact ⟨ret_int hr.out.symm, b1⟩

/-- a round's head: so far nothing is wrong -/
def RHeadE (w : World) (g : Nat) (a b c d e f h : Int) (es : List E) (x y : Value) (wr : World) : Prop :=
  ∃ j : Nat, j ≤ es.length ∧ x = .string (bef (aheadE es j)) ∧ y = .int .i64 j ∧ Hid (ebad a b c d e f h none es = ebad a b c d e f h (aheadE es j) (es.drop j)) ∧ Q7 wr g a b c d e f h ∧ Below w.heap.size w wr

set_option maxRecDepth 100000 in
set_option maxHeartbeats 1000000 in
theorem risingE_any (a b c d e f h : Int) (es : List E) (A : Option Addr) (cap : Nat) (g : Nat) (w : World) (hq : Q7 w g a b c d e f h) (hk : Es w w.heap.size es A cap) :
    Calls Try.prog 137 #[.slice A es.length cap, .func (.func 138) #[] #[.pointer (some ⟨g, 0, none⟩)]] w fun x w' => x = .returned (.int .i64 (ebad a b c d e f h none es)) ∧ Below w.heap.size w w' := by
  have hlen : es.length ≤ 140737488355328 := by have := hk.2.1; omega
  go_enter Try.func137, Try.ntmps137
  go_wp2_with fail
  go_loopw [5, 12] (fun x y wr => RHeadE w g a b c d e f h es x y wr) (fun _ y _ => es.length - (intOf y).toNat)
  case atStart => exact ⟨0, Nat.zero_le _, by rw [aheadE_zero]; rfl, rfl, lay (by rw [aheadE_zero]; rfl), hq, Below.refl _ _⟩
  case round =>
    obtain ⟨j, hj, rfl, rfl, hV, I2, b1⟩ := hrel
    clear hq
    by_cases hlt : j < es.length
    · obtain ⟨bk, off, rfl, hbk, e0, e1, hVs⟩ := (hk.below b1).at_ hlt
      have hat := lay (ebad_one a b c d e f h (aheadE es j) es hlt)
      have hsu := lay (aheadE_succ es hlt)
      generalize hbp : bef (aheadE es j) = p at hat ⊢
      clear hbp
      have hvl : es[j].l.length ≤ 140737488355328 := by have h2 := hVs.2.1; omega
      have D3 : Below wr.heap.size wr (wr.alloc (.cells #[.string es[j].s, .slice es[j].A es[j].l.length es[j].c] 58)) := (Below.refl _ _).alloc (Nat.le_refl _) _
      have I3 := I2.next D3
      have b3 := b1.trans (D3.mono b1.size)
      have hc := judgeE_any a b c d e f h es[j].s es[j].l es[j].A es[j].c g _ I3 (hVs.now ((Below.refl w.heap.size wr).alloc b1.size (.cells #[.string es[j].s, .slice es[j].A es[j].l.length es[j].c] 58)) (by have := b1.size; simp; omega))
      clear hVs
      generalize hn : rb (nbad a b c d e f h es[j].s es[j].l) es[j].l = n at hc hat
      clear hn D3 I2
      by_cases hn0 : n = 0
      · have z1 : (n != 0) = false := by simp [hn0]
        have hat2 := lay (hat.out.trans (if_neg (by simpa using hn0)))
        clear hn0 hat
        cases hs1 : Op.bytesLess es[j].s.toList p.toList
        · cases hs2 : (es[j].s.toList == p.toList)
          · have hb0 := sle_no hs1 hs2
            have hV2 : Hid (ebad a b c d e f h none es = ebad a b c d e f h (aheadE es (j + 1)) (es.drop (j + 1))) := lay (hV.out.trans (hat2.out.trans ((if_neg (by rw [hb0]; simp)).trans (by rw [hsu.out]))))
            have hx : Hid (bef (aheadE es (j + 1)) = es[j].s) := lay (by rw [hsu.out]; rfl)
            clear hat2 hb0
            go_wp2_with fail
            refine hc.mono ?_
            rintro x w1 ⟨rfl, hb1⟩
            have I4 := I3.next hb1
            have b4 := b3.trans (hb1.mono b3.size)
            clear e0 e1 I3 hc hb1 b3
            go_wp2_with fail
            exact ⟨⟨j + 1, hlt, by rw [hx.out], by go_num, hV2, I4, b4⟩, by simp [intOf]; omega⟩
          · have hb0 := sle_same hs2
            have hr := lay (hV.out.trans (hat2.out.trans (if_pos hb0)))
            clear hat2 hb0
            go_wp2_with fail
            refine hc.mono ?_
            rintro x w1 ⟨rfl, hb1⟩
            have b4 := b3.trans (hb1.mono b3.size)
            clear e0 e1 I3 hc hb1 b3
            go_wp2_with fail
            go_ret
            exact ⟨ret_int hr.out.symm, b4⟩
        · have hb0 := sle_less hs1
          have hr := lay (hV.out.trans (hat2.out.trans (if_pos hb0)))
          clear hat2 hb0
          go_wp2_with fail
          refine hc.mono ?_
          rintro x w1 ⟨rfl, hb1⟩
          have b4 := b3.trans (hb1.mono b3.size)
          clear e0 e1 I3 hc hb1 b3
          go_wp2_with fail
          go_ret
          exact ⟨ret_int hr.out.symm, b4⟩
      · have z1 : (n != 0) = true := by simpa using hn0
        have hr := lay (hV.out.trans (hat.out.trans (if_pos (by simpa using hn0))))
        clear hn0 hat
        go_wp2_with fail
        refine hc.mono ?_
        rintro x w1 ⟨rfl, hb1⟩
        have b4 := b3.trans (hb1.mono b3.size)
        clear e0 e1 I3 hc hb1 b3
        go_wp2_with fail
        go_ret
        exact ⟨ret_int hr.out.symm, b4⟩
    · have hr := lay (hV.out.trans (ebad_end a b c d e f h _ es (by omega)))
      go_wp2_with fail
      go_ret
      exact ⟨ret_int hr.out.symm, b1⟩

set_option maxRecDepth 100000 in
set_option maxHeartbeats 1000000 in
theorem ownLeaf_bad1 (a b c d e f h : Int) (lf : Bool) (ne nk : Nat) (A : Option Addr) (cap : Nat) (A' : Option Addr) (cap' : Nat) (w : World) (hp : 0 < nk) (hm : nk ≤ 140737488355328) :
    Calls Try.prog 108 #[.agg #[.int .i64 a, .int .i64 b, .int .i64 c, .int .i64 d, .int .i64 e, .int .i64 f, .int .i64 h], .agg #[.bool lf, .slice A ne cap, .slice A' nk cap']] w fun x w' => x = .returned (.int .i64 60) ∧ Below w.heap.size w w' := by
  have I0 := Bn.new w a b c d e f h lf (.slice A ne cap) (.slice A' nk cap')
  have hp1 : (0 : Int) < (nk : Int) := by omega
  go_enter Try.func108, Try.ntmps108
  go_wp2_with fail
  go_ret
  exact ⟨rfl, I0.below⟩

set_option maxRecDepth 100000 in
set_option maxHeartbeats 1000000 in
theorem ownLeaf_bad2 (a b c d e f h : Int) (lf : Bool) (ne : Nat) (A : Option Addr) (cap : Nat) (A' : Option Addr) (cap' : Nat) (w : World) (hp : (4 : Int) < (ne : Int)) (hm : ne ≤ 140737488355328) :
    Calls Try.prog 108 #[.agg #[.int .i64 a, .int .i64 b, .int .i64 c, .int .i64 d, .int .i64 e, .int .i64 f, .int .i64 h], .agg #[.bool lf, .slice A ne cap, .slice A' 0 cap']] w fun x w' => x = .returned (.int .i64 60) ∧ Below w.heap.size w w' := by
  have I0 := Bn.new w a b c d e f h lf (.slice A ne cap) (.slice A' 0 cap')
  go_enter Try.func108, Try.ntmps108
  go_wp2_with fail
  go_ret
  exact ⟨rfl, I0.below⟩

set_option maxRecDepth 100000 in
set_option maxHeartbeats 1000000 in
theorem ownInner_bad1 (a b c d e f h : Int) (lf : Bool) (ne nk : Nat) (A : Option Addr) (cap : Nat) (A' : Option Addr) (cap' : Nat) (w : World) (hp : 0 < ne) (hm : ne ≤ 140737488355328) :
    Calls Try.prog 109 #[.agg #[.int .i64 a, .int .i64 b, .int .i64 c, .int .i64 d, .int .i64 e, .int .i64 f, .int .i64 h], .agg #[.bool lf, .slice A ne cap, .slice A' nk cap']] w fun x w' => x = .returned (.int .i64 60) ∧ Below w.heap.size w w' := by
  have I0 := Bn.new w a b c d e f h lf (.slice A ne cap) (.slice A' nk cap')
  have hp1 : (0 : Int) < (ne : Int) := by omega
  go_enter Try.func109, Try.ntmps109
  go_wp2_with fail
  go_ret
  exact ⟨rfl, I0.below⟩

set_option maxRecDepth 100000 in
set_option maxHeartbeats 1000000 in
theorem ownInner_bad2 (a b c d e f h : Int) (lf : Bool) (nk : Nat) (A : Option Addr) (cap : Nat) (A' : Option Addr) (cap' : Nat) (w : World) (hp : (nk : Int) < 2) :
    Calls Try.prog 109 #[.agg #[.int .i64 a, .int .i64 b, .int .i64 c, .int .i64 d, .int .i64 e, .int .i64 f, .int .i64 h], .agg #[.bool lf, .slice A 0 cap, .slice A' nk cap']] w fun x w' => x = .returned (.int .i64 60) ∧ Below w.heap.size w w' := by
  have I0 := Bn.new w a b c d e f h lf (.slice A 0 cap) (.slice A' nk cap')
  go_enter Try.func109, Try.ntmps109
  go_wp2_with fail
  go_ret
  exact ⟨rfl, I0.below⟩

set_option maxRecDepth 100000 in
set_option maxHeartbeats 1000000 in
theorem ownInner_bad3 (a b c d e f h : Int) (lf : Bool) (nk : Nat) (A : Option Addr) (cap : Nat) (A' : Option Addr) (cap' : Nat) (w : World) (hp : ¬ (nk : Int) < 2) (hq : (4 : Int) < (nk : Int)) (hm : nk ≤ 140737488355328) :
    Calls Try.prog 109 #[.agg #[.int .i64 a, .int .i64 b, .int .i64 c, .int .i64 d, .int .i64 e, .int .i64 f, .int .i64 h], .agg #[.bool lf, .slice A 0 cap, .slice A' nk cap']] w fun x w' => x = .returned (.int .i64 60) ∧ Below w.heap.size w w' := by
  have I0 := Bn.new w a b c d e f h lf (.slice A 0 cap) (.slice A' nk cap')
  go_enter Try.func109, Try.ntmps109
  go_wp2_with fail
  go_ret
  exact ⟨rfl, I0.below⟩

set_option maxRecDepth 100000 in
set_option maxHeartbeats 1000000 in
theorem ownLeaf_loop (a b c d e f h : Int) (lf : Bool) (es : List E) (A : Option Addr) (cap : Nat) (A' : Option Addr) (cap' : Nat) (w : World) (hk : Es w w.heap.size es A cap) (h4 : ¬ (4 : Int) < (es.length : Int)) :
    Calls Try.prog 108 #[.agg #[.int .i64 a, .int .i64 b, .int .i64 c, .int .i64 d, .int .i64 e, .int .i64 f, .int .i64 h], .agg #[.bool lf, .slice A es.length cap, .slice A' 0 cap']] w fun x w' => x = .returned (.int .i64 (ebad a b c d e f h none es)) ∧ Below w.heap.size w w' := by
  have hlen : es.length ≤ 140737488355328 := by have := hk.2.1; omega
  have I0 := Bn.new w a b c d e f h lf (.slice A es.length cap) (.slice A' 0 cap')
  have hc := risingE_any a b c d e f h es A cap w.heap.size _ (Q7.of I0.1) (hk.at_world I0.below)
  generalize ebad a b c d e f h none es = r at hc ⊢
  generalize es.length = n at hc hlen I0 ⊢ h4
  go_enter Try.func108, Try.ntmps108
  go_wp2_with fail
  refine hc.mono ?_
  rintro x w1 ⟨rfl, hb1⟩
  have I1 := I0.next hb1
  clear hc I0 hb1
  go_wp2_with fail
  go_ret
  exact ⟨rfl, I1.below⟩

set_option maxRecDepth 100000 in
set_option maxHeartbeats 1000000 in
theorem ownInner_loop (a b c d e f h : Int) (lf : Bool) (ks : List K) (A : Option Addr) (cap : Nat) (A' : Option Addr) (cap' : Nat) (w : World) (hk : Ks w w.heap.size ks A' cap') (h2 : ¬ (ks.length : Int) < 2) (h4 : ¬ (4 : Int) < (ks.length : Int)) :
    Calls Try.prog 109 #[.agg #[.int .i64 a, .int .i64 b, .int .i64 c, .int .i64 d, .int .i64 e, .int .i64 f, .int .i64 h], .agg #[.bool lf, .slice A 0 cap, .slice A' ks.length cap']] w fun x w' => x = .returned (.int .i64 (kbad b none ks)) ∧ Below w.heap.size w w' := by
  have hlen : ks.length ≤ 140737488355328 := by have := hk.2.1; omega
  have I0 := Bn.new w a b c d e f h lf (.slice A 0 cap) (.slice A' ks.length cap')
  have hc := risingK_any a b c d e f h ks A' cap' w.heap.size _ (Q7.of I0.1) (hk.at_world I0.below)
  generalize kbad b none ks = r at hc ⊢
  generalize ks.length = n at hc hlen I0 ⊢ h2 h4
  go_enter Try.func109, Try.ntmps109
  go_wp2_with fail
  refine hc.mono ?_
  rintro x w1 ⟨rfl, hb1⟩
  have I1 := I0.next hb1
  clear hc I0 hb1
  go_wp2_with fail
  go_ret
  exact ⟨rfl, I1.below⟩

theorem ownLeaf_any (a b c d e f h : Int) (lf : Bool) (es : List E) (ks : List K) (A : Option Addr) (cap : Nat) (A' : Option Addr) (cap' : Nat) (w : World) (hv : Es w w.heap.size es A cap) (hk : Ks w w.heap.size ks A' cap') :
    Calls Try.prog 108 #[.agg #[.int .i64 a, .int .i64 b, .int .i64 c, .int .i64 d, .int .i64 e, .int .i64 f, .int .i64 h], .agg #[.bool lf, .slice A es.length cap, .slice A' ks.length cap']] w fun x w' => x = .returned (.int .i64 (if 0 < ks.length ∨ 4 < es.length then 60 else ebad a b c d e f h none es)) ∧ Below w.heap.size w w' := by
  by_cases g1 : 0 < ks.length
  · rw [if_pos (Or.inl g1)]
    exact ownLeaf_bad1 a b c d e f h lf _ _ A cap A' cap' w g1 (by have := hk.2.1; omega)
  · rw [show ks.length = 0 by omega]
    by_cases g2 : 4 < es.length
    · rw [if_pos (Or.inr g2)]
      exact ownLeaf_bad2 a b c d e f h lf _ A cap A' cap' w (by omega) (by have := hv.2.1; omega)
    · rw [if_neg (by omega)]
      exact ownLeaf_loop a b c d e f h lf es A cap A' cap' w hv (by omega)

theorem ownInner_any (a b c d e f h : Int) (lf : Bool) (es : List E) (ks : List K) (A : Option Addr) (cap : Nat) (A' : Option Addr) (cap' : Nat) (w : World) (hv : Es w w.heap.size es A cap) (hk : Ks w w.heap.size ks A' cap') :
    Calls Try.prog 109 #[.agg #[.int .i64 a, .int .i64 b, .int .i64 c, .int .i64 d, .int .i64 e, .int .i64 f, .int .i64 h], .agg #[.bool lf, .slice A es.length cap, .slice A' ks.length cap']] w fun x w' => x = .returned (.int .i64 (if 0 < es.length ∨ ks.length < 2 ∨ 4 < ks.length then 60 else kbad b none ks)) ∧ Below w.heap.size w w' := by
  by_cases g1 : 0 < es.length
  · rw [if_pos (Or.inl g1)]
    exact ownInner_bad1 a b c d e f h lf _ _ A cap A' cap' w g1 (by have := hv.2.1; omega)
  · rw [show es.length = 0 by omega]
    by_cases g2 : ks.length < 2
    · rw [if_pos (Or.inr (Or.inl g2))]
      exact ownInner_bad2 a b c d e f h lf _ A cap A' cap' w (by omega)
    · by_cases g3 : 4 < ks.length
      · rw [if_pos (Or.inr (Or.inr g3))]
        exact ownInner_bad3 a b c d e f h lf _ A cap A' cap' w (by omega) (by omega) (by have := hk.2.1; omega)
      · rw [if_neg (by omega)]
        exact ownInner_loop a b c d e f h lf ks A cap A' cap' w hk (by omega) (by omega)

set_option maxRecDepth 100000 in
set_option maxHeartbeats 1000000 in
theorem ownNode_any (a b c d e f h : Int) (lf : Bool) (es : List E) (ks : List K) (A : Option Addr) (cap : Nat) (A' : Option Addr) (cap' : Nat) (w : World) (hv : Es w w.heap.size es A cap) (hk : Ks w w.heap.size ks A' cap') :
    Calls Try.prog 76 #[.agg #[.int .i64 a, .int .i64 b, .int .i64 c, .int .i64 d, .int .i64 e, .int .i64 f, .int .i64 h], .agg #[.bool lf, .slice A es.length cap, .slice A' ks.length cap']] w fun x w' => x = .returned (.int .i64 (ndbad a b c d e f h lf es ks)) ∧ Below w.heap.size w w' := by
  have I0 := Bn.new w a b c d e f h lf (.slice A es.length cap) (.slice A' ks.length cap')
  by_cases g : ok a b c d e f h
  · cases lf with
    | true =>
      rw [show ndbad a b c d e f h true es ks = if 0 < ks.length ∨ 4 < es.length then 60 else ebad a b c d e f h none es by unfold ndbad; rw [if_pos g, if_pos rfl]]
      have hc := fun wr (hb : Below w.heap.size w wr) => ownLeaf_any a b c d e f h true es ks A cap A' cap' wr (hv.at_world hb) (hk.at_world hb)
      generalize (if 0 < ks.length ∨ 4 < es.length then 60 else ebad a b c d e f h none es) = n at hc ⊢
      generalize es.length = ne at I0 hc ⊢
      generalize ks.length = nk at I0 hc ⊢
      go_enter Try.func76, Try.ntmps76
      go_wp2_with fail
      refine (quotas.right_ok _ _ _ _ _ _ _ _ g).mono ?_
      rintro x w1 ⟨rfl, hb1⟩
      have I1 := I0.next hb1
      clear hb1 I0
      obtain ⟨⟨⟨c0, c1, c2, c3, c4, c5, c6⟩, l1, l2, b1⟩, ⟨n0, n1, n2⟩, l3⟩ := id I1
      go_wp2_with fail
      refine (hc _ b1).mono ?_
      rintro x w2 ⟨rfl, hb2⟩
      have I2 := I1.next hb2
      go_wp2_with fail
      go_ret
      exact ⟨rfl, I2.below⟩
    | false =>
      rw [show ndbad a b c d e f h false es ks = if 0 < es.length ∨ ks.length < 2 ∨ 4 < ks.length then 60 else kbad b none ks by unfold ndbad; rw [if_pos g, if_neg (by simp)]]
      have hc := fun wr (hb : Below w.heap.size w wr) => ownInner_any a b c d e f h false es ks A cap A' cap' wr (hv.at_world hb) (hk.at_world hb)
      generalize (if 0 < es.length ∨ ks.length < 2 ∨ 4 < ks.length then 60 else kbad b none ks) = n at hc ⊢
      generalize es.length = ne at I0 hc ⊢
      generalize ks.length = nk at I0 hc ⊢
      go_enter Try.func76, Try.ntmps76
      go_wp2_with fail
      refine (quotas.right_ok _ _ _ _ _ _ _ _ g).mono ?_
      rintro x w1 ⟨rfl, hb1⟩
      have I1 := I0.next hb1
      clear hb1 I0
      obtain ⟨⟨⟨c0, c1, c2, c3, c4, c5, c6⟩, l1, l2, b1⟩, ⟨n0, n1, n2⟩, l3⟩ := id I1
      go_wp2_with fail
      refine (hc _ b1).mono ?_
      rintro x w2 ⟨rfl, hb2⟩
      have I2 := I1.next hb2
      go_wp2_with fail
      go_ret
      exact ⟨rfl, I2.below⟩
  · rw [show ndbad a b c d e f h lf es ks = 40 by unfold ndbad; rw [if_neg g]]
    go_enter Try.func76, Try.ntmps76
    go_wp2_with fail
    refine (quotas.right_no _ _ _ _ _ _ _ _ g).mono ?_
    rintro x w1 ⟨rfl, hb1⟩
    have I1 := I0.next hb1
    clear hb1 I0
    go_wp2_with fail
    go_ret
    exact ⟨rfl, I1.below⟩

theorem rightIs : RightIs := fun a b c d e f h lf es ks A cap A' cap' w hv hk => ownNode_any a b c d e f h lf es ks A cap A' cap' w hv hk
end Go.Proofs.Ytchghlbiongccaa.nodes.two
