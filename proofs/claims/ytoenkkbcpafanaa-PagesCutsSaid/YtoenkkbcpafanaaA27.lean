/- What package node's own within, RefRight, rightKid and Low answer, and the judges that rightLeaf and rightInner hand on. -/
import Derived.Test.YtoenkkbcpafanaaA25
import Derived.Test.YtoenkkbcpafanaaA26


namespace Go.Proofs.Ytoenkkbcpafanaa.nodes
set_option linter.unusedVariables false
set_option linter.unusedSimpArgs false
open Go.RowKit Go.Proofs.Ytoenkkbcpafanaa.base Go.Proofs.Ytoenkkbcpafanaa.quotas Go.Proofs.Ytoenkkbcpafanaa.vers

set_option maxRecDepth 100000 in
set_option maxHeartbeats 1000000 in
theorem own_within (n lo hi : Int) (r : Bool) (w : World) (h : decide (lo ≤ n ∧ n ≤ hi) = r) :
    Calls Try.prog 265 #[.int .i64 n, .int .i64 lo, .int .i64 hi] w fun x w' => x = .returned (.bool r) ∧ Below w.heap.size w w' := by
  by_cases h1 : lo ≤ n
  · have d1 : decide (lo ≤ n) = true := decide_eq_true h1
    by_cases h2 : n ≤ hi
    · have d2 : decide (n ≤ hi) = true := decide_eq_true h2
      rw [← h, decide_eq_true ⟨h1, h2⟩]
      clear h h1 h2
      go_enter Try.func265, Try.ntmps265
      go_wp2_with fail
      go_ret
      exact ⟨rfl, Below.refl _ _⟩
    · have d2 : decide (n ≤ hi) = false := decide_eq_false h2
      rw [← h, decide_eq_false (fun k => h2 k.2)]
      clear h h1 h2
      go_enter Try.func265, Try.ntmps265
      go_wp2_with fail
      go_ret
      exact ⟨rfl, Below.refl _ _⟩
  · have d1 : decide (lo ≤ n) = false := decide_eq_false h1
    rw [← h, decide_eq_false (fun k => h1 k.1)]
    clear h h1
    go_enter Try.func265, Try.ntmps265
    go_wp2_with fail
    go_ret
    exact ⟨rfl, Below.refl _ _⟩

/-- a box of the call's own that holds a reference -/
def Rb (w : World) (k : Nat) (g o n : Int) (wr : World) : Prop := (wr.cell? ⟨w.heap.size, 0, none⟩ = some (.int .u64 (k : Int)) ∧ wr.cell? ⟨w.heap.size, 1, none⟩ = some (.int .i64 g) ∧ wr.cell? ⟨w.heap.size, 2, none⟩ = some (.int .i64 o) ∧ wr.cell? ⟨w.heap.size, 3, none⟩ = some (.int .i64 n)) ∧ w.heap.size < wr.heap.size ∧ Below w.heap.size w wr
theorem Rb.new (w : World) (k : Nat) (g o n : Int) : Rb w k g o n (w.alloc (.cells #[.int .u64 (k : Int), .int .i64 g, .int .i64 o, .int .i64 n] 27)) := by
  have q := Blk.new w 27 #[.int .u64 (k : Int), .int .i64 g, .int .i64 o, .int .i64 n]
  exact ⟨⟨q.cell 0, q.cell 1, q.cell 2, q.cell 3⟩, by simp, (Below.refl _ _).alloc (Nat.le_refl _) _⟩
theorem Rb.next {w wr w' : World} {k : Nat} {g o n : Int} (h1 : Rb w k g o n wr) (hb : Below wr.heap.size wr w') : Rb w k g o n w' := by
  obtain ⟨⟨h2, h3, h5, h6⟩, h4, h7⟩ := h1
  have hs := hb.size
  refine ⟨⟨?_, ?_, ?_, ?_⟩, by omega, h7.trans (hb.mono h7.size)⟩ <;> (rw [hb.cell (by simpa using h4)]; assumption)
theorem refOk_is {g o n : Int} {r1 r2 r3 : Bool} (h1 : decide ((0 : Int) ≤ g ∧ g ≤ 1048576) = r1) (h2 : decide ((0 : Int) ≤ o ∧ o ≤ 134217728) = r2) (h3 : decide ((1 : Int) ≤ n ∧ n ≤ 1048576) = r3) : decide (refOk g o n) = (r1 && r2 && r3) := by
  subst h1 h2 h3
  rw [Bool.eq_iff_iff, decide_eq_true_iff]
  unfold refOk
  simp [and_assoc]

set_option maxRecDepth 100000 in
set_option maxHeartbeats 1000000 in
theorem ownRef_any (k : Nat) (g o n : Int) (w : World) :
    Calls Try.prog 243 #[.agg #[.int .u64 (k : Int), .int .i64 g, .int .i64 o, .int .i64 n]] w fun x w' => x = .returned (.bool (decide (refOk g o n))) ∧ Below w.heap.size w w' := by
  have I0 := Rb.new w k g o n
  cases h1 : decide ((0 : Int) ≤ g ∧ g ≤ 1048576) with
  | false =>
    rw [refOk_is h1 rfl rfl]
    have hc := fun w' => own_within g 0 1048576 false w' h1
    clear h1
    go_enter Try.func243, Try.ntmps243
    go_wp2_with fail
    refine (hc _).mono ?_
    rintro x w1 ⟨rfl, hb1⟩
    have I1 := I0.next hb1
    clear I0 hb1
    obtain ⟨⟨c0, c1, c2, c3⟩, c4, c5⟩ := I1
    go_wp2_with fail
    go_ret
    exact ⟨ret_bool (by simp), c5⟩
  | true =>
    cases h2 : decide ((0 : Int) ≤ o ∧ o ≤ 134217728) with
    | false =>
      rw [refOk_is h1 h2 rfl]
      have hc := fun w' => own_within g 0 1048576 true w' h1
      have hc2 := fun w' => own_within o 0 134217728 false w' h2
      clear h1 h2
      go_enter Try.func243, Try.ntmps243
      go_wp2_with fail
      refine (hc _).mono ?_
      rintro x w1 ⟨rfl, hb1⟩
      have I1 := I0.next hb1
      clear I0 hb1
      obtain ⟨⟨c0, c1, c2, c3⟩, c4, c5⟩ := id I1
      go_wp2_with fail
      refine (hc2 _).mono ?_
      rintro x w2 ⟨rfl, hb2⟩
      have I2 := I1.next hb2
      clear I1 hb2 c0 c1 c2 c3 c4 c5
      obtain ⟨⟨c0, c1, c2, c3⟩, c4, c5⟩ := I2
      go_wp2_with fail
      go_ret
      exact ⟨ret_bool (by simp), c5⟩
    | true =>
      rw [refOk_is h1 h2 rfl]
      generalize h3 : decide ((1 : Int) ≤ n ∧ n ≤ 1048576) = r3
      have hc := fun w' => own_within g 0 1048576 true w' h1
      have hc2 := fun w' => own_within o 0 134217728 true w' h2
      have hc3 := fun w' => own_within n 1 1048576 r3 w' h3
      clear h1 h2 h3
      go_enter Try.func243, Try.ntmps243
      go_wp2_with fail
      refine (hc _).mono ?_
      rintro x w1 ⟨rfl, hb1⟩
      have I1 := I0.next hb1
      clear I0 hb1
      obtain ⟨⟨c0, c1, c2, c3⟩, c4, c5⟩ := id I1
      go_wp2_with fail
      refine (hc2 _).mono ?_
      rintro x w2 ⟨rfl, hb2⟩
      have I2 := I1.next hb2
      clear I1 hb2 c0 c1 c2 c3 c4 c5
      obtain ⟨⟨c0, c1, c2, c3⟩, c4, c5⟩ := id I2
      go_wp2_with fail
      refine (hc3 _).mono ?_
      rintro x w3 ⟨rfl, hb3⟩
      have I3 := I2.next hb3
      clear I2 hb3 c0 c1 c2 c3 c4 c5
      obtain ⟨⟨c0, c1, c2, c3⟩, c4, c5⟩ := I3
      go_wp2_with fail
      go_ret
      exact ⟨ret_bool (by simp), c5⟩
theorem refIs : RefIs := fun k g o n w => ownRef_any k g o n w

/-- what is wrong with a kid alone -/
def kone (b : Int) (x : K) : Int := if x.s.size = 0 then 4 else if b < x.s.size then 5 else if ¬ refOk x.g x.o x.n then 61 else 0
/-- behind rightKid's beginning: the quota's and the kid's boxes -/
def Kq (w : World) (a b c d e f h : Int) (x : K) (wr : World) : Prop :=
  In7 w w.heap.size a b c d e f h wr ∧ (wr.cell? ⟨w.heap.size + 1, 0, none⟩ = some (.string x.s) ∧ wr.cell? ⟨w.heap.size + 1, 1, none⟩ = some (.int .u64 (x.k : Int)) ∧ wr.cell? ⟨w.heap.size + 1, 2, none⟩ = some (.int .i64 x.g) ∧ wr.cell? ⟨w.heap.size + 1, 3, none⟩ = some (.int .i64 x.o) ∧ wr.cell? ⟨w.heap.size + 1, 4, none⟩ = some (.int .i64 x.n)) ∧ w.heap.size + 1 < wr.heap.size
theorem Kq.new (w : World) (a b c d e f h : Int) (x : K) : Kq w a b c d e f h x ((w.alloc (.cells #[.int .i64 a, .int .i64 b, .int .i64 c, .int .i64 d, .int .i64 e, .int .i64 f, .int .i64 h] 113)).alloc (.cells #[.string x.s, .int .u64 (x.k : Int), .int .i64 x.g, .int .i64 x.o, .int .i64 x.n] 162)) := by
  have k := Blk.new (w.alloc (.cells #[.int .i64 a, .int .i64 b, .int .i64 c, .int .i64 d, .int .i64 e, .int .i64 f, .int .i64 h] 113)) 162 #[.string x.s, .int .u64 (x.k : Int), .int .i64 x.g, .int .i64 x.o, .int .i64 x.n]
  rw [World.size_alloc] at k
  exact ⟨(In7.new w a b c d e f h).alloc _, ⟨k.cell 0, k.cell 1, k.cell 2, k.cell 3, k.cell 4⟩, by simp⟩
theorem Kq.next {w wr w' : World} {a b c d e f h : Int} {x : K} (h1 : Kq w a b c d e f h x wr) (hb : Below wr.heap.size wr w') : Kq w a b c d e f h x w' := by
  obtain ⟨h1, ⟨h2, h3, h5, h6, h7⟩, h4⟩ := h1
  have hs := hb.size
  refine ⟨h1.next hb, ⟨?_, ?_, ?_, ?_, ?_⟩, by omega⟩ <;> (rw [hb.cell (by simpa using h4)]; assumption)

set_option maxRecDepth 100000 in
set_option maxHeartbeats 1000000 in
theorem rightKid_any (a b c d e f h : Int) (x : K) (w : World) :
    Calls Try.prog 214 #[.agg #[.int .i64 a, .int .i64 b, .int .i64 c, .int .i64 d, .int .i64 e, .int .i64 f, .int .i64 h], .agg #[.string x.s, .int .u64 (x.k : Int), .int .i64 x.g, .int .i64 x.o, .int .i64 x.n]] w fun y w' => y = .returned (.int .i64 (kone b x)) ∧ Below w.heap.size w w' := by
  have I0 := Kq.new w a b c d e f h x
  unfold kone
  by_cases g1 : x.s.size = 0
  · have hs0 := empty_yes g1
    rw [if_pos g1]
    clear g1
    go_enter Try.func214, Try.ntmps214
    go_wp2_with fail
    go_ret
    exact ⟨rfl, I0.1.2.2.2⟩
  · have hs0 := empty_no g1
    rw [if_neg g1]
    clear g1
    by_cases g2 : b < (x.s.size : Int)
    · have d2 : decide (b < (x.s.size : Int)) = true := decide_eq_true g2
      rw [if_pos g2]
      clear g2
      go_enter Try.func214, Try.ntmps214
      go_wp2_with fail
      go_ret
      exact ⟨rfl, I0.1.2.2.2⟩
    · have d2 : decide (b < (x.s.size : Int)) = false := decide_eq_false g2
      rw [if_neg g2]
      clear g2
      have hc := fun w' => ownRef_any x.k x.g x.o x.n w'
      by_cases g3 : refOk x.g x.o x.n
      · rw [decide_eq_true g3] at hc
        rw [if_neg (by simpa using g3)]
        clear g3
        go_enter Try.func214, Try.ntmps214
        go_wp2_with fail
        refine (hc _).mono ?_
        rintro y w1 ⟨rfl, hb1⟩
        have I1 := I0.next hb1
        go_wp2_with fail
        go_ret
        exact ⟨rfl, I1.1.2.2.2⟩
      · rw [decide_eq_false g3] at hc
        rw [if_pos g3]
        clear g3
        go_enter Try.func214, Try.ntmps214
        go_wp2_with fail
        refine (hc _).mono ?_
        rintro y w1 ⟨rfl, hb1⟩
        have I1 := I0.next hb1
        go_wp2_with fail
        go_ret
        exact ⟨rfl, I1.1.2.2.2⟩

/-- block g holds a quota -/
def Q7 (w : World) (g : Nat) (a b c d e f h : Int) : Prop :=
  (w.cell? ⟨g, 0, none⟩ = some (.int .i64 a) ∧ w.cell? ⟨g, 1, none⟩ = some (.int .i64 b) ∧ w.cell? ⟨g, 2, none⟩ = some (.int .i64 c) ∧ w.cell? ⟨g, 3, none⟩ = some (.int .i64 d) ∧
    w.cell? ⟨g, 4, none⟩ = some (.int .i64 e) ∧ w.cell? ⟨g, 5, none⟩ = some (.int .i64 f) ∧ w.cell? ⟨g, 6, none⟩ = some (.int .i64 h)) ∧ g < w.heap.size
theorem Q7.next {w w' : World} {g : Nat} {a b c d e f h : Int} (h1 : Q7 w g a b c d e f h) (hb : Below w.heap.size w w') : Q7 w' g a b c d e f h := by
  obtain ⟨⟨c0, c1, c2, c3, c4, c5, c6⟩, h3⟩ := h1
  have hs := hb.size
  refine ⟨⟨?_, ?_, ?_, ?_, ?_, ?_, ?_⟩, by omega⟩ <;> (rw [hb.cell (by simpa using h3)]; assumption)
theorem Q7.at_ {w wr : World} {g : Nat} {a b c d e f h : Int} (h1 : Q7 w g a b c d e f h) (hb : Below w.heap.size w wr) : Q7 wr g a b c d e f h := h1.next hb
theorem Q7.of {w w0 : World} {g : Nat} {a b c d e f h : Int} (h1 : In7 w0 g a b c d e f h w) : Q7 w g a b c d e f h := ⟨h1.1, h1.2.2.1⟩
/-- behind a judge's beginning: the quota, the box of what is judged -/
def Jb (w : World) (g : Nat) (a b c d e f h : Int) (cs : List Value) (wr : World) : Prop := Q7 wr g a b c d e f h ∧ (∀ j v, cs[j]? = some v → wr.cell? ⟨w.heap.size, j, none⟩ = some v) ∧ w.heap.size < wr.heap.size ∧ Below w.heap.size w wr
theorem Jb.new {w : World} {g : Nat} {a b c d e f h : Int} (h1 : Q7 w g a b c d e f h) (cs : Array Value) (t : Nat) : Jb w g a b c d e f h cs.toList (w.alloc (.cells cs t)) :=
  ⟨h1.next ((Below.refl _ _).alloc (Nat.le_refl _) _), fun j v hj => by rw [(Blk.new w t cs).cell j]; simpa using hj, by simp, (Below.refl _ _).alloc (Nat.le_refl _) _⟩
theorem Jb.next {w wr w' : World} {g : Nat} {a b c d e f h : Int} {cs : List Value} (h1 : Jb w g a b c d e f h cs wr) (hb : Below wr.heap.size wr w') : Jb w g a b c d e f h cs w' := by
  obtain ⟨h1, h2, h3, h4⟩ := h1
  have hs := hb.size
  exact ⟨h1.next hb, fun j v hj => by rw [hb.cell (by simpa using h3)]; exact h2 j v hj, by omega, h4.trans (hb.mono h4.size)⟩

set_option maxRecDepth 100000 in
set_option maxHeartbeats 1000000 in
theorem judgeK_any (a b c d e f h : Int) (x : K) (g : Nat) (w : World) (hq : Q7 w g a b c d e f h) :
    Calls Try.prog 213 #[.agg #[.string x.s, .int .u64 (x.k : Int), .int .i64 x.g, .int .i64 x.o, .int .i64 x.n], .pointer (some ⟨g, 0, none⟩)] w fun y w' => y = .returned (.tuple #[.string x.s, .int .i64 (kone b x)]) ∧ Below w.heap.size w w' := by
  have I0 := Jb.new hq #[.string x.s, .int .u64 (x.k : Int), .int .i64 x.g, .int .i64 x.o, .int .i64 x.n] 162
  have hc := fun wr (_ : Below w.heap.size w wr) => rightKid_any a b c d e f h x wr
  clear hq
  go_enter Try.func213, Try.ntmps213
  go_wp2_with fail
  obtain ⟨N, hN, hM⟩ := norms _ _ I0
  have hne : Nonempty World := ⟨w⟩
  have q0 := fun n => (hN n).1.1.1
  have q1 := fun n => (hN n).1.1.2.1
  have q2 := fun n => (hN n).1.1.2.2.1
  have q3 := fun n => (hN n).1.1.2.2.2.1
  have q4 := fun n => (hN n).1.1.2.2.2.2.1
  have q5 := fun n => (hN n).1.1.2.2.2.2.2.1
  have q6 := fun n => (hN n).1.1.2.2.2.2.2.2
  have q7 := fun n => (hN n).2.1 0 _ rfl
  have q8 := fun n => (hN n).2.1 1 _ rfl
  have q9 := fun n => (hN n).2.1 2 _ rfl
  have q10 := fun n => (hN n).2.1 3 _ rfl
  have q11 := fun n => (hN n).2.1 4 _ rfl
  have gl := fun n => (hN n).1.2
  refine region_class N (by kernel_rfl) (by kernel_rfl) (hM _ (I0.next ((Below.refl _ _).drew))) ?_
  repeat (go_big_quiet_step (first | (go_at_call 214; exact call_in (fun _ _ => Jb.next) hN hM (hc _ (hN _).2.2.2))))
  refine wpQuiet_nil ?_
  rintro _ ⟨n, rfl⟩
  have I9 := hN n
  generalize N n = w9 at I9 ⊢
  clear q0 q1 q2 q3 q4 q5 q6 q7 q8 q9 q10 q11 gl hM hN N n hne hc
  go_wp2_with fail
  go_ret2
  exact ⟨rfl, I9.2.2.2⟩

set_option maxRecDepth 100000 in
set_option maxHeartbeats 1000000 in
theorem judgeE_any (a b c d e f h : Int) (s : ByteArray) (l : List V) (A : Option Addr) (cap : Nat) (g : Nat) (w : World) (hq : Q7 w g a b c d e f h) (hv : Vs w w.heap.size l A cap) :
    Calls Try.prog 210 #[.agg #[.string s, .slice A l.length cap], .pointer (some ⟨g, 0, none⟩)] w fun y w' => y = .returned (.tuple #[.string s, .int .i64 (rb (nbad a b c d e f h s l) l)]) ∧ Below w.heap.size w w' := by
  have I0 := Jb.new hq #[.string s, .slice A l.length cap] 47
  have hc := fun wr (hb : Below w.heap.size w wr) => right_any a b c d e f h s l A cap wr (hv.now hb hb.size)
  generalize rb (nbad a b c d e f h s l) l = r at hc ⊢
  generalize l.length = ne at I0 hc ⊢
  clear hv
  clear hq
  go_enter Try.func210, Try.ntmps210
  go_wp2_with fail
  obtain ⟨N, hN, hM⟩ := norms _ _ I0
  have hne : Nonempty World := ⟨w⟩
  have q0 := fun n => (hN n).1.1.1
  have q1 := fun n => (hN n).1.1.2.1
  have q2 := fun n => (hN n).1.1.2.2.1
  have q3 := fun n => (hN n).1.1.2.2.2.1
  have q4 := fun n => (hN n).1.1.2.2.2.2.1
  have q5 := fun n => (hN n).1.1.2.2.2.2.2.1
  have q6 := fun n => (hN n).1.1.2.2.2.2.2.2
  have q7 := fun n => (hN n).2.1 0 _ rfl
  have q8 := fun n => (hN n).2.1 1 _ rfl
  have gl := fun n => (hN n).1.2
  refine region_class N (by kernel_rfl) (by kernel_rfl) (hM _ (I0.next ((Below.refl _ _).drew))) ?_
  repeat (go_big_quiet_step (first | (go_at_call 211; exact call_in (fun _ _ => Jb.next) hN hM (hc _ (hN _).2.2.2))))
  refine wpQuiet_nil ?_
  rintro _ ⟨n, rfl⟩
  have I9 := hN n
  generalize N n = w9 at I9 ⊢
  clear q0 q1 q2 q3 q4 q5 q6 q7 q8 gl hM hN N n hne hc
  go_wp2_with fail
  go_ret2
  exact ⟨rfl, I9.2.2.2⟩

set_option maxRecDepth 100000 in
set_option maxHeartbeats 1000000 in
theorem ownLow_none1 (A : Option Addr) (cap : Nat) (A' : Option Addr) (cap' : Nat) (nk : Nat) (w : World) :
    Calls Try.prog 196 #[.agg #[.bool true, .slice A 0 cap, .slice A' nk cap']] w fun x w' => x = .returned (.string ⟨#[]⟩) ∧ Below w.heap.size w w' := by
  go_enter Try.func196, Try.ntmps196
  go_wp2_with fail
  go_ret
  exact ⟨rfl, (Below.refl _ _).alloc (Nat.le_refl _) _⟩

set_option maxRecDepth 100000 in
set_option maxHeartbeats 1000000 in
theorem ownLow_none2 (A : Option Addr) (cap : Nat) (A' : Option Addr) (cap' : Nat) (ne : Nat) (w : World) :
    Calls Try.prog 196 #[.agg #[.bool false, .slice A ne cap, .slice A' 0 cap']] w fun x w' => x = .returned (.string ⟨#[]⟩) ∧ Below w.heap.size w w' := by
  go_enter Try.func196, Try.ntmps196
  go_wp2_with fail
  go_ret
  exact ⟨rfl, (Below.refl _ _).alloc (Nat.le_refl _) _⟩

set_option maxRecDepth 100000 in
set_option maxHeartbeats 1000000 in
theorem ownLow_leaf (bk off cap : Nat) (A' : Option Addr) (cap' : Nat) (ne nk : Nat) (s : ByteArray) (w : World) (hp : 0 < ne) (hm : ne ≤ 140737488355328) (hb : bk < w.heap.size) (hs : w.cell? ⟨bk, off, none⟩ = some (.string s)) :
    Calls Try.prog 196 #[.agg #[.bool true, .slice (some ⟨bk, off, none⟩) ne cap, .slice A' nk cap']] w fun x w' => x = .returned (.string s) ∧ Below w.heap.size w w' := by
  have hp1 : (0 : Int) < (ne : Int) := by omega
  go_enter Try.func196, Try.ntmps196
  go_wp2_with fail
  go_ret
  exact ⟨rfl, (Below.refl _ _).alloc (Nat.le_refl _) _⟩

set_option maxRecDepth 100000 in
set_option maxHeartbeats 1000000 in
theorem ownLow_inner (A : Option Addr) (cap : Nat) (bk off cap' : Nat) (ne nk : Nat) (s : ByteArray) (w : World) (hp : 0 < nk) (hm : nk ≤ 140737488355328) (hb : bk < w.heap.size) (hs : w.cell? ⟨bk, off, none⟩ = some (.string s)) :
    Calls Try.prog 196 #[.agg #[.bool false, .slice A ne cap, .slice (some ⟨bk, off, none⟩) nk cap']] w fun x w' => x = .returned (.string s) ∧ Below w.heap.size w w' := by
  have hp1 : (0 : Int) < (nk : Int) := by omega
  go_enter Try.func196, Try.ntmps196
  go_wp2_with fail
  go_ret
  exact ⟨rfl, (Below.refl _ _).alloc (Nat.le_refl _) _⟩

theorem ownLow_any (lf : Bool) (es : List E) (ks : List K) (A : Option Addr) (cap : Nat) (A' : Option Addr) (cap' : Nat) (w : World) (hv : Es w w.heap.size es A cap) (hk : Ks w w.heap.size ks A' cap') :
    Calls Try.prog 196 #[.agg #[.bool lf, .slice A es.length cap, .slice A' ks.length cap']] w fun x w' => x = .returned (.string (lowOf lf es ks)) ∧ Below w.heap.size w w' := by
  have hlen : es.length ≤ 140737488355328 := by have := hv.2.1; omega
  have hlen' : ks.length ≤ 140737488355328 := by have := hk.2.1; omega
  cases lf with
  | true =>
    by_cases h0 : es = []
    · subst h0
      exact ownLow_none1 A cap A' cap' _ w
    · have hp : 0 < es.length := by cases es with | nil => exact absurd rfl h0 | cons _ _ => simp
      obtain ⟨bk, off, rfl, hb, e0, _, _⟩ := hv.at_ hp
      rw [show lowOf true es ks = es[0].s by cases es with | nil => exact absurd rfl h0 | cons _ _ => rfl]
      exact ownLow_leaf bk off cap A' cap' _ _ _ w hp hlen hb (by simpa using e0)
  | false =>
    by_cases h0 : ks = []
    · subst h0
      exact ownLow_none2 A cap A' cap' _ w
    · have hp : 0 < ks.length := by cases ks with | nil => exact absurd rfl h0 | cons _ _ => simp
      obtain ⟨bk, off, rfl, hb, e0, _, _⟩ := hk.at_ hp
      rw [show lowOf false es ks = ks[0].s by cases ks with | nil => exact absurd rfl h0 | cons _ _ => rfl]
      exact ownLow_inner A cap bk off cap' _ _ _ w hp hlen' hb (by simpa using e0)

theorem lowIs : LowIs := fun lf es ks A cap A2 cap2 w hv hk => ownLow_any lf es ks A cap A2 cap2 w hv hk
end Go.Proofs.Ytoenkkbcpafanaa.nodes
