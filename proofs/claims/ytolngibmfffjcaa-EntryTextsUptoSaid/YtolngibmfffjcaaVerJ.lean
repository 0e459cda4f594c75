/- What is asked of the program's own calls; the walks of EntryRights and EntryAsks. -/
import Derived.Test.YtolngibmfffjcaaVerI
import Derived.Test.YtolngibmfffjcaaQuN


namespace Go.Proofs.Ytolngibmfffjcaa.vers
set_option linter.unusedVariables false
set_option linter.unusedSimpArgs false
open Go.RowKit Go.Proofs.Ytolngibmfffjcaa.base Go.Proofs.Ytolngibmfffjcaa.quotas

def RightIs : Prop := ∀ (a b c d e f h : Int) (s : ByteArray) (l : List V) (A : Option Addr) (cap : Nat) (w : World), Vs w w.heap.size l A cap →
  Calls Try.prog 11 #[.agg #[.int .i64 a, .int .i64 b, .int .i64 c, .int .i64 d, .int .i64 e, .int .i64 f, .int .i64 h], .agg #[.string s, .slice A l.length cap]] w fun x w' => x = .returned (.int .i64 (rb (nbad a b c d e f h s l) l)) ∧ Below w.heap.size w w'
def LastIs : Prop := ∀ (s : ByteArray) (l : List V) (A : Option Addr) (cap : Nat) (w : World), Vs w w.heap.size l A cap →
  Calls Try.prog 19 #[.agg #[.string s, .slice A l.length cap]] w fun x w' => x = .returned (.tuple #[(lastV l).1.val, .bool (lastV l).2]) ∧ Below w.heap.size w w'
def AtIs : Prop := ∀ (s : ByteArray) (l : List V) (A : Option Addr) (cap : Nat) (n : Int) (w : World), Vs w w.heap.size l A cap →
  Calls Try.prog 21 #[.agg #[.string s, .slice A l.length cap], .int .i64 n] w fun x w' => x = .returned (.tuple #[(atV l n).1.val, .bool (atV l n).2]) ∧ Below w.heap.size w w'

theorem call_in {P : Program} {f : FuncId} {args : Array Value} {v : Value} {S : World → Prop} {N : World → World} {n : World} (hS : ∀ w w', S w → Below w.heap.size w w' → S w') (h1 : ∀ n, S (N n)) (h2 : ∀ w', S w' → ∃ n, w' = N n)
    (hc : Calls P f args (N n) fun e w' => e = .returned v ∧ Below (N n).heap.size (N n) w') : Calls P f args (N n) fun e w'' => e = .returned v ∧ ∃ m, w'' = N m :=
  hc.mono fun _ _ ⟨he, hb⟩ => ⟨he, h2 _ (hS _ _ (h1 n) hb)⟩
theorem Bx.drew {w wr : World} {a b c d e f h : Int} {s : ByteArray} {u : Value} (h1 : Bx w a b c d e f h s u wr) : Bx w a b c d e f h s u wr.drew := h1.next ((Below.refl _ _).drew)
theorem Vs.at_world {w wr : World} {l : List V} {A : Option Addr} {c : Nat} (h : Vs w w.heap.size l A c) (hb : Below w.heap.size w wr) : Vs wr wr.heap.size l A c := (h.below hb).more hb.size

set_option maxRecDepth 100000 in
set_option maxHeartbeats 400000 in
theorem law_rights (hp : RightIs) (a b c d e f h : Int) (s : ByteArray) (l : List V) (A : Option Addr) (cap : Nat) (w : World) (hv : Vs w w.heap.size l A cap) :
    Calls Try.prog 3 #[.agg #[.int .i64 a, .int .i64 b, .int .i64 c, .int .i64 d, .int .i64 e, .int .i64 f, .int .i64 h], .agg #[.string s, .slice A l.length cap]] w fun x w' => x = .returned (.bool true) ∧ Below w.heap.size w w' := by
  go_enter Try.func3, Try.ntmps3
  go_wp2_with fail
  obtain ⟨N, hN, hM⟩ := norms _ _ (Bx.new w a b c d e f h s (.slice A l.length cap))
  have hne : Nonempty World := ⟨w⟩
  have q0 := fun n => (hN n).1.1.1
  have q1 := fun n => (hN n).1.1.2.1
  have q2 := fun n => (hN n).1.1.2.2.1
  have q3 := fun n => (hN n).1.1.2.2.2.1
  have q4 := fun n => (hN n).1.1.2.2.2.2.1
  have q5 := fun n => (hN n).1.1.2.2.2.2.2.1
  have q6 := fun n => (hN n).1.1.2.2.2.2.2.2
  have q7 := fun n => (hN n).2.1.1
  have q8 := fun n => (hN n).2.1.2
  refine region_class N (by kernel_rfl) (by kernel_rfl) (hM _ (Bx.new w a b c d e f h s (.slice A l.length cap)).drew) ?_
  repeat (go_big_quiet_step (first
    | (go_at_call 11; exact call_in (fun _ _ => Bx.next) hN hM (hp _ _ _ _ _ _ _ _ _ _ _ _ (hv.at_world (hN _).below)))
    | (go_at_call 12; exact call_in (fun _ _ => Bx.next) hN hM (refSecret_any _ _ _ _ _ _ _ _ _ _ _ _ (hv.at_world (hN _).below)))))
  refine wpQuiet_nil ?_
  rintro _ ⟨n, rfl⟩
  have I9 := hN n
  generalize N n = w9 at I9 ⊢
  clear q0 q1 q2 q3 q4 q5 q6 q7 q8 hM hN N n hne
  go_wp2_with fail
  go_ret
  exact ⟨rfl, I9.below⟩

/-- an own box that holds a version -/
def VBox (w : World) (g : Nat) (x : V) : Prop := (w.cell? ⟨g, 0, none⟩ = some (.int .i64 x.n) ∧ w.cell? ⟨g, 1, none⟩ = some (.string x.v) ∧ w.cell? ⟨g, 2, none⟩ = some (.string x.t)) ∧ g < w.heap.size
theorem VBox.new (w : World) (x : V) : VBox (w.alloc (.cells #[.int .i64 x.n, .string x.v, .string x.t] 39)) w.heap.size x := by
  have k := Blk.new w 39 #[.int .i64 x.n, .string x.v, .string x.t]
  exact ⟨⟨k.cell 0, k.cell 1, k.cell 2⟩, by simp⟩
theorem VBox.next {w w' : World} {g : Nat} {x : V} (h : VBox w g x) (hb : Below w.heap.size w w') : VBox w' g x := by
  obtain ⟨⟨a, b, c⟩, d⟩ := h
  have hs := hb.size
  refine ⟨⟨?_, ?_, ?_⟩, by omega⟩ <;> (rw [hb.cell (by simpa using d)]; assumption)
theorem VBox.alloc {w : World} {g : Nat} {x : V} (h : VBox w g x) (o : Obj) : VBox (w.alloc o) g x := h.next ((Below.refl _ _).alloc (Nat.le_refl _) _)
/-- an own box that holds a secret -/
def EBox (w : World) (g : Nat) (s : ByteArray) (u : Value) : Prop := (w.cell? ⟨g, 0, none⟩ = some (.string s) ∧ w.cell? ⟨g, 1, none⟩ = some u) ∧ g < w.heap.size
theorem EBox.new (w : World) (s : ByteArray) (u : Value) : EBox (w.alloc (.cells #[.string s, u] 26)) w.heap.size s u := by
  have k := Blk.new w 26 #[.string s, u]
  exact ⟨⟨k.cell 0, k.cell 1⟩, by simp⟩
theorem EBox.next {w w' : World} {g : Nat} {s : ByteArray} {u : Value} (h : EBox w g s u) (hb : Below w.heap.size w w') : EBox w' g s u := by
  obtain ⟨⟨a, b⟩, d⟩ := h
  have hs := hb.size
  refine ⟨⟨?_, ?_⟩, by omega⟩ <;> (rw [hb.cell (by simpa using d)]; assumption)
theorem EBox.alloc {w : World} {g : Nat} {s : ByteArray} {u : Value} (h : EBox w g s u) (o : Obj) : EBox (w.alloc o) g s u := h.next ((Below.refl _ _).alloc (Nat.le_refl _) _)

set_option maxRecDepth 100000 in
set_option maxHeartbeats 1000000 in
theorem law_asks (hp : LastIs) (hq : AtIs) (s : ByteArray) (l : List V) (A : Option Addr) (cap : Nat) (n : Int) (w : World) (hv : Vs w w.heap.size l A cap) :
    Calls Try.prog 5 #[.agg #[.string s, .slice A l.length cap], .int .i64 n] w fun x w' => x = .returned (.bool true) ∧ Below w.heap.size w w' := by
  have hb0 : Below w.heap.size w (w.alloc (.cells #[.string s, .slice A l.length cap] 26)) := (Below.refl _ _).alloc (Nat.le_refl _) _
  have E0 := EBox.new w s (.slice A l.length cap)
  have h1 := fun wr (hb : Below w.heap.size w wr) => hp s l A cap wr (hv.at_world hb)
  have h2 := fun wr (hb : Below w.heap.size w wr) => refLast_any s l A cap wr (hv.at_world hb)
  have h3 := fun wr (hb : Below w.heap.size w wr) => hq s l A cap n wr (hv.at_world hb)
  have h4 := fun wr (hb : Below w.heap.size w wr) => refAt_any s l A cap n wr (hv.at_world hb)
  generalize lastV l = p at h1 h2
  generalize atV l n = q at h3 h4
  obtain ⟨x, bx⟩ := p
  obtain ⟨y, by'⟩ := q
  simp only [V.val] at h1 h2 h3 h4
  go_enter Try.func5, Try.ntmps5
  go_wp2_with fail
  refine (h1 _ hb0).mono ?_
  rintro z w1 ⟨rfl, hb1⟩
  have E1 := E0.next hb1
  have B1 : Below w.heap.size w w1 := hb0.trans (hb1.mono hb0.size)
  obtain ⟨⟨c0, c1⟩, c2⟩ := id E1
  clear hb1
  go_wp2_with fail
  have B1a := B1.alloc B1.size (.cells #[.int .i64 x.n, .string x.v, .string x.t] 39)
  refine (h2 _ B1a).mono ?_
  rintro z w2 ⟨rfl, hb2⟩
  have E2 := (E1.alloc (.cells #[.int .i64 x.n, .string x.v, .string x.t] 39)).next hb2
  have X2 := (VBox.new w1 x).next hb2
  have B2 : Below w.heap.size w w2 := B1a.trans (hb2.mono B1a.size)
  clear hb2 E1 c0 c1 c2
  obtain ⟨⟨c0, c1⟩, c2⟩ := id E2
  go_wp2_with fail
  have B2a := B2.alloc B2.size (.cells #[.int .i64 x.n, .string x.v, .string x.t] 39)
  refine (h3 _ B2a).mono ?_
  rintro z w3 ⟨rfl, hb3⟩
  have E3 := (E2.alloc (.cells #[.int .i64 x.n, .string x.v, .string x.t] 39)).next hb3
  have X3 := (X2.alloc (.cells #[.int .i64 x.n, .string x.v, .string x.t] 39)).next hb3
  have Y3 := (VBox.new w2 x).next hb3
  have B3 : Below w.heap.size w w3 := B2a.trans (hb3.mono B2a.size)
  clear hb3 E2 X2 c0 c1 c2
  obtain ⟨⟨c0, c1⟩, c2⟩ := id E3
  go_wp2_with fail
  have B3a := B3.alloc B3.size (.cells #[.int .i64 y.n, .string y.v, .string y.t] 39)
  refine (h4 _ B3a).mono ?_
  rintro z w4 ⟨rfl, hb4⟩
  have X4 := (X3.alloc (.cells #[.int .i64 y.n, .string y.v, .string y.t] 39)).next hb4
  have Y4 := (Y3.alloc (.cells #[.int .i64 y.n, .string y.v, .string y.t] 39)).next hb4
  have Z4 := (VBox.new w3 y).next hb4
  have B4 : Below w.heap.size w w4 := B3a.trans (hb4.mono B3a.size)
  clear hb4 E3 X3 Y3 c0 c1 c2
  obtain ⟨⟨x0, x1, x2⟩, x3⟩ := X4
  obtain ⟨⟨y0, y1, y2⟩, y3⟩ := Y4
  obtain ⟨⟨z0, z1, z2⟩, z3⟩ := Z4
  go_wp2_with fail
  go_ret
  exact ⟨rfl, B4.alloc B4.size _⟩
end Go.Proofs.Ytolngibmfffjcaa.vers
