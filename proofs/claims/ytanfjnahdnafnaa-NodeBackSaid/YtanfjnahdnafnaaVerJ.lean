/- What is asked of the program's own calls; the walks of EntryRights and EntryAsks. -/
import Derived.Test.YtanfjnahdnafnaaVerI
import Derived.Test.YtanfjnahdnafnaaQuN


namespace Go.Proofs.Ytanfjnahdnafnaa.vers
set_option linter.unusedVariables false
set_option linter.unusedSimpArgs false
open Go.RowKit Go.Proofs.Ytanfjnahdnafnaa.base Go.Proofs.Ytanfjnahdnafnaa.quotas

def RightIs : Prop := ∀ (a b c d e f h : Int) (s : ByteArray) (l : List V) (A : Option Addr) (cap : Nat) (w : World), Vs w w.heap.size l A cap →
  Calls Try.prog 57 #[.agg #[.int .i64 a, .int .i64 b, .int .i64 c, .int .i64 d, .int .i64 e, .int .i64 f, .int .i64 h], .agg #[.string s, .slice A l.length cap]] w fun x w' => x = .returned (.int .i64 (rb (nbad a b c d e f h s l) l)) ∧ Below w.heap.size w w'
theorem call_in {P : Program} {f : FuncId} {args : Array Value} {v : Value} {S : World → Prop} {N : World → World} {n : World} (hS : ∀ w w', S w → Below w.heap.size w w' → S w') (h1 : ∀ n, S (N n)) (h2 : ∀ w', S w' → ∃ n, w' = N n)
    (hc : Calls P f args (N n) fun e w' => e = .returned v ∧ Below (N n).heap.size (N n) w') : Calls P f args (N n) fun e w'' => e = .returned v ∧ ∃ m, w'' = N m :=
  hc.mono fun _ _ ⟨he, hb⟩ => ⟨he, h2 _ (hS _ _ (h1 n) hb)⟩
theorem Bx.drew {w wr : World} {a b c d e f h : Int} {s : ByteArray} {u : Value} (h1 : Bx w a b c d e f h s u wr) : Bx w a b c d e f h s u wr.drew := h1.next ((Below.refl _ _).drew)
theorem Vs.at_world {w wr : World} {l : List V} {A : Option Addr} {c : Nat} (h : Vs w w.heap.size l A c) (hb : Below w.heap.size w wr) : Vs wr wr.heap.size l A c := (h.below hb).more hb.size

/-- an own box that holds a version -/
def VBox (w : World) (g : Nat) (x : V) : Prop := (w.cell? ⟨g, 0, none⟩ = some (.int .i64 x.n) ∧ w.cell? ⟨g, 1, none⟩ = some (.string x.v) ∧ w.cell? ⟨g, 2, none⟩ = some (.string x.t)) ∧ g < w.heap.size
theorem VBox.new (w : World) (x : V) : VBox (w.alloc (.cells #[.int .i64 x.n, .string x.v, .string x.t] 63)) w.heap.size x := by
  have k := Blk.new w 63 #[.int .i64 x.n, .string x.v, .string x.t]
  exact ⟨⟨k.cell 0, k.cell 1, k.cell 2⟩, by simp⟩
theorem VBox.next {w w' : World} {g : Nat} {x : V} (h : VBox w g x) (hb : Below w.heap.size w w') : VBox w' g x := by
  obtain ⟨⟨a, b, c⟩, d⟩ := h
  have hs := hb.size
  refine ⟨⟨?_, ?_, ?_⟩, by omega⟩ <;> (rw [hb.cell (by simpa using d)]; assumption)
theorem VBox.alloc {w : World} {g : Nat} {x : V} (h : VBox w g x) (o : Obj) : VBox (w.alloc o) g x := h.next ((Below.refl _ _).alloc (Nat.le_refl _) _)
/-- an own box that holds a secret -/
def EBox (w : World) (g : Nat) (s : ByteArray) (u : Value) : Prop := (w.cell? ⟨g, 0, none⟩ = some (.string s) ∧ w.cell? ⟨g, 1, none⟩ = some u) ∧ g < w.heap.size
theorem EBox.new (w : World) (s : ByteArray) (u : Value) : EBox (w.alloc (.cells #[.string s, u] 61)) w.heap.size s u := by
  have k := Blk.new w 61 #[.string s, u]
  exact ⟨⟨k.cell 0, k.cell 1⟩, by simp⟩
theorem EBox.next {w w' : World} {g : Nat} {s : ByteArray} {u : Value} (h : EBox w g s u) (hb : Below w.heap.size w w') : EBox w' g s u := by
  obtain ⟨⟨a, b⟩, d⟩ := h
  have hs := hb.size
  refine ⟨⟨?_, ?_⟩, by omega⟩ <;> (rw [hb.cell (by simpa using d)]; assumption)
theorem EBox.alloc {w : World} {g : Nat} {s : ByteArray} {u : Value} (h : EBox w g s u) (o : Obj) : EBox (w.alloc o) g s u := h.next ((Below.refl _ _).alloc (Nat.le_refl _) _)

end Go.Proofs.Ytanfjnahdnafnaa.vers
