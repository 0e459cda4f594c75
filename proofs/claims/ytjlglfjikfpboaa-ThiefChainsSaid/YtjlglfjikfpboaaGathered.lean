/- The document's own gather and Atoms. -/
import Derived.Test.YtjlglfjikfpboaaInsert
import Derived.Test.YtjlglfjikfpboaaTermE


namespace Go.Proofs.Ytjlglfjikfpboaa.texts
set_option linter.unusedVariables false
set_option linter.unusedSimpArgs false
open Go.RowKit Go.Proofs.Ytjlglfjikfpboaa.base Go.Proofs.Ytjlglfjikfpboaa.tm Go.Proofs.Ytjlglfjikfpboaa.lies Go.Proofs.Ytjlglfjikfpboaa.rights Go.Proofs.Ytjlglfjikfpboaa.encs

theorem Txt.any {w : World} {lo : Nat} {v : Value} {ts : List (List UInt8)} (h : Txt w lo v ts) : Txt w 0 v ts := by
  obtain ⟨A, c, e, hl, h⟩ := h
  refine ⟨A, c, e, hl, fun j hj => ?_⟩
  obtain ⟨g, h1, _, h3, h4⟩ := h j hj
  exact ⟨g, h1, Nat.zero_le _, h3, h4⟩
theorem insert_at (v : Value) (lo : Nat) (ts : List (List UInt8)) (s : ByteArray) (w : World) (hT : Txt w lo v ts) (hn : ts.length ≤ 4000000) :
    Calls Try.prog 82 #[v, .string s] w fun e w' => ∃ v', e = .returned v' ∧ Below w.heap.size w w' ∧ Txt w' 0 v' (insD s.data.toList ts false) :=
  (insert_any v lo ts s.data.toList w hT hn).mono fun e w' ⟨v', h1, h2, h3⟩ => ⟨v', h1, h2, h3.any⟩
/-- all put in, one behind the other -/
def putAll (ts : List (List UInt8)) (l : List ByteArray) : List (List UInt8) := l.foldl (fun a s => insD s.data.toList a false) ts
theorem putAll_append (ts : List (List UInt8)) (l m : List ByteArray) : putAll ts (l ++ m) = putAll (putAll ts l) m := by simp [putAll]
theorem insD_len (s : List UInt8) (l : List (List UInt8)) (b : Bool) : (insD s l b).length ≤ l.length + 1 := by
  induction l generalizing b with
  | nil => cases b <;> simp [insD]
  | cons x r ih =>
    have h1 := ih false
    have h2 : (insD s r true).length = r.length := by rw [insD_done]
    cases b <;> simp only [insD]
    · simp only [Bool.false_eq_true, if_false]
      split
      · simp; omega
      · split <;> simp <;> omega
    · simp; omega
theorem putAll_len (l : List ByteArray) : ∀ ts : List (List UInt8), (putAll ts l).length ≤ ts.length + l.length := by
  induction l with
  | nil => intro ts; simp [putAll]
  | cons s l ih =>
    intro ts
    have h1 := ih (insD s.data.toList ts false)
    have h2 := insD_len s.data.toList ts false
    show (putAll (insD s.data.toList ts false) l).length ≤ _
    simp only [List.length_cons]
    omega

/-- at the loop's head -/
def GHead (W : World) (t : T) (ts : List (List UInt8)) (u i : Value) (wr : World) : Prop :=
  ∃ j : Nat, j ≤ t.l.length ∧ i = .int .i64 j ∧ Below W.heap.size W wr ∧ Txt wr 0 u (putAll ts (atomsL (t.l.take j)))

def AHead2 (W : World) (l : List T) (u i : Value) (wr : World) : Prop :=
  ∃ j : Nat, j ≤ l.length ∧ i = .int .i64 j ∧ Below W.heap.size W wr ∧ Txt wr 0 u (putAll [] (allOf (l.take j)))

end Go.Proofs.Ytjlglfjikfpboaa.texts
