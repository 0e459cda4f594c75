/- What list asks of a tree, by each of its closures. -/
import Derived.Test.YtnndohdiiglgmaaKLsF


namespace Go.Proofs.Ytnndohdiiglgmaa.trees
set_option linter.unusedVariables false
set_option linter.unusedSimpArgs false
open Go.RowKit Go.Shelf Go.Proofs.Ytnndohdiiglgmaa.base Go.Proofs.Ytnndohdiiglgmaa.quotas Go.Proofs.Ytnndohdiiglgmaa.vers Go.Proofs.Ytnndohdiiglgmaa.nodes

def fitP (ps : List ByteArray) (s : ByteArray) : Bool := (ps.length == 0) || ps.any (hasP s)
def inR (a b s : ByteArray) : Bool := !ltS s a && (decide (b.size = 0) || ltS s b)
def evry (_ : ByteArray) : Bool := true
def upTo (a s : ByteArray) : Bool := !ltS a s
def AskPost (w : World) (L : List PE) (e : Ending) (w' : World) : Prop :=
  Below w.heap.size w w' ∧ ∃ v la, e = .returned (.tuple #[v, .int .i64 0]) ∧ la.map pe = L ∧ w'.ownsRow 0 47 2 v la.length (cellsE la) ∧ (∀ g, v.ownBlock = some g → w.heap.size ≤ g) ∧ ∀ x ∈ la, VsF w' (fun g => w.heap.size ≤ g ∧ g < w'.heap.size) x.l x.A x.c ∧ x.s.size ≤ maxLen
/-- what stands beneath: a heap, a tree in it -/
structure Shown (w : World) (h : Nat) (S : Nat → Prop) (ns : List P3) (r : R) (ht : Nat) (L : List PE) : Prop where
  hp : Hp w h S ns
  root : Root ns r ht L
  low : ht ≤ 4
  fits : r.fits
  len : L.length ≤ 50
theorem Shown.below {w w' : World} {h : Nat} {S : Nat → Prop} {ns : List P3} {r : R} {ht : Nat} {L : List PE} (s : Shown w h S ns r ht L) (hb : Below w.heap.size w w') : Shown w' h S ns r ht L := ⟨s.hp.below hb, s.root, s.low, s.fits, s.len⟩
theorem Shown.all {w : World} {h : Nat} {S : Nat → Prop} {ns : List P3} {r : R} {ht : Nat} {L : List PE} (s : Shown w h S ns r ht L) : ∃ ps : List SP, secretsP ps = L ∧ ps.length ≤ 1000000 ∧ Calls Try.prog 23 #[pv h, r.val] w (APost w ps) := by
  obtain ⟨x, h1, h2, h3, h4⟩ := s.root
  refine ⟨_, secrets_tree ht r 1 x L h2, ?_, allT_ok h S ns ht r x L w s.hp s.fits h1 h2 h3 (by have := s.low; omega)⟩
  have h5 := seenP_len ht r 1 x L h2 h3
  have h6 : 5 ^ ht ≤ 5 ^ 4 := Nat.pow_le_pow_right (by omega) s.low
  have : (5 : Nat) ^ 4 = 625 := rfl
  omega
theorem filtE_yes {f : ByteArray → Bool} {es : List E} {j : Nat} (hj : j < es.length) (h : f es[j].s = true) : (es.take (j + 1)).filter (fun x => f x.s) = (es.take j).filter (fun x => f x.s) ++ [es[j]] := by
  rw [List.take_succ_eq_append_getElem hj, List.filter_append]
  simp [h]
theorem filtE_no {f : ByteArray → Bool} {es : List E} {j : Nat} (hj : j < es.length) (h : f es[j].s = false) : (es.take (j + 1)).filter (fun x => f x.s) = (es.take j).filter (fun x => f x.s) := by
  rw [List.take_succ_eq_append_getElem hj, List.filter_append]
  simp [h]
theorem filtE_le (f : ByteArray → Bool) (es : List E) (j : Nat) : ((es.take j).filter (fun x => f x.s)).length ≤ j := Nat.le_trans (List.length_filter_le _ _) (by rw [List.length_take]; omega)
theorem filtE_pe (f : ByteArray → Bool) (es : List E) : (es.filter fun x => f x.s).map pe = (es.map pe).filter fun y => f y.1 := by
  rw [List.filter_map]
  rfl

end Go.Proofs.Ytnndohdiiglgmaa.trees
