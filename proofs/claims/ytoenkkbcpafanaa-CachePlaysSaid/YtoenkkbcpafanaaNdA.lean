/- Nodes: secrets and kids in memory; what is wrong with a node, in pure words. -/
import Derived.Test.YtoenkkbcpafanaaVerB
import Derived.Test.YtoenkkbcpafanaaEs
import Derived.Laws.Cover1


namespace Go.Proofs.Ytoenkkbcpafanaa.nodes
set_option linter.unusedVariables false
set_option linter.unusedSimpArgs false
open Go.RowKit Go.Proofs.Ytoenkkbcpafanaa.base Go.Proofs.Ytoenkkbcpafanaa.quotas Go.Proofs.Ytoenkkbcpafanaa.vers

/-- a kid: its least name, its page's reference -/
structure K where
  s : ByteArray
  k : Nat
  g : Int
  o : Int
  n : Int
deriving DecidableEq
def K.cells (x : K) : List Value := [.string x.s, .int .u64 (x.k : Int), .int .i64 x.g, .int .i64 x.o, .int .i64 x.n]
def i64 (n : Int) : Prop := -9223372036854775808 ≤ n ∧ n ≤ 9223372036854775807
def K.fits (x : K) : Prop := x.s.size ≤ maxLen ∧ x.k < 18446744073709551616 ∧ i64 x.g ∧ i64 x.o ∧ i64 x.n
def cellsK : List K → List Value
  | [] => []
  | x :: l => x.cells ++ cellsK l
theorem cellsK_len : ∀ l : List K, (cellsK l).length = 5 * l.length
  | [] => rfl
  | x :: l => by rw [cellsK, List.length_append, cellsK_len l]; simp [K.cells]; omega
theorem cellsK_app : ∀ l m : List K, cellsK (l ++ m) = cellsK l ++ cellsK m
  | [], m => rfl
  | x :: l, m => by rw [List.cons_append, cellsK, cellsK_app l m, cellsK, List.append_assoc]
theorem cellsK_at : ∀ (l : List K) {j : Nat} (hj : j < l.length), (cellsK l)[5 * j]? = some (.string l[j].s) ∧ (cellsK l)[5 * j + 1]? = some (.int .u64 (l[j].k : Int)) ∧ (cellsK l)[5 * j + 2]? = some (.int .i64 l[j].g) ∧ (cellsK l)[5 * j + 3]? = some (.int .i64 l[j].o) ∧ (cellsK l)[5 * j + 4]? = some (.int .i64 l[j].n)
  | x :: l, 0, _ => ⟨rfl, rfl, rfl, rfl, rfl⟩
  | x :: l, j + 1, hj => by
    obtain ⟨e0, e1, e2, e3, e4⟩ := cellsK_at l (j := j) (by simpa using hj)
    have hl : x.cells.length = 5 := rfl
    refine ⟨?_, ?_, ?_, ?_, ?_⟩
    all_goals
      rw [cellsK, List.getElem?_append_right (by rw [hl]; omega), hl]
      first | rw [show 5 * (j + 1) - 5 = 5 * j by omega] | rw [show 5 * (j + 1) + 1 - 5 = 5 * j + 1 by omega] | rw [show 5 * (j + 1) + 2 - 5 = 5 * j + 2 by omega] | rw [show 5 * (j + 1) + 3 - 5 = 5 * j + 3 by omega] | rw [show 5 * (j + 1) + 4 - 5 = 5 * j + 4 by omega]
      assumption
theorem cellsK_one (l : List K) : ∀ u ∈ cellsK l, u.oneCell' = true := by
  induction l with
  | nil => intro u h; cases h
  | cons x l ih =>
    intro u h
    rcases List.mem_append.1 h with h | h
    · simp [K.cells] at h
      rcases h with rfl | rfl | rfl | rfl | rfl <;> rfl
    · exact ih u h
/-- the slice (A, l.length, c) holds the kids l, below block B -/
def Ks (w : World) (B : Nat) (l : List K) (A : Option Addr) (c : Nat) : Prop := l.length ≤ c ∧ l.length * 48 ≤ 140737488355328 ∧ (A = none → c = 0) ∧ Rd w B A (cellsK l) ∧ ∀ x ∈ l, x.fits
section
variable {w w' : World} {B B' : Nat} {l : List K} {A : Option Addr} {c : Nat}
theorem Ks.keep (h : Ks w B l A c) (hk : ∀ p : Addr, p.block < B → w'.cell? p = w.cell? p) : Ks w' B l A c := ⟨h.1, h.2.1, h.2.2.1, h.2.2.2.1.keep hk, h.2.2.2.2⟩
theorem Ks.below (h : Ks w B l A c) (hb : Below B w w') : Ks w' B l A c := h.keep fun _ hp => hb.cell hp
theorem Ks.more (h : Ks w B l A c) (hB : B ≤ B') : Ks w B' l A c := ⟨h.1, h.2.1, h.2.2.1, h.2.2.2.1.more hB, h.2.2.2.2⟩
theorem Ks.at_world {wr : World} (h : Ks w w.heap.size l A c) (hb : Below w.heap.size w wr) : Ks wr wr.heap.size l A c := (h.below hb).more hb.size
theorem Ks.at_ (h : Ks w B l A c) {j : Nat} (hj : j < l.length) : ∃ b off, A = some ⟨b, off, none⟩ ∧ b < B ∧ w.cell? ⟨b, off + j * 5, none⟩ = some (.string l[j].s) ∧ w.cell? ⟨b, off + j * 5 + 1, none⟩ = some (.int .u64 (l[j].k : Int)) ∧
    w.cell? ⟨b, off + j * 5 + 2, none⟩ = some (.int .i64 l[j].g) ∧ w.cell? ⟨b, off + j * 5 + 3, none⟩ = some (.int .i64 l[j].o) ∧ w.cell? ⟨b, off + j * 5 + 4, none⟩ = some (.int .i64 l[j].n) := by
  obtain ⟨e0, e1, e2, e3, e4⟩ := cellsK_at l hj
  have hr := h.2.2.2.1
  obtain ⟨b, off, e, hb, c0⟩ := hr _ _ e0
  refine ⟨b, off, e, hb, ?_, ?_, ?_, ?_, ?_⟩
  · rw [show off + j * 5 = off + 5 * j by omega]; exact c0
  · obtain ⟨b', off', e', _, c1⟩ := hr _ _ e1
    rw [e] at e'; cases e'
    rw [show off + j * 5 + 1 = off + (5 * j + 1) by omega]; exact c1
  · obtain ⟨b', off', e', _, c1⟩ := hr _ _ e2
    rw [e] at e'; cases e'
    rw [show off + j * 5 + 2 = off + (5 * j + 2) by omega]; exact c1
  · obtain ⟨b', off', e', _, c1⟩ := hr _ _ e3
    rw [e] at e'; cases e'
    rw [show off + j * 5 + 3 = off + (5 * j + 3) by omega]; exact c1
  · obtain ⟨b', off', e', _, c1⟩ := hr _ _ e4
    rw [e] at e'; cases e'
    rw [show off + j * 5 + 4 = off + (5 * j + 4) by omega]; exact c1
end

/-- is a text no greater than another? -/
def sle (x y : ByteArray) : Bool := Op.bytesLess x.toList y.toList || x.toList == y.toList
theorem sle_less {x y : ByteArray} (h : Op.bytesLess x.toList y.toList = true) : sle x y = true := by unfold sle; rw [h]; rfl
theorem sle_same {x y : ByteArray} (h : (x.toList == y.toList) = true) : sle x y = true := by unfold sle; rw [h, Bool.or_true]
theorem sle_no {x y : ByteArray} (h : Op.bytesLess x.toList y.toList = false) (k : (x.toList == y.toList) = false) : sle x y = false := by unfold sle; rw [h, k]; rfl

/-- may a reference be? -/
def refOk (g o n : Int) : Prop := (0 ≤ g ∧ g ≤ 1048576) ∧ (0 ≤ o ∧ o ≤ 134217728) ∧ (1 ≤ n ∧ n ≤ 1048576)
instance (g o n : Int) : Decidable (refOk g o n) := by unfold refOk; infer_instance
/-- does a name not stand behind the one ahead? -/
def behind (x : ByteArray) : Option ByteArray → Bool
  | none => false
  | some y => sle x y
/-- what is wrong with secrets behind one of name p -/
def ebad (a b c d e f h : Int) : Option ByteArray → List E → Int
  | _, [] => 0
  | p, x :: r => if rb (nbad a b c d e f h x.s x.l) x.l ≠ 0 then rb (nbad a b c d e f h x.s x.l) x.l else if behind x.s p = true then 60 else ebad a b c d e f h (some x.s) r
/-- what is wrong with kids behind one of least name p -/
def kbad (b : Int) : Option ByteArray → List K → Int
  | _, [] => 0
  | p, x :: r => if x.s.size = 0 then 4 else if b < x.s.size then 5 else if ¬ refOk x.g x.o x.n then 61 else if behind x.s p = true then 60 else kbad b (some x.s) r
/-- what is wrong with a node -/
def ndbad (a b c d e f h : Int) (leaf : Bool) (es : List E) (ks : List K) : Int :=
  if ok a b c d e f h then
    (if leaf = true then (if 0 < ks.length ∨ 4 < es.length then 60 else ebad a b c d e f h none es)
    else if 0 < es.length ∨ ks.length < 2 ∨ 4 < ks.length then 60 else kbad b none ks)
  else 40
/-- the name ahead of the j-th -/
def aheadE (l : List E) (j : Nat) : Option ByteArray := if h : 0 < j ∧ j ≤ l.length then some (l[j - 1]'(by omega)).s else none
def aheadK (l : List K) (j : Nat) : Option ByteArray := if h : 0 < j ∧ j ≤ l.length then some (l[j - 1]'(by omega)).s else none
theorem aheadE_zero (l : List E) : aheadE l 0 = none := by unfold aheadE; simp
theorem aheadE_succ (l : List E) {j : Nat} (hj : j < l.length) : aheadE l (j + 1) = some l[j].s := by unfold aheadE; rw [dif_pos ⟨by omega, by omega⟩]; rfl
theorem aheadK_zero (l : List K) : aheadK l 0 = none := by unfold aheadK; simp
theorem aheadK_succ (l : List K) {j : Nat} (hj : j < l.length) : aheadK l (j + 1) = some l[j].s := by unfold aheadK; rw [dif_pos ⟨by omega, by omega⟩]; rfl
theorem ebad_at (a b c d e f h : Int) (p : Option ByteArray) (l : List E) {j : Nat} (hj : j < l.length) : ebad a b c d e f h p (l.drop j) = if rb (nbad a b c d e f h l[j].s l[j].l) l[j].l ≠ 0 then rb (nbad a b c d e f h l[j].s l[j].l) l[j].l else if behind l[j].s p = true then 60 else ebad a b c d e f h (some l[j].s) (l.drop (j + 1)) := by
  rw [List.drop_eq_getElem_cons hj]; rfl
theorem ebad_end (a b c d e f h : Int) (p : Option ByteArray) (l : List E) {j : Nat} (hj : l.length ≤ j) : ebad a b c d e f h p (l.drop j) = 0 := by
  rw [List.drop_eq_nil_of_le hj]; cases p <;> rfl
theorem kbad_at (b : Int) (p : Option ByteArray) (l : List K) {j : Nat} (hj : j < l.length) : kbad b p (l.drop j) = if l[j].s.size = 0 then 4 else if b < l[j].s.size then 5 else if ¬ refOk l[j].g l[j].o l[j].n then 61 else if behind l[j].s p = true then 60 else kbad b (some l[j].s) (l.drop (j + 1)) := by
  rw [List.drop_eq_getElem_cons hj]; rfl
theorem kbad_end (b : Int) (p : Option ByteArray) (l : List K) {j : Nat} (hj : l.length ≤ j) : kbad b p (l.drop j) = 0 := by
  rw [List.drop_eq_nil_of_le hj]; cases p <;> rfl
/-- a node's least name -/
def lowOf (leaf : Bool) (es : List E) (ks : List K) : ByteArray := if leaf = true then (match es with | x :: _ => x.s | [] => ⟨#[]⟩) else (match ks with | x :: _ => x.s | [] => ⟨#[]⟩)
end Go.Proofs.Ytoenkkbcpafanaa.nodes
