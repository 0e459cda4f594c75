/- Named and Right of the document, of anything; Last and At. -/
import Derived.Test.YthmamlghmagmkaaVerA


namespace Go.Proofs.Ythmamlghmagmkaa.vers
set_option linter.unusedVariables false
set_option linter.unusedSimpArgs false
open Go.RowKit Go.Proofs.Ythmamlghmagmkaa.base Go.Proofs.Ythmamlghmagmkaa.quotas

theorem nbad_no {a b c d e f h : Int} (hk : ¬ ok a b c d e f h) (s : ByteArray) (l : List V) : nbad a b c d e f h s l = 40 := by unfold nbad; rw [if_neg hk]
theorem nbad_yes {a b c d e f h : Int} (hk : ok a b c d e f h) (s : ByteArray) (l : List V) : nbad a b c d e f h s l = if s.size = 0 then 4 else if b < s.size then 5 else if e < l.length then 50 else vbad c d 0 l := by unfold nbad; rw [if_pos hk]

/-- what is wrong with a secret -/
def rb (n : Int) (l : List V) : Int := if n = 0 ∧ l.length = 0 then 50 else n

def V.val (x : V) : Value := .agg #[.int .i64 x.n, .string x.v, .string x.t]
def zV : V := ⟨0, ⟨#[]⟩, ⟨#[]⟩⟩
/-- the last version, or none -/
def lastV (l : List V) : V × Bool := match l.getLast? with | some x => (x, true) | none => (zV, false)
/-- the first version of that number, or none -/
def atV (l : List V) (n : Int) : V × Bool := match l.find? (fun x => x.n == n) with | some x => (x, true) | none => (zV, false)

/-- behind a call's beginning: its own box holds the secret -/
theorem ebox (w : World) (s : ByteArray) (u : Value) : (w.alloc (.cells #[.string s, u] 47)).cell? ⟨w.heap.size, 0, none⟩ = some (.string s) ∧ (w.alloc (.cells #[.string s, u] 47)).cell? ⟨w.heap.size, 1, none⟩ = some u := by
  have k := Blk.new w 47 #[.string s, u]
  exact ⟨k.cell 0, k.cell 1⟩

theorem three_below {B g : Nat} {a w : World} (h : Below B a w) (hg : B ≤ g) (u v x : Value) : Below B a (((w.setCell ⟨g, 0, none⟩ u).setCell ⟨g, 1, none⟩ v).setCell ⟨g, 2, none⟩ x) :=
  ((h.setCell hg u).setCell hg v).setCell hg x
theorem atV_drop (l : List V) (n : Int) {j : Nat} (hj : j < l.length) : atV (l.drop j) n = if l[j].n == n then (l[j], true) else atV (l.drop (j + 1)) n := by
  rw [List.drop_eq_getElem_cons hj]
  unfold atV
  rw [List.find?_cons]
  cases l[j].n == n <;> rfl
theorem atV_end (l : List V) (n : Int) {j : Nat} (hj : l.length ≤ j) : atV (l.drop j) n = (zV, false) := by
  rw [List.drop_eq_nil_of_le hj]; rfl
/-- At, at a round's head -/
def AHead (w : World) (l : List V) (n : Int) (s : ByteArray) (u : Value) (x : Value) (wr : World) : Prop :=
  ∃ j : Nat, j ≤ l.length ∧ x = .int .i64 j ∧ Hid (atV l n = atV (l.drop j) n) ∧ (wr.cell? ⟨w.heap.size, 0, none⟩ = some (.string s) ∧ wr.cell? ⟨w.heap.size, 1, none⟩ = some u) ∧ Blk wr (w.heap.size + 1) 173 #[.int .i64 0, .string ⟨#[]⟩, .string ⟨#[]⟩] ∧ w.heap.size + 1 < wr.heap.size ∧ Below w.heap.size w wr

end Go.Proofs.Ythmamlghmagmkaa.vers
