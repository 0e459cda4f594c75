/- add of the document: pure words; what is refused. -/
import Derived.Test.YtchghlbiongccaaKVerB


namespace Go.Proofs.Ytchghlbiongccaa.vers
set_option linter.unusedVariables false
set_option linter.unusedSimpArgs false
open Go.RowKit Go.Proofs.Ytchghlbiongccaa.base Go.Proofs.Ytchghlbiongccaa.quotas

/-- the slice u holds the versions l, in blocks lo .. -/
def HV (lo : Nat) (w : World) (l : List V) (u : Value) : Prop := ∃ A c, u = .slice A l.length c ∧ Vs w w.heap.size l A c ∧ ∀ b off, A = some ⟨b, off, none⟩ → lo ≤ b
theorem HV.nil (lo : Nat) (w : World) : HV lo w [] (.slice none 0 0) :=
  ⟨none, 0, rfl, ⟨Nat.le_refl _, by simp, fun _ => rfl, Rd.nil _ _ _, fun x h => by cases h⟩, fun b off e => by cases e⟩
theorem OwnV.hv {lo : Nat} {w : World} {l : List V} {v : Value} (h : OwnV lo w l v) : HV lo w l v := h.vs
theorem HV.move {lo : Nat} {w w2 : World} {l : List V} {u : Value} (h : HV lo w l u) (hs : w.heap.size ≤ w2.heap.size) (hk : ∀ p : Addr, lo ≤ p.block → p.block < w.heap.size → w2.cell? p = w.cell? p) : HV lo w2 l u := by
  obtain ⟨A, c, e, ⟨h1, h2, h3, h4, h5⟩, hl⟩ := h
  refine ⟨A, c, e, ⟨h1, h2, h3, fun j v hj => ?_, h5⟩, hl⟩
  obtain ⟨b, off, e2, hb, hc⟩ := h4 j v hj
  exact ⟨b, off, e2, by omega, (hk ⟨b, off + j, none⟩ (hl b off e2) hb).trans hc⟩
theorem HV.more {lo lo' : Nat} {w : World} {l : List V} {u : Value} (h : HV lo w l u) (hl : lo' ≤ lo) : HV lo' w l u := by
  obtain ⟨A, c, e, h1, h2⟩ := h
  exact ⟨A, c, e, h1, fun b off e2 => Nat.le_trans hl (h2 b off e2)⟩
theorem HV.setCell {lo : Nat} {w : World} {l : List V} {u : Value} (h : HV lo w l u) {p : Addr} (hp : p.block < lo) (v : Value) : HV lo (w.setCell p v) l u :=
  h.move (by simp) fun q q1 _ => World.cell?_setCell_far w p q v (by intro e; omega)

/-- what add answers: what there is, what dropped, or why not -/
structure Ad where
  bad : Int
  s : ByteArray
  k : List V
  d : List V
def badA (n : Int) : Ad := ⟨n, ⟨#[]⟩, [], []⟩
def noOf (l : List V) : Int := match l.getLast? with | some x => x.n + 1 | none => 1
def addP (a b c d e f h : Int) (s : ByteArray) (l : List V) (v t : ByteArray) (kp : Int) : Ad :=
  if nbad a b c d e f h s l ≠ 0 then badA (nbad a b c d e f h s l)
  else if c < v.size ∨ d < t.size then badA 5
  else if 1073741824 < noOf l then badA 2
  else ⟨0, s, l.drop ((l.length : Int) + 1 - kp).toNat ++ [⟨noOf l, v, t⟩], l.take ((l.length : Int) + 1 - kp).toNat⟩
/-- how it lies in memory -/
def AddAns (w : World) (r : Ad) (x : Ending) (w' : World) : Prop :=
  ∃ u u', x = .returned (.agg #[.string r.s, u, u', .int .i64 r.bad]) ∧ Below w.heap.size w w' ∧ HV w.heap.size w' r.k u ∧ HV w.heap.size w' r.d u'

theorem nbad_zero {a b c d e f h : Int} {s : ByteArray} {l : List V} (hz : nbad a b c d e f h s l = 0) : ok a b c d e f h ∧ (l.length : Int) ≤ 4 ∧ (l.length : Int) ≤ e := by
  by_cases hk : ok a b c d e f h
  · refine ⟨hk, ?_⟩
    have h5 := hk.2.2.2.2.1
    rw [nbad_yes hk] at hz
    by_cases h3 : e < (l.length : Int)
    · rw [if_pos h3] at hz
      split at hz
      · omega
      · split at hz <;> omega
    · omega
  · rw [nbad_no hk] at hz; omega

abbrev zAdd : Array Value := #[.string ⟨#[]⟩, .slice none 0 0, .slice none 0 0, .int .i64 0]
theorem four_below {B g : Nat} {a w : World} (h : Below B a w) (hg : B ≤ g) (u v x y : Value) : Below B a ((((w.setCell ⟨g, 0, none⟩ u).setCell ⟨g, 1, none⟩ v).setCell ⟨g, 2, none⟩ x).setCell ⟨g, 3, none⟩ y) :=
  (((h.setCell hg u).setCell hg v).setCell hg x).setCell hg y

end Go.Proofs.Ytchghlbiongccaa.vers

/- add of the document: what is too long. -/

namespace Go.Proofs.Ytchghlbiongccaa.vers
set_option linter.unusedVariables false
set_option linter.unusedSimpArgs false
open Go.RowKit Go.Proofs.Ytchghlbiongccaa.base Go.Proofs.Ytchghlbiongccaa.quotas

end Go.Proofs.Ytchghlbiongccaa.vers

/- add of the document: a version more. -/

namespace Go.Proofs.Ytchghlbiongccaa.vers
set_option linter.unusedVariables false
set_option linter.unusedSimpArgs false
open Go.RowKit Go.Proofs.Ytchghlbiongccaa.base Go.Proofs.Ytchghlbiongccaa.quotas

/-- a new block that holds one version, as a slice of one -/
theorem Vs.one (w : World) (x : V) (hx : x.fits) : Vs (w.alloc (.cells #[.int .i64 x.n, .string x.v, .string x.t] 114)) (w.heap.size + 1) [x] (some ⟨w.heap.size, 0, none⟩) 1 := by
  refine ⟨Nat.le_refl _, by simp, (fun e => by cases e), ?_, fun y hy => by rw [List.mem_singleton.1 hy]; exact hx⟩
  exact (Blk.new w 114 #[.int .i64 x.n, .string x.v, .string x.t]).rd (xs := [.int .i64 x.n, .string x.v, .string x.t]) (by omega)

theorem OwnV.shape {lo : Nat} {w : World} {l : List V} {v : Value} (h : OwnV lo w l v) : ∃ A n c, v = .slice A n c ∧ Hid (n = l.length) := by
  obtain ⟨A, c, e, _⟩ := h.form
  exact ⟨A, _, c, e, lay rfl⟩
theorem take_snoc (l : List V) {j : Nat} (hj : j < l.length) : l.take (j + 1) = l.take j ++ [l[j]] := List.take_succ_eq_append_getElem hj
theorem drop_snoc (l : List V) {j dr : Nat} (hj : j < l.length) (hd : dr ≤ j) : (l.take (j + 1)).drop dr = (l.take j).drop dr ++ [l[j]] := by
  rw [take_snoc l hj, List.drop_append_of_le_length (by simp; omega)]
theorem drop_none (l : List V) {j dr : Nat} (hd : j ≤ dr) : (l.take j).drop dr = [] := List.drop_eq_nil_of_le (by simp; omega)

end Go.Proofs.Ytchghlbiongccaa.vers
