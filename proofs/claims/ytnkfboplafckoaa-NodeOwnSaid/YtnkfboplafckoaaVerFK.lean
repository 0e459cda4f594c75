/- add of the document: pure words; what is refused. -/
import Derived.Test.YtnkfboplafckoaaVerAE
import Derived.Test.YtnkfboplafckoaaQuN


namespace Go.Proofs.Ytnkfboplafckoaa.vers
set_option linter.unusedVariables false
set_option linter.unusedSimpArgs false
open Go.RowKit Go.Proofs.Ytnkfboplafckoaa.base Go.Proofs.Ytnkfboplafckoaa.quotas

/-- the slice u holds the versions l, in blocks lo .. -/
def HV (lo : Nat) (w : World) (l : List V) (u : Value) : Prop := ∃ A c, u = .slice A l.length c ∧ Vs w w.heap.size l A c ∧ ∀ b off, A = some ⟨b, off, none⟩ → lo ≤ b
theorem HV.nil (lo : Nat) (w : World) : HV lo w [] (.slice none 0 0) :=
  ⟨none, 0, rfl, ⟨Nat.le_refl _, by simp, fun _ => rfl, Rd.nil _ _ _, fun x h => by cases h⟩, fun b off e => by cases e⟩
theorem OwnV.hv {lo : Nat} {w : World} {l : List V} {v : Value} (h : OwnV lo w l v) : HV lo w l v := h.vs
theorem HV.move {lo : Nat} {w w2 : World} {l : List V} {u : Value} (h : HV lo w l u) (hs : w.heap.size ≤ w2.heap.size) (hk : ∀ p : Addr, lo ≤ p.block → p.block < w.heap.size → w2.cell? p = w.cell? p) : HV lo w2 l u := by
  obtain ⟨A, c, e, ⟨h1, h2, h3, h4, h5⟩, hl⟩ := h
  refine ⟨A, c, e, ⟨h1, h2, h3, fun j v hj => ?_, h5⟩, hl⟩
  obtain ⟨b, off, e2, hb, hc⟩ := h4 j v hj
  exact ⟨b, off, e2, by omega, (hk ⟨b, off + j, none⟩ (hl b off e2) hb).trans hc⟩
theorem HV.more {lo lo' : Nat} {w : World} {l : List V} {u : Value} (h : HV lo w l u) (hl : lo' ≤ lo) : HV lo' w l u := by
  obtain ⟨A, c, e, h1, h2⟩ := h
  exact ⟨A, c, e, h1, fun b off e2 => Nat.le_trans hl (h2 b off e2)⟩
theorem HV.setCell {lo : Nat} {w : World} {l : List V} {u : Value} (h : HV lo w l u) {p : Addr} (hp : p.block < lo) (v : Value) : HV lo (w.setCell p v) l u :=
  h.move (by simp) fun q q1 _ => World.cell?_setCell_far w p q v (by intro e; omega)

/-- what add answers: what there is, what dropped, or why not -/
structure Ad where
  bad : Int
  s : ByteArray
  k : List V
  d : List V
def badA (n : Int) : Ad := ⟨n, ⟨#[]⟩, [], []⟩
def noOf (l : List V) : Int := match l.getLast? with | some x => x.n + 1 | none => 1
def addP (a b c d e f h : Int) (s : ByteArray) (l : List V) (v t : ByteArray) (kp : Int) : Ad :=
  if nbad a b c d e f h s l ≠ 0 then badA (nbad a b c d e f h s l)
  else if c < v.size ∨ d < t.size then badA 5
  else if 1073741824 < noOf l then badA 2
  else ⟨0, s, l.drop ((l.length : Int) + 1 - kp).toNat ++ [⟨noOf l, v, t⟩], l.take ((l.length : Int) + 1 - kp).toNat⟩
/-- how it lies in memory -/
def AddAns (w : World) (r : Ad) (x : Ending) (w' : World) : Prop :=
  ∃ u u', x = .returned (.agg #[.string r.s, u, u', .int .i64 r.bad]) ∧ Below w.heap.size w w' ∧ HV w.heap.size w' r.k u ∧ HV w.heap.size w' r.d u'

theorem nbad_zero {a b c d e f h : Int} {s : ByteArray} {l : List V} (hz : nbad a b c d e f h s l = 0) : ok a b c d e f h ∧ (l.length : Int) ≤ 4 ∧ (l.length : Int) ≤ e := by
  by_cases hk : ok a b c d e f h
  · refine ⟨hk, ?_⟩
    have h5 := hk.2.2.2.2.1
    rw [nbad_yes hk] at hz
    by_cases h3 : e < (l.length : Int)
    · rw [if_pos h3] at hz
      split at hz
      · omega
      · split at hz <;> omega
    · omega
  · rw [nbad_no hk] at hz; omega

abbrev zAdd : Array Value := #[.string ⟨#[]⟩, .slice none 0 0, .slice none 0 0, .int .i64 0]
theorem four_below {B g : Nat} {a w : World} (h : Below B a w) (hg : B ≤ g) (u v x y : Value) : Below B a ((((w.setCell ⟨g, 0, none⟩ u).setCell ⟨g, 1, none⟩ v).setCell ⟨g, 2, none⟩ x).setCell ⟨g, 3, none⟩ y) :=
  (((h.setCell hg u).setCell hg v).setCell hg x).setCell hg y

end Go.Proofs.Ytnkfboplafckoaa.vers

/- add of the document: what is too long. -/

namespace Go.Proofs.Ytnkfboplafckoaa.vers
set_option linter.unusedVariables false
set_option linter.unusedSimpArgs false
open Go.RowKit Go.Proofs.Ytnkfboplafckoaa.base Go.Proofs.Ytnkfboplafckoaa.quotas

end Go.Proofs.Ytnkfboplafckoaa.vers

/- add of the document: a version more. -/

namespace Go.Proofs.Ytnkfboplafckoaa.vers
set_option linter.unusedVariables false
set_option linter.unusedSimpArgs false
open Go.RowKit Go.Proofs.Ytnkfboplafckoaa.base Go.Proofs.Ytnkfboplafckoaa.quotas

/-- a new block that holds one version, as a slice of one -/
theorem Vs.one (w : World) (x : V) (hx : x.fits) : Vs (w.alloc (.cells #[.int .i64 x.n, .string x.v, .string x.t] 55)) (w.heap.size + 1) [x] (some ⟨w.heap.size, 0, none⟩) 1 := by
  refine ⟨Nat.le_refl _, by simp, (fun e => by cases e), ?_, fun y hy => by rw [List.mem_singleton.1 hy]; exact hx⟩
  exact (Blk.new w 55 #[.int .i64 x.n, .string x.v, .string x.t]).rd (xs := [.int .i64 x.n, .string x.v, .string x.t]) (by omega)

theorem OwnV.shape {lo : Nat} {w : World} {l : List V} {v : Value} (h : OwnV lo w l v) : ∃ A n c, v = .slice A n c ∧ Hid (n = l.length) := by
  obtain ⟨A, c, e, _⟩ := h.form
  exact ⟨A, _, c, e, lay rfl⟩
theorem take_snoc (l : List V) {j : Nat} (hj : j < l.length) : l.take (j + 1) = l.take j ++ [l[j]] := List.take_succ_eq_append_getElem hj
theorem drop_snoc (l : List V) {j dr : Nat} (hj : j < l.length) (hd : dr ≤ j) : (l.take (j + 1)).drop dr = (l.take j).drop dr ++ [l[j]] := by
  rw [take_snoc l hj, List.drop_append_of_le_length (by simp; omega)]
theorem drop_none (l : List V) {j dr : Nat} (hd : j ≤ dr) : (l.take j).drop dr = [] := List.drop_eq_nil_of_le (by simp; omega)

end Go.Proofs.Ytnkfboplafckoaa.vers

/- add, Put and Over of the document, of anything. -/

namespace Go.Proofs.Ytnkfboplafckoaa.vers
set_option linter.unusedVariables false
set_option linter.unusedSimpArgs false
open Go.RowKit Go.Proofs.Ytnkfboplafckoaa.base Go.Proofs.Ytnkfboplafckoaa.quotas

/-- behind versions in which nothing is wrong the last number is right -/
theorem vbad_last (c d : Int) : ∀ (l : List V) (p : Int), vbad c d p l = 0 → 0 ≤ p → ∀ x, l.getLast? = some x → 0 ≤ x.n ∧ x.n ≤ 1073741824
  | [], _, _, _, x, hx => by simp at hx
  | [y], p, h, hp, x, hx => by
    simp at hx
    subst hx
    unfold vbad at h
    split at h
    · omega
    · rename_i h1; omega
  | y :: z :: l, p, h, hp, x, hx => by
    unfold vbad at h
    split at h
    · omega
    · rename_i h1
      split at h
      · omega
      · exact vbad_last c d (z :: l) y.n h (by omega) x (by rw [List.getLast?_cons_cons] at hx; exact hx)
theorem nbad_last {a b c d e f h : Int} {s : ByteArray} {l : List V} (hz : nbad a b c d e f h s l = 0) {k : Nat} (hk : l.length = k + 1) : 0 ≤ l[k].n ∧ l[k].n ≤ 1073741824 := by
  have hok := (nbad_zero hz).1
  rw [nbad_yes hok] at hz
  have hv : vbad c d 0 l = 0 := by
    split at hz
    · omega
    · split at hz
      · omega
      · split at hz
        · omega
        · exact hz
  refine vbad_last c d l 0 hv (by omega) l[k] ?_
  rw [List.getLast?_eq_getElem?, show l.length - 1 = k by omega, List.getElem?_eq_getElem (by omega)]

theorem HV.shape {lo : Nat} {w : World} {l : List V} {u : Value} (h : HV lo w l u) : ∃ A n c, u = .slice A n c ∧ Hid (n = l.length) := by
  obtain ⟨A, c, e, _⟩ := h
  exact ⟨A, _, c, e, lay rfl⟩
/-- what a caller's own box of an answer leaves of it -/
theorem HV.four {lo : Nat} {w : World} {l : List V} {u : Value} (h : HV lo w l u) {g : Nat} (hg : g < lo) (x y z q : Value) : HV lo ((((w.setCell ⟨g, 0, none⟩ x).setCell ⟨g, 1, none⟩ y).setCell ⟨g, 2, none⟩ z).setCell ⟨g, 3, none⟩ q) l u :=
  (((h.setCell hg x).setCell hg y).setCell hg z).setCell hg q

end Go.Proofs.Ytnkfboplafckoaa.vers

/- What is asked of the program's own calls; the walks of EntryRights and EntryAsks. -/

namespace Go.Proofs.Ytnkfboplafckoaa.vers
set_option linter.unusedVariables false
set_option linter.unusedSimpArgs false
open Go.RowKit Go.Proofs.Ytnkfboplafckoaa.base Go.Proofs.Ytnkfboplafckoaa.quotas

def RightIs : Prop := ∀ (a b c d e f h : Int) (s : ByteArray) (l : List V) (A : Option Addr) (cap : Nat) (w : World), Vs w w.heap.size l A cap →
  Calls Try.prog 60 #[.agg #[.int .i64 a, .int .i64 b, .int .i64 c, .int .i64 d, .int .i64 e, .int .i64 f, .int .i64 h], .agg #[.string s, .slice A l.length cap]] w fun x w' => x = .returned (.int .i64 (rb (nbad a b c d e f h s l) l)) ∧ Below w.heap.size w w'
theorem call_in {P : Program} {f : FuncId} {args : Array Value} {v : Value} {S : World → Prop} {N : World → World} {n : World} (hS : ∀ w w', S w → Below w.heap.size w w' → S w') (h1 : ∀ n, S (N n)) (h2 : ∀ w', S w' → ∃ n, w' = N n)
    (hc : Calls P f args (N n) fun e w' => e = .returned v ∧ Below (N n).heap.size (N n) w') : Calls P f args (N n) fun e w'' => e = .returned v ∧ ∃ m, w'' = N m :=
  hc.mono fun _ _ ⟨he, hb⟩ => ⟨he, h2 _ (hS _ _ (h1 n) hb)⟩
theorem Bx.drew {w wr : World} {a b c d e f h : Int} {s : ByteArray} {u : Value} (h1 : Bx w a b c d e f h s u wr) : Bx w a b c d e f h s u wr.drew := h1.next ((Below.refl _ _).drew)
theorem Vs.at_world {w wr : World} {l : List V} {A : Option Addr} {c : Nat} (h : Vs w w.heap.size l A c) (hb : Below w.heap.size w wr) : Vs wr wr.heap.size l A c := (h.below hb).more hb.size

/-- an own box that holds a version -/
def VBox (w : World) (g : Nat) (x : V) : Prop := (w.cell? ⟨g, 0, none⟩ = some (.int .i64 x.n) ∧ w.cell? ⟨g, 1, none⟩ = some (.string x.v) ∧ w.cell? ⟨g, 2, none⟩ = some (.string x.t)) ∧ g < w.heap.size
theorem VBox.new (w : World) (x : V) : VBox (w.alloc (.cells #[.int .i64 x.n, .string x.v, .string x.t] 55)) w.heap.size x := by
  have k := Blk.new w 55 #[.int .i64 x.n, .string x.v, .string x.t]
  exact ⟨⟨k.cell 0, k.cell 1, k.cell 2⟩, by simp⟩
theorem VBox.next {w w' : World} {g : Nat} {x : V} (h : VBox w g x) (hb : Below w.heap.size w w') : VBox w' g x := by
  obtain ⟨⟨a, b, c⟩, d⟩ := h
  have hs := hb.size
  refine ⟨⟨?_, ?_, ?_⟩, by omega⟩ <;> (rw [hb.cell (by simpa using d)]; assumption)
theorem VBox.alloc {w : World} {g : Nat} {x : V} (h : VBox w g x) (o : Obj) : VBox (w.alloc o) g x := h.next ((Below.refl _ _).alloc (Nat.le_refl _) _)
/-- an own box that holds a secret -/
def EBox (w : World) (g : Nat) (s : ByteArray) (u : Value) : Prop := (w.cell? ⟨g, 0, none⟩ = some (.string s) ∧ w.cell? ⟨g, 1, none⟩ = some u) ∧ g < w.heap.size
theorem EBox.new (w : World) (s : ByteArray) (u : Value) : EBox (w.alloc (.cells #[.string s, u] 53)) w.heap.size s u := by
  have k := Blk.new w 53 #[.string s, u]
  exact ⟨⟨k.cell 0, k.cell 1⟩, by simp⟩
theorem EBox.next {w w' : World} {g : Nat} {s : ByteArray} {u : Value} (h : EBox w g s u) (hb : Below w.heap.size w w') : EBox w' g s u := by
  obtain ⟨⟨a, b⟩, d⟩ := h
  have hs := hb.size
  refine ⟨⟨?_, ?_⟩, by omega⟩ <;> (rw [hb.cell (by simpa using d)]; assumption)
theorem EBox.alloc {w : World} {g : Nat} {s : ByteArray} {u : Value} (h : EBox w g s u) (o : Obj) : EBox (w.alloc o) g s u := h.next ((Below.refl _ _).alloc (Nat.le_refl _) _)

end Go.Proofs.Ytnkfboplafckoaa.vers

/- The walk of EntryPuts, out of what is asked of the program's own calls. -/

namespace Go.Proofs.Ytnkfboplafckoaa.vers
set_option linter.unusedVariables false
set_option linter.unusedSimpArgs false
open Go.RowKit Go.Proofs.Ytnkfboplafckoaa.base Go.Proofs.Ytnkfboplafckoaa.quotas

/-- how the program's own Put answers -/
def PutAns (w : World) (r : Ad) (x : Ending) (w' : World) : Prop :=
  ∃ u u', x = .returned (.tuple #[.agg #[.string r.s, u], u', .int .i64 r.bad]) ∧ Below w.heap.size w w' ∧ HV w.heap.size w' r.k u ∧ HV w.heap.size w' r.d u'
theorem HV.next {lo : Nat} {w w' : World} {l : List V} {u : Value} (h : HV lo w l u) (hb : Below w.heap.size w w') : HV lo w' l u := h.move hb.size fun p _ hp => hb.cell hp
theorem HV.alloc {lo : Nat} {w : World} {l : List V} {u : Value} (h : HV lo w l u) (ob : Obj) : HV lo (w.alloc ob) l u := h.next ((Below.refl _ _).alloc (Nat.le_refl _) _)
theorem HV.vs {lo : Nat} {w : World} {l : List V} {A : Option Addr} {n c : Nat} (h : HV lo w l (.slice A n c)) : Vs w w.heap.size l A c := by
  obtain ⟨A', c', e, hv, _⟩ := h
  cases e
  exact hv
/-- a box of an answer of add -/
def ABox (w : World) (g : Nat) (s : ByteArray) (u u' : Value) (n : Int) : Prop := (w.cell? ⟨g, 0, none⟩ = some (.string s) ∧ w.cell? ⟨g, 1, none⟩ = some u ∧ w.cell? ⟨g, 2, none⟩ = some u' ∧ w.cell? ⟨g, 3, none⟩ = some (.int .i64 n)) ∧ g < w.heap.size
theorem ABox.next {w w' : World} {g : Nat} {s : ByteArray} {u u' : Value} {n : Int} (h : ABox w g s u u' n) (hb : Below w.heap.size w w') : ABox w' g s u u' n := by
  obtain ⟨⟨a, b, c, e⟩, d⟩ := h
  have hs := hb.size
  refine ⟨⟨?_, ?_, ?_, ?_⟩, by omega⟩ <;> (rw [hb.cell (by simpa using d)]; assumption)
theorem ABox.alloc {w : World} {g : Nat} {s : ByteArray} {u u' : Value} {n : Int} (h : ABox w g s u u' n) (ob : Obj) : ABox (w.alloc ob) g s u u' n := h.next ((Below.refl _ _).alloc (Nat.le_refl _) _)
theorem seq {w w1 w2 : World} (h : Below w.heap.size w w1) (k : Below w1.heap.size w1 w2) : Below w.heap.size w w2 := h.trans (k.mono h.size)
theorem dec_true {l : List V} : decide (l = l) = true := decide_eq_true rfl
theorem dec_both {s : ByteArray} {l : List V} : (decide (s = s) && decide (l = l)) = true := by rw [decide_eq_true rfl, decide_eq_true rfl]; rfl

end Go.Proofs.Ytnkfboplafckoaa.vers
