/- add of the document: pure words; what is refused. -/
import Derived.Test.YtoenkkbcpafanaaA05
import Derived.Test.YtoenkkbcpafanaaA25


namespace Go.Proofs.Ytoenkkbcpafanaa.vers
set_option linter.unusedVariables false
set_option linter.unusedSimpArgs false
open Go.RowKit Go.Proofs.Ytoenkkbcpafanaa.base Go.Proofs.Ytoenkkbcpafanaa.quotas

/-- the slice u holds the versions l, in blocks lo .. -/
def HV (lo : Nat) (w : World) (l : List V) (u : Value) : Prop := ∃ A c, u = .slice A l.length c ∧ Vs w w.heap.size l A c ∧ ∀ b off, A = some ⟨b, off, none⟩ → lo ≤ b
theorem HV.nil (lo : Nat) (w : World) : HV lo w [] (.slice none 0 0) :=
  ⟨none, 0, rfl, ⟨Nat.le_refl _, by simp, fun _ => rfl, Rd.nil _ _ _, fun x h => by cases h⟩, fun b off e => by cases e⟩
theorem OwnV.hv {lo : Nat} {w : World} {l : List V} {v : Value} (h : OwnV lo w l v) : HV lo w l v := h.vs
theorem HV.move {lo : Nat} {w w2 : World} {l : List V} {u : Value} (h : HV lo w l u) (hs : w.heap.size ≤ w2.heap.size) (hk : ∀ p : Addr, lo ≤ p.block → p.block < w.heap.size → w2.cell? p = w.cell? p) : HV lo w2 l u := by
  obtain ⟨A, c, e, ⟨h1, h2, h3, h4, h5⟩, hl⟩ := h
  refine ⟨A, c, e, ⟨h1, h2, h3, fun j v hj => ?_, h5⟩, hl⟩
  obtain ⟨b, off, e2, hb, hc⟩ := h4 j v hj
  exact ⟨b, off, e2, by omega, (hk ⟨b, off + j, none⟩ (hl b off e2) hb).trans hc⟩
theorem HV.more {lo lo' : Nat} {w : World} {l : List V} {u : Value} (h : HV lo w l u) (hl : lo' ≤ lo) : HV lo' w l u := by
  obtain ⟨A, c, e, h1, h2⟩ := h
  exact ⟨A, c, e, h1, fun b off e2 => Nat.le_trans hl (h2 b off e2)⟩
theorem HV.setCell {lo : Nat} {w : World} {l : List V} {u : Value} (h : HV lo w l u) {p : Addr} (hp : p.block < lo) (v : Value) : HV lo (w.setCell p v) l u :=
  h.move (by simp) fun q q1 _ => World.cell?_setCell_far w p q v (by intro e; omega)

/-- what add answers: what there is, what dropped, or why not -/
structure Ad where
  bad : Int
  s : ByteArray
  k : List V
  d : List V
def badA (n : Int) : Ad := ⟨n, ⟨#[]⟩, [], []⟩
def noOf (l : List V) : Int := match l.getLast? with | some x => x.n + 1 | none => 1
def addP (a b c d e f h : Int) (s : ByteArray) (l : List V) (v t : ByteArray) (kp : Int) : Ad :=
  if nbad a b c d e f h s l ≠ 0 then badA (nbad a b c d e f h s l)
  else if c < v.size ∨ d < t.size then badA 5
  else if 1073741824 < noOf l then badA 2
  else ⟨0, s, l.drop ((l.length : Int) + 1 - kp).toNat ++ [⟨noOf l, v, t⟩], l.take ((l.length : Int) + 1 - kp).toNat⟩
/-- how it lies in memory -/
def AddAns (w : World) (r : Ad) (x : Ending) (w' : World) : Prop :=
  ∃ u u', x = .returned (.agg #[.string r.s, u, u', .int .i64 r.bad]) ∧ Below w.heap.size w w' ∧ HV w.heap.size w' r.k u ∧ HV w.heap.size w' r.d u'

theorem nbad_zero {a b c d e f h : Int} {s : ByteArray} {l : List V} (hz : nbad a b c d e f h s l = 0) : ok a b c d e f h ∧ (l.length : Int) ≤ 4 ∧ (l.length : Int) ≤ e := by
  by_cases hk : ok a b c d e f h
  · refine ⟨hk, ?_⟩
    have h5 := hk.2.2.2.2.1
    rw [nbad_yes hk] at hz
    by_cases h3 : e < (l.length : Int)
    · rw [if_pos h3] at hz
      split at hz
      · omega
      · split at hz <;> omega
    · omega
  · rw [nbad_no hk] at hz; omega

abbrev zAdd : Array Value := #[.string ⟨#[]⟩, .slice none 0 0, .slice none 0 0, .int .i64 0]
theorem four_below {B g : Nat} {a w : World} (h : Below B a w) (hg : B ≤ g) (u v x y : Value) : Below B a ((((w.setCell ⟨g, 0, none⟩ u).setCell ⟨g, 1, none⟩ v).setCell ⟨g, 2, none⟩ x).setCell ⟨g, 3, none⟩ y) :=
  (((h.setCell hg u).setCell hg v).setCell hg x).setCell hg y

end Go.Proofs.Ytoenkkbcpafanaa.vers

/- add of the document: what is too long. -/

namespace Go.Proofs.Ytoenkkbcpafanaa.vers
set_option linter.unusedVariables false
set_option linter.unusedSimpArgs false
open Go.RowKit Go.Proofs.Ytoenkkbcpafanaa.base Go.Proofs.Ytoenkkbcpafanaa.quotas

end Go.Proofs.Ytoenkkbcpafanaa.vers

/- add of the document: a version more. -/

namespace Go.Proofs.Ytoenkkbcpafanaa.vers
set_option linter.unusedVariables false
set_option linter.unusedSimpArgs false
open Go.RowKit Go.Proofs.Ytoenkkbcpafanaa.base Go.Proofs.Ytoenkkbcpafanaa.quotas

/-- a new block that holds one version, as a slice of one -/
theorem Vs.one (w : World) (x : V) (hx : x.fits) : Vs (w.alloc (.cells #[.int .i64 x.n, .string x.v, .string x.t] 180)) (w.heap.size + 1) [x] (some ⟨w.heap.size, 0, none⟩) 1 := by
  refine ⟨Nat.le_refl _, by simp, (fun e => by cases e), ?_, fun y hy => by rw [List.mem_singleton.1 hy]; exact hx⟩
  exact (Blk.new w 180 #[.int .i64 x.n, .string x.v, .string x.t]).rd (xs := [.int .i64 x.n, .string x.v, .string x.t]) (by omega)

theorem OwnV.shape {lo : Nat} {w : World} {l : List V} {v : Value} (h : OwnV lo w l v) : ∃ A n c, v = .slice A n c ∧ Hid (n = l.length) := by
  obtain ⟨A, c, e, _⟩ := h.form
  exact ⟨A, _, c, e, lay rfl⟩
theorem take_snoc (l : List V) {j : Nat} (hj : j < l.length) : l.take (j + 1) = l.take j ++ [l[j]] := List.take_succ_eq_append_getElem hj
theorem drop_snoc (l : List V) {j dr : Nat} (hj : j < l.length) (hd : dr ≤ j) : (l.take (j + 1)).drop dr = (l.take j).drop dr ++ [l[j]] := by
  rw [take_snoc l hj, List.drop_append_of_le_length (by simp; omega)]
theorem drop_none (l : List V) {j dr : Nat} (hd : j ≤ dr) : (l.take j).drop dr = [] := List.drop_eq_nil_of_le (by simp; omega)

end Go.Proofs.Ytoenkkbcpafanaa.vers

/- add, Put and Over of the document, of anything. -/

namespace Go.Proofs.Ytoenkkbcpafanaa.vers
set_option linter.unusedVariables false
set_option linter.unusedSimpArgs false
open Go.RowKit Go.Proofs.Ytoenkkbcpafanaa.base Go.Proofs.Ytoenkkbcpafanaa.quotas

/-- behind versions in which nothing is wrong the last number is right -/
theorem vbad_last (c d : Int) : ∀ (l : List V) (p : Int), vbad c d p l = 0 → 0 ≤ p → ∀ x, l.getLast? = some x → 0 ≤ x.n ∧ x.n ≤ 1073741824
  | [], _, _, _, x, hx => by simp at hx
  | [y], p, h, hp, x, hx => by
    simp at hx
    subst hx
    unfold vbad at h
    split at h
    · omega
    · rename_i h1; omega
  | y :: z :: l, p, h, hp, x, hx => by
    unfold vbad at h
    split at h
    · omega
    · rename_i h1
      split at h
      · omega
      · exact vbad_last c d (z :: l) y.n h (by omega) x (by rw [List.getLast?_cons_cons] at hx; exact hx)
theorem nbad_last {a b c d e f h : Int} {s : ByteArray} {l : List V} (hz : nbad a b c d e f h s l = 0) {k : Nat} (hk : l.length = k + 1) : 0 ≤ l[k].n ∧ l[k].n ≤ 1073741824 := by
  have hok := (nbad_zero hz).1
  rw [nbad_yes hok] at hz
  have hv : vbad c d 0 l = 0 := by
    split at hz
    · omega
    · split at hz
      · omega
      · split at hz
        · omega
        · exact hz
  refine vbad_last c d l 0 hv (by omega) l[k] ?_
  rw [List.getLast?_eq_getElem?, show l.length - 1 = k by omega, List.getElem?_eq_getElem (by omega)]

theorem HV.shape {lo : Nat} {w : World} {l : List V} {u : Value} (h : HV lo w l u) : ∃ A n c, u = .slice A n c ∧ Hid (n = l.length) := by
  obtain ⟨A, c, e, _⟩ := h
  exact ⟨A, _, c, e, lay rfl⟩
/-- what a caller's own box of an answer leaves of it -/
theorem HV.four {lo : Nat} {w : World} {l : List V} {u : Value} (h : HV lo w l u) {g : Nat} (hg : g < lo) (x y z q : Value) : HV lo ((((w.setCell ⟨g, 0, none⟩ x).setCell ⟨g, 1, none⟩ y).setCell ⟨g, 2, none⟩ z).setCell ⟨g, 3, none⟩ q) l u :=
  (((h.setCell hg x).setCell hg y).setCell hg z).setCell hg q

end Go.Proofs.Ytoenkkbcpafanaa.vers

/- What is asked of the program's own calls; the walks of EntryRights and EntryAsks. -/

namespace Go.Proofs.Ytoenkkbcpafanaa.vers
set_option linter.unusedVariables false
set_option linter.unusedSimpArgs false
open Go.RowKit Go.Proofs.Ytoenkkbcpafanaa.base Go.Proofs.Ytoenkkbcpafanaa.quotas

def RightIs : Prop := ∀ (a b c d e f h : Int) (s : ByteArray) (l : List V) (A : Option Addr) (cap : Nat) (w : World), Vs w w.heap.size l A cap →
  Calls Try.prog 211 #[.agg #[.int .i64 a, .int .i64 b, .int .i64 c, .int .i64 d, .int .i64 e, .int .i64 f, .int .i64 h], .agg #[.string s, .slice A l.length cap]] w fun x w' => x = .returned (.int .i64 (rb (nbad a b c d e f h s l) l)) ∧ Below w.heap.size w w'
theorem call_in {P : Program} {f : FuncId} {args : Array Value} {v : Value} {S : World → Prop} {N : World → World} {n : World} (hS : ∀ w w', S w → Below w.heap.size w w' → S w') (h1 : ∀ n, S (N n)) (h2 : ∀ w', S w' → ∃ n, w' = N n)
    (hc : Calls P f args (N n) fun e w' => e = .returned v ∧ Below (N n).heap.size (N n) w') : Calls P f args (N n) fun e w'' => e = .returned v ∧ ∃ m, w'' = N m :=
  hc.mono fun _ _ ⟨he, hb⟩ => ⟨he, h2 _ (hS _ _ (h1 n) hb)⟩
theorem Bx.drew {w wr : World} {a b c d e f h : Int} {s : ByteArray} {u : Value} (h1 : Bx w a b c d e f h s u wr) : Bx w a b c d e f h s u wr.drew := h1.next ((Below.refl _ _).drew)
theorem Vs.at_world {w wr : World} {l : List V} {A : Option Addr} {c : Nat} (h : Vs w w.heap.size l A c) (hb : Below w.heap.size w wr) : Vs wr wr.heap.size l A c := (h.below hb).more hb.size

/-- an own box that holds a version -/
def VBox (w : World) (g : Nat) (x : V) : Prop := (w.cell? ⟨g, 0, none⟩ = some (.int .i64 x.n) ∧ w.cell? ⟨g, 1, none⟩ = some (.string x.v) ∧ w.cell? ⟨g, 2, none⟩ = some (.string x.t)) ∧ g < w.heap.size
theorem VBox.new (w : World) (x : V) : VBox (w.alloc (.cells #[.int .i64 x.n, .string x.v, .string x.t] 180)) w.heap.size x := by
  have k := Blk.new w 180 #[.int .i64 x.n, .string x.v, .string x.t]
  exact ⟨⟨k.cell 0, k.cell 1, k.cell 2⟩, by simp⟩
theorem VBox.next {w w' : World} {g : Nat} {x : V} (h : VBox w g x) (hb : Below w.heap.size w w') : VBox w' g x := by
  obtain ⟨⟨a, b, c⟩, d⟩ := h
  have hs := hb.size
  refine ⟨⟨?_, ?_, ?_⟩, by omega⟩ <;> (rw [hb.cell (by simpa using d)]; assumption)
theorem VBox.alloc {w : World} {g : Nat} {x : V} (h : VBox w g x) (o : Obj) : VBox (w.alloc o) g x := h.next ((Below.refl _ _).alloc (Nat.le_refl _) _)
/-- an own box that holds a secret -/
def EBox (w : World) (g : Nat) (s : ByteArray) (u : Value) : Prop := (w.cell? ⟨g, 0, none⟩ = some (.string s) ∧ w.cell? ⟨g, 1, none⟩ = some u) ∧ g < w.heap.size
theorem EBox.new (w : World) (s : ByteArray) (u : Value) : EBox (w.alloc (.cells #[.string s, u] 47)) w.heap.size s u := by
  have k := Blk.new w 47 #[.string s, u]
  exact ⟨⟨k.cell 0, k.cell 1⟩, by simp⟩
theorem EBox.next {w w' : World} {g : Nat} {s : ByteArray} {u : Value} (h : EBox w g s u) (hb : Below w.heap.size w w') : EBox w' g s u := by
  obtain ⟨⟨a, b⟩, d⟩ := h
  have hs := hb.size
  refine ⟨⟨?_, ?_⟩, by omega⟩ <;> (rw [hb.cell (by simpa using d)]; assumption)
theorem EBox.alloc {w : World} {g : Nat} {s : ByteArray} {u : Value} (h : EBox w g s u) (o : Obj) : EBox (w.alloc o) g s u := h.next ((Below.refl _ _).alloc (Nat.le_refl _) _)

end Go.Proofs.Ytoenkkbcpafanaa.vers

/- The walk of EntryPuts, out of what is asked of the program's own calls. -/

namespace Go.Proofs.Ytoenkkbcpafanaa.vers
set_option linter.unusedVariables false
set_option linter.unusedSimpArgs false
open Go.RowKit Go.Proofs.Ytoenkkbcpafanaa.base Go.Proofs.Ytoenkkbcpafanaa.quotas

/-- how the program's own Put answers -/
def PutAns (w : World) (r : Ad) (x : Ending) (w' : World) : Prop :=
  ∃ u u', x = .returned (.tuple #[.agg #[.string r.s, u], u', .int .i64 r.bad]) ∧ Below w.heap.size w w' ∧ HV w.heap.size w' r.k u ∧ HV w.heap.size w' r.d u'
theorem HV.next {lo : Nat} {w w' : World} {l : List V} {u : Value} (h : HV lo w l u) (hb : Below w.heap.size w w') : HV lo w' l u := h.move hb.size fun p _ hp => hb.cell hp
theorem HV.alloc {lo : Nat} {w : World} {l : List V} {u : Value} (h : HV lo w l u) (ob : Obj) : HV lo (w.alloc ob) l u := h.next ((Below.refl _ _).alloc (Nat.le_refl _) _)
theorem HV.vs {lo : Nat} {w : World} {l : List V} {A : Option Addr} {n c : Nat} (h : HV lo w l (.slice A n c)) : Vs w w.heap.size l A c := by
  obtain ⟨A', c', e, hv, _⟩ := h
  cases e
  exact hv
/-- a box of an answer of add -/
def ABox (w : World) (g : Nat) (s : ByteArray) (u u' : Value) (n : Int) : Prop := (w.cell? ⟨g, 0, none⟩ = some (.string s) ∧ w.cell? ⟨g, 1, none⟩ = some u ∧ w.cell? ⟨g, 2, none⟩ = some u' ∧ w.cell? ⟨g, 3, none⟩ = some (.int .i64 n)) ∧ g < w.heap.size
theorem ABox.next {w w' : World} {g : Nat} {s : ByteArray} {u u' : Value} {n : Int} (h : ABox w g s u u' n) (hb : Below w.heap.size w w') : ABox w' g s u u' n := by
  obtain ⟨⟨a, b, c, e⟩, d⟩ := h
  have hs := hb.size
  refine ⟨⟨?_, ?_, ?_, ?_⟩, by omega⟩ <;> (rw [hb.cell (by simpa using d)]; assumption)
theorem ABox.alloc {w : World} {g : Nat} {s : ByteArray} {u u' : Value} {n : Int} (h : ABox w g s u u' n) (ob : Obj) : ABox (w.alloc ob) g s u u' n := h.next ((Below.refl _ _).alloc (Nat.le_refl _) _)
theorem seq {w w1 w2 : World} (h : Below w.heap.size w w1) (k : Below w1.heap.size w1 w2) : Below w.heap.size w w2 := h.trans (k.mono h.size)
theorem dec_true {l : List V} : decide (l = l) = true := decide_eq_true rfl
theorem dec_both {s : ByteArray} {l : List V} : (decide (s = s) && decide (l = l)) = true := by rw [decide_eq_true rfl, decide_eq_true rfl]; rfl

end Go.Proofs.Ytoenkkbcpafanaa.vers

/- What package entry's own calls answer: tooBig, judge, rightOrNew, Right, Last, At. -/

namespace Go.Proofs.Ytoenkkbcpafanaa.vers
set_option linter.unusedVariables false
set_option linter.unusedSimpArgs false
open Go.RowKit Go.Proofs.Ytoenkkbcpafanaa.base Go.Proofs.Ytoenkkbcpafanaa.quotas

def tb (c d : Int) (v t : ByteArray) : Bool := decide (c < v.size) || decide (d < t.size)
theorem tb_yes1 {c d : Int} {v t : ByteArray} (h : c < (v.size : Int)) : tb c d v t = true := by unfold tb; rw [decide_eq_true h]; rfl
theorem tb_yes2 {c d : Int} {v t : ByteArray} (h : d < (t.size : Int)) : tb c d v t = true := by unfold tb; rw [decide_eq_true h, Bool.or_true]
theorem tb_no {c d : Int} {v t : ByteArray} (h : ¬ c < (v.size : Int)) (k : ¬ d < (t.size : Int)) : tb c d v t = false := by unfold tb; rw [decide_eq_false h, decide_eq_false k]; rfl
theorem tb_iff {c d : Int} {v t : ByteArray} : tb c d v t = true ↔ (c < (v.size : Int) ∨ d < (t.size : Int)) := by unfold tb; simp
theorem tb_not {c d : Int} {v t : ByteArray} : tb c d v t = false ↔ ¬ (c < (v.size : Int) ∨ d < (t.size : Int)) := by rw [← tb_iff]; simp

set_option maxRecDepth 100000 in
set_option maxHeartbeats 400000 in
theorem tooBig_any (a b c d e f h : Int) (v t : ByteArray) (w : World) :
    Calls Try.prog 278 #[.agg #[.int .i64 a, .int .i64 b, .int .i64 c, .int .i64 d, .int .i64 e, .int .i64 f, .int .i64 h], .string v, .string t] w fun x w' => x = .returned (.bool (tb c d v t)) ∧ Below w.heap.size w w' := by
  by_cases g1 : c < (v.size : Int)
  · have d1 : decide (c < (v.size : Int)) = true := decide_eq_true g1
    rw [tb_yes1 g1]
    clear g1
    go_enter Try.func278, Try.ntmps278
    go_wp2_with fail
    go_ret
    exact ⟨rfl, (Below.refl _ _).alloc (Nat.le_refl _) _⟩
  · have d1 : decide (c < (v.size : Int)) = false := decide_eq_false g1
    by_cases g2 : d < (t.size : Int)
    · have d2 : decide (d < (t.size : Int)) = true := decide_eq_true g2
      rw [tb_yes2 g2]
      clear g1 g2
      go_enter Try.func278, Try.ntmps278
      go_wp2_with fail
      go_ret
      exact ⟨rfl, (Below.refl _ _).alloc (Nat.le_refl _) _⟩
    · have d2 : decide (d < (t.size : Int)) = false := decide_eq_false g2
      rw [tb_no g1 g2]
      clear g1 g2
      go_enter Try.func278, Try.ntmps278
      go_wp2_with fail
      go_ret
      exact ⟨rfl, (Below.refl _ _).alloc (Nat.le_refl _) _⟩

/-- judge, at a round's head: so far nothing is wrong -/
def JHead (w : World) (a b c d e f h : Int) (l : List V) (x y : Value) (wr : World) : Prop :=
  ∃ j : Nat, j ≤ l.length ∧ x = .int .i64 (before l j) ∧ y = .int .i64 j ∧ Hid (vbad c d 0 l = vbad c d (before l j) (l.drop j)) ∧ In7 w w.heap.size a b c d e f h wr

set_option maxRecDepth 100000 in
set_option maxHeartbeats 1000000 in
theorem judge_any (a b c d e f h : Int) (l : List V) (A : Option Addr) (cap : Nat) (w : World) (hv : Vs w w.heap.size l A cap) :
    Calls Try.prog 264 #[.agg #[.int .i64 a, .int .i64 b, .int .i64 c, .int .i64 d, .int .i64 e, .int .i64 f, .int .i64 h], .slice A l.length cap] w fun x w' => x = .returned (.int .i64 (vbad c d 0 l)) ∧ Below w.heap.size w w' := by
  have hlen := len_in hv
  have I0 := In7.new w a b c d e f h
  go_enter Try.func264, Try.ntmps264
  go_wp2_with fail
  go_loopw [5, 10] (fun x y wr => JHead w a b c d e f h l x y wr) (fun _ y _ => l.length - (intOf y).toNat)
  case atStart => exact ⟨0, Nat.zero_le _, by rw [before_zero], rfl, lay (by rw [before_zero]; rfl), I0⟩
  case round =>
    obtain ⟨j, hj, rfl, rfl, hV, I2⟩ := hrel
    clear I0
    obtain ⟨⟨c0, c1, c2, c3, c4, c5, c6⟩, l1, l2, b1⟩ := id I2
    by_cases hlt : j < l.length
    · obtain ⟨bk, off, rfl, hbk, v0, v1, v2⟩ := (hv.below b1).at_ hlt
      have hs2 := before_succ l hlt
      have hva := lay (vbad_at c d (before l j) l hlt)
      generalize hbp : before l j = p at hV hva ⊢
      clear hbp
      have HS2 := lay hs2
      clear hs2
      by_cases g1 : l[j].n ≤ p
      · have d1 : decide (l[j].n ≤ p) = true := decide_eq_true g1
        have hr := lay (hV.out.trans (hva.out.trans (if_pos (Or.inl g1))))
        clear g1
        go_wp2_with fail
        go_ret
        exact ⟨ret_int hr.out.symm, (I2.alloc _).2.2.2⟩
      · have d1 : decide (l[j].n ≤ p) = false := decide_eq_false g1
        by_cases g2 : (1073741824 : Int) < l[j].n
        · have d2 : decide ((1073741824 : Int) < l[j].n) = true := decide_eq_true g2
          have hr := lay (hV.out.trans (hva.out.trans (if_pos (Or.inr g2))))
          clear g1 g2
          go_wp2_with fail
          go_ret
          exact ⟨ret_int hr.out.symm, (I2.alloc _).2.2.2⟩
        · have d2 : decide ((1073741824 : Int) < l[j].n) = false := decide_eq_false g2
          have hn : Hid (¬ (l[j].n ≤ p ∨ (1073741824 : Int) < l[j].n)) := lay (by omega)
          clear g1 g2
          go_wp2_with fail
          refine (tooBig_any _ _ _ _ _ _ _ _ _ _).mono ?_
          rintro x w1 ⟨rfl, hb1⟩
          have I3 := (I2.alloc _).next hb1
          have hz := hb1.size
          simp only [World.size_alloc] at hz hb1
          have hq : w1.cell? ⟨wr.heap.size, 0, none⟩ = some (.int .i64 l[j].n) := by
            rw [hb1.cell (by simp)]
            exact (Blk.new wr 180 #[.int .i64 l[j].n, .string l[j].v, .string l[j].t]).cell 0
          cases g3 : tb c d l[j].v l[j].t
          · have hV2 : Hid (vbad c d 0 l = vbad c d (before l (j + 1)) (l.drop (j + 1))) := lay (by
              rw [hV.out, hva.out, if_neg hn.out, if_neg (tb_not.1 g3), HS2.out])
            clear g3 hb1
            go_wp2_with fail
            exact ⟨⟨j + 1, hlt, by rw [HS2.out], by go_num, hV2, I3⟩, by simp [intOf]; omega⟩
          · have hr := lay (hV.out.trans (hva.out.trans ((if_neg hn.out).trans (if_pos (tb_iff.1 g3)))))
            clear g3 hb1
            go_wp2_with fail
            go_ret
            exact ⟨ret_int hr.out.symm, I3.2.2.2⟩
    · have hr := lay (hV.out.trans (vbad_end c d _ l (by omega)))
      go_wp2_with fail
      go_ret
      exact ⟨ret_int hr.out.symm, b1⟩

set_option maxRecDepth 100000 in
set_option maxHeartbeats 1000000 in
theorem rightOrNew_any (a b c d e f h : Int) (s : ByteArray) (l : List V) (A : Option Addr) (cap : Nat) (w : World) (hv : Vs w w.heap.size l A cap) :
    Calls Try.prog 242 #[.agg #[.int .i64 a, .int .i64 b, .int .i64 c, .int .i64 d, .int .i64 e, .int .i64 f, .int .i64 h], .agg #[.string s, .slice A l.length cap]] w fun x w' => x = .returned (.int .i64 (nbad a b c d e f h s l)) ∧ Below w.heap.size w w' := by
  have hlen := len_in hv
  by_cases hk : ok a b c d e f h
  · rw [nbad_yes hk]
    by_cases h1 : s.size = 0
    · rw [if_pos h1]
      have hs0 := empty_yes h1
      clear h1
      go_enter Try.func242, Try.ntmps242
      go_wp2_with (go_at_call 123; refine (right_ok _ _ _ _ _ _ _ _ hk).mono ?_; rintro x w1 ⟨rfl, hb1⟩; have I1 := (Bx.new w a b c d e f h s (.slice A l.length cap)).next hb1; clear hb1; obtain ⟨⟨⟨c0, c1, c2, c3, c4, c5, c6⟩, l1, l2, b1⟩, ⟨e0, e1⟩, l3⟩ := id I1)
      go_ret
      exact ⟨rfl, b1⟩
    · rw [if_neg h1]
      have hs0 := empty_no h1
      clear h1
      by_cases h2 : b < (s.size : Int)
      · rw [if_pos h2]
        have d2 : decide (b < (s.size : Int)) = true := decide_eq_true h2
        clear h2
        go_enter Try.func242, Try.ntmps242
        go_wp2_with (go_at_call 123; refine (right_ok _ _ _ _ _ _ _ _ hk).mono ?_; rintro x w1 ⟨rfl, hb1⟩; have I1 := (Bx.new w a b c d e f h s (.slice A l.length cap)).next hb1; clear hb1; obtain ⟨⟨⟨c0, c1, c2, c3, c4, c5, c6⟩, l1, l2, b1⟩, ⟨e0, e1⟩, l3⟩ := id I1)
        go_ret
        exact ⟨rfl, b1⟩
      · rw [if_neg h2]
        have d2 : decide (b < (s.size : Int)) = false := decide_eq_false h2
        clear h2
        by_cases h3 : e < (l.length : Int)
        · rw [if_pos h3]
          have d3 : decide (e < (l.length : Int)) = true := decide_eq_true h3
          clear h3
          go_enter Try.func242, Try.ntmps242
          go_wp2_with (go_at_call 123; refine (right_ok _ _ _ _ _ _ _ _ hk).mono ?_; rintro x w1 ⟨rfl, hb1⟩; have I1 := (Bx.new w a b c d e f h s (.slice A l.length cap)).next hb1; clear hb1; obtain ⟨⟨⟨c0, c1, c2, c3, c4, c5, c6⟩, l1, l2, b1⟩, ⟨e0, e1⟩, l3⟩ := id I1)
          go_ret
          exact ⟨rfl, b1⟩
        · rw [if_neg h3]
          have d3 : decide (e < (l.length : Int)) = false := decide_eq_false h3
          clear h3
          go_enter Try.func242, Try.ntmps242
          go_wp2_with (go_at_call 123; refine (right_ok _ _ _ _ _ _ _ _ hk).mono ?_; rintro x w1 ⟨rfl, hb1⟩; have I1 := (Bx.new w a b c d e f h s (.slice A l.length cap)).next hb1; clear hb1; obtain ⟨⟨⟨c0, c1, c2, c3, c4, c5, c6⟩, l1, l2, b1⟩, ⟨e0, e1⟩, l3⟩ := id I1)
          refine (judge_any _ _ _ _ _ _ _ _ _ _ _ (hv.at_world b1)).mono ?_
          rintro x w2 ⟨rfl, hb2⟩
          have I2 := I1.next hb2
          clear hb2
          go_wp2_with fail
          go_ret
          exact ⟨rfl, I2.below⟩
  · rw [nbad_no hk]
    go_enter Try.func242, Try.ntmps242
    go_wp2_with (go_at_call 123; refine (right_no _ _ _ _ _ _ _ _ hk).mono ?_; rintro x w1 ⟨rfl, hb1⟩; have I1 := (Bx.new w a b c d e f h s (.slice A l.length cap)).next hb1; clear hb1; obtain ⟨⟨⟨c0, c1, c2, c3, c4, c5, c6⟩, l1, l2, b1⟩, ⟨e0, e1⟩, l3⟩ := id I1)
    go_ret
    exact ⟨rfl, I1.below⟩

set_option maxRecDepth 100000 in
set_option maxHeartbeats 400000 in
theorem right_any (a b c d e f h : Int) (s : ByteArray) (l : List V) (A : Option Addr) (cap : Nat) (w : World) (hv : Vs w w.heap.size l A cap) :
    Calls Try.prog 211 #[.agg #[.int .i64 a, .int .i64 b, .int .i64 c, .int .i64 d, .int .i64 e, .int .i64 f, .int .i64 h], .agg #[.string s, .slice A l.length cap]] w fun x w' => x = .returned (.int .i64 (rb (nbad a b c d e f h s l) l)) ∧ Below w.heap.size w w' := by
  have hlen := len_in hv
  have hc := rightOrNew_any a b c d e f h s l A cap _ ((hv.below (Bx.new w a b c d e f h s (.slice A l.length cap)).below).more (Bx.new w a b c d e f h s (.slice A l.length cap)).below.size)
  generalize nbad a b c d e f h s l = n at hc ⊢
  by_cases hn : n = 0
  · have d1 : (n == 0) = true := by simp [hn]
    by_cases hl : l.length = 0
    · have d2 : ((l.length : Int) == 0) = true := by simp [hl]
      have hr : rb n l = 50 := by unfold rb; rw [if_pos ⟨hn, hl⟩]
      rw [hr]
      clear hr hn hl
      go_enter Try.func211, Try.ntmps211
      go_wp2_with fail
      refine hc.mono ?_
      rintro x w1 ⟨rfl, hb1⟩
      have I1 := (Bx.new w a b c d e f h s (.slice A l.length cap)).next hb1
      clear hb1
      obtain ⟨⟨⟨c0, c1, c2, c3, c4, c5, c6⟩, l1, l2, b1⟩, ⟨e0, e1⟩, l3⟩ := id I1
      go_wp2_with fail
      go_ret
      exact ⟨rfl, b1⟩
    · have d2 : ((l.length : Int) == 0) = false := beq_eq_false_iff_ne.2 (by omega)
      have hr : rb n l = n := by unfold rb; rw [if_neg (fun h => hl h.2)]
      rw [hr]
      have HN := lay hn
      clear hr hn
      go_enter Try.func211, Try.ntmps211
      go_wp2_with fail
      refine hc.mono ?_
      rintro x w1 ⟨rfl, hb1⟩
      have I1 := (Bx.new w a b c d e f h s (.slice A l.length cap)).next hb1
      clear hb1
      obtain ⟨⟨⟨c0, c1, c2, c3, c4, c5, c6⟩, l1, l2, b1⟩, ⟨e0, e1⟩, l3⟩ := id I1
      go_wp2_with fail
      go_ret
      exact ⟨ret_int HN.out.symm, b1⟩
  · have d1 : (n == 0) = false := by simp [hn]
    have hr : rb n l = n := by unfold rb; rw [if_neg (fun h => hn h.1)]
    rw [hr]
    clear hr hn
    go_enter Try.func211, Try.ntmps211
    go_wp2_with fail
    refine hc.mono ?_
    rintro x w1 ⟨rfl, hb1⟩
    have I1 := (Bx.new w a b c d e f h s (.slice A l.length cap)).next hb1
    clear hb1
    obtain ⟨⟨⟨c0, c1, c2, c3, c4, c5, c6⟩, l1, l2, b1⟩, ⟨e0, e1⟩, l3⟩ := id I1
    go_wp2_with fail
    go_ret
    exact ⟨rfl, b1⟩

theorem rightIs : RightIs := fun a b c d e f h s l A cap w hv => right_any a b c d e f h s l A cap w hv
end Go.Proofs.Ytoenkkbcpafanaa.vers
