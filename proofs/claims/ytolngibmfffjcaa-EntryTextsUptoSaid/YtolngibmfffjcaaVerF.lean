/- add of the document: pure words; what is refused. -/
import Derived.Test.YtolngibmfffjcaaVerE


namespace Go.Proofs.Ytolngibmfffjcaa.vers
set_option linter.unusedVariables false
set_option linter.unusedSimpArgs false
open Go.RowKit Go.Proofs.Ytolngibmfffjcaa.base Go.Proofs.Ytolngibmfffjcaa.quotas

/-- the slice u holds the versions l, in blocks lo .. -/
def HV (lo : Nat) (w : World) (l : List V) (u : Value) : Prop := ∃ A c, u = .slice A l.length c ∧ Vs w w.heap.size l A c ∧ ∀ b off, A = some ⟨b, off, none⟩ → lo ≤ b
theorem HV.nil (lo : Nat) (w : World) : HV lo w [] (.slice none 0 0) :=
  ⟨none, 0, rfl, ⟨Nat.le_refl _, by simp, fun _ => rfl, Rd.nil _ _ _, fun x h => by cases h⟩, fun b off e => by cases e⟩
theorem OwnV.hv {lo : Nat} {w : World} {l : List V} {v : Value} (h : OwnV lo w l v) : HV lo w l v := h.vs
theorem HV.move {lo : Nat} {w w2 : World} {l : List V} {u : Value} (h : HV lo w l u) (hs : w.heap.size ≤ w2.heap.size) (hk : ∀ p : Addr, lo ≤ p.block → p.block < w.heap.size → w2.cell? p = w.cell? p) : HV lo w2 l u := by
  obtain ⟨A, c, e, ⟨h1, h2, h3, h4, h5⟩, hl⟩ := h
  refine ⟨A, c, e, ⟨h1, h2, h3, fun j v hj => ?_, h5⟩, hl⟩
  obtain ⟨b, off, e2, hb, hc⟩ := h4 j v hj
  exact ⟨b, off, e2, by omega, (hk ⟨b, off + j, none⟩ (hl b off e2) hb).trans hc⟩
theorem HV.more {lo lo' : Nat} {w : World} {l : List V} {u : Value} (h : HV lo w l u) (hl : lo' ≤ lo) : HV lo' w l u := by
  obtain ⟨A, c, e, h1, h2⟩ := h
  exact ⟨A, c, e, h1, fun b off e2 => Nat.le_trans hl (h2 b off e2)⟩
theorem HV.setCell {lo : Nat} {w : World} {l : List V} {u : Value} (h : HV lo w l u) {p : Addr} (hp : p.block < lo) (v : Value) : HV lo (w.setCell p v) l u :=
  h.move (by simp) fun q q1 _ => World.cell?_setCell_far w p q v (by intro e; omega)

/-- what add answers: what there is, what dropped, or why not -/
structure Ad where
  bad : Int
  s : ByteArray
  k : List V
  d : List V
def badA (n : Int) : Ad := ⟨n, ⟨#[]⟩, [], []⟩
def noOf (l : List V) : Int := match l.getLast? with | some x => x.n + 1 | none => 1
def addP (a b c d e f h : Int) (s : ByteArray) (l : List V) (v t : ByteArray) (kp : Int) : Ad :=
  if nbad a b c d e f h s l ≠ 0 then badA (nbad a b c d e f h s l)
  else if c < v.size ∨ d < t.size then badA 5
  else if 1073741824 < noOf l then badA 2
  else ⟨0, s, l.drop ((l.length : Int) + 1 - kp).toNat ++ [⟨noOf l, v, t⟩], l.take ((l.length : Int) + 1 - kp).toNat⟩
/-- how it lies in memory -/
def AddAns (w : World) (r : Ad) (x : Ending) (w' : World) : Prop :=
  ∃ u u', x = .returned (.agg #[.string r.s, u, u', .int .i64 r.bad]) ∧ Below w.heap.size w w' ∧ HV w.heap.size w' r.k u ∧ HV w.heap.size w' r.d u'

theorem nbad_zero {a b c d e f h : Int} {s : ByteArray} {l : List V} (hz : nbad a b c d e f h s l = 0) : ok a b c d e f h ∧ (l.length : Int) ≤ 4 ∧ (l.length : Int) ≤ e := by
  by_cases hk : ok a b c d e f h
  · refine ⟨hk, ?_⟩
    have h5 := hk.2.2.2.2.1
    rw [nbad_yes hk] at hz
    by_cases h3 : e < (l.length : Int)
    · rw [if_pos h3] at hz
      split at hz
      · omega
      · split at hz <;> omega
    · omega
  · rw [nbad_no hk] at hz; omega

abbrev zAdd : Array Value := #[.string ⟨#[]⟩, .slice none 0 0, .slice none 0 0, .int .i64 0]
/-- behind the call's beginning: its own boxes -/
def Cx (w : World) (a b c d e f h : Int) (s : ByteArray) (u : Value) (wr : World) : Prop :=
  Bx w a b c d e f h s u wr ∧ Blk wr (w.heap.size + 2) 33 #[.string ⟨#[]⟩, .slice none 0 0, .slice none 0 0, .int .i64 0]
theorem Cx.new (w : World) (a b c d e f h : Int) (s : ByteArray) (u : Value) : Cx w a b c d e f h s u (((w.alloc (.cells #[.int .i64 a, .int .i64 b, .int .i64 c, .int .i64 d, .int .i64 e, .int .i64 f, .int .i64 h] 23)).alloc (.cells #[.string s, u] 26)).alloc (.cells #[.string ⟨#[]⟩, .slice none 0 0, .slice none 0 0, .int .i64 0] 33)) := by
  have k := Blk.new ((w.alloc (.cells #[.int .i64 a, .int .i64 b, .int .i64 c, .int .i64 d, .int .i64 e, .int .i64 f, .int .i64 h] 23)).alloc (.cells #[.string s, u] 26)) 33 #[.string ⟨#[]⟩, .slice none 0 0, .slice none 0 0, .int .i64 0]
  simp only [World.size_alloc] at k
  exact ⟨(Bx.new w a b c d e f h s u).alloc _, k⟩
theorem Cx.next {w wr w' : World} {a b c d e f h : Int} {s : ByteArray} {u : Value} (h1 : Cx w a b c d e f h s u wr) (hb : Below wr.heap.size wr w') : Cx w a b c d e f h s u w' :=
  ⟨h1.1.next hb, h1.2.below hb h1.2.lt⟩
theorem Cx.size {w wr : World} {a b c d e f h : Int} {s : ByteArray} {u : Value} (h1 : Cx w a b c d e f h s u wr) : w.heap.size + 2 < wr.heap.size := h1.2.lt
theorem four_below {B g : Nat} {a w : World} (h : Below B a w) (hg : B ≤ g) (u v x y : Value) : Below B a ((((w.setCell ⟨g, 0, none⟩ u).setCell ⟨g, 1, none⟩ v).setCell ⟨g, 2, none⟩ x).setCell ⟨g, 3, none⟩ y) :=
  (((h.setCell hg u).setCell hg v).setCell hg x).setCell hg y

set_option maxRecDepth 100000 in
set_option maxHeartbeats 400000 in
theorem add_bad (a b c d e f h : Int) (s : ByteArray) (l : List V) (A : Option Addr) (cap : Nat) (v t : ByteArray) (kp : Int) (w : World) (hv : Vs w w.heap.size l A cap) (hz : nbad a b c d e f h s l ≠ 0) :
    Calls Try.prog 31 #[.agg #[.int .i64 a, .int .i64 b, .int .i64 c, .int .i64 d, .int .i64 e, .int .i64 f, .int .i64 h], .agg #[.string s, .slice A l.length cap], .string v, .string t, .int .i64 kp] w (AddAns w (badA (nbad a b c d e f h s l))) := by
  have hC := Cx.new w a b c d e f h s (.slice A l.length cap)
  have hc := named_any a b c d e f h s l A cap _ ((hv.below hC.1.below).more hC.1.below.size)
  generalize nbad a b c d e f h s l = n at hc hz
  have d1 : (n != 0) = true := by simpa using hz
  clear hz
  go_enter Try.func31, Try.ntmps31
  go_wp2_with fail
  refine hc.mono ?_
  rintro x w1 ⟨rfl, hb1⟩
  have I1 := hC.next hb1
  clear hb1 hC
  obtain ⟨⟨⟨⟨c0, c1, c2, c3, c4, c5, c6⟩, l1, l2, b1⟩, ⟨e0, e1⟩, l3⟩, hR⟩ := id I1
  have z0 := hR.cell 0
  have z1 := hR.cell 1
  have z2 := hR.cell 2
  have z3 := hR.cell 3
  simp at z0 z1 z2 z3
  have f0 := hR.frozen 0
  have f1 := hR.frozen 1
  have f2 := hR.frozen 2
  have f3 := hR.frozen 3
  go_wp2_with fail
  refine bodyPost_ret (v := .agg #[.string ⟨#[]⟩, .slice none 0 0, .slice none 0 0, .int .i64 n]) (by simp [results, Try.results31, go_sem, z0, z1, z2, z3]) rfl ⟨_, _, rfl, four_below b1 (by omega) _ _ _ _, HV.nil _ _, HV.nil _ _⟩
end Go.Proofs.Ytolngibmfffjcaa.vers
