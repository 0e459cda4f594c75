/- add of the document: pure words; what is refused. -/
import Derived.Test.YtjlglfjikfpboaaVerAE
import Derived.Test.YtjlglfjikfpboaaQuN


namespace Go.Proofs.Ytjlglfjikfpboaa.vers
set_option linter.unusedVariables false
set_option linter.unusedSimpArgs false
open Go.RowKit Go.Proofs.Ytjlglfjikfpboaa.base Go.Proofs.Ytjlglfjikfpboaa.quotas

/-- the slice u holds the versions l, in blocks lo .. -/
def HV (lo : Nat) (w : World) (l : List V) (u : Value) : Prop := ∃ A c, u = .slice A l.length c ∧ Vs w w.heap.size l A c ∧ ∀ b off, A = some ⟨b, off, none⟩ → lo ≤ b
theorem HV.nil (lo : Nat) (w : World) : HV lo w [] (.slice none 0 0) :=
  ⟨none, 0, rfl, ⟨Nat.le_refl _, by simp, fun _ => rfl, Rd.nil _ _ _, fun x h => by cases h⟩, fun b off e => by cases e⟩
theorem OwnV.hv {lo : Nat} {w : World} {l : List V} {v : Value} (h : OwnV lo w l v) : HV lo w l v := h.vs
theorem HV.move {lo : Nat} {w w2 : World} {l : List V} {u : Value} (h : HV lo w l u) (hs : w.heap.size ≤ w2.heap.size) (hk : ∀ p : Addr, lo ≤ p.block → p.block < w.heap.size → w2.cell? p = w.cell? p) : HV lo w2 l u := by
  obtain ⟨A, c, e, ⟨h1, h2, h3, h4, h5⟩, hl⟩ := h
  refine ⟨A, c, e, ⟨h1, h2, h3, fun j v hj => ?_, h5⟩, hl⟩
  obtain ⟨b, off, e2, hb, hc⟩ := h4 j v hj
  exact ⟨b, off, e2, by omega, (hk ⟨b, off + j, none⟩ (hl b off e2) hb).trans hc⟩
theorem HV.more {lo lo' : Nat} {w : World} {l : List V} {u : Value} (h : HV lo w l u) (hl : lo' ≤ lo) : HV lo' w l u := by
  obtain ⟨A, c, e, h1, h2⟩ := h
  exact ⟨A, c, e, h1, fun b off e2 => Nat.le_trans hl (h2 b off e2)⟩
theorem HV.setCell {lo : Nat} {w : World} {l : List V} {u : Value} (h : HV lo w l u) {p : Addr} (hp : p.block < lo) (v : Value) : HV lo (w.setCell p v) l u :=
  h.move (by simp) fun q q1 _ => World.cell?_setCell_far w p q v (by intro e; omega)

/-- what add answers: what there is, what dropped, or why not -/
structure Ad where
  bad : Int
  s : ByteArray
  k : List V
  d : List V
def badA (n : Int) : Ad := ⟨n, ⟨#[]⟩, [], []⟩
def noOf (l : List V) : Int := match l.getLast? with | some x => x.n + 1 | none => 1
def addP (a b c d e f h : Int) (s : ByteArray) (l : List V) (v t : ByteArray) (kp : Int) : Ad :=
  if nbad a b c d e f h s l ≠ 0 then badA (nbad a b c d e f h s l)
  else if c < v.size ∨ d < t.size then badA 5
  else if 1073741824 < noOf l then badA 2
  else ⟨0, s, l.drop ((l.length : Int) + 1 - kp).toNat ++ [⟨noOf l, v, t⟩], l.take ((l.length : Int) + 1 - kp).toNat⟩
/-- how it lies in memory -/
def AddAns (w : World) (r : Ad) (x : Ending) (w' : World) : Prop :=
  ∃ u u', x = .returned (.agg #[.string r.s, u, u', .int .i64 r.bad]) ∧ Below w.heap.size w w' ∧ HV w.heap.size w' r.k u ∧ HV w.heap.size w' r.d u'

theorem nbad_zero {a b c d e f h : Int} {s : ByteArray} {l : List V} (hz : nbad a b c d e f h s l = 0) : ok a b c d e f h ∧ (l.length : Int) ≤ 4 ∧ (l.length : Int) ≤ e := by
  by_cases hk : ok a b c d e f h
  · refine ⟨hk, ?_⟩
    have h5 := hk.2.2.2.2.1
    rw [nbad_yes hk] at hz
    by_cases h3 : e < (l.length : Int)
    · rw [if_pos h3] at hz
      split at hz
      · omega
      · split at hz <;> omega
    · omega
  · rw [nbad_no hk] at hz; omega

abbrev zAdd : Array Value := #[.string ⟨#[]⟩, .slice none 0 0, .slice none 0 0, .int .i64 0]
/-- behind the call's beginning: its own boxes -/
def Cx (w : World) (a b c d e f h : Int) (s : ByteArray) (u : Value) (wr : World) : Prop :=
  Bx w a b c d e f h s u wr ∧ Blk wr (w.heap.size + 2) 173 #[.string ⟨#[]⟩, .slice none 0 0, .slice none 0 0, .int .i64 0]
theorem Cx.new (w : World) (a b c d e f h : Int) (s : ByteArray) (u : Value) : Cx w a b c d e f h s u (((w.alloc (.cells #[.int .i64 a, .int .i64 b, .int .i64 c, .int .i64 d, .int .i64 e, .int .i64 f, .int .i64 h] 59)).alloc (.cells #[.string s, u] 79)).alloc (.cells #[.string ⟨#[]⟩, .slice none 0 0, .slice none 0 0, .int .i64 0] 173)) := by
  have k := Blk.new ((w.alloc (.cells #[.int .i64 a, .int .i64 b, .int .i64 c, .int .i64 d, .int .i64 e, .int .i64 f, .int .i64 h] 59)).alloc (.cells #[.string s, u] 79)) 173 #[.string ⟨#[]⟩, .slice none 0 0, .slice none 0 0, .int .i64 0]
  simp only [World.size_alloc] at k
  exact ⟨(Bx.new w a b c d e f h s u).alloc _, k⟩
theorem Cx.next {w wr w' : World} {a b c d e f h : Int} {s : ByteArray} {u : Value} (h1 : Cx w a b c d e f h s u wr) (hb : Below wr.heap.size wr w') : Cx w a b c d e f h s u w' :=
  ⟨h1.1.next hb, h1.2.below hb h1.2.lt⟩
theorem Cx.size {w wr : World} {a b c d e f h : Int} {s : ByteArray} {u : Value} (h1 : Cx w a b c d e f h s u wr) : w.heap.size + 2 < wr.heap.size := h1.2.lt
theorem four_below {B g : Nat} {a w : World} (h : Below B a w) (hg : B ≤ g) (u v x y : Value) : Below B a ((((w.setCell ⟨g, 0, none⟩ u).setCell ⟨g, 1, none⟩ v).setCell ⟨g, 2, none⟩ x).setCell ⟨g, 3, none⟩ y) :=
  (((h.setCell hg u).setCell hg v).setCell hg x).setCell hg y

set_option maxRecDepth 100000 in
set_option maxHeartbeats 400000 in
theorem add_bad (a b c d e f h : Int) (s : ByteArray) (l : List V) (A : Option Addr) (cap : Nat) (v t : ByteArray) (kp : Int) (w : World) (hv : Vs w w.heap.size l A cap) (hz : nbad a b c d e f h s l ≠ 0) :
    Calls Try.prog 143 #[.agg #[.int .i64 a, .int .i64 b, .int .i64 c, .int .i64 d, .int .i64 e, .int .i64 f, .int .i64 h], .agg #[.string s, .slice A l.length cap], .string v, .string t, .int .i64 kp] w (AddAns w (badA (nbad a b c d e f h s l))) := by
  have hC := Cx.new w a b c d e f h s (.slice A l.length cap)
  have hc := named_any a b c d e f h s l A cap _ ((hv.below hC.1.below).more hC.1.below.size)
  generalize nbad a b c d e f h s l = n at hc hz
  have d1 : (n != 0) = true := by simpa using hz
  clear hz
  go_enter Try.func143, Try.ntmps143
  go_wp2_with fail
  refine hc.mono ?_
  rintro x w1 ⟨rfl, hb1⟩
  have I1 := hC.next hb1
  clear hb1 hC
  obtain ⟨⟨⟨⟨c0, c1, c2, c3, c4, c5, c6⟩, l1, l2, b1⟩, ⟨e0, e1⟩, l3⟩, hR⟩ := id I1
  have z0 := hR.cell 0
  have z1 := hR.cell 1
  have z2 := hR.cell 2
  have z3 := hR.cell 3
  simp at z0 z1 z2 z3
  have f0 := hR.frozen 0
  have f1 := hR.frozen 1
  have f2 := hR.frozen 2
  have f3 := hR.frozen 3
  go_wp2_with fail
  refine bodyPost_ret (v := .agg #[.string ⟨#[]⟩, .slice none 0 0, .slice none 0 0, .int .i64 n]) (by simp [results, Try.results143, go_sem, z0, z1, z2, z3]) rfl ⟨_, _, rfl, four_below b1 (by omega) _ _ _ _, HV.nil _ _, HV.nil _ _⟩
end Go.Proofs.Ytjlglfjikfpboaa.vers

/- add of the document: what is too long. -/

namespace Go.Proofs.Ytjlglfjikfpboaa.vers
set_option linter.unusedVariables false
set_option linter.unusedSimpArgs false
open Go.RowKit Go.Proofs.Ytjlglfjikfpboaa.base Go.Proofs.Ytjlglfjikfpboaa.quotas

set_option maxRecDepth 100000 in
set_option maxHeartbeats 400000 in
theorem add_big1 (a b c d e f h : Int) (s : ByteArray) (l : List V) (A : Option Addr) (cap : Nat) (v t : ByteArray) (kp : Int) (w : World) (hv : Vs w w.heap.size l A cap) (hz : nbad a b c d e f h s l = 0) (hx : c < (v.size : Int)) :
    Calls Try.prog 143 #[.agg #[.int .i64 a, .int .i64 b, .int .i64 c, .int .i64 d, .int .i64 e, .int .i64 f, .int .i64 h], .agg #[.string s, .slice A l.length cap], .string v, .string t, .int .i64 kp] w (AddAns w (badA 5)) := by
  have hC := Cx.new w a b c d e f h s (.slice A l.length cap)
  have hc := named_any a b c d e f h s l A cap _ ((hv.below hC.1.below).more hC.1.below.size)
  obtain ⟨_, hlen, _⟩ := nbad_zero hz
  rw [hz] at hc
  clear hz
  have d1 : decide (c < (v.size : Int)) = true := by simpa using hx
  clear hx
  go_enter Try.func143, Try.ntmps143
  go_wp2_with fail
  refine hc.mono ?_
  rintro x w1 ⟨rfl, hb1⟩
  have I1 := hC.next hb1
  clear hb1 hC
  obtain ⟨⟨⟨⟨c0, c1, c2, c3, c4, c5, c6⟩, l1, l2, b1⟩, ⟨e0, e1⟩, l3⟩, hR⟩ := id I1
  have z0 := hR.cell 0
  have z1 := hR.cell 1
  have z2 := hR.cell 2
  have z3 := hR.cell 3
  simp at z0 z1 z2 z3
  have f0 := hR.frozen 0
  have f1 := hR.frozen 1
  have f2 := hR.frozen 2
  have f3 := hR.frozen 3
  go_wp2_with fail
  refine bodyPost_ret (v := .agg #[.string ⟨#[]⟩, .slice none 0 0, .slice none 0 0, .int .i64 5]) (by simp [results, Try.results143, go_sem, z0, z1, z2, z3]) rfl ⟨_, _, rfl, four_below b1 (by omega) _ _ _ _, HV.nil _ _, HV.nil _ _⟩

set_option maxRecDepth 100000 in
set_option maxHeartbeats 400000 in
theorem add_big2 (a b c d e f h : Int) (s : ByteArray) (l : List V) (A : Option Addr) (cap : Nat) (v t : ByteArray) (kp : Int) (w : World) (hv : Vs w w.heap.size l A cap) (hz : nbad a b c d e f h s l = 0) (hx : ¬ c < (v.size : Int)) (hy : d < (t.size : Int)) :
    Calls Try.prog 143 #[.agg #[.int .i64 a, .int .i64 b, .int .i64 c, .int .i64 d, .int .i64 e, .int .i64 f, .int .i64 h], .agg #[.string s, .slice A l.length cap], .string v, .string t, .int .i64 kp] w (AddAns w (badA 5)) := by
  have hC := Cx.new w a b c d e f h s (.slice A l.length cap)
  have hc := named_any a b c d e f h s l A cap _ ((hv.below hC.1.below).more hC.1.below.size)
  obtain ⟨_, hlen, _⟩ := nbad_zero hz
  rw [hz] at hc
  clear hz
  have d1 : decide (c < (v.size : Int)) = false := by simpa using hx
  have d2 : decide (d < (t.size : Int)) = true := by simpa using hy
  clear hx hy
  go_enter Try.func143, Try.ntmps143
  go_wp2_with fail
  refine hc.mono ?_
  rintro x w1 ⟨rfl, hb1⟩
  have I1 := hC.next hb1
  clear hb1 hC
  obtain ⟨⟨⟨⟨c0, c1, c2, c3, c4, c5, c6⟩, l1, l2, b1⟩, ⟨e0, e1⟩, l3⟩, hR⟩ := id I1
  have z0 := hR.cell 0
  have z1 := hR.cell 1
  have z2 := hR.cell 2
  have z3 := hR.cell 3
  simp at z0 z1 z2 z3
  have f0 := hR.frozen 0
  have f1 := hR.frozen 1
  have f2 := hR.frozen 2
  have f3 := hR.frozen 3
  go_wp2_with fail
  refine bodyPost_ret (v := .agg #[.string ⟨#[]⟩, .slice none 0 0, .slice none 0 0, .int .i64 5]) (by simp [results, Try.results143, go_sem, z0, z1, z2, z3]) rfl ⟨_, _, rfl, four_below b1 (by omega) _ _ _ _, HV.nil _ _, HV.nil _ _⟩

set_option maxRecDepth 100000 in
set_option maxHeartbeats 1000000 in
theorem add_long (a b c d e f h : Int) (s : ByteArray) (l : List V) (A : Option Addr) (cap : Nat) (v t : ByteArray) (kp : Int) (w : World) (hv : Vs w w.heap.size l A cap) (hz : nbad a b c d e f h s l = 0) (hx : ¬ c < (v.size : Int)) (hy : ¬ d < (t.size : Int)) (k : Nat) (hk : l.length = k + 1) (hk' : k < l.length) (hn : (1073741824 : Int) < l[k].n + 1) (hn' : l[k].n ≤ (1073741824 : Int)) :
    Calls Try.prog 143 #[.agg #[.int .i64 a, .int .i64 b, .int .i64 c, .int .i64 d, .int .i64 e, .int .i64 f, .int .i64 h], .agg #[.string s, .slice A l.length cap], .string v, .string t, .int .i64 kp] w (AddAns w (badA 2)) := by
  have hC := Cx.new w a b c d e f h s (.slice A l.length cap)
  have hc := named_any a b c d e f h s l A cap _ ((hv.below hC.1.below).more hC.1.below.size)
  obtain ⟨_, hlen, _⟩ := nbad_zero hz
  rw [hz] at hc
  clear hz
  have d1 : decide (c < (v.size : Int)) = false := by simpa using hx
  have d2 : decide (d < (t.size : Int)) = false := by simpa using hy
  clear hx hy
  have HK := lay hk
  clear hk
  obtain ⟨bk, off, rfl, hbk, v0, v1, v2⟩ := (hv.below hC.1.below).at_ hk'
  go_enter Try.func143, Try.ntmps143
  go_wp2_with fail
  refine hc.mono ?_
  rintro x w1 ⟨rfl, hb1⟩
  have I1 := hC.next hb1
  clear hb1 hC
  obtain ⟨⟨⟨⟨c0, c1, c2, c3, c4, c5, c6⟩, l1, l2, b1⟩, ⟨e0, e1⟩, l3⟩, hR⟩ := id I1
  have z0 := hR.cell 0
  have z1 := hR.cell 1
  have z2 := hR.cell 2
  have z3 := hR.cell 3
  simp at z0 z1 z2 z3
  have f0 := hR.frozen 0
  have f1 := hR.frozen 1
  have f2 := hR.frozen 2
  have f3 := hR.frozen 3
  obtain ⟨bk', off', e', _, y0, y1, y2⟩ := (hv.below b1).at_ hk'
  cases e'
  clear v0 v1 v2 hv hbk
  have hk := HK.out
  have dl : decide ((0 : Int) < (l.length : Int)) = true := by simp; omega
  have dm : decide ((1073741824 : Int) < l[k].n + 1) = true := by simpa using hn
  go_wp2_with fail
  refine bodyPost_ret (v := .agg #[.string ⟨#[]⟩, .slice none 0 0, .slice none 0 0, .int .i64 2]) (by simp [results, Try.results143, go_sem, z0, z1, z2, z3]) rfl ⟨_, _, rfl, four_below b1 (by omega) _ _ _ _, HV.nil _ _, HV.nil _ _⟩

end Go.Proofs.Ytjlglfjikfpboaa.vers

/- add of the document: a version more. -/

namespace Go.Proofs.Ytjlglfjikfpboaa.vers
set_option linter.unusedVariables false
set_option linter.unusedSimpArgs false
open Go.RowKit Go.Proofs.Ytjlglfjikfpboaa.base Go.Proofs.Ytjlglfjikfpboaa.quotas

/-- a new block that holds one version, as a slice of one -/
theorem Vs.one (w : World) (x : V) (hx : x.fits) : Vs (w.alloc (.cells #[.int .i64 x.n, .string x.v, .string x.t] 147)) (w.heap.size + 1) [x] (some ⟨w.heap.size, 0, none⟩) 1 := by
  refine ⟨Nat.le_refl _, by simp, (fun e => by cases e), ?_, fun y hy => by rw [List.mem_singleton.1 hy]; exact hx⟩
  exact (Blk.new w 147 #[.int .i64 x.n, .string x.v, .string x.t]).rd (xs := [.int .i64 x.n, .string x.v, .string x.t]) (by omega)

theorem Cx.far {w wr w' : World} {a b c d e f h : Int} {s : ByteArray} {u : Value} {B : Nat} (h1 : Cx w a b c d e f h s u wr) (hb : Below B wr w') (hB : w.heap.size + 2 < B) : Cx w a b c d e f h s u w' := by
  obtain ⟨⟨⟨⟨c0, c1, c2, c3, c4, c5, c6⟩, l1, l2, b1⟩, ⟨e0, e1⟩, l3⟩, hR⟩ := h1
  have hs := hb.size
  have hc : ∀ q : Addr, q.block < B → w'.cell? q = wr.cell? q := fun q hq => hb.cell hq
  refine ⟨⟨⟨⟨?_, ?_, ?_, ?_, ?_, ?_, ?_⟩, l1, by omega, b1.trans (hb.mono (by omega))⟩, ⟨?_, ?_⟩, by omega⟩, hR.below hb (by omega)⟩ <;> (rw [hc _ (by simp; omega)]; assumption)
theorem OwnV.shape {lo : Nat} {w : World} {l : List V} {v : Value} (h : OwnV lo w l v) : ∃ A n c, v = .slice A n c ∧ Hid (n = l.length) := by
  obtain ⟨A, c, e, _⟩ := h.form
  exact ⟨A, _, c, e, lay rfl⟩
theorem take_snoc (l : List V) {j : Nat} (hj : j < l.length) : l.take (j + 1) = l.take j ++ [l[j]] := List.take_succ_eq_append_getElem hj
theorem drop_snoc (l : List V) {j dr : Nat} (hj : j < l.length) (hd : dr ≤ j) : (l.take (j + 1)).drop dr = (l.take j).drop dr ++ [l[j]] := by
  rw [take_snoc l hj, List.drop_append_of_le_length (by simp; omega)]
theorem drop_none (l : List V) {j dr : Nat} (hd : j ≤ dr) : (l.take j).drop dr = [] := List.drop_eq_nil_of_le (by simp; omega)

/-- a round's head: what was kept so far, what dropped so far -/
def GHead (w : World) (a b c d e f h : Int) (s : ByteArray) (l : List V) (A : Option Addr) (cap : Nat) (g dr : Nat) (x : Value) (wr : World) : Prop :=
  ∃ (j : Nat) (uE uD : Value), j ≤ l.length ∧ x = .int .i64 j ∧ Cx w a b c d e f h s (.slice A l.length cap) wr ∧ w.heap.size + 2 < g ∧ Blk wr g 173 #[.string s, uE, uD, .int .i64 0] ∧
    OwnV (g + 1) wr ((l.take j).drop dr) uE ∧ OwnV (g + 1) wr (l.take (min j dr)) uD ∧ (∀ k, uE.ownBlock = some k → uD.ownBlock ≠ some k) ∧ (j ≤ dr → uE = .slice none 0 0)

set_option maxRecDepth 100000 in
set_option maxHeartbeats 1000000 in
theorem add_first (a b c d e f h : Int) (s : ByteArray) (l : List V) (A : Option Addr) (cap : Nat) (v t : ByteArray) (kp : Int) (w : World) (hv : Vs w w.heap.size l A cap) (hz : nbad a b c d e f h s l = 0) (hx : ¬ c < (v.size : Int)) (hy : ¬ d < (t.size : Int)) (hfit : v.size ≤ maxLen ∧ t.size ≤ maxLen) (hl0 : l.length = 0) :
    Calls Try.prog 143 #[.agg #[.int .i64 a, .int .i64 b, .int .i64 c, .int .i64 d, .int .i64 e, .int .i64 f, .int .i64 h], .agg #[.string s, .slice A l.length cap], .string v, .string t, .int .i64 kp] w (AddAns w ⟨0, s, l.drop ((l.length : Int) + 1 - kp).toNat ++ [⟨noOf l, v, t⟩], l.take ((l.length : Int) + 1 - kp).toNat⟩) := by
  have hC := Cx.new w a b c d e f h s (.slice A l.length cap)
  have hc := named_any a b c d e f h s l A cap _ ((hv.below hC.1.below).more hC.1.below.size)
  obtain ⟨_, hlen, _⟩ := nbad_zero hz
  rw [hz] at hc
  clear hz
  have d1 : decide (c < (v.size : Int)) = false := by simpa using hx
  have d2 : decide (d < (t.size : Int)) = false := by simpa using hy
  clear hx hy
  have HK := lay hl0
  clear hl0
  go_enter Try.func143, Try.ntmps143
  go_wp2_with fail
  refine hc.mono ?_
  rintro x w1 ⟨rfl, hb1⟩
  have I1 := hC.next hb1
  clear hb1 hC
  obtain ⟨⟨⟨⟨c0, c1, c2, c3, c4, c5, c6⟩, l1, l2, b1⟩, ⟨e0, e1⟩, l3⟩, hR⟩ := id I1
  have z0 := hR.cell 0
  have z1 := hR.cell 1
  have z2 := hR.cell 2
  have z3 := hR.cell 3
  simp at z0 z1 z2 z3
  have f0 := hR.frozen 0
  have f1 := hR.frozen 1
  have f2 := hR.frozen 2
  have f3 := hR.frozen 3
  have dN : decide (0 < l.length) = false := decide_eq_false (by have := HK.out; omega)
  have hfx : (⟨1, v, t⟩ : V).fits := ⟨⟨by show (-9223372036854775808 : Int) ≤ 1; omega, by show (1 : Int) ≤ 9223372036854775807; omega⟩, hfit⟩
  have hNO : Hid (noOf l = 1) := lay (by rw [List.eq_nil_of_length_eq_zero HK.out]; rfl)
  go_wp2_with fail
  have hG : GHead w a b c d e f h s l A cap w1.heap.size ((l.length : Int) + 1 - kp).toNat (.int .i64 0) (w1.alloc (.cells #[.string s, .slice none 0 0, .slice none 0 0, .int .i64 0] 173)) :=
    ⟨0, .slice none 0 0, .slice none 0 0, Nat.zero_le _, rfl, I1.next ((Below.refl _ _).alloc (Nat.le_refl _) _), I1.size, Blk.new w1 _ _, by rw [drop_none l (Nat.zero_le _)]; exact OwnV.nil _ _, by rw [Nat.zero_min]; exact OwnV.nil _ _, (fun k hk => by cases hk), fun _ => rfl⟩
  clear z0 z1 z2 z3 f0 f1 f2 f3 hR c0 c1 c2 c3 c4 c5 c6 l1 l2 b1 e0 e1 l3
  go_loopw [60] (fun x wr => GHead w a b c d e f h s l A cap w1.heap.size ((l.length : Int) + 1 - kp).toNat x wr) (fun x _ => l.length - (intOf x).toNat)
  case atStart => exact hG
  case round =>
    clear hG
    generalize hg1 : w1.heap.size = g at *
    generalize hdr : ((l.length : Int) + 1 - kp).toNat = dr at *
    obtain ⟨j, uE, uD, hj, rfl, J1, hgl, hG, hE, hD, hdis, hnil⟩ := hrel
    have hB := J1.1.below
    have hgw := hG.lt
    obtain ⟨⟨⟨⟨c0, c1, c2, c3, c4, c5, c6⟩, l1, l2, b1⟩, ⟨e0, e1⟩, l3⟩, hR⟩ := id J1
    have g0 := hG.cell 0
    have g1 := hG.cell 1
    have g2 := hG.cell 2
    have g3 := hG.cell 3
    simp at g0 g1 g2 g3
    by_cases hlt : j < l.length
    · obtain ⟨bk, off, hA1, hbk, y0, y1, y2⟩ := (hv.below hB).at_ hlt
      first | subst hA1 | cases hA1
      have hfj := hv.2.2.2.2 _ (List.getElem_mem hlt)
      have hBW : Below wr.heap.size wr ((wr.alloc (.cells #[.int .i64 l[j].n, .string l[j].v, .string l[j].t] 147)).alloc (.cells #[.int .i64 l[j].n, .string l[j].v, .string l[j].t] 147)) := ((Below.refl _ _).alloc (Nat.le_refl _) _).alloc (by simp) _
      have hone := Vs.one (wr.alloc (.cells #[.int .i64 l[j].n, .string l[j].v, .string l[j].t] 147)) l[j] hfj
      simp only [World.size_alloc] at hone
      have hG2 := (hG.alloc (.cells #[.int .i64 l[j].n, .string l[j].v, .string l[j].t] 147)).alloc (.cells #[.int .i64 l[j].n, .string l[j].v, .string l[j].t] 147)
      by_cases hjd : j < dr
      · have dt : decide (kp < (l.length : Int) + 1 - (j : Int)) = true := decide_eq_true (by omega)
        have hlen40 : ((l.take (min j dr)).length + [l[j]].length) * 40 ≤ 140737488355328 := by simp; omega
        obtain ⟨AX, nX, cX, rfl, hnX⟩ := hD.shape
        obtain rfl := hnil (by omega)
        have hX2 := hD.below hBW
        have hrow : ∀ k, (Value.slice AX nX cX).ownBlock = some k → g + 1 ≤ k := fun k hk => (hX2.own k hk).1
        go_wp2_with (at_builtin; apply wpList_append_vs (s := .tmp 72) (x := .tmp 74) (lo := g + 1) (B := wr.heap.size + 1 + 1) (l := l.take (min j dr)) (m := [l[j]]) (A := some ⟨wr.heap.size + 1, 0, none⟩) (n := 1) (c := 1) (v := .slice AX nX cX); (case hgd => rfl); (case ho => rfl); (case hB => exact hX2); (case hs => rfl); (case hlo => (simp; omega)); (case hx => rfl); (case hn => rfl); (case hv => exact hone); (case hlen => exact hlen40); intro v' w2 hown hg2 hat; have hG3 := Blk.grown hG2 hg2 (fun e => by have := hrow g e; omega); have q0 := hG3.cell 0; have q1 := hG3.cell 1; have q2 := hG3.cell 2; have q3 := hG3.cell 3; simp at q0 q1 q2 q3; have k1 := hG3.frozen 1; have k2 := hG3.frozen 2; obtain ⟨A2, n2, cap2, rfl, hn2⟩ := hown.shape)
        have hBg : Below g wr w2 := (hBW.mono (by omega)).grown hg2 (by simp; omega) (fun k hk => by have := hrow k hk; omega)
        have hs2 := hg2.size
        simp at hs2
        refine ⟨⟨j + 1, .slice none 0 0, .slice A2 n2 cap2, hlt, by go_num, J1.far (hBg.setCell (Nat.le_refl _) _) hgl, hgl, (hG3.put 2 _), by rw [drop_none l (by omega)]; exact OwnV.nil _ _, ?_, (fun k hk => by cases hk), fun _ => rfl⟩, by simp [intOf]; omega⟩
        rw [show min (j + 1) dr = min j dr + 1 by omega, show l.take (min j dr + 1) = l.take (min j dr) ++ [l[j]] by rw [show min j dr = j by omega]; exact take_snoc l hlt]
        exact hown.setCell (by simp) _
      · have dt : decide (kp < (l.length : Int) + 1 - (j : Int)) = false := decide_eq_false (by omega)
        have hlen40 : (((l.take j).drop dr).length + [l[j]].length) * 40 ≤ 140737488355328 := by simp; omega
        obtain ⟨AX, nX, cX, rfl, hnX⟩ := hE.shape
        obtain ⟨AY, nY, cY, rfl, hnY⟩ := hD.shape
        have hX2 := hE.below hBW
        have hY2 := hD.below hBW
        have hrow : ∀ k, (Value.slice AX nX cX).ownBlock = some k → g + 1 ≤ k := fun k hk => (hX2.own k hk).1
        go_wp2_with (at_builtin; apply wpList_append_vs (s := .tmp 79) (x := .tmp 81) (lo := g + 1) (B := wr.heap.size + 1 + 1) (l := (l.take j).drop dr) (m := [l[j]]) (A := some ⟨wr.heap.size + 1, 0, none⟩) (n := 1) (c := 1) (v := .slice AX nX cX); (case hgd => rfl); (case ho => rfl); (case hB => exact hX2); (case hs => rfl); (case hlo => (simp; omega)); (case hx => rfl); (case hn => rfl); (case hv => exact hone); (case hlen => exact hlen40); intro v' w2 hown hg2 hat; have hG3 := Blk.grown hG2 hg2 (fun e => by have := hrow g e; omega); have q0 := hG3.cell 0; have q1 := hG3.cell 1; have q2 := hG3.cell 2; have q3 := hG3.cell 3; simp at q0 q1 q2 q3; have k1 := hG3.frozen 1; have k2 := hG3.frozen 2; obtain ⟨A2, n2, cap2, rfl, hn2⟩ := hown.shape)
        have hBg : Below g wr w2 := (hBW.mono (by omega)).grown hg2 (by simp; omega) (fun k hk => by have := hrow k hk; omega)
        have hs2 := hg2.size
        simp at hs2
        refine ⟨⟨j + 1, .slice A2 n2 cap2, .slice AY nY cY, hlt, by go_num, J1.far (hBg.setCell (Nat.le_refl _) _) hgl, hgl, (hG3.put 1 _), ?_, ?_, ?_, fun hh => by omega⟩, by simp [intOf]; omega⟩
        · rw [drop_snoc l hlt (by omega)]; exact hown.setCell (by simp) _
        · rw [show min (j + 1) dr = min j dr by omega]; exact (hY2.kept hg2 (fun k hk e => hdis k hk e)).setCell (by simp) _
        · intro k hk e
          have hy := hY2.own k e
          rcases hat with e2 | e2
          · exact hdis k (by rw [← e2]; exact hk) e
          · rw [hk] at e2
            have hlt2 := (hD.own k e).2
            simp at e2
            omega
    · have hlen40 : ((l.drop dr).length + [(⟨1, v, t⟩ : V)].length) * 40 ≤ 140737488355328 := by simp; omega
      rw [List.take_of_length_le (show l.length ≤ j by omega)] at hE
      rw [show l.take (min j dr) = l.take dr by
        rw [show min j dr = min l.length dr by omega]
        rcases Nat.le_total l.length dr with hh | hh
        · rw [Nat.min_eq_left hh, List.take_of_length_le (Nat.le_refl _), List.take_of_length_le hh]
        · rw [Nat.min_eq_right hh]] at hD
      obtain ⟨AX, nX, cX, rfl, hnX⟩ := hE.shape
      obtain ⟨AY, nY, cY, rfl, hnY⟩ := hD.shape
      have hBW : Below wr.heap.size wr (wr.alloc (.cells #[.int .i64 (1), .string v, .string t] 147)) := (Below.refl _ _).alloc (Nat.le_refl _) _
      have hone := Vs.one wr ⟨1, v, t⟩ hfx
      have hX2 := hE.below hBW
      have hY2 := hD.below hBW
      have hG2 := hG.alloc (.cells #[.int .i64 (1), .string v, .string t] 147)
      have hR2 := hR.alloc (.cells #[.int .i64 (1), .string v, .string t] 147)
      have hrow : ∀ k, (Value.slice AX nX cX).ownBlock = some k → g + 1 ≤ k := fun k hk => (hX2.own k hk).1
      go_wp2_with (at_builtin; apply wpList_append_vs (s := .tmp 88) (x := .tmp 93) (lo := g + 1) (B := wr.heap.size + 1) (l := l.drop dr) (m := [⟨1, v, t⟩]) (A := some ⟨wr.heap.size, 0, none⟩) (n := 1) (c := 1) (v := .slice AX nX cX); (case hgd => rfl); (case ho => rfl); (case hB => exact hX2); (case hs => rfl); (case hlo => (simp; omega)); (case hx => rfl); (case hn => rfl); (case hv => exact hone); (case hlen => exact hlen40); intro v' w2 hown hg2 hat; have hG3 := Blk.grown hG2 hg2 (fun e => by have := hrow g e; omega); have hR3 := Blk.grown hR2 hg2 (fun e => by have := hrow _ e; omega); have q0 := hG3.cell 0; have q1 := hG3.cell 1; have q2 := hG3.cell 2; have q3 := hG3.cell 3; have z0 := hR3.cell 0; have z1 := hR3.cell 1; have z2 := hR3.cell 2; have z3 := hR3.cell 3; simp at q0 q1 q2 q3 z0 z1 z2 z3; have k1 := hG3.frozen 1; have f0 := hR3.frozen 0; have f1 := hR3.frozen 1; have f2 := hR3.frozen 2; have f3 := hR3.frozen 3; obtain ⟨A2, n2, cap2, rfl, hn2⟩ := hown.shape)
      have hBg : Below w.heap.size wr w2 := (hBW.mono (by omega)).grown hg2 (by simp; omega) (fun k hk => by have := hrow k hk; omega)
      refine bodyPost_ret (v := .agg #[.string s, .slice A2 n2 cap2, .slice AY nY cY, .int .i64 0]) (by simp [results, Try.results143, go_sem, z0, z1, z2, z3]) rfl ⟨_, _, rfl, ?_, ?_, ?_⟩
      · exact four_below ((b1.trans hBg).setCell (by simp; omega) _) (by omega) _ _ _ _
      · rw [hNO.out]
        exact (((((hown.setCell (by simp) _).hv.setCell (by simp; omega) _).setCell (by simp; omega) _).setCell (by simp; omega) _).setCell (by simp; omega) _).more (by omega)
      · exact ((((((hY2.kept hg2 (fun k hk e => hdis k hk e)).setCell (by simp) _).hv.setCell (by simp; omega) _).setCell (by simp; omega) _).setCell (by simp; omega) _).setCell (by simp; omega) _).more (by omega)

set_option maxRecDepth 100000 in
set_option maxHeartbeats 1000000 in
theorem add_more (a b c d e f h : Int) (s : ByteArray) (l : List V) (A : Option Addr) (cap : Nat) (v t : ByteArray) (kp : Int) (w : World) (hv : Vs w w.heap.size l A cap) (hz : nbad a b c d e f h s l = 0) (hx : ¬ c < (v.size : Int)) (hy : ¬ d < (t.size : Int)) (hfit : v.size ≤ maxLen ∧ t.size ≤ maxLen) (k : Nat) (hk : l.length = k + 1) (hk' : k < l.length) (hn : l[k].n + 1 ≤ (1073741824 : Int)) (hn' : (0 : Int) ≤ l[k].n) :
    Calls Try.prog 143 #[.agg #[.int .i64 a, .int .i64 b, .int .i64 c, .int .i64 d, .int .i64 e, .int .i64 f, .int .i64 h], .agg #[.string s, .slice A l.length cap], .string v, .string t, .int .i64 kp] w (AddAns w ⟨0, s, l.drop ((l.length : Int) + 1 - kp).toNat ++ [⟨noOf l, v, t⟩], l.take ((l.length : Int) + 1 - kp).toNat⟩) := by
  have hC := Cx.new w a b c d e f h s (.slice A l.length cap)
  have hc := named_any a b c d e f h s l A cap _ ((hv.below hC.1.below).more hC.1.below.size)
  obtain ⟨_, hlen, _⟩ := nbad_zero hz
  rw [hz] at hc
  clear hz
  have d1 : decide (c < (v.size : Int)) = false := by simpa using hx
  have d2 : decide (d < (t.size : Int)) = false := by simpa using hy
  clear hx hy
  have HK := lay hk
  clear hk
  go_enter Try.func143, Try.ntmps143
  go_wp2_with fail
  refine hc.mono ?_
  rintro x w1 ⟨rfl, hb1⟩
  have I1 := hC.next hb1
  clear hb1 hC
  obtain ⟨⟨⟨⟨c0, c1, c2, c3, c4, c5, c6⟩, l1, l2, b1⟩, ⟨e0, e1⟩, l3⟩, hR⟩ := id I1
  have z0 := hR.cell 0
  have z1 := hR.cell 1
  have z2 := hR.cell 2
  have z3 := hR.cell 3
  simp at z0 z1 z2 z3
  have f0 := hR.frozen 0
  have f1 := hR.frozen 1
  have f2 := hR.frozen 2
  have f3 := hR.frozen 3
  have dN : decide (0 < l.length) = true := decide_eq_true (by have := HK.out; omega)
  obtain ⟨bk0, off0, hA0, hbk0, x0, x1, x2⟩ := (hv.below b1).at_ hk'
  subst hA0
  have dm : decide ((1073741824 : Int) < l[k].n + 1) = false := decide_eq_false (by omega)
  have ix : ((l.length : Int) - 1) = (k : Int) := by have := HK.out; omega
  have hfx : (⟨l[k].n + 1, v, t⟩ : V).fits := ⟨⟨by show (-9223372036854775808 : Int) ≤ l[k].n + 1; omega, by show l[k].n + 1 ≤ (9223372036854775807 : Int); omega⟩, hfit⟩
  have hNO : Hid (noOf l = l[k].n + 1) := lay (by unfold noOf; rw [List.getLast?_eq_getElem?, show l.length - 1 = k by have := HK.out; omega, List.getElem?_eq_getElem hk'])
  go_wp2_with fail
  have hG : GHead w a b c d e f h s l (some ⟨bk0, off0, none⟩) cap w1.heap.size ((l.length : Int) + 1 - kp).toNat (.int .i64 0) (w1.alloc (.cells #[.string s, .slice none 0 0, .slice none 0 0, .int .i64 0] 173)) :=
    ⟨0, .slice none 0 0, .slice none 0 0, Nat.zero_le _, rfl, I1.next ((Below.refl _ _).alloc (Nat.le_refl _) _), I1.size, Blk.new w1 _ _, by rw [drop_none l (Nat.zero_le _)]; exact OwnV.nil _ _, by rw [Nat.zero_min]; exact OwnV.nil _ _, (fun k hk => by cases hk), fun _ => rfl⟩
  clear z0 z1 z2 z3 f0 f1 f2 f3 hR c0 c1 c2 c3 c4 c5 c6 l1 l2 b1 e0 e1 l3
  go_loopw [60] (fun x wr => GHead w a b c d e f h s l (some ⟨bk0, off0, none⟩) cap w1.heap.size ((l.length : Int) + 1 - kp).toNat x wr) (fun x _ => l.length - (intOf x).toNat)
  case atStart => exact hG
  case round =>
    clear hG
    generalize hg1 : w1.heap.size = g at *
    generalize hdr : ((l.length : Int) + 1 - kp).toNat = dr at *
    obtain ⟨j, uE, uD, hj, rfl, J1, hgl, hG, hE, hD, hdis, hnil⟩ := hrel
    have hB := J1.1.below
    have hgw := hG.lt
    obtain ⟨⟨⟨⟨c0, c1, c2, c3, c4, c5, c6⟩, l1, l2, b1⟩, ⟨e0, e1⟩, l3⟩, hR⟩ := id J1
    have g0 := hG.cell 0
    have g1 := hG.cell 1
    have g2 := hG.cell 2
    have g3 := hG.cell 3
    simp at g0 g1 g2 g3
    by_cases hlt : j < l.length
    · obtain ⟨bk, off, hA1, hbk, y0, y1, y2⟩ := (hv.below hB).at_ hlt
      first | subst hA1 | cases hA1
      have hfj := hv.2.2.2.2 _ (List.getElem_mem hlt)
      have hBW : Below wr.heap.size wr ((wr.alloc (.cells #[.int .i64 l[j].n, .string l[j].v, .string l[j].t] 147)).alloc (.cells #[.int .i64 l[j].n, .string l[j].v, .string l[j].t] 147)) := ((Below.refl _ _).alloc (Nat.le_refl _) _).alloc (by simp) _
      have hone := Vs.one (wr.alloc (.cells #[.int .i64 l[j].n, .string l[j].v, .string l[j].t] 147)) l[j] hfj
      simp only [World.size_alloc] at hone
      have hG2 := (hG.alloc (.cells #[.int .i64 l[j].n, .string l[j].v, .string l[j].t] 147)).alloc (.cells #[.int .i64 l[j].n, .string l[j].v, .string l[j].t] 147)
      by_cases hjd : j < dr
      · have dt : decide (kp < (l.length : Int) + 1 - (j : Int)) = true := decide_eq_true (by omega)
        have hlen40 : ((l.take (min j dr)).length + [l[j]].length) * 40 ≤ 140737488355328 := by simp; omega
        obtain ⟨AX, nX, cX, rfl, hnX⟩ := hD.shape
        obtain rfl := hnil (by omega)
        have hX2 := hD.below hBW
        have hrow : ∀ k, (Value.slice AX nX cX).ownBlock = some k → g + 1 ≤ k := fun k hk => (hX2.own k hk).1
        go_wp2_with (at_builtin; apply wpList_append_vs (s := .tmp 72) (x := .tmp 74) (lo := g + 1) (B := wr.heap.size + 1 + 1) (l := l.take (min j dr)) (m := [l[j]]) (A := some ⟨wr.heap.size + 1, 0, none⟩) (n := 1) (c := 1) (v := .slice AX nX cX); (case hgd => rfl); (case ho => rfl); (case hB => exact hX2); (case hs => rfl); (case hlo => (simp; omega)); (case hx => rfl); (case hn => rfl); (case hv => exact hone); (case hlen => exact hlen40); intro v' w2 hown hg2 hat; have hG3 := Blk.grown hG2 hg2 (fun e => by have := hrow g e; omega); have q0 := hG3.cell 0; have q1 := hG3.cell 1; have q2 := hG3.cell 2; have q3 := hG3.cell 3; simp at q0 q1 q2 q3; have k1 := hG3.frozen 1; have k2 := hG3.frozen 2; obtain ⟨A2, n2, cap2, rfl, hn2⟩ := hown.shape)
        have hBg : Below g wr w2 := (hBW.mono (by omega)).grown hg2 (by simp; omega) (fun k hk => by have := hrow k hk; omega)
        have hs2 := hg2.size
        simp at hs2
        refine ⟨⟨j + 1, .slice none 0 0, .slice A2 n2 cap2, hlt, by go_num, J1.far (hBg.setCell (Nat.le_refl _) _) hgl, hgl, (hG3.put 2 _), by rw [drop_none l (by omega)]; exact OwnV.nil _ _, ?_, (fun k hk => by cases hk), fun _ => rfl⟩, by simp [intOf]; omega⟩
        rw [show min (j + 1) dr = min j dr + 1 by omega, show l.take (min j dr + 1) = l.take (min j dr) ++ [l[j]] by rw [show min j dr = j by omega]; exact take_snoc l hlt]
        exact hown.setCell (by simp) _
      · have dt : decide (kp < (l.length : Int) + 1 - (j : Int)) = false := decide_eq_false (by omega)
        have hlen40 : (((l.take j).drop dr).length + [l[j]].length) * 40 ≤ 140737488355328 := by simp; omega
        obtain ⟨AX, nX, cX, rfl, hnX⟩ := hE.shape
        obtain ⟨AY, nY, cY, rfl, hnY⟩ := hD.shape
        have hX2 := hE.below hBW
        have hY2 := hD.below hBW
        have hrow : ∀ k, (Value.slice AX nX cX).ownBlock = some k → g + 1 ≤ k := fun k hk => (hX2.own k hk).1
        go_wp2_with (at_builtin; apply wpList_append_vs (s := .tmp 79) (x := .tmp 81) (lo := g + 1) (B := wr.heap.size + 1 + 1) (l := (l.take j).drop dr) (m := [l[j]]) (A := some ⟨wr.heap.size + 1, 0, none⟩) (n := 1) (c := 1) (v := .slice AX nX cX); (case hgd => rfl); (case ho => rfl); (case hB => exact hX2); (case hs => rfl); (case hlo => (simp; omega)); (case hx => rfl); (case hn => rfl); (case hv => exact hone); (case hlen => exact hlen40); intro v' w2 hown hg2 hat; have hG3 := Blk.grown hG2 hg2 (fun e => by have := hrow g e; omega); have q0 := hG3.cell 0; have q1 := hG3.cell 1; have q2 := hG3.cell 2; have q3 := hG3.cell 3; simp at q0 q1 q2 q3; have k1 := hG3.frozen 1; have k2 := hG3.frozen 2; obtain ⟨A2, n2, cap2, rfl, hn2⟩ := hown.shape)
        have hBg : Below g wr w2 := (hBW.mono (by omega)).grown hg2 (by simp; omega) (fun k hk => by have := hrow k hk; omega)
        have hs2 := hg2.size
        simp at hs2
        refine ⟨⟨j + 1, .slice A2 n2 cap2, .slice AY nY cY, hlt, by go_num, J1.far (hBg.setCell (Nat.le_refl _) _) hgl, hgl, (hG3.put 1 _), ?_, ?_, ?_, fun hh => by omega⟩, by simp [intOf]; omega⟩
        · rw [drop_snoc l hlt (by omega)]; exact hown.setCell (by simp) _
        · rw [show min (j + 1) dr = min j dr by omega]; exact (hY2.kept hg2 (fun k hk e => hdis k hk e)).setCell (by simp) _
        · intro k hk e
          have hy := hY2.own k e
          rcases hat with e2 | e2
          · exact hdis k (by rw [← e2]; exact hk) e
          · rw [hk] at e2
            have hlt2 := (hD.own k e).2
            simp at e2
            omega
    · have hlen40 : ((l.drop dr).length + [(⟨l[k].n + 1, v, t⟩ : V)].length) * 40 ≤ 140737488355328 := by simp; omega
      rw [List.take_of_length_le (show l.length ≤ j by omega)] at hE
      rw [show l.take (min j dr) = l.take dr by
        rw [show min j dr = min l.length dr by omega]
        rcases Nat.le_total l.length dr with hh | hh
        · rw [Nat.min_eq_left hh, List.take_of_length_le (Nat.le_refl _), List.take_of_length_le hh]
        · rw [Nat.min_eq_right hh]] at hD
      obtain ⟨AX, nX, cX, rfl, hnX⟩ := hE.shape
      obtain ⟨AY, nY, cY, rfl, hnY⟩ := hD.shape
      have hBW : Below wr.heap.size wr (wr.alloc (.cells #[.int .i64 (l[k].n + 1), .string v, .string t] 147)) := (Below.refl _ _).alloc (Nat.le_refl _) _
      have hone := Vs.one wr ⟨l[k].n + 1, v, t⟩ hfx
      have hX2 := hE.below hBW
      have hY2 := hD.below hBW
      have hG2 := hG.alloc (.cells #[.int .i64 (l[k].n + 1), .string v, .string t] 147)
      have hR2 := hR.alloc (.cells #[.int .i64 (l[k].n + 1), .string v, .string t] 147)
      have hrow : ∀ k, (Value.slice AX nX cX).ownBlock = some k → g + 1 ≤ k := fun k hk => (hX2.own k hk).1
      go_wp2_with (at_builtin; apply wpList_append_vs (s := .tmp 88) (x := .tmp 93) (lo := g + 1) (B := wr.heap.size + 1) (l := l.drop dr) (m := [⟨l[k].n + 1, v, t⟩]) (A := some ⟨wr.heap.size, 0, none⟩) (n := 1) (c := 1) (v := .slice AX nX cX); (case hgd => rfl); (case ho => rfl); (case hB => exact hX2); (case hs => rfl); (case hlo => (simp; omega)); (case hx => rfl); (case hn => rfl); (case hv => exact hone); (case hlen => exact hlen40); intro v' w2 hown hg2 hat; have hG3 := Blk.grown hG2 hg2 (fun e => by have := hrow g e; omega); have hR3 := Blk.grown hR2 hg2 (fun e => by have := hrow _ e; omega); have q0 := hG3.cell 0; have q1 := hG3.cell 1; have q2 := hG3.cell 2; have q3 := hG3.cell 3; have z0 := hR3.cell 0; have z1 := hR3.cell 1; have z2 := hR3.cell 2; have z3 := hR3.cell 3; simp at q0 q1 q2 q3 z0 z1 z2 z3; have k1 := hG3.frozen 1; have f0 := hR3.frozen 0; have f1 := hR3.frozen 1; have f2 := hR3.frozen 2; have f3 := hR3.frozen 3; obtain ⟨A2, n2, cap2, rfl, hn2⟩ := hown.shape)
      have hBg : Below w.heap.size wr w2 := (hBW.mono (by omega)).grown hg2 (by simp; omega) (fun k hk => by have := hrow k hk; omega)
      refine bodyPost_ret (v := .agg #[.string s, .slice A2 n2 cap2, .slice AY nY cY, .int .i64 0]) (by simp [results, Try.results143, go_sem, z0, z1, z2, z3]) rfl ⟨_, _, rfl, ?_, ?_, ?_⟩
      · exact four_below ((b1.trans hBg).setCell (by simp; omega) _) (by omega) _ _ _ _
      · rw [hNO.out]
        exact (((((hown.setCell (by simp) _).hv.setCell (by simp; omega) _).setCell (by simp; omega) _).setCell (by simp; omega) _).setCell (by simp; omega) _).more (by omega)
      · exact ((((((hY2.kept hg2 (fun k hk e => hdis k hk e)).setCell (by simp) _).hv.setCell (by simp; omega) _).setCell (by simp; omega) _).setCell (by simp; omega) _).setCell (by simp; omega) _).more (by omega)

end Go.Proofs.Ytjlglfjikfpboaa.vers

/- add, Put and Over of the document, of anything. -/

namespace Go.Proofs.Ytjlglfjikfpboaa.vers
set_option linter.unusedVariables false
set_option linter.unusedSimpArgs false
open Go.RowKit Go.Proofs.Ytjlglfjikfpboaa.base Go.Proofs.Ytjlglfjikfpboaa.quotas

/-- behind versions in which nothing is wrong the last number is right -/
theorem vbad_last (c d : Int) : ∀ (l : List V) (p : Int), vbad c d p l = 0 → 0 ≤ p → ∀ x, l.getLast? = some x → 0 ≤ x.n ∧ x.n ≤ 1073741824
  | [], _, _, _, x, hx => by simp at hx
  | [y], p, h, hp, x, hx => by
    simp at hx
    subst hx
    unfold vbad at h
    split at h
    · omega
    · rename_i h1; omega
  | y :: z :: l, p, h, hp, x, hx => by
    unfold vbad at h
    split at h
    · omega
    · rename_i h1
      split at h
      · omega
      · exact vbad_last c d (z :: l) y.n h (by omega) x (by rw [List.getLast?_cons_cons] at hx; exact hx)
theorem nbad_last {a b c d e f h : Int} {s : ByteArray} {l : List V} (hz : nbad a b c d e f h s l = 0) {k : Nat} (hk : l.length = k + 1) : 0 ≤ l[k].n ∧ l[k].n ≤ 1073741824 := by
  have hok := (nbad_zero hz).1
  rw [nbad_yes hok] at hz
  have hv : vbad c d 0 l = 0 := by
    split at hz
    · omega
    · split at hz
      · omega
      · split at hz
        · omega
        · exact hz
  refine vbad_last c d l 0 hv (by omega) l[k] ?_
  rw [List.getLast?_eq_getElem?, show l.length - 1 = k by omega, List.getElem?_eq_getElem (by omega)]

theorem refAdd_any (a b c d e f h : Int) (s : ByteArray) (l : List V) (A : Option Addr) (cap : Nat) (v t : ByteArray) (kp : Int) (w : World) (hv : Vs w w.heap.size l A cap) (hfit : v.size ≤ maxLen ∧ t.size ≤ maxLen) :
    Calls Try.prog 143 #[.agg #[.int .i64 a, .int .i64 b, .int .i64 c, .int .i64 d, .int .i64 e, .int .i64 f, .int .i64 h], .agg #[.string s, .slice A l.length cap], .string v, .string t, .int .i64 kp] w (AddAns w (addP a b c d e f h s l v t kp)) := by
  unfold addP
  by_cases hz : nbad a b c d e f h s l = 0
  · rw [if_neg (by simpa using hz)]
    by_cases hx : c < (v.size : Int)
    · rw [if_pos (Or.inl hx)]; exact add_big1 a b c d e f h s l A cap v t kp w hv hz hx
    · by_cases hy : d < (t.size : Int)
      · rw [if_pos (Or.inr hy)]; exact add_big2 a b c d e f h s l A cap v t kp w hv hz hx hy
      · rw [if_neg (by omega)]
        by_cases h0 : l.length = 0
        · rw [if_neg (by rw [List.eq_nil_of_length_eq_zero h0]; unfold noOf; simp)]
          exact add_first a b c d e f h s l A cap v t kp w hv hz hx hy hfit h0
        · obtain ⟨k, hk⟩ : ∃ k, l.length = k + 1 := ⟨l.length - 1, by omega⟩
          have hl := nbad_last hz hk
          have hk' : k < l.length := by omega
          have hno : noOf l = l[k].n + 1 := by unfold noOf; rw [List.getLast?_eq_getElem?, show l.length - 1 = k by omega, List.getElem?_eq_getElem hk']
          by_cases hn : (1073741824 : Int) < l[k].n + 1
          · rw [if_pos (by rw [hno]; exact hn)]
            exact add_long a b c d e f h s l A cap v t kp w hv hz hx hy k hk hk' hn hl.2
          · rw [if_neg (by rw [hno]; exact hn)]
            exact add_more a b c d e f h s l A cap v t kp w hv hz hx hy hfit k hk hk' (by omega) hl.1
  · rw [if_pos hz]; exact add_bad a b c d e f h s l A cap v t kp w hv hz

theorem HV.shape {lo : Nat} {w : World} {l : List V} {u : Value} (h : HV lo w l u) : ∃ A n c, u = .slice A n c ∧ Hid (n = l.length) := by
  obtain ⟨A, c, e, _⟩ := h
  exact ⟨A, _, c, e, lay rfl⟩
/-- what a caller's own box of an answer leaves of it -/
theorem HV.four {lo : Nat} {w : World} {l : List V} {u : Value} (h : HV lo w l u) {g : Nat} (hg : g < lo) (x y z q : Value) : HV lo ((((w.setCell ⟨g, 0, none⟩ x).setCell ⟨g, 1, none⟩ y).setCell ⟨g, 2, none⟩ z).setCell ⟨g, 3, none⟩ q) l u :=
  (((h.setCell hg x).setCell hg y).setCell hg z).setCell hg q

set_option maxRecDepth 100000 in
set_option maxHeartbeats 400000 in
theorem refPut_any (a b c d e f h : Int) (s : ByteArray) (l : List V) (A : Option Addr) (cap : Nat) (v t : ByteArray) (w : World) (hv : Vs w w.heap.size l A cap) (hfit : v.size ≤ maxLen ∧ t.size ≤ maxLen) :
    Calls Try.prog 109 #[.agg #[.int .i64 a, .int .i64 b, .int .i64 c, .int .i64 d, .int .i64 e, .int .i64 f, .int .i64 h], .agg #[.string s, .slice A l.length cap], .string v, .string t] w (AddAns w (addP a b c d e f h s l v t e)) := by
  have hC := Cx.new w a b c d e f h s (.slice A l.length cap)
  have hc := refAdd_any a b c d e f h s l A cap v t e _ ((hv.below hC.1.below).more hC.1.below.size) hfit
  generalize addP a b c d e f h s l v t e = r at hc ⊢
  go_enter Try.func109, Try.ntmps109
  go_wp2_with fail
  refine hc.mono ?_
  rintro x w1 ⟨u, u', rfl, hb1, hu, hu'⟩
  have I1 := hC.next hb1
  obtain ⟨⟨⟨⟨c0, c1, c2, c3, c4, c5, c6⟩, l1, l2, b1⟩, ⟨e0, e1⟩, l3⟩, hR⟩ := id I1
  have z0 := hR.cell 0
  have z1 := hR.cell 1
  have z2 := hR.cell 2
  have z3 := hR.cell 3
  simp at z0 z1 z2 z3
  have f0 := hR.frozen 0
  have f1 := hR.frozen 1
  have f2 := hR.frozen 2
  have f3 := hR.frozen 3
  obtain ⟨AX, nX, cX, rfl, hnX⟩ := hu.shape
  obtain ⟨AY, nY, cY, rfl, hnY⟩ := hu'.shape
  simp only [World.size_alloc] at hu hu'
  go_wp2_with fail
  refine bodyPost_ret (v := .agg #[.string r.s, .slice AX nX cX, .slice AY nY cY, .int .i64 r.bad]) (by simp [results, Try.results109, go_sem, z0, z1, z2, z3]) rfl ⟨_, _, rfl, four_below b1 (by omega) _ _ _ _, (hu.four (by omega) _ _ _ _).more (by omega), (hu'.four (by omega) _ _ _ _).more (by omega)⟩

set_option maxRecDepth 100000 in
set_option maxHeartbeats 400000 in
theorem refOver_any (a b c d e f h : Int) (s : ByteArray) (l : List V) (A : Option Addr) (cap : Nat) (v t : ByteArray) (w : World) (hv : Vs w w.heap.size l A cap) (hfit : v.size ≤ maxLen ∧ t.size ≤ maxLen) :
    Calls Try.prog 110 #[.agg #[.int .i64 a, .int .i64 b, .int .i64 c, .int .i64 d, .int .i64 e, .int .i64 f, .int .i64 h], .agg #[.string s, .slice A l.length cap], .string v, .string t] w (AddAns w (addP a b c d e f h s l v t 1)) := by
  have hC := Cx.new w a b c d e f h s (.slice A l.length cap)
  have hc := refAdd_any a b c d e f h s l A cap v t 1 _ ((hv.below hC.1.below).more hC.1.below.size) hfit
  generalize addP a b c d e f h s l v t 1 = r at hc ⊢
  go_enter Try.func110, Try.ntmps110
  go_wp2_with fail
  refine hc.mono ?_
  rintro x w1 ⟨u, u', rfl, hb1, hu, hu'⟩
  have I1 := hC.next hb1
  obtain ⟨⟨⟨⟨c0, c1, c2, c3, c4, c5, c6⟩, l1, l2, b1⟩, ⟨e0, e1⟩, l3⟩, hR⟩ := id I1
  have z0 := hR.cell 0
  have z1 := hR.cell 1
  have z2 := hR.cell 2
  have z3 := hR.cell 3
  simp at z0 z1 z2 z3
  have f0 := hR.frozen 0
  have f1 := hR.frozen 1
  have f2 := hR.frozen 2
  have f3 := hR.frozen 3
  obtain ⟨AX, nX, cX, rfl, hnX⟩ := hu.shape
  obtain ⟨AY, nY, cY, rfl, hnY⟩ := hu'.shape
  simp only [World.size_alloc] at hu hu'
  go_wp2_with fail
  refine bodyPost_ret (v := .agg #[.string r.s, .slice AX nX cX, .slice AY nY cY, .int .i64 r.bad]) (by simp [results, Try.results110, go_sem, z0, z1, z2, z3]) rfl ⟨_, _, rfl, four_below b1 (by omega) _ _ _ _, (hu.four (by omega) _ _ _ _).more (by omega), (hu'.four (by omega) _ _ _ _).more (by omega)⟩
end Go.Proofs.Ytjlglfjikfpboaa.vers

/- What is asked of the program's own calls; the walks of EntryRights and EntryAsks. -/

namespace Go.Proofs.Ytjlglfjikfpboaa.vers
set_option linter.unusedVariables false
set_option linter.unusedSimpArgs false
open Go.RowKit Go.Proofs.Ytjlglfjikfpboaa.base Go.Proofs.Ytjlglfjikfpboaa.quotas

def LastIs : Prop := ∀ (s : ByteArray) (l : List V) (A : Option Addr) (cap : Nat) (w : World), Vs w w.heap.size l A cap →
  Calls Try.prog 183 #[.agg #[.string s, .slice A l.length cap]] w fun x w' => x = .returned (.tuple #[(lastV l).1.val, .bool (lastV l).2]) ∧ Below w.heap.size w w'
theorem call_in {P : Program} {f : FuncId} {args : Array Value} {v : Value} {S : World → Prop} {N : World → World} {n : World} (hS : ∀ w w', S w → Below w.heap.size w w' → S w') (h1 : ∀ n, S (N n)) (h2 : ∀ w', S w' → ∃ n, w' = N n)
    (hc : Calls P f args (N n) fun e w' => e = .returned v ∧ Below (N n).heap.size (N n) w') : Calls P f args (N n) fun e w'' => e = .returned v ∧ ∃ m, w'' = N m :=
  hc.mono fun _ _ ⟨he, hb⟩ => ⟨he, h2 _ (hS _ _ (h1 n) hb)⟩
theorem Bx.drew {w wr : World} {a b c d e f h : Int} {s : ByteArray} {u : Value} (h1 : Bx w a b c d e f h s u wr) : Bx w a b c d e f h s u wr.drew := h1.next ((Below.refl _ _).drew)
theorem Vs.at_world {w wr : World} {l : List V} {A : Option Addr} {c : Nat} (h : Vs w w.heap.size l A c) (hb : Below w.heap.size w wr) : Vs wr wr.heap.size l A c := (h.below hb).more hb.size

/-- an own box that holds a version -/
def VBox (w : World) (g : Nat) (x : V) : Prop := (w.cell? ⟨g, 0, none⟩ = some (.int .i64 x.n) ∧ w.cell? ⟨g, 1, none⟩ = some (.string x.v) ∧ w.cell? ⟨g, 2, none⟩ = some (.string x.t)) ∧ g < w.heap.size
theorem VBox.new (w : World) (x : V) : VBox (w.alloc (.cells #[.int .i64 x.n, .string x.v, .string x.t] 147)) w.heap.size x := by
  have k := Blk.new w 147 #[.int .i64 x.n, .string x.v, .string x.t]
  exact ⟨⟨k.cell 0, k.cell 1, k.cell 2⟩, by simp⟩
theorem VBox.next {w w' : World} {g : Nat} {x : V} (h : VBox w g x) (hb : Below w.heap.size w w') : VBox w' g x := by
  obtain ⟨⟨a, b, c⟩, d⟩ := h
  have hs := hb.size
  refine ⟨⟨?_, ?_, ?_⟩, by omega⟩ <;> (rw [hb.cell (by simpa using d)]; assumption)
theorem VBox.alloc {w : World} {g : Nat} {x : V} (h : VBox w g x) (o : Obj) : VBox (w.alloc o) g x := h.next ((Below.refl _ _).alloc (Nat.le_refl _) _)
/-- an own box that holds a secret -/
def EBox (w : World) (g : Nat) (s : ByteArray) (u : Value) : Prop := (w.cell? ⟨g, 0, none⟩ = some (.string s) ∧ w.cell? ⟨g, 1, none⟩ = some u) ∧ g < w.heap.size
theorem EBox.new (w : World) (s : ByteArray) (u : Value) : EBox (w.alloc (.cells #[.string s, u] 79)) w.heap.size s u := by
  have k := Blk.new w 79 #[.string s, u]
  exact ⟨⟨k.cell 0, k.cell 1⟩, by simp⟩
theorem EBox.next {w w' : World} {g : Nat} {s : ByteArray} {u : Value} (h : EBox w g s u) (hb : Below w.heap.size w w') : EBox w' g s u := by
  obtain ⟨⟨a, b⟩, d⟩ := h
  have hs := hb.size
  refine ⟨⟨?_, ?_⟩, by omega⟩ <;> (rw [hb.cell (by simpa using d)]; assumption)
theorem EBox.alloc {w : World} {g : Nat} {s : ByteArray} {u : Value} (h : EBox w g s u) (o : Obj) : EBox (w.alloc o) g s u := h.next ((Below.refl _ _).alloc (Nat.le_refl _) _)

end Go.Proofs.Ytjlglfjikfpboaa.vers

/- The walk of EntryPuts, out of what is asked of the program's own calls. -/

namespace Go.Proofs.Ytjlglfjikfpboaa.vers
set_option linter.unusedVariables false
set_option linter.unusedSimpArgs false
open Go.RowKit Go.Proofs.Ytjlglfjikfpboaa.base Go.Proofs.Ytjlglfjikfpboaa.quotas

/-- how the program's own Put answers -/
def PutAns (w : World) (r : Ad) (x : Ending) (w' : World) : Prop :=
  ∃ u u', x = .returned (.tuple #[.agg #[.string r.s, u], u', .int .i64 r.bad]) ∧ Below w.heap.size w w' ∧ HV w.heap.size w' r.k u ∧ HV w.heap.size w' r.d u'
def PutIs : Prop := ∀ (a b c d e f h : Int) (s : ByteArray) (l : List V) (A : Option Addr) (cap : Nat) (v t : ByteArray) (w : World), Vs w w.heap.size l A cap → (v.size ≤ maxLen ∧ t.size ≤ maxLen) →
  Calls Try.prog 166 #[.agg #[.int .i64 a, .int .i64 b, .int .i64 c, .int .i64 d, .int .i64 e, .int .i64 f, .int .i64 h], .agg #[.string s, .slice A l.length cap], .string v, .string t] w (PutAns w (addP a b c d e f h s l v t e))
def OverIs : Prop := ∀ (a b c d e f h : Int) (s : ByteArray) (l : List V) (A : Option Addr) (cap : Nat) (v t : ByteArray) (w : World), Vs w w.heap.size l A cap → (v.size ≤ maxLen ∧ t.size ≤ maxLen) →
  Calls Try.prog 167 #[.agg #[.int .i64 a, .int .i64 b, .int .i64 c, .int .i64 d, .int .i64 e, .int .i64 f, .int .i64 h], .agg #[.string s, .slice A l.length cap], .string v, .string t] w (PutAns w (addP a b c d e f h s l v t 1))

theorem HV.next {lo : Nat} {w w' : World} {l : List V} {u : Value} (h : HV lo w l u) (hb : Below w.heap.size w w') : HV lo w' l u := h.move hb.size fun p _ hp => hb.cell hp
theorem HV.alloc {lo : Nat} {w : World} {l : List V} {u : Value} (h : HV lo w l u) (ob : Obj) : HV lo (w.alloc ob) l u := h.next ((Below.refl _ _).alloc (Nat.le_refl _) _)
theorem HV.vs {lo : Nat} {w : World} {l : List V} {A : Option Addr} {n c : Nat} (h : HV lo w l (.slice A n c)) : Vs w w.heap.size l A c := by
  obtain ⟨A', c', e, hv, _⟩ := h
  cases e
  exact hv
/-- a box of an answer of add -/
def ABox (w : World) (g : Nat) (s : ByteArray) (u u' : Value) (n : Int) : Prop := (w.cell? ⟨g, 0, none⟩ = some (.string s) ∧ w.cell? ⟨g, 1, none⟩ = some u ∧ w.cell? ⟨g, 2, none⟩ = some u' ∧ w.cell? ⟨g, 3, none⟩ = some (.int .i64 n)) ∧ g < w.heap.size
theorem ABox.new (w : World) (s : ByteArray) (u u' : Value) (n : Int) : ABox (w.alloc (.cells #[.string s, u, u', .int .i64 n] 173)) w.heap.size s u u' n := by
  have k := Blk.new w 173 #[.string s, u, u', .int .i64 n]
  exact ⟨⟨k.cell 0, k.cell 1, k.cell 2, k.cell 3⟩, by simp⟩
theorem ABox.next {w w' : World} {g : Nat} {s : ByteArray} {u u' : Value} {n : Int} (h : ABox w g s u u' n) (hb : Below w.heap.size w w') : ABox w' g s u u' n := by
  obtain ⟨⟨a, b, c, e⟩, d⟩ := h
  have hs := hb.size
  refine ⟨⟨?_, ?_, ?_, ?_⟩, by omega⟩ <;> (rw [hb.cell (by simpa using d)]; assumption)
theorem ABox.alloc {w : World} {g : Nat} {s : ByteArray} {u u' : Value} {n : Int} (h : ABox w g s u u' n) (ob : Obj) : ABox (w.alloc ob) g s u u' n := h.next ((Below.refl _ _).alloc (Nat.le_refl _) _)
theorem seq {w w1 w2 : World} (h : Below w.heap.size w w1) (k : Below w1.heap.size w1 w2) : Below w.heap.size w w2 := h.trans (k.mono h.size)
theorem dec_true {l : List V} : decide (l = l) = true := decide_eq_true rfl
theorem dec_both {s : ByteArray} {l : List V} : (decide (s = s) && decide (l = l)) = true := by rw [decide_eq_true rfl, decide_eq_true rfl]; rfl

end Go.Proofs.Ytjlglfjikfpboaa.vers
