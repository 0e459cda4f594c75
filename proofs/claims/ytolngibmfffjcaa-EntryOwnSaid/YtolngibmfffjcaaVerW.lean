/- What package entry's next answers. -/
import Derived.Test.YtolngibmfffjcaaVerU


namespace Go.Proofs.Ytolngibmfffjcaa.vers
set_option linter.unusedVariables false
set_option linter.unusedSimpArgs false
open Go.RowKit Go.Proofs.Ytolngibmfffjcaa.base Go.Proofs.Ytolngibmfffjcaa.quotas

theorem noOf_last (l : List V) : noOf l = (lastV l).1.n + 1 := by
  unfold noOf lastV
  cases l.getLast? <;> rfl
theorem lastV_in {a b c d e f h : Int} {s : ByteArray} {l : List V} (hz : nbad a b c d e f h s l = 0) : 0 ≤ (lastV l).1.n ∧ (lastV l).1.n ≤ 1073741824 := by
  by_cases h0 : l.length = 0
  · rw [List.eq_nil_of_length_eq_zero h0]
    exact ⟨Int.le_refl _, by decide⟩
  · obtain ⟨k, hk⟩ : ∃ k, l.length = k + 1 := ⟨l.length - 1, by omega⟩
    have hr : lastV l = (l[k], true) := by
      unfold lastV
      rw [List.getLast?_eq_getElem?, show l.length - 1 = k by omega, List.getElem?_eq_getElem (by omega)]
    rw [hr]
    exact nbad_last hz hk

/-- the version that comes next, if it may -/
def nextP (a b c d e f h : Int) (s : ByteArray) (l : List V) (v t : ByteArray) : V × Int :=
  if nbad a b c d e f h s l ≠ 0 then (zV, nbad a b c d e f h s l)
  else if tb c d v t = true then (zV, 5)
  else if 1073741824 < noOf l then (zV, 2)
  else (⟨noOf l, v, t⟩, 0)

/-- behind the call's beginning: its own boxes -/
def Nx (w : World) (a b c d e f h : Int) (s : ByteArray) (u : Value) (wr : World) : Prop :=
  Bx w a b c d e f h s u wr ∧ Blk wr (w.heap.size + 2) 39 #[.int .i64 0, .string ⟨#[]⟩, .string ⟨#[]⟩]
theorem Nx.new (w : World) (a b c d e f h : Int) (s : ByteArray) (u : Value) : Nx w a b c d e f h s u (((w.alloc (.cells #[.int .i64 a, .int .i64 b, .int .i64 c, .int .i64 d, .int .i64 e, .int .i64 f, .int .i64 h] 23)).alloc (.cells #[.string s, u] 26)).alloc (.cells #[.int .i64 0, .string ⟨#[]⟩, .string ⟨#[]⟩] 39)) := by
  have k := Blk.new ((w.alloc (.cells #[.int .i64 a, .int .i64 b, .int .i64 c, .int .i64 d, .int .i64 e, .int .i64 f, .int .i64 h] 23)).alloc (.cells #[.string s, u] 26)) 39 #[.int .i64 0, .string ⟨#[]⟩, .string ⟨#[]⟩]
  simp only [World.size_alloc] at k
  exact ⟨(Bx.new w a b c d e f h s u).alloc _, k⟩
theorem Nx.next {w wr w' : World} {a b c d e f h : Int} {s : ByteArray} {u : Value} (h1 : Nx w a b c d e f h s u wr) (hb : Below wr.heap.size wr w') : Nx w a b c d e f h s u w' :=
  ⟨h1.1.next hb, h1.2.below hb h1.2.lt⟩
theorem Nx.size {w wr : World} {a b c d e f h : Int} {s : ByteArray} {u : Value} (h1 : Nx w a b c d e f h s u wr) : w.heap.size + 2 < wr.heap.size := h1.2.lt
theorem Nx.alloc {w wr : World} {a b c d e f h : Int} {s : ByteArray} {u : Value} (h1 : Nx w a b c d e f h s u wr) (ob : Obj) : Nx w a b c d e f h s u (wr.alloc ob) := h1.next ((Below.refl _ _).alloc (Nat.le_refl _) _)

set_option maxRecDepth 100000 in
set_option maxHeartbeats 400000 in
theorem next_bad (a b c d e f h : Int) (s : ByteArray) (l : List V) (A : Option Addr) (cap : Nat) (v t : ByteArray) (w : World) (hv : Vs w w.heap.size l A cap) (hz : nbad a b c d e f h s l ≠ 0) :
    Calls Try.prog 29 #[.agg #[.int .i64 a, .int .i64 b, .int .i64 c, .int .i64 d, .int .i64 e, .int .i64 f, .int .i64 h], .agg #[.string s, .slice A l.length cap], .string v, .string t] w fun x w' => x = .returned (.tuple #[zV.val, .int .i64 (nbad a b c d e f h s l)]) ∧ Below w.heap.size w w' := by
  have hC := Nx.new w a b c d e f h s (.slice A l.length cap)
  have hsz0 := hC.size
  have hc := rightOrNew_any a b c d e f h s l A cap _ (hv.at_world hC.1.below)
  generalize nbad a b c d e f h s l = n at hc hz ⊢
  have d1 : (n != 0) = true := by simpa using hz
  clear hz
  go_enter Try.func29, Try.ntmps29
  go_wp2_with fail
  refine hc.mono ?_
  rintro x w1 ⟨rfl, hb1⟩
  have I1 := hC.next hb1
  clear hb1 hC
  have hs1 := I1.size
  obtain ⟨⟨⟨⟨c0, c1, c2, c3, c4, c5, c6⟩, l1, l2, b1⟩, ⟨e0, e1⟩, l3⟩, hR⟩ := id I1
  have z0 := hR.cell 0
  have z1 := hR.cell 1
  have z2 := hR.cell 2
  simp at z0 z1 z2
  have f0 := hR.frozen 0
  have f1 := hR.frozen 1
  have f2 := hR.frozen 2
  go_wp2_with fail
  refine bodyPost_ret (v := .tuple #[zV.val, .int .i64 n]) (by simp [results, Try.results29, go_sem, z0, z1, z2, zV, V.val]) rfl ⟨rfl, three_below b1 (by omega) _ _ _⟩

set_option maxRecDepth 100000 in
set_option maxHeartbeats 400000 in
theorem next_big (a b c d e f h : Int) (s : ByteArray) (l : List V) (A : Option Addr) (cap : Nat) (v t : ByteArray) (w : World) (hv : Vs w w.heap.size l A cap) (hz : nbad a b c d e f h s l = 0) (htb : tb c d v t = true) :
    Calls Try.prog 29 #[.agg #[.int .i64 a, .int .i64 b, .int .i64 c, .int .i64 d, .int .i64 e, .int .i64 f, .int .i64 h], .agg #[.string s, .slice A l.length cap], .string v, .string t] w fun x w' => x = .returned (.tuple #[zV.val, .int .i64 5]) ∧ Below w.heap.size w w' := by
  have hC := Nx.new w a b c d e f h s (.slice A l.length cap)
  have hsz0 := hC.size
  have hc := rightOrNew_any a b c d e f h s l A cap _ (hv.at_world hC.1.below)
  rw [hz] at hc
  have hl := lastV_in hz
  clear hz
  clear hl
  go_enter Try.func29, Try.ntmps29
  go_wp2_with fail
  refine hc.mono ?_
  rintro x w1 ⟨rfl, hb1⟩
  have I1 := hC.next hb1
  clear hb1 hC
  have hs1 := I1.size
  obtain ⟨⟨⟨⟨c0, c1, c2, c3, c4, c5, c6⟩, l1, l2, b1⟩, ⟨e0, e1⟩, l3⟩, hR⟩ := id I1
  have z0 := hR.cell 0
  have z1 := hR.cell 1
  have z2 := hR.cell 2
  simp at z0 z1 z2
  have f0 := hR.frozen 0
  have f1 := hR.frozen 1
  have f2 := hR.frozen 2
  go_wp2_with fail
  have ht2 := tooBig_any a b c d e f h v t w1
  rw [htb] at ht2
  refine ht2.mono ?_
  rintro x w2 ⟨rfl, hb2⟩
  have I2 := I1.next hb2
  clear c0 c1 c2 c3 c4 c5 c6 l1 l2 b1 e0 e1 l3 hR z0 z1 z2 f0 f1 f2
  clear hb2 I1 ht2
  have hs2 := I2.size
  obtain ⟨⟨⟨⟨c0, c1, c2, c3, c4, c5, c6⟩, l1, l2, b1⟩, ⟨e0, e1⟩, l3⟩, hR⟩ := id I2
  have z0 := hR.cell 0
  have z1 := hR.cell 1
  have z2 := hR.cell 2
  simp at z0 z1 z2
  have f0 := hR.frozen 0
  have f1 := hR.frozen 1
  have f2 := hR.frozen 2
  go_wp2_with fail
  refine bodyPost_ret (v := .tuple #[zV.val, .int .i64 5]) (by simp [results, Try.results29, go_sem, z0, z1, z2, zV, V.val]) rfl ⟨rfl, three_below b1 (by omega) _ _ _⟩

set_option maxRecDepth 100000 in
set_option maxHeartbeats 400000 in
theorem next_long (a b c d e f h : Int) (s : ByteArray) (l : List V) (A : Option Addr) (cap : Nat) (v t : ByteArray) (w : World) (hv : Vs w w.heap.size l A cap) (hz : nbad a b c d e f h s l = 0) (htb : tb c d v t = false) (hno : 1073741824 < noOf l) :
    Calls Try.prog 29 #[.agg #[.int .i64 a, .int .i64 b, .int .i64 c, .int .i64 d, .int .i64 e, .int .i64 f, .int .i64 h], .agg #[.string s, .slice A l.length cap], .string v, .string t] w fun x w' => x = .returned (.tuple #[zV.val, .int .i64 2]) ∧ Below w.heap.size w w' := by
  have hC := Nx.new w a b c d e f h s (.slice A l.length cap)
  have hsz0 := hC.size
  have hc := rightOrNew_any a b c d e f h s l A cap _ (hv.at_world hC.1.below)
  rw [hz] at hc
  have hl := lastV_in hz
  clear hz
  rw [noOf_last] at hno
  go_enter Try.func29, Try.ntmps29
  go_wp2_with fail
  refine hc.mono ?_
  rintro x w1 ⟨rfl, hb1⟩
  have I1 := hC.next hb1
  clear hb1 hC
  have hs1 := I1.size
  obtain ⟨⟨⟨⟨c0, c1, c2, c3, c4, c5, c6⟩, l1, l2, b1⟩, ⟨e0, e1⟩, l3⟩, hR⟩ := id I1
  have z0 := hR.cell 0
  have z1 := hR.cell 1
  have z2 := hR.cell 2
  simp at z0 z1 z2
  have f0 := hR.frozen 0
  have f1 := hR.frozen 1
  have f2 := hR.frozen 2
  go_wp2_with fail
  have ht2 := tooBig_any a b c d e f h v t w1
  rw [htb] at ht2
  refine ht2.mono ?_
  rintro x w2 ⟨rfl, hb2⟩
  have I2 := I1.next hb2
  clear c0 c1 c2 c3 c4 c5 c6 l1 l2 b1 e0 e1 l3 hR z0 z1 z2 f0 f1 f2
  clear hb2 I1 ht2
  have hs2 := I2.size
  obtain ⟨⟨⟨⟨c0, c1, c2, c3, c4, c5, c6⟩, l1, l2, b1⟩, ⟨e0, e1⟩, l3⟩, hR⟩ := id I2
  have z0 := hR.cell 0
  have z1 := hR.cell 1
  have z2 := hR.cell 2
  simp at z0 z1 z2
  have f0 := hR.frozen 0
  have f1 := hR.frozen 1
  have f2 := hR.frozen 2
  go_wp2_with fail
  have hl3 := last_any s l A cap w2 (hv.at_world b1)
  generalize hp : lastV l = p at hl3 hl hno
  obtain ⟨⟨pn, pv, pt⟩, is⟩ := p
  have HP := lay hp
  clear hp
  simp only [V.val] at hl3 hl hno
  refine hl3.mono ?_
  rintro x w3 ⟨rfl, hb3⟩
  have I3 := (I2.next hb3).alloc (.cells #[.int .i64 pn, .string pv, .string pt] 39)
  clear c0 c1 c2 c3 c4 c5 c6 l1 l2 b1 e0 e1 l3 hR z0 z1 z2 f0 f1 f2
  have hs3 := I3.size
  obtain ⟨⟨⟨⟨c0, c1, c2, c3, c4, c5, c6⟩, l1, l2, b1⟩, ⟨e0, e1⟩, l3⟩, hR⟩ := id I3
  have z0 := hR.cell 0
  have z1 := hR.cell 1
  have z2 := hR.cell 2
  simp at z0 z1 z2
  have f0 := hR.frozen 0
  have f1 := hR.frozen 1
  have f2 := hR.frozen 2
  have hq := (Blk.new w3 39 #[.int .i64 pn, .string pv, .string pt]).cell 0
  simp at hq
  have d4 : (pn == 1073741824) = true := by simp; omega
  go_wp2_with fail
  refine bodyPost_ret (v := .tuple #[zV.val, .int .i64 2]) (by simp [results, Try.results29, go_sem, z0, z1, z2, zV, V.val]) rfl ⟨rfl, three_below b1 (by omega) _ _ _⟩

set_option maxRecDepth 100000 in
set_option maxHeartbeats 400000 in
theorem next_ok (a b c d e f h : Int) (s : ByteArray) (l : List V) (A : Option Addr) (cap : Nat) (v t : ByteArray) (w : World) (hv : Vs w w.heap.size l A cap) (hz : nbad a b c d e f h s l = 0) (htb : tb c d v t = false) (hno : ¬ 1073741824 < noOf l) :
    Calls Try.prog 29 #[.agg #[.int .i64 a, .int .i64 b, .int .i64 c, .int .i64 d, .int .i64 e, .int .i64 f, .int .i64 h], .agg #[.string s, .slice A l.length cap], .string v, .string t] w fun x w' => x = .returned (.tuple #[(⟨noOf l, v, t⟩ : V).val, .int .i64 0]) ∧ Below w.heap.size w w' := by
  have hC := Nx.new w a b c d e f h s (.slice A l.length cap)
  have hsz0 := hC.size
  have hc := rightOrNew_any a b c d e f h s l A cap _ (hv.at_world hC.1.below)
  rw [hz] at hc
  have hl := lastV_in hz
  clear hz
  rw [noOf_last] at hno ⊢
  go_enter Try.func29, Try.ntmps29
  go_wp2_with fail
  refine hc.mono ?_
  rintro x w1 ⟨rfl, hb1⟩
  have I1 := hC.next hb1
  clear hb1 hC
  have hs1 := I1.size
  obtain ⟨⟨⟨⟨c0, c1, c2, c3, c4, c5, c6⟩, l1, l2, b1⟩, ⟨e0, e1⟩, l3⟩, hR⟩ := id I1
  have z0 := hR.cell 0
  have z1 := hR.cell 1
  have z2 := hR.cell 2
  simp at z0 z1 z2
  have f0 := hR.frozen 0
  have f1 := hR.frozen 1
  have f2 := hR.frozen 2
  go_wp2_with fail
  have ht2 := tooBig_any a b c d e f h v t w1
  rw [htb] at ht2
  refine ht2.mono ?_
  rintro x w2 ⟨rfl, hb2⟩
  have I2 := I1.next hb2
  clear c0 c1 c2 c3 c4 c5 c6 l1 l2 b1 e0 e1 l3 hR z0 z1 z2 f0 f1 f2
  clear hb2 I1 ht2
  have hs2 := I2.size
  obtain ⟨⟨⟨⟨c0, c1, c2, c3, c4, c5, c6⟩, l1, l2, b1⟩, ⟨e0, e1⟩, l3⟩, hR⟩ := id I2
  have z0 := hR.cell 0
  have z1 := hR.cell 1
  have z2 := hR.cell 2
  simp at z0 z1 z2
  have f0 := hR.frozen 0
  have f1 := hR.frozen 1
  have f2 := hR.frozen 2
  go_wp2_with fail
  have hl3 := last_any s l A cap w2 (hv.at_world b1)
  generalize hp : lastV l = p at hl3 hl hno
  obtain ⟨⟨pn, pv, pt⟩, is⟩ := p
  have HP := lay hp
  clear hp
  simp only [V.val] at hl3 hl hno
  refine hl3.mono ?_
  rintro x w3 ⟨rfl, hb3⟩
  have I3 := (I2.next hb3).alloc (.cells #[.int .i64 pn, .string pv, .string pt] 39)
  clear c0 c1 c2 c3 c4 c5 c6 l1 l2 b1 e0 e1 l3 hR z0 z1 z2 f0 f1 f2
  have hs3 := I3.size
  obtain ⟨⟨⟨⟨c0, c1, c2, c3, c4, c5, c6⟩, l1, l2, b1⟩, ⟨e0, e1⟩, l3⟩, hR⟩ := id I3
  have z0 := hR.cell 0
  have z1 := hR.cell 1
  have z2 := hR.cell 2
  simp at z0 z1 z2
  have f0 := hR.frozen 0
  have f1 := hR.frozen 1
  have f2 := hR.frozen 2
  have hq := (Blk.new w3 39 #[.int .i64 pn, .string pv, .string pt]).cell 0
  simp at hq
  have d4 : (pn == 1073741824) = false := beq_eq_false_iff_ne.2 (by omega)
  go_wp2_with fail
  refine bodyPost_ret (v := .tuple #[.agg #[.int .i64 (pn + 1), .string v, .string t], .int .i64 0]) (by simp [results, Try.results29, go_sem, z0, z1, z2, zV, V.val]) rfl ⟨by rw [HP.out]; rfl, three_below b1 (by omega) _ _ _⟩

theorem next_any (a b c d e f h : Int) (s : ByteArray) (l : List V) (A : Option Addr) (cap : Nat) (v t : ByteArray) (w : World) (hv : Vs w w.heap.size l A cap) :
    Calls Try.prog 29 #[.agg #[.int .i64 a, .int .i64 b, .int .i64 c, .int .i64 d, .int .i64 e, .int .i64 f, .int .i64 h], .agg #[.string s, .slice A l.length cap], .string v, .string t] w fun x w' => x = .returned (.tuple #[(nextP a b c d e f h s l v t).1.val, .int .i64 (nextP a b c d e f h s l v t).2]) ∧ Below w.heap.size w w' := by
  unfold nextP
  by_cases hz : nbad a b c d e f h s l = 0
  · rw [if_neg (by simpa using hz)]
    cases htb : tb c d v t
    · rw [if_neg (by simp)]
      by_cases hno : 1073741824 < noOf l
      · rw [if_pos hno]; exact next_long a b c d e f h s l A cap v t w hv hz htb hno
      · rw [if_neg hno]; exact next_ok a b c d e f h s l A cap v t w hv hz htb hno
    · rw [if_pos rfl]; exact next_big a b c d e f h s l A cap v t w hv hz htb
  · rw [if_pos hz]; exact next_bad a b c d e f h s l A cap v t w hv hz
end Go.Proofs.Ytolngibmfffjcaa.vers
