/- add, Put and Over of the document, of anything. -/
import Derived.Test.YtolngibmfffjcaaVerH


namespace Go.Proofs.Ytolngibmfffjcaa.vers
set_option linter.unusedVariables false
set_option linter.unusedSimpArgs false
open Go.RowKit Go.Proofs.Ytolngibmfffjcaa.base Go.Proofs.Ytolngibmfffjcaa.quotas

/-- behind versions in which nothing is wrong the last number is right -/
theorem vbad_last (c d : Int) : ∀ (l : List V) (p : Int), vbad c d p l = 0 → 0 ≤ p → ∀ x, l.getLast? = some x → 0 ≤ x.n ∧ x.n ≤ 1073741824
  | [], _, _, _, x, hx => by simp at hx
  | [y], p, h, hp, x, hx => by
    simp at hx
    subst hx
    unfold vbad at h
    split at h
    · omega
    · rename_i h1; omega
  | y :: z :: l, p, h, hp, x, hx => by
    unfold vbad at h
    split at h
    · omega
    · rename_i h1
      split at h
      · omega
      · exact vbad_last c d (z :: l) y.n h (by omega) x (by rw [List.getLast?_cons_cons] at hx; exact hx)
theorem nbad_last {a b c d e f h : Int} {s : ByteArray} {l : List V} (hz : nbad a b c d e f h s l = 0) {k : Nat} (hk : l.length = k + 1) : 0 ≤ l[k].n ∧ l[k].n ≤ 1073741824 := by
  have hok := (nbad_zero hz).1
  rw [nbad_yes hok] at hz
  have hv : vbad c d 0 l = 0 := by
    split at hz
    · omega
    · split at hz
      · omega
      · split at hz
        · omega
        · exact hz
  refine vbad_last c d l 0 hv (by omega) l[k] ?_
  rw [List.getLast?_eq_getElem?, show l.length - 1 = k by omega, List.getElem?_eq_getElem (by omega)]

theorem refAdd_any (a b c d e f h : Int) (s : ByteArray) (l : List V) (A : Option Addr) (cap : Nat) (v t : ByteArray) (kp : Int) (w : World) (hv : Vs w w.heap.size l A cap) (hfit : v.size ≤ maxLen ∧ t.size ≤ maxLen) :
    Calls Try.prog 31 #[.agg #[.int .i64 a, .int .i64 b, .int .i64 c, .int .i64 d, .int .i64 e, .int .i64 f, .int .i64 h], .agg #[.string s, .slice A l.length cap], .string v, .string t, .int .i64 kp] w (AddAns w (addP a b c d e f h s l v t kp)) := by
  unfold addP
  by_cases hz : nbad a b c d e f h s l = 0
  · rw [if_neg (by simpa using hz)]
    by_cases hx : c < (v.size : Int)
    · rw [if_pos (Or.inl hx)]; exact add_big1 a b c d e f h s l A cap v t kp w hv hz hx
    · by_cases hy : d < (t.size : Int)
      · rw [if_pos (Or.inr hy)]; exact add_big2 a b c d e f h s l A cap v t kp w hv hz hx hy
      · rw [if_neg (by omega)]
        by_cases h0 : l.length = 0
        · rw [if_neg (by rw [List.eq_nil_of_length_eq_zero h0]; unfold noOf; simp)]
          exact add_first a b c d e f h s l A cap v t kp w hv hz hx hy hfit h0
        · obtain ⟨k, hk⟩ : ∃ k, l.length = k + 1 := ⟨l.length - 1, by omega⟩
          have hl := nbad_last hz hk
          have hk' : k < l.length := by omega
          have hno : noOf l = l[k].n + 1 := by unfold noOf; rw [List.getLast?_eq_getElem?, show l.length - 1 = k by omega, List.getElem?_eq_getElem hk']
          by_cases hn : (1073741824 : Int) < l[k].n + 1
          · rw [if_pos (by rw [hno]; exact hn)]
            exact add_long a b c d e f h s l A cap v t kp w hv hz hx hy k hk hk' hn hl.2
          · rw [if_neg (by rw [hno]; exact hn)]
            exact add_more a b c d e f h s l A cap v t kp w hv hz hx hy hfit k hk hk' (by omega) hl.1
  · rw [if_pos hz]; exact add_bad a b c d e f h s l A cap v t kp w hv hz

theorem HV.shape {lo : Nat} {w : World} {l : List V} {u : Value} (h : HV lo w l u) : ∃ A n c, u = .slice A n c ∧ Hid (n = l.length) := by
  obtain ⟨A, c, e, _⟩ := h
  exact ⟨A, _, c, e, lay rfl⟩
/-- what a caller's own box of an answer leaves of it -/
theorem HV.four {lo : Nat} {w : World} {l : List V} {u : Value} (h : HV lo w l u) {g : Nat} (hg : g < lo) (x y z q : Value) : HV lo ((((w.setCell ⟨g, 0, none⟩ x).setCell ⟨g, 1, none⟩ y).setCell ⟨g, 2, none⟩ z).setCell ⟨g, 3, none⟩ q) l u :=
  (((h.setCell hg x).setCell hg y).setCell hg z).setCell hg q

set_option maxRecDepth 100000 in
set_option maxHeartbeats 400000 in
theorem refPut_any (a b c d e f h : Int) (s : ByteArray) (l : List V) (A : Option Addr) (cap : Nat) (v t : ByteArray) (w : World) (hv : Vs w w.heap.size l A cap) (hfit : v.size ≤ maxLen ∧ t.size ≤ maxLen) :
    Calls Try.prog 14 #[.agg #[.int .i64 a, .int .i64 b, .int .i64 c, .int .i64 d, .int .i64 e, .int .i64 f, .int .i64 h], .agg #[.string s, .slice A l.length cap], .string v, .string t] w (AddAns w (addP a b c d e f h s l v t e)) := by
  have hC := Cx.new w a b c d e f h s (.slice A l.length cap)
  have hc := refAdd_any a b c d e f h s l A cap v t e _ ((hv.below hC.1.below).more hC.1.below.size) hfit
  generalize addP a b c d e f h s l v t e = r at hc ⊢
  go_enter Try.func14, Try.ntmps14
  go_wp2_with fail
  refine hc.mono ?_
  rintro x w1 ⟨u, u', rfl, hb1, hu, hu'⟩
  have I1 := hC.next hb1
  obtain ⟨⟨⟨⟨c0, c1, c2, c3, c4, c5, c6⟩, l1, l2, b1⟩, ⟨e0, e1⟩, l3⟩, hR⟩ := id I1
  have z0 := hR.cell 0
  have z1 := hR.cell 1
  have z2 := hR.cell 2
  have z3 := hR.cell 3
  simp at z0 z1 z2 z3
  have f0 := hR.frozen 0
  have f1 := hR.frozen 1
  have f2 := hR.frozen 2
  have f3 := hR.frozen 3
  obtain ⟨AX, nX, cX, rfl, hnX⟩ := hu.shape
  obtain ⟨AY, nY, cY, rfl, hnY⟩ := hu'.shape
  simp only [World.size_alloc] at hu hu'
  go_wp2_with fail
  refine bodyPost_ret (v := .agg #[.string r.s, .slice AX nX cX, .slice AY nY cY, .int .i64 r.bad]) (by simp [results, Try.results14, go_sem, z0, z1, z2, z3]) rfl ⟨_, _, rfl, four_below b1 (by omega) _ _ _ _, (hu.four (by omega) _ _ _ _).more (by omega), (hu'.four (by omega) _ _ _ _).more (by omega)⟩

set_option maxRecDepth 100000 in
set_option maxHeartbeats 400000 in
theorem refOver_any (a b c d e f h : Int) (s : ByteArray) (l : List V) (A : Option Addr) (cap : Nat) (v t : ByteArray) (w : World) (hv : Vs w w.heap.size l A cap) (hfit : v.size ≤ maxLen ∧ t.size ≤ maxLen) :
    Calls Try.prog 16 #[.agg #[.int .i64 a, .int .i64 b, .int .i64 c, .int .i64 d, .int .i64 e, .int .i64 f, .int .i64 h], .agg #[.string s, .slice A l.length cap], .string v, .string t] w (AddAns w (addP a b c d e f h s l v t 1)) := by
  have hC := Cx.new w a b c d e f h s (.slice A l.length cap)
  have hc := refAdd_any a b c d e f h s l A cap v t 1 _ ((hv.below hC.1.below).more hC.1.below.size) hfit
  generalize addP a b c d e f h s l v t 1 = r at hc ⊢
  go_enter Try.func16, Try.ntmps16
  go_wp2_with fail
  refine hc.mono ?_
  rintro x w1 ⟨u, u', rfl, hb1, hu, hu'⟩
  have I1 := hC.next hb1
  obtain ⟨⟨⟨⟨c0, c1, c2, c3, c4, c5, c6⟩, l1, l2, b1⟩, ⟨e0, e1⟩, l3⟩, hR⟩ := id I1
  have z0 := hR.cell 0
  have z1 := hR.cell 1
  have z2 := hR.cell 2
  have z3 := hR.cell 3
  simp at z0 z1 z2 z3
  have f0 := hR.frozen 0
  have f1 := hR.frozen 1
  have f2 := hR.frozen 2
  have f3 := hR.frozen 3
  obtain ⟨AX, nX, cX, rfl, hnX⟩ := hu.shape
  obtain ⟨AY, nY, cY, rfl, hnY⟩ := hu'.shape
  simp only [World.size_alloc] at hu hu'
  go_wp2_with fail
  refine bodyPost_ret (v := .agg #[.string r.s, .slice AX nX cX, .slice AY nY cY, .int .i64 r.bad]) (by simp [results, Try.results16, go_sem, z0, z1, z2, z3]) rfl ⟨_, _, rfl, four_below b1 (by omega) _ _ _ _, (hu.four (by omega) _ _ _ _).more (by omega), (hu'.four (by omega) _ _ _ _).more (by omega)⟩
end Go.Proofs.Ytolngibmfffjcaa.vers
