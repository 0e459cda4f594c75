/- EntryKeeps, of anything, out of what is asked of the program's own calls. -/
import Derived.Test.YtolngibmfffjcaaVerR


namespace Go.Proofs.Ytolngibmfffjcaa.vers
set_option linter.unusedVariables false
set_option linter.unusedSimpArgs false
open Go.RowKit Go.Proofs.Ytolngibmfffjcaa.base Go.Proofs.Ytolngibmfffjcaa.quotas

set_option maxRecDepth 100000 in
set_option maxHeartbeats 1000000 in
theorem keeps_bad (hp : PutIs) (hq : OverIs) (a b c d e f h : Int) (s : ByteArray) (l : List V) (A : Option Addr) (cap : Nat) (v t : ByteArray) (w : World) (hv : Vs w w.heap.size l A cap) (hfit : v.size ≤ maxLen ∧ t.size ≤ maxLen) (p q : Ad) (hpe : addP a b c d e f h s l v t e = p) (hqe : addP a b c d e f h s l v t 1 = q) (hpq : q.bad = p.bad) (hp0 : p.bad ≠ 0) :
    Calls Try.prog 7 #[.agg #[.int .i64 a, .int .i64 b, .int .i64 c, .int .i64 d, .int .i64 e, .int .i64 f, .int .i64 h], .agg #[.string s, .slice A l.length cap], .string v, .string t] w fun x w' => x = .returned (.bool true) ∧ Below w.heap.size w w' := by
  have E0 := Bx.new w a b c d e f h s (.slice A l.length cap)
  have h1 := fun wr (hb : Below w.heap.size w wr) => refPut_any a b c d e f h s l A cap v t wr (hv.at_world hb) hfit
  have h2 := fun wr (hb : Below w.heap.size w wr) => hp a b c d e f h s l A cap v t wr (hv.at_world hb) hfit
  have h3 := fun wr (hb : Below w.heap.size w wr) => hq a b c d e f h s l A cap v t wr (hv.at_world hb) hfit
  rw [hpe] at h1 h2
  rw [hqe] at h3
  clear hfit hpe hqe hp hq
  obtain ⟨pb, ps, pk, pd⟩ := p
  obtain ⟨qb, qs, qk, qd⟩ := q
  simp only at hp0 hpq
  subst hpq
  have d0 : (qb != 0) = true := by simpa using hp0
  clear hp0
  go_enter Try.func7, Try.ntmps7
  go_wp2_with fail
  refine (h1 _ E0.below).mono ?_
  rintro z w1 ⟨u1, y1, rfl, hb1, hu1, hy1⟩
  have G1 := E0.next hb1
  clear E0 hb1
  obtain ⟨A1, k1, rfl, _⟩ := id hu1
  obtain ⟨D1, m1, rfl, _⟩ := id hy1
  obtain ⟨⟨⟨c0, c1, c2, c3, c4, c5, c6⟩, l1, l2, b1⟩, ⟨e0, e1⟩, l3⟩ := id G1
  go_wp2_with fail
  clear c0 c1 c2 c3 c4 c5 c6 l1 l2 b1 e0 e1 l3
  have F1 := G1.alloc (.cells #[.string ps, .slice A1 pk.length k1, .slice D1 pd.length m1, .int .i64 qb] 33)
  have X1 := ABox.new w1 ps (.slice A1 pk.length k1) (.slice D1 pd.length m1) qb
  clear G1 hu1 hy1
  refine (h2 _ F1.below).mono ?_
  rintro z w2 ⟨u2, y2, rfl, hb2, hu2, hy2⟩
  have G2 := F1.next hb2
  have X2 := X1.next hb2
  clear F1 X1 hb2
  obtain ⟨A2, k2, rfl, _⟩ := id hu2
  obtain ⟨D2, m2, rfl, _⟩ := id hy2
  obtain ⟨⟨⟨c0, c1, c2, c3, c4, c5, c6⟩, l1, l2, b1⟩, ⟨e0, e1⟩, l3⟩ := id G2
  go_wp2_with fail
  clear c0 c1 c2 c3 c4 c5 c6 l1 l2 b1 e0 e1 l3 hu2 hy2
  have F2 := G2.alloc (.cells #[.string ps, .slice A2 pk.length k2] 26)
  have X2 := X2.alloc (.cells #[.string ps, .slice A2 pk.length k2] 26)
  clear G2
  refine (h3 _ F2.below).mono ?_
  rintro z w3 ⟨u3, y3, rfl, hb3, hu3, hy3⟩
  have G3 := F2.next hb3
  have X3 := X2.next hb3
  clear F2 X2 hb3
  obtain ⟨A3, k3, rfl, _⟩ := id hu3
  obtain ⟨D3, m3, rfl, _⟩ := id hy3
  obtain ⟨⟨x0, x1, x2, x3⟩, x4⟩ := id X3
  have B3 := G3.below
  clear G3 hu3 hy3
  go_wp2_with fail
  go_ret
  exact ⟨rfl, B3.alloc B3.size _⟩

theorem law_keeps (hp : PutIs) (hq : OverIs) (hL : LastIs) (hR : RightIs) (a b c d e f h : Int) (s : ByteArray) (l : List V) (A : Option Addr) (cap : Nat) (v t : ByteArray) (w : World) (hv : Vs w w.heap.size l A cap) (hfit : v.size ≤ maxLen ∧ t.size ≤ maxLen) :
    Calls Try.prog 7 #[.agg #[.int .i64 a, .int .i64 b, .int .i64 c, .int .i64 d, .int .i64 e, .int .i64 f, .int .i64 h], .agg #[.string s, .slice A l.length cap], .string v, .string t] w fun x w' => x = .returned (.bool true) ∧ Below w.heap.size w w' := by
  have hbq := addP_bad (a := a) (b := b) (c := c) (d := d) (e := e) (f := f) (h := h) (s := s) (l := l) (v := v) (t := t) 1 e
  by_cases hz : (addP a b c d e f h s l v t e).bad = 0
  · have hz1 : (addP a b c d e f h s l v t 1).bad = 0 := by rw [hbq]; exact hz
    obtain ⟨k1, k2, k3, k4, k5, _, _, _, _⟩ := addP_ok hz
    obtain ⟨p1, p2, p3, p4⟩ := keeps_put hz
    obtain ⟨o1, o2, o3, o4⟩ := keeps_over hz1
    obtain ⟨j1, _, _, _, _, _, _, _, _⟩ := addP_ok hz1
    have r1 := keeps_right hz p1
    have r2 := keeps_right hz1 (by rw [o1]; simpa using o4)
    have l1 := keeps_last hz
    have hno : 1 ≤ noOf l := by
      have := rises_mem k3 ⟨noOf l, v, t⟩ (List.mem_append_right _ (List.mem_singleton.2 rfl))
      exact this
    rw [o1] at r2
    refine keeps_of hp hq hL hR a b c d e f h s l A cap v t w hv hfit (noOf l) (addP a b c d e f h s l v t e).k (addP a b c d e f h s l v t e).d ?_ ?_ k2 r1 r2 l1 p4 p3 o3 p2 ⟨⟨by show (-9223372036854775808 : Int) ≤ noOf l; omega, by show noOf l ≤ (9223372036854775807 : Int); omega⟩, hfit⟩
    · generalize addP a b c d e f h s l v t e = p at hz k1
      obtain ⟨pb, ps, pk, pd⟩ := p
      simp only at hz k1
      subst hz k1
      rfl
    · generalize addP a b c d e f h s l v t 1 = p at hz1 o1 o2 j1
      obtain ⟨pb, ps, pk, pd⟩ := p
      simp only at hz1 o1 o2 j1
      subst hz1 o1 o2 j1
      rfl
  · exact keeps_bad hp hq a b c d e f h s l A cap v t w hv hfit _ _ rfl rfl hbq hz
end Go.Proofs.Ytolngibmfffjcaa.vers
