/- add of the document: what is too long. -/
import Derived.Test.YtolngibmfffjcaaVerF


namespace Go.Proofs.Ytolngibmfffjcaa.vers
set_option linter.unusedVariables false
set_option linter.unusedSimpArgs false
open Go.RowKit Go.Proofs.Ytolngibmfffjcaa.base Go.Proofs.Ytolngibmfffjcaa.quotas

set_option maxRecDepth 100000 in
set_option maxHeartbeats 400000 in
theorem add_big1 (a b c d e f h : Int) (s : ByteArray) (l : List V) (A : Option Addr) (cap : Nat) (v t : ByteArray) (kp : Int) (w : World) (hv : Vs w w.heap.size l A cap) (hz : nbad a b c d e f h s l = 0) (hx : c < (v.size : Int)) :
    Calls Try.prog 31 #[.agg #[.int .i64 a, .int .i64 b, .int .i64 c, .int .i64 d, .int .i64 e, .int .i64 f, .int .i64 h], .agg #[.string s, .slice A l.length cap], .string v, .string t, .int .i64 kp] w (AddAns w (badA 5)) := by
  have hC := Cx.new w a b c d e f h s (.slice A l.length cap)
  have hc := named_any a b c d e f h s l A cap _ ((hv.below hC.1.below).more hC.1.below.size)
  obtain ⟨_, hlen, _⟩ := nbad_zero hz
  rw [hz] at hc
  clear hz
  have d1 : decide (c < (v.size : Int)) = true := by simpa using hx
  clear hx
  go_enter Try.func31, Try.ntmps31
  go_wp2_with fail
  refine hc.mono ?_
  rintro x w1 ⟨rfl, hb1⟩
  have I1 := hC.next hb1
  clear hb1 hC
  obtain ⟨⟨⟨⟨c0, c1, c2, c3, c4, c5, c6⟩, l1, l2, b1⟩, ⟨e0, e1⟩, l3⟩, hR⟩ := id I1
  have z0 := hR.cell 0
  have z1 := hR.cell 1
  have z2 := hR.cell 2
  have z3 := hR.cell 3
  simp at z0 z1 z2 z3
  have f0 := hR.frozen 0
  have f1 := hR.frozen 1
  have f2 := hR.frozen 2
  have f3 := hR.frozen 3
  go_wp2_with fail
  refine bodyPost_ret (v := .agg #[.string ⟨#[]⟩, .slice none 0 0, .slice none 0 0, .int .i64 5]) (by simp [results, Try.results31, go_sem, z0, z1, z2, z3]) rfl ⟨_, _, rfl, four_below b1 (by omega) _ _ _ _, HV.nil _ _, HV.nil _ _⟩

set_option maxRecDepth 100000 in
set_option maxHeartbeats 400000 in
theorem add_big2 (a b c d e f h : Int) (s : ByteArray) (l : List V) (A : Option Addr) (cap : Nat) (v t : ByteArray) (kp : Int) (w : World) (hv : Vs w w.heap.size l A cap) (hz : nbad a b c d e f h s l = 0) (hx : ¬ c < (v.size : Int)) (hy : d < (t.size : Int)) :
    Calls Try.prog 31 #[.agg #[.int .i64 a, .int .i64 b, .int .i64 c, .int .i64 d, .int .i64 e, .int .i64 f, .int .i64 h], .agg #[.string s, .slice A l.length cap], .string v, .string t, .int .i64 kp] w (AddAns w (badA 5)) := by
  have hC := Cx.new w a b c d e f h s (.slice A l.length cap)
  have hc := named_any a b c d e f h s l A cap _ ((hv.below hC.1.below).more hC.1.below.size)
  obtain ⟨_, hlen, _⟩ := nbad_zero hz
  rw [hz] at hc
  clear hz
  have d1 : decide (c < (v.size : Int)) = false := by simpa using hx
  have d2 : decide (d < (t.size : Int)) = true := by simpa using hy
  clear hx hy
  go_enter Try.func31, Try.ntmps31
  go_wp2_with fail
  refine hc.mono ?_
  rintro x w1 ⟨rfl, hb1⟩
  have I1 := hC.next hb1
  clear hb1 hC
  obtain ⟨⟨⟨⟨c0, c1, c2, c3, c4, c5, c6⟩, l1, l2, b1⟩, ⟨e0, e1⟩, l3⟩, hR⟩ := id I1
  have z0 := hR.cell 0
  have z1 := hR.cell 1
  have z2 := hR.cell 2
  have z3 := hR.cell 3
  simp at z0 z1 z2 z3
  have f0 := hR.frozen 0
  have f1 := hR.frozen 1
  have f2 := hR.frozen 2
  have f3 := hR.frozen 3
  go_wp2_with fail
  refine bodyPost_ret (v := .agg #[.string ⟨#[]⟩, .slice none 0 0, .slice none 0 0, .int .i64 5]) (by simp [results, Try.results31, go_sem, z0, z1, z2, z3]) rfl ⟨_, _, rfl, four_below b1 (by omega) _ _ _ _, HV.nil _ _, HV.nil _ _⟩

set_option maxRecDepth 100000 in
set_option maxHeartbeats 1000000 in
theorem add_long (a b c d e f h : Int) (s : ByteArray) (l : List V) (A : Option Addr) (cap : Nat) (v t : ByteArray) (kp : Int) (w : World) (hv : Vs w w.heap.size l A cap) (hz : nbad a b c d e f h s l = 0) (hx : ¬ c < (v.size : Int)) (hy : ¬ d < (t.size : Int)) (k : Nat) (hk : l.length = k + 1) (hk' : k < l.length) (hn : (1073741824 : Int) < l[k].n + 1) (hn' : l[k].n ≤ (1073741824 : Int)) :
    Calls Try.prog 31 #[.agg #[.int .i64 a, .int .i64 b, .int .i64 c, .int .i64 d, .int .i64 e, .int .i64 f, .int .i64 h], .agg #[.string s, .slice A l.length cap], .string v, .string t, .int .i64 kp] w (AddAns w (badA 2)) := by
  have hC := Cx.new w a b c d e f h s (.slice A l.length cap)
  have hc := named_any a b c d e f h s l A cap _ ((hv.below hC.1.below).more hC.1.below.size)
  obtain ⟨_, hlen, _⟩ := nbad_zero hz
  rw [hz] at hc
  clear hz
  have d1 : decide (c < (v.size : Int)) = false := by simpa using hx
  have d2 : decide (d < (t.size : Int)) = false := by simpa using hy
  clear hx hy
  have HK := lay hk
  clear hk
  obtain ⟨bk, off, rfl, hbk, v0, v1, v2⟩ := (hv.below hC.1.below).at_ hk'
  go_enter Try.func31, Try.ntmps31
  go_wp2_with fail
  refine hc.mono ?_
  rintro x w1 ⟨rfl, hb1⟩
  have I1 := hC.next hb1
  clear hb1 hC
  obtain ⟨⟨⟨⟨c0, c1, c2, c3, c4, c5, c6⟩, l1, l2, b1⟩, ⟨e0, e1⟩, l3⟩, hR⟩ := id I1
  have z0 := hR.cell 0
  have z1 := hR.cell 1
  have z2 := hR.cell 2
  have z3 := hR.cell 3
  simp at z0 z1 z2 z3
  have f0 := hR.frozen 0
  have f1 := hR.frozen 1
  have f2 := hR.frozen 2
  have f3 := hR.frozen 3
  obtain ⟨bk', off', e', _, y0, y1, y2⟩ := (hv.below b1).at_ hk'
  cases e'
  clear v0 v1 v2 hv hbk
  have hk := HK.out
  have dl : decide ((0 : Int) < (l.length : Int)) = true := by simp; omega
  have dm : decide ((1073741824 : Int) < l[k].n + 1) = true := by simpa using hn
  go_wp2_with fail
  refine bodyPost_ret (v := .agg #[.string ⟨#[]⟩, .slice none 0 0, .slice none 0 0, .int .i64 2]) (by simp [results, Try.results31, go_sem, z0, z1, z2, z3]) rfl ⟨_, _, rfl, four_below b1 (by omega) _ _ _ _, HV.nil _ _, HV.nil _ _⟩

end Go.Proofs.Ytolngibmfffjcaa.vers
