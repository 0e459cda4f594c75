/- The walks of the laws TermNumbers and TermNumbersBack: each answers true and writes nothing that was there. -/
import Derived.Test.YtigebobjjpnnfaaPut
import Derived.Test.YtigebobjjpnnfaaSevensR
import Derived.Deep.RegionHeld3
namespace Go.Proofs.Ytigebobjjpnnfaa.numLaws
open Go.RowKit Go.Proofs.Ytigebobjjpnnfaa.base Go.Proofs.Ytigebobjjpnnfaa.tm Go.Proofs.Ytigebobjjpnnfaa.sevens Go.Proofs.Ytigebobjjpnnfaa.bytes Go.Proofs.Ytigebobjjpnnfaa.put

theorem getNum_ok {s : ByteArray} {n k : Nat} (h : getL s.data.toList = .ok n k) (hs : s.size ≤ maxLen) (w : World) :
    Calls Try.prog 14 #[.string s] w fun e w' => e = .returned (.tuple #[.int .u64 n, .int .i64 k, .int .i64 0]) ∧ w = w' := by
  have := getNum_any s w hs
  rwa [h] at this
theorem getNum_bad {s : ByteArray} {n : Int} (h : getL s.data.toList = .bad n) (hs : s.size ≤ maxLen) (w : World) :
    Calls Try.prog 14 #[.string s] w fun e w' => e = .returned (.tuple #[.int .u64 0, .int .i64 0, .int .i64 n]) ∧ w = w' := by
  have := getNum_any s w hs
  rwa [h] at this
theorem refGetNum_ok {s : ByteArray} {n k : Nat} (h : getL s.data.toList = .ok n k) (hs : s.size ≤ maxLen) (w : World) :
    Calls Try.prog 15 #[.string s] w fun e w' => e = .returned (.tuple #[.int .u64 n, .int .i64 k, .int .i64 0]) ∧ w = w' := by
  have := refGetNum_any s w hs
  rwa [h] at this
theorem refGetNum_bad {s : ByteArray} {n : Int} (h : getL s.data.toList = .bad n) (hs : s.size ≤ maxLen) (w : World) :
    Calls Try.prog 15 #[.string s] w fun e w' => e = .returned (.tuple #[.int .u64 0, .int .i64 0, .int .i64 n]) ∧ w = w' := by
  have := refGetNum_any s w hs
  rwa [h] at this

set_option maxRecDepth 100000 in
theorem numbers_any (n : Nat) (s : ByteArray) (w : World) (hn : n < 18446744073709551616) (hs : s.size ≤ maxLen) :
    Calls Try.prog 3 #[.int .u64 n, .string s] w fun e w' => e = .returned (.bool true) ∧ Below w.heap.size w w' := by
  have hp := putNum_any n w hn
  have hq := fun w => refPutNum_any n w hn
  cases hg : getL s.data.toList with
  | bad e0 =>
    have c1 := getNum_bad hg hs
    have c2 := refGetNum_bad hg hs
    clear hg
    go_enter Try.func3, Try.ntmps3
    go_wp2_with (first
      | (go_at_call 14; refine (c1 _).mono ?_; rintro e w' ⟨rfl, rfl⟩)
      | (go_at_call 15; refine (c2 _).mono ?_; rintro e w' ⟨rfl, rfl⟩)
      | (go_at_call 16; refine hp.mono ?_; rintro e w1 ⟨rfl, hb1⟩)
      | (go_at_call 17; refine (hq _).mono ?_; rintro e w2 ⟨rfl, hb2⟩))
    go_ret
    exact ⟨rfl, hb1.trans (hb2.mono hb1.size)⟩
  | ok n0 k0 =>
    have c1 := getNum_ok hg hs
    have c2 := refGetNum_ok hg hs
    clear hg
    go_enter Try.func3, Try.ntmps3
    go_wp2_with (first
      | (go_at_call 14; refine (c1 _).mono ?_; rintro e w' ⟨rfl, rfl⟩)
      | (go_at_call 15; refine (c2 _).mono ?_; rintro e w' ⟨rfl, rfl⟩)
      | (go_at_call 16; refine hp.mono ?_; rintro e w1 ⟨rfl, hb1⟩)
      | (go_at_call 17; refine (hq _).mono ?_; rintro e w2 ⟨rfl, hb2⟩))
    go_ret
    exact ⟨rfl, hb1.trans (hb2.mono hb1.size)⟩

theorem list_str (l : List UInt8) : (⟨l.toArray⟩ : ByteArray).toList = l := by rw [ByteArray.toList_eq]
theorem cat_list (l : List UInt8) (m : ByteArray) : ((⟨l.toArray⟩ : ByteArray) ++ m).data.toList = l ++ m.data.toList := by simp
theorem cat_size (l : List UInt8) (m : ByteArray) : ((⟨l.toArray⟩ : ByteArray) ++ m).size = l.length + m.size := by rw [ByteArray.size_append]; rfl
theorem cut_list (s : ByteArray) (k : Nat) : (s.extract 0 k).data.toList = s.data.toList.take k := by simp
theorem cut_size (s : ByteArray) (k : Nat) (h : k ≤ s.size) : (s.extract 0 k).size = k := by simp; omega
theorem cut_put {s : ByteArray} {n k : Nat} (h : getL s.data.toList = .ok n k) : s.extract 0 k = ⟨(putL n).toArray⟩ := by
  apply ByteArray.ext
  apply Array.toList_inj.1
  rw [cut_list, (getL_back h).2.2]

set_option maxRecDepth 100000 in
set_option maxHeartbeats 400000 in
theorem back_any (n : Nat) (more : ByteArray) (w : World) (hn : n < 18446744073709551616) (hs : more.size ≤ 140737488351232) :
    Calls Try.prog 4 #[.int .u64 n, .string more] w fun e w' => e = .returned (.bool true) ∧ Below w.heap.size w w' := by
  have hp := putNum_any n w hn
  have hl := putL_ten hn
  have c1 := getNum_ok (s := ⟨(putL n).toArray⟩ ++ more) (by rw [cat_list]; exact getL_put hn _) (by rw [cat_size]; unfold maxLen; omega)
  have c2 := getNum_bad (s := ByteArray.extract ⟨(putL n).toArray⟩ 0 ((putL n).length - 1)) (by rw [cut_list]; exact getL_short hn (by omega)) (by rw [cut_size _ _ (by show _ ≤ (putL n).length; omega)]; unfold maxLen; omega)
  cases hg : getL more.data.toList with
  | bad e0 =>
    have c3 := getNum_bad hg (by unfold maxLen; omega)
    have h0 : e0 ≠ 0 := getL_bad_ne hg
    clear hg
    go_enter Try.func4, Try.ntmps4
    go_wp2_with (go_at_call 16; refine hp.mono ?_; rintro e w1 ⟨rfl, hb1⟩)
    refine (c1 _).mono ?_
    rintro e w' ⟨rfl, rfl⟩
    go_wp2_with fail
    refine (c2 _).mono ?_
    rintro e w' ⟨rfl, rfl⟩
    go_wp2_with fail
    refine (c3 _).mono ?_
    rintro e w' ⟨rfl, rfl⟩
    go_wp2_with fail
    go_ret
    exact ⟨rfl, hb1⟩
  | ok n0 k0 =>
    have c3 := getNum_ok hg (by unfold maxLen; omega)
    have hk := getL_len hg
    have hn0 := (getL_back hg).1
    have hq := fun w => putNum_any n0 w hn0
    have HE : Hid ((putL n0 == (more.extract 0 k0).toList) = true) := lay (by rw [cut_put hg, list_str]; exact beq_self_eq_true _)
    have hks : k0 ≤ more.size := by simpa using hk.2
    have d1 : decide ((1 : Int) ≤ (k0 : Int)) = true := by simp; omega
    have d2 : decide ((k0 : Int) ≤ (more.size : Int)) = true := by simp; omega
    clear hg
    go_enter Try.func4, Try.ntmps4
    go_wp2_with (go_at_call 16; refine hp.mono ?_; rintro e w1 ⟨rfl, hb1⟩)
    refine (c1 _).mono ?_
    rintro e w' ⟨rfl, rfl⟩
    go_wp2_with fail
    refine (c2 _).mono ?_
    rintro e w' ⟨rfl, rfl⟩
    go_wp2_with fail
    refine (c3 _).mono ?_
    rintro e w' ⟨rfl, rfl⟩
    go_wp2_with fail
    go_region_held3 (fun _ => True) (exact trivial) ((go_at_call 16; refine (hq _).mono ?_; rintro e w2 ⟨rfl, hb2⟩))
    go_wp2
    go_ret
    exact ⟨by rw [HE.out]; rfl, hb1.drew.trans (hb2.mono hb1.size)⟩
end Go.Proofs.Ytigebobjjpnnfaa.numLaws
