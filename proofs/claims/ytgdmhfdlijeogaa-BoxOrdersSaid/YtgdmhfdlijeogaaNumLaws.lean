/- The walks of the laws TermNumbers and TermNumbersBack: each answers true and writes nothing that was there. -/
import Derived.Test.YtgdmhfdlijeogaaPut
import Derived.Test.YtgdmhfdlijeogaaSevensR
import Derived.Deep.RegionHeld3
namespace Go.Proofs.Ytgdmhfdlijeogaa.numLaws
set_option linter.unusedVariables false
set_option linter.unusedSimpArgs false
open Go.RowKit Go.Proofs.Ytgdmhfdlijeogaa.base Go.Proofs.Ytgdmhfdlijeogaa.tm Go.Proofs.Ytgdmhfdlijeogaa.sevens Go.Proofs.Ytgdmhfdlijeogaa.bytes Go.Proofs.Ytgdmhfdlijeogaa.put

theorem getNum_ok {s : ByteArray} {n k : Nat} (h : getL s.data.toList = .ok n k) (hs : s.size ≤ maxLen) (w : World) :
    Calls Try.prog 51 #[.string s] w fun e w' => e = .returned (.tuple #[.int .u64 n, .int .i64 k, .int .i64 0]) ∧ w = w' := by
  have := getNum_any s w hs
  rwa [h] at this
theorem getNum_bad {s : ByteArray} {n : Int} (h : getL s.data.toList = .bad n) (hs : s.size ≤ maxLen) (w : World) :
    Calls Try.prog 51 #[.string s] w fun e w' => e = .returned (.tuple #[.int .u64 0, .int .i64 0, .int .i64 n]) ∧ w = w' := by
  have := getNum_any s w hs
  rwa [h] at this
theorem refGetNum_ok {s : ByteArray} {n k : Nat} (h : getL s.data.toList = .ok n k) (hs : s.size ≤ maxLen) (w : World) :
    Calls Try.prog 48 #[.string s] w fun e w' => e = .returned (.tuple #[.int .u64 n, .int .i64 k, .int .i64 0]) ∧ w = w' := by
  have := refGetNum_any s w hs
  rwa [h] at this
theorem refGetNum_bad {s : ByteArray} {n : Int} (h : getL s.data.toList = .bad n) (hs : s.size ≤ maxLen) (w : World) :
    Calls Try.prog 48 #[.string s] w fun e w' => e = .returned (.tuple #[.int .u64 0, .int .i64 0, .int .i64 n]) ∧ w = w' := by
  have := refGetNum_any s w hs
  rwa [h] at this

theorem list_str (l : List UInt8) : (⟨l.toArray⟩ : ByteArray).toList = l := by rw [ByteArray.toList_eq]
theorem cat_list (l : List UInt8) (m : ByteArray) : ((⟨l.toArray⟩ : ByteArray) ++ m).data.toList = l ++ m.data.toList := by simp
theorem cat_size (l : List UInt8) (m : ByteArray) : ((⟨l.toArray⟩ : ByteArray) ++ m).size = l.length + m.size := by rw [ByteArray.size_append]; rfl
theorem cut_list (s : ByteArray) (k : Nat) : (s.extract 0 k).data.toList = s.data.toList.take k := by simp
theorem cut_size (s : ByteArray) (k : Nat) (h : k ≤ s.size) : (s.extract 0 k).size = k := by simp; omega
theorem cut_put {s : ByteArray} {n k : Nat} (h : getL s.data.toList = .ok n k) : s.extract 0 k = ⟨(putL n).toArray⟩ := by
  apply ByteArray.ext
  apply Array.toList_inj.1
  rw [cut_list, (getL_back h).2.2]

end Go.Proofs.Ytgdmhfdlijeogaa.numLaws
