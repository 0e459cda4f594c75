/- The program's reader of terms: head and atom. -/
import Derived.Test.YtgdmhfdlijeogaaCopied
import Derived.Test.YtgdmhfdlijeogaaNumLaws
namespace Go.Proofs.Ytgdmhfdlijeogaa.reads
set_option linter.unusedVariables false
set_option linter.unusedSimpArgs false
open Go.RowKit Go.Proofs.Ytgdmhfdlijeogaa.base Go.Proofs.Ytgdmhfdlijeogaa.tm Go.Proofs.Ytgdmhfdlijeogaa.lies Go.Proofs.Ytgdmhfdlijeogaa.rights Go.Proofs.Ytgdmhfdlijeogaa.copies Go.Proofs.Ytgdmhfdlijeogaa.numLaws

/-- the reader at block g -/
def Rdr (w : World) (g : Nat) (s : ByteArray) (b : Nat) : Prop := Blk w g 58 #[.string s, .int .i64 b]

theorem tail_list (s : ByteArray) (k : Nat) : (s.extract k s.size).data.toList = s.data.toList.drop k := by
  simp
  exact List.take_of_length_le (by simp)
theorem tail_size (s : ByteArray) (k : Nat) : (s.extract k s.size).size ≤ s.size := by simp
theorem nonempty {s : ByteArray} {k : UInt8} {r : List UInt8} (h : s.data.toList = k :: r) : 0 < s.size ∧ s.toList.isEmpty = false := by
  have h1 := congrArg List.length h
  have h2 : s.data.toList.length = s.size := by simp
  rw [tm.toList_eq, h]
  simp at h1
  exact ⟨by omega, rfl⟩

set_option maxRecDepth 100000 in
theorem head_any (g b : Nat) (s : ByteArray) (w : World) (hR : Rdr w g s b) (hs : s.size ≤ maxLen) :
    Calls Try.prog 44 #[.pointer (some ⟨g, 0, none⟩)] w fun e w' => match hd s.data.toList with
      | .bad err => e = .returned (.tuple #[.int .i64 0, .int .u64 0, .int .i64 err]) ∧ w = w'
      | .ok k n r => ∃ s' : ByteArray, e = .returned (.tuple #[.int .i64 k, .int .u64 n, .int .i64 0]) ∧ s'.data.toList = r ∧ s'.size ≤ s.size ∧ w.setCell ⟨g, 0, none⟩ (.string s') = w' := by
  have hg := hR.lt
  have z0 := hR.cell 0
  have f0 := hR.frozen 0
  simp at z0
  match hL : s.data.toList with
  | [] =>
    have he : s.toList = [] := by rw [tm.toList_eq, hL]
    simp only [hd]
    clear hL
    go_enter Try.func44, Try.ntmps44
    go_wp2_with fail
    go_ret3
    exact ⟨rfl, rfl⟩
  | k :: r =>
    have he := nonempty hL
    obtain ⟨hpos, hne⟩ := he
    have hk0 : s[0] = k := by
      have := congrArg (fun l : List UInt8 => l[0]?) hL
      simp at this
      rw [Array.getElem?_eq_getElem (by exact hpos)] at this
      simp only [Option.some.injEq] at this
      exact this
    have hkb := byte_lt k
    unfold maxLen at hs
    by_cases hk : k.toNat < 1 ∨ 5 < k.toNat
    · have HH : Hid (hd (k :: r) = .bad 21) := lay (by simp only [hd]; rw [if_pos hk])
      rw [HH.out]
      go_enter Try.func44, Try.ntmps44
      go_wp2_with fail
      all_goals
        go_ret3
        exact ⟨rfl, rfl⟩
    · have hk1 : 1 ≤ k.toNat := by omega
      have hk5 : k.toNat ≤ 5 := by omega
      have hkk := lay hk
      clear hk
      have ht : (s.extract 1 s.size).data.toList = r := by rw [tail_list, hL]; rfl
      have hts := tail_size s 1
      have hlen : r.length + 1 = s.size := by
        have := congrArg List.length hL
        simp at this
        omega
      cases hq : getL r with
      | bad err =>
        have HH : Hid (hd (k :: r) = .bad err) := lay (by simp only [hd]; rw [if_neg hkk.out, hq])
        have hc := getNum_bad (s := s.extract 1 s.size) (by rw [ht]; exact hq) (by unfold maxLen; omega)
        have hne0 : (err != 0) = true := by simpa using getL_bad_ne hq
        rw [HH.out]
        clear hq ht hL
        go_enter Try.func44, Try.ntmps44
        go_wp2_with (go_at_call 51; refine (hc _).mono ?_; rintro e w' ⟨rfl, rfl⟩)
        go_ret3
        exact ⟨rfl, rfl⟩
      | ok n m =>
        have HH : Hid (hd (k :: r) = .ok k.toNat n (r.drop m)) := lay (by simp only [hd]; rw [if_neg hkk.out, hq])
        have hc := getNum_ok (s := s.extract 1 s.size) (by rw [ht]; exact hq) (by unfold maxLen; omega)
        have hm := getL_len hq
        have HD : Hid ((s.extract (1 + m) s.size).data.toList = r.drop m) := lay (by rw [tail_list, hL, Nat.add_comm]; rfl)
        rw [HH.out]
        have hm2 : 1 + m ≤ s.size := by omega
        clear hq ht hL hlen
        go_enter Try.func44, Try.ntmps44
        go_wp2_with (go_at_call 51; refine (hc _).mono ?_; rintro e w' ⟨rfl, rfl⟩)
        go_ret3
        exact ⟨s.extract (1 + m) s.size, rfl, HD.out, tail_size _ _, rfl⟩
end Go.Proofs.Ytgdmhfdlijeogaa.reads
