/- The program's reader of terms: atom. -/
import Derived.Test.YtgdmhfdlijeogaaReader
namespace Go.Proofs.Ytgdmhfdlijeogaa.reads
set_option linter.unusedVariables false
set_option linter.unusedSimpArgs false
open Go.RowKit Go.Proofs.Ytgdmhfdlijeogaa.base Go.Proofs.Ytgdmhfdlijeogaa.tm Go.Proofs.Ytgdmhfdlijeogaa.lies Go.Proofs.Ytgdmhfdlijeogaa.rights Go.Proofs.Ytgdmhfdlijeogaa.copies Go.Proofs.Ytgdmhfdlijeogaa.numLaws

theorem str_ext {x : ByteArray} {l : List UInt8} (h : x.data.toList = l) : x = ⟨l.toArray⟩ := by subst h; rfl

set_option maxRecDepth 100000 in
theorem atom_any (g b n : Nat) (s : ByteArray) (w : World) (hR : Rdr w g s b) (hs : s.size ≤ maxLen) (hn : n < 18446744073709551616) :
    Calls Try.prog 45 #[.pointer (some ⟨g, 0, none⟩), .int .u64 n] w fun e w' =>
      (4000 < n → e = .returned (.tuple #[.string ⟨#[]⟩, .int .i64 25]) ∧ w = w') ∧ (¬ 4000 < n → s.data.toList.length < n → e = .returned (.tuple #[.string ⟨#[]⟩, .int .i64 20]) ∧ w = w') ∧
      (¬ 4000 < n → ¬ s.data.toList.length < n → ∃ s' : ByteArray, e = .returned (.tuple #[.string ⟨(s.data.toList.take n).toArray⟩, .int .i64 0]) ∧ s'.data.toList = s.data.toList.drop n ∧ s'.size ≤ s.size ∧ w.setCell ⟨g, 0, none⟩ (.string s') = w') := by
  have hg := hR.lt
  have z0 := hR.cell 0
  have f0 := hR.frozen 0
  simp at z0
  have hls : s.data.toList.length = s.size := by simp
  unfold maxLen at hs
  by_cases h1 : 4000 < n
  · refine Calls.mono (R := fun e w' => e = .returned (.tuple #[.string ⟨#[]⟩, .int .i64 25]) ∧ w = w') ?_ fun e w' h => ⟨fun _ => h, fun h' => absurd h1 h', fun h' => absurd h1 h'⟩
    go_enter Try.func45, Try.ntmps45
    go_wp2_with fail
    go_ret2
    exact ⟨rfl, rfl⟩
  · by_cases h2 : s.size < n
    · refine Calls.mono (R := fun e w' => e = .returned (.tuple #[.string ⟨#[]⟩, .int .i64 20]) ∧ w = w') ?_ fun e w' h => ⟨fun h' => absurd h' h1, fun _ _ => h, fun _ h' => absurd (by omega) h'⟩
      clear hls
      go_enter Try.func45, Try.ntmps45
      go_wp2_with fail
      go_ret2
      exact ⟨rfl, rfl⟩
    · have hn4 : n ≤ s.size := by omega
      have e1 : s.extract 0 n = ⟨(s.data.toList.take n).toArray⟩ := str_ext (by simp)
      have HE := lay e1
      refine Calls.mono (R := fun e w' => e = .returned (.tuple #[.string (s.extract 0 n), .int .i64 0]) ∧ w.setCell ⟨g, 0, none⟩ (.string (s.extract n s.size)) = w') ?_ fun e w' h => ⟨fun h' => absurd h' h1, fun _ h' => absurd h' (by omega), fun _ _ => ⟨s.extract n s.size, by rw [← HE.out]; exact h.1, tail_list _ _, tail_size _ _, h.2⟩⟩
      clear hls e1
      go_enter Try.func45, Try.ntmps45
      go_wp2_with fail
      go_ret2
      exact ⟨rfl, rfl⟩
end Go.Proofs.Ytgdmhfdlijeogaa.reads
