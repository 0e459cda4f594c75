/- The document's own reader of terms: wrong, atom. -/
import Derived.Test.YtgdmhfdlijeogaaTerms
import Derived.Test.YtgdmhfdlijeogaaDecode
import Derived.WalkSpells
namespace Go.Proofs.Ytgdmhfdlijeogaa.refReads
set_option linter.unusedVariables false
set_option linter.unusedSimpArgs false
open Go.RowKit Go.Proofs.Ytgdmhfdlijeogaa.base Go.Proofs.Ytgdmhfdlijeogaa.tm Go.Proofs.Ytgdmhfdlijeogaa.lies Go.Proofs.Ytgdmhfdlijeogaa.rights Go.Proofs.Ytgdmhfdlijeogaa.copies Go.Proofs.Ytgdmhfdlijeogaa.built Go.Proofs.Ytgdmhfdlijeogaa.reads

set_option maxRecDepth 100000 in
theorem wrong_any (err : Int) (w : World) :
    Calls Try.prog 47 #[.int .i64 err] w fun e w' => e = .returned (.agg #[.int .i64 0, .int .u64 0, .string ⟨#[]⟩, .slice none 0 0, .int .i64 0, .int .i64 0, .int .i64 err]) ∧ Below w.heap.size w w' := by
  go_enter Try.func47, Try.ntmps47
  go_wp2
  refine bodyPost_ret (v := .agg #[.int .i64 0, .int .u64 0, .string ⟨#[]⟩, .slice none 0 0, .int .i64 0, .int .i64 0, .int .i64 err]) (by simp [results, Try.results47, go_sem]) rfl ⟨rfl, ?_⟩
  exact (Below.refl _ _).alloc (Nat.le_refl _) _

theorem below_own {w w2 : World} {o o' : Obj} (hb : Below ((w.alloc o).alloc o').heap.size ((w.alloc o).alloc o') w2) : Below w.heap.size w w2 :=
  (((Below.refl _ _).alloc (Nat.le_refl _) o).alloc (by simp) o').trans (hb.mono (by simp; omega))
def seven (w : World) (g : Nat) (a b c d e f i : Value) : World := ((((((w.setCell ⟨g, 0, none⟩ a).setCell ⟨g, 1, none⟩ b).setCell ⟨g, 2, none⟩ c).setCell ⟨g, 3, none⟩ d).setCell ⟨g, 4, none⟩ e).setCell ⟨g, 5, none⟩ f).setCell ⟨g, 6, none⟩ i
theorem seven_below {w w1 : World} (h : Below w.heap.size w w1) (a b c d e f i : Value) : Below w.heap.size w (seven w1 (w.heap.size + 1) a b c d e f i) :=
  ((((((h.setCell (p := ⟨w.heap.size + 1, 0, none⟩) (Nat.le_succ _) a).setCell (p := ⟨w.heap.size + 1, 1, none⟩) (Nat.le_succ _) b).setCell (p := ⟨w.heap.size + 1, 2, none⟩) (Nat.le_succ _) c).setCell (p := ⟨w.heap.size + 1, 3, none⟩) (Nat.le_succ _) d).setCell (p := ⟨w.heap.size + 1, 4, none⟩) (Nat.le_succ _) e).setCell (p := ⟨w.heap.size + 1, 5, none⟩) (Nat.le_succ _) f).setCell (p := ⟨w.heap.size + 1, 6, none⟩) (Nat.le_succ _) i

/-- what was read, as a value -/
abbrev got (k n : Int) (z : ByteArray) (v : Value) (a b e : Int) : Value := .agg #[.int .i64 k, .int .u64 n, .string z, v, .int .i64 a, .int .i64 b, .int .i64 e]

set_option maxRecDepth 100000 in
set_option maxHeartbeats 400000 in
theorem ratom_any (s : ByteArray) (a n : Nat) (b : Int) (w : World) (hs : s.size ≤ maxLen) (ha : a ≤ s.size) (hn : n < 18446744073709551616) :
    Calls Try.prog 49 #[.string s, got 2 0 ⟨#[]⟩ (.slice none 0 0) a b 0, .int .u64 n] w fun e w' => Below w.heap.size w w' ∧
      (4000 < n → e = .returned (got 0 0 ⟨#[]⟩ (.slice none 0 0) 0 0 25)) ∧ (¬ 4000 < n → s.size - a < n → e = .returned (got 0 0 ⟨#[]⟩ (.slice none 0 0) 0 0 20)) ∧
      (¬ 4000 < n → ¬ s.size - a < n → e = .returned (got 2 0 ⟨((s.data.toList.drop a).take n).toArray⟩ (.slice none 0 0) (a + n : Nat) b 0)) := by
  unfold maxLen at hs
  by_cases h1 : 4000 < n
  · refine Calls.mono (R := fun e w' => e = .returned (got 0 0 ⟨#[]⟩ (.slice none 0 0) 0 0 25) ∧ Below w.heap.size w w') ?_ fun e w' h => ⟨h.2, fun _ => h.1, fun h' => absurd h1 h', fun h' => absurd h1 h'⟩
    go_enter Try.func49, Try.ntmps49
    go_wp2_with (go_at_call 47; refine (wrong_any 25 _).mono ?_; rintro e w1 ⟨rfl, hb1⟩; obtain ⟨hc1, hf1⟩ := bcell hb1)
    refine bodyPost_ret (v := got 0 0 ⟨#[]⟩ (.slice none 0 0) 0 0 25) (by simp [results, Try.results49, go_sem, hc1]) rfl ⟨rfl, ?_⟩
    exact seven_below (below_own hb1) _ _ _ _ _ _ _
  · by_cases h2 : s.size - a < n
    · have hi : (s.size : Int) - (a : Int) < (n : Int) := by omega
      refine Calls.mono (R := fun e w' => e = .returned (got 0 0 ⟨#[]⟩ (.slice none 0 0) 0 0 20) ∧ Below w.heap.size w w') ?_ fun e w' h => ⟨h.2, fun h' => absurd h' h1, fun _ _ => h.1, fun _ h' => absurd h2 h'⟩
      go_enter Try.func49, Try.ntmps49
      go_wp2_with (go_at_call 47; refine (wrong_any 20 _).mono ?_; rintro e w1 ⟨rfl, hb1⟩; obtain ⟨hc1, hf1⟩ := bcell hb1)
      refine bodyPost_ret (v := got 0 0 ⟨#[]⟩ (.slice none 0 0) 0 0 20) (by simp [results, Try.results49, go_sem, hc1]) rfl ⟨rfl, ?_⟩
      exact seven_below (below_own hb1) _ _ _ _ _ _ _
    · have hi : ¬ (s.size : Int) - (a : Int) < (n : Int) := by omega
      have hi2 : (n : Int) ≤ (s.size : Int) - (a : Int) := by omega
      have han : a + n ≤ s.size := by omega
      have han1 : (a : Int) + (n : Int) ≤ (s.size : Int) := by omega
      have han2 : (a : Int) ≤ (a : Int) + (n : Int) := by omega
      have HE := lay (show s.extract a (a + n) = ⟨((s.data.toList.drop a).take n).toArray⟩ from str_ext (by simp))
      refine Calls.mono (R := fun e w' => e = .returned (got 2 0 (s.extract a (a + n)) (.slice none 0 0) (a + n : Nat) b 0) ∧ Below w.heap.size w w') ?_ fun e w' h => ⟨h.2, fun h' => absurd h' h1, fun _ h' => absurd h' h2, fun _ _ => by rw [← HE.out]; exact h.1⟩
      go_enter Try.func49, Try.ntmps49
      go_wp2_with fail
      refine bodyPost_ret (v := got 2 0 (s.extract a (a + n)) (.slice none 0 0) (a + n : Nat) b 0) (by simp [results, Try.results49, go_sem]) rfl ⟨rfl, ?_⟩
      exact ((Below.refl _ _).alloc (Nat.le_refl _) _).alloc (by simp) _
end Go.Proofs.Ytgdmhfdlijeogaa.refReads
