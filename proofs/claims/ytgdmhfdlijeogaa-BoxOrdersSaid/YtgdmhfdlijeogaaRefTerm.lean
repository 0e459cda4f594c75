/- The document's own reader of terms: read, by how deep it may go. -/
import Derived.Test.YtgdmhfdlijeogaaRefMore
namespace Go.Proofs.Ytgdmhfdlijeogaa.refReads
set_option linter.unusedVariables false
set_option linter.unusedSimpArgs false
open Go.RowKit Go.Proofs.Ytgdmhfdlijeogaa.base Go.Proofs.Ytgdmhfdlijeogaa.tm Go.Proofs.Ytgdmhfdlijeogaa.lies Go.Proofs.Ytgdmhfdlijeogaa.rights Go.Proofs.Ytgdmhfdlijeogaa.copies Go.Proofs.Ytgdmhfdlijeogaa.built Go.Proofs.Ytgdmhfdlijeogaa.reads Go.Proofs.Ytgdmhfdlijeogaa.numLaws

theorem seven_below' {w w1 : World} (h : Below w.heap.size w w1) (a b c d e f i : Value) : Below w.heap.size w (seven w1 w.heap.size a b c d e f i) :=
  ((((((h.setCell (p := ⟨w.heap.size, 0, none⟩) (Nat.le_refl _) a).setCell (p := ⟨w.heap.size, 1, none⟩) (Nat.le_refl _) b).setCell (p := ⟨w.heap.size, 2, none⟩) (Nat.le_refl _) c).setCell (p := ⟨w.heap.size, 3, none⟩) (Nat.le_refl _) d).setCell (p := ⟨w.heap.size, 4, none⟩) (Nat.le_refl _) e).setCell (p := ⟨w.heap.size, 5, none⟩) (Nat.le_refl _) f).setCell (p := ⟨w.heap.size, 6, none⟩) (Nat.le_refl _) i

set_option maxRecDepth 100000 in
set_option maxHeartbeats 400000 in
theorem read_early (s : ByteArray) (a b : Nat) (z err : Int) (w : World) (hs : s.size ≤ maxLen)
    (he : (4000 ≤ b ∧ err = 23) ∨ (b < 4000 ∧ 12 ≤ z ∧ err = 22) ∨ (b < 4000 ∧ z < 12 ∧ s.size ≤ a ∧ err = 20)) (ha : a ≤ s.size) :
    Calls Try.prog 40 #[.string s, .int .i64 (a : Nat), .int .i64 (b : Nat), .int .i64 z] w fun e w' => e = .returned (got 0 0 ⟨#[]⟩ (.slice none 0 0) 0 0 err) ∧ Below w.heap.size w w' := by
  unfold maxLen at hs
  rcases he with ⟨h1, rfl⟩ | ⟨h1, h2, rfl⟩ | ⟨h1, h2, h3, rfl⟩
  all_goals
    go_enter Try.func40, Try.ntmps40
    go_wp2_with (go_at_call 47; refine (wrong_any _ _).mono ?_; rintro e w1 ⟨rfl, hb1⟩; obtain ⟨hc1, hf1⟩ := bcell hb1)
    have hz1 : w.heap.size < w1.heap.size := by have := hb1.size; simp at this; omega
    refine bodyPost_ret (v := got 0 0 ⟨#[]⟩ (.slice none 0 0) 0 0 _) (by simp [results, Try.results40, go_sem, hc1, hz1]) rfl ⟨rfl, ?_⟩
    exact seven_below' (below_call (Below.refl _ _) hb1) _ _ _ _ _ _ _


theorem ratom_at (s : ByteArray) (a n : Nat) (x b : Int) (w : World) (hx : x = (a : Int)) (hs : s.size ≤ maxLen) (ha : a ≤ s.size) (hn : n < 18446744073709551616) :
    Calls Try.prog 49 #[.string s, got 2 0 ⟨#[]⟩ (.slice none 0 0) x b 0, .int .u64 n] w fun e w' => Below w.heap.size w w' ∧
      (4000 < n → e = .returned (got 0 0 ⟨#[]⟩ (.slice none 0 0) 0 0 25)) ∧ (¬ 4000 < n → s.size - a < n → e = .returned (got 0 0 ⟨#[]⟩ (.slice none 0 0) 0 0 20)) ∧
      (¬ 4000 < n → ¬ s.size - a < n → e = .returned (got 2 0 ⟨((s.data.toList.drop a).take n).toArray⟩ (.slice none 0 0) (a + n : Nat) b 0)) := by
  subst hx; exact ratom_any s a n b w hs ha hn

theorem hd_at (s : ByteArray) (a : Nat) (h : a < s.size) : hd (s.data.toList.drop a) = if s[a].toNat < 1 ∨ 5 < s[a].toNat then .bad 21 else match getL (s.extract (a + 1) s.size).data.toList with
    | .bad e => .bad e
    | .ok n m => .ok s[a].toNat n (s.data.toList.drop (a + 1 + m)) := by
  rw [sevens.drop_cons s a h, hd, tail_list]
  cases getL (s.data.toList.drop (a + 1)) <;> simp [Nat.add_comm, Nat.add_left_comm]

set_option maxRecDepth 100000 in
set_option maxHeartbeats 400000 in
theorem read_kind (s : ByteArray) (a b : Nat) (z : Int) (w : World) (hs : s.size ≤ maxLen) (hb : b < 4000) (hz : z < 12) (ha : a < s.size) (hk : s[a].toNat < 1 ∨ 5 < s[a].toNat) :
    Calls Try.prog 40 #[.string s, .int .i64 (a : Nat), .int .i64 (b : Nat), .int .i64 z] w fun e w' => e = .returned (got 0 0 ⟨#[]⟩ (.slice none 0 0) 0 0 21) ∧ Below w.heap.size w w' := by
  unfold maxLen at hs
  have hkb := byte_lt s[a]
  go_enter Try.func40, Try.ntmps40
  go_wp2_with (go_at_call 47; refine (wrong_any _ _).mono ?_; rintro e w1 ⟨rfl, hb1⟩; obtain ⟨hc1, hf1⟩ := bcell hb1)
  all_goals
    have hz1 : w.heap.size < w1.heap.size := by have := hb1.size; simp at this; omega
    refine bodyPost_ret (v := got 0 0 ⟨#[]⟩ (.slice none 0 0) 0 0 21) (by simp [results, Try.results40, go_sem, hc1, hz1]) rfl ⟨rfl, ?_⟩
    exact seven_below' (below_call (Below.refl _ _) hb1) _ _ _ _ _ _ _

set_option maxRecDepth 100000 in
set_option maxHeartbeats 400000 in
theorem read_bad (s : ByteArray) (a b : Nat) (z err : Int) (w : World) (hs : s.size ≤ maxLen) (hb : b < 4000) (hz : z < 12) (ha : a < s.size) (hk1 : 1 ≤ s[a].toNat) (hk5 : s[a].toNat ≤ 5) (hq : getL (s.extract (a + 1) s.size).data.toList = .bad err) :
    Calls Try.prog 40 #[.string s, .int .i64 (a : Nat), .int .i64 (b : Nat), .int .i64 z] w fun e w' => e = .returned (got 0 0 ⟨#[]⟩ (.slice none 0 0) 0 0 err) ∧ Below w.heap.size w w' := by
  have hts := tail_size s (a + 1)
  have hc := refGetNum_bad hq (by omega)
  have hne0 : (err != 0) = true := by simpa using getL_bad_ne hq
  unfold maxLen at hs
  have hkb := byte_lt s[a]
  clear hq
  go_enter Try.func40, Try.ntmps40
  go_wp2_with (first
    | (go_at_call 48; refine (hc _).mono ?_; rintro e w' ⟨rfl, rfl⟩)
    | (go_at_call 47; refine (wrong_any _ _).mono ?_; rintro e w1 ⟨rfl, hb1⟩; obtain ⟨hc1, hf1⟩ := bcell hb1))
  have hz1 : w.heap.size < w1.heap.size := by have := hb1.size; simp at this; omega
  refine bodyPost_ret (v := got 0 0 ⟨#[]⟩ (.slice none 0 0) 0 0 err) (by simp [results, Try.results40, go_sem, hc1, hz1]) rfl ⟨rfl, ?_⟩
  exact seven_below' (below_call (Below.refl _ _) hb1) _ _ _ _ _ _ _
end Go.Proofs.Ytgdmhfdlijeogaa.refReads
