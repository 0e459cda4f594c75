/- The document's own reader of terms: read at a box, at a row. -/
import Derived.Test.YtgdmhfdlijeogaaRefTermB
namespace Go.Proofs.Ytgdmhfdlijeogaa.refReads
set_option linter.unusedVariables false
set_option linter.unusedSimpArgs false
open Go.RowKit Go.Proofs.Ytgdmhfdlijeogaa.base Go.Proofs.Ytgdmhfdlijeogaa.tm Go.Proofs.Ytgdmhfdlijeogaa.lies Go.Proofs.Ytgdmhfdlijeogaa.rights Go.Proofs.Ytgdmhfdlijeogaa.copies Go.Proofs.Ytgdmhfdlijeogaa.built Go.Proofs.Ytgdmhfdlijeogaa.reads Go.Proofs.Ytgdmhfdlijeogaa.numLaws

/-- what more leaves, by what it says -/
def NVal (s : ByteArray) (k n : Int) (b : Nat) (r : Res (List T)) (W w' : World) (v : Value) : Prop :=
  match r with
  | .bad err => err ≠ 0 ∧ v = got 0 0 ⟨#[]⟩ (.slice none 0 0) 0 0 err
  | .ok l r b' => ∃ (A : Option Addr) (c a' : Nat), v = got k n ⟨#[]⟩ (.slice A l.length c) (a' : Nat) (b' : Nat) 0 ∧ a' ≤ s.size ∧ s.data.toList.drop a' = r ∧ b ≤ b' ∧ b' ≤ 4000 ∧ Held w' W.heap.size w'.heap.size l (.slice A l.length c)
theorem nval {s : ByteArray} {k n : Int} {b : Nat} {r : Res (List T)} {W w' : World} {e : Ending} (h : NPost W s k n b r e w') :
    ∃ k2 n2 s2 A2 l2 c2 a2 b2 e2, e = .returned (got k2 n2 s2 (.slice A2 l2 c2) a2 b2 e2) ∧ Below W.heap.size W w' ∧ NVal s k n b r W w' (got k2 n2 s2 (.slice A2 l2 c2) a2 b2 e2) := by
  cases r with
  | bad err => obtain ⟨h1, h2, rfl⟩ := h; exact ⟨_, _, _, _, _, _, _, _, _, rfl, h1, h2, rfl⟩
  | ok l r b' => obtain ⟨h1, A, c, a', rfl, h2, h3, h4, h5, h6⟩ := h; exact ⟨_, _, _, _, _, _, _, _, _, rfl, h1, A, c, a', rfl, h2, h3, h4, h5, h6⟩

set_option maxRecDepth 100000 in
set_option maxHeartbeats 1000000 in
theorem read_box (s : ByteArray) (a b n m : Nat) (z : Int) (w : World) (hs : s.size ≤ maxLen) (hb : b < 4000) (hz : z < 12) (ha : a < s.size) (hk : s[a].toNat = 4) (hq : getL (s.extract (a + 1) s.size).data.toList = .ok n m) (P : World → World → Value → Prop)
    (hv : ∀ w, Calls Try.prog 50 #[.string s, got 4 n ⟨#[]⟩ (.slice none 0 0) ((a : Int) + 1 + (m : Int)) ((b : Int) + 1) 0, .int .u64 1, .int .i64 z] w fun e w' => ∃ k2 n2 s2 A2 l2 c2 a2 b2 e2, e = .returned (got k2 n2 s2 (.slice A2 l2 c2) a2 b2 e2) ∧ Below w.heap.size w w' ∧ P w w' (got k2 n2 s2 (.slice A2 l2 c2) a2 b2 e2)) :
    Calls Try.prog 40 #[.string s, .int .i64 (a : Nat), .int .i64 (b : Nat), .int .i64 z] w fun e w' => ∃ v W w1 c0 c1 c2 c3 c4 c5 c6, e = .returned v ∧ Below w.heap.size w w' ∧ P W w1 v ∧ w' = seven w1 w.heap.size c0 c1 c2 c3 c4 c5 c6 ∧ w.heap.size < W.heap.size := by
  have hts := tail_size s (a + 1)
  have hc := refGetNum_ok hq (by omega)
  have hm := getL_len hq
  rw [tail_list, List.length_drop] at hm
  simp at hm
  have hn := (getL_back hq).1
  unfold maxLen at hs
  have HV := lay hv
  have hblk := (Blk.new w 61 #[.int .i64 0, .int .u64 0, .string ⟨#[]⟩, .slice none 0 0, .int .i64 0, .int .i64 0, .int .i64 0]).alloc (.cells #[.int .i64 4, .int .u64 n, .string ⟨#[]⟩, .slice none 0 0, .int .i64 ((a : Int) + 1 + (m : Int)), .int .i64 ((b : Int) + 1), .int .i64 0] 61)
  clear hq hv
  go_enter Try.func40, Try.ntmps40
  go_wp2_with (first
    | (go_at_call 48; refine (hc _).mono ?_; rintro e w' ⟨rfl, rfl⟩)
    | (go_at_call 50; refine (HV.out _).mono ?_; rintro e w1 ⟨k2, n2, s2, A2, l2, c2, a2, b2, e2, rfl, hb1, hP⟩; have HP := lay hP; clear hP; have hz1 : w.heap.size < w1.heap.size := by { have := hb1.size; simp at this; omega }; have hk1 := hblk.below hb1 (by simp; omega); have f0 := hk1.frozen 0; have f1 := hk1.frozen 1; have f2 := hk1.frozen 2; have f3 := hk1.frozen 3; have f4 := hk1.frozen 4; have f5 := hk1.frozen 5; have f6 := hk1.frozen 6; have q0 := hk1.cell 0; have q1 := hk1.cell 1; have q2 := hk1.cell 2; have q3 := hk1.cell 3; have q4 := hk1.cell 4; have q5 := hk1.cell 5; have q6 := hk1.cell 6; simp at q0 q1 q2 q3 q4 q5 q6))
  refine bodyPost_ret (v := got k2 n2 s2 (.slice A2 l2 c2) a2 b2 e2) (by simp [results, Try.results40, go_sem, hz1, q0, q1, q2, q3, q4, q5, q6]) rfl ⟨_, _, w1, _, _, _, _, _, _, _, rfl, ?_, HP.out, rfl, by simp; omega⟩
  exact seven_below' ((((Below.refl _ _).alloc (Nat.le_refl _) _).alloc (by simp) _).trans (hb1.mono (by simp; omega))) _ _ _ _ _ _ _

set_option maxRecDepth 100000 in
set_option maxHeartbeats 1000000 in
theorem read_row (s : ByteArray) (a b n m : Nat) (z : Int) (w : World) (hs : s.size ≤ maxLen) (hb : b < 4000) (hz : z < 12) (ha : a < s.size) (hk : s[a].toNat = 5) (hq : getL (s.extract (a + 1) s.size).data.toList = .ok n m) (P : World → World → Value → Prop)
    (hv : ∀ w, Calls Try.prog 50 #[.string s, got 5 0 ⟨#[]⟩ (.slice none 0 0) ((a : Int) + 1 + (m : Int)) ((b : Int) + 1) 0, .int .u64 n, .int .i64 z] w fun e w' => ∃ k2 n2 s2 A2 l2 c2 a2 b2 e2, e = .returned (got k2 n2 s2 (.slice A2 l2 c2) a2 b2 e2) ∧ Below w.heap.size w w' ∧ P w w' (got k2 n2 s2 (.slice A2 l2 c2) a2 b2 e2)) :
    Calls Try.prog 40 #[.string s, .int .i64 (a : Nat), .int .i64 (b : Nat), .int .i64 z] w fun e w' => ∃ v W w1 c0 c1 c2 c3 c4 c5 c6, e = .returned v ∧ Below w.heap.size w w' ∧ P W w1 v ∧ w' = seven w1 w.heap.size c0 c1 c2 c3 c4 c5 c6 ∧ w.heap.size < W.heap.size := by
  have hts := tail_size s (a + 1)
  have hc := refGetNum_ok hq (by omega)
  have hm := getL_len hq
  rw [tail_list, List.length_drop] at hm
  simp at hm
  have hn := (getL_back hq).1
  unfold maxLen at hs
  have HV := lay hv
  have hblk := (Blk.new w 61 #[.int .i64 0, .int .u64 0, .string ⟨#[]⟩, .slice none 0 0, .int .i64 0, .int .i64 0, .int .i64 0]).alloc (.cells #[.int .i64 5, .int .u64 0, .string ⟨#[]⟩, .slice none 0 0, .int .i64 ((a : Int) + 1 + (m : Int)), .int .i64 ((b : Int) + 1), .int .i64 0] 61)
  clear hq hv
  go_enter Try.func40, Try.ntmps40
  go_wp2_with (first
    | (go_at_call 48; refine (hc _).mono ?_; rintro e w' ⟨rfl, rfl⟩)
    | (go_at_call 50; refine (HV.out _).mono ?_; rintro e w1 ⟨k2, n2, s2, A2, l2, c2, a2, b2, e2, rfl, hb1, hP⟩; have HP := lay hP; clear hP; have hz1 : w.heap.size < w1.heap.size := by { have := hb1.size; simp at this; omega }; have hk1 := hblk.below hb1 (by simp; omega); have f0 := hk1.frozen 0; have f1 := hk1.frozen 1; have f2 := hk1.frozen 2; have f3 := hk1.frozen 3; have f4 := hk1.frozen 4; have f5 := hk1.frozen 5; have f6 := hk1.frozen 6; have q0 := hk1.cell 0; have q1 := hk1.cell 1; have q2 := hk1.cell 2; have q3 := hk1.cell 3; have q4 := hk1.cell 4; have q5 := hk1.cell 5; have q6 := hk1.cell 6; simp at q0 q1 q2 q3 q4 q5 q6))
  refine bodyPost_ret (v := got k2 n2 s2 (.slice A2 l2 c2) a2 b2 e2) (by simp [results, Try.results40, go_sem, hz1, q0, q1, q2, q3, q4, q5, q6]) rfl ⟨_, _, w1, _, _, _, _, _, _, _, rfl, ?_, HP.out, rfl, by simp; omega⟩
  exact seven_below' ((((Below.refl _ _).alloc (Nat.le_refl _) _).alloc (by simp) _).trans (hb1.mono (by simp; omega))) _ _ _ _ _ _ _
end Go.Proofs.Ytgdmhfdlijeogaa.refReads
