/- The document's own reader of terms: read at a number, at an atom. -/
import Derived.Test.YtgdmhfdlijeogaaRefTerm
namespace Go.Proofs.Ytgdmhfdlijeogaa.refReads
set_option linter.unusedVariables false
set_option linter.unusedSimpArgs false
open Go.RowKit Go.Proofs.Ytgdmhfdlijeogaa.base Go.Proofs.Ytgdmhfdlijeogaa.tm Go.Proofs.Ytgdmhfdlijeogaa.lies Go.Proofs.Ytgdmhfdlijeogaa.rights Go.Proofs.Ytgdmhfdlijeogaa.copies Go.Proofs.Ytgdmhfdlijeogaa.built Go.Proofs.Ytgdmhfdlijeogaa.reads Go.Proofs.Ytgdmhfdlijeogaa.numLaws

set_option maxRecDepth 100000 in
set_option maxHeartbeats 1000000 in
theorem read_num (s : ByteArray) (a b n m : Nat) (z : Int) (w : World) (hs : s.size ≤ maxLen) (hb : b < 4000) (hz : z < 12) (ha : a < s.size) (hk : s[a].toNat = 1 ∨ s[a].toNat = 3) (hq : getL (s.extract (a + 1) s.size).data.toList = .ok n m) :
    Calls Try.prog 40 #[.string s, .int .i64 (a : Nat), .int .i64 (b : Nat), .int .i64 z] w fun e w' => e = .returned (got s[a].toNat n ⟨#[]⟩ (.slice none 0 0) (a + 1 + m : Nat) (b + 1 : Nat) 0) ∧ Below w.heap.size w w' := by
  have hts := tail_size s (a + 1)
  have hc := refGetNum_ok hq (by omega)
  have hm := getL_len hq
  rw [tail_list, List.length_drop] at hm
  simp at hm
  have hn := (getL_back hq).1
  unfold maxLen at hs
  have hkb := byte_lt s[a]
  clear hq
  obtain ⟨k, hk', HK⟩ : ∃ k : Nat, s[a].toNat = k ∧ Hid (k = 1 ∨ k = 3) := ⟨_, rfl, lay hk⟩
  rw [hk']
  refine Calls.mono (R := fun e w' => e = .returned (got k n ⟨#[]⟩ (.slice none 0 0) ((a : Int) + 1 + (m : Int)) ((b : Int) + 1) 0) ∧ Below w.heap.size w w') ?_ fun e w' h => h
  rcases HK.out with rfl | rfl
  all_goals
    clear HK hk
    go_enter Try.func40, Try.ntmps40
    go_wp2_with (go_at_call 48; refine (hc _).mono ?_; rintro e w' ⟨rfl, rfl⟩)
    refine bodyPost_ret (v := got _ n ⟨#[]⟩ (.slice none 0 0) ((a : Int) + 1 + (m : Int)) ((b : Int) + 1) 0) ?_ rfl ⟨rfl, ?_⟩
    · simp [results, Try.results40, go_sem]
    · exact ((Below.refl _ _).alloc (Nat.le_refl _) _).alloc (by simp) _

set_option maxRecDepth 100000 in
set_option maxHeartbeats 1000000 in
theorem read_atom (s : ByteArray) (a b n m : Nat) (z : Int) (w : World) (hs : s.size ≤ maxLen) (hb : b < 4000) (hz : z < 12) (ha : a < s.size) (hk : s[a].toNat = 2) (hq : getL (s.extract (a + 1) s.size).data.toList = .ok n m) (v : Value)
    (hv : ∀ w, Calls Try.prog 49 #[.string s, got 2 0 ⟨#[]⟩ (.slice none 0 0) ((a : Int) + 1 + (m : Int)) ((b : Int) + 1) 0, .int .u64 n] w fun e w' => e = .returned v ∧ Below w.heap.size w w')
    (hform : ∃ k2 n2 s2 A2 l2 c2 a2 b2 e2, v = got k2 n2 s2 (.slice A2 l2 c2) a2 b2 e2) :
    Calls Try.prog 40 #[.string s, .int .i64 (a : Nat), .int .i64 (b : Nat), .int .i64 z] w fun e w' => e = .returned v ∧ Below w.heap.size w w' := by
  have hts := tail_size s (a + 1)
  have hc := refGetNum_ok hq (by omega)
  have hm := getL_len hq
  rw [tail_list, List.length_drop] at hm
  simp at hm
  have hn := (getL_back hq).1
  unfold maxLen at hs
  obtain ⟨k2, n2, s2, A2, l2, c2, a2, b2, e2, rfl⟩ := hform
  have HV := lay hv
  have hblk := (Blk.new w 61 #[.int .i64 0, .int .u64 0, .string ⟨#[]⟩, .slice none 0 0, .int .i64 0, .int .i64 0, .int .i64 0]).alloc (.cells #[.int .i64 2, .int .u64 0, .string ⟨#[]⟩, .slice none 0 0, .int .i64 ((a : Int) + 1 + (m : Int)), .int .i64 ((b : Int) + 1), .int .i64 0] 61)
  clear hq hv
  go_enter Try.func40, Try.ntmps40
  go_wp2_with (first
    | (go_at_call 48; refine (hc _).mono ?_; rintro e w' ⟨rfl, rfl⟩)
    | (go_at_call 49; refine (HV.out _).mono ?_; rintro e w1 ⟨rfl, hb1⟩; have hz1 : w.heap.size < w1.heap.size := by { have := hb1.size; simp at this; omega }; have hk1 := hblk.below hb1 (by simp; omega); have f0 := hk1.frozen 0; have f1 := hk1.frozen 1; have f2 := hk1.frozen 2; have f3 := hk1.frozen 3; have f4 := hk1.frozen 4; have f5 := hk1.frozen 5; have f6 := hk1.frozen 6; have q0 := hk1.cell 0; have q1 := hk1.cell 1; have q2 := hk1.cell 2; have q3 := hk1.cell 3; have q4 := hk1.cell 4; have q5 := hk1.cell 5; have q6 := hk1.cell 6; simp at q0 q1 q2 q3 q4 q5 q6))
  refine bodyPost_ret (v := got k2 n2 s2 (.slice A2 l2 c2) a2 b2 e2) (by simp [results, Try.results40, go_sem, hz1, q0, q1, q2, q3, q4, q5, q6]) rfl ⟨rfl, ?_⟩
  exact seven_below' ((((Below.refl _ _).alloc (Nat.le_refl _) _).alloc (by simp) _).trans (hb1.mono (by simp; omega))) _ _ _ _ _ _ _

end Go.Proofs.Ytgdmhfdlijeogaa.refReads
