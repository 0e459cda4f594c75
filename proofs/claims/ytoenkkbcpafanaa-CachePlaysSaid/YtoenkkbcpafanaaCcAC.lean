/- The document's cache: New, Like. -/
import Derived.Test.YtoenkkbcpafanaaCcAB


namespace Go.Proofs.Ytoenkkbcpafanaa.caches
set_option linter.unusedVariables false
set_option linter.unusedSimpArgs false
open Go.RowKit Go.Proofs.Ytoenkkbcpafanaa.base Go.Proofs.Ytoenkkbcpafanaa.vers Go.Proofs.Ytoenkkbcpafanaa.nodes Go.Proofs.Ytoenkkbcpafanaa.trees

section
variable {A : Option Addr} {c : Nat} {w w' w9 : World} {rp room f m f' m' : Nat} {F G : Nat → Prop} {v v' : Value} {l l' : List H}
theorem Rf.made (w : World) {n : Nat} (hn : n ≤ 32) : Rf (w.alloc (.cells #[.int .i64 (n : Int), .slice none 0 0, .int .i64 0, .int .i64 0] 100)) w.heap.size (fun b => w.heap.size ≤ b ∧ b < w.heap.size + 1) n 0 0 (.slice none 0 0) [] :=
  ⟨Blk.new w _ _, ⟨rfl, .inl ⟨rfl, rfl⟩⟩, fun b hb => by simpa using hb.2, ⟨Nat.le_refl _, Nat.lt_succ_self _⟩, fun b hb => by simp [Value.ownBlock] at hb, fun x hx => (by cases hx), Nat.zero_le _, hn⟩

set_option maxRecDepth 100000 in
set_option maxHeartbeats 16000000 in
theorem newR_ok (n : Nat) (hn : n ≤ 32) (w : World) :
    Calls Try.prog 32 #[.int .i64 (n : Int)] w fun e w' => ∃ rp, e = .returned (.tuple #[.pointer (some ⟨rp, 0, none⟩), .bool true]) ∧ Below w.heap.size w w' ∧ Rf w' rp (fun b => w.heap.size ≤ b ∧ b < w'.heap.size) n 0 0 (.slice none 0 0) [] := by
  have d1 : decide (0 ≤ (n : Int)) = true := decide_eq_true (by omega)
  have d2 : decide ((n : Int) ≤ 32) = true := decide_eq_true (by omega)
  have HM := vers.lay (Rf.made w hn)
  have HB := vers.lay (show Below w.heap.size w (w.alloc (.cells #[.int .i64 (n : Int), .slice none 0 0, .int .i64 0, .int .i64 0] 100)) from (Below.refl _ _).alloc (Nat.le_refl _) _)
  go_enter Try.func32, Try.ntmps32
  go_wp2_with fail
  refine bodyPost_ret (v := .tuple #[.pointer (some ⟨w.heap.size, 0, none⟩), .bool true]) (by simp [results, Try.results32, go_sem]) rfl ⟨_, rfl, HB.out, by simpa using HM.out⟩

end
end Go.Proofs.Ytoenkkbcpafanaa.caches
