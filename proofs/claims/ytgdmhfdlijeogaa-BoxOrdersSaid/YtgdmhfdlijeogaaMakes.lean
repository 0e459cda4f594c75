/- Of, Num, Key, Atom; the walk of the law TermMakes. -/
import Derived.Test.YtgdmhfdlijeogaaCopied
namespace Go.Proofs.Ytgdmhfdlijeogaa.makes
set_option linter.unusedVariables false
set_option linter.unusedSimpArgs false
open Go.RowKit Go.Proofs.Ytgdmhfdlijeogaa.base Go.Proofs.Ytgdmhfdlijeogaa.tm Go.Proofs.Ytgdmhfdlijeogaa.lies Go.Proofs.Ytgdmhfdlijeogaa.rights Go.Proofs.Ytgdmhfdlijeogaa.likes Go.Proofs.Ytgdmhfdlijeogaa.copies

/-- a slice of terms that lies below block B -/
def LiesS (w : World) (B : Nat) (l : List T) (A : Option Addr) (c : Nat) : Prop := ∃ xs, l.length ≤ c ∧ l.length * 56 ≤ 140737488355328 ∧ Rd w B A xs ∧ LiesL w B l xs

set_option maxRecDepth 100000 in
theorem of_any (l : List T) (A : Option Addr) (c B : Nat) (w : World) (h : LiesS w B l A c) (hB : B ≤ w.heap.size) :
    Calls Try.prog 22 #[.slice A l.length c] w fun e w' => ∃ A' c', e = .returned (.agg #[.int .i64 5, .int .u64 0, .string ⟨#[]⟩, .slice A' l.length c']) ∧ Held w' w.heap.size w'.heap.size l (.slice A' l.length c') ∧ Below w.heap.size w w' := by
  obtain ⟨xs, h1, h2, h3, h4⟩ := h
  have hcall := copied_any (sizeL l) l A c xs B (w.alloc (.cells #[.int .i64 0, .int .u64 0, .string ⟨#[]⟩, .slice none 0 0] 25)) (Nat.le_refl _) h1 h2 (h3.alloc hB _) (LiesL.keep (fun p hp => World.cell?_alloc_lt w _ p (by omega)) _ _ h4) (by simp; omega)
  have hbk := Blk.new w 25 #[.int .i64 0, .int .u64 0, .string ⟨#[]⟩, .slice none 0 0]
  go_enter Try.func22, Try.ntmps22
  go_wp2_with (go_at_call 33; refine hcall.mono ?_; rintro e w1 ⟨v, rfl, hh0, hb⟩; have hh := hh0; obtain ⟨A2, c2, rfl, _⟩ := hh0; have hk := hbk.below hb (by simp); have z0 := hk.cell 0; have z1 := hk.cell 1; have z2 := hk.cell 2; have z3 := hk.cell 3; simp at z0 z1 z2 z3; have f0 := hk.frozen 0; have f1 := hk.frozen 1; have f2 := hk.frozen 2; have f3 := hk.frozen 3)
  refine bodyPost_ret (v := .agg #[.int .i64 5, .int .u64 0, .string ⟨#[]⟩, .slice A2 l.length c2]) (by simp [results, Try.results22, go_sem, z0, z1, z2, z3]) rfl ⟨A2, c2, rfl, ?_, ?_⟩
  · refine hh.move (by simp) (by simp) fun p p1 p2 => ?_
    rw [World.size_alloc] at p1
    exact four_cell w1 w.heap.size 0 _ _ _ _ p (by omega)
  · exact four_below ((below_call (Below.refl _ _) hb)) (Nat.le_refl _) _ _ _ _

theorem below_call2 {w w1 w2 : World} (hb1 : Below w.heap.size w w1) {o o' : Obj} (h2 : Below ((w1.alloc o).alloc o').heap.size ((w1.alloc o).alloc o') w2) : Below w.heap.size w w2 :=
  ((hb1.alloc hb1.size o).alloc (by have := hb1.size; simp; omega) o').trans (h2.mono (by have := hb1.size; simp; omega))
/-- a term without a list lies everywhere -/
theorem lies_bare (w : World) (B : Nat) (k n : Int) (s : ByteArray) (h1 : -9223372036854775808 ≤ k ∧ k ≤ 9223372036854775807) (h2 : 0 ≤ n ∧ n < 18446744073709551616) (h3 : s.size ≤ maxLen) : Lies w B (.mk k n s []) (.slice none 0 0) :=
  Lies.mk (t := .mk k n s []) h1 h2 h3 (Nat.le_refl _) (by show 0 * 56 ≤ 140737488355328; omega) (Rd.nil w B none) rfl

end Go.Proofs.Ytgdmhfdlijeogaa.makes
