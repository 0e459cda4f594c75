/- Quotas: a quota in a box of the call's own; whether it may be, the program's and the document's. -/
import Derived.Test.YtoenkkbcpafanaaA00
import Derived.Test.YtoenkkbcpafanaaProg
import Derived.Below
import Derived.IntWalk
import Derived.Lib.Hide
import Derived.BigQuiet
import Derived.Deep.QuietTactic


namespace Go.Proofs.Ytoenkkbcpafanaa.quotas
set_option linter.unusedVariables false
set_option linter.unusedSimpArgs false
open Go.RowKit Go.Proofs.Ytoenkkbcpafanaa.base

/-- behind the call's beginning: block g holds this quota, all that was there is as it was -/
def In7 (w0 : World) (g : Nat) (a b c d e f h : Int) (w : World) : Prop :=
  (w.cell? ⟨g, 0, none⟩ = some (.int .i64 a) ∧ w.cell? ⟨g, 1, none⟩ = some (.int .i64 b) ∧ w.cell? ⟨g, 2, none⟩ = some (.int .i64 c) ∧ w.cell? ⟨g, 3, none⟩ = some (.int .i64 d) ∧
    w.cell? ⟨g, 4, none⟩ = some (.int .i64 e) ∧ w.cell? ⟨g, 5, none⟩ = some (.int .i64 f) ∧ w.cell? ⟨g, 6, none⟩ = some (.int .i64 h)) ∧ w0.heap.size ≤ g ∧ g < w.heap.size ∧ Below w0.heap.size w0 w

section
variable {w0 w w' : World} {g : Nat} {a b c d e f h : Int}
theorem In7.new (w : World) (a b c d e f h : Int) : In7 w w.heap.size a b c d e f h (w.alloc (.cells #[.int .i64 a, .int .i64 b, .int .i64 c, .int .i64 d, .int .i64 e, .int .i64 f, .int .i64 h] 113)) := by
  have k := Blk.new w 113 #[.int .i64 a, .int .i64 b, .int .i64 c, .int .i64 d, .int .i64 e, .int .i64 f, .int .i64 h]
  exact ⟨⟨k.cell 0, k.cell 1, k.cell 2, k.cell 3, k.cell 4, k.cell 5, k.cell 6⟩, Nat.le_refl _, by simp, (Below.refl _ _).alloc (Nat.le_refl _) _⟩
theorem In7.next (h1 : In7 w0 g a b c d e f h w) (hb : Below w.heap.size w w') : In7 w0 g a b c d e f h w' := by
  obtain ⟨⟨c0, c1, c2, c3, c4, c5, c6⟩, h2, h3, h4⟩ := h1
  have hs := hb.size
  refine ⟨⟨?_, ?_, ?_, ?_, ?_, ?_, ?_⟩, h2, by omega, h4.trans (hb.mono h4.size)⟩ <;> (rw [hb.cell (by simpa using h3)]; assumption)
theorem In7.drew (h1 : In7 w0 g a b c d e f h w) : In7 w0 g a b c d e f h w.drew := ⟨h1.1, h1.2.1, h1.2.2.1, h1.2.2.2.drew⟩
theorem In7.alloc (h1 : In7 w0 g a b c d e f h w) (o : Obj) : In7 w0 g a b c d e f h (w.alloc o) := h1.next ((Below.refl _ _).alloc (Nat.le_refl _) _)
end

/-- a quota that may be -/
def ok (a b c d e f h : Int) : Prop := (1 ≤ a ∧ a ≤ 64) ∧ (1 ≤ b ∧ b ≤ 16) ∧ (0 ≤ c ∧ c ≤ 32) ∧ (0 ≤ d ∧ d ≤ 16) ∧ (1 ≤ e ∧ e ≤ 4) ∧ (1 ≤ f ∧ f ≤ 8) ∧ (0 ≤ h ∧ h ≤ 32)

theorem ret_of {v : Value} {w w' : World} {B : Nat} (hb : Below B w w') : (Ending.returned v = .returned v) ∧ Below B w w' := ⟨rfl, hb⟩

set_option maxRecDepth 100000 in
theorem within_yes (n l m : Int) (w : World) (h : l ≤ n ∧ n ≤ m) : Calls Try.prog 173 #[.int .i64 n, .int .i64 l, .int .i64 m] w fun e w' => e = .returned (.bool true) ∧ w = w' := by
  obtain ⟨h1, h2⟩ := h
  go_enter Try.func173, Try.ntmps173
  go_wp2_with fail
  go_ret
  exact ⟨rfl, rfl⟩
set_option maxRecDepth 100000 in
theorem within_no (n l m : Int) (w : World) (h : ¬ (l ≤ n ∧ n ≤ m)) : Calls Try.prog 173 #[.int .i64 n, .int .i64 l, .int .i64 m] w fun e w' => e = .returned (.bool false) ∧ w = w' := by
  by_cases h1 : l ≤ n
  · have h2 : ¬ n ≤ m := fun h2 => h ⟨h1, h2⟩
    clear h
    go_enter Try.func173, Try.ntmps173
    go_wp2_with fail
    go_ret
    exact ⟨rfl, rfl⟩
  · clear h
    go_enter Try.func173, Try.ntmps173
    go_wp2_with fail
    go_ret
    exact ⟨rfl, rfl⟩

set_option maxRecDepth 100000 in
set_option maxHeartbeats 400000 in
theorem right_ok (a b c d e f h : Int) (w : World) (hk : ok a b c d e f h) :
    Calls Try.prog 123 #[.agg #[.int .i64 a, .int .i64 b, .int .i64 c, .int .i64 d, .int .i64 e, .int .i64 f, .int .i64 h]] w fun e w' => e = .returned (.int .i64 0) ∧ Below w.heap.size w w' := by
  obtain ⟨h1, h2, h3, h4, h5, h6, h7⟩ := hk
  go_enter Try.func123, Try.ntmps123
  go_wp2_with (go_at_call 173; refine (within_yes _ _ _ _ ?_).mono ?_; (first | exact h1 | exact h2 | exact h3 | exact h4 | exact h5 | exact h6 | exact h7); rintro e w' ⟨rfl, rfl⟩)
  go_ret
  exact ⟨rfl, (Below.refl _ _).alloc (Nat.le_refl _) _⟩
set_option maxRecDepth 100000 in
set_option maxHeartbeats 400000 in
theorem right_no (a b c d e f h : Int) (w : World) (hk : ¬ ok a b c d e f h) :
    Calls Try.prog 123 #[.agg #[.int .i64 a, .int .i64 b, .int .i64 c, .int .i64 d, .int .i64 e, .int .i64 f, .int .i64 h]] w fun e w' => e = .returned (.int .i64 40) ∧ Below w.heap.size w w' := by
  by_cases h1 : 1 ≤ a ∧ a ≤ 64
  rotate_left
  · go_enter Try.func123, Try.ntmps123
    clear hk
    go_wp2_with ((go_at_call 173; refine (within_no _ _ _ _ ?_).mono ?_; exact h1; rintro e w' ⟨rfl, rfl⟩))
    go_ret
    exact ⟨rfl, (Below.refl _ _).alloc (Nat.le_refl _) _⟩
  by_cases h2 : 1 ≤ b ∧ b ≤ 16
  rotate_left
  · go_enter Try.func123, Try.ntmps123
    clear hk
    go_wp2_with (first | (go_at_call 173; refine (within_yes _ _ _ _ ?_).mono ?_; (first | exact h1); rintro e w' ⟨rfl, rfl⟩) | (go_at_call 173; refine (within_no _ _ _ _ ?_).mono ?_; exact h2; rintro e w' ⟨rfl, rfl⟩))
    go_ret
    exact ⟨rfl, (Below.refl _ _).alloc (Nat.le_refl _) _⟩
  by_cases h3 : 0 ≤ c ∧ c ≤ 32
  rotate_left
  · go_enter Try.func123, Try.ntmps123
    clear hk
    go_wp2_with (first | (go_at_call 173; refine (within_yes _ _ _ _ ?_).mono ?_; (first | exact h1 | exact h2); rintro e w' ⟨rfl, rfl⟩) | (go_at_call 173; refine (within_no _ _ _ _ ?_).mono ?_; exact h3; rintro e w' ⟨rfl, rfl⟩))
    go_ret
    exact ⟨rfl, (Below.refl _ _).alloc (Nat.le_refl _) _⟩
  by_cases h4 : 0 ≤ d ∧ d ≤ 16
  rotate_left
  · go_enter Try.func123, Try.ntmps123
    clear hk
    go_wp2_with (first | (go_at_call 173; refine (within_yes _ _ _ _ ?_).mono ?_; (first | exact h1 | exact h2 | exact h3); rintro e w' ⟨rfl, rfl⟩) | (go_at_call 173; refine (within_no _ _ _ _ ?_).mono ?_; exact h4; rintro e w' ⟨rfl, rfl⟩))
    go_ret
    exact ⟨rfl, (Below.refl _ _).alloc (Nat.le_refl _) _⟩
  by_cases h5 : 1 ≤ e ∧ e ≤ 4
  rotate_left
  · go_enter Try.func123, Try.ntmps123
    clear hk
    go_wp2_with (first | (go_at_call 173; refine (within_yes _ _ _ _ ?_).mono ?_; (first | exact h1 | exact h2 | exact h3 | exact h4); rintro e w' ⟨rfl, rfl⟩) | (go_at_call 173; refine (within_no _ _ _ _ ?_).mono ?_; exact h5; rintro e w' ⟨rfl, rfl⟩))
    go_ret
    exact ⟨rfl, (Below.refl _ _).alloc (Nat.le_refl _) _⟩
  by_cases h6 : 1 ≤ f ∧ f ≤ 8
  rotate_left
  · go_enter Try.func123, Try.ntmps123
    clear hk
    go_wp2_with (first | (go_at_call 173; refine (within_yes _ _ _ _ ?_).mono ?_; (first | exact h1 | exact h2 | exact h3 | exact h4 | exact h5); rintro e w' ⟨rfl, rfl⟩) | (go_at_call 173; refine (within_no _ _ _ _ ?_).mono ?_; exact h6; rintro e w' ⟨rfl, rfl⟩))
    go_ret
    exact ⟨rfl, (Below.refl _ _).alloc (Nat.le_refl _) _⟩
  by_cases h7 : 0 ≤ h ∧ h ≤ 32
  rotate_left
  · go_enter Try.func123, Try.ntmps123
    clear hk
    go_wp2_with (first | (go_at_call 173; refine (within_yes _ _ _ _ ?_).mono ?_; (first | exact h1 | exact h2 | exact h3 | exact h4 | exact h5 | exact h6); rintro e w' ⟨rfl, rfl⟩) | (go_at_call 173; refine (within_no _ _ _ _ ?_).mono ?_; exact h7; rintro e w' ⟨rfl, rfl⟩))
    go_ret
    exact ⟨rfl, (Below.refl _ _).alloc (Nat.le_refl _) _⟩
  exact absurd ⟨h1, h2, h3, h4, h5, h6, h7⟩ hk

set_option maxRecDepth 100000 in
set_option maxHeartbeats 400000 in
theorem refRight_ok (a b c d e f h : Int) (w : World) (hk : ok a b c d e f h) :
    Calls Try.prog 58 #[.agg #[.int .i64 a, .int .i64 b, .int .i64 c, .int .i64 d, .int .i64 e, .int .i64 f, .int .i64 h]] w fun e w' => e = .returned (.bool true) ∧ Below w.heap.size w w' := by
  obtain ⟨⟨h1, g1⟩, ⟨h2, g2⟩, ⟨h3, g3⟩, ⟨h4, g4⟩, ⟨h5, g5⟩, ⟨h6, g6⟩, ⟨h7, g7⟩⟩ := hk
  go_enter Try.func58, Try.ntmps58
  go_wp2_with fail
  go_ret
  exact ⟨rfl, (Below.refl _ _).alloc (Nat.le_refl _) _⟩

set_option maxRecDepth 100000 in
set_option maxHeartbeats 800000 in
theorem refRight_no (a b c d e f h : Int) (w : World) (hk : ¬ ok a b c d e f h) :
    Calls Try.prog 58 #[.agg #[.int .i64 a, .int .i64 b, .int .i64 c, .int .i64 d, .int .i64 e, .int .i64 f, .int .i64 h]] w fun e w' => e = .returned (.bool false) ∧ Below w.heap.size w w' := by
  by_cases h1 : 1 ≤ a
  rotate_left
  · clear hk
    go_enter Try.func58, Try.ntmps58
    go_wp2_with fail
    go_ret
    exact ⟨rfl, (Below.refl _ _).alloc (Nat.le_refl _) _⟩
  by_cases g1 : a ≤ 64
  rotate_left
  · clear hk
    go_enter Try.func58, Try.ntmps58
    go_wp2_with fail
    go_ret
    exact ⟨rfl, (Below.refl _ _).alloc (Nat.le_refl _) _⟩
  by_cases h2 : 1 ≤ b
  rotate_left
  · clear hk
    go_enter Try.func58, Try.ntmps58
    go_wp2_with fail
    go_ret
    exact ⟨rfl, (Below.refl _ _).alloc (Nat.le_refl _) _⟩
  by_cases g2 : b ≤ 16
  rotate_left
  · clear hk
    go_enter Try.func58, Try.ntmps58
    go_wp2_with fail
    go_ret
    exact ⟨rfl, (Below.refl _ _).alloc (Nat.le_refl _) _⟩
  by_cases h3 : 0 ≤ c
  rotate_left
  · clear hk
    go_enter Try.func58, Try.ntmps58
    go_wp2_with fail
    go_ret
    exact ⟨rfl, (Below.refl _ _).alloc (Nat.le_refl _) _⟩
  by_cases g3 : c ≤ 32
  rotate_left
  · clear hk
    go_enter Try.func58, Try.ntmps58
    go_wp2_with fail
    go_ret
    exact ⟨rfl, (Below.refl _ _).alloc (Nat.le_refl _) _⟩
  by_cases h4 : 0 ≤ d
  rotate_left
  · clear hk
    go_enter Try.func58, Try.ntmps58
    go_wp2_with fail
    go_ret
    exact ⟨rfl, (Below.refl _ _).alloc (Nat.le_refl _) _⟩
  by_cases g4 : d ≤ 16
  rotate_left
  · clear hk
    go_enter Try.func58, Try.ntmps58
    go_wp2_with fail
    go_ret
    exact ⟨rfl, (Below.refl _ _).alloc (Nat.le_refl _) _⟩
  by_cases h5 : 1 ≤ e
  rotate_left
  · clear hk
    go_enter Try.func58, Try.ntmps58
    go_wp2_with fail
    go_ret
    exact ⟨rfl, (Below.refl _ _).alloc (Nat.le_refl _) _⟩
  by_cases g5 : e ≤ 4
  rotate_left
  · clear hk
    go_enter Try.func58, Try.ntmps58
    go_wp2_with fail
    go_ret
    exact ⟨rfl, (Below.refl _ _).alloc (Nat.le_refl _) _⟩
  by_cases h6 : 1 ≤ f
  rotate_left
  · clear hk
    go_enter Try.func58, Try.ntmps58
    go_wp2_with fail
    go_ret
    exact ⟨rfl, (Below.refl _ _).alloc (Nat.le_refl _) _⟩
  by_cases g6 : f ≤ 8
  rotate_left
  · clear hk
    go_enter Try.func58, Try.ntmps58
    go_wp2_with fail
    go_ret
    exact ⟨rfl, (Below.refl _ _).alloc (Nat.le_refl _) _⟩
  by_cases h7 : 0 ≤ h
  rotate_left
  · clear hk
    go_enter Try.func58, Try.ntmps58
    go_wp2_with fail
    go_ret
    exact ⟨rfl, (Below.refl _ _).alloc (Nat.le_refl _) _⟩
  by_cases g7 : h ≤ 32
  rotate_left
  · clear hk
    go_enter Try.func58, Try.ntmps58
    go_wp2_with fail
    go_ret
    exact ⟨rfl, (Below.refl _ _).alloc (Nat.le_refl _) _⟩
  exact absurd ⟨⟨h1, g1⟩, ⟨h2, g2⟩, ⟨h3, g3⟩, ⟨h4, g4⟩, ⟨h5, g5⟩, ⟨h6, g6⟩, ⟨h7, g7⟩⟩ hk
end Go.Proofs.Ytoenkkbcpafanaa.quotas

/- Versions in memory: a list's cells; what is wrong with a secret, in pure words. -/

namespace Go.Proofs.Ytoenkkbcpafanaa.vers
set_option linter.unusedVariables false
set_option linter.unusedSimpArgs false
open Go.RowKit Go.Proofs.Ytoenkkbcpafanaa.base Go.Proofs.Ytoenkkbcpafanaa.quotas

structure V where
  n : Int
  v : ByteArray
  t : ByteArray
deriving DecidableEq

def V.cells (x : V) : List Value := [.int .i64 x.n, .string x.v, .string x.t]
def V.fits (x : V) : Prop := (-9223372036854775808 ≤ x.n ∧ x.n ≤ 9223372036854775807) ∧ x.v.size ≤ maxLen ∧ x.t.size ≤ maxLen
def cellsV : List V → List Value
  | [] => []
  | x :: l => x.cells ++ cellsV l

theorem cellsV_len : ∀ l : List V, (cellsV l).length = 3 * l.length
  | [] => rfl
  | x :: l => by rw [cellsV, List.length_append, cellsV_len l]; simp [V.cells]; omega
theorem cellsV_app : ∀ l m : List V, cellsV (l ++ m) = cellsV l ++ cellsV m
  | [], m => rfl
  | x :: l, m => by rw [List.cons_append, cellsV, cellsV_app l m, cellsV, List.append_assoc]
theorem cellsV_at : ∀ (l : List V) {j : Nat} (hj : j < l.length), (cellsV l)[3 * j]? = some (.int .i64 l[j].n) ∧ (cellsV l)[3 * j + 1]? = some (.string l[j].v) ∧ (cellsV l)[3 * j + 2]? = some (.string l[j].t)
  | x :: l, 0, _ => ⟨rfl, rfl, rfl⟩
  | x :: l, j + 1, hj => by
    obtain ⟨e0, e1, e2⟩ := cellsV_at l (j := j) (by simpa using hj)
    have hl : x.cells.length = 3 := rfl
    refine ⟨?_, ?_, ?_⟩
    all_goals
      rw [cellsV, List.getElem?_append_right (by rw [hl]; omega), hl]
      first | rw [show 3 * (j + 1) - 3 = 3 * j by omega] | rw [show 3 * (j + 1) + 1 - 3 = 3 * j + 1 by omega] | rw [show 3 * (j + 1) + 2 - 3 = 3 * j + 2 by omega]
      assumption
theorem cellsV_one (l : List V) : ∀ u ∈ cellsV l, u.oneCell' = true := by
  induction l with
  | nil => intro u h; cases h
  | cons x l ih =>
    intro u h
    rcases List.mem_append.1 h with h | h
    · simp [V.cells] at h
      rcases h with rfl | rfl | rfl <;> rfl
    · exact ih u h

/-- the slice (A, l.length, c) holds the versions l, below block B -/
def Vs (w : World) (B : Nat) (l : List V) (A : Option Addr) (c : Nat) : Prop := l.length ≤ c ∧ l.length * 40 ≤ 140737488355328 ∧ (A = none → c = 0) ∧ Rd w B A (cellsV l) ∧ ∀ x ∈ l, x.fits

section
variable {w w' : World} {B B' : Nat} {l : List V} {A : Option Addr} {c : Nat}
theorem Vs.keep (h : Vs w B l A c) (hk : ∀ p : Addr, p.block < B → w'.cell? p = w.cell? p) : Vs w' B l A c := ⟨h.1, h.2.1, h.2.2.1, h.2.2.2.1.keep hk, h.2.2.2.2⟩
theorem Vs.below (h : Vs w B l A c) (hb : Below B w w') : Vs w' B l A c := h.keep fun _ hp => hb.cell hp
theorem Vs.more (h : Vs w B l A c) (hB : B ≤ B') : Vs w B' l A c := ⟨h.1, h.2.1, h.2.2.1, h.2.2.2.1.more hB, h.2.2.2.2⟩
theorem Vs.at_ (h : Vs w B l A c) {j : Nat} (hj : j < l.length) : ∃ b off, A = some ⟨b, off, none⟩ ∧ b < B ∧ w.cell? ⟨b, off + j * 3, none⟩ = some (.int .i64 l[j].n) ∧ w.cell? ⟨b, off + j * 3 + 1, none⟩ = some (.string l[j].v) ∧ w.cell? ⟨b, off + j * 3 + 2, none⟩ = some (.string l[j].t) := by
  obtain ⟨e0, e1, e2⟩ := cellsV_at l hj
  have hr := h.2.2.2.1
  obtain ⟨b, off, e, hb, c0⟩ := hr _ _ e0
  refine ⟨b, off, e, hb, ?_, ?_, ?_⟩
  · rw [show off + j * 3 = off + 3 * j by omega]; exact c0
  · obtain ⟨b', off', e', _, c1⟩ := hr _ _ e1
    rw [e] at e'; cases e'
    rw [show off + j * 3 + 1 = off + (3 * j + 1) by omega]; exact c1
  · obtain ⟨b', off', e', _, c1⟩ := hr _ _ e2
    rw [e] at e'; cases e'
    rw [show off + j * 3 + 2 = off + (3 * j + 2) by omega]; exact c1
end
theorem lay {p : Prop} (h : p) : Hid p := h

/-- what is wrong with versions behind one of number p -/
def vbad (c d : Int) : Int → List V → Int
  | _, [] => 0
  | p, x :: l => if x.n ≤ p ∨ 1073741824 < x.n then 50 else if c < x.v.size ∨ d < x.t.size then 5 else vbad c d x.n l
/-- the number of the j-th version before, 0 ahead of the first -/
def before (l : List V) (j : Nat) : Int := if h : 0 < j ∧ j ≤ l.length then (l[j - 1]'(by omega)).n else 0
theorem before_zero (l : List V) : before l 0 = 0 := by unfold before; simp
theorem before_succ (l : List V) {j : Nat} (hj : j < l.length) : before l (j + 1) = l[j].n := by unfold before; rw [dif_pos ⟨by omega, by omega⟩]; rfl
theorem vbad_at (c d p : Int) (l : List V) {j : Nat} (hj : j < l.length) : vbad c d p (l.drop j) = if l[j].n ≤ p ∨ 1073741824 < l[j].n then 50 else if c < l[j].v.size ∨ d < l[j].t.size then 5 else vbad c d l[j].n (l.drop (j + 1)) := by
  rw [List.drop_eq_getElem_cons hj]; rfl
theorem vbad_end (c d p : Int) (l : List V) {j : Nat} (hj : l.length ≤ j) : vbad c d p (l.drop j) = 0 := by
  rw [List.drop_eq_nil_of_le hj]; rfl

instance decOk (a b c d e f h : Int) : Decidable (ok a b c d e f h) := by unfold ok; infer_instance
/-- what is wrong with a secret of this quota, but that it may be new: the document's order -/
def nbad (a b c d e f h : Int) (s : ByteArray) (l : List V) : Int :=
  if ok a b c d e f h then (if s.size = 0 then 4 else if b < s.size then 5 else if e < l.length then 50 else vbad c d 0 l) else 40
end Go.Proofs.Ytoenkkbcpafanaa.vers

/- Named and Right of the document: what is wrong with a secret. -/

namespace Go.Proofs.Ytoenkkbcpafanaa.vers
set_option linter.unusedVariables false
set_option linter.unusedSimpArgs false
open Go.RowKit Go.Proofs.Ytoenkkbcpafanaa.base Go.Proofs.Ytoenkkbcpafanaa.quotas

/-- behind a call's beginning: its own boxes hold the quota and the secret -/
def Bx (w : World) (a b c d e f h : Int) (s : ByteArray) (u : Value) (wr : World) : Prop :=
  In7 w w.heap.size a b c d e f h wr ∧ (wr.cell? ⟨w.heap.size + 1, 0, none⟩ = some (.string s) ∧ wr.cell? ⟨w.heap.size + 1, 1, none⟩ = some u) ∧ w.heap.size + 1 < wr.heap.size
theorem Bx.new (w : World) (a b c d e f h : Int) (s : ByteArray) (u : Value) : Bx w a b c d e f h s u ((w.alloc (.cells #[.int .i64 a, .int .i64 b, .int .i64 c, .int .i64 d, .int .i64 e, .int .i64 f, .int .i64 h] 113)).alloc (.cells #[.string s, u] 47)) := by
  have k := Blk.new (w.alloc (.cells #[.int .i64 a, .int .i64 b, .int .i64 c, .int .i64 d, .int .i64 e, .int .i64 f, .int .i64 h] 113)) 47 #[.string s, u]
  rw [World.size_alloc] at k
  exact ⟨(In7.new w a b c d e f h).alloc _, ⟨k.cell 0, k.cell 1⟩, by simp⟩
theorem Bx.next {w wr w' : World} {a b c d e f h : Int} {s : ByteArray} {u : Value} (h1 : Bx w a b c d e f h s u wr) (hb : Below wr.heap.size wr w') : Bx w a b c d e f h s u w' := by
  obtain ⟨h1, ⟨h2, h3⟩, h4⟩ := h1
  have hs := hb.size
  exact ⟨h1.next hb, ⟨by rw [hb.cell (by simpa using h4)]; exact h2, by rw [hb.cell (by simpa using h4)]; exact h3⟩, by omega⟩
theorem Bx.alloc {w wr : World} {a b c d e f h : Int} {s : ByteArray} {u : Value} (h1 : Bx w a b c d e f h s u wr) (o : Obj) : Bx w a b c d e f h s u (wr.alloc o) := h1.next ((Below.refl _ _).alloc (Nat.le_refl _) _)
theorem Bx.drewN {w wr : World} {a b c d e f h : Int} {s : ByteArray} {u : Value} (h1 : Bx w a b c d e f h s u wr) (n : Nat) : Bx w a b c d e f h s u (wr.drewN n) := h1.next ⟨rfl, rfl, rfl, Nat.le_refl _, fun _ _ => rfl⟩
theorem Bx.below {w wr : World} {a b c d e f h : Int} {s : ByteArray} {u : Value} (h1 : Bx w a b c d e f h s u wr) : Below w.heap.size w wr := h1.1.2.2.2

/-- a round's head: so far nothing is wrong -/
def NHead (w : World) (a b c d e f h : Int) (s : ByteArray) (l : List V) (A : Option Addr) (cap : Nat) (x : Value) (wr : World) : Prop :=
  ∃ j : Nat, j ≤ l.length ∧ x = .int .i64 j ∧ Hid (vbad c d 0 l = vbad c d (before l j) (l.drop j)) ∧ 0 ≤ before l j ∧ Bx w a b c d e f h s (.slice A l.length cap) wr

theorem empty_no {s : ByteArray} (h : s.size ≠ 0) : s.toList.isEmpty = false := by
  rw [ByteArray.toList_eq]
  have e : s.data.toList.length = s.size := by simp
  cases hl : s.data.toList with
  | nil => rw [hl] at e; simp at e; omega
  | cons _ _ => rfl
theorem empty_yes {s : ByteArray} (h : s.size = 0) : s.toList.isEmpty = true := by
  rw [ByteArray.toList_eq]
  have e : s.data.toList.length = s.size := by simp
  cases hl : s.data.toList with
  | nil => rfl
  | cons _ _ => rw [hl] at e; simp at e; omega
theorem ret_int {k : IntKind} {a b : Int} (h : a = b) : Ending.returned (.int k a) = .returned (.int k b) := by rw [h]
theorem len_in {w : World} {l : List V} {A : Option Addr} {c : Nat} (h : Vs w w.heap.size l A c) : l.length ≤ 140737488355328 := by have h1 := h.1; have h2 := h.2.1; omega

set_option maxRecDepth 100000 in
set_option maxHeartbeats 1000000 in
theorem named_loop (a b c d e f h : Int) (s : ByteArray) (l : List V) (A : Option Addr) (cap : Nat) (w : World) (hk : ok a b c d e f h) (hv : Vs w w.heap.size l A cap) (h1 : s.size ≠ 0) (h2 : (s.size : Int) ≤ b) (h3 : (l.length : Int) ≤ e) :
    Calls Try.prog 219 #[.agg #[.int .i64 a, .int .i64 b, .int .i64 c, .int .i64 d, .int .i64 e, .int .i64 f, .int .i64 h], .agg #[.string s, .slice A l.length cap]] w fun x w' => x = .returned (.int .i64 (vbad c d 0 l)) ∧ Below w.heap.size w w' := by
  have hlen := len_in hv
  have hs0 := empty_no h1
  go_enter Try.func219, Try.ntmps219
  go_wp2_with (go_at_call 58; refine (refRight_ok _ _ _ _ _ _ _ _ hk).mono ?_; rintro x w1 ⟨rfl, hb1⟩; have I1 := (Bx.new w a b c d e f h s (.slice A l.length cap)).next hb1; clear hb1; obtain ⟨⟨⟨c0, c1, c2, c3, c4, c5, c6⟩, l1, l2, b1⟩, ⟨e0, e1⟩, l3⟩ := id I1)
  clear c0 c1 c2 c3 c4 c5 c6 l1 l2 b1 e0 e1 l3
  go_loopw [28] (fun x wr => NHead w a b c d e f h s l A cap x wr) (fun x _ => l.length - (intOf x).toNat)
  case atStart => exact ⟨0, Nat.zero_le _, rfl, lay (by rw [before_zero]; rfl), by rw [before_zero]; omega, I1⟩
  case round =>
    obtain ⟨j, hj, rfl, hV, hn, I2⟩ := hrel
    obtain ⟨⟨⟨c0, c1, c2, c3, c4, c5, c6⟩, l1, l2, b1⟩, ⟨e0, e1⟩, l3⟩ := id I2
    by_cases hlt : j < l.length
    · obtain ⟨bk, off, rfl, hbk, v0, v1, v2⟩ := (hv.below b1).at_ hlt
      obtain ⟨fx1, fx2⟩ : -9223372036854775808 ≤ l[j].n ∧ l[j].n ≤ 9223372036854775807 := (hv.2.2.2.2 _ (List.getElem_mem hlt)).1
      go_wp2_with fail
      by_cases g1 : l[j].n < 1
      · have d1 : decide (l[j].n < 1) = true := by simpa using g1
        go_quiet (fail)
        go_wp2_with fail
        go_ret
        exact ⟨ret_int (by rw [hV.out, vbad_at _ _ _ _ hlt]; rw [if_pos (Or.inl (by omega))]), ((I2.alloc _).drewN _).below⟩
      · have d1 : decide (l[j].n < 1) = false := by simpa using g1
        by_cases g2 : (1073741824 : Int) < l[j].n
        · have d2 : decide ((1073741824 : Int) < l[j].n) = true := by simpa using g2
          go_quiet (fail)
          go_wp2_with fail
          go_ret
          exact ⟨ret_int (by rw [hV.out, vbad_at _ _ _ _ hlt]; rw [if_pos (Or.inr (by omega))]), ((I2.alloc _).drewN _).below⟩
        · have d2 : decide ((1073741824 : Int) < l[j].n) = false := by simpa using g2
          by_cases g3 : j = 0
          · subst g3
            have hb0 : Hid (¬ (l[0].n ≤ before l 0 ∨ (1073741824 : Int) < l[0].n)) := lay (by rw [before_zero]; omega)
            by_cases g5 : c < (l[0].v.size : Int)
            · have d5 : decide (c < (l[0].v.size : Int)) = true := by simpa using g5
              go_quiet (fail)
              go_wp2_with fail
              go_ret
              exact ⟨ret_int (by rw [hV.out, vbad_at _ _ _ _ hlt]; rw [if_neg hb0.out, if_pos (Or.inl (by omega))]), ((I2.alloc _).drewN _).below⟩
            · have d5 : decide (c < (l[0].v.size : Int)) = false := by simpa using g5
              by_cases g6 : d < (l[0].t.size : Int)
              · have d6 : decide (d < (l[0].t.size : Int)) = true := by simpa using g6
                go_quiet (fail)
                go_wp2_with fail
                go_ret
                exact ⟨ret_int (by rw [hV.out, vbad_at _ _ _ _ hlt]; rw [if_neg hb0.out, if_pos (Or.inr (by omega))]), ((I2.alloc _).drewN _).below⟩
              · have d6 : decide (d < (l[0].t.size : Int)) = false := by simpa using g6
                have hV2 := lay (hV.out.trans ((vbad_at _ _ _ _ hlt).trans (by rw [if_neg hb0.out, if_neg (by omega), before_succ l hlt] : _ = vbad c d (before l (0 + 1)) (l.drop (0 + 1)))))
                have hn0 : 0 ≤ before l (0 + 1) := by rw [before_succ l hlt]; omega
                go_quiet (fail)
                go_wp2_with fail
                exact ⟨⟨0 + 1, by omega, by go_num, hV2, hn0, (I2.alloc _).drewN _⟩, by simp [intOf]; omega⟩
          · obtain ⟨k, rfl⟩ : ∃ k, j = k + 1 := ⟨j - 1, by omega⟩
            have hk1 : k < l.length := by omega
            obtain ⟨bk', off', e', _, y0, y1, y2⟩ := (hv.below b1).at_ hk1
            cases e'
            have hbw : bk < wr.heap.size := by omega
            have hk2 : (0 : Int) ≤ (k : Int) := by omega
            have hwk : IntKind.i64.wrap (k : Int) = (k : Int) := IntWalk.i64_in _ (by omega)
            have hk3 : (k : Int) < (l.length : Int) := by omega
            by_cases g4 : l[k + 1].n ≤ l[k].n
            · have d4 : decide (l[k + 1].n ≤ l[k].n) = true := by simpa using g4
              go_quiet (fail)
              go_wp2_with fail
              go_ret
              exact ⟨ret_int (by rw [hV.out, vbad_at _ _ _ _ hlt]; rw [if_pos (Or.inl (by rw [before_succ l hk1]; omega))]), ((I2.alloc _).drewN _).below⟩
            · have d4 : decide (l[k + 1].n ≤ l[k].n) = false := by simpa using g4
              have hb0 : Hid (¬ (l[k + 1].n ≤ before l (k + 1) ∨ (1073741824 : Int) < l[k + 1].n)) := lay (by rw [before_succ l hk1]; omega)
              by_cases g5 : c < (l[k + 1].v.size : Int)
              · have d5 : decide (c < (l[k + 1].v.size : Int)) = true := by simpa using g5
                go_quiet (fail)
                go_wp2_with fail
                go_ret
                exact ⟨ret_int (by rw [hV.out, vbad_at _ _ _ _ hlt]; rw [if_neg hb0.out, if_pos (Or.inl (by omega))]), ((I2.alloc _).drewN _).below⟩
              · have d5 : decide (c < (l[k + 1].v.size : Int)) = false := by simpa using g5
                by_cases g6 : d < (l[k + 1].t.size : Int)
                · have d6 : decide (d < (l[k + 1].t.size : Int)) = true := by simpa using g6
                  go_quiet (fail)
                  go_wp2_with fail
                  go_ret
                  exact ⟨ret_int (by rw [hV.out, vbad_at _ _ _ _ hlt]; rw [if_neg hb0.out, if_pos (Or.inr (by omega))]), ((I2.alloc _).drewN _).below⟩
                · have d6 : decide (d < (l[k + 1].t.size : Int)) = false := by simpa using g6
                  have hV2 := lay (hV.out.trans ((vbad_at _ _ _ _ hlt).trans (by rw [if_neg hb0.out, if_neg (by omega), before_succ l hlt] : _ = vbad c d (before l (k + 1 + 1)) (l.drop (k + 1 + 1)))))
                  have hn0 : 0 ≤ before l (k + 1 + 1) := by rw [before_succ l hlt]; omega
                  go_quiet (fail)
                  go_wp2_with fail
                  exact ⟨⟨k + 1 + 1, by omega, by go_num, hV2, hn0, (I2.alloc _).drewN _⟩, by simp [intOf]; omega⟩
    · go_wp2_with fail
      go_ret
      exact ⟨ret_int (by rw [hV.out, vbad_end _ _ _ _ (by omega)]), b1⟩
end Go.Proofs.Ytoenkkbcpafanaa.vers
