/- The walk of the law TermGathers: it answers true and writes nothing that was there. -/
import Derived.Test.YtigebobjjpnnfaaFin
import Derived.Test.YtigebobjjpnnfaaIn
import Derived.Test.YtigebobjjpnnfaaCopyT
import Derived.Test.YtigebobjjpnnfaaRows2
import Derived.Test.YtigebobjjpnnfaaSame
namespace Go.Proofs.Ytigebobjjpnnfaa.gathers
open Go.RowKit Go.Proofs.Ytigebobjjpnnfaa.base Go.Proofs.Ytigebobjjpnnfaa.tm Go.Proofs.Ytigebobjjpnnfaa.lies Go.Proofs.Ytigebobjjpnnfaa.rights Go.Proofs.Ytigebobjjpnnfaa.copies Go.Proofs.Ytigebobjjpnnfaa.makes Go.Proofs.Ytigebobjjpnnfaa.encs Go.Proofs.Ytigebobjjpnnfaa.texts Go.Proofs.Ytigebobjjpnnfaa.rowsLaw

/-- Atoms of terms as they lie -/
theorem atoms_S (l : List T) (A : Option Addr) (c : Nat) (w : World) (h : LiesS w w.heap.size l A c) (hN : (allOf l).length ≤ 1000000) (ts : List (List UInt8)) (hts : fin (allOf l) = ts) :
    Calls Try.prog 32 #[.slice A l.length c] w fun e w' => ∃ A' c', e = .returned (.slice A' ts.length c') ∧ Below w.heap.size w w' ∧ Txt w' w.heap.size (.slice A' ts.length c') ts := by
  obtain ⟨xs, h1, h2, h3, h4⟩ := h
  subst hts
  refine (atoms_any l A c xs w h1 h2 h3 h4 (by omega)).mono ?_
  rintro e w' ⟨v, rfl, hb, A', c', rfl, hT⟩
  exact ⟨A', c', rfl, hb, A', c', rfl, hT⟩

theorem one_S {w : World} {t : T} {v : Value} (h : Lies w w.heap.size t v) : LiesS (w.alloc (.cells #[.int .i64 t.k, .int .u64 t.n, .string t.s, v] 30)) (w.alloc (.cells #[.int .i64 t.k, .int .u64 t.n, .string t.s, v] 30)).heap.size [t] (some ⟨w.heap.size, 0, none⟩) 1 := by
  have hbk := Blk.new w 30 #[.int .i64 t.k, .int .u64 t.n, .string t.s, v]
  exact ⟨[.int .i64 t.k, .int .u64 t.n, .string t.s, v], Nat.le_refl _, by show 1 * 56 ≤ 140737488355328; omega, Blk.rd (xs := [.int .i64 t.k, .int .u64 t.n, .string t.s, v]) hbk (by simp), ⟨v, [], rfl, h.later (Nat.le_refl _) _, rfl⟩⟩
theorem two_S {w : World} {t u : T} {v x : Value} (h : Lies w w.heap.size t v) (h' : Lies w w.heap.size u x) :
    LiesS (w.alloc (.cells #[.int .i64 t.k, .int .u64 t.n, .string t.s, v, .int .i64 u.k, .int .u64 u.n, .string u.s, x] 30)) (w.alloc (.cells #[.int .i64 t.k, .int .u64 t.n, .string t.s, v, .int .i64 u.k, .int .u64 u.n, .string u.s, x] 30)).heap.size [t, u] (some ⟨w.heap.size, 0, none⟩) 2 := by
  have hbk := Blk.new w 30 #[.int .i64 t.k, .int .u64 t.n, .string t.s, v, .int .i64 u.k, .int .u64 u.n, .string u.s, x]
  exact ⟨[.int .i64 t.k, .int .u64 t.n, .string t.s, v, .int .i64 u.k, .int .u64 u.n, .string u.s, x], Nat.le_refl _, by show 2 * 56 ≤ 140737488355328; omega, Blk.rd (xs := [.int .i64 t.k, .int .u64 t.n, .string t.s, v, .int .i64 u.k, .int .u64 u.n, .string u.s, x]) hbk (by simp), ⟨v, _, rfl, h.later (Nat.le_refl _) _, ⟨x, [], rfl, h'.later (Nat.le_refl _) _, rfl⟩⟩⟩

theorem all_one {t : T} (h : t.right = 0) : allOf [t] = atoms t := by simp [allOf, h]
theorem all_two {t u : T} (h : t.right = 0) (h' : u.right = 0) : allOf [t, u] = atoms t ++ atoms u := by simp [allOf, h, h']
theorem atoms_few {t : T} (h : t.right = 0) : (atoms t).length ≤ 4000 := Nat.le_trans (atoms_len t) (right_ok h).1
theorem box_atoms (key : Nat) (t : T) : atoms (boxT key t) = atoms t := by simp [boxT, atoms_eq, T.k, T.l, atomsL]
theorem row_atoms (l : List T) : atoms (rowT l) = atomsL l := by simp [rowT, atoms_eq, T.k, T.l]

set_option maxRecDepth 100000 in
set_option maxHeartbeats 400000 in
theorem gather_not (t u : T) (x y : Value) (key : Nat) (w : World) (hL : Lies w w.heap.size t x) (hM : Lies w w.heap.size u y) (hR : t.right ≠ 0 ∨ u.right ≠ 0) :
    Calls Try.prog 12 #[T.val t x, T.val u y, .int .u64 key] w fun e w' => e = .returned (.bool true) ∧ Below w.heap.size w w' := by
  obtain ⟨A, c, xs, rfl, _⟩ := hL.open_
  obtain ⟨A', c', xs', rfl, _⟩ := hM.open_
  have hL1 := (hL.later (Nat.le_refl _) (.cells #[.int .i64 t.k, .int .u64 t.n, .string t.s, .slice A t.l.length c] 30)).later (Nat.le_refl _) (.cells #[.int .i64 u.k, .int .u64 u.n, .string u.s, .slice A' u.l.length c'] 30)
  have hM1 := (hM.later (Nat.le_refl _) (.cells #[.int .i64 t.k, .int .u64 t.n, .string t.s, .slice A t.l.length c] 30)).later (Nat.le_refl _) (.cells #[.int .i64 u.k, .int .u64 u.n, .string u.s, .slice A' u.l.length c'] 30)
  have h1 := fun wx (hx : Lies wx wx.heap.size t (.slice A t.l.length c)) => refRight_any t _ wx hx
  have h2 := fun wx (hx : Lies wx wx.heap.size u (.slice A' u.l.length c')) => refRight_any u _ wx hx
  by_cases hT : t.right = 0
  · have hU : u.right ≠ 0 := by rcases hR with h | h; exact absurd hT h; exact h
    have d1 : (u.right != 0) = true := by simpa using hU
    rw [hT] at h1
    clear hT hU hR
    go_enter Try.func12, Try.ntmps12
    go_wp2_with fail
    refine (h1 _ hL1).mono ?_
    rintro e w1 ⟨rfl, hb1⟩
    obtain ⟨hc1, hf1⟩ := bcell hb1
    have hz1 : w.heap.size + 1 < w1.heap.size := by have := hb1.size; simp at this; omega
    have hz1' : w.heap.size < w1.heap.size := by omega
    go_wp2_with fail
    refine (h2 _ ((hM1.below hb1).now hb1.size)).mono ?_
    rintro e w2 ⟨rfl, hb2⟩
    have hB2 := hb1.trans (hb2.mono hb1.size)
    go_wp2_with fail
    go_ret
    exact ⟨rfl, sames.below_two' (Below.refl _ _) hB2⟩
  · have d1 : (t.right != 0) = true := by simpa using hT
    clear hT hR
    go_enter Try.func12, Try.ntmps12
    go_wp2_with fail
    refine (h1 _ hL1).mono ?_
    rintro e w1 ⟨rfl, hb1⟩
    go_wp2_with fail
    go_ret
    exact ⟨rfl, sames.below_two' (Below.refl _ _) hb1⟩
end Go.Proofs.Ytigebobjjpnnfaa.gathers
