/- The walk of the law TermGathers: it answers true and writes nothing that was there. -/
import Derived.Test.YtjlglfjikfpboaaFin
import Derived.Test.YtjlglfjikfpboaaIn
import Derived.Test.YtjlglfjikfpboaaTermF
import Derived.Test.YtjlglfjikfpboaaRows2
import Derived.Test.YtjlglfjikfpboaaTermE


namespace Go.Proofs.Ytjlglfjikfpboaa.gathers
set_option linter.unusedVariables false
set_option linter.unusedSimpArgs false
open Go.RowKit Go.Proofs.Ytjlglfjikfpboaa.base Go.Proofs.Ytjlglfjikfpboaa.tm Go.Proofs.Ytjlglfjikfpboaa.lies Go.Proofs.Ytjlglfjikfpboaa.rights Go.Proofs.Ytjlglfjikfpboaa.copies Go.Proofs.Ytjlglfjikfpboaa.makes Go.Proofs.Ytjlglfjikfpboaa.encs Go.Proofs.Ytjlglfjikfpboaa.texts Go.Proofs.Ytjlglfjikfpboaa.rowsLaw

/-- Atoms of terms as they lie -/
theorem atoms_S (l : List T) (A : Option Addr) (c : Nat) (w : World) (h : LiesS w w.heap.size l A c) (hN : (allOf l).length ≤ 1000000) (ts : List (List UInt8)) (hts : fin (allOf l) = ts) :
    Calls Try.prog 28 #[.slice A l.length c] w fun e w' => ∃ A' c', e = .returned (.slice A' ts.length c') ∧ Below w.heap.size w w' ∧ Txt w' w.heap.size (.slice A' ts.length c') ts := by
  obtain ⟨xs, h1, h2, h3, h4⟩ := h
  subst hts
  refine (atoms_any l A c xs w h1 h2 h3 h4 (by omega)).mono ?_
  rintro e w' ⟨v, rfl, hb, A', c', rfl, hT⟩
  exact ⟨A', c', rfl, hb, A', c', rfl, hT⟩

theorem one_S {w : World} {t : T} {v : Value} (h : Lies w w.heap.size t v) : LiesS (w.alloc (.cells #[.int .i64 t.k, .int .u64 t.n, .string t.s, v] 39)) (w.alloc (.cells #[.int .i64 t.k, .int .u64 t.n, .string t.s, v] 39)).heap.size [t] (some ⟨w.heap.size, 0, none⟩) 1 := by
  have hbk := Blk.new w 39 #[.int .i64 t.k, .int .u64 t.n, .string t.s, v]
  exact ⟨[.int .i64 t.k, .int .u64 t.n, .string t.s, v], Nat.le_refl _, by show 1 * 56 ≤ 140737488355328; omega, Blk.rd (xs := [.int .i64 t.k, .int .u64 t.n, .string t.s, v]) hbk (by simp), ⟨v, [], rfl, h.later (Nat.le_refl _) _, rfl⟩⟩
theorem two_S {w : World} {t u : T} {v x : Value} (h : Lies w w.heap.size t v) (h' : Lies w w.heap.size u x) :
    LiesS (w.alloc (.cells #[.int .i64 t.k, .int .u64 t.n, .string t.s, v, .int .i64 u.k, .int .u64 u.n, .string u.s, x] 39)) (w.alloc (.cells #[.int .i64 t.k, .int .u64 t.n, .string t.s, v, .int .i64 u.k, .int .u64 u.n, .string u.s, x] 39)).heap.size [t, u] (some ⟨w.heap.size, 0, none⟩) 2 := by
  have hbk := Blk.new w 39 #[.int .i64 t.k, .int .u64 t.n, .string t.s, v, .int .i64 u.k, .int .u64 u.n, .string u.s, x]
  exact ⟨[.int .i64 t.k, .int .u64 t.n, .string t.s, v, .int .i64 u.k, .int .u64 u.n, .string u.s, x], Nat.le_refl _, by show 2 * 56 ≤ 140737488355328; omega, Blk.rd (xs := [.int .i64 t.k, .int .u64 t.n, .string t.s, v, .int .i64 u.k, .int .u64 u.n, .string u.s, x]) hbk (by simp), ⟨v, _, rfl, h.later (Nat.le_refl _) _, ⟨x, [], rfl, h'.later (Nat.le_refl _) _, rfl⟩⟩⟩

theorem all_one {t : T} (h : t.right = 0) : allOf [t] = atoms t := by simp [allOf, h]
theorem all_two {t u : T} (h : t.right = 0) (h' : u.right = 0) : allOf [t, u] = atoms t ++ atoms u := by simp [allOf, h, h']
theorem atoms_few {t : T} (h : t.right = 0) : (atoms t).length ≤ 4000 := Nat.le_trans (atoms_len t) (right_ok h).1
theorem box_atoms (key : Nat) (t : T) : atoms (boxT key t) = atoms t := by simp [boxT, atoms_eq, T.k, T.l, atomsL]
theorem row_atoms (l : List T) : atoms (rowT l) = atomsL l := by simp [rowT, atoms_eq, T.k, T.l]

end Go.Proofs.Ytjlglfjikfpboaa.gathers
