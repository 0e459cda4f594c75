/- The walk of the law TermGathers, both terms right. -/
import Derived.Test.YtjlglfjikfpboaaGather
import Derived.Laws.Cover1
import Derived.Sort.Walk0


namespace Go.Proofs.Ytjlglfjikfpboaa.gathers
set_option linter.unusedVariables false
set_option linter.unusedSimpArgs false
open Go.RowKit Go.Proofs.Ytjlglfjikfpboaa.base Go.Proofs.Ytjlglfjikfpboaa.tm Go.Proofs.Ytjlglfjikfpboaa.lies Go.Proofs.Ytjlglfjikfpboaa.rights Go.Proofs.Ytjlglfjikfpboaa.copies Go.Proofs.Ytjlglfjikfpboaa.makes Go.Proofs.Ytjlglfjikfpboaa.encs Go.Proofs.Ytjlglfjikfpboaa.texts Go.Proofs.Ytjlglfjikfpboaa.rowsLaw

theorem txt_cells {w : World} {lo : Nat} {A : Option Addr} {n c : Nat} {ts : List (List UInt8)} (h : Txt w lo (.slice A n c) ts) : ts.length ≤ 140737488355328 ∧ ∀ j (h : j < ts.length), ∃ g, A = some ⟨g, 0, none⟩ ∧ w.cell? ⟨g, j, none⟩ = some (.string ⟨ts[j].toArray⟩) := by
  obtain ⟨A', c', e, hl, h⟩ := h
  injection e with e1 e2 e3
  subst e1
  refine ⟨hl, fun j hj => ?_⟩
  obtain ⟨g, h1, _, _, h2⟩ := h j hj
  exact ⟨g, h1, h2⟩
theorem enc_list (x : List UInt8) : (⟨x.toArray⟩ : ByteArray).toList = x := by rw [tm.toList_eq]
theorem in_yes {w : World} {lo : Nat} {v : Value} {ts : List (List UInt8)} (hT : Txt w lo v ts) {x : List UInt8} (hx : x ∈ ts) :
    Calls Try.prog 19 #[v, .string ⟨x.toArray⟩] w fun e w' => e = .returned (.bool true) ∧ w = w' := by
  have := in_any v lo ts ⟨x.toArray⟩ w hT
  rw [enc_list, decide_eq_true hx] at this
  exact this
theorem in_no {w : World} {lo : Nat} {v : Value} {ts : List (List UInt8)} (hT : Txt w lo v ts) {x : List UInt8} (hx : x ∉ ts) :
    Calls Try.prog 19 #[v, .string ⟨x.toArray⟩] w fun e w' => e = .returned (.bool false) ∧ w = w' := by
  have := in_any v lo ts ⟨x.toArray⟩ w hT
  rw [enc_list, decide_eq_false hx] at this
  exact this

theorem box_lies' {w : World} {t : T} {v : Value} (key : Nat) (o : Obj) (hk : key < 18446744073709551616) (h : Lies w w.heap.size t v) :
    Lies ((w.alloc (.cells #[.int .i64 t.k, .int .u64 t.n, .string t.s, v] 39)).alloc o) ((w.alloc (.cells #[.int .i64 t.k, .int .u64 t.n, .string t.s, v] 39)).alloc o).heap.size (boxT key t) (.slice (some ⟨w.heap.size, 0, none⟩) 1 1) := by
  have hbk := (Blk.new w 39 #[.int .i64 t.k, .int .u64 t.n, .string t.s, v]).alloc o
  have hr := Blk.rd (xs := [.int .i64 t.k, .int .u64 t.n, .string t.s, v]) (B := ((w.alloc (.cells #[.int .i64 t.k, .int .u64 t.n, .string t.s, v] 39)).alloc o).heap.size) hbk (by simp; omega)
  exact Lies.mk (t := boxT key t) (by show (-9223372036854775808 : Int) ≤ 4 ∧ (4 : Int) ≤ 9223372036854775807; omega) (by show (0 : Int) ≤ (key : Int) ∧ (key : Int) < 18446744073709551616; omega) (Nat.zero_le _) (Nat.le_refl _) (by show 1 * 56 ≤ 140737488355328; omega) hr
    ⟨_, [], rfl, (h.later (Nat.le_refl _) _).later (Nat.le_refl _) o, rfl⟩
theorem fin_one (s : ByteArray) : fin [s] = [s.data.toList] := by
  have h1 : srt (brs [s]) = [s.data.toList] := by simp [srt, brs]
  unfold fin
  rw [h1]
  simp [Lib.compact, Lib.compactUpTo, Lib.keeps]
def ownT : T := .mk 2 0 ⟨#[111, 119, 110]⟩ []
theorem own_right : ownT.right = 0 := by decide
theorem own_fin : fin (allOf [ownT]) = [[111, 119, 110]] := by
  rw [all_one own_right]
  show fin [⟨#[111, 119, 110]⟩] = _
  rw [fin_one]

theorem own_cell {w : World} {lo g n c : Nat} {x : List UInt8} {r : List (List UInt8)} (h : Txt w lo (.slice (some ⟨g, 0, none⟩) n c) (x :: r)) : w.cell? ⟨g, 0, none⟩ = some (.string ⟨x.toArray⟩) := by
  obtain ⟨g', h1, h2⟩ := (txt_cells h).2 0 (by simp)
  injection h1 with h1
  injection h1 with h1
  subst h1
  exact h2
theorem row_fin (t u : T) (h : (rowT [t, u]).right = 0) : fin (allOf [rowT [t, u]]) = fin (atoms t ++ atoms u) := by
  rw [all_one h, row_atoms]
  simp [atomsL]
theorem box_fin (key : Nat) (t : T) (h : (boxT (key : Int) t).right = 0) : fin (allOf [boxT (key : Int) t]) = fin (atoms t) := by
  rw [all_one h, box_atoms]

end Go.Proofs.Ytjlglfjikfpboaa.gathers
