/- The walk of BookEmpties. -/
import Derived.Test.YtjlglfjikfpboaaBkU


namespace Go.Proofs.Ytjlglfjikfpboaa.books
set_option linter.unusedVariables false
set_option linter.unusedSimpArgs false
open Go.RowKit Go.Shelf Go.Proofs.Ytjlglfjikfpboaa.base Go.Proofs.Ytjlglfjikfpboaa.quotas Go.Proofs.Ytjlglfjikfpboaa.vers Go.Proofs.Ytjlglfjikfpboaa.nodes Go.Proofs.Ytjlglfjikfpboaa.trees Go.Proofs.Ytjlglfjikfpboaa.texts

theorem txt_keep {S : Nat → Prop} {w w' : World} {lo : Nat} {v : Value} {ts : List (List UInt8)} (h : Txt w lo v ts) (hk : Keep S w w') (hS : ∀ g, S g → g < lo) : Txt w' lo v ts := by
  obtain ⟨A, c, e, hl, h⟩ := h
  refine ⟨A, c, e, hl, fun j hj => ?_⟩
  obtain ⟨g, h1, h2, h3, h4⟩ := h j hj
  exact ⟨g, h1, h2, Nat.lt_of_lt_of_le h3 hk.size, (hk.cell (p := ⟨g, j, none⟩) h3 (fun hs => by have := hS g hs; omega)).trans h4⟩
theorem txt_lower {w : World} {lo lo' : Nat} {v : Value} {ts : List (List UInt8)} (h : Txt w lo v ts) (hl : lo' ≤ lo) : Txt w lo' v ts := by
  obtain ⟨A, c, e, hn, h⟩ := h
  refine ⟨A, c, e, hn, fun j hj => ?_⟩
  obtain ⟨g, h1, h2, h3, h4⟩ := h j hj
  exact ⟨g, h1, by omega, h3, h4⟩
theorem insert_lo (v : Value) (lo : Nat) (ts : List (List UInt8)) (s : ByteArray) (w : World) (hT : Txt w lo v ts) (hn : ts.length ≤ 4000000) :
    Calls Try.prog 82 #[v, .string s] w fun e w' => ∃ v', e = .returned v' ∧ Below w.heap.size w w' ∧ Txt w' w.heap.size v' (insD (bn s) ts false) := insert_any v lo ts s.data.toList w hT hn
theorem name_ok {q : Qt} {x : PB} (h : books.fine q x) (hk : q.ok) : x.1.size ≠ 0 ∧ (x.1.size : Int) ≤ q.b := by
  have := h.1
  rw [nbad_yes hk] at this
  constructor
  · intro h0
    rw [if_pos h0] at this; cases this
  · by_cases h0 : x.1.size = 0
    · rw [if_pos h0] at this; cases this
    · rw [if_neg h0] at this
      by_cases h1 : q.b < (x.1.size : Int)
      · rw [if_pos h1] at this; cases this
      · omega
theorem del_head {q : Qt} (hk : q.ok) {x : PB} {r : List PB} (hI : Inv q (x :: r)) (v t : ByteArray) : oneP q (x :: r) ⟨3, x.1, v, t⟩ = (r, 0) := by
  obtain ⟨n1, n2⟩ := name_ok (hI.fine x List.mem_cons_self) hk
  have hr : rightO q ⟨3, x.1, v, t⟩ = 0 := by
    unfold rightO
    rw [if_neg (fun h => h.2.2 rfl), if_neg n1, if_neg (by show ¬ q.b < (x.1.size : Int); omega), if_neg (fun h => h.1 rfl)]
  have h2 : del (x :: r) x.1 = r := by
    have := (List.pairwise_cons.1 hI.up).1
    unfold del
    rw [List.filter_cons, if_neg (by simp)]
    exact List.filter_eq_self.2 fun y hy => by
      simp only [decide_eq_true_eq]
      intro e
      have := this y hy
      rw [e] at this
      exact bn_irrefl _ this
  rw [oneP_eq, if_neg (fun h => h hr), if_pos rfl]
  unfold takeP
  simp only [lk, if_true]
  rw [h2]
theorem Inv.drop {q : Qt} {L : List PB} (h : Inv q L) (k : Nat) : Inv q (L.drop k) :=
  ⟨h.up.sublist (List.drop_sublist k L), by have := h.len; rw [List.length_drop]; omega, fun x hx => h.fine x (List.mem_of_mem_drop hx)⟩
theorem play_del {q : Qt} (hk : q.ok) {L : List PB} (hI : Inv q L) (P : List (List UInt8)) {k : Nat} (hlt : k < L.length) (v t : ByteArray) : playP q ⟨L.drop k, P⟩ [⟨3, L[k].1, v, t⟩] = (⟨L.drop (k + 1), P⟩, 0, 0) := by
  rw [playP_one hk]
  have h := hI.drop k
  rw [List.drop_eq_getElem_cons hlt] at h
  simp only [List.drop_eq_getElem_cons hlt, del_head hk h v t]
  simp [wereP_one]

/-- where a loop stands: the book, and a row of texts apart from it -/
def EpHead (W : World) (q : Qt) (bp mp : Nat) (B : Nat) (b : Bk) (ts : List (List UInt8)) (v : Value) (wr : World) : Prop := MdHead W q bp mp b wr ∧ Txt wr B v ts ∧ B ≤ wr.heap.size
theorem EpHead.below {W : World} {q : Qt} {bp mp B : Nat} {b : Bk} {ts : List (List UInt8)} {v : Value} {wr w' : World} (h : EpHead W q bp mp B b ts v wr) (hb : Below wr.heap.size wr w') : EpHead W q bp mp B b ts v w' := ⟨h.1.below hb, h.2.1.below hb, Nat.le_trans h.2.2 hb.size⟩
theorem EpHead.box {W : World} {q : Qt} {bp mp B : Nat} {b : Bk} {ts : List (List UInt8)} {v : Value} {wr : World} (h : EpHead W q bp mp B b ts v wr) (o : Obj) : EpHead W q bp mp B b ts v (wr.alloc o) := h.below ((Below.refl _ _).alloc (Nat.le_refl _) _)
theorem EpHead.ins {W : World} {q : Qt} {bp mp B : Nat} {b : Bk} {ts ts' : List (List UInt8)} {v v' : Value} {wr w' : World} (h : EpHead W q bp mp B b ts v wr) (hb : Below wr.heap.size wr w') (hT : Txt w' wr.heap.size v' ts') : EpHead W q bp mp B b ts' v' w' := ⟨h.1.below hb, txt_lower hT h.2.2, Nat.le_trans h.2.2 hb.size⟩

end Go.Proofs.Ytjlglfjikfpboaa.books
