/- What follows of a book, in pure words: it may be, always. -/
import Derived.Test.YtjlglfjikfpboaaBkM


namespace Go.Proofs.Ytjlglfjikfpboaa.books
set_option linter.unusedVariables false
set_option linter.unusedSimpArgs false
open Go.RowKit Go.Proofs.Ytjlglfjikfpboaa.base Go.Proofs.Ytjlglfjikfpboaa.quotas Go.Proofs.Ytjlglfjikfpboaa.vers Go.Proofs.Ytjlglfjikfpboaa.nodes Go.Proofs.Ytjlglfjikfpboaa.trees Go.Proofs.Ytjlglfjikfpboaa.texts

/-- a secret that may be -/
def fine (q : Qt) (x : PB) : Prop := nbad q.a q.b q.c q.d q.e q.f q.h x.1 x.2 = 0 ∧ x.2 ≠ []
/-- secrets that may be -/
structure Inv (q : Qt) (L : List PB) : Prop where
  up : Up L
  len : (L.length : Int) ≤ q.a
  fine : ∀ x ∈ L, fine q x
theorem Inv.nil {q : Qt} (hk : q.ok) : Inv q [] := ⟨List.Pairwise.nil, by have := hk.1.1; simp only [List.length_nil]; omega, fun x h => by cases h⟩
theorem vbad_app (c d : Int) (x : V) : ∀ (l : List V) (p : Int), vbad c d p l = 0 → (match l.getLast? with | some y => y.n | none => p) < x.n → x.n ≤ 1073741824 → (x.v.size : Int) ≤ c → (x.t.size : Int) ≤ d → vbad c d p (l ++ [x]) = 0
  | [], p, _, h1, h2, h3, h4 => by
    simp only [List.nil_append, vbad]
    simp only [List.getLast?_nil] at h1
    rw [if_neg (by omega), if_neg (by omega)]
  | y :: l, p, h, h1, h2, h3, h4 => by
    rw [List.cons_append, vbad]
    rw [vbad] at h
    by_cases g1 : y.n ≤ p ∨ 1073741824 < y.n
    · rw [if_pos g1] at h; cases h
    · rw [if_neg g1] at h ⊢
      by_cases g2 : c < (y.v.size : Int) ∨ d < (y.t.size : Int)
      · rw [if_pos g2] at h; cases h
      · rw [if_neg g2] at h ⊢
        refine vbad_app c d x l y.n h ?_ h2 h3 h4
        cases l with
        | nil => simpa using h1
        | cons z l =>
          rw [List.getLast?_cons_cons] at h1
          cases hg : (z :: l).getLast? with
          | none => simp at hg
          | some u => rw [hg] at h1; exact h1
theorem vbad_drop (c d : Int) : ∀ (l : List V) (p : Int) (k : Nat), vbad c d p l = 0 → 0 ≤ p → vbad c d 0 (l.drop k) = 0
  | [], p, k, h, _ => by simp [vbad]
  | y :: l, p, 0, h, hp => by
    rw [List.drop_zero]
    rw [vbad] at h ⊢
    by_cases g1 : y.n ≤ p ∨ 1073741824 < y.n
    · rw [if_pos g1] at h; cases h
    · rw [if_neg g1] at h
      rw [if_neg (by omega)]
      exact h
  | y :: l, p, k + 1, h, hp => by
    rw [List.drop_succ_cons]
    rw [vbad] at h
    by_cases g1 : y.n ≤ p ∨ 1073741824 < y.n
    · rw [if_pos g1] at h; cases h
    · rw [if_neg g1] at h
      by_cases g2 : c < (y.v.size : Int) ∨ d < (y.t.size : Int)
      · rw [if_pos g2] at h; cases h
      · rw [if_neg g2] at h
        exact vbad_drop c d l y.n k h (by omega)
theorem last_drop {l : List V} {k : Nat} (hk : k < l.length) : (l.drop k).getLast? = l.getLast? := by
  rw [List.getLast?_drop, if_neg (by omega)]
theorem noOf_last2 (l : List V) : (match l.getLast? with | some y => y.n | none => 0) < noOf l := by
  unfold noOf
  cases l.getLast? with
  | none => decide
  | some y => show y.n < y.n + 1; omega
/-- what a call makes of a secret may be -/
theorem addP_fine {a b c d e f h : Int} {s : ByteArray} {l : List V} {v t : ByteArray} {kp : Int} (h0 : (addP a b c d e f h s l v t kp).bad = 0) (hk1 : 1 ≤ kp) (hke : kp ≤ e) : nbad a b c d e f h s (addP a b c d e f h s l v t kp).k = 0 ∧ (addP a b c d e f h s l v t kp).k ≠ [] := by
  unfold addP at h0 ⊢
  by_cases h1 : nbad a b c d e f h s l ≠ 0
  · rw [if_pos h1] at h0; exact absurd h0 h1
  · rw [if_neg h1] at h0 ⊢
    by_cases h2 : c < (v.size : Int) ∨ d < (t.size : Int)
    · rw [if_pos h2] at h0; cases h0
    · rw [if_neg h2] at h0 ⊢
      by_cases h3 : 1073741824 < noOf l
      · rw [if_pos h3] at h0; cases h0
      · rw [if_neg h3]
        refine ⟨?_, by simp⟩
        have h1 : nbad a b c d e f h s l = 0 := by omega
        obtain ⟨hok, hl4, hle⟩ := nbad_zero h1
        rw [nbad_yes hok] at h1 ⊢
        by_cases g1 : s.size = 0
        · rw [if_pos g1] at h1; cases h1
        · rw [if_neg g1] at h1 ⊢
          by_cases g2 : b < (s.size : Int)
          · rw [if_pos g2] at h1; cases h1
          · rw [if_neg g2, if_neg (by omega)] at h1
            rw [if_neg g2]
            have hlen : ((l.drop ((l.length : Int) + 1 - kp).toNat ++ [(⟨noOf l, v, t⟩ : V)]).length : Int) ≤ e := by
              rw [List.length_append, List.length_drop, List.length_singleton]
              omega
            dsimp only
            rw [if_neg (by omega)]
            refine vbad_app c d _ _ 0 (vbad_drop c d l 0 _ h1 (Int.le_refl _)) ?_ (by show noOf l ≤ _; omega) (by show (v.size : Int) ≤ _; omega) (by show (t.size : Int) ≤ _; omega)
            show _ < noOf l
            have hlast := noOf_last2 l
            have hno : 0 < noOf l := by
              unfold noOf
              cases hg : l.getLast? with
              | none => decide
              | some y =>
                have hz : (lastV l).1.n + 1 = noOf l := (noOf_last l).symm
                have := lastV_in (a := a) (b := b) (c := c) (d := d) (e := e) (f := f) (h := h) (s := s) (l := l) (by rw [nbad_yes hok, if_neg g1, if_neg g2, if_neg (by omega)]; exact h1)
                unfold lastV at this
                rw [hg] at this
                show 0 < y.n + 1
                have := this.1
                simp only [] at this
                omega
            rcases Nat.lt_or_ge ((l.length : Int) + 1 - kp).toNat l.length with hk | hk
            · rw [last_drop hk]; exact hlast
            · rw [List.drop_eq_nil_of_le hk]; exact hno
theorem Inv.one {q : Qt} {L : List PB} (h : Inv q L) (hk : q.ok) (o : O) : Inv q (oneP q L o).1 := by
  rw [oneP_eq]
  split
  · exact h
  · split
    · unfold takeP
      split
      · exact h
      · exact ⟨del_up h.up _, by have := del_le L o.s; have := h.len; show ((del L o.s).length : Int) ≤ _; omega, fun x hx => h.fine x (List.mem_filter.1 hx).1⟩
    · unfold renewP
      split
      · exact h
      · rename_i hfull
        split
        · exact h
        · rename_i hbad
          have hbad : (newP q L o).bad = 0 := by omega
          have hke : 1 ≤ q.e := hk.2.2.2.2.1.1
          have hf := addP_fine hbad (by split <;> omega) (by split <;> omega)
          refine ⟨put_up h.up _, ?_, fun x hx => ?_⟩
          · show ((put L (o.s, (newP q L o).k)).length : Int) ≤ _
            rw [put_len h.up]
            have := h.len
            show ((if (lk L o.s).isSome = true then L.length else L.length + 1 : Nat) : Int) ≤ _
            cases hl : lk L o.s with
            | none =>
              have : (L.length : Int) ≠ q.a := fun e => hfull ⟨hl, e⟩
              simp only [Option.isSome_none, Bool.false_eq_true, if_false]
              omega
            | some l => simp only [Option.isSome_some, if_true]; omega
          · rcases (ins_mem _ _ _).1 hx with rfl | hx
            · exact hf
            · exact h.fine x (List.mem_filter.1 hx).1
theorem Inv.row {q : Qt} (hk : q.ok) : ∀ (ops : List O) {L : List PB} (i : Nat), Inv q L → Inv q (rowP q L ops i).1
  | [], _, _, h => h
  | o :: r, L, i, h => by
    rw [rowP]
    split
    · exact h
    · exact Inv.row hk r (i + 1) (h.one hk o)
theorem Inv.behind {q : Qt} {L : List PB} (h : Inv q L) (hk : q.ok) (ops : List O) : Inv q (behindP q L ops).1 := by
  unfold behindP
  split
  · exact h
  · exact Inv.row hk ops 0 h
/-- a book that may be, behind so many batches -/
structure BInv (q : Qt) (n : Nat) (b : Bk) : Prop where
  inv : Inv q b.L
  put : b.P.Pairwise (· < ·)
  plen : b.P.length ≤ 8 * n
theorem BInv.nil {q : Qt} (hk : q.ok) : BInv q 0 ⟨[], []⟩ := ⟨Inv.nil hk, List.Pairwise.nil, Nat.le_refl _⟩
theorem BInv.more {q : Qt} {n m : Nat} {b : Bk} (h : BInv q n b) (hn : n ≤ m) : BInv q m b := ⟨h.inv, h.put, by have := h.plen; omega⟩
theorem behind_len {q : Qt} {L : List PB} {ops : List O} (h : (behindP q L ops).2.1 = 0) : (ops.length : Int) ≤ q.f ∧ 0 < ops.length := by
  unfold behindP at h
  split at h
  · cases h
  · omega
theorem BInv.play {q : Qt} {n : Nat} {b : Bk} (h : BInv q n b) (hk : q.ok) (ops : List O) : BInv q (n + 1) (playP q b ops).1 := by
  unfold playP
  split
  · exact h.more (Nat.le_succ _)
  · rename_i h0
    have h0 : (behindP q b.L ops).2.1 = 0 := by omega
    have hl := behind_len h0
    have hf := hk.2.2.2.2.2.1.2
    refine ⟨h.inv.behind hk ops, wereP_up _ _ h.put, ?_⟩
    have := wereP_len ops b.P
    have := h.plen
    show (wereP b.P ops).length ≤ _
    omega
def playsP (q : Qt) (b : Bk) (bs : List (List O)) : Bk := bs.foldl (fun b l => (playP q b l).1) b
theorem BInv.plays {q : Qt} (hk : q.ok) : ∀ (bs : List (List O)) {n : Nat} {b : Bk}, BInv q n b → BInv q (n + bs.length) (playsP q b bs)
  | [], _, _, h => h
  | l :: r, n, b, h => by
    have := BInv.plays hk r (h.play hk l)
    rw [show n + (l :: r).length = n + 1 + r.length by rw [List.length_cons]; omega]
    exact this
theorem Inv.le {q : Qt} {L : List PB} (h : Inv q L) (hk : q.ok) : L.length ≤ 64 := by have := h.len; have := hk.1.2; omega
theorem vts_le {q : Qt} {x : PB} (h : books.fine q x) : x.2.length ≤ 4 := by
  have := (nbad_zero h.1).2.1
  omega
theorem allP_le : ∀ (L : List PB), (∀ x ∈ L, x.2.length ≤ 4) → (allP L).length ≤ 9 * L.length
  | [], _ => Nat.le_refl _
  | x :: L, h => by
    have h1 := allP_le L fun y hy => h y (List.mem_cons_of_mem _ hy)
    have h2 := h x List.mem_cons_self
    rw [allP, List.length_append, List.length_cons, vts_len, List.length_cons]
    omega
theorem Inv.texts {q : Qt} {L : List PB} (h : Inv q L) (hk : q.ok) : (allP L).length ≤ 4000000 := by
  have := allP_le L fun x hx => vts_le (h.fine x hx)
  have := h.le hk
  omega
end Go.Proofs.Ytjlglfjikfpboaa.books
