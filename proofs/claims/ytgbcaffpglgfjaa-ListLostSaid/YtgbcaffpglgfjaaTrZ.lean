/- The walk of TreeLost. -/
import Derived.Test.YtgbcaffpglgfjaaTrY
import Derived.Deep.CutBlock
import Derived.Deep.DeepCutAuto


namespace Go.Proofs.Ytgbcaffpglgfjaa.trees
set_option linter.unusedVariables false
set_option linter.unusedSimpArgs false
open Go.RowKit Go.Proofs.Ytgbcaffpglgfjaa.base Go.Proofs.Ytgbcaffpglgfjaa.vers Go.Proofs.Ytgbcaffpglgfjaa.nodes Go.Proofs.Ytgbcaffpglgfjaa.quotas

/-- nodes of one kid each -/
def kidOf (j : Nat) : K := ⟨⟨#[97]⟩, j + 1, ((j / 4 : Nat) : Int), ((j % 4 : Nat) : Int), 1⟩
def cn : Nat → P3
  | 0 => (false, [], [])
  | j + 1 => (false, [], [kidOf j])
def chain (n : Nat) : List P3 := (List.range n).map cn
theorem chain_len (n : Nat) : (chain n).length = n := by simp [chain]
theorem chain_succ (n : Nat) : chain (n + 1) = chain n ++ [cn n] := by simp [chain, List.range_succ]
theorem chain_at {n j : Nat} (h : j < n) : (chain n)[j]? = some (cn j) := by simp [chain, h]
theorem chain_bad {n : Nat} : ∀ (j : Nat), j < n → ∀ d, Bad (chain n) (refOf j) d 70
  | 0, h, d => by
    refine .page ?_
    unfold pageE
    split
    · rfl
    · rw [pageAt_of, chain_at h]; rfl
  | j + 1, h, d => by
    by_cases hd : 8 < d
    · refine .page ?_
      unfold pageE
      rw [if_pos hd]
    · refine .step (es := []) (x := kidOf j) ?_ (chain_bad j (by omega) (d + 1))
      unfold pageE
      rw [if_neg hd, pageAt_of, chain_at h]
      simp [cn]
theorem none_bad (r : R) : Bad [] r 1 71 := by
  refine .page ?_
  unfold pageE pageAt
  rw [if_neg (by omega)]
  have : (if r.k ≠ 0 ∧ r = refOf (r.k - 1) then ([] : List P3)[r.k - 1]? else none) = none := by split <;> rfl
  rw [this]

theorem refOf_ok {j : Nat} (h : j < 1000000) : (refOf j).fits := by
  unfold R.fits i64
  simp only [refOf]
  omega
/-- behind the pages: the heap, the root that is asked, the secret -/
def LT (w : World) (h gE : Nat) (ve : Value) (s : ByteArray) (S : Nat → Prop) (ns : List P3) (r : R) (wr : World) : Prop :=
  Hp wr h S ns ∧ (∀ g, S g → w.heap.size + 1 ≤ g ∧ g ≠ gE) ∧ w.heap.size < gE ∧ Blk wr w.heap.size 27 #[.int .u64 (r.k : Int), .int .i64 r.g, .int .i64 r.o, .int .i64 r.n] ∧ Blk wr gE 47 #[.string s, ve] ∧ Below w.heap.size w wr
theorem LT.next {w : World} {h gE : Nat} {ve : Value} {s : ByteArray} {S : Nat → Prop} {ns : List P3} {r : R} {wr w' : World} (hL : LT w h gE ve s S ns r wr) (hb : Below wr.heap.size wr w') : LT w h gE ve s S ns r w' := by
  obtain ⟨h1, h2, h3, h4, h5, h6⟩ := hL
  exact ⟨h1.below hb, h2, h3, h4.below hb h4.lt, h5.below hb h5.lt, h6.trans (hb.mono h6.size)⟩
def setR (w : World) (g : Nat) (r : R) : World := (((w.setCell ⟨g, 0, none⟩ (.int .u64 (r.k : Int))).setCell ⟨g, 1, none⟩ (.int .i64 r.g)).setCell ⟨g, 2, none⟩ (.int .i64 r.o)).setCell ⟨g, 3, none⟩ (.int .i64 r.n)
theorem setR_heap (w : World) (g : Nat) (r : R) (j : Nat) (h : j ≠ g) : (setR w g r).heap[j]? = w.heap[j]? := by
  unfold setR
  rw [Below.heap_setCell _ _ _ _ (by simpa using h), Below.heap_setCell _ _ _ _ (by simpa using h), Below.heap_setCell _ _ _ _ (by simpa using h), Below.heap_setCell _ _ _ _ (by simpa using h)]
theorem setR_size (w : World) (g : Nat) (r : R) : (setR w g r).heap.size = w.heap.size := by simp [setR]
/-- the page is laid down, its reference is the root that is asked -/
theorem LT.wrote {w : World} {h gE : Nat} {ve : Value} {s : ByteArray} {S : Nat → Prop} {ns : List P3} {r r' : R} {x : P3} {wr w1 w2 w3 : World} (hL : LT w h gE ve s S ns r wr) (hb : Below wr.heap.size wr w1) (hK : Keep S w1 w2) (hH : Hp w2 h (More S w1 w2) (ns ++ [x])) (hb2 : Below w2.heap.size w2 w3) :
    LT w h gE ve s (More S w1 w2) (ns ++ [x]) r' (setR w3 w.heap.size r') := by
  have hL1 := hL.next hb
  obtain ⟨h1, h2, h3, h4, h5, h6⟩ := hL1
  have s2 := hK.size
  have s3 := hb2.size
  have l5 := h5.lt
  have l4 := h4.lt
  refine ⟨?_, ?_, h3, ?_, ?_, ?_⟩
  · refine (hH.below hb2).agree (fun g hg => setR_heap _ _ _ _ ?_) (by rw [setR_size]; exact Nat.le_refl _)
    rcases hg with hg | hg
    · have := h2 g hg; omega
    · omega
  · intro g hg
    rcases hg with hg | hg
    · exact h2 g hg
    · omega
  · have k := (hK.blk h4 (fun e => by have := h2 _ e; omega)).below hb2 (by omega)
    have := (((k.put 0 (.int .u64 (r'.k : Int))).put 1 (.int .i64 r'.g)).put 2 (.int .i64 r'.o)).put 3 (.int .i64 r'.n)
    simpa [setR] using this
  · exact (setR_heap _ _ _ _ (by omega)).trans ((hK.blk h5 (fun e => (h2 _ e).2 rfl)).below hb2 (by omega))
  · have b2 : Below w.heap.size w w3 := (h6.trans (hK.below (fun g hg => by have := h2 g hg; omega) h6.size)).trans (hb2.mono (by have := h6.size; omega))
    exact ((((b2.setCell (p := ⟨w.heap.size, 0, none⟩) (Nat.le_refl _) _).setCell (p := ⟨w.heap.size, 1, none⟩) (Nat.le_refl _) _).setCell (p := ⟨w.heap.size, 2, none⟩) (Nat.le_refl _) _).setCell (p := ⟨w.heap.size, 3, none⟩) (Nat.le_refl _) _)

end Go.Proofs.Ytgbcaffpglgfjaa.trees
