/- A book behind batches: the laws' made. -/
import Derived.Test.YtjlglfjikfpboaaBkP
import Derived.Deep.CutBlock
import Derived.Deep.DeepCutAuto


namespace Go.Proofs.Ytjlglfjikfpboaa.books
set_option linter.unusedVariables false
set_option linter.unusedSimpArgs false
open Go.RowKit Go.Shelf Go.Proofs.Ytjlglfjikfpboaa.base Go.Proofs.Ytjlglfjikfpboaa.quotas Go.Proofs.Ytjlglfjikfpboaa.vers Go.Proofs.Ytjlglfjikfpboaa.nodes Go.Proofs.Ytjlglfjikfpboaa.trees Go.Proofs.Ytjlglfjikfpboaa.texts

def madeP (q : Qt) (bs : List BL) : Bk := playsP q ⟨[], []⟩ ((bs.take 40).map (·.l))
theorem playsP_snoc (q : Qt) (b : Bk) (l : List (List O)) (x : List O) : playsP q b (l ++ [x]) = (playP q (playsP q b l) x).1 := by simp [playsP, List.foldl_append]
theorem plays_next {q : Qt} {b : Bk} {bs : List BL} {j : Nat} (hj : j < bs.length) : playsP q b ((bs.take (j + 1)).map (·.l)) = (playP q (playsP q b ((bs.take j).map (·.l))) bs[j].l).1 := by
  rw [List.take_succ_eq_append_getElem hj, List.map_append, List.map_singleton, playsP_snoc]
theorem made_inv {q : Qt} (hk : q.ok) (bs : List BL) : BInv q 40 (madeP q bs) := by
  have := BInv.plays hk ((bs.take 40).map (·.l)) (BInv.nil hk)
  refine this.more ?_
  rw [List.length_map, List.length_take]
  omega
/-- where the loop stands -/
def MdHead (w : World) (q : Qt) (bp mp : Nat) (b : Bk) (wr : World) : Prop := Below w.heap.size w wr ∧ ∃ (Z : Nat → Prop), w.heap.size ≤ bp ∧ w.heap.size ≤ mp ∧ BAt wr q bp mp Z b ∧ ∀ g, Z g → w.heap.size ≤ g
theorem os_lt {w : World} {B : Nat} {l : List O} {A : Option Addr} {c : Nat} (h : Os w B l A c) : l ≠ [] → ∀ g off, A = some ⟨g, off, none⟩ → g < B := fun hn g off hA => by
  obtain ⟨b, off', e, hb, _⟩ := h.at_ (j := 0) (List.length_pos_iff.2 hn)
  rw [hA] at e
  injection e with e
  injection e with e _
  omega
theorem MdHead.below {w : World} {q : Qt} {bp mp : Nat} {b : Bk} {wr w2 : World} (h : MdHead w q bp mp b wr) (hb : Below wr.heap.size wr w2) : MdHead w q bp mp b w2 := by
  obtain ⟨h1, Z, h2, h3, h4, h5⟩ := h
  exact ⟨h1.trans (hb.mono h1.size), Z, h2, h3, h4.below hb, h5⟩
/-- a batch at such a book -/
theorem MdHead.play {w : World} {q : Qt} {bp mp : Nat} {b : Bk} {wr : World} {n : Nat} (h : MdHead w q bp mp b wr) (hk : q.ok) (hI : BInv q n b) (hn : n ≤ 1000) {ops : List O} {A : Option Addr} {c : Nat} (hO : Os wr wr.heap.size ops A c) (hA : ops ≠ [] → ∀ g off, A = some ⟨g, off, none⟩ → g < w.heap.size) :
    Calls Try.prog 45 #[.pointer (some ⟨bp, 0, none⟩), .slice A ops.length c] wr fun e w' => e = .returned (.tuple #[.int .i64 (playP q b ops).2.1, .int .i64 (playP q b ops).2.2]) ∧ MdHead w q bp mp (playP q b ops).1 w' ∧ Keep (fun g => g = bp ∨ g = mp) wr w' := by
  obtain ⟨h1, Z, h2, h3, h4, h5⟩ := h
  have hL := hI.inv.le hk
  have hP := hI.plen
  refine (play_any q bp mp Z b ops A c wr h4 hO (fun hn g off e => by have := hA hn g off e; omega) (by have := hk.2.2.2.2.2.1.2; omega) (by have := hk.2.2.2.2.2.1.2; omega)).mono ?_
  rintro e w' ⟨he, hK, Z', hB, hZ⟩
  refine ⟨he, ⟨h1.trans (hK.below (fun g hg => by rcases hg with rfl | rfl <;> assumption) h1.size), Z', h2, h3, hB, fun g hg => (hZ g hg).elim (h5 g) (fun h => Nat.le_trans h1.size h)⟩, hK⟩

end Go.Proofs.Ytjlglfjikfpboaa.books
