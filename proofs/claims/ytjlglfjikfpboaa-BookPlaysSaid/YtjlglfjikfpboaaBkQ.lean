/- Books in a law: one, or two apart. -/
import Derived.Test.YtjlglfjikfpboaaBkN


namespace Go.Proofs.Ytjlglfjikfpboaa.books
set_option linter.unusedVariables false
set_option linter.unusedSimpArgs false
open Go.RowKit Go.Shelf Go.Proofs.Ytjlglfjikfpboaa.base Go.Proofs.Ytjlglfjikfpboaa.quotas Go.Proofs.Ytjlglfjikfpboaa.vers Go.Proofs.Ytjlglfjikfpboaa.nodes Go.Proofs.Ytjlglfjikfpboaa.trees Go.Proofs.Ytjlglfjikfpboaa.texts

abbrev oc (o : O) : Array Value := #[.int .i64 o.k, .string o.s, .string o.v, .string o.t]
/-- a row of one call -/
theorem os_one (o : O) (w : World) (hf : o.fits) : Os (w.alloc (.cells (oc o) 92)) (w.alloc (.cells (oc o) 92)).heap.size [o] (some ⟨w.heap.size, 0, none⟩) 1 := by
  refine ⟨Nat.le_refl _, by simp, (fun e => by cases e), fun j u hj => ⟨w.heap.size, 0, rfl, by simp, ?_⟩, fun x hx => by rw [List.mem_singleton.1 hx]; exact hf⟩
  rw [Nat.zero_add, (Blk.new w 92 (oc o)).cell]
  simpa [cellsO, O.cells] using hj
theorem MdHead.lt {w : World} {q : Qt} {bp mp : Nat} {b : Bk} {wr : World} (h : MdHead w q bp mp b wr) : (w.heap.size ≤ bp ∧ bp < wr.heap.size) ∧ (w.heap.size ≤ mp ∧ mp < wr.heap.size) := by
  obtain ⟨h1, Z, h2, h3, h4, h5⟩ := h
  exact ⟨⟨h2, h4.lt.1⟩, h3, h4.lt.2⟩
section
variable {w : World} {q : Qt} {bp mp : Nat} {b : Bk} {wr : World} {n : Nat}
theorem MdHead.play_one (h : MdHead w q bp mp b wr) (hk : q.ok) (hI : BInv q n b) (hn : n ≤ 1000) (o : O) (hf : o.fits) :
    Calls Try.prog 45 #[.pointer (some ⟨bp, 0, none⟩), .slice (some ⟨wr.heap.size, 0, none⟩) 1 1] (wr.alloc (.cells (oc o) 92)) fun e w' => e = .returned (.tuple #[.int .i64 (playP q b [o]).2.1, .int .i64 (playP q b [o]).2.2]) ∧ MdHead w q bp mp (playP q b [o]).1 w' ∧ Keep (fun g => g = bp ∨ g = mp) wr w' := by
  have hA : Below wr.heap.size wr (wr.alloc (.cells (oc o) 92)) := (Below.refl _ _).alloc (Nat.le_refl _) _
  have hl := h
  obtain ⟨h1, Z, h2, h3, h4, h5⟩ := h
  have hL := hI.inv.le hk
  have hP := hI.plen
  have hlt := h4.lt
  refine (play_any q bp mp Z b [o] (some ⟨wr.heap.size, 0, none⟩) 1 _ (h4.below hA) (os_one o wr hf) (fun _ g off e => by injection e with e; injection e with e _; omega) (.inl (by simp; omega)) (.inl (by simp; omega))).mono ?_
  rintro e w' ⟨he, hK, Z', hB, hZ⟩
  have h1A := h1.trans (hA.mono h1.size)
  refine ⟨he, ⟨h1A.trans (hK.below (fun g hg => by rcases hg with rfl | rfl <;> assumption) h1A.size), Z', h2, h3, hB, fun g hg => (hZ g hg).elim (h5 g) (fun h => Nat.le_trans h1A.size h)⟩, (Keep.of_below hA).trans hK (fun g hg _ => hg)⟩
theorem MdHead.judge_one (h : MdHead w q bp mp b wr) (hk : q.ok) (hI : BInv q n b) (o : O) (hf : o.fits) :
    Calls Try.prog 36 #[.pointer (some ⟨bp, 0, none⟩), .slice (some ⟨wr.heap.size, 0, none⟩) 1 1] (wr.alloc (.cells (oc o) 92)) fun e w' => e = .returned (.tuple #[.int .i64 (behindP q b.L [o]).2.1, .int .i64 (behindP q b.L [o]).2.2]) ∧ Below wr.heap.size wr w' := by
  have hA : Below wr.heap.size wr (wr.alloc (.cells (oc o) 92)) := (Below.refl _ _).alloc (Nat.le_refl _) _
  obtain ⟨h1, Z, h2, h3, h4, h5⟩ := h
  have hL := hI.inv.le hk
  refine (judge_ok q bp mp Z b [o] (some ⟨wr.heap.size, 0, none⟩) 1 _ (h4.below hA) (os_one o wr hf) (.inl (by simp; omega))).mono ?_
  rintro e w' ⟨he, hb⟩
  exact ⟨he, hA.trans (hb.mono hA.size)⟩
theorem MdHead.judge (h : MdHead w q bp mp b wr) (hk : q.ok) (hI : BInv q n b) {ops : List O} {A : Option Addr} {c : Nat} (hO : Os wr wr.heap.size ops A c) :
    Calls Try.prog 36 #[.pointer (some ⟨bp, 0, none⟩), .slice A ops.length c] wr fun e w' => e = .returned (.tuple #[.int .i64 (behindP q b.L ops).2.1, .int .i64 (behindP q b.L ops).2.2]) ∧ Below wr.heap.size wr w' := by
  obtain ⟨h1, Z, h2, h3, h4, h5⟩ := h
  have hL := hI.inv.le hk
  exact judge_ok q bp mp Z b ops A c _ h4 hO (by have := hk.2.2.2.2.2.1.2; omega)
theorem MdHead.all (h : MdHead w q bp mp b wr) (hk : q.ok) (hI : BInv q n b) : Calls Try.prog 77 #[.pointer (some ⟨bp, 0, none⟩)] wr (AllPost wr b.L) := by
  obtain ⟨h1, Z, h2, h3, ⟨ms, Y, e1, ⟨es, hpe, hown, hV, hY⟩, hT, hP, e5, e6, e7, e8⟩, h5⟩ := h
  have hL := hI.inv.le hk
  have hu := hI.inv.up
  rw [← hpe] at hL hu ⊢
  rw [List.length_map] at hL
  exact all_own bp ms mp q es Y wr e1 hown hV hu (by omega)
theorem MdHead.names (h : MdHead w q bp mp b wr) (hk : q.ok) (hI : BInv q n b) {ps : List ByteArray} {A : Option Addr} {c : Nat} (hT : Ts wr wr.heap.size ps A c) :
    Calls Try.prog 41 #[.pointer (some ⟨bp, 0, none⟩), .slice A ps.length c] wr fun e w' => ∃ v, e = .returned v ∧ Below wr.heap.size wr w' ∧ Txt w' wr.heap.size v (namesP b.L ps) := by
  obtain ⟨h1, Z, h2, h3, ⟨ms, Y, e1, ⟨es, hpe, hown, hV, hY⟩, hT2, hP, e5, e6, e7, e8⟩, h5⟩ := h
  have hL := hI.inv.le hk
  have hu := hI.inv.up
  rw [← hpe] at hL hu ⊢
  have hnl := names_le (es.map pe) ps
  rw [List.length_map] at hL
  rw [List.length_map] at hnl
  refine (names_own bp ms mp q es ps A c wr e1 hown hu hT (by omega)).mono ?_
  rintro e w' ⟨v, he, hb, ho⟩
  exact ⟨v, he, hb, own_txt ho (by omega)⟩
theorem MdHead.gone (h : MdHead w q bp mp b wr) (hk : q.ok) (hI : BInv q n b) (hn : n ≤ 1000) : Calls Try.prog 78 #[.pointer (some ⟨bp, 0, none⟩)] wr fun e w' => ∃ v, e = .returned v ∧ Below wr.heap.size wr w' ∧ Txt w' wr.heap.size v (goneP b) := by
  obtain ⟨h1, Z, h2, h3, h4, h5⟩ := h
  have hL := hI.inv.le hk
  have hP := hI.plen
  exact gone_ok bp mp q Z b wr h4 hI.inv.up (by omega) (by omega) (hI.inv.texts hk)
theorem MdHead.get (h : MdHead w q bp mp b wr) {s : ByteArray} (hs : s.size ≤ maxLen) : Calls Try.prog 38 #[.pointer (some ⟨bp, 0, none⟩), .string s] wr (GetPost wr (getP b.L s)) := by
  obtain ⟨h1, Z, h2, h3, h4, h5⟩ := h
  exact get_ok q bp mp Z b s wr h4 hs
end

/-- two books apart -/
def Two (w : World) (q : Qt) (p1 m1 : Nat) (b1 : Bk) (p2 m2 : Nat) (b2 : Bk) (wr : World) : Prop :=
  Below w.heap.size w wr ∧ ∃ (Z1 Z2 : Nat → Prop), BAt wr q p1 m1 Z1 b1 ∧ BAt wr q p2 m2 Z2 b2 ∧ (w.heap.size ≤ p1 ∧ w.heap.size ≤ m1 ∧ w.heap.size ≤ p2 ∧ w.heap.size ≤ m2) ∧ (∀ g, g = p1 ∨ g = m1 → g ≠ p2 ∧ g ≠ m2 ∧ ¬ Z2 g) ∧ (∀ g, g = p2 ∨ g = m2 → g ≠ p1 ∧ g ≠ m1 ∧ ¬ Z1 g) ∧ (∀ g, Z1 g → w.heap.size ≤ g) ∧ ∀ g, Z2 g → w.heap.size ≤ g
section
variable {w : World} {q : Qt} {p1 p2 m1 m2 : Nat} {b1 b2 : Bk} {wr w' : World} {n : Nat}
theorem Two.symm (h : Two w q p1 m1 b1 p2 m2 b2 wr) : Two w q p2 m2 b2 p1 m1 b1 wr := by
  obtain ⟨h0, Z1, Z2, h1, h2, h3, h4, h5, h6, h7⟩ := h
  exact ⟨h0, Z2, Z1, h2, h1, ⟨h3.2.2.1, h3.2.2.2, h3.1, h3.2.1⟩, h5, h4, h7, h6⟩
theorem Two.md (h : Two w q p1 m1 b1 p2 m2 b2 wr) : MdHead w q p1 m1 b1 wr := by
  obtain ⟨h0, Z1, Z2, h1, h2, h3, h4, h5, h6, h7⟩ := h
  exact ⟨h0, Z1, h3.1, h3.2.1, h1, h6⟩
theorem Two.below (h : Two w q p1 m1 b1 p2 m2 b2 wr) (hb : Below wr.heap.size wr w') : Two w q p1 m1 b1 p2 m2 b2 w' := by
  obtain ⟨h0, Z1, Z2, h1, h2, h3, h4, h5, h6, h7⟩ := h
  exact ⟨h0.trans (hb.mono h0.size), Z1, Z2, h1.below hb, h2.below hb, h3, h4, h5, h6, h7⟩
theorem Two.of_made {wa : World} (h : MdHead w q p1 m1 b1 wa) (k : MdHead wa q p2 m2 b2 wr) : Two w q p1 m1 b1 p2 m2 b2 wr := by
  obtain ⟨h0, Z1, h1, h2, h3, h4⟩ := h
  obtain ⟨k0, Z2, k1, k2, k3, k4⟩ := k
  have l1 := h3.lt
  have hz := h0.size
  have hZ1 : ∀ g, Z1 g → g < wa.heap.size := fun g hg => by obtain ⟨_, _, _, _, _, _, _, _, e7, _⟩ := h3; exact (e7 g hg).2.2
  refine ⟨h0.trans (k0.mono hz), Z1, Z2, h3.below k0, k3, ⟨h1, h2, by omega, by omega⟩, fun g hg => ⟨by omega, by omega, fun h => by have := k4 g h; omega⟩, fun g hg => ⟨by omega, by omega, fun h => by have := hZ1 g h; omega⟩, h4, fun g hg => by have := k4 g hg; omega⟩
theorem Two.of_copy (h : MdHead w q p1 m1 b1 wr) : Calls Try.prog 44 #[.pointer (some ⟨p1, 0, none⟩)] wr fun e w' => ∃ p2 m2, e = .returned (.pointer (some ⟨p2, 0, none⟩)) ∧ Below wr.heap.size wr w' ∧ Two w q p1 m1 b1 p2 m2 b1 w' ∧ wr.heap.size ≤ p2 ∧ wr.heap.size ≤ m2 := by
  obtain ⟨h0, Z1, h1, h2, h3, h4⟩ := h
  refine (copy_ok q p1 m1 Z1 b1 wr h3).mono ?_
  rintro e w' ⟨cp, he, hb, m2, Z2, k1, k2, k3, k4⟩
  have l1 := h3.lt
  have hz := h0.size
  have hZ1 : ∀ g, Z1 g → g ≠ p1 ∧ g ≠ m1 ∧ g < wr.heap.size := fun g hg => by obtain ⟨_, _, _, _, _, _, _, _, e7, _⟩ := h3; exact e7 g hg
  refine ⟨cp, m2, he, hb, ⟨h0.trans (hb.mono hz), Z1, Z2, h3.below hb, k3, ⟨h1, h2, by omega, by omega⟩, fun g hg => ⟨by omega, by omega, fun h => ?_⟩, fun g hg => ⟨by omega, by omega, fun h => by have := (hZ1 g h).2.2; omega⟩, h4, fun g hg => (k4 g hg).elim (h4 g) (fun h => by omega)⟩, k1, k2⟩
  rcases k4 g h with h | h
  · have := hZ1 g h; omega
  · omega
theorem two_core {Z1 Z2 : Nat → Prop} (h0 : Below w.heap.size w wr) (h1 : BAt wr q p1 m1 Z1 b1) (h2 : BAt wr q p2 m2 Z2 b2) (h3 : w.heap.size ≤ p1 ∧ w.heap.size ≤ m1 ∧ w.heap.size ≤ p2 ∧ w.heap.size ≤ m2) (h4 : ∀ g, g = p1 ∨ g = m1 → g ≠ p2 ∧ g ≠ m2 ∧ ¬ Z2 g) (h5 : ∀ g, g = p2 ∨ g = m2 → g ≠ p1 ∧ g ≠ m1 ∧ ¬ Z1 g) (h6 : ∀ g, Z1 g → w.heap.size ≤ g) (h7 : ∀ g, Z2 g → w.heap.size ≤ g)
    (hk : q.ok) (hI : BInv q n b1) (hn : n ≤ 1000) {ops : List O} {A : Option Addr} {c : Nat} (hO : Os wr wr.heap.size ops A c) (hA : ops ≠ [] → ∀ g off, A = some ⟨g, off, none⟩ → g ≠ p1 ∧ g ≠ m1) :
    Calls Try.prog 45 #[.pointer (some ⟨p1, 0, none⟩), .slice A ops.length c] wr fun e w' => e = .returned (.tuple #[.int .i64 (playP q b1 ops).2.1, .int .i64 (playP q b1 ops).2.2]) ∧ Two w q p1 m1 (playP q b1 ops).1 p2 m2 b2 w' ∧ Keep (fun g => g = p1 ∨ g = m1) wr w' := by
  have hL := hI.inv.le hk
  have hP := hI.plen
  have l2 := h2.lt
  have hz := h0.size
  refine (play_any q p1 m1 Z1 b1 ops A c wr h1 hO hA (by have := hk.2.2.2.2.2.1.2; omega) (by have := hk.2.2.2.2.2.1.2; omega)).mono ?_
  rintro e w' ⟨he, hK, Z', hB, hZ⟩
  refine ⟨he, ⟨h0.trans (hK.below (fun g hg => by rcases hg with rfl | rfl <;> omega) hz), Z', Z2, hB, h2.keep hK (fun h => (h4 p2 h).1 rfl) (fun h => (h4 m2 h).2.1 rfl) (fun g hg h => (h4 g h).2.2 hg), h3, h4, fun g hg => ⟨(h5 g hg).1, (h5 g hg).2.1, fun h => ?_⟩, fun g hg => (hZ g hg).elim (h6 g) (fun h => by omega), h7⟩, hK⟩
  rcases hZ g h with h | h
  · exact (h5 g hg).2.2 h
  · omega
theorem Two.play (h : Two w q p1 m1 b1 p2 m2 b2 wr) (hk : q.ok) (hI : BInv q n b1) (hn : n ≤ 1000) {ops : List O} {A : Option Addr} {c : Nat} (hO : Os wr wr.heap.size ops A c) (hA : ops ≠ [] → ∀ g off, A = some ⟨g, off, none⟩ → g < w.heap.size) :
    Calls Try.prog 45 #[.pointer (some ⟨p1, 0, none⟩), .slice A ops.length c] wr fun e w' => e = .returned (.tuple #[.int .i64 (playP q b1 ops).2.1, .int .i64 (playP q b1 ops).2.2]) ∧ Two w q p1 m1 (playP q b1 ops).1 p2 m2 b2 w' ∧ Keep (fun g => g = p1 ∨ g = m1) wr w' := by
  obtain ⟨h0, Z1, Z2, h1, h2, h3, h4, h5, h6, h7⟩ := h
  exact (two_core h0 h1 h2 h3 h4 h5 h6 h7 hk hI hn hO (fun hn g off e => by have := hA hn g off e; omega))
theorem Two.play_one (h : Two w q p1 m1 b1 p2 m2 b2 wr) (hk : q.ok) (hI : BInv q n b1) (hn : n ≤ 1000) (o : O) (hf : o.fits) :
    Calls Try.prog 45 #[.pointer (some ⟨p1, 0, none⟩), .slice (some ⟨wr.heap.size, 0, none⟩) 1 1] (wr.alloc (.cells (oc o) 92)) fun e w' => e = .returned (.tuple #[.int .i64 (playP q b1 [o]).2.1, .int .i64 (playP q b1 [o]).2.2]) ∧ Two w q p1 m1 (playP q b1 [o]).1 p2 m2 b2 w' ∧ Keep (fun g => g = p1 ∨ g = m1) wr w' := by
  have hA : Below wr.heap.size wr (wr.alloc (.cells (oc o) 92)) := (Below.refl _ _).alloc (Nat.le_refl _) _
  obtain ⟨h0, Z1, Z2, h1, h2, h3, h4, h5, h6, h7⟩ := h
  have l1 := h1.lt
  exact (two_core (h0.trans (hA.mono h0.size)) (h1.below hA) (h2.below hA) h3 h4 h5 h6 h7 hk hI hn (os_one o wr hf) (fun _ g off e => by injection e with e; injection e with e _; omega)).mono fun _ _ h => ⟨h.1, h.2.1, (Keep.of_below hA).trans h.2.2 (fun g hg _ => hg)⟩
end
end Go.Proofs.Ytjlglfjikfpboaa.books
