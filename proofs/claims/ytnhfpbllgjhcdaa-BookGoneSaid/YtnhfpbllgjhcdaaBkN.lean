/- A book behind batches: the laws' made. -/
import Derived.Test.YtnhfpbllgjhcdaaBkP
import Derived.Deep.CutBlock
import Derived.Deep.DeepCutAuto


namespace Go.Proofs.Ytnhfpbllgjhcdaa.books
set_option linter.unusedVariables false
set_option linter.unusedSimpArgs false
open Go.RowKit Go.Shelf Go.Proofs.Ytnhfpbllgjhcdaa.base Go.Proofs.Ytnhfpbllgjhcdaa.quotas Go.Proofs.Ytnhfpbllgjhcdaa.vers Go.Proofs.Ytnhfpbllgjhcdaa.nodes Go.Proofs.Ytnhfpbllgjhcdaa.trees Go.Proofs.Ytnhfpbllgjhcdaa.texts

def madeP (q : Qt) (bs : List BL) : Bk := playsP q ⟨[], []⟩ ((bs.take 40).map (·.l))
theorem playsP_snoc (q : Qt) (b : Bk) (l : List (List O)) (x : List O) : playsP q b (l ++ [x]) = (playP q (playsP q b l) x).1 := by simp [playsP, List.foldl_append]
theorem plays_next {q : Qt} {b : Bk} {bs : List BL} {j : Nat} (hj : j < bs.length) : playsP q b ((bs.take (j + 1)).map (·.l)) = (playP q (playsP q b ((bs.take j).map (·.l))) bs[j].l).1 := by
  rw [List.take_succ_eq_append_getElem hj, List.map_append, List.map_singleton, playsP_snoc]
theorem made_inv {q : Qt} (hk : q.ok) (bs : List BL) : BInv q 40 (madeP q bs) := by
  have := BInv.plays hk ((bs.take 40).map (·.l)) (BInv.nil hk)
  refine this.more ?_
  rw [List.length_map, List.length_take]
  omega
/-- where the loop stands -/
def MdHead (w : World) (q : Qt) (bp mp : Nat) (b : Bk) (wr : World) : Prop := Below w.heap.size w wr ∧ ∃ (Z : Nat → Prop), w.heap.size ≤ bp ∧ w.heap.size ≤ mp ∧ BAt wr q bp mp Z b ∧ ∀ g, Z g → w.heap.size ≤ g
theorem os_lt {w : World} {B : Nat} {l : List O} {A : Option Addr} {c : Nat} (h : Os w B l A c) : l ≠ [] → ∀ g off, A = some ⟨g, off, none⟩ → g < B := fun hn g off hA => by
  obtain ⟨b, off', e, hb, _⟩ := h.at_ (j := 0) (List.length_pos_iff.2 hn)
  rw [hA] at e
  injection e with e
  injection e with e _
  omega
theorem MdHead.below {w : World} {q : Qt} {bp mp : Nat} {b : Bk} {wr w2 : World} (h : MdHead w q bp mp b wr) (hb : Below wr.heap.size wr w2) : MdHead w q bp mp b w2 := by
  obtain ⟨h1, Z, h2, h3, h4, h5⟩ := h
  exact ⟨h1.trans (hb.mono h1.size), Z, h2, h3, h4.below hb, h5⟩
/-- a batch at such a book -/
theorem MdHead.play {w : World} {q : Qt} {bp mp : Nat} {b : Bk} {wr : World} {n : Nat} (h : MdHead w q bp mp b wr) (hk : q.ok) (hI : BInv q n b) (hn : n ≤ 1000) {ops : List O} {A : Option Addr} {c : Nat} (hO : Os wr wr.heap.size ops A c) (hA : ops ≠ [] → ∀ g off, A = some ⟨g, off, none⟩ → g < w.heap.size) :
    Calls Try.prog 26 #[.pointer (some ⟨bp, 0, none⟩), .slice A ops.length c] wr fun e w' => e = .returned (.tuple #[.int .i64 (playP q b ops).2.1, .int .i64 (playP q b ops).2.2]) ∧ MdHead w q bp mp (playP q b ops).1 w' ∧ Keep (fun g => g = bp ∨ g = mp) wr w' := by
  obtain ⟨h1, Z, h2, h3, h4, h5⟩ := h
  have hL := hI.inv.le hk
  have hP := hI.plen
  refine (play_any q bp mp Z b ops A c wr h4 hO (fun hn g off e => by have := hA hn g off e; omega) (by have := hk.2.2.2.2.2.1.2; omega) (by have := hk.2.2.2.2.2.1.2; omega)).mono ?_
  rintro e w' ⟨he, hK, Z', hB, hZ⟩
  refine ⟨he, ⟨h1.trans (hK.below (fun g hg => by rcases hg with rfl | rfl <;> assumption) h1.size), Z', h2, h3, hB, fun g hg => (hZ g hg).elim (h5 g) (fun h => Nat.le_trans h1.size h)⟩, hK⟩

set_option maxRecDepth 100000 in
set_option maxHeartbeats 2000000 in
theorem made_no (q : Qt) (bs : List BL) (A : Option Addr) (c : Nat) (w : World) (hk : ¬ q.ok) :
    Calls Try.prog 27 #[.agg #[.int .i64 q.a, .int .i64 q.b, .int .i64 q.c, .int .i64 q.d, .int .i64 q.e, .int .i64 q.f, .int .i64 q.h], .slice A bs.length c] w fun e w' => e = .returned (.pointer none) ∧ Below w.heap.size w w' := by
  have hn := fun w' => new_no q w' hk
  obtain ⟨qa, qb, qc, qd, qe, qf, qh⟩ := q
  have bA : Below w.heap.size w (w.alloc (.cells #[.int .i64 qa, .int .i64 qb, .int .i64 qc, .int .i64 qd, .int .i64 qe, .int .i64 qf, .int .i64 qh] 23)) := (Below.refl _ _).alloc (Nat.le_refl _) _
  simp only [] at *
  go_enter Try.func27, Try.ntmps27
  go_wp2_with fail
  refine (hn _).mono ?_
  rintro e w1 ⟨rfl, hb1⟩
  go_wp2_with fail
  go_ret
  exact ⟨rfl, bA.trans (hb1.mono bA.size)⟩

set_option maxRecDepth 100000 in
set_option maxHeartbeats 2000000 in
theorem made_ok (q : Qt) (bs : List BL) (A : Option Addr) (c : Nat) (w : World) (hk : q.ok) (hB : Bs w w.heap.size bs A c) :
    Calls Try.prog 27 #[.agg #[.int .i64 q.a, .int .i64 q.b, .int .i64 q.c, .int .i64 q.d, .int .i64 q.e, .int .i64 q.f, .int .i64 q.h], .slice A bs.length c] w fun e w' => ∃ bp mp, e = .returned (.pointer (some ⟨bp, 0, none⟩)) ∧ MdHead w q bp mp (madeP q bs) w' := by
  have hn := fun w' => new_ok q w' hk
  have hpl := fun (bp mp n : Nat) (b : Bk) wr (h : MdHead w q bp mp b wr) (hI : BInv q n b) (hn : n ≤ 1000) (ops : List O) (A : Option Addr) (c : Nat) (hO : Os wr wr.heap.size ops A c) hA => MdHead.play h hk hI hn (ops := ops) (A := A) (c := c) hO hA
  have hinv := fun j => BInv.plays hk ((bs.take j).map (·.l)) (BInv.nil hk)
  have hbl : bs.length ≤ 140737488355328 := by have := hB.2.1; omega
  obtain ⟨qa, qb, qc, qd, qe, qf, qh⟩ := q
  have bA : Below w.heap.size w (w.alloc (.cells #[.int .i64 qa, .int .i64 qb, .int .i64 qc, .int .i64 qd, .int .i64 qe, .int .i64 qf, .int .i64 qh] 23)) := (Below.refl _ _).alloc (Nat.le_refl _) _
  simp only [] at hn ⊢
  generalize hq : (⟨qa, qb, qc, qd, qe, qf, qh⟩ : Qt) = q at *
  go_enter Try.func27, Try.ntmps27
  go_wp2_with fail
  refine (hn _).mono ?_
  rintro e w1 ⟨bp, rfl, hb1, mp, Z, h2, h3, h4, h5⟩
  have hM0 : MdHead w q bp mp ⟨[], []⟩ w1 := by
    have z := bA.size
    exact ⟨bA.trans (hb1.mono z), Z, by omega, by omega, h4, fun g hg => (h5 g hg).elim (fun h => h.elim) (fun h => by omega)⟩
  clear hb1 h2 h3 h4 h5 hn bA
  go_upto_block 0 with (fail)
  go_cut [] (fun wx => MdHead w q bp mp (madeP q bs) wx)
  case first =>
    go_wp2_with fail
    go_loopw [22] (fun i wr => ∃ j : Nat, j ≤ bs.length ∧ j ≤ 40 ∧ i = .int .i64 (j : Int) ∧ MdHead w q bp mp (playsP q ⟨[], []⟩ ((bs.take j).map (·.l))) wr) (fun i _ => bs.length - (intOf i).toNat)
    case atStart => exact ⟨0, Nat.zero_le _, by omega, rfl, hM0⟩
    case round =>
      obtain ⟨j, hj, hj40, rfl, hM⟩ := hrel
      by_cases hlt : j < bs.length
      · obtain ⟨b, off, rfl, hb, e0, hO⟩ := (hB.below hM.1).at_ hlt
        by_cases h40 : j < 40
        · have d4 : decide ((40 : Int) ≤ (j : Int)) = false := decide_eq_false (by omega)
          have hI := hinv j
          rw [List.length_map, List.length_take] at hI
          have hp := hpl bp mp _ _ wr hM hI (by omega) bs[j].l bs[j].A bs[j].c (hO.more hM.1.size) (fun hn g off e => (os_lt hO hn g off e))
          have hnx := vers.lay (plays_next (q := q) (b := ⟨[], []⟩) hlt)
          generalize hg : playP q (playsP q ⟨[], []⟩ ((bs.take j).map (·.l))) bs[j].l = r at hp hnx
          clear hg
          generalize bs[j] = x at e0 hp
          go_wp2_with fail
          refine hp.mono ?_
          rintro e2 w2 ⟨rfl, hM2, _⟩
          go_wp2_with fail
          exact ⟨⟨j + 1, hlt, by omega, by go_num, by rw [hnx.out]; exact hM2⟩, by simp [intOf]; omega⟩
        · have d4 : decide ((40 : Int) ≤ (j : Int)) = true := decide_eq_true (by omega)
          obtain rfl : j = 40 := by omega
          go_wp2_with fail
          go_meet
          exact hM
      · obtain rfl : j = bs.length := by omega
        go_wp2_with fail
        go_meet
        have e : bs.take 40 = bs.take bs.length := by rw [List.take_of_length_le (by omega), List.take_of_length_le (Nat.le_refl _)]
        show MdHead w q bp mp (madeP q bs) _
        unfold madeP
        rw [e]
        exact hM
  case rest =>
    clear hM0
    go_wp2_with fail
    go_ret
    exact ⟨bp, mp, rfl, hcut⟩

end Go.Proofs.Ytnhfpbllgjhcdaa.books
