/- The walk of BookAtomic. -/
import Derived.Test.YtnhfpbllgjhcdaaBkS


namespace Go.Proofs.Ytnhfpbllgjhcdaa.books
set_option linter.unusedVariables false
set_option linter.unusedSimpArgs false
open Go.RowKit Go.Shelf Go.Proofs.Ytnhfpbllgjhcdaa.base Go.Proofs.Ytnhfpbllgjhcdaa.quotas Go.Proofs.Ytnhfpbllgjhcdaa.vers Go.Proofs.Ytnhfpbllgjhcdaa.nodes Go.Proofs.Ytnhfpbllgjhcdaa.trees Go.Proofs.Ytnhfpbllgjhcdaa.texts

theorem addP_seven {a b c d e f h : Int} {s : ByteArray} {l : List V} {v t : ByteArray} {kp : Int} : (addP a b c d e f h s l v t kp).bad ≠ 7 := by
  unfold addP
  by_cases h1 : nbad a b c d e f h s l ≠ 0
  · rw [if_pos h1]
    show nbad a b c d e f h s l ≠ 7
    unfold nbad
    have hv : ∀ (l : List V) (p : Int), vbad c d p l ≠ 7 := by
      intro l
      induction l with
      | nil => intro p; simp [vbad]
      | cons x l ih =>
        intro p
        rw [vbad]
        split
        · decide
        · split
          · decide
          · exact ih _
    repeat' split
    all_goals first | exact hv _ _ | decide
  · rw [if_neg h1]
    split
    · show (5 : Int) ≠ 7; decide
    · split
      · show (2 : Int) ≠ 7; decide
      · show (0 : Int) ≠ 7; decide
theorem oneP_seven (q : Qt) (L : List PB) (o : O) : (oneP q L o).2 ≠ 7 := by
  have h0 : rightO q o ≠ 7 := by
    unfold rightO
    repeat' split
    all_goals decide
  rw [oneP_eq]
  split
  · exact h0
  · split
    · unfold takeP
      split
      · show (3 : Int) ≠ 7; decide
      · show (0 : Int) ≠ 7; decide
    · unfold renewP
      split
      · show (6 : Int) ≠ 7; decide
      · split
        · exact addP_seven
        · show (0 : Int) ≠ 7; decide
theorem rowP_seven (q : Qt) : ∀ (ops : List O) (L : List PB) (i : Nat), (rowP q L ops i).2.1 ≠ 7
  | [], L, i => by show (0 : Int) ≠ 7; decide
  | o :: r, L, i => by
    rw [rowP]
    split
    · exact oneP_seven q L o
    · exact rowP_seven q r _ _
theorem rowP_at (q : Qt) : ∀ (ops : List O) (L : List PB) (i : Nat), ((rowP q L ops i).2.1 ≠ 0 → (i : Int) ≤ (rowP q L ops i).2.2 ∧ (rowP q L ops i).2.2 < (i : Int) + (ops.length : Int)) ∧ ((rowP q L ops i).2.1 = 0 → (rowP q L ops i).2.2 = 0)
  | [], L, i => ⟨fun h => absurd rfl h, fun _ => rfl⟩
  | o :: r, L, i => by
    rw [rowP, List.length_cons]
    split
    · rename_i h
      refine ⟨fun _ => ⟨Int.le_refl _, ?_⟩, fun h2 => absurd h2 h⟩
      show (i : Int) < _
      omega
    · obtain ⟨h1, h2⟩ := rowP_at q r (oneP q L o).1 (i + 1)
      refine ⟨fun h => ?_, h2⟩
      have := h1 h
      omega
theorem playP_bad {q : Qt} {b : Bk} {ops : List O} (h : (behindP q b.L ops).2.1 ≠ 0) : playP q b ops = (b, (behindP q b.L ops).2) := by unfold playP; rw [if_pos h]
theorem playP_good {q : Qt} {b : Bk} {ops : List O} (h : (behindP q b.L ops).2.1 = 0) : playP q b ops = (⟨(behindP q b.L ops).1, wereP b.P ops⟩, 0, 0) := by unfold playP; rw [if_neg (fun h2 => h2 h)]
theorem behindP_batch {q : Qt} {L : List PB} {ops : List O} (h : ops.length = 0 ∨ q.f < (ops.length : Int)) : behindP q L ops = (L, 7, -1) := by unfold behindP; rw [if_pos h]
theorem behindP_row {q : Qt} {L : List PB} {ops : List O} (h : ¬ (ops.length = 0 ∨ q.f < (ops.length : Int))) : behindP q L ops = rowP q L ops 0 := by unfold behindP; rw [if_neg h]
theorem playP_res (q : Qt) (b : Bk) (ops : List O) : (playP q b ops).2 = (behindP q b.L ops).2 := by
  by_cases h : (behindP q b.L ops).2.1 = 0
  · rw [playP_good h]
    by_cases hc : ops.length = 0 ∨ q.f < (ops.length : Int)
    · rw [behindP_batch hc] at h; cases h
    · rw [behindP_row hc] at h ⊢
      exact Prod.ext h.symm ((rowP_at q ops b.L 0).2 h).symm
  · rw [playP_bad h]
theorem wereP_app (P : List (List UInt8)) (l m : List O) : wereP P (l ++ m) = wereP (wereP P l) m := by simp [wereP, List.foldl_append]
theorem wereP_take {P : List (List UInt8)} {ops : List O} {j : Nat} (hj : j < ops.length) : wereP P (ops.take (j + 1)) = wereP (wereP P (ops.take j)) [ops[j]] := by
  rw [List.take_succ_eq_append_getElem hj, wereP_app]
theorem wereP_sorted {P : List (List UInt8)} (h : P.Pairwise (· < ·)) (l : List O) : (wereP P l).Pairwise (· < ·) := wereP_up l P h
/-- secrets in rows of their own, in blocks from B on, below C -/
abbrev OwnBC (w : World) (B C : Nat) (le : List E) (v : Value) : Prop := OwnEF w (fun g => B ≤ g ∧ g < C) le v
theorem bc_keep {S : Nat → Prop} {B C : Nat} {w w' : World} {le : List E} {v : Value} (h : OwnBC w B C le v) (hC : C ≤ w.heap.size) (hk : Keep S w w') (hS : ∀ g, S g → g < B ∨ C ≤ g) : OwnBC w' B C le v :=
  h.agree (hk.agree fun g hg => ⟨by omega, fun h => by have := hS g h; omega⟩)
theorem bc_below {B C : Nat} {w w' : World} {le : List E} {v : Value} (h : OwnBC w B C le v) (hC : C ≤ w.heap.size) (hb : Below w.heap.size w w') : OwnBC w' B C le v :=
  h.agree (Agree.of_below hb fun g hg => by omega)
/-- where the loop stands -/
def AtHead (W : World) (q : Qt) (P1 m1 P2 m2 : Nat) (b bf : Bk) (ops : List O) (B C : Nat) (le : List E) (v : Value) (i : Value) (wr : World) : Prop :=
  ∃ (j : Nat) (M : List PB), j ≤ ops.length ∧ i = .int .i64 (j : Int) ∧ Two W q P2 m2 ⟨M, wereP b.P (ops.take j)⟩ P1 m1 bf wr ∧ (OwnBC wr B C le v ∧ C ≤ wr.heap.size) ∧ BInv q (40 + j) ⟨M, wereP b.P (ops.take j)⟩ ∧ Hid (rowP q b.L ops 0 = rowP q M (ops.drop j) j)

theorem boxesQ (q : Qt) (w : World) : Blk (w.alloc (.cells #[.int .i64 q.a, .int .i64 q.b, .int .i64 q.c, .int .i64 q.d, .int .i64 q.e, .int .i64 q.f, .int .i64 q.h] 23)) w.heap.size 23 #[.int .i64 q.a, .int .i64 q.b, .int .i64 q.c, .int .i64 q.d, .int .i64 q.e, .int .i64 q.f, .int .i64 q.h] ∧ Below w.heap.size w (w.alloc (.cells #[.int .i64 q.a, .int .i64 q.b, .int .i64 q.c, .int .i64 q.d, .int .i64 q.e, .int .i64 q.f, .int .i64 q.h] 23)) ∧ (w.alloc (.cells #[.int .i64 q.a, .int .i64 q.b, .int .i64 q.c, .int .i64 q.d, .int .i64 q.e, .int .i64 q.f, .int .i64 q.h] 23)).heap.size = w.heap.size + 1 := by
  exact ⟨(Blk.new w _ _), ((Below.refl _ _).alloc (by simp <;> omega) _), by simp⟩

set_option maxRecDepth 100000 in
set_option maxHeartbeats 4000000 in
theorem atomic_no (q : Qt) (bs : List BL) (A : Option Addr) (c : Nat) (ops : List O) (A2 : Option Addr) (c2 : Nat) (w : World) (hk : ¬ q.ok) :
    Calls Try.prog 4 #[.agg #[.int .i64 q.a, .int .i64 q.b, .int .i64 q.c, .int .i64 q.d, .int .i64 q.e, .int .i64 q.f, .int .i64 q.h], .slice A bs.length c, .slice A2 ops.length c2] w fun e w' => e = .returned (.bool true) ∧ Below w.heap.size w w' := by
  have hm := fun w' => made_no q bs A c w' hk
  have hr := fun w' => quotas.refRight_no q.a q.b q.c q.d q.e q.f q.h w' hk
  obtain ⟨kq, b0, z0⟩ := boxesQ q w
  go_enter Try.func4, Try.ntmps4
  go_wp2_with fail
  generalize (w.alloc (.cells #[.int .i64 q.a, .int .i64 q.b, .int .i64 q.c, .int .i64 q.d, .int .i64 q.e, .int .i64 q.f, .int .i64 q.h] 23)) = W at *
  refine (hm _).mono ?_
  rintro e1 w1 ⟨rfl, hb1⟩
  have b1 := b0.trans (hb1.mono b0.size)
  have kq1 := kq.below hb1 kq.lt
  obtain ⟨c0, c1, c2, c3, c4, c5, c6⟩ := qcells kq1
  go_wp2_with fail
  refine (hr _).mono ?_
  rintro e2 w2 ⟨rfl, hb2⟩
  have b2 := b1.trans (hb2.mono b1.size)
  go_wp2_with fail
  go_ret
  exact ⟨rfl, b2⟩

set_option maxRecDepth 100000 in
set_option maxHeartbeats 4000000 in
theorem atomic_ok (q : Qt) (bs : List BL) (A : Option Addr) (c : Nat) (ops : List O) (A2 : Option Addr) (c2 : Nat) (w : World) (hk : q.ok) (hB : Bs w w.heap.size bs A c) (hO : Os w w.heap.size ops A2 c2) :
    Calls Try.prog 4 #[.agg #[.int .i64 q.a, .int .i64 q.b, .int .i64 q.c, .int .i64 q.d, .int .i64 q.e, .int .i64 q.f, .int .i64 q.h], .slice A bs.length c, .slice A2 ops.length c2] w fun e w' => e = .returned (.bool true) ∧ Below w.heap.size w w' := by
  have hm := fun w' (h : Bs w' w'.heap.size bs A c) => made_ok q bs A c w' hk h
  have hI := made_inv hk bs
  generalize madeP q bs = b at hm hI
  have hol : ops.length ≤ 140737488355328 := by have := hO.2.1; omega
  have hI1 := hI.play hk ops
  have hres := playP_res q b ops
  have hbad := playP_bad (q := q) (b := b) (ops := ops)
  have hgood := playP_good (q := q) (b := b) (ops := ops)
  have hbat := behindP_batch (q := q) (L := b.L) (ops := ops)
  have hrow := behindP_row (q := q) (L := b.L) (ops := ops)
  have pj := fun (W : World) (P1 m1 : Nat) (wr : World) (h : MdHead W q P1 m1 b wr) (hO : Os wr wr.heap.size ops A2 c2) => h.judge hk hI hO
  have pp := fun (W : World) (P1 m1 P2 m2 : Nat) (wr : World) (h : Two W q P1 m1 b P2 m2 b wr) (hO : Os wr wr.heap.size ops A2 c2) hA => h.play hk hI (by omega) hO hA
  have all := fun (W : World) (P1 m1 : Nat) (wr : World) (h : MdHead W q P1 m1 b wr) => h.all hk hI
  generalize hr0 : behindP q b.L ops = r at *
  generalize hr1 : playP q b ops = s at *
  obtain ⟨L', er, at'⟩ := r
  obtain ⟨bf, er2, at2⟩ := s
  simp only [] at hres hbad hgood hI1 pj pp
  obtain ⟨rfl, rfl⟩ : er = er2 ∧ at' = at2 := by injection hres with h1 h2; exact ⟨h1.symm, h2.symm⟩
  have all2 := fun (W : World) (P1 m1 : Nat) (wr : World) (h : MdHead W q P1 m1 bf wr) => h.all hk hI1
  clear hr0 hr1 hres
  have hr := fun w' => quotas.refRight_ok q.a q.b q.c q.d q.e q.f q.h w' hk
  obtain ⟨kq, b0, z0⟩ := boxesQ q w
  go_enter Try.func4, Try.ntmps4
  go_wp2_with fail
  generalize (w.alloc (.cells #[.int .i64 q.a, .int .i64 q.b, .int .i64 q.c, .int .i64 q.d, .int .i64 q.e, .int .i64 q.f, .int .i64 q.h] 23)) = W at *
  refine (hm _ (hB.at_world b0)).mono ?_
  rintro e1 w1 ⟨P1, m1, rfl, M1⟩
  have kq1 := kq.below M1.1 kq.lt
  obtain ⟨c0, c1, c2, c3, c4, c5, c6⟩ := qcells kq1
  clear hm
  go_wp2_with fail
  refine (hr _).mono ?_
  rintro e2 w2 ⟨rfl, hb2⟩
  have M2 := M1.below hb2
  have hlt2 := M2.lt
  clear hr M1
  go_wp2_with fail
  refine (all _ _ _ _ M2).mono ?_
  rintro e3 w3 ⟨hb3, v3, le3, rfl, hle3, hO3⟩
  have M3 := M2.below hb3
  go_wp2_with fail
  refine (Two.of_copy M3).mono ?_
  rintro e4 w4 ⟨P2, m2, rfl, hb4, T4, hP2, hm2⟩
  have z4 := hb4.size
  have hO4 : OwnBC w4 w2.heap.size w3.heap.size le3 v3 := bc_below hO3 (Nat.le_refl _) hb4
  have hOs4 := hO.at_world (b0.trans (T4.1.mono b0.size))
  clear M2 hb3 hb2 c0 c1 c2 c3 c4 c5 c6 kq1
  go_wp2_with fail
  refine (pj _ _ _ _ T4.md hOs4).mono ?_
  rintro e5 w5 ⟨rfl, hb5⟩
  have T5 := T4.below hb5
  have z5 := hb5.size
  have hO5 := bc_below hO4 (by omega) hb5
  clear pj
  go_wp2_with fail
  refine (all _ _ _ _ T5.md).mono ?_
  rintro e6 w6 ⟨hb6, v6, le6, rfl, hle6, hO6⟩
  obtain ⟨A6, c6, rfl, E6⟩ := hO6.es
  have z6 := hb6.size
  have hO36 := bc_below hO5 (by omega) hb6
  obtain ⟨A3, c3, rfl, E3⟩ := hO36.es
  have hlk := likeAll_any le6 le3 A6 A3 c6 c3 w6 E6.es E3.es
  rw [hle6, hle3, decide_eq_true rfl] at hlk
  have T6 := T5.below hb6
  go_wp2_with fail
  refine hlk.mono ?_
  rintro e7 w7 ⟨rfl, hb7⟩
  have T7 := T6.below hb7
  have z7 := hb7.size
  have hO7 := bc_below hO36 (by omega) hb7
  have bw7 := b0.trans (T7.1.mono b0.size)
  have hOs7 := hO.at_world bw7
  clear hlk T4 T5 T6 E6 E3 hO3 hO4 hO5 hO6 hb4 hb5 hb6 hb7 M3
  go_wp2_with fail
  refine (pp _ _ _ _ _ _ T7 hOs7 (fun hn g off e => by have := os_lt hO hn g off e; omega)).mono ?_
  rintro e8 w8 ⟨rfl, T8, hK8⟩
  have z8 := hK8.size
  have hO8 := bc_keep hO7 (by omega) hK8 (fun g hg => by rcases hg with rfl | rfl <;> omega)
  have hC8 : w3.heap.size ≤ w8.heap.size := by omega
  have bw8 := b0.trans (T8.1.mono b0.size)
  have kq8 := kq.below T8.1 kq.lt
  have q5 := kq8.cell 5
  simp only [List.getElem?_toArray, List.getElem?_cons_zero, List.getElem?_cons_succ] at q5
  clear T7 hOs7 hO7 hK8 hO36
  by_cases hc : ops.length = 0 ∨ q.f < (ops.length : Int)
  · have e0 := hbat hc
    injection e0 with e1 e2
    injection e2 with e2 e3
    subst e1 e2 e3
    have hbf : bf = b := by have := hbad (by decide); injection this
    subst hbf
    clear hbad hgood hbat hrow hI1 all2
    have fin := fun (K : Prop) (h : K) => h
    by_cases hc0 : ops.length = 0
    · have d0 : ((ops.length : Int) == 0) = true := by simp [hc0]
      have HC := vers.lay hc0
      clear hc hc0
      go_wp2_with fail
      refine (all _ _ _ _ T8.md).mono ?_
      rintro e9 w9 ⟨hb9, v9, le9, rfl, hle9, hO9⟩
      obtain ⟨A9, c9, rfl, E9⟩ := hO9.es
      obtain ⟨_, _, e10, E10⟩ := (bc_below hO8 hC8 hb9).es
      injection e10 with e11 _ e12
      subst e11 e12
      have hlk := likeAll_any le9 le3 A9 A3 c9 c3 w9 E9.es E10.es
      rw [hle9, hle3, decide_eq_true rfl] at hlk
      go_wp2_with fail
      refine hlk.mono ?_
      rintro e13 w13 ⟨rfl, hb13⟩
      go_wp2_with fail
      go_ret
      exact ⟨rfl, (bw8.trans (hb9.mono bw8.size)).trans (hb13.mono (by have := bw8.size; have := hb9.size; omega))⟩
    · have d0 : ((ops.length : Int) == 0) = false := by simpa using hc0
      have d1 : decide (q.f < (ops.length : Int)) = true := decide_eq_true (hc.resolve_left hc0)
      clear hc hc0
      go_wp2_with fail
      refine (all _ _ _ _ T8.md).mono ?_
      rintro e9 w9 ⟨hb9, v9, le9, rfl, hle9, hO9⟩
      obtain ⟨A9, c9, rfl, E9⟩ := hO9.es
      obtain ⟨_, _, e10, E10⟩ := (bc_below hO8 hC8 hb9).es
      injection e10 with e11 _ e12
      subst e11 e12
      have hlk := likeAll_any le9 le3 A9 A3 c9 c3 w9 E9.es E10.es
      rw [hle9, hle3, decide_eq_true rfl] at hlk
      go_wp2_with fail
      refine hlk.mono ?_
      rintro e13 w13 ⟨rfl, hb13⟩
      go_wp2_with fail
      go_ret
      exact ⟨rfl, (bw8.trans (hb9.mono bw8.size)).trans (hb13.mono (by have := bw8.size; have := hb9.size; omega))⟩
  · have e0 := hrow hc
    have hc1 : ¬ ops.length = 0 := fun h => hc (.inl h)
    have hc2 : ¬ q.f < (ops.length : Int) := fun h => hc (.inr h)
    have d0 : ((ops.length : Int) == 0) = false := by simpa using hc1
    have d1 : decide (q.f < (ops.length : Int)) = false := decide_eq_false hc2
    have h7 := rowP_seven q ops b.L 0
    have hat := rowP_at q ops b.L 0
    rw [← e0] at h7 hat
    simp only [] at h7 hat
    have hatr : 0 ≤ at' ∧ at' < (ops.length : Int) := by
      by_cases he : er = 0
      · have := hat.2 he; omega
      · have := hat.1 he; omega
    have d2 := eq_no h7
    have d3 : decide (at' < 0) = false := decide_eq_false (by omega)
    have d4 : decide ((ops.length : Int) ≤ at') = false := decide_eq_false (by omega)
    have d5 := ne_no (rfl : er = er)
    have d6 := ne_no (rfl : at' = at')
    have HT := vers.lay hat
    have HE := vers.lay e0
    have hf8 := hc2
    have HL : Hid (ops.length ≤ 8) := vers.lay (by have := hk.2.2.2.2.2.1.2; omega)
    clear h7 hat e0 hc hc1 hc2 hatr hbat hrow
    go_wp2_with fail
    go_loopw [105] (fun i wr => AtHead W q P1 m1 P2 m2 b bf ops w2.heap.size w3.heap.size le3 (.slice A3 le3.length c3) i wr) (fun i _ => ops.length - (intOf i).toNat)
    case atStart => exact ⟨0, b.L, Nat.zero_le _, rfl, T8.symm, ⟨hO8, hC8⟩, hI.more (Nat.le_refl _), vers.lay rfl⟩
    case round =>
      obtain ⟨j, M, hj, rfl, T, ⟨hO3, hC3⟩, hIj, hH⟩ := hrel
      have bwr := b0.trans (T.1.mono b0.size)
      have hj8 := Nat.le_trans hj HL.out
      by_cases hlt : j < ops.length
      · obtain ⟨bk, off, rfl, hbk, x0, x1, x2, x3⟩ := (hO.below bwr).at_ hlt
        have hfit := hO.2.2.2.2 _ (List.getElem_mem hlt)
        have hH2 := vers.lay (hH.out.trans (rowP_cons hlt))
        have hW2 := vers.lay (wereP_take (P := b.P) hlt)
        have hIn := hIj.play hk [ops[j]]
        have hp := fun wr' (T' : Two W q P2 m2 ⟨M, wereP b.P (ops.take j)⟩ P1 m1 bf wr') => T'.play_one hk hIj (by omega) ops[j] hfit
        rw [playP_one hk] at hp hIn
        simp only [] at hp hIn
        clear hH
        have bA : Below wr.heap.size wr (wr.alloc (.cells (oc ops[j]) 62)) := (Below.refl _ _).alloc (Nat.le_refl _) _
        have TA := T.below bA
        have OA := bc_below hO3 hC3 bA
        have CA : w3.heap.size ≤ (wr.alloc (.cells (oc ops[j]) 62)).heap.size := by rw [World.size_alloc]; omega
        generalize ops[j] = y at x0 x1 x2 x3 hH2 hW2 hIn hp hfit bA TA OA CA
        replace hp := hp _ TA
        rw [World.size_alloc] at hp
        generalize oneP q M y = g at hp hH2 hIn
        obtain ⟨g1, ge⟩ := g
        simp only [] at hp hH2 hIn
        by_cases hg : ge = 0
        · subst hg
          rw [if_neg (fun h => h rfl)] at hp hIn
          have hH3 := vers.lay (hH2.out.trans (if_neg (fun h => h rfl)))
          clear hH2
          have HIN := vers.lay hIn
          clear hIn
          go_wp2_with fail
          refine hp.mono ?_
          rintro e9 w9 ⟨rfl, T9, hK9⟩
          have O9 := bc_keep OA CA hK9 (fun g hg => by rcases hg with rfl | rfl <;> omega)
          have C9 := Nat.le_trans CA hK9.size
          clear hp
          go_wp2_with fail
          exact ⟨⟨j + 1, g1, hlt, by go_num, by rw [hW2.out]; exact T9, ⟨O9, C9⟩, by rw [hW2.out]; exact HIN.out.more (by omega), hH3⟩, by simp [intOf]; omega⟩
        · rw [if_pos hg] at hp
          have hH3 := vers.lay (HE.out.trans (hH2.out.trans (if_pos hg)))
          clear hH2 hIn
          have f1 := ne_yes hg
          have HG := vers.lay hg
          clear hg
          go_wp2_with fail
          refine hp.mono ?_
          rintro e9 w9 ⟨rfl, T9, hK9⟩
          have O9 := bc_keep OA CA hK9 (fun g hg => by rcases hg with rfl | rfl <;> omega)
          have C9 := Nat.le_trans CA hK9.size
          clear hp
          obtain ⟨rfl, rfl, rfl⟩ : L' = M ∧ er = ge ∧ at' = (j : Int) := by
            have := hH3.out
            injection this with h1 h2
            injection h2 with h2 h3
            exact ⟨h1, h2, h3⟩
          have hbf : bf = b := by have := hbad HG.out; injection this
          subst hbf
          have f2 := eq_yes (rfl : er = er)
          have f3 := eq_yes (rfl : (j : Int) = j)
          have M9 := T9.symm.md
          have bw9 := b0.trans (M9.1.mono b0.size)
          clear hbad hgood hH3 all2 pp d5 d6
          go_wp2_with fail
          refine (all _ _ _ _ M9).mono ?_
          rintro e10 w10 ⟨hb10, v10, le10, rfl, hle10, hO10⟩
          obtain ⟨A10, c10, rfl, E10⟩ := hO10.es
          obtain ⟨_, _, e11, E11⟩ := (bc_below O9 C9 hb10).es
          injection e11 with e12 _ e13
          subst e12 e13
          have hlk := likeAll_any le10 le3 A10 A3 c10 c3 w10 E10.es E11.es
          rw [hle10, hle3, decide_eq_true rfl] at hlk
          go_wp2_with fail
          refine hlk.mono ?_
          rintro e14 w14 ⟨rfl, hb14⟩
          go_wp2_with fail
          go_ret
          exact ⟨rfl, (bw9.trans (hb10.mono bw9.size)).trans (hb14.mono (by have := bw9.size; have := hb10.size; omega))⟩
      · obtain rfl : j = ops.length := by omega
        have hH3 := vers.lay (HE.out.trans (hH.out.trans rowP_end))
        clear hH
        obtain ⟨rfl, rfl, rfl⟩ : L' = M ∧ er = 0 ∧ at' = 0 := by
          have := hH3.out
          injection this with h1 h2
          injection h2 with h2 h3
          exact ⟨h1, h2, h3⟩
        have hbf : bf = ⟨L', wereP b.P ops⟩ := by have := hgood rfl; injection this
        rw [List.take_length, ← hbf] at T hIj
        have gone := fun (W : World) (P1 m1 : Nat) (wr : World) (h : MdHead W q P1 m1 bf wr) => h.gone hk hI1 (by omega)
        have M1 := T.symm.md
        have M2 := T.md
        clear hbad hgood hH3 pp hbf all T d5 d6 hO3 hIj
        go_wp2_with fail
        refine (all2 _ _ _ _ M1).mono ?_
        rintro e8 w9 ⟨hb8, v8, le8, rfl, hle8, hO8⟩
        have M18 := M1.below hb8
        have M28 := M2.below hb8
        go_wp2_with fail
        refine (all2 _ _ _ _ M28).mono ?_
        rintro e9 w10 ⟨hb9, v9, le9, rfl, hle9, hO9⟩
        have M19 := M18.below hb9
        have M29 := M28.below hb9
        obtain ⟨A8, c8, rfl, E8⟩ := (ownEF_below hO8 hb9).es
        obtain ⟨A9, c9, rfl, E9⟩ := hO9.es
        have hlk := likeAll_any le8 le9 A8 A9 c8 c9 w10 E8.es E9.es
        rw [hle8, hle9, decide_eq_true rfl] at hlk
        clear M1 M2 M18 M28 E8 E9 hO8 hO9
        go_wp2_with fail
        refine hlk.mono ?_
        rintro e10 w11 ⟨rfl, hb10⟩
        have M110 := M19.below hb10
        have M210 := M29.below hb10
        clear hlk
        go_wp2_with fail
        refine (gone _ _ _ _ M110).mono ?_
        rintro e11 w12 ⟨v11, rfl, hb11, hT11⟩
        have M211 := M210.below hb11
        go_wp2_with fail
        refine (gone _ _ _ _ M211).mono ?_
        rintro e12 w13 ⟨v12, rfl, hb12, hT12⟩
        have hst := sameTexts_any v11 v12 _ _ _ w13 (hT11.below hb12) hT12
        go_wp2_with fail
        refine hst.mono ?_
        rintro e13 w14 ⟨rfl, hb13⟩
        go_wp2_with fail
        go_ret
        have z := M211.1.size
        exact ⟨rfl, (b0.trans (M211.1.mono b0.size)).trans ((hb12.mono (by have := b0.size; omega)).trans (hb13.mono (by have := b0.size; have := hb12.size; omega)))⟩

theorem law_atomic (q : Qt) (bs : List BL) (A : Option Addr) (c : Nat) (ops : List O) (A2 : Option Addr) (c2 : Nat) (w : World) (hB : Bs w w.heap.size bs A c) (hO : Os w w.heap.size ops A2 c2) :
    Calls Try.prog 4 #[.agg #[.int .i64 q.a, .int .i64 q.b, .int .i64 q.c, .int .i64 q.d, .int .i64 q.e, .int .i64 q.f, .int .i64 q.h], .slice A bs.length c, .slice A2 ops.length c2] w fun e w' => e = .returned (.bool true) ∧ Below w.heap.size w w' := by
  by_cases hk : q.ok
  · exact atomic_ok q bs A c ops A2 c2 w hk hB hO
  · exact atomic_no q bs A c ops A2 c2 w hk

end Go.Proofs.Ytnhfpbllgjhcdaa.books
