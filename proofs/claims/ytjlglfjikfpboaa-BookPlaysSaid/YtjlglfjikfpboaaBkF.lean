/- book's behind: the secrets as they are behind a batch. -/
import Derived.Test.YtjlglfjikfpboaaBkO
import Derived.Test.YtjlglfjikfpboaaBkCl
import Derived.Test.YtjlglfjikfpboaaMixCE


namespace Go.Proofs.Ytjlglfjikfpboaa.books
set_option linter.unusedVariables false
set_option linter.unusedSimpArgs false
open Go.RowKit Go.Shelf Go.Proofs.Ytjlglfjikfpboaa.base Go.Proofs.Ytjlglfjikfpboaa.quotas Go.Proofs.Ytjlglfjikfpboaa.vers Go.Proofs.Ytjlglfjikfpboaa.nodes Go.Proofs.Ytjlglfjikfpboaa.trees

abbrev bcells (q : Qt) (ms mp : Nat) : Array Value := #[.int .i64 q.a, .int .i64 q.b, .int .i64 q.c, .int .i64 q.d, .int .i64 q.e, .int .i64 q.f, .int .i64 q.h, .map (some ms), .map (some mp)]
theorem rowP_cons {q : Qt} {L : List PB} {ops : List O} {j : Nat} (hj : j < ops.length) : rowP q L (ops.drop j) j = if (oneP q L ops[j]).2 ≠ 0 then (L, (oneP q L ops[j]).2, (j : Int)) else rowP q (oneP q L ops[j]).1 (ops.drop (j + 1)) (j + 1) := by
  rw [List.drop_eq_getElem_cons hj]; rfl
theorem rowP_end {q : Qt} {L : List PB} {ops : List O} : rowP q L (ops.drop ops.length) ops.length = (L, 0, 0) := by
  rw [List.drop_length]; rfl
theorem oneP_len (q : Qt) (L : List PB) (o : O) : (oneP q L o).1.length ≤ L.length + 1 := by
  unfold oneP
  split
  · exact Nat.le_succ _
  · split
    · split
      · exact Nat.le_succ _
      · exact Nat.le_trans (del_le L _) (Nat.le_succ _)
    · split
      · exact Nat.le_succ _
      · split
        · exact Nat.le_succ _
        · show (put L _).length ≤ _
          unfold put
          rw [ins_len]
          exact Nat.succ_le_succ (del_le L _)
/-- what behind leaves -/
def BPost (w : World) (Y : Nat → Prop) (r : List PB × Int × Int) (e : Ending) (w' : World) : Prop :=
  Below w.heap.size w w' ∧ ∃ mv, e = .returned (.tuple #[mv, .int .i64 r.2.1, .int .i64 r.2.2]) ∧ (r.2.1 = 0 → ∃ (ms' : Nat) (Y' : Nat → Prop), mv = .map (some ms') ∧ w.heap.size ≤ ms' ∧ SAt w' ms' Y' r.1 ∧ ∀ g, Y' g → Y g ∨ w.heap.size ≤ g)
/-- at the loop's head -/
def FHead9 (w : World) (q : Qt) (Y : Nat → Prop) (L : List PB) (ops : List O) (i : Value) (wr : World) : Prop :=
  ∃ (j : Nat) (M : List PB) (Y' : Nat → Prop), j ≤ ops.length ∧ i = .int .i64 (j : Int) ∧ Below w.heap.size w wr ∧ SAt wr w.heap.size Y' M ∧ (∀ g, Y' g → Y g ∨ w.heap.size ≤ g) ∧ M.length ≤ L.length + j ∧ Hid (rowP q L ops 0 = rowP q M (ops.drop j) j)

set_option maxRecDepth 100000 in
set_option maxHeartbeats 2000000 in
theorem behind_ok (q : Qt) (bp ms mp : Nat) (Y : Nat → Prop) (L : List PB) (ops : List O) (A : Option Addr) (c : Nat) (w : World) (hB : Blk w bp 132 (bcells q ms mp)) (hS : SAt w ms Y L) (hO : Os w w.heap.size ops A c) (hlen : L.length + ops.length ≤ 1000000 ∨ q.f < (ops.length : Int)) :
    Calls Try.prog 70 #[.pointer (some ⟨bp, 0, none⟩), .slice A ops.length c] w (BPost w Y (behindP q L ops)) := by
  obtain ⟨qa, qb, qc, qd, qe, qf, qh⟩ := q
  have b0 := hB.cell 0
  have b1 := hB.cell 1
  have b2 := hB.cell 2
  have b3 := hB.cell 3
  have b4 := hB.cell 4
  have b5 := hB.cell 5
  have b6 := hB.cell 6
  have b7 := hB.cell 7
  have lb := hB.lt
  simp only [bcells, List.getElem?_toArray, List.getElem?_cons_zero, List.getElem?_cons_succ] at b0 b1 b2 b3 b4 b5 b6 b7
  have hlo : ops.length ≤ 140737488355328 := by have := hO.2.1; omega
  simp only [] at hlen
  unfold behindP
  simp only []
  by_cases h0 : ops.length = 0
  · rw [if_pos (.inl h0)]
    have d0 : ((ops.length : Int) == 0) = true := by simp [h0]
    go_enter Try.func70, Try.ntmps70
    go_wp2_with fail
    refine bodyPost_ret (v := .tuple #[.map none, .int .i64 7, .int .i64 (-1)]) (by simp [results, Try.results70, go_sem]) rfl ⟨Below.refl _ _, _, rfl, fun h => by cases h⟩
  · have d0 : ((ops.length : Int) == 0) = false := by simpa using h0
    by_cases h1 : qf < (ops.length : Int)
    · rw [if_pos (.inr h1)]
      have d1 : decide (qf < (ops.length : Int)) = true := decide_eq_true h1
      clear h0
      go_enter Try.func70, Try.ntmps70
      go_wp2_with fail
      refine bodyPost_ret (v := .tuple #[.map none, .int .i64 7, .int .i64 (-1)]) (by simp [results, Try.results70, go_sem]) rfl ⟨Below.refl _ _, _, rfl, fun h => by cases h⟩
    · rw [if_neg (fun h => h.elim h0 h1)]
      have d1 : decide (qf < (ops.length : Int)) = false := decide_eq_false h1
      replace hlen := hlen.resolve_right h1
      clear h0 h1
      have hlay := vers.lay (rfl : (rowP ⟨qa, qb, qc, qd, qe, qf, qh⟩ L ops 0) = _)
      generalize hRR : rowP ⟨qa, qb, qc, qd, qe, qf, qh⟩ L ops 0 = RR
      rw [hRR] at hlay
      have HRR := vers.lay hRR
      clear hRR hlay
      go_enter Try.func70, Try.ntmps70
      go_wp2_with fail
      refine (cloneS_at hS).mono ?_
      rintro e1 w1 ⟨rfl, hS1, hb1, hz1⟩
      go_wp2_with fail
      go_loopw [31] (fun i wr => FHead9 w ⟨qa, qb, qc, qd, qe, qf, qh⟩ Y L ops i wr) (fun i _ => ops.length - (intOf i).toNat)
      case atStart => exact ⟨0, L, Y, Nat.zero_le _, rfl, hb1, hS1, fun g hg => .inl hg, Nat.le_refl _, vers.lay rfl⟩
      case round =>
        obtain ⟨j, M, Y', hj, rfl, hb, hSr, hY', hM, hH⟩ := hrel
        by_cases hlt : j < ops.length
        · obtain ⟨bk, off, rfl, hbk, e0, e1, e2, e3⟩ := (hO.below hb).at_ hlt
          have hfit := hO.2.2.2.2 _ (List.getElem_mem hlt)
          have hH2 := vers.lay (hH.out.trans (rowP_cons hlt))
          clear hH
          have hpl := fun w' (h : SAt w' w.heap.size Y' M) => play_ok ⟨qa, qb, qc, qd, qe, qf, qh⟩ ops[j] w.heap.size Y' M w' h hfit (by omega)
          have hol := oneP_len ⟨qa, qb, qc, qd, qe, qf, qh⟩ M ops[j]
          generalize oneP ⟨qa, qb, qc, qd, qe, qf, qh⟩ M ops[j] = r at hpl hH2 hol
          generalize ops[j] = o at e0 e1 e2 e3 hpl hfit
          obtain ⟨k, s, v, t⟩ := o
          simp only [] at e0 e1 e2 e3 hpl
          have c0 := (hb.cell (p := ⟨bp, 0, none⟩) lb).trans b0
          have c1 := (hb.cell (p := ⟨bp, 1, none⟩) lb).trans b1
          have c2 := (hb.cell (p := ⟨bp, 2, none⟩) lb).trans b2
          have c3 := (hb.cell (p := ⟨bp, 3, none⟩) lb).trans b3
          have c4 := (hb.cell (p := ⟨bp, 4, none⟩) lb).trans b4
          have c5 := (hb.cell (p := ⟨bp, 5, none⟩) lb).trans b5
          have c6 := (hb.cell (p := ⟨bp, 6, none⟩) lb).trans b6
          have hz := hb.size
          have bA : Below wr.heap.size wr (wr.alloc (.cells #[.int .i64 k, .string s, .string v, .string t] 92)) := (Below.refl _ _).alloc (Nat.le_refl _) _
          have kO := Blk.new wr 92 #[.int .i64 k, .string s, .string v, .string t]
          have hSA := hSr.below bA
          have bB := hb.trans (bA.mono hz)
          go_wp2_with fail
          have x0 := (bA.cell (p := ⟨bp, 0, none⟩) (by show bp < _; omega)).trans c0
          have x1 := (bA.cell (p := ⟨bp, 1, none⟩) (by show bp < _; omega)).trans c1
          have x2 := (bA.cell (p := ⟨bp, 2, none⟩) (by show bp < _; omega)).trans c2
          have x3 := (bA.cell (p := ⟨bp, 3, none⟩) (by show bp < _; omega)).trans c3
          have x4 := (bA.cell (p := ⟨bp, 4, none⟩) (by show bp < _; omega)).trans c4
          have x5 := (bA.cell (p := ⟨bp, 5, none⟩) (by show bp < _; omega)).trans c5
          have x6 := (bA.cell (p := ⟨bp, 6, none⟩) (by show bp < _; omega)).trans c6
          have hzA := bA.size
          generalize wr.alloc (.cells #[.int .i64 k, .string s, .string v, .string t] 92) = W at *
          have lB : bp < W.heap.size := by omega
          have lO := kO.lt
          have o0 := kO.cell 0
          have o1 := kO.cell 1
          have o2 := kO.cell 2
          have o3 := kO.cell 3
          simp only [List.getElem?_toArray, List.getElem?_cons_zero, List.getElem?_cons_succ] at o0 o1 o2 o3
          have hS0 : Below W.heap.size W W.drew := (Below.refl _ _).drew
          refine mix.region_D (fun w' => Below W.heap.size W w') (fun j => j == 6 || j == 7) (by kernel_rfl) ?_
          refine mix.D_takeT (i := 0) (v := ?_) rfl (by kernel_rfl) (by kernel_rfl) (fun _ _ _ h => h) (Or.inl ⟨by rfl, ?_⟩) hS0 ?_
          rotate_left
          · intro w' hSw
            try simp only [List.getElem_toArray, List.getElem_cons_zero, List.getElem_cons_succ]
            go_simp
            exact rfl
          try simp only [Act.put, List.setIfInBounds_toArray, List.set_cons_zero, List.set_cons_succ, List.getElem_toArray, List.getElem_cons_zero, List.getElem_cons_succ]
          refine mix.D_takeT (i := 1) (v := ?_) rfl (by kernel_rfl) (by kernel_rfl) (fun _ _ _ h => h) (Or.inl ⟨by rfl, ?_⟩) hS0 ?_
          rotate_left
          · intro w' hSw
            try simp only [List.getElem_toArray, List.getElem_cons_zero, List.getElem_cons_succ]
            go_simp
            exact rfl
          try simp only [Act.put, List.setIfInBounds_toArray, List.set_cons_zero, List.set_cons_succ, List.getElem_toArray, List.getElem_cons_zero, List.getElem_cons_succ]
          refine mix.D_takeT (i := 2) (v := ?_) rfl (by kernel_rfl) (by kernel_rfl) (fun _ _ _ h => h) (Or.inl ⟨by rfl, ?_⟩) hS0 ?_
          rotate_left
          · intro w' hSw
            try simp only [List.getElem_toArray, List.getElem_cons_zero, List.getElem_cons_succ]
            go_simp
            exact rfl
          try simp only [Act.put, List.setIfInBounds_toArray, List.set_cons_zero, List.set_cons_succ, List.getElem_toArray, List.getElem_cons_zero, List.getElem_cons_succ]
          refine mix.D_takeT (i := 3) (v := ?_) rfl (by kernel_rfl) (by kernel_rfl) (fun _ _ _ h => h) (Or.inl ⟨by rfl, ?_⟩) hS0 ?_
          rotate_left
          · intro w' hSw
            try simp only [List.getElem_toArray, List.getElem_cons_zero, List.getElem_cons_succ]
            go_simp
            exact rfl
          try simp only [Act.put, List.setIfInBounds_toArray, List.set_cons_zero, List.set_cons_succ, List.getElem_toArray, List.getElem_cons_zero, List.getElem_cons_succ]
          refine mix.D_takeT (i := 4) (v := ?_) rfl (by kernel_rfl) (by kernel_rfl) (fun _ _ _ h => h) (Or.inl ⟨by rfl, ?_⟩) hS0 ?_
          rotate_left
          · intro w' hSw
            have y0 := (hSw.cell (p := ⟨bp, 0, none⟩) lB).trans x0
            have y1 := (hSw.cell (p := ⟨bp, 1, none⟩) lB).trans x1
            have y2 := (hSw.cell (p := ⟨bp, 2, none⟩) lB).trans x2
            have y3 := (hSw.cell (p := ⟨bp, 3, none⟩) lB).trans x3
            have y4 := (hSw.cell (p := ⟨bp, 4, none⟩) lB).trans x4
            have y5 := (hSw.cell (p := ⟨bp, 5, none⟩) lB).trans x5
            have y6 := (hSw.cell (p := ⟨bp, 6, none⟩) lB).trans x6
            try simp only [List.getElem_toArray, List.getElem_cons_zero, List.getElem_cons_succ]
            go_simp
            exact rfl
          try simp only [Act.put, List.setIfInBounds_toArray, List.set_cons_zero, List.set_cons_succ, List.getElem_toArray, List.getElem_cons_zero, List.getElem_cons_succ]
          refine mix.D_takeT (i := 5) (v := ?_) rfl (by kernel_rfl) (by kernel_rfl) (fun _ _ _ h => h) (Or.inl ⟨by rfl, ?_⟩) hS0 ?_
          rotate_left
          · intro w' hSw
            have y7 := (hSw.cell (p := ⟨wr.heap.size, 0, none⟩) lO).trans o0
            have y8 := (hSw.cell (p := ⟨wr.heap.size, 1, none⟩) lO).trans o1
            have y9 := (hSw.cell (p := ⟨wr.heap.size, 2, none⟩) lO).trans o2
            have y10 := (hSw.cell (p := ⟨wr.heap.size, 3, none⟩) lO).trans o3
            try simp only [List.getElem_toArray, List.getElem_cons_zero, List.getElem_cons_succ]
            go_simp
            exact rfl
          try simp only [Act.put, List.setIfInBounds_toArray, List.set_cons_zero, List.set_cons_succ, List.getElem_toArray, List.getElem_cons_zero, List.getElem_cons_succ]
          refine mix.D_op (k := 6) rfl rfl (by kernel_rfl) (fun K' hK => ?_)
          simp only [List.getElem_toArray, List.getElem_cons_zero, List.getElem_cons_succ]
          go_wp2_with fail
          refine (hpl W.drew (hSA.below ((Below.refl _ _).drew))).mono ?_
          rintro e5 w2 ⟨rfl, ⟨Y2, hS2, hY2⟩, hK2⟩
          refine hK.out _ _ (fun h => by simp at h) ?_
          clear hK K'
          try simp only [Act.put, List.setIfInBounds_toArray, List.set_cons_zero, List.set_cons_succ]
          refine mix.D_op (k := 7) rfl rfl (by kernel_rfl) (fun K' hK => ?_)
          simp only [List.getElem_toArray, List.getElem_cons_zero, List.getElem_cons_succ]
          go_wp2_with fail
          refine hK.out _ _ (fun h => by simp at h) ?_
          clear hK K'
          refine mix.D_done (by kernel_rfl) ?_ _
          have bC : Below w.heap.size w w2 := bB.drew.trans (hK2.below (fun g hg => Nat.le_of_eq hg.symm) (by simp only [World.size_drew]; omega))
          have hY3 : ∀ g, Y2 g → Y g ∨ w.heap.size ≤ g := fun g hg => (hY2 g hg).elim (hY' g) (fun h => .inr (by simp only [World.size_drew] at h; omega))
          clear hpl
          by_cases hr : r.2 = 0
          · have d2 := ne_no hr
            have hH3 := vers.lay (hH2.out.trans (if_neg (fun h => h hr)))
            have HR2 := vers.lay hr
            clear hH2
            go_wp2_with fail
            exact ⟨⟨j + 1, r.1, Y2, hlt, by go_num, bC, hS2, hY3, by omega, hH3⟩, by simp [intOf]; omega⟩
          · have d2 := ne_yes hr
            have hH3 := vers.lay (HRR.out.symm.trans (hH2.out.trans (if_pos hr)))
            have HR2 := vers.lay hr
            clear hH2 hr
            go_wp2_with fail
            refine bodyPost_ret (v := .tuple #[.map none, .int .i64 r.2, .int .i64 (j : Int)]) (by simp [results, Try.results70, go_sem]) rfl ?_
            obtain rfl := hH3.out
            exact ⟨bC, _, rfl, fun h => absurd h HR2.out⟩
        · obtain rfl : j = ops.length := by omega
          have hH3 := vers.lay (HRR.out.symm.trans (hH.out.trans rowP_end))
          clear hH
          go_wp2_with fail
          refine bodyPost_ret (v := .tuple #[.map (some w.heap.size), .int .i64 0, .int .i64 0]) (by simp [results, Try.results70, go_sem]) rfl ?_
          obtain rfl := hH3.out
          exact ⟨hb, _, rfl, fun _ => ⟨_, Y', rfl, Nat.le_refl _, hSr, hY'⟩⟩

end Go.Proofs.Ytjlglfjikfpboaa.books
