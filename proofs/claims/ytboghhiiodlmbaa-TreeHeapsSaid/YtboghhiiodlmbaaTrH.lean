/- The walk of TreeHeaps. -/
import Derived.Test.YtboghhiiodlmbaaTrF
import Derived.Test.YtboghhiiodlmbaaTrO
import Derived.Deep.CutBlock
import Derived.Deep.DeepCutAuto


namespace Go.Proofs.Ytboghhiiodlmbaa.trees
set_option linter.unusedVariables false
set_option linter.unusedSimpArgs false
open Go.RowKit Go.Proofs.Ytboghhiiodlmbaa.base Go.Proofs.Ytboghhiiodlmbaa.vers Go.Proofs.Ytboghhiiodlmbaa.nodes Go.Proofs.Ytboghhiiodlmbaa.quotas

theorem infoR : (Try.prog.info? 27).map (fun i => (i.zero, i.size, i.bytes)) = some (some (.agg #[.int .u64 0, .int .i64 0, .int .i64 0, .int .i64 0]), 4, 32) := by kernel_rfl
def R.cells (r : R) : List Value := [.int .u64 (r.k : Int), .int .i64 r.g, .int .i64 r.o, .int .i64 r.n]
def cellsR : List R → List Value
  | [] => []
  | x :: l => x.cells ++ cellsR l
theorem cellsR_len : ∀ l : List R, (cellsR l).length = 4 * l.length
  | [] => rfl
  | x :: l => by rw [cellsR, List.length_append, cellsR_len l]; simp [R.cells]; omega
theorem cellsR_app : ∀ l m : List R, cellsR (l ++ m) = cellsR l ++ cellsR m
  | [], m => rfl
  | x :: l, m => by rw [List.cons_append, cellsR, cellsR_app l m, cellsR, List.append_assoc]
theorem cellsR_at : ∀ (l : List R) {j : Nat} (hj : j < l.length), (cellsR l)[j * 4]? = some (.int .u64 (l[j].k : Int)) ∧ (cellsR l)[j * 4 + 1]? = some (.int .i64 l[j].g) ∧ (cellsR l)[j * 4 + 2]? = some (.int .i64 l[j].o) ∧ (cellsR l)[j * 4 + 3]? = some (.int .i64 l[j].n)
  | x :: l, 0, _ => ⟨rfl, rfl, rfl, rfl⟩
  | x :: l, j + 1, hj => by
    obtain ⟨e0, e1, e2, e3⟩ := cellsR_at l (j := j) (by simpa using hj)
    have hl : x.cells.length = 4 := rfl
    refine ⟨?_, ?_, ?_, ?_⟩
    all_goals
      rw [cellsR, List.getElem?_append_right (by rw [hl]; omega), hl]
      first | rw [show (j + 1) * 4 - 4 = j * 4 by omega] | rw [show (j + 1) * 4 + 1 - 4 = j * 4 + 1 by omega] | rw [show (j + 1) * 4 + 2 - 4 = j * 4 + 2 by omega] | rw [show (j + 1) * 4 + 3 - 4 = j * 4 + 3 by omega]
      assumption
/-- the references of the first pages -/
def refs (j : Nat) : List R := (List.range j).map refOf
theorem refs_len (j : Nat) : (refs j).length = j := by simp [refs]
theorem refs_succ (j : Nat) : refs (j + 1) = refs j ++ [refOf j] := by simp [refs, List.range_succ]
theorem refs_at {m j : Nat} (h : j < (refs m).length) : (refs m)[j] = refOf j := by simp [refs]

theorem refOf_fits {j : Nat} (h : j < 1000000) : (refOf j).fits := by
  unfold R.fits i64
  simp only [refOf]
  omega
/-- behind j pages: the heap, the references -/
def HH (w : World) (l : List N) (r : R) (h : Nat) (j : Nat) (v : Value) (wr : World) : Prop :=
  ∃ S, Hp wr h S ((l.take j).map N.p) ∧ (∀ g, S g → w.heap.size + 1 ≤ g) ∧ wr.ownsRow 0 27 4 v j (cellsR (refs j)) ∧ (∀ g, v.ownBlock = some g → w.heap.size + 1 ≤ g ∧ ¬ S g) ∧ Blk wr w.heap.size 27 #[.int .u64 (r.k : Int), .int .i64 r.g, .int .i64 r.o, .int .i64 r.n] ∧ Below w.heap.size w wr
theorem HH.bel {w : World} {l : List N} {r : R} {h j : Nat} {v : Value} {wr : World} (hH : HH w l r h j v wr) : Below w.heap.size w wr := hH.choose_spec.2.2.2.2.2
theorem HH.row {w : World} {l : List N} {r : R} {h j : Nat} {v : Value} {wr : World} (hH : HH w l r h j v wr) : wr.ownsRow 0 27 4 v j (cellsR (refs j)) := hH.choose_spec.2.2.1
theorem HH.next {w : World} {l : List N} {r : R} {h j : Nat} {v : Value} {wr w' : World} (hH : HH w l r h j v wr) (hb : Below wr.heap.size wr w') : HH w l r h j v w' := by
  obtain ⟨S, h1, h2, h3, h4, h5, h6⟩ := hH
  exact ⟨S, h1.below hb, h2, row_below h3 hb, h4, h5.below hb h5.lt, h6.trans (hb.mono h6.size)⟩

set_option maxRecDepth 100000 in
set_option maxHeartbeats 4000000 in
theorem law_heaps (l : List N) (A : Option Addr) (c : Nat) (rk : Nat) (rg ro rn : Int) (w : World) (hN : Ns w w.heap.size l A c) (hr : (⟨rk, rg, ro, rn⟩ : R).fits) :
    Calls Try.prog 7 #[.slice A l.length c, .agg #[.int .u64 (rk : Int), .int .i64 rg, .int .i64 ro, .int .i64 rn]] w fun e w' => e = .returned (.bool true) ∧ Below w.heap.size w w' := by
  obtain ⟨i0, hi0, hz0, hz1, hz2⟩ := info_parts infoR
  have hlen : l.length ≤ 140737488355328 := by have := hN.2.1; omega
  have kR := Blk.new w 27 #[.int .u64 (rk : Int), .int .i64 rg, .int .i64 ro, .int .i64 rn]
  have b0 : Below w.heap.size w (w.alloc (.cells #[.int .u64 (rk : Int), .int .i64 rg, .int .i64 ro, .int .i64 rn] 27)) := (Below.refl _ _).alloc (Nat.le_refl _) _
  go_enter Try.func7, Try.ntmps7
  go_wp2_with fail
  refine (newHeap_any _).mono ?_
  rintro e w1 ⟨h, rfl, hh1, hH1, hb1⟩
  have b1 := b0.trans (hb1.mono b0.size)
  have hH : HH w l ⟨rk, rg, ro, rn⟩ h 0 (.slice none 0 0) w1 := ⟨_, by simpa using hH1, fun g hg => by subst hg; simpa using hh1, ⟨rfl, .inl ⟨rfl, rfl⟩⟩, (fun g hg => by cases hg), kR.below hb1 kR.lt, b1⟩
  clear hH1 hb1 b1 kR b0 hh1
  go_upto_block 0 with (fail)
  go_cut [6] (fun v wx => ∃ m, m ≤ l.length ∧ m ≤ 40 ∧ HH w l ⟨rk, rg, ro, rn⟩ h m v wx)
  case first =>
    go_wp2_with fail
    go_loopw [23, 6] (fun i v wx => ∃ m : Nat, m ≤ l.length ∧ m ≤ 40 ∧ i = .int .i64 (m : Int) ∧ HH w l ⟨rk, rg, ro, rn⟩ h m v wx) (fun i _ _ => l.length - (intOf i).toNat)
    case atStart => exact ⟨0, Nat.zero_le _, by omega, rfl, hH⟩
    case round =>
      clear hH
      obtain ⟨m, hm, hm4, rfl, hH⟩ := hrel
      by_cases hlt : m < l.length
      · have k1 : (0 : Int) ≤ (m : Int) := by omega
        have k2 : (m : Int) < (l.length : Int) := by omega
        obtain ⟨b, off, rfl, hb, n0, n1, n2⟩ := (hN.below hH.bel).at_ hlt
        by_cases h40 : m < 40
        · have d4 : decide ((40 : Int) ≤ (m : Int)) = false := decide_eq_false (by omega)
          have hE := (hN.below hH.bel).2.2.2.2 _ (List.getElem_mem hlt)
          obtain ⟨S, q1, q2, q3, q4, q5, q6⟩ := hH
          have bA : Below wr.heap.size wr (wr.alloc (.cells #[.bool l[m].lf, .slice l[m].A l[m].es.length l[m].c, .slice l[m].Q l[m].ks.length l[m].m] 60)) := (Below.refl _ _).alloc (Nat.le_refl _) _
          have bB := q6.trans (bA.mono q6.size)
          have hL : ((l.take m).map N.p).length = m := by simp; omega
          go_wp2_with fail
          refine (write_any _ _ _ _ _ _ _ h S _ _ (q1.below bA) ((hE.1.below (bA.mono q6.size)).more bB.size) ((hE.2.below (bA.mono q6.size)).more bB.size)).mono ?_
          rintro e w2 ⟨hK2, hw⟩
          rw [hL, if_pos (by omega)] at hw
          obtain ⟨rfl, hH2⟩ := hw
          rw [show ((l.take m).map N.p ++ [(l[m].lf, l[m].es.map pe, l[m].ks)]) = (l.take (m + 1)).map N.p by rw [List.take_succ_eq_append_getElem hlt, List.map_append]; rfl] at hH2
          rw [show (refOf m).val = .agg #[.int .u64 ((m : Int) + 1), .int .i64 ((m : Int) / 4), .int .i64 ((m : Int) % 4), .int .i64 1] from rfl]
          have qn : ∀ u : World, (binOp .neq 27 (.agg #[.int .u64 ((m : Int) + 1), .int .i64 ((m : Int) / 4), .int .i64 ((m : Int) % 4), .int .i64 1]) (.agg #[.int .u64 ((m : Int) + 1), .int .i64 ((m : Int) / 4), .int .i64 ((m : Int) % 4), .int .i64 1])).run Try.prog u = .ok (.bool false) u := fun u => by
            have h := ref_neq (refOf m) (refOf m) u
            rw [decide_eq_true rfl] at h
            exact h
          have e1 : IntKind.u64.wrap (m : Int) = (m : Int) := by rw [IntKind.wrap_u64]; omega
          have e2 : IntKind.u64.wrap ((m : Int) + 1) = (m : Int) + 1 := by rw [IntKind.wrap_u64]; omega
          have e3 : IntKind.i64.wrap ((m : Int) + 1) = (m : Int) + 1 := IntWalk.i64_in _ (by omega)
          have bC : Below w2.heap.size w2 (w2.alloc (.cells #[.int .u64 ((m : Int) + 1), .int .i64 ((m : Int) / 4), .int .i64 ((m : Int) % 4), .int .i64 1] 27)) := (Below.refl _ _).alloc (Nat.le_refl _) _
          have hL2 : ((l.take (m + 1)).map N.p).length = m + 1 := by simp; omega
          have hlen2 := len_any h _ _ _ (hH2.below bC)
          rw [hL2] at hlen2
          rw [show ((m + 1 : Nat) : Int) = (m : Int) + 1 from rfl] at hlen2
          go_wp2_with fail
          refine hlen2.mono ?_
          rintro e w3 ⟨rfl, rfl⟩
          have hs2 := hK2.size
          simp only [World.size_alloc] at hs2
          have hsw := q6.size
          have hlo := fun g (hg : u6.ownBlock = some g) => (q3.lt g hg).2
          have q3' : (w2.alloc (.cells #[.int .u64 ((m : Int) + 1), .int .i64 ((m : Int) / 4), .int .i64 ((m : Int) % 4), .int .i64 1] 27)).ownsRow 0 27 4 u6 m (cellsR (refs m)) := row_below (ownsRow_agree (row_below q3 bA) fun g hg => hK2.block g (by have := hlo g hg; simp; omega) (q4 g hg).2) bC
          have hSlt := q1.lt
          have hbl := hK2.blk (q5.below bA q5.lt) (fun h => by have := q2 _ h; omega)
          go_wp2_with (at_builtin; refine wpList_put1 Try.underlying32 hi0 hz0 hz1 hz2 rfl (by decide) rfl (.tmp 57) (.tmp 59) rfl (w := w2.alloc (.cells #[.int .u64 ((m : Int) + 1), .int .i64 ((m : Int) / 4), .int .i64 ((m : Int) % 4), .int .i64 1] 27)) (v := u6) (n := m) (xs := cellsR (refs m)) q3' rfl rfl (by intro u hu; simp at hu; rcases hu with rfl | rfl | rfl | rfl <;> rfl) rfl (by simp) (by omega) (by unfold maxLen; omega) ?_; intro v9 w4 ho9 hK9 hv9 hs9)
          refine ⟨⟨m + 1, hlt, h40, by go_num, More S (wr.alloc (.cells #[.bool l[m].lf, .slice l[m].A l[m].es.length l[m].c, .slice l[m].Q l[m].ks.length l[m].m] 60)) w2, ?_, ?_, ?_, ?_, ?_, ?_⟩, by simp [intOf]; omega⟩
          · refine (hH2.below bC).agree (hK9.agree fun g hg => ?_) (by omega)
            rcases hg with hg | hg
            · have := hSlt g hg
              exact ⟨by simp; omega, fun e => (q4 g e).2 hg⟩
            · simp only [World.size_alloc] at hg ⊢
              exact ⟨by omega, fun e => by have := hlo g e; omega⟩
          · intro g hg
            rcases hg with hg | hg
            · exact q2 g hg
            · simp only [World.size_alloc] at hg; omega
          · rw [refs_succ, cellsR_app]
            exact ho9
          · intro g hg
            rcases hv9 g hg with h1 | h1
            · refine ⟨(q4 g h1).1, fun h2 => ?_⟩
              rcases h2 with h2 | h2
              · exact (q4 g h1).2 h2
              · have := hlo g h1; simp only [World.size_alloc] at h2; omega
            · simp only [World.size_alloc] at h1
              refine ⟨by omega, fun h2 => ?_⟩
              rcases h2 with h2 | h2
              · have := hSlt g h2; omega
              · omega
          · exact hK9.blk (hbl.below bC hbl.lt) (fun h => by have := (q4 _ h).1; omega)
          · refine ((bB.trans (hK2.below (fun g hg => by have := q2 g hg; omega) bB.size)).trans (bC.mono (by omega))).trans (hK9.below (fun g hg => by have := (q4 g hg).1; omega) (by simp; omega))
        · have d4 : decide ((40 : Int) ≤ (m : Int)) = true := decide_eq_true (by omega)
          go_wp2_with fail
          go_meet
          exact ⟨m, hm, hm4, hH.next ((Below.refl _ _).alloc (Nat.le_refl _) _)⟩
      · have k2 : ¬ (m : Int) < (l.length : Int) := by omega
        go_wp2_with fail
        go_meet
        exact ⟨m, hm, hm4, hH⟩
  case rest =>
    clear hH
    obtain ⟨m, hm, hm4, hH⟩ := hcut
    obtain ⟨PA, pc, rfl, _, _, _⟩ := row_rdF hH.row
    go_wp2_with fail
    go_loopw [64, 11] (fun i v wx => ∃ (j : Nat) (kb : Bool), j ≤ m ∧ i = .int .i64 (j : Int) ∧ v = .bool kb ∧ Hid (kb = true ↔ ∃ k, k < j ∧ refOf k = ⟨rk, rg, ro, rn⟩) ∧ HH w l ⟨rk, rg, ro, rn⟩ h m (.slice PA m pc) wx) (fun i _ _ => m - (intOf i).toNat)
    case atStart => exact ⟨0, false, Nat.zero_le _, rfl, rfl, lay (by simp), hH⟩
    case round =>
      clear hH
      obtain ⟨j, kb, hj, rfl, rfl, hkb, hH⟩ := hrel
      by_cases hlt : j < m
      · have k1 : (0 : Int) ≤ (j : Int) := by omega
        have k2 : (j : Int) < (m : Int) := by omega
        have hlt' : j < l.length := by omega
        have k3 : (j : Int) < (l.length : Int) := by omega
        obtain ⟨b, off, rfl, hb, n0, n1, n2⟩ := (hN.below hH.bel).at_ hlt'
        obtain ⟨S, q1, q2, q3, q4, q5, q6⟩ := id hH
        obtain ⟨_, _, e, _, _, hrd⟩ := row_rdF q3
        injection e with e1 e2 e3
        subst e1 e3
        obtain ⟨c0, c1, c2, c3⟩ := cellsR_at (refs m) (j := j) (by rw [refs_len]; exact hlt)
        rw [refs_at] at c0 c1 c2 c3
        obtain ⟨b2, off2, rfl, hb2, x0⟩ := hrd _ _ c0
        obtain ⟨_, _, e, _, x1⟩ := hrd _ _ c1
        cases e
        obtain ⟨_, _, e, _, x2⟩ := hrd _ _ c2
        cases e
        obtain ⟨_, _, e, _, x3⟩ := hrd _ _ c3
        cases e
        rw [← Nat.add_assoc] at x1 x2 x3
        rw [show (Value.int .u64 ((refOf j).k : Int)) = .int .u64 ((j : Int) + 1) from rfl] at x0
        rw [show (Value.int .i64 ((refOf j).g : Int)) = .int .i64 ((j : Int) / 4) from rfl] at x1
        rw [show (Value.int .i64 ((refOf j).o : Int)) = .int .i64 ((j : Int) % 4) from rfl] at x2
        rw [show (Value.int .i64 ((refOf j).n : Int)) = .int .i64 1 from rfl] at x3
        clear c0 c1 c2 c3 hrd
        have v0 := q5.cell 0
        have v1 := q5.cell 1
        have v2 := q5.cell 2
        have v3 := q5.cell 3
        have vl := q5.lt
        simp at v0 v1 v2 v3
        have bA : Below wr.heap.size wr (wr.alloc (.cells #[.int .u64 ((j : Int) + 1), .int .i64 ((j : Int) / 4), .int .i64 ((j : Int) % 4), .int .i64 1] 27)) := (Below.refl _ _).alloc (Nat.le_refl _) _
        have kA := Blk.new wr 27 #[.int .u64 ((j : Int) + 1), .int .i64 ((j : Int) / 4), .int .i64 ((j : Int) % 4), .int .i64 1]
        have hread := read_any (refOf j) h S _ _ (q1.below bA) (refOf_fits (by omega))
        have hL : ((l.take m).map N.p)[j]? = some (l[j].p) := by rw [List.getElem?_map, List.getElem?_take_of_lt hlt, List.getElem?_eq_getElem hlt']; rfl
        rw [pageAt_of, hL, show (refOf j).val = .agg #[.int .u64 ((j : Int) + 1), .int .i64 ((j : Int) / 4), .int .i64 ((j : Int) % 4), .int .i64 1] from rfl] at hread
        go_wp2_with fail
        refine hread.mono ?_
        rintro e w2 ⟨hb2', y, rfl, hy, hyO⟩
        obtain ⟨ylf, yes, yks, yA, yc, yQ, ym⟩ := y
        have kR := (q5.below bA q5.lt).below hb2' (by simp; omega)
        have kX := kA.below hb2' kA.lt
        have hH2 := (hH.next bA).next hb2'
        have b12 := bA.trans (hb2'.mono bA.size)
        have bN : Below w2.heap.size w2 (w2.alloc (.cells #[.bool ylf, .slice yA yes.length yc, .slice yQ yks.length ym] 60)) := (Below.refl _ _).alloc (Nat.le_refl _) _
        have kN := Blk.new w2 60 #[.bool ylf, .slice yA yes.length yc, .slice yQ yks.length ym]
        have b1N := b12.trans (bN.mono b12.size)
        have kR9 := kR.below bN kR.lt
        have kX9 := kX.below bN kX.lt
        have hH9 := hH2.next bN
        have hE := (hN.below hH.bel).2.2.2.2 _ (List.getElem_mem hlt')
        have yE := (hyO.ns.1.es).below bN
        have yK := (hyO.ns.2.ks).below bN
        have lE := hE.1.below (b1N.mono q6.size)
        have lK := hE.2.below (b1N.mono q6.size)
        have n0 := (b1N.cell (p := ⟨b, off + j * 3, none⟩) (by simp only; omega)).trans n0
        have n1 := (b1N.cell (p := ⟨b, off + j * 3 + 1, none⟩) (by simp only; omega)).trans n1
        have n2 := (b1N.cell (p := ⟨b, off + j * 3 + 2, none⟩) (by simp only; omega)).trans n2
        have hd : decide (ylf = l[j].lf ∧ yes.map pe = l[j].es.map pe ∧ yks = l[j].ks) = true := decide_eq_true (by simp only [N.p, Prod.mk.injEq] at hy; exact hy)
        have s2W := bN.size
        have hwW := Nat.le_trans q6.size b1N.size
        go_wp2_with fail
        generalize w2.alloc (.cells #[.bool ylf, .slice yA yes.length yc, .slice yQ yks.length ym] 60) = W at *
        have hlk := fun w' (hb : Below W.heap.size W w') => likeN_any ylf l[j].lf yes l[j].es yks l[j].ks yA l[j].A yc l[j].c yQ l[j].Q ym l[j].m w' ((yE.more s2W).at_world hb) ((lE.more hwW).at_world hb) ((yK.more s2W).at_world hb) ((lK.more hwW).at_world hb)
        rw [hd] at hlk
        have z0 := kN.cell 0
        have z1 := kN.cell 1
        have z2 := kN.cell 2
        have zl := kN.lt
        simp at z0 z1 z2
        have bW9 : b < W.heap.size := by omega
        clear v0 v1 v2 v3 x0 x1 x2 x3 hread hL hH hH2 kR kX kA bA hb2' hyO hy hE yE yK lE lK hd b1N b12 bN q1 q2 q3 q4 q5
        obtain ⟨NW, hNW, hM⟩ := norms (fun w' => Below W.heap.size W w') _ (Below.refl _ _)
        have hne : Nonempty World := ⟨w⟩
        have o0 := fun n => ((hNW n).cell (p := ⟨w2.heap.size, 0, none⟩) zl).trans z0
        have o1 := fun n => ((hNW n).cell (p := ⟨w2.heap.size, 1, none⟩) zl).trans z1
        have o2 := fun n => ((hNW n).cell (p := ⟨w2.heap.size, 2, none⟩) zl).trans z2
        have o3 := fun n => ((hNW n).cell (p := ⟨b, off + j * 3, none⟩) bW9).trans n0
        have o4 := fun n => ((hNW n).cell (p := ⟨b, off + j * 3 + 1, none⟩) bW9).trans n1
        have o5 := fun n => ((hNW n).cell (p := ⟨b, off + j * 3 + 2, none⟩) bW9).trans n2
        refine region_class NW (by kernel_rfl) (by kernel_rfl) (hM _ ((Below.refl _ _).drew)) ?_
        repeat (go_big_quiet_step (first
          | (go_at_call 29; exact call_cls hNW hM (hlk _ (hNW _)))))
        refine wpQuiet_nil ?_
        rintro _ ⟨n, rfl⟩
        have I9 := hNW n
        generalize NW n = w9 at I9 ⊢
        clear o0 o1 o2 o3 o4 o5 hM hNW NW n hne z0 z1 z2 n0 n1 n2
        have kR := kR9.below I9 kR9.lt
        have kX := kX9.below I9 kX9.lt
        have hHf := hH9.next I9
        have v0 := kR.cell 0
        have v1 := kR.cell 1
        have v2 := kR.cell 2
        have v3 := kR.cell 3
        have v4 := kX.cell 0
        have v5 := kX.cell 1
        have v6 := kX.cell 2
        have v7 := kX.cell 3
        have g1 := kR.lt
        have g2 := kX.lt
        simp at v0 v1 v2 v3 v4 v5 v6 v7
        have qe : ∀ u : World, (binOp .eql 27 (.agg #[.int .u64 ((j : Int) + 1), .int .i64 ((j : Int) / 4), .int .i64 ((j : Int) % 4), .int .i64 1]) (.agg #[.int .u64 (rk : Int), .int .i64 rg, .int .i64 ro, .int .i64 rn])).run Try.prog u = .ok (.bool (decide (refOf j = ⟨rk, rg, ro, rn⟩))) u := fun u => ref_eql (refOf j) ⟨rk, rg, ro, rn⟩ u
        have hdb : Hid (∀ db, decide (refOf j = ⟨rk, rg, ro, rn⟩) = db → ((kb || db) = true ↔ ∃ k, k < j + 1 ∧ refOf k = ⟨rk, rg, ro, rn⟩)) := lay (fun db h => by
          rw [← h, Bool.or_eq_true, hkb.out, decide_eq_true_iff]
          constructor
          · rintro (⟨k, h1, h2⟩ | h1)
            · exact ⟨k, by omega, h2⟩
            · exact ⟨j, by omega, h1⟩
          · rintro ⟨k, h1, h2⟩
            rcases Nat.lt_or_ge k j with h3 | h3
            · exact .inl ⟨k, h3, h2⟩
            · exact .inr (by rw [show j = k by omega]; exact h2))
        generalize hdbe : decide (refOf j = ⟨rk, rg, ro, rn⟩) = db at qe
        have hdb2 := lay (hdb.out db hdbe)
        clear hdb hdbe hkb
        cases kb with
        | true =>
          go_wp2_with fail
          exact ⟨⟨j + 1, true, hlt, by go_num, rfl, hdb2, hHf⟩, by simp [intOf]; omega⟩
        | false =>
          go_wp2_with fail
          exact ⟨⟨j + 1, db, hlt, by go_num, rfl, lay (by simpa using hdb2.out), hHf⟩, by simp [intOf]; omega⟩
      · have k2 : ¬ (j : Int) < (m : Int) := by omega
        obtain rfl : j = m := by omega
        obtain ⟨S, q1, q2, q3, q4, q5, q6⟩ := id hH
        have v0 := q5.cell 0
        have v1 := q5.cell 1
        have v2 := q5.cell 2
        have v3 := q5.cell 3
        have vl := q5.lt
        simp at v0 v1 v2 v3
        have hread := read_any ⟨rk, rg, ro, rn⟩ h S _ _ q1 hr
        cases kb with
        | true =>
          obtain ⟨k, hk, hke⟩ := hkb.out.1 rfl
          have hL : ((l.take j).map N.p)[k]? = some (l[k].p) := by rw [List.getElem?_map, List.getElem?_take_of_lt hk, List.getElem?_eq_getElem (by omega)]; rfl
          rw [← hke, pageAt_of, hL, hke] at hread
          clear hke hkb hL
          go_wp2_with fail
          refine hread.mono ?_
          rintro e w2 ⟨hb2', ⟨ylf, yes, yks, yA, yc, yQ, ym⟩, rfl, hy, hyO⟩
          go_wp2_with fail
          go_ret
          exact ⟨rfl, (q6.trans (hb2'.mono q6.size)).alloc (Nat.le_trans q6.size hb2'.size) _⟩
        | false =>
          have hL : pageAt ((l.take j).map N.p) ⟨rk, rg, ro, rn⟩ = none := by
            unfold pageAt
            split
            · rename_i hc
              rcases Nat.lt_or_ge (rk - 1) j with h1 | h1
              · exact absurd (hkb.out.2 ⟨rk - 1, h1, hc.2.symm⟩) (by simp)
              · rw [List.getElem?_eq_none]; simp; omega
            · rfl
          rw [hL] at hread
          clear hkb hL
          go_wp2_with fail
          refine hread.mono ?_
          rintro e w2 ⟨hb2', rfl⟩
          go_wp2_with fail
          refine (likeN_any false false [] [] [] [] none none 0 0 none none 0 0 _ (EsF.nil _ (fun _ => True)).es (EsF.nil _ (fun _ => True)).es (KsF.nil _ (fun _ => True)).ks (KsF.nil _ (fun _ => True)).ks).mono ?_
          rintro e w3 ⟨rfl, hb3⟩
          go_wp2_with fail
          go_ret
          have b9 := (q6.trans (hb2'.mono q6.size)).alloc (Nat.le_trans q6.size hb2'.size) (.cells #[.bool false, .slice none 0 0, .slice none 0 0] 60)
          exact ⟨rfl, b9.trans (hb3.mono b9.size)⟩

end Go.Proofs.Ytboghhiiodlmbaa.trees
