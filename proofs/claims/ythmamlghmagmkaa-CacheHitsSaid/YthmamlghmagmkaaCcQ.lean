/- CacheHits. -/
import Derived.Test.YthmamlghmagmkaaCcP
import Derived.Deep.CutBlock
import Derived.Deep.DeepCutAuto


namespace Go.Proofs.Ythmamlghmagmkaa.caches
set_option linter.unusedVariables false
set_option linter.unusedSimpArgs false
open Go.RowKit Go.Proofs.Ythmamlghmagmkaa.base Go.Proofs.Ythmamlghmagmkaa.vers Go.Proofs.Ythmamlghmagmkaa.nodes Go.Proofs.Ythmamlghmagmkaa.trees

set_option maxRecDepth 100000 in
set_option maxHeartbeats 16000000 in
theorem law_hits (a : Int) (l : List CO) (A : Option Addr) (c : Nat) (w : World) (hX : Cs w w.heap.size l A c) :
    Calls Try.prog 12 #[.int .i64 a, .slice A l.length c] w fun e w' => e = .returned (.bool true) ∧ Below w.heap.size w w' := by
  have hlen : l.length ≤ 140737488355328 := by have := hX.2.1; omega
  have hX1 := hX.take 60
  have hl60 : (l.take 60).length ≤ 60 := by rw [List.length_take]; omega
  have hsh := fun w' (hb : Below w.heap.size w w') => shortC_any l A c 60 (by omega) w' (hX.at_world hb)
  rw [show ((60 : Nat) : Int) = 60 from rfl] at hsh
  generalize l.take 60 = L at *
  have HX := vers.lay hX1
  clear hX hX1
  go_enter Try.func12, Try.ntmps12
  go_upto_region 1 with (fail)
  go_cut [20] from 15 to 19 (fun x wx => ∃ bb : Bool, x = .bool bb ∧ Hid (bb = false → 0 ≤ a ∧ a ≤ 32) ∧ w = wx)
  case first =>
    by_cases h1 : a < 0
    · have d1 : decide (a < 0) = true := decide_eq_true h1
      clear h1
      go_wp2_with fail
      go_meet
      exact ⟨true, rfl, vers.lay (fun h => by cases h), rfl⟩
    · have d1 : decide (a < 0) = false := decide_eq_false h1
      by_cases h2 : 32 < a
      · have d2 : decide (32 < a) = true := decide_eq_true h2
        clear h1 h2
        go_wp2_with fail
        go_meet
        exact ⟨true, rfl, vers.lay (fun h => by cases h), rfl⟩
      · have d2 : decide (32 < a) = false := decide_eq_false h2
        have HB := vers.lay (And.intro h1 h2)
        clear h1 h2
        go_wp2_with fail
        go_meet
        exact ⟨false, rfl, vers.lay (fun _ => by have := HB.out; omega), rfl⟩
  case rest =>
  obtain ⟨bb, rfl, HB, rfl⟩ := hcut
  go_upto_if 20 with (fail)
  go_cut [0] from 15 to 20 (fun x wx => ∃ n : Nat, (0 ≤ n ∧ n ≤ 32) ∧ x = .int .i64 (n : Int) ∧ w = wx)
  case first =>
    cases bb with
    | true =>
      go_wp2_with fail
      go_meet
      exact ⟨2, by omega, rfl, rfl⟩
    | false =>
      obtain ⟨n, rfl⟩ := Int.eq_ofNat_of_zero_le (show 0 ≤ a by have := HB.out rfl; omega)
      go_wp2_with fail
      go_meet
      exact ⟨n, by have := HB.out (by trivial); omega, rfl, rfl⟩
  case rest =>
  clear HB
  obtain ⟨n, hn, rfl, rfl⟩ := hcut
  have hnew := new_ok n w (by omega)
  go_upto_region 7 with (go_at_call 46; refine hnew.mono ?_; rintro e w1 ⟨p, g, rfl, hc1, hb1⟩)
  have H1 := vers.lay (show RI w 0 w1 p g (fun b => w.heap.size ≤ b ∧ b < w1.heap.size) n 0 0 [] from ⟨hb1, hc1, fun b hb => hb.1, Nat.le_refl _, Nat.le_refl _, fun x hx => by cases hx⟩)
  have hs1 := hsh w1 hb1
  clear hnew hc1 hb1 hsh
  go_wp2_with (go_at_call 48; refine hs1.mono ?_; rintro e w2 ⟨rfl, rfl⟩)
  go_loopw [7, 8, 35] (fun s7 s8 i wx => ∃ j : Nat, i = .int .i64 (j : Int) ∧ j ≤ L.length ∧ ∃ (f m : Nat) (l : List H) (Z : Nat → Prop), s7 = .int .i64 (f : Int) ∧ s8 = .int .i64 (m : Int) ∧ Hid (RI w j wx p g Z n f m l)) (fun _ _ i _ => L.length - (RowKit.intOf i).toNat)
  case atStart => exact ⟨0, rfl, Nat.zero_le _, 0, 0, [], _, rfl, rfl, H1⟩
  case round =>
    as_aux_lemma =>
    clear H1
    obtain ⟨j, rfl, hj, f, m, l1, Z, rfl, rfl, HR⟩ := hrel
    by_cases hlt : j < L.length
    · obtain ⟨b, off, rfl, hb, x0, x1, x2, x3, x4, x5⟩ := (HX.out.below HR.out.below).at_ hlt
      have hbl : b < wr.heap.size := Nat.lt_of_lt_of_le hb HR.out.below.size
      have hok := HX.out.2.2.2.2 _ (List.getElem_mem hlt)
      generalize L[j] = oo at *
      obtain ⟨k, s, ⟨lf, es, ks, nA, nc, nQ, nq⟩, rl, rA, rc⟩ := oo
      simp only at x0 x1 x2 x3 x4 x5
      obtain ⟨hk0, hs0, hnd0, hrl0⟩ := hok
      simp only at hk0 hs0 hnd0 hrl0
      obtain ⟨r1, hr1⟩ : ∃ r1, ofP s = r1 := ⟨_, rfl⟩
      have hft := ofP_fits s
      rw [hr1] at hft
      have hof0 := fun wx => of_any s wx hs0
      rw [hr1] at hof0
      obtain ⟨rk, rg, ro, rn⟩ := r1
      have HFT := vers.lay hft
      have HND := vers.lay hnd0
      have hrf0 := fun wx (hb : Below w.heap.size w wx) => refs_any rl rA rc wx (hrl0.at_world hb)
      have n1 : j + 1 ≤ L.length := hlt
      have d1 : decide ((j : Int) < (L.length : Int)) = true := decide_eq_true (by omega)
      have d2 : decide (j < L.length) = true := decide_eq_true hlt
      have ej : IntKind.i64.wrap ((j : Int) + 1) = (j : Int) + 1 := IntWalk.i64_in _ (by omega)
      have hj60 : j < 60 := by omega
      clear hr1 hft hnd0 hrl0 hk0 hs0 hlt hb
      have b3 : Below wr.heap.size wr (wr.alloc (.cells #[.int .i64 k, .int .i64 s, .bool lf, .slice nA es.length nc, .slice nQ ks.length nq, .slice rA rl.length rc] 116)) := (Below.refl _ _).alloc (Nat.le_refl _) _
      have k3 := Blk.new wr 116 #[.int .i64 k, .int .i64 s, .bool lf, .slice nA es.length nc, .slice nQ ks.length nq, .slice rA rl.length rc]
      go_upto_region 10 with (fail)
      generalize hW3 : wr.alloc (.cells #[.int .i64 k, .int .i64 s, .bool lf, .slice nA es.length nc, .slice nQ ks.length nq, .slice rA rl.length rc] 116) = W3 at b3 k3 ⊢
      obtain ⟨q, hq⟩ : ∃ q, wr.heap.size = q := ⟨_, rfl⟩
      rw [hq] at k3 ⊢
      have HQ := vers.lay hq
      clear hW3 hq
      obtain ⟨g0, g1, g2, g3, g4, g5⟩ : W3.cell? ⟨q, 0, none⟩ = _ ∧ W3.cell? ⟨q, 1, none⟩ = _ ∧ W3.cell? ⟨q, 2, none⟩ = _ ∧ W3.cell? ⟨q, 3, none⟩ = _ ∧ W3.cell? ⟨q, 4, none⟩ = _ ∧ W3.cell? ⟨q, 5, none⟩ = _ := ⟨k3.cell 0, k3.cell 1, k3.cell 2, k3.cell 3, k3.cell 4, k3.cell 5⟩
      simp only [List.getElem?_toArray, List.getElem?_cons_zero, List.getElem?_cons_succ] at g0 g1 g2 g3 g4 g5
      have hql := k3.lt
      have H3 := vers.lay (HR.out.next b3)
      have HB3 := vers.lay (HR.out.below.trans (b3.mono HR.out.below.size))
      clear x0 x1 x2 x3 x4 x5 b3 k3 HR
      go_upto_block 2 with (fail)
      go_cut [7, 8] (fun s7 s8 wx => ∃ (f m : Nat) (l : List H) (Z : Nat → Prop), s7 = .int .i64 (f : Int) ∧ s8 = .int .i64 (m : Int) ∧ Hid (RI w (j + 1) wx p g Z n f m l))
      case first =>
        as_aux_lemma =>
        by_cases hk1 : k = 1
        · obtain rfl := hk1
          have hof := hof0 W3
          clear g2 g3 g4 g5
          cases hat : atR (l1.map H.ph) ⟨rk, rg, ro, rn⟩ with
          | none =>
            have HAT := vers.lay hat
            clear hat
            go_wp2_with (first | (go_at_call 49; refine hof.mono ?_; rintro e w4 ⟨rfl, hb4⟩; have H4 := vers.lay (H3.out.next hb4); have hop := get_no H4.out.ca rk rg ro rn HAT.out (by have := H4.out.bm; omega)) | (go_at_call 50; refine hop.mono ?_; rintro e w5 ⟨rfl, hc5, hk5⟩))
            have H5 := vers.lay (H4.out.same hc5 (hk5.mono fun b e _ => e ▸ H4.out.ca.zp) (k := j + 1) (by have := H4.out.bf; omega) (by have := H4.out.bm; omega) (H4.out.bp.mono (by omega)))
            have H6 := vers.lay (H5.out.next ((Below.refl _ _).alloc (Nat.le_refl _) (.cells #[.bool false, .slice none 0 0, .slice none 0 0] 60)))
            have ew := vers.lay (show wrap64 ((m : Int) + 1) = ((m + 1 : Nat) : Int) from by rw [IntWalk.wrap64_in _ (by have := H4.out.bm; omega)]; rfl)
            clear hc5 hk5
            go_wp2_with fail
            go_meet
            exact ⟨f, m + 1, l1, Z, rfl, congrArg (Value.int .i64) ew.out, H6⟩
          | some i =>
            have HAT := vers.lay hat
            have hi : i < l1.length := by obtain ⟨h, _⟩ := atR_lt hat; simpa using h
            have HI := vers.lay hi
            clear hat hi
            go_wp2_with (first | (go_at_call 49; refine hof.mono ?_; rintro e w4 ⟨rfl, hb4⟩; have H4 := vers.lay (H3.out.next hb4); have hop := get_yes H4.out.ca rk rg ro rn i HAT.out HI.out (by have := H4.out.bf; omega)) | (go_at_call 50; refine hop.mono ?_; rintro e w5 ⟨y5, rfl, hyp5, hyo5, hc5, hk5⟩))
            have H5 := vers.lay (H4.out.same hc5 hk5 (k := j + 1) (by have := H4.out.bf; omega) (by have := H4.out.bm; omega) (by rw [mvL_map H.ph l1 HI.out]; exact (H4.out.bp.mono (by omega)).mv (by simpa using HI.out)))
            have H6 := vers.lay (H5.out.next ((Below.refl _ _).alloc (Nat.le_refl _) (.cells #[.bool y5.lf, .slice y5.A y5.es.length y5.c, .slice y5.Q y5.ks.length y5.m] 60)))
            have ew := vers.lay (show wrap64 ((f : Int) + 1) = ((f + 1 : Nat) : Int) from by rw [IntWalk.wrap64_in _ (by have := H4.out.bf; omega)]; rfl)
            clear hc5 hk5 hyp5 hyo5
            go_wp2_with fail
            go_meet
            exact ⟨f + 1, m, mvL l1 i, Z, congrArg (Value.int .i64) ew.out, rfl, H6⟩
        · by_cases hk2 : k = 2
          · obtain rfl := hk2
            have hof := hof0 W3
            clear g2 g3 g4 g5
            go_wp2_with (first | (go_at_call 49; refine hof.mono ?_; rintro e w4 ⟨rfl, hb4⟩; have H4 := vers.lay (H3.out.next hb4); have hop := pin_ok H4.out.ca rk rg ro rn (H4.out.pins (by omega))) | (go_at_call 53; refine hop.mono ?_; rintro e w5 ⟨E5, l5, rfl, hE5, hc5, hk5⟩))
            have H5 := vers.lay (H4.out.same hc5 hk5 (k := j + 1) (by have := H4.out.bf; omega) (by have := H4.out.bm; omega) (by rw [show l5.map H.ph = (pinP (l1.map H.ph) ⟨rk, rg, ro, rn⟩).2 by rw [← hE5]]; exact H4.out.bp.pin _))
            clear hc5 hk5 hE5
            go_wp2_with fail
            go_meet
            exact ⟨_, _, _, _, rfl, rfl, H5⟩
          · by_cases hk4 : k = 4
            · obtain rfl := hk4
              clear g1 g2 g3 g4
              have hrf := hrf0 W3 HB3.out
              go_wp2_with (first | (go_at_call 58; refine hrf.mono ?_; rintro e w4 ⟨A4, c4, rfl, hq4, hb4⟩; have H4 := vers.lay (H3.out.next hb4); have hop := drop_ok H4.out.ca (refsP rl) A4 c4 _ hq4 (fun b hb => ⟨hb.2, fun hz => by have := H3.out.ca.zlt b hz; omega⟩)) | (go_at_call 57; refine hop.mono ?_; rintro e w5 ⟨l5, rfl, hE5, hc5, hk5⟩))
              have H5 := vers.lay (H4.out.same hc5 hk5 (k := j + 1) (by have := H4.out.bf; omega) (by have := H4.out.bm; omega) (by rw [hE5]; exact (H4.out.bp.mono (by omega)).drop _))
              clear hc5 hk5 hE5 hq4
              go_wp2_with fail
              go_meet
              exact ⟨_, _, _, _, rfl, rfl, H5⟩
            · by_cases hk5 : k = 5
              · obtain rfl := hk5
                clear g1 g2 g3 g4 g5
                have hop := wipeAll_ok H3.out.ca
                go_wp2_with (go_at_call 60; refine hop.mono ?_; rintro e w5 ⟨rfl, hc5, hk5⟩)
                have H5 := vers.lay (H3.out.same hc5 hk5 (k := j + 1) (by have := H3.out.bf; omega) (by have := H3.out.bm; omega) (fun x hx => by cases hx))
                clear hc5 hk5
                go_wp2_with fail
                go_meet
                exact ⟨_, _, _, _, rfl, rfl, H5⟩
              · by_cases hk6 : k = 6
                · obtain rfl := hk6
                  clear g1 g2 g3 g4 g5
                  have hop := holds_ok H3.out.ca
                  go_wp2_with (go_at_call 62; refine hop.mono ?_; rintro e w5 ⟨v5, l5, rfl, _, _, hb5⟩)
                  have H5 := vers.lay ((H3.out.next hb5).more (k := j + 1) (by omega))
                  go_wp2_with fail
                  go_meet
                  exact ⟨_, _, _, _, rfl, rfl, H5⟩
                · have q1 : decide (k = 1) = false := decide_eq_false hk1
                  have q1' : (k == 1) = false := by simp [hk1]
                  have q2 : decide (k = 2) = false := decide_eq_false hk2
                  have q2' : (k == 2) = false := by simp [hk2]
                  have q4 : decide (k = 4) = false := decide_eq_false hk4
                  have q4' : (k == 4) = false := by simp [hk4]
                  have q5 : decide (k = 5) = false := decide_eq_false hk5
                  have q5' : (k == 5) = false := by simp [hk5]
                  have q6 : decide (k = 6) = false := decide_eq_false hk6
                  have q6' : (k == 6) = false := by simp [hk6]
                  clear hk1 hk2 hk4 hk5 hk6
                  have hS0 : Below W3.heap.size W3 W3.drew := (Below.refl _ _).drew
                  go_upto_region 11 with (fail)
                  refine mix.region_D (fun w' => Below W3.heap.size W3 w') (fun j => j == 6) (by kernel_rfl) ?_
                  generalize W3.drew = Wd at *
                  refine mix.D_takeT (i := 0) (v := ?_) rfl (by kernel_rfl) (by kernel_rfl) (fun _ _ _ h => h) (Or.inl ⟨by first | rfl | simp [Region.wanted, yielded], ?_⟩) hS0 ?_
                  rotate_left
                  · intro w' hSw
                    have z1 := (hSw.cell (p := ⟨q, 1, none⟩) hql).trans g1
                    have z2 := (hSw.cell (p := ⟨q, 2, none⟩) hql).trans g2
                    have z3 := (hSw.cell (p := ⟨q, 3, none⟩) hql).trans g3
                    have z4 := (hSw.cell (p := ⟨q, 4, none⟩) hql).trans g4
                    try simp only [List.getElem_toArray, List.getElem_cons_zero, List.getElem_cons_succ]
                    go_simp
                    exact rfl
                  try simp only [Act.put, List.setIfInBounds_toArray, List.set_cons_zero, List.set_cons_succ, List.getElem_toArray, List.getElem_cons_zero, List.getElem_cons_succ]
                  refine mix.D_takeT (i := 1) (v := ?_) rfl (by kernel_rfl) (by kernel_rfl) (fun _ _ _ h => h) (Or.inl ⟨by first | rfl | simp [Region.wanted, yielded], ?_⟩) hS0 ?_
                  rotate_left
                  · intro w' hSw
                    have z1 := (hSw.cell (p := ⟨q, 1, none⟩) hql).trans g1
                    have z2 := (hSw.cell (p := ⟨q, 2, none⟩) hql).trans g2
                    have z3 := (hSw.cell (p := ⟨q, 3, none⟩) hql).trans g3
                    have z4 := (hSw.cell (p := ⟨q, 4, none⟩) hql).trans g4
                    try simp only [List.getElem_toArray, List.getElem_cons_zero, List.getElem_cons_succ]
                    go_simp
                    exact rfl
                  try simp only [Act.put, List.setIfInBounds_toArray, List.set_cons_zero, List.set_cons_succ, List.getElem_toArray, List.getElem_cons_zero, List.getElem_cons_succ]
                  refine mix.D_takeT (i := 2) (v := ?_) rfl (by kernel_rfl) (by kernel_rfl) (fun _ _ _ h => h) (Or.inl ⟨by first | rfl | simp [Region.wanted, yielded], ?_⟩) hS0 ?_
                  rotate_left
                  · intro w' hSw
                    have z1 := (hSw.cell (p := ⟨q, 1, none⟩) hql).trans g1
                    have z2 := (hSw.cell (p := ⟨q, 2, none⟩) hql).trans g2
                    have z3 := (hSw.cell (p := ⟨q, 3, none⟩) hql).trans g3
                    have z4 := (hSw.cell (p := ⟨q, 4, none⟩) hql).trans g4
                    try simp only [List.getElem_toArray, List.getElem_cons_zero, List.getElem_cons_succ]
                    go_simp
                    exact rfl
                  try simp only [Act.put, List.setIfInBounds_toArray, List.set_cons_zero, List.set_cons_succ, List.getElem_toArray, List.getElem_cons_zero, List.getElem_cons_succ]
                  refine mix.D_takeT (i := 4) (v := ?_) rfl (by kernel_rfl) (by kernel_rfl) (fun _ _ _ h => h) (Or.inl ⟨by first | rfl | simp [Region.wanted, yielded], ?_⟩) hS0 ?_
                  rotate_left
                  · intro w' hSw
                    have z1 := (hSw.cell (p := ⟨q, 1, none⟩) hql).trans g1
                    have z2 := (hSw.cell (p := ⟨q, 2, none⟩) hql).trans g2
                    have z3 := (hSw.cell (p := ⟨q, 3, none⟩) hql).trans g3
                    have z4 := (hSw.cell (p := ⟨q, 4, none⟩) hql).trans g4
                    try simp only [List.getElem_toArray, List.getElem_cons_zero, List.getElem_cons_succ]
                    go_simp
                    exact rfl
                  try simp only [Act.put, List.setIfInBounds_toArray, List.set_cons_zero, List.set_cons_succ, List.getElem_toArray, List.getElem_cons_zero, List.getElem_cons_succ]
                  refine mix.D_takeT (i := 5) (v := ?_) rfl (by kernel_rfl) (by kernel_rfl) (fun _ _ _ h => h) (Or.inl ⟨by first | rfl | simp [Region.wanted, yielded], ?_⟩) hS0 ?_
                  rotate_left
                  · intro w' hSw
                    have z1 := (hSw.cell (p := ⟨q, 1, none⟩) hql).trans g1
                    have z2 := (hSw.cell (p := ⟨q, 2, none⟩) hql).trans g2
                    have z3 := (hSw.cell (p := ⟨q, 3, none⟩) hql).trans g3
                    have z4 := (hSw.cell (p := ⟨q, 4, none⟩) hql).trans g4
                    try simp only [List.getElem_toArray, List.getElem_cons_zero, List.getElem_cons_succ]
                    go_simp
                    exact rfl
                  try simp only [Act.put, List.setIfInBounds_toArray, List.set_cons_zero, List.set_cons_succ, List.getElem_toArray, List.getElem_cons_zero, List.getElem_cons_succ]
                  refine mix.D_op (k := 3) rfl rfl (by kernel_rfl) (fun K' hK => ?_)
                  simp only [List.getElem_toArray, List.getElem_cons_zero, List.getElem_cons_succ]
                  go_wp2_with fail
                  refine (hof0 Wd).mono ?_
                  rintro e w4 ⟨rfl, hb4⟩
                  have hs4 : Below W3.heap.size W3 w4 := hS0.trans (hb4.mono hS0.size)
                  refine hK.out _ _ (fun _ => hs4) ?_
                  clear hK K'
                  try simp only [Act.put, List.setIfInBounds_toArray, List.set_cons_zero, List.set_cons_succ]
                  refine mix.D_op (k := 6) rfl rfl (by kernel_rfl) (fun K' hK => ?_)
                  simp only [List.getElem_toArray, List.getElem_cons_zero, List.getElem_cons_succ]
                  have H4 := vers.lay (H3.out.next hs4)
                  have hop := put_ok H4.out.ca rk rg ro rn HFT.out lf es ks nA nc nQ nq _ (H4.out.arg HND.out).1 (H4.out.arg HND.out).2
                  go_wp2_with fail
                  refine hop.mono ?_
                  rintro e w5 ⟨E5, l5, Z5, rfl, hE5, hc5, hk5, hz5⟩
                  refine hK.out _ _ (fun h => by simp at h) ?_
                  clear hK K'
                  try simp only [Act.put, List.setIfInBounds_toArray, List.set_cons_zero, List.set_cons_succ]
                  refine mix.D_done (by kernel_rfl) ?_ _
                  try simp only [Act.put, List.setIfInBounds_toArray, List.set_cons_zero, List.set_cons_succ, List.getElem_toArray, List.getElem_cons_zero, List.getElem_cons_succ]
                  have H5 := vers.lay (H4.out.step hc5 hk5 hz5 (k := j + 1) (by have := H4.out.bf; omega) (by have := H4.out.bm; omega) (by rw [show l5.map H.ph = (putP n (l1.map H.ph) ⟨rk, rg, ro, rn⟩ (lf, es.map pe, ks)).2 by rw [← hE5]]; exact (H4.out.bp.mono (by omega)).put _ _))
                  clear hc5 hk5 hE5 hz5
                  go_wp2_with fail
                  go_meet
                  exact ⟨_, _, _, _, rfl, rfl, H5⟩
      case rest =>
      as_aux_lemma =>
      obtain ⟨f2, m2, l2, Z2, rfl, rfl, HR2⟩ := hcut
      have hhi := hits_ok HR2.out.ca
      clear g0 g1 g2 g3 g4 g5 hql
      go_wp2_with (go_at_call 65; refine hhi.mono ?_; rintro e w9 ⟨rfl, hb9⟩)
      have HR9 := vers.lay (HR2.out.next hb9)
      go_roundw
      case rel => exact ⟨j + 1, by go_num, n1, f2, m2, l2, Z2, rfl, rfl, HR9⟩
      case measure => first | (simp [RowKit.intOf]; done) | (simp [RowKit.intOf]; omega) | omega
    · obtain rfl : j = L.length := by omega
      have hfin := HR.out.below
      have d1 : decide ((L.length : Int) < (L.length : Int)) = false := decide_eq_false (by omega)
      go_wp2_with fail
      go_ret
      exact ⟨rfl, hfin⟩

end Go.Proofs.Ythmamlghmagmkaa.caches
