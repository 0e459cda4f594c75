/- CacheWiped. -/
import Derived.Test.YthmamlghmagmkaaCcR
import Derived.Test.YthmamlghmagmkaaMixG
import Derived.Deep.CutBlock
import Derived.Deep.DeepCutAuto


namespace Go.Proofs.Ythmamlghmagmkaa.caches
set_option linter.unusedVariables false
set_option linter.unusedSimpArgs false
open Go.RowKit Go.Proofs.Ythmamlghmagmkaa.base Go.Proofs.Ythmamlghmagmkaa.vers Go.Proofs.Ythmamlghmagmkaa.nodes Go.Proofs.Ythmamlghmagmkaa.trees

theorem put_one (room : Nat) (r : R) (n : P3) (h : 0 < room) : putP room [] r n = (0, [(r, n, 0)]) := by
  unfold putP makeP atR outL
  simp [h]

set_option maxRecDepth 100000 in
set_option maxHeartbeats 16000000 in
theorem law_wiped (a : Int) (l : List CO) (A : Option Addr) (c : Nat) (gl : List Int) (gA : Option Addr) (gc : Nat) (w : World) (hX : Cs w w.heap.size l A c) (hI : Is w w.heap.size gl gA gc) :
    Calls Try.prog 10 #[.int .i64 a, .slice A l.length c, .slice gA gl.length gc] w fun e w' => e = .returned (.bool true) ∧ Below w.heap.size w w' := by
  have hlen : l.length ≤ 140737488355328 := by have := hX.2.1; omega
  have hX1 := hX.take 40
  have hl60 : (l.take 40).length ≤ 40 := by rw [List.length_take]; omega
  have hsh := fun w' (hb : Below w.heap.size w w') => shortC_any l A c 40 (by omega) w' (hX.at_world hb)
  rw [show ((40 : Nat) : Int) = 40 from rfl] at hsh
  generalize l.take 40 = L at *
  have HX := vers.lay hX1
  have HIG := vers.lay hI
  clear hX hX1 hI
  go_enter Try.func10, Try.ntmps10
  go_upto_region 1 with (fail)
  go_cut [23] from 18 to 22 (fun x wx => ∃ bb : Bool, x = .bool bb ∧ Hid (bb = false → 1 ≤ a ∧ a ≤ 32) ∧ w = wx)
  case first =>
    by_cases h1 : a < 1
    · have d1 : decide (a < 1) = true := decide_eq_true h1
      clear h1
      go_wp2_with fail
      go_meet
      exact ⟨true, rfl, vers.lay (fun h => by cases h), rfl⟩
    · have d1 : decide (a < 1) = false := decide_eq_false h1
      by_cases h2 : 32 < a
      · have d2 : decide (32 < a) = true := decide_eq_true h2
        clear h1 h2
        go_wp2_with fail
        go_meet
        exact ⟨true, rfl, vers.lay (fun h => by cases h), rfl⟩
      · have d2 : decide (32 < a) = false := decide_eq_false h2
        have HB := vers.lay (And.intro h1 h2)
        clear h1 h2
        go_wp2_with fail
        go_meet
        exact ⟨false, rfl, vers.lay (fun _ => by have := HB.out; omega), rfl⟩
  case rest =>
  obtain ⟨bb, rfl, HB, rfl⟩ := hcut
  go_upto_if 23 with (fail)
  go_cut [0] from 18 to 23 (fun x wx => ∃ n : Nat, (1 ≤ n ∧ n ≤ 32) ∧ x = .int .i64 (n : Int) ∧ w = wx)
  case first =>
    cases bb with
    | true =>
      go_wp2_with fail
      go_meet
      exact ⟨4, by omega, rfl, rfl⟩
    | false =>
      obtain ⟨n, rfl⟩ := Int.eq_ofNat_of_zero_le (show 0 ≤ a by have := HB.out rfl; omega)
      go_wp2_with fail
      go_meet
      exact ⟨n, by have := HB.out (by trivial); omega, rfl, rfl⟩
  case rest =>
  clear HB
  obtain ⟨n, hn, rfl, rfl⟩ := hcut
  have hnew := new_ok n w (by omega)
  go_upto_region 6 with (go_at_call 46; refine hnew.mono ?_; rintro e w1 ⟨p, g, rfl, hc1, hb1⟩)
  have H1 := vers.lay (show RI w 0 w1 p g (fun b => w.heap.size ≤ b ∧ b < w1.heap.size) n 0 0 [] ∧ ND ([] : List PH) from ⟨⟨hb1, hc1, fun b hb => hb.1, Nat.le_refl _, Nat.le_refl _, fun x hx => by cases hx⟩, List.Pairwise.nil⟩)
  have hs1 := hsh w1 hb1
  clear hnew hc1 hb1 hsh
  go_wp2_with (go_at_call 48; refine hs1.mono ?_; rintro e w2 ⟨rfl, rfl⟩)
  go_loopw [38] (fun i wx => ∃ j : Nat, i = .int .i64 (j : Int) ∧ j ≤ L.length ∧ ∃ (l1 : List H) (Z : Nat → Prop), Hid (RI w j wx p g Z n 0 0 l1 ∧ ND (l1.map H.ph))) (fun i _ => L.length - (RowKit.intOf i).toNat)
  case atStart => exact ⟨0, rfl, Nat.zero_le _, [], _, H1⟩
  case round =>
    as_aux_lemma =>
    clear H1
    obtain ⟨j, rfl, hj, l1, Z, HR⟩ := hrel
    by_cases hlt : j < L.length
    · obtain ⟨b, off, rfl, hb, x0, x1, x2, x3, x4, x5⟩ := (HX.out.below HR.out.1.below).at_ hlt
      have hbl : b < wr.heap.size := Nat.lt_of_lt_of_le hb HR.out.1.below.size
      have hok := HX.out.2.2.2.2 _ (List.getElem_mem hlt)
      generalize L[j] = oo at *
      obtain ⟨k, s, ⟨lf, es, ks, nA, nc, nQ, nq⟩, rl, rA, rc⟩ := oo
      simp only at x0 x1 x2 x3 x4 x5
      obtain ⟨hk0, hs0, hnd0, hrl0⟩ := hok
      simp only at hk0 hs0 hnd0 hrl0
      obtain ⟨r1, hr1⟩ : ∃ r1, ofP s = r1 := ⟨_, rfl⟩
      have hft := ofP_fits s
      rw [hr1] at hft
      have hof0 := fun wx => of_any s wx hs0
      rw [hr1] at hof0
      obtain ⟨rk, rg, ro, rn⟩ := r1
      have HFT := vers.lay hft
      have HND := vers.lay hnd0
      have n1 : j + 1 ≤ L.length := hlt
      have d1 : decide ((j : Int) < (L.length : Int)) = true := decide_eq_true (by omega)
      have d2 : decide (j < L.length) = true := decide_eq_true hlt
      have ej : IntKind.i64.wrap ((j : Int) + 1) = (j : Int) + 1 := IntWalk.i64_in _ (by omega)
      have hj60 : j < 40 := by omega
      clear hr1 hft hnd0 hrl0 hk0 hs0 hlt hb
      have b3 : Below wr.heap.size wr (wr.alloc (.cells #[.int .i64 k, .int .i64 s, .bool lf, .slice nA es.length nc, .slice nQ ks.length nq, .slice rA rl.length rc] 116)) := (Below.refl _ _).alloc (Nat.le_refl _) _
      have k3 := Blk.new wr 116 #[.int .i64 k, .int .i64 s, .bool lf, .slice nA es.length nc, .slice nQ ks.length nq, .slice rA rl.length rc]
      go_upto_region 9 with (fail)
      generalize hW3 : wr.alloc (.cells #[.int .i64 k, .int .i64 s, .bool lf, .slice nA es.length nc, .slice nQ ks.length nq, .slice rA rl.length rc] 116) = W3 at b3 k3 ⊢
      obtain ⟨q, hq⟩ : ∃ q, wr.heap.size = q := ⟨_, rfl⟩
      rw [hq] at k3 ⊢
      have HQ := vers.lay hq
      clear hW3 hq
      obtain ⟨g0, g1, g2, g3, g4, g5⟩ : W3.cell? ⟨q, 0, none⟩ = _ ∧ W3.cell? ⟨q, 1, none⟩ = _ ∧ W3.cell? ⟨q, 2, none⟩ = _ ∧ W3.cell? ⟨q, 3, none⟩ = _ ∧ W3.cell? ⟨q, 4, none⟩ = _ ∧ W3.cell? ⟨q, 5, none⟩ = _ := ⟨k3.cell 0, k3.cell 1, k3.cell 2, k3.cell 3, k3.cell 4, k3.cell 5⟩
      simp only [List.getElem?_toArray, List.getElem?_cons_zero, List.getElem?_cons_succ] at g0 g1 g2 g3 g4 g5
      have hql := k3.lt
      have H3 := vers.lay (HR.out.1.next b3)
      have HN3 := vers.lay HR.out.2
      have HQZ := vers.lay (fun b (hb : Z b) => (show b < q from by rw [← HQ.out]; exact HR.out.1.ca.zlt b hb))
      have K3 := vers.lay k3
      clear x0 x1 x2 x3 x4 x5 b3 HR k3
      have hS0 : Below W3.heap.size W3 W3.drew := (Below.refl _ _).drew
      refine mix.region_D (fun w' => Below W3.heap.size W3 w') (fun j => j == 6) (by kernel_rfl) ?_
      generalize W3.drew = Wd at *
      refine mix.D_takeT (i := 0) (v := ?_) rfl (by kernel_rfl) (by kernel_rfl) (fun _ _ _ h => h) (Or.inl ⟨by first | rfl | simp [Region.wanted, yielded], ?_⟩) hS0 ?_
      rotate_left
      · intro w' hSw
        have z1 := (hSw.cell (p := ⟨q, 1, none⟩) hql).trans g1
        have z2 := (hSw.cell (p := ⟨q, 2, none⟩) hql).trans g2
        have z3 := (hSw.cell (p := ⟨q, 3, none⟩) hql).trans g3
        have z4 := (hSw.cell (p := ⟨q, 4, none⟩) hql).trans g4
        try simp only [List.getElem_toArray, List.getElem_cons_zero, List.getElem_cons_succ]
        go_simp
        exact rfl
      try simp only [Act.put, List.setIfInBounds_toArray, List.set_cons_zero, List.set_cons_succ, List.getElem_toArray, List.getElem_cons_zero, List.getElem_cons_succ]
      refine mix.D_takeT (i := 1) (v := ?_) rfl (by kernel_rfl) (by kernel_rfl) (fun _ _ _ h => h) (Or.inl ⟨by first | rfl | simp [Region.wanted, yielded], ?_⟩) hS0 ?_
      rotate_left
      · intro w' hSw
        have z1 := (hSw.cell (p := ⟨q, 1, none⟩) hql).trans g1
        have z2 := (hSw.cell (p := ⟨q, 2, none⟩) hql).trans g2
        have z3 := (hSw.cell (p := ⟨q, 3, none⟩) hql).trans g3
        have z4 := (hSw.cell (p := ⟨q, 4, none⟩) hql).trans g4
        try simp only [List.getElem_toArray, List.getElem_cons_zero, List.getElem_cons_succ]
        go_simp
        exact rfl
      try simp only [Act.put, List.setIfInBounds_toArray, List.set_cons_zero, List.set_cons_succ, List.getElem_toArray, List.getElem_cons_zero, List.getElem_cons_succ]
      refine mix.D_takeT (i := 2) (v := ?_) rfl (by kernel_rfl) (by kernel_rfl) (fun _ _ _ h => h) (Or.inl ⟨by first | rfl | simp [Region.wanted, yielded], ?_⟩) hS0 ?_
      rotate_left
      · intro w' hSw
        have z1 := (hSw.cell (p := ⟨q, 1, none⟩) hql).trans g1
        have z2 := (hSw.cell (p := ⟨q, 2, none⟩) hql).trans g2
        have z3 := (hSw.cell (p := ⟨q, 3, none⟩) hql).trans g3
        have z4 := (hSw.cell (p := ⟨q, 4, none⟩) hql).trans g4
        try simp only [List.getElem_toArray, List.getElem_cons_zero, List.getElem_cons_succ]
        go_simp
        exact rfl
      try simp only [Act.put, List.setIfInBounds_toArray, List.set_cons_zero, List.set_cons_succ, List.getElem_toArray, List.getElem_cons_zero, List.getElem_cons_succ]
      refine mix.D_takeT (i := 4) (v := ?_) rfl (by kernel_rfl) (by kernel_rfl) (fun _ _ _ h => h) (Or.inl ⟨by first | rfl | simp [Region.wanted, yielded], ?_⟩) hS0 ?_
      rotate_left
      · intro w' hSw
        have z1 := (hSw.cell (p := ⟨q, 1, none⟩) hql).trans g1
        have z2 := (hSw.cell (p := ⟨q, 2, none⟩) hql).trans g2
        have z3 := (hSw.cell (p := ⟨q, 3, none⟩) hql).trans g3
        have z4 := (hSw.cell (p := ⟨q, 4, none⟩) hql).trans g4
        try simp only [List.getElem_toArray, List.getElem_cons_zero, List.getElem_cons_succ]
        go_simp
        exact rfl
      try simp only [Act.put, List.setIfInBounds_toArray, List.set_cons_zero, List.set_cons_succ, List.getElem_toArray, List.getElem_cons_zero, List.getElem_cons_succ]
      refine mix.D_takeT (i := 5) (v := ?_) rfl (by kernel_rfl) (by kernel_rfl) (fun _ _ _ h => h) (Or.inl ⟨by first | rfl | simp [Region.wanted, yielded], ?_⟩) hS0 ?_
      rotate_left
      · intro w' hSw
        have z1 := (hSw.cell (p := ⟨q, 1, none⟩) hql).trans g1
        have z2 := (hSw.cell (p := ⟨q, 2, none⟩) hql).trans g2
        have z3 := (hSw.cell (p := ⟨q, 3, none⟩) hql).trans g3
        have z4 := (hSw.cell (p := ⟨q, 4, none⟩) hql).trans g4
        try simp only [List.getElem_toArray, List.getElem_cons_zero, List.getElem_cons_succ]
        go_simp
        exact rfl
      try simp only [Act.put, List.setIfInBounds_toArray, List.set_cons_zero, List.set_cons_succ, List.getElem_toArray, List.getElem_cons_zero, List.getElem_cons_succ]
      refine mix.D_op (k := 3) rfl rfl (by kernel_rfl) (fun K' hK => ?_)
      simp only [List.getElem_toArray, List.getElem_cons_zero, List.getElem_cons_succ]
      go_wp2_with fail
      refine (hof0 Wd).mono ?_
      rintro e w4 ⟨rfl, hb4⟩
      have hs4 : Below W3.heap.size W3 w4 := hS0.trans (hb4.mono hS0.size)
      refine hK.out _ _ (fun _ => hs4) ?_
      clear hK K'
      try simp only [Act.put, List.setIfInBounds_toArray, List.set_cons_zero, List.set_cons_succ]
      refine mix.D_op (k := 6) rfl rfl (by kernel_rfl) (fun K' hK => ?_)
      simp only [List.getElem_toArray, List.getElem_cons_zero, List.getElem_cons_succ]
      have H4 := vers.lay (H3.out.next hs4)
      have hop := put_ok H4.out.ca rk rg ro rn HFT.out lf es ks nA nc nQ nq _ (H4.out.arg HND.out).1 (H4.out.arg HND.out).2
      go_wp2_with fail
      refine hop.mono ?_
      rintro e w5 ⟨E5, l5, Z5, rfl, hE5, hc5, hk5, hz5⟩
      refine hK.out _ _ (fun h => by simp at h) ?_
      clear hK K'
      try simp only [Act.put, List.setIfInBounds_toArray, List.set_cons_zero, List.set_cons_succ]
      refine mix.D_done (by kernel_rfl) ?_ _
      try simp only [Act.put, List.setIfInBounds_toArray, List.set_cons_zero, List.set_cons_succ, List.getElem_toArray, List.getElem_cons_zero, List.getElem_cons_succ]
      have k5 := hk5.blk (K3.out.below hs4 K3.out.lt) (fun hz => Nat.lt_irrefl _ (HQZ.out q hz))
      have HP5 := vers.lay (show l5.map H.ph = (putP n (l1.map H.ph) ⟨rk, rg, ro, rn⟩ (lf, es.map pe, ks)).2 by rw [← hE5])
      have H5 := vers.lay (H4.out.step hc5 hk5 hz5 (k := j) (by have := H4.out.bf; omega) (by have := H4.out.bm; omega) (by rw [HP5.out]; exact H4.out.bp.put _ _))
      have HN5 := vers.lay (show ND (l5.map H.ph) by rw [HP5.out]; exact HN3.out.put _ _ _)
      obtain ⟨a0, a1, a2, a3, a4, a5⟩ : w5.cell? ⟨q, 0, none⟩ = _ ∧ w5.cell? ⟨q, 1, none⟩ = _ ∧ w5.cell? ⟨q, 2, none⟩ = _ ∧ w5.cell? ⟨q, 3, none⟩ = _ ∧ w5.cell? ⟨q, 4, none⟩ = _ ∧ w5.cell? ⟨q, 5, none⟩ = _ := ⟨k5.cell 0, k5.cell 1, k5.cell 2, k5.cell 3, k5.cell 4, k5.cell 5⟩
      simp only [List.getElem?_toArray, List.getElem?_cons_zero, List.getElem?_cons_succ] at a0 a1 a2 a3 a4 a5
      have hql5 := k5.lt
      clear hc5 hk5 hz5 hE5 k5 g0 g1 g2 g3 g4 g5 hql hs4 hb4 hS0 hop
      by_cases hk2 : k = 2
      · subst hk2
        have hof5 := hof0 w5
        clear a2 a3 a4 a5
        go_wp2_with (first | (go_at_call 49; refine hof5.mono ?_; rintro e w6 ⟨rfl, hb6⟩; have H6 := vers.lay (H5.out.next hb6); have hop := pin_ok H6.out.ca rk rg ro rn (H6.out.pins (by omega))) | (go_at_call 53; refine hop.mono ?_; rintro e w7 ⟨E7, l7, rfl, hE7, hc7, hk7⟩))
        have HP7 := vers.lay (show l7.map H.ph = (pinP (l5.map H.ph) ⟨rk, rg, ro, rn⟩).2 by rw [← hE7])
        have H7 := vers.lay (show RI w (j + 1) w7 p g Z5 n 0 0 l7 ∧ ND (l7.map H.ph) from ⟨H6.out.same hc7 hk7 (by omega) (by omega) (by rw [HP7.out]; exact H6.out.bp.pin _), by rw [HP7.out]; exact HN5.out.pin _⟩)
        clear hc7 hk7 hE7
        go_roundw
        case rel => exact ⟨j + 1, by go_num, n1, l7, Z5, H7⟩
        case measure => first | (simp [RowKit.intOf]; done) | (simp [RowKit.intOf]; omega) | omega
      · have q2 : decide (k = 2) = false := decide_eq_false hk2
        have q2' : (k == 2) = false := by simp [hk2]
        have H7 := vers.lay (show RI w (j + 1) w5 p g Z5 n 0 0 l5 ∧ ND (l5.map H.ph) from ⟨H5.out.more (by omega), HN5.out⟩)
        clear hk2 a1 a2 a3 a4 a5
        go_wp2_with fail
        go_roundw
        case rel => exact ⟨j + 1, by go_num, n1, l5, Z5, H7⟩
        case measure => first | (simp [RowKit.intOf]; done) | (simp [RowKit.intOf]; omega) | omega
    · obtain rfl : j = L.length := by omega
      generalize wr = w2 at *
      clear wr
      have H2 := vers.lay HR.out.1
      have HN2 := vers.lay HR.out.2
      have hke := kept_ok H2.out.ca
      have d1 : decide ((L.length : Int) < (L.length : Int)) = false := decide_eq_false (by omega)
      have hcl := H2.out.ca.len
      have hrc := H2.out.ca.cap
      clear HR hlt
      go_upto_region 14 with (go_at_call 66; refine hke.mono ?_; rintro e w3 ⟨rfl, hb3⟩)
      have H3 := vers.lay (H2.out.next hb3)
      have hrf := refs_any gl gA gc w3 (HIG.out.at_world H3.out.below)
      clear hke hb3
      go_upto_region 15 with (first | (go_at_call 58; refine hrf.mono ?_; rintro e w4 ⟨A4, c4, rfl, hq4, hb4⟩; have H4 := vers.lay (H3.out.next hb4); have hop := drop_ok H4.out.ca (refsP gl) A4 c4 _ hq4 (fun b hb => ⟨hb.2, fun hz => by have := H3.out.ca.zlt b hz; omega⟩)) | (go_at_call 57; refine hop.mono ?_; rintro e w5 ⟨l3, rfl, hE5, hc5, hk5⟩))
      have hl3 : l3.length ≤ l1.length := by have := dropP_len (l1.map H.ph) (refsP gl); rw [← hE5] at this; simpa using this
      have H5 := vers.lay (H4.out.same hc5 hk5 (k := 100) (by have := H4.out.bf; omega) (by have := H4.out.bm; omega) (by rw [hE5]; exact (H4.out.bp.mono (by omega)).drop _))
      have HG := vers.lay (show ∀ r ∈ refsP gl, atR (l3.map H.ph) r = none from fun r hr => by rw [hE5]; exact atR_none.2 (HN2.out.drop_gone _ r hr))
      have hrf := refs_any gl gA gc w5 (HIG.out.at_world H5.out.below)
      clear hc5 hk5 hE5 hop hq4 hb4 HN2
      go_upto_region 16 with (go_at_call 58; refine hrf.mono ?_; rintro e w6 ⟨A6, c6, rfl, hq6, hb6⟩)
      have hl40 := refsP_len gl
      generalize refsP gl = rs at *
      have H6 := vers.lay (show RI w 100 w6 p g Z n 0 0 l3 ∧ l3.map H.ph = l3.map H.ph ∧ Keep Z w6 w6 from ⟨H5.out.next hb6, rfl, Keep.refl _ _⟩)
      have HQR := vers.lay (fun wr (hk : Keep Z w6 wr) => hq6.agree (hk.agree fun b hb => ⟨hb.2, fun hz => by have := H5.out.ca.zlt b hz; omega⟩))
      have HL3 := vers.lay hl3
      have h66 := vers.lay (fun b (hb : w5.heap.size ≤ b ∧ b < w6.heap.size) => hb.2)
      clear hrf hq6 hb6 hl3
      go_wp2_with fail
      go_loopw [67] (fun i wx => ∃ t : Nat, i = .int .i64 (t : Int) ∧ t ≤ rs.length ∧ ∃ (m : Nat) (l4 : List H), Hid (RI w (100 + t) wx p g Z n 0 m l4 ∧ l4.map H.ph = l3.map H.ph ∧ Keep Z w6 wx)) (fun i _ => rs.length - (RowKit.intOf i).toNat)
      case atStart => exact ⟨0, rfl, Nat.zero_le _, 0, l3, vers.lay ⟨H6.out.1, rfl, H6.out.2.2⟩⟩
      case round =>
        as_aux_lemma =>
        clear H6
        obtain ⟨t, rfl, ht, m, l4, HR⟩ := hrel
        by_cases hlt : t < rs.length
        · obtain ⟨b, off, rfl, hb, y0, y1, y2, y3⟩ := (HQR.out wr HR.out.2.2).at_ hlt
          have hbl : b < wr.heap.size := Nat.lt_of_lt_of_le (h66.out b hb) HR.out.2.2.size
          have hat0 := HG.out rs[t] (List.getElem_mem hlt)
          have hlt9 := hlt
          obtain ⟨r1, hr1⟩ : ∃ r1, rs[t]'hlt9 = r1 := ⟨_, rfl⟩
          rw [hr1] at y0 y1 y2 y3 hat0
          obtain ⟨rk, rg, ro, rn⟩ := r1
          simp only at y0 y1 y2 y3
          have HAT := vers.lay (show atR (l4.map H.ph) ⟨rk, rg, ro, rn⟩ = none by rw [HR.out.2.1]; exact hat0)
          have HL4 := vers.lay HR.out.2.1
          have d1 : decide ((t : Int) < (rs.length : Int)) = true := decide_eq_true (by omega)
          have d2 : decide (t < rs.length) = true := decide_eq_true hlt
          have et : IntKind.i64.wrap ((t : Int) + 1) = (t : Int) + 1 := IntWalk.i64_in _ (by omega)
          have n1 : t + 1 ≤ rs.length := hlt
          clear hr1 hat0 hb hlt hlt9
          have b3 : Below wr.heap.size wr (wr.alloc (.cells #[.int .u64 (rk : Int), .int .i64 rg, .int .i64 ro, .int .i64 rn] 27)) := (Below.refl _ _).alloc (Nat.le_refl _) _
          have k3 := Blk.new wr 27 #[.int .u64 (rk : Int), .int .i64 rg, .int .i64 ro, .int .i64 rn]
          go_upto_region 18 with (fail)
          generalize hW4 : wr.alloc (.cells #[.int .u64 (rk : Int), .int .i64 rg, .int .i64 ro, .int .i64 rn] 27) = W4 at b3 k3 ⊢
          obtain ⟨q7, hq7e⟩ : ∃ q7, wr.heap.size = q7 := ⟨_, rfl⟩
          rw [hq7e] at k3 ⊢
          have HQ7 := vers.lay (show ∀ b, Z b → b < q7 from fun b hb => by rw [← hq7e]; exact HR.out.1.ca.zlt b hb)
          have H4 := vers.lay (HR.out.1.next b3)
          have HK4 := vers.lay (HR.out.2.2.seq b3)
          clear hW4 hq7e y0 y1 y2 y3 HR
          obtain ⟨b0, b1, b2, b3'⟩ : W4.cell? ⟨q7, 0, none⟩ = _ ∧ W4.cell? ⟨q7, 1, none⟩ = _ ∧ W4.cell? ⟨q7, 2, none⟩ = _ ∧ W4.cell? ⟨q7, 3, none⟩ = _ := ⟨k3.cell 0, k3.cell 1, k3.cell 2, k3.cell 3⟩
          simp only [List.getElem?_toArray, List.getElem?_cons_zero, List.getElem?_cons_succ] at b0 b1 b2 b3'
          have hq7 := k3.lt
          have K7 := vers.lay k3
          have hget := get_no H4.out.ca rk rg ro rn HAT.out (by have := H4.out.bm; omega)
          clear b3 k3
          go_upto_region 19 with (go_at_call 50; refine hget.mono ?_; rintro e w5' ⟨rfl, hc5, hk5⟩)
          have hkz := hk5.mono (G := Z) fun b e _ => e ▸ H4.out.ca.zp
          have b6 : Below w5'.heap.size w5' (w5'.alloc (.cells #[.bool false, .slice none 0 0, .slice none 0 0] 60)) := (Below.refl _ _).alloc (Nat.le_refl _) _
          have HRG := vers.lay ((H4.out.same hc5 hkz (k := 100 + (t + 1)) (by omega) (by have := H4.out.bm; omega) (H4.out.bp.mono (by omega))).next b6)
          have HKR := vers.lay ((HK4.out.trans hkz fun _ h _ => h).seq b6)
          have k5 := (hkz.blk K7.out (fun hz => Nat.lt_irrefl _ (HQ7.out q7 hz))).below b6 (by have := hkz.size; omega)
          clear hget hc5 hk5 hkz b0 b1 b2 b3' hq7 b6
          generalize w5'.alloc (.cells #[.bool false, .slice none 0 0, .slice none 0 0] 60) = W5 at *
          obtain ⟨b0, b1, b2, b3⟩ : W5.cell? ⟨q7, 0, none⟩ = _ ∧ W5.cell? ⟨q7, 1, none⟩ = _ ∧ W5.cell? ⟨q7, 2, none⟩ = _ ∧ W5.cell? ⟨q7, 3, none⟩ = _ := ⟨k5.cell 0, k5.cell 1, k5.cell 2, k5.cell 3⟩
          simp only [List.getElem?_toArray, List.getElem?_cons_zero, List.getElem?_cons_succ] at b0 b1 b2 b3
          have hq7 := k5.lt
          have hz7 : ¬ Z q7 := fun hz => Nat.lt_irrefl _ (HQ7.out q7 hz)
          have hS0 : Below W5.heap.size W5 W5.drew := (Below.refl _ _).drew
          have hS5 : Keep Z W5 W5.drew := Keep.of_below hS0
          have ht40 : t < 40 := by omega
          clear k5
          refine mix.region_D (fun w' => Keep Z W5 w') (fun _ => false) (by kernel_rfl) ?_
          generalize W5.drew = Wd at *
          refine mix.D_takeT (i := 0) (v := ?_) rfl (by kernel_rfl) (by kernel_rfl) (fun _ _ _ h => h) (Or.inl ⟨by first | rfl | simp [Region.wanted, yielded], ?_⟩) hS5 ?_
          rotate_left
          · intro w' hSw
            have z0 := (hSw.cell (p := ⟨q7, 0, none⟩) hq7 hz7).trans b0
            have z1 := (hSw.cell (p := ⟨q7, 1, none⟩) hq7 hz7).trans b1
            have z2 := (hSw.cell (p := ⟨q7, 2, none⟩) hq7 hz7).trans b2
            have z3 := (hSw.cell (p := ⟨q7, 3, none⟩) hq7 hz7).trans b3
            try simp only [List.getElem_toArray, List.getElem_cons_zero, List.getElem_cons_succ]
            go_simp
            exact rfl
          try simp only [Act.put, List.setIfInBounds_toArray, List.set_cons_zero, List.set_cons_succ, List.getElem_toArray, List.getElem_cons_zero, List.getElem_cons_succ]
          refine mix.D_takeT (i := 1) (v := ?_) rfl (by kernel_rfl) (by kernel_rfl) (fun _ _ _ h => h) (Or.inl ⟨by first | rfl | simp [Region.wanted, yielded], ?_⟩) hS5 ?_
          rotate_left
          · intro w' hSw
            have z0 := (hSw.cell (p := ⟨q7, 0, none⟩) hq7 hz7).trans b0
            have z1 := (hSw.cell (p := ⟨q7, 1, none⟩) hq7 hz7).trans b1
            have z2 := (hSw.cell (p := ⟨q7, 2, none⟩) hq7 hz7).trans b2
            have z3 := (hSw.cell (p := ⟨q7, 3, none⟩) hq7 hz7).trans b3
            try simp only [List.getElem_toArray, List.getElem_cons_zero, List.getElem_cons_succ]
            go_simp
            exact rfl
          try simp only [Act.put, List.setIfInBounds_toArray, List.set_cons_zero, List.set_cons_succ, List.getElem_toArray, List.getElem_cons_zero, List.getElem_cons_succ]
          refine mix.D_takeT (i := 2) (v := ?_) rfl (by kernel_rfl) (by kernel_rfl) (fun _ _ _ h => h) (Or.inl ⟨by first | rfl | simp [Region.wanted, yielded], ?_⟩) hS5 ?_
          rotate_left
          · intro w' hSw
            have z0 := (hSw.cell (p := ⟨q7, 0, none⟩) hq7 hz7).trans b0
            have z1 := (hSw.cell (p := ⟨q7, 1, none⟩) hq7 hz7).trans b1
            have z2 := (hSw.cell (p := ⟨q7, 2, none⟩) hq7 hz7).trans b2
            have z3 := (hSw.cell (p := ⟨q7, 3, none⟩) hq7 hz7).trans b3
            try simp only [List.getElem_toArray, List.getElem_cons_zero, List.getElem_cons_succ]
            go_simp
            exact rfl
          try simp only [Act.put, List.setIfInBounds_toArray, List.set_cons_zero, List.set_cons_succ, List.getElem_toArray, List.getElem_cons_zero, List.getElem_cons_succ]
          refine mix.D_takeT (i := 4) (v := ?_) rfl (by kernel_rfl) (by kernel_rfl) (fun _ _ _ h => h) (Or.inl ⟨by first | rfl | simp [Region.wanted, yielded], ?_⟩) hS5 ?_
          rotate_left
          · intro w' hSw
            have z0 := (hSw.cell (p := ⟨q7, 0, none⟩) hq7 hz7).trans b0
            have z1 := (hSw.cell (p := ⟨q7, 1, none⟩) hq7 hz7).trans b1
            have z2 := (hSw.cell (p := ⟨q7, 2, none⟩) hq7 hz7).trans b2
            have z3 := (hSw.cell (p := ⟨q7, 3, none⟩) hq7 hz7).trans b3
            try simp only [List.getElem_toArray, List.getElem_cons_zero, List.getElem_cons_succ]
            go_simp
            exact rfl
          try simp only [Act.put, List.setIfInBounds_toArray, List.set_cons_zero, List.set_cons_succ, List.getElem_toArray, List.getElem_cons_zero, List.getElem_cons_succ]
          refine mix.D_opW (k := 3) rfl (by kernel_rfl) (by first | rfl | simp [Region.wanted, yielded]) (fun K' hK => ?_)
          simp only [List.getElem_toArray, List.getElem_cons_zero, List.getElem_cons_succ]
          go_wp2_with fail
          refine (holds_ok (HRG.out.ca.below hS0)).mono ?_
          rintro e w6 ⟨v6, l6, rfl, hl6, hh6, hb6⟩
          obtain ⟨A6, c6, rfl, hc6, hn6, hr6⟩ := row_rdF hh6.1
          have hs6 : Keep Z W5 w6 := hS5.seq hb6
          have HB6 := vers.lay hb6
          refine hK.out _ _ (fun _ => hs6) ?_
          clear hK K'
          try simp only [Act.put, List.setIfInBounds_toArray, List.set_cons_zero, List.set_cons_succ]
          refine mix.D_opW (k := 5) rfl (by kernel_rfl) (by first | rfl | simp [Region.wanted, yielded]) (fun K' hK => ?_)
          simp only [List.getElem_toArray, List.getElem_cons_zero, List.getElem_cons_succ]
          have hhas := has_ok l6 A6 c6 _ rk rg ro rn w6 hr6 (fun b hb => (hh6.1.lt b hb).2) (by have := congrArg List.length hl6; simp at this; have h1 := HRG.out.ca.len; have h2 := HRG.out.ca.cap; omega)
          rw [hl6, HAT.out] at hhas
          go_wp2_with fail
          refine hhas.mono ?_
          rintro e w7 ⟨rfl, hb7⟩
          have hs7 : Keep Z W5 w7 := hs6.seq hb7
          clear hhas
          refine hK.out _ _ (fun _ => hs7) ?_
          clear hK K'
          try simp only [Act.put, List.setIfInBounds_toArray, List.set_cons_zero, List.set_cons_succ]
          refine mix.D_takeT (i := 6) (v := ?_) rfl (by kernel_rfl) (by kernel_rfl) (fun _ _ _ h => h) (Or.inl ⟨by first | rfl | simp [Region.wanted, yielded], ?_⟩) hs7 ?_
          rotate_left
          · intro w' hSw
            have z0 := (hSw.cell (p := ⟨q7, 0, none⟩) hq7 hz7).trans b0
            have z1 := (hSw.cell (p := ⟨q7, 1, none⟩) hq7 hz7).trans b1
            have z2 := (hSw.cell (p := ⟨q7, 2, none⟩) hq7 hz7).trans b2
            have z3 := (hSw.cell (p := ⟨q7, 3, none⟩) hq7 hz7).trans b3
            try simp only [List.getElem_toArray, List.getElem_cons_zero, List.getElem_cons_succ]
            go_simp
            exact rfl
          try simp only [Act.put, List.setIfInBounds_toArray, List.set_cons_zero, List.set_cons_succ, List.getElem_toArray, List.getElem_cons_zero, List.getElem_cons_succ]
          refine mix.D_takeT (i := 7) (v := ?_) rfl (by kernel_rfl) (by kernel_rfl) (fun _ _ _ h => h) (Or.inl ⟨by first | rfl | simp [Region.wanted, yielded], ?_⟩) hs7 ?_
          rotate_left
          · intro w' hSw
            have z0 := (hSw.cell (p := ⟨q7, 0, none⟩) hq7 hz7).trans b0
            have z1 := (hSw.cell (p := ⟨q7, 1, none⟩) hq7 hz7).trans b1
            have z2 := (hSw.cell (p := ⟨q7, 2, none⟩) hq7 hz7).trans b2
            have z3 := (hSw.cell (p := ⟨q7, 3, none⟩) hq7 hz7).trans b3
            try simp only [List.getElem_toArray, List.getElem_cons_zero, List.getElem_cons_succ]
            go_simp
            exact rfl
          try simp only [Act.put, List.setIfInBounds_toArray, List.set_cons_zero, List.set_cons_succ, List.getElem_toArray, List.getElem_cons_zero, List.getElem_cons_succ]
          refine mix.D_takeT (i := 8) (v := ?_) rfl (by kernel_rfl) (by kernel_rfl) (fun _ _ _ h => h) (Or.inl ⟨by first | rfl | simp [Region.wanted, yielded], ?_⟩) hs7 ?_
          rotate_left
          · intro w' hSw
            have z0 := (hSw.cell (p := ⟨q7, 0, none⟩) hq7 hz7).trans b0
            have z1 := (hSw.cell (p := ⟨q7, 1, none⟩) hq7 hz7).trans b1
            have z2 := (hSw.cell (p := ⟨q7, 2, none⟩) hq7 hz7).trans b2
            have z3 := (hSw.cell (p := ⟨q7, 3, none⟩) hq7 hz7).trans b3
            try simp only [List.getElem_toArray, List.getElem_cons_zero, List.getElem_cons_succ]
            go_simp
            exact rfl
          try simp only [Act.put, List.setIfInBounds_toArray, List.set_cons_zero, List.set_cons_succ, List.getElem_toArray, List.getElem_cons_zero, List.getElem_cons_succ]
          refine mix.D_takeT (i := 9) (v := ?_) rfl (by kernel_rfl) (by kernel_rfl) (fun _ _ _ h => h) (Or.inl ⟨by first | rfl | simp [Region.wanted, yielded], ?_⟩) hs7 ?_
          rotate_left
          · intro w' hSw
            have z0 := (hSw.cell (p := ⟨q7, 0, none⟩) hq7 hz7).trans b0
            have z1 := (hSw.cell (p := ⟨q7, 1, none⟩) hq7 hz7).trans b1
            have z2 := (hSw.cell (p := ⟨q7, 2, none⟩) hq7 hz7).trans b2
            have z3 := (hSw.cell (p := ⟨q7, 3, none⟩) hq7 hz7).trans b3
            try simp only [List.getElem_toArray, List.getElem_cons_zero, List.getElem_cons_succ]
            go_simp
            exact rfl
          try simp only [Act.put, List.setIfInBounds_toArray, List.set_cons_zero, List.set_cons_succ, List.getElem_toArray, List.getElem_cons_zero, List.getElem_cons_succ]
          refine mix.D_opW (k := 10) rfl (by kernel_rfl) (by first | rfl | simp [Region.wanted, yielded]) (fun K' hK => ?_)
          simp only [List.getElem_toArray, List.getElem_cons_zero, List.getElem_cons_succ]
          have H7 := vers.lay (((HRG.out.next hS0).next HB6.out).next hb7)
          go_wp2_with fail
          refine (pin_ok H7.out.ca rk rg ro rn (H7.out.pins (by omega))).mono ?_
          rintro e w8 ⟨E8, l8, rfl, hE8, hc8, hk8⟩
          have hpin : pinP (l4.map H.ph) ⟨rk, rg, ro, rn⟩ = (3, l4.map H.ph) := by unfold pinP; rw [HAT.out]
          rw [hpin] at hE8
          obtain ⟨rfl, hl8⟩ : E8 = 3 ∧ l8.map H.ph = l4.map H.ph := by simpa using hE8
          have hs8 : Keep Z W5 w8 := hs7.trans hk8 fun _ h _ => h
          have HR8 := vers.lay (H7.out.same hc8 hk8 (k := 100 + (t + 1)) (by have := H7.out.bf; omega) (by have := H7.out.bm; omega) (by rw [hl8]; exact H7.out.bp.mono (by omega)))
          have HL8 := vers.lay (hl8.trans HL4.out)
          have HK8 := vers.lay (HKR.out.trans hs8 fun _ h _ => h)
          clear hE8 hl8 hc8 hpin
          refine hK.out _ _ (fun _ => hs8) ?_
          clear hK K'
          try simp only [Act.put, List.setIfInBounds_toArray, List.set_cons_zero, List.set_cons_succ]
          refine mix.D_takeT (i := 11) (v := ?_) rfl (by kernel_rfl) (by kernel_rfl) (fun _ _ _ h => h) (Or.inl ⟨by first | rfl | simp [Region.wanted, yielded], ?_⟩) hs8 ?_
          rotate_left
          · intro w' hSw
            have z0 := (hSw.cell (p := ⟨q7, 0, none⟩) hq7 hz7).trans b0
            have z1 := (hSw.cell (p := ⟨q7, 1, none⟩) hq7 hz7).trans b1
            have z2 := (hSw.cell (p := ⟨q7, 2, none⟩) hq7 hz7).trans b2
            have z3 := (hSw.cell (p := ⟨q7, 3, none⟩) hq7 hz7).trans b3
            try simp only [List.getElem_toArray, List.getElem_cons_zero, List.getElem_cons_succ]
            go_simp
            exact rfl
          try simp only [Act.put, List.setIfInBounds_toArray, List.set_cons_zero, List.set_cons_succ, List.getElem_toArray, List.getElem_cons_zero, List.getElem_cons_succ]
          refine mix.D_takeT (i := 12) (v := ?_) rfl (by kernel_rfl) (by kernel_rfl) (fun _ _ _ h => h) (Or.inl ⟨by first | rfl | simp [Region.wanted, yielded], ?_⟩) hs8 ?_
          rotate_left
          · intro w' hSw
            have z0 := (hSw.cell (p := ⟨q7, 0, none⟩) hq7 hz7).trans b0
            have z1 := (hSw.cell (p := ⟨q7, 1, none⟩) hq7 hz7).trans b1
            have z2 := (hSw.cell (p := ⟨q7, 2, none⟩) hq7 hz7).trans b2
            have z3 := (hSw.cell (p := ⟨q7, 3, none⟩) hq7 hz7).trans b3
            try simp only [List.getElem_toArray, List.getElem_cons_zero, List.getElem_cons_succ]
            go_simp
            exact rfl
          try simp only [Act.put, List.setIfInBounds_toArray, List.set_cons_zero, List.set_cons_succ, List.getElem_toArray, List.getElem_cons_zero, List.getElem_cons_succ]
          refine mix.D_done (by kernel_rfl) ?_ _
          try simp only [Act.put, List.setIfInBounds_toArray, List.set_cons_zero, List.set_cons_succ, List.getElem_toArray, List.getElem_cons_zero, List.getElem_cons_succ]
          clear hs8 hk8
          go_wp2_with fail
          go_roundw
          case rel => exact ⟨t + 1, by go_num, n1, m + 1, l8, vers.lay ⟨HR8.out, HL8.out, HK8.out⟩⟩
          case measure => first | (simp [RowKit.intOf]; done) | (simp [RowKit.intOf]; omega) | omega
        · obtain rfl : t = rs.length := by omega
          generalize wr = w7 at *
          clear wr
          have H7 := vers.lay HR.out.1
          have HLE := vers.lay (show l4.length = l3.length by have := congrArg List.length HR.out.2.1; simpa using this)
          have hke := kept_ok H7.out.ca
          rw [HLE.out] at hke
          have hl3 := HL3.out
          have d1 : decide ((rs.length : Int) < (rs.length : Int)) = false := decide_eq_false (by omega)
          have d3 : decide ((l1.length : Int) - (l3.length : Int) < 0) = false := decide_eq_false (by omega)
          have ew : IntKind.i64.wrap ((l1.length : Int) - ((l1.length : Int) - (l3.length : Int))) = (l3.length : Int) := by rw [IntWalk.i64_in _ (by omega)]; omega
          clear hlt HR
          go_upto_region 24 with (go_at_call 66; refine hke.mono ?_; rintro e w8 ⟨rfl, hb8⟩)
          have H8 := vers.lay (H7.out.next hb8)
          have hwi := wipeAll_ok H8.out.ca
          clear hke hb8 ew d3
          go_upto_region 25 with (go_at_call 60; refine hwi.mono ?_; rintro e w9 ⟨rfl, hc9, hk9⟩)
          have H9 := vers.lay (H8.out.same hc9 hk9 (k := 200) (by omega) (by have := H8.out.bm; omega) (fun x hx => by cases hx))
          clear hwi hc9 hk9
          have hof := of_any 1 w9 (by constructor <;> decide)
          obtain ⟨r1, hr1⟩ : ∃ r1, ofP 1 = r1 := ⟨_, rfl⟩
          have hft := ofP_fits 1
          rw [hr1] at hft hof
          obtain ⟨rk, rg, ro, rn⟩ := r1
          clear hr1
          go_upto_region 26 with (first | (go_at_call 49; refine hof.mono ?_; rintro e w10 ⟨rfl, hb10⟩; have H10 := vers.lay (H9.out.next hb10); have hop := put_ok H10.out.ca rk rg ro rn hft true [] [] none 0 none 0 (fun _ => False) ⟨EsF.nil _ _, KsF.nil _ _⟩ (fun b hb => hb.elim); simp only [List.length_nil] at hop) | (go_at_call 63; refine hop.mono ?_; rintro e w11 ⟨E11, l11, Z11, rfl, hE11, hc11, hk11, hz11⟩))
          rw [List.map_nil, put_one n _ _ (by omega)] at hE11
          obtain ⟨rfl, hl11⟩ : E11 = 0 ∧ l11.map H.ph = [(⟨rk, rg, ro, rn⟩, (true, [], []), 0)] := by simpa using hE11
          have HB11 := vers.lay (H10.out.below.trans (hk11.below (fun b hb => H10.out.z b hb) H10.out.below.size))
          have hke := kept_ok hc11
          have hl1 : l11.length = 1 := by have := congrArg List.length hl11; simpa using this
          rw [hl1] at hke
          clear hE11 hl11 hc11 hk11 hz11 hop hof hl1
          go_wp2_with (go_at_call 66; refine hke.mono ?_; rintro e w12 ⟨rfl, hb12⟩)
          go_ret
          exact ⟨rfl, HB11.out.trans (hb12.mono HB11.out.size)⟩

end Go.Proofs.Ythmamlghmagmkaa.caches
