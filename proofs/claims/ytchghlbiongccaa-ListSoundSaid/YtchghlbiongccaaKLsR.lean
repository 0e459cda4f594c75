/- A tree looked over: least, filled, rising, lows, shapeOf. -/
import Derived.Test.YtchghlbiongccaaKLsP
import Derived.Test.YtchghlbiongccaaKMix
import Derived.Test.YtchghlbiongccaaKQuA


namespace Go.Proofs.Ytchghlbiongccaa.trees
set_option linter.unusedVariables false
set_option linter.unusedSimpArgs false
open Go.RowKit Go.Proofs.Ytchghlbiongccaa.base Go.Proofs.Ytchghlbiongccaa.vers Go.Proofs.Ytchghlbiongccaa.nodes Go.Proofs.Ytchghlbiongccaa.quotas

theorem lowOf_leaf (es : List E) (ks : List K) : lowOf true es ks = lowL (es.map pe) := by cases es <;> rfl
theorem below_drewQ (B : Nat) (w : World) (n : Nat) : Below B w (w.drewN n) := ⟨rfl, rfl, rfl, Nat.le_refl _, fun _ _ => rfl⟩
theorem Sl.of_seen {w : World} {F : Nat → Prop} {A : Option Addr} {c : Nat} {l : List SN} (h : SeenF w F (.slice A l.length c) l) (hl : l.length ≤ 1000000) : Sl w w.heap.size l A c := by
  obtain ⟨A', c', e, h1, h2, h3⟩ := row_rdF h.1
  injection e with e1 _ e2
  subst e1 e2
  exact ⟨h1, by omega, h2, h3.rd, fun x hx => ⟨(h.2.2 x hx).ns.1.es, (h.2.2 x hx).ns.2.ks⟩⟩

set_option maxRecDepth 100000 in
set_option maxHeartbeats 8000000 in
theorem least_ok (l : List SN) (A : Option Addr) (c : Nat) (w : World) (hS : Sl w w.heap.size l A c) (hd : hasLeaf (ps l)) :
    Calls Try.prog 111 #[.slice A l.length c] w fun e w' => e = .returned (.string (leastP (ps l))) ∧ Below w.heap.size w w' := by
  obtain ⟨T, hT⟩ : ∃ T, leastP (ps l) = T := ⟨_, rfl⟩
  rw [hT]
  go_enter Try.func111, Try.ntmps111
  go_wp2_with fail
  go_loopw [0] (fun v wr => ∃ (l' : List SN) (A' : Option Addr) (c' : Nat), v = .slice A' l'.length c' ∧ wr = w ∧ Hid (Sl w w.heap.size l' A' c') ∧ Hid (leastP (ps l') = T) ∧ Hid (hasLeaf (ps l'))) (fun v _ => lenOf v)
  case atStart => exact ⟨l, A, c, rfl, rfl, vers.lay hS, vers.lay hT, vers.lay hd⟩
  case round =>
    obtain ⟨l', A', c', rfl, rfl, hSl, hTl, hdl⟩ := hrel
    cases l' with
    | nil => obtain ⟨s, hs, _⟩ := hdl.out; cases hs
    | cons s l2 =>
      obtain ⟨b, off, rfl, hb, x0, x1, x2, x3, x4, x5, x6, x7⟩ := hSl.out.at_ (j := 0) (by simp)
      simp only [List.getElem_cons_zero, Nat.zero_mul, Nat.add_zero] at x0 x1 x2 x3 x4 x5 x6 x7
      obtain ⟨A2, c2, hrun, hS2⟩ := run_fromSn hSl.out 1 (by simp)
      simp only [List.drop_succ_cons, List.drop_zero] at hrun hS2
      rw [show (((1 : Nat) : Int)) = 1 from rfl] at hrun
      have hes := hSl.out.2.2.2.2 s List.mem_cons_self
      obtain ⟨n, hn⟩ : ∃ n, n = (s :: l2).length := ⟨_, rfl⟩
      rw [← hn] at hrun
      have hn2 : n = l2.length + 1 := by rw [hn]; rfl
      have HNP : 0 < n := by omega
      have hcb := hSl.out.1
      rw [← hn] at hcb
      simp only [← hn]
      have HN := vers.lay hn2
      obtain ⟨sd, ⟨sk, sg, so, sn⟩, ⟨slf, es, ks, sA, sc, sQ, sm⟩⟩ := s
      simp only [] at x0 x1 x2 x3 x4 x5 x6 x7 hes
      cases slf with
      | true =>
        have HT2 := vers.lay (show lowOf true es ks = T by rw [← hTl.out, ps_cons, leastP_leaf rfl, lowOf_leaf]; rfl)
        have hlow := lowIs true es ks sA sc sQ sm wr hes.1 hes.2
        clear hn hn2 hrun hS2 hTl hdl hSl hes
        go_wp2_with fail
        refine hlow.mono ?_
        rintro e w1 ⟨rfl, hb1⟩
        go_wp2_with fail
        go_ret
        exact ⟨by rw [← HT2.out]; rfl, hb1⟩
      | false =>
        have HT2 := vers.lay (show leastP (ps l2) = T by rw [← hTl.out, ps_cons, leastP_skip rfl])
        have HD2 := vers.lay (show hasLeaf (ps l2) from by
          obtain ⟨z, hz, hzd⟩ := hdl.out
          rcases List.mem_cons.1 hz with rfl | hz
          · cases hzd
          · exact ⟨z, hz, hzd⟩)
        have HS2 := vers.lay hS2
        clear hn hn2 hSl hTl hdl hS2 hes
        go_wp2_with fail
        refine ⟨⟨l2, A2, c2, rfl, by trivial, HS2, HT2, HD2⟩, ?_⟩
        have := HN.out
        simp [lenOf]
        omega

set_option maxRecDepth 100000 in
set_option maxHeartbeats 8000000 in
theorem filled_ok (l : List SN) (A : Option Addr) (c D : Nat) (w : World) (hS : Sl w w.heap.size l A c) (hD : D ≤ 100) (hg : ∀ s ∈ l, s.2.2.lf = true → s.1 = D ∧ (1 < s.1 → 2 ≤ s.2.2.es.length)) :
    Calls Try.prog 78 #[.slice A l.length c, .int .i64 (D : Int)] w fun e w' => e = .returned (.bool true) ∧ Below w.heap.size w w' := by
  have hlen := hS.2.1
  have HS := vers.lay hS
  have HG := vers.lay hg
  clear hS hg
  go_enter Try.func78, Try.ntmps78
  go_wp2_with fail
  go_loopw [9] (fun i wr => ∃ j : Nat, j ≤ l.length ∧ i = .int .i64 (j : Int) ∧ Below w.heap.size w wr) (fun i _ => l.length - (intOf i).toNat)
  case atStart => exact ⟨0, Nat.zero_le _, rfl, Below.refl _ _⟩
  case round =>
    obtain ⟨j, hj, rfl, hb⟩ := hrel
    by_cases hlt : j < l.length
    · obtain ⟨bk, off, rfl, hbk, e0, e1, e2, e3, e4, e5, e6, e7⟩ := (HS.out.below hb).at_ hlt
      have hg := HG.out _ (List.getElem_mem hlt)
      have hesl := (HS.out.2.2.2.2 _ (List.getElem_mem hlt)).1.2.1
      generalize l[j] = sx at *
      obtain ⟨sd, ⟨sk, sg, so, sn⟩, ⟨slf, es, ks, sA, sc, sQ, sm⟩⟩ := sx
      simp only [] at e0 e1 e2 e3 e4 e5 e6 e7 hg
      have b4 : Below wr.heap.size wr (wr.alloc (.cells #[.int .i64 (sd : Int), .int .u64 (sk : Int), .int .i64 sg, .int .i64 so, .int .i64 sn, .bool slf, .slice sA es.length sc, .slice sQ ks.length sm] 103)) := (Below.refl _ _).alloc (Nat.le_refl _) _
      have kB := Blk.new wr 103 #[.int .i64 (sd : Int), .int .u64 (sk : Int), .int .i64 sg, .int .i64 so, .int .i64 sn, .bool slf, .slice sA es.length sc, .slice sQ ks.length sm]
      have hbs := hb.size
      have hb4 := hb.trans (b4.mono hbs)
      generalize hWB : wr.alloc (.cells #[.int .i64 (sd : Int), .int .u64 (sk : Int), .int .i64 sg, .int .i64 so, .int .i64 sn, .bool slf, .slice sA es.length sc, .slice sQ ks.length sm] 103) = WB at *
      have c0 := kB.cell 0
      have c1 := kB.cell 1
      have c2 := kB.cell 2
      have c3 := kB.cell 3
      have c4 := kB.cell 4
      have c5 := kB.cell 5
      have c6 := kB.cell 6
      have c7 := kB.cell 7
      simp only [List.getElem?_toArray, List.getElem?_cons_zero, List.getElem?_cons_succ] at c0 c1 c2 c3 c4 c5 c6 c7
      have lB := kB.lt
      cases slf with
      | false =>
        clear hg
        go_wp2_with fail
        exact ⟨⟨j + 1, hlt, by go_num, hb4⟩, by first | (simp [intOf]; done) | (simp [intOf]; omega) | omega⟩
      | true =>
        obtain ⟨hsD, hs2⟩ := hg rfl
        subst hsD
        clear hg
        simp only [] at hesl
        generalize es.length = en at *
        by_cases h1 : 1 < sd
        · have h2 := hs2 h1
          have d1 : decide ((1 : Int) < (sd : Int)) = true := decide_eq_true (by omega)
          have d2 : decide ((en : Int) < 2) = false := decide_eq_false (by omega)
          clear hs2
          go_wp2_with fail
          exact ⟨⟨j + 1, hlt, by go_num, hb4⟩, by first | (simp [intOf]; done) | (simp [intOf]; omega) | omega⟩
        · have d1 : decide ((1 : Int) < (sd : Int)) = false := decide_eq_false (by omega)
          clear hs2
          go_wp2_with fail
          exact ⟨⟨j + 1, hlt, by go_num, hb4⟩, by first | (simp [intOf]; done) | (simp [intOf]; omega) | omega⟩
    · obtain rfl : j = l.length := by omega
      go_wp2_with fail
      go_ret
      exact ⟨rfl, hb⟩

set_option maxRecDepth 100000 in
set_option maxHeartbeats 8000000 in
theorem rising_ok (l : List E) (A : Option Addr) (c : Nat) (w : World) (hE : Es w w.heap.size l A c) (hI : Inc (l.map (·.s))) :
    Calls Try.prog 79 #[.slice A l.length c] w fun e w' => e = .returned (.bool true) ∧ Below w.heap.size w w' := by
  have hlen := hE.2.1
  have HI := vers.lay hI
  clear hI
  go_enter Try.func79, Try.ntmps79
  go_wp2_with fail
  go_loopw [6] (fun i wr => ∃ j n : Nat, j ≤ l.length ∧ i = .int .i64 (j : Int) ∧ wr = w.drewN n) (fun i _ => l.length - (intOf i).toNat)
  case atStart => exact ⟨0, 0, Nat.zero_le _, rfl, rfl⟩
  case round =>
    obtain ⟨j, n, hj, rfl, rfl⟩ := hrel
    by_cases hlt : j < l.length
    · cases j with
      | zero =>
        go_wp2_with fail
        go_region
        go_wp2_with fail
        exact ⟨⟨1, n + 1, hlt, by go_num, rfl⟩, by first | (simp [intOf]; done) | (simp [intOf]; omega) | omega⟩
      | succ k =>
        have hlk : k < l.length := by omega
        obtain ⟨g, off, rfl, hgl, y0, _⟩ := hE.at_ hlt
        obtain ⟨g', off', e2, hgl', y0', _⟩ := hE.at_ hlk
        injection e2 with e2
        injection e2 with e3 e4
        subst e3 e4
        have hlt2 : ltS l[k].s l[k + 1].s = true := by
          have := (List.pairwise_iff_getElem.1 HI.out) k (k + 1) (by simpa using hlk) (by simpa using hlt) (by omega)
          simpa using this
        generalize l[k].s = a at *
        generalize l[k + 1].s = b at *
        obtain ⟨g1, g2, g3, g4⟩ := clt hlt2
        clear hlt2
        go_wp2_with fail
        go_region
        go_wp2_with fail
        exact ⟨⟨k + 1 + 1, n + 1, hlt, by go_num, rfl⟩, by first | (simp [intOf]; done) | (simp [intOf]; omega) | omega⟩
    · obtain rfl : j = l.length := by omega
      go_wp2_with fail
      go_ret
      exact ⟨rfl, below_drewQ _ _ n⟩

end Go.Proofs.Ytchghlbiongccaa.trees
