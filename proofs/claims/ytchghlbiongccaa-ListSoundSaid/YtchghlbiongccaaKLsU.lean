/- Shape. -/
import Derived.Test.YtchghlbiongccaaKLsT


namespace Go.Proofs.Ytchghlbiongccaa.trees
set_option linter.unusedVariables false
set_option linter.unusedSimpArgs false
open Go.RowKit Go.Proofs.Ytchghlbiongccaa.base Go.Proofs.Ytchghlbiongccaa.vers Go.Proofs.Ytchghlbiongccaa.nodes Go.Proofs.Ytchghlbiongccaa.quotas
theorem call_b {P : Program} {f : FuncId} {args : Array Value} {v : Value} {W : World} {N : World → World} {n : World} (h1 : ∀ n, Below W.heap.size W (N n)) (h2 : ∀ w', Below W.heap.size W w' → ∃ n, w' = N n)
    (hc : Calls P f args (N n) fun e w' => e = .returned v ∧ Below (N n).heap.size (N n) w') : Calls P f args (N n) fun e w'' => e = .returned v ∧ ∃ m, w'' = N m :=
  hc.mono fun _ _ ⟨he, hb⟩ => ⟨he, h2 _ ((h1 n).trans (hb.mono (h1 n).size))⟩

set_option maxRecDepth 100000 in
set_option maxHeartbeats 8000000 in
theorem shape_ok (qa qb qc qd qe qf qh : Int) (hq : ok qa qb qc qd qe qf qh) (h : Nat) (S : Nat → Prop) (ns : List P3) (r : R) (ht : Nat) (L : List PE) (w : World) (hS : Shown w h S ns r ht L) (hI : Inc (nm L)) (hL : ∀ y ∈ L, OkS qa qb qc qd qe qf qh y) (hLa : (L.length : Int) ≤ qa) (hns : ns.length ≤ 100000) (hr : ∃ i, r = refOf i) :
    Calls Try.prog 41 #[.agg #[.int .i64 qa, .int .i64 qb, .int .i64 qc, .int .i64 qd, .int .i64 qe, .int .i64 qf, .int .i64 qh], pv h, r.val] w fun e w' => (∃ P D : Nat, (1 ≤ P ∧ (P : Int) ≤ lp qa ∧ 1 ≤ D ∧ (D : Int) ≤ lv qa) ∧ e = .returned (.tuple #[.agg #[.int .i64 (D : Int), .int .i64 (P : Int), .int .i64 (L.length : Int), .int .i64 (P : Int)], .int .i64 0])) ∧ Below w.heap.size w w' := by
  have bR : Below w.heap.size w (((w.alloc (.cells #[.int .i64 qa, .int .i64 qb, .int .i64 qc, .int .i64 qd, .int .i64 qe, .int .i64 qf, .int .i64 qh] 71)).alloc (.cells #[.int .u64 (r.k : Int), .int .i64 r.g, .int .i64 r.o, .int .i64 r.n] 44)).alloc (.cells #[.int .i64 0, .int .i64 0, .int .i64 0, .int .i64 0] 74)) := (((Below.refl _ _).alloc (Nat.le_refl _) _).alloc (by simp) _).alloc (by simp; omega) _
  have hright := fun w => right_ok qa qb qc qd qe qf qh w hq
  have hlv := levels_ok qa qb qc qd qe qf qh hq
  have hno := fun (lf : Bool) (es : List E) (ks : List K) A cap A' cap' w h1 h2 => nodes.two.rightIs qa qb qc qd qe qf qh lf es ks A cap A' cap' w h1 h2
  have hlk := fun W (hb : Below w.heap.size w W) => (hS.below hb).look hq hI hL hLa hns hr
  have hLl := hS.len
  have hht : ht ≤ 4 := hS.low
  have HI := vers.lay hI
  clear hS hI hL hns hr
  obtain ⟨rk, rg, ro, rn⟩ := r
  have kQ := ((Blk.new w 71 #[.int .i64 qa, .int .i64 qb, .int .i64 qc, .int .i64 qd, .int .i64 qe, .int .i64 qf, .int .i64 qh]).alloc (.cells #[.int .u64 (rk : Int), .int .i64 rg, .int .i64 ro, .int .i64 rn] 44)).alloc (.cells #[.int .i64 0, .int .i64 0, .int .i64 0, .int .i64 0] 74)
  have kR := (Blk.new (w.alloc (.cells #[.int .i64 qa, .int .i64 qb, .int .i64 qc, .int .i64 qd, .int .i64 qe, .int .i64 qf, .int .i64 qh] 71)) 44 #[.int .u64 (rk : Int), .int .i64 rg, .int .i64 ro, .int .i64 rn]).alloc (.cells #[.int .i64 0, .int .i64 0, .int .i64 0, .int .i64 0] 74)
  have kH := Blk.new ((w.alloc (.cells #[.int .i64 qa, .int .i64 qb, .int .i64 qc, .int .i64 qd, .int .i64 qe, .int .i64 qf, .int .i64 qh] 71)).alloc (.cells #[.int .u64 (rk : Int), .int .i64 rg, .int .i64 ro, .int .i64 rn] 44)) 74 #[.int .i64 0, .int .i64 0, .int .i64 0, .int .i64 0]
  simp only [World.size_alloc] at kR kH
  generalize hWR : ((w.alloc (.cells #[.int .i64 qa, .int .i64 qb, .int .i64 qc, .int .i64 qd, .int .i64 qe, .int .i64 qf, .int .i64 qh] 71)).alloc (.cells #[.int .u64 (rk : Int), .int .i64 rg, .int .i64 ro, .int .i64 rn] 44)).alloc (.cells #[.int .i64 0, .int .i64 0, .int .i64 0, .int .i64 0] 74) = WR at *
  have a0 := kQ.cell 0
  have a1 := kQ.cell 1
  have a2 := kQ.cell 2
  have a3 := kQ.cell 3
  have a4 := kQ.cell 4
  have a5 := kQ.cell 5
  have a6 := kQ.cell 6
  simp only [List.getElem?_toArray, List.getElem?_cons_zero, List.getElem?_cons_succ] at a0 a1 a2 a3 a4 a5 a6
  have lQ := kQ.lt
  have HQ := vers.lay hq
  have HLA := vers.lay hLa
  clear hq hLa
  go_enter Try.func41, Try.ntmps41
  go_wp2_with fail
  refine (hright _).mono ?_
  rintro e w1 ⟨rfl, hb1⟩
  have kR1 := kR.below hb1 kR.lt
  have b1 := bR.trans (hb1.mono bR.size)
  obtain ⟨pl, hP, hall⟩ := hlk _ b1
  have HP := vers.lay hP
  clear hright hlk hP a0 a1 a2 a3 a4 a5 a6
  have z0 := kR1.cell 0
  have z1 := kR1.cell 1
  have z2 := kR1.cell 2
  have z3 := kR1.cell 3
  simp only [List.getElem?_toArray, List.getElem?_cons_zero, List.getElem?_cons_succ] at z0 z1 z2 z3
  have lR1 := kR1.lt
  go_wp2_with fail
  refine hall.mono ?_
  rintro e w2 ⟨hb2, sl, v, rfl, hsl, hSn⟩
  clear hall z0 z1 z2 z3
  obtain ⟨Av, cv, rfl, _, _, _⟩ := row_rdF hSn.1
  have b2 := b1.trans (hb2.mono b1.size)
  have hb12 := hb1.trans (hb2.mono hb1.size)
  have hpsl : ps sl = pl := hsl
  have hsll : sl.length = pl.length := by rw [← hsl, List.length_map]
  have hll : sl.length ≤ 100000 := by have := HP.out.len; omega
  have hfew := HP.out.few
  have hone := HP.out.one
  have hlow := HP.out.low
  have hlp : lp qa ≤ 100 := by have := HQ.out.1; unfold lp leaves; split <;> omega
  have hseL : (secretsN sl).map pe = L := by rw [secretsN_p, hsl, HP.out.sec]
  have hmem : ∀ s ∈ sl, psn s ∈ pl := fun s hs => by rw [← hsl]; exact List.mem_map_of_mem hs
  have hSl := Sl.of_seen hSn (by omega)
  have HSL := vers.lay hSl
  have HSN := vers.lay hSn
  have HSE := vers.lay hseL
  have HME := vers.lay hmem
  have HPS := vers.lay hpsl
  have HFEW := vers.lay (show 1 ≤ sl.length ∧ (sl.length : Int) ≤ lp qa by omega)
  have kQ2 := kQ.below hb12 lQ
  have kH2 := kH.below hb12 kH.lt
  have hle : (secretsN sl).length = L.length := by rw [← hseL, List.length_map]
  have HLE := vers.lay hle
  clear hSn hSl hseL hmem hpsl hsl hsll hfew hone hle
  go_wp2_with fail
  go_loopw [34] (fun i wr => ∃ j : Nat, j ≤ sl.length ∧ i = .int .i64 (j : Int) ∧ Below w2.heap.size w2 wr) (fun i _ => sl.length - (intOf i).toNat)
  case atStart => exact ⟨0, Nat.zero_le _, rfl, Below.refl _ _⟩
  case round =>
    obtain ⟨j, hj, rfl, hb⟩ := hrel
    by_cases hlt : j < sl.length
    · obtain ⟨bk, off, rfl, hbk, e0, e1, e2, e3, e4, e5, e6, e7⟩ := (HSL.out.below hb).at_ hlt
      have hg := (HSL.out.2.2.2.2 _ (List.getElem_mem hlt))
      have hok := HP.out.nodes _ (HME.out _ (List.getElem_mem hlt))
      generalize sl[j] = sx at *
      obtain ⟨sd, ⟨sk, sg, so, sn⟩, ⟨slf, es, ks, sA, sc, sQ, sm⟩⟩ := sx
      simp only [] at e0 e1 e2 e3 e4 e5 e6 e7 hg
      have hz := OkN.zero HQ.out (lf := slf) (es := es) (ks := ks) hok
      have b4 : Below wr.heap.size wr (wr.alloc (.cells #[.int .i64 (sd : Int), .int .u64 (sk : Int), .int .i64 sg, .int .i64 so, .int .i64 sn, .bool slf, .slice sA es.length sc, .slice sQ ks.length sm] 103)) := (Below.refl _ _).alloc (Nat.le_refl _) _
      have kB := Blk.new wr 103 #[.int .i64 (sd : Int), .int .u64 (sk : Int), .int .i64 sg, .int .i64 so, .int .i64 sn, .bool slf, .slice sA es.length sc, .slice sQ ks.length sm]
      have hbs := hb.size
      have hb4 := hb.trans (b4.mono hbs)
      have kQ4 := (kQ2.below hb (kQ2.lt)).below b4 (kQ2.below hb kQ2.lt).lt
      have hcall := hno slf es ks sA sc sQ sm (wr.alloc (.cells #[.int .i64 (sd : Int), .int .u64 (sk : Int), .int .i64 sg, .int .i64 so, .int .i64 sn, .bool slf, .slice sA es.length sc, .slice sQ ks.length sm] 103)) ((hg.1.below hb4).more hb4.size) ((hg.2.below hb4).more hb4.size)
      rw [hz] at hcall
      clear hok hz hg
      generalize hWB : wr.alloc (.cells #[.int .i64 (sd : Int), .int .u64 (sk : Int), .int .i64 sg, .int .i64 so, .int .i64 sn, .bool slf, .slice sA es.length sc, .slice sQ ks.length sm] 103) = WB at *
      have c0 := kB.cell 0
      have c1 := kB.cell 1
      have c2 := kB.cell 2
      have c3 := kB.cell 3
      have c4 := kB.cell 4
      have c5 := kB.cell 5
      have c6 := kB.cell 6
      have c7 := kB.cell 7
      simp only [List.getElem?_toArray, List.getElem?_cons_zero, List.getElem?_cons_succ] at c0 c1 c2 c3 c4 c5 c6 c7
      have lB := kB.lt
      have a0 := kQ4.cell 0
      have a1 := kQ4.cell 1
      have a2 := kQ4.cell 2
      have a3 := kQ4.cell 3
      have a4 := kQ4.cell 4
      have a5 := kQ4.cell 5
      have a6 := kQ4.cell 6
      simp only [List.getElem?_toArray, List.getElem?_cons_zero, List.getElem?_cons_succ] at a0 a1 a2 a3 a4 a5 a6
      have lQ4 := kQ4.lt
      go_wp2_with fail
      refine hcall.mono ?_
      rintro e w5 ⟨rfl, hb5⟩
      go_wp2_with fail
      exact ⟨⟨j + 1, hlt, by go_num, hb4.trans (hb5.mono hb4.size)⟩, by first | (simp [intOf]; done) | (simp [intOf]; omega) | omega⟩
    · obtain rfl : j = sl.length := by omega
      have hSr := HSN.out.agree (w' := wr) fun g hg => hb.block g hg.2
      have hso := shapeOf_ok sl _ Av cv (1 + ht) wr hSr (fun g hg => Nat.lt_of_lt_of_le hg.2 hb.size) (by rw [HLE.out]; omega) hll (by omega) (fun s hs => (HP.out.deep _ (HME.out s hs)).1) (by
        obtain ⟨z, hz, he⟩ := HP.out.max
        rw [← HPS.out] at hz
        obtain ⟨s, hs, rfl⟩ := List.mem_map.1 hz
        exact ⟨s, hs, he⟩) (fun s hs => HP.out.ref _ (HME.out s hs))
      have hSlr := (HSL.out.below hb).more hb.size
      have hfi := fun W (hx : Below wr.heap.size wr W) => filled_ok sl Av cv (1 + ht) W (hSlr.at_world hx) (by omega) (fun s hs hf => ⟨((HP.out.deep _ (HME.out s hs)).2 hf).1, fun h1 => by have := ((HP.out.deep _ (HME.out s hs)).2 hf).2 h1; simpa [psn, N.p] using this⟩)
      have hse := fun W (hx : Below wr.heap.size wr W) => secrets_ok sl _ (.slice Av sl.length cv) W (hSr.agree (w' := W) fun g hg => hx.block g (Nat.lt_of_lt_of_le hg.2 hb.size)) (fun g hg => Nat.lt_of_lt_of_le hg.2 (Nat.le_trans hb.size hx.size)) (by rw [HLE.out]; omega) (by omega)
      have hlo := fun W (hx : Below wr.heap.size wr W) => lows_ok sl Av cv W (hSlr.at_world hx) (fun s hs => by have h7 : s.1 ≤ 1 + ht := (HP.out.deep _ (HME.out s hs)).1; omega) (by rw [HPS.out]; exact HP.out.good)
      have hincE : Inc ((secretsN sl).map (·.s)) := by have := HI.out; rw [← HSE.out] at this; unfold nm at this; rwa [pe_map] at this
      have HINC := vers.lay hincE
      have kQr := kQ2.below hb kQ2.lt
      have kHr := kH2.below hb kH2.lt
      have HD := vers.lay (⟨by omega, by have := hlow; omega⟩ : 1 ≤ 1 + ht ∧ (((1 + ht : Nat)) : Int) ≤ lv qa)
      obtain ⟨dd, hdd⟩ : ∃ dd, dd = 1 + ht := ⟨_, rfl⟩
      rw [← hdd] at hso hfi HD
      have HSN2 := vers.lay hSr
      clear hSr hSlr hincE hdd
      generalize secretsN sl = le at *
      have bw := b2.trans (hb.mono b2.size)
      go_wp2_with fail
      refine hso.mono ?_
      rintro e w6 ⟨rfl, hb6⟩
      clear hso
      have b6 : Below w6.heap.size w6 (w6.alloc (.cells #[.int .i64 (dd : Int), .int .i64 (sl.length : Int), .int .i64 (le.length : Int), .int .i64 (sl.length : Int)] 74)) := (Below.refl _ _).alloc (Nat.le_refl _) _
      have k6 := Blk.new w6 74 #[.int .i64 (dd : Int), .int .i64 (sl.length : Int), .int .i64 (le.length : Int), .int .i64 (sl.length : Int)]
      have hr6 := hb6.trans (b6.mono hb6.size)
      have kQ6 := kQr.below hr6 kQr.lt
      have kH6 := kHr.below hr6 kHr.lt
      have bw6 := bw.trans (hr6.mono bw.size)
      generalize hW6 : w6.alloc (.cells #[.int .i64 (dd : Int), .int .i64 (sl.length : Int), .int .i64 (le.length : Int), .int .i64 (sl.length : Int)] 74) = W6 at *
      have l6 := k6.lt
      have lQ6 := kQ6.lt
      obtain ⟨N, hN, hM⟩ := norms (fun wx => Below W6.heap.size W6 wx) W6 (Below.refl _ _)
      have hne : Nonempty World := ⟨W6⟩
      have n0 := fun n => (k6.below (hN n) l6).cell 0
      have n2 := fun n => (k6.below (hN n) l6).cell 2
      have m0 := fun n => (kQ6.below (hN n) lQ6).cell 0
      have m1 := fun n => (kQ6.below (hN n) lQ6).cell 1
      have m2 := fun n => (kQ6.below (hN n) lQ6).cell 2
      have m3 := fun n => (kQ6.below (hN n) lQ6).cell 3
      have m4 := fun n => (kQ6.below (hN n) lQ6).cell 4
      have m5 := fun n => (kQ6.below (hN n) lQ6).cell 5
      have m6 := fun n => (kQ6.below (hN n) lQ6).cell 6
      simp only [List.getElem?_toArray, List.getElem?_cons_zero, List.getElem?_cons_succ] at n0 n2 m0 m1 m2 m3 m4 m5 m6
      have dl : decide ((le.length : Int) ≤ qa) = true := decide_eq_true (by have := HLE.out; have := HLA.out; omega)
      have dv : decide ((dd : Int) ≤ lv qa) = true := decide_eq_true HD.out.2
      go_wp2_with fail
      refine region_class N (by kernel_rfl) (by kernel_rfl) (hM _ (Below.refl _ W6).drew) ?_
      repeat (go_big_quiet_step (first | (go_at_call 43; exact call_b hN hM (hlv _))))
      refine wpQuiet_nil ?_
      rintro _ ⟨n, rfl⟩
      have I9 := hN n
      generalize N n = w9 at I9 ⊢
      clear n0 n2 m0 m1 m2 m3 m4 m5 m6 hM hN N n hne
      have hr9 := hr6.trans (I9.mono hr6.size)
      have k9 := k6.below I9 l6
      have c0 := k9.cell 0
      simp only [List.getElem?_toArray, List.getElem?_cons_zero] at c0
      have l9 := k9.lt
      go_wp2_with fail
      refine (hfi _ hr9).mono ?_
      rintro e wa ⟨rfl, hba⟩
      have hra := hr9.trans (hba.mono hr9.size)
      go_wp2_with fail
      refine (hse _ hra).mono ?_
      rintro e wb ⟨hbb, vs, rfl, hrowS, hownS, helS⟩
      have hrb := hra.trans (hbb.mono hra.size)
      obtain ⟨As, cs, rfl, hs1, hs2, hs3⟩ := row_rdF hrowS
      have hri := rising_ok le As cs wb ⟨hs1, by have := HLE.out; omega, hs2, hs3.rd, fun x hx => ⟨(helS x hx).1.vs, (helS x hx).2⟩⟩ HINC.out
      clear hs1 hs2 hs3 hrowS helS
      go_wp2_with fail
      refine hri.mono ?_
      rintro e wc ⟨rfl, hbc⟩
      have hrc := hrb.trans (hbc.mono hrb.size)
      go_wp2_with fail
      refine (hlo _ hrc).mono ?_
      rintro e wd ⟨rfl, hbd⟩
      have hrd := hrc.trans (hbd.mono hrc.size)
      have hW6d : Below W6.heap.size W6 wd := I9.trans (((hba.trans (hbb.mono hba.size)).trans ((hbc.trans (hbd.mono hbc.size)).mono (hba.trans (hbb.mono hba.size)).size)).mono I9.size)
      have kd := k6.below hW6d l6
      have kHd := kH6.below hW6d kH6.lt
      have bwd := bw6.trans (hW6d.mono bw6.size)
      clear c0
      have d0 := kd.cell 0
      have d1 := kd.cell 1
      have d2 := kd.cell 2
      have d3 := kd.cell 3
      simp only [List.getElem?_toArray, List.getElem?_cons_zero, List.getElem?_cons_succ] at d0 d1 d2 d3
      have q0 := kHd.cell 0
      have q1 := kHd.cell 1
      have q2 := kHd.cell 2
      have q3 := kHd.cell 3
      simp only [List.getElem?_toArray, List.getElem?_cons_zero, List.getElem?_cons_succ] at q0 q1 q2 q3
      have f0 := kHd.frozen 0
      have f1 := kHd.frozen 1
      have f2 := kHd.frozen 2
      have f3 := kHd.frozen 3
      have ld := kd.lt
      have lHd := kHd.lt
      go_wp2_with fail
      have kz := (((kHd.put 0 (.int .i64 (dd : Int))).put 1 (.int .i64 (sl.length : Int))).put 2 (.int .i64 (le.length : Int))).put 3 (.int .i64 (sl.length : Int))
      have bz := four4_below bwd (g := w.heap.size + 1 + 1) (by omega) (.int .i64 (dd : Int)) (.int .i64 (sl.length : Int)) (.int .i64 (le.length : Int)) (.int .i64 (sl.length : Int))
      unfold four4 at bz
      simp only [List.setIfInBounds_toArray, List.set_cons_zero, List.set_cons_succ] at kz
      generalize (((wd.setCell ⟨w.heap.size + 1 + 1, 0, none⟩ (.int .i64 (dd : Int))).setCell ⟨w.heap.size + 1 + 1, 1, none⟩ (.int .i64 (sl.length : Int))).setCell ⟨w.heap.size + 1 + 1, 2, none⟩ (.int .i64 (le.length : Int))).setCell ⟨w.heap.size + 1 + 1, 3, none⟩ (.int .i64 (sl.length : Int)) = wX at *
      have y0 := kz.cell 0
      have y1 := kz.cell 1
      have y2 := kz.cell 2
      have y3 := kz.cell 3
      simp only [List.getElem?_toArray, List.getElem?_cons_zero, List.getElem?_cons_succ] at y0 y1 y2 y3
      refine bodyPost_ret (v := .tuple #[.agg #[.int .i64 (dd : Int), .int .i64 (sl.length : Int), .int .i64 (le.length : Int), .int .i64 (sl.length : Int)], .int .i64 0]) (by simp [results, Try.results41, go_sem, y0, y1, y2, y3]) rfl ⟨⟨sl.length, dd, ⟨HFEW.out.1, HFEW.out.2, HD.out.1, HD.out.2⟩, by rw [HLE.out]⟩, bz⟩

end Go.Proofs.Ytchghlbiongccaa.trees
