/- The law ListSound. -/
import Derived.Test.YtchghlbiongccaaKLsU
import Derived.Test.YtchghlbiongccaaKLsK
import Derived.Test.YtchghlbiongccaaKVerB


namespace Go.Proofs.Ytchghlbiongccaa.trees
set_option linter.unusedVariables false
set_option linter.unusedSimpArgs false
open Go.RowKit Go.Shelf Go.Proofs.Ytchghlbiongccaa.base Go.Proofs.Ytchghlbiongccaa.vers Go.Proofs.Ytchghlbiongccaa.nodes Go.Proofs.Ytchghlbiongccaa.quotas

set_option maxRecDepth 100000 in
set_option maxHeartbeats 8000000 in
theorem shape_no (qa qb qc qd qe qf qh : Int) (hq : ¬ ok qa qb qc qd qe qf qh) (h : Nat) (r : R) (w : World) :
    Calls Try.prog 41 #[.agg #[.int .i64 qa, .int .i64 qb, .int .i64 qc, .int .i64 qd, .int .i64 qe, .int .i64 qf, .int .i64 qh], pv h, r.val] w fun e w' => e = .returned (.tuple #[.agg #[.int .i64 0, .int .i64 0, .int .i64 0, .int .i64 0], .int .i64 40]) ∧ Below w.heap.size w w' := by
  have bR : Below w.heap.size w (((w.alloc (.cells #[.int .i64 qa, .int .i64 qb, .int .i64 qc, .int .i64 qd, .int .i64 qe, .int .i64 qf, .int .i64 qh] 71)).alloc (.cells #[.int .u64 (r.k : Int), .int .i64 r.g, .int .i64 r.o, .int .i64 r.n] 44)).alloc (.cells #[.int .i64 0, .int .i64 0, .int .i64 0, .int .i64 0] 74)) := (((Below.refl _ _).alloc (Nat.le_refl _) _).alloc (by simp) _).alloc (by simp; omega) _
  have hright := fun w => right_no qa qb qc qd qe qf qh w hq
  obtain ⟨rk, rg, ro, rn⟩ := r
  have kQ := ((Blk.new w 71 #[.int .i64 qa, .int .i64 qb, .int .i64 qc, .int .i64 qd, .int .i64 qe, .int .i64 qf, .int .i64 qh]).alloc (.cells #[.int .u64 (rk : Int), .int .i64 rg, .int .i64 ro, .int .i64 rn] 44)).alloc (.cells #[.int .i64 0, .int .i64 0, .int .i64 0, .int .i64 0] 74)
  have kH := Blk.new ((w.alloc (.cells #[.int .i64 qa, .int .i64 qb, .int .i64 qc, .int .i64 qd, .int .i64 qe, .int .i64 qf, .int .i64 qh] 71)).alloc (.cells #[.int .u64 (rk : Int), .int .i64 rg, .int .i64 ro, .int .i64 rn] 44)) 74 #[.int .i64 0, .int .i64 0, .int .i64 0, .int .i64 0]
  simp only [World.size_alloc] at kH
  generalize hWR : ((w.alloc (.cells #[.int .i64 qa, .int .i64 qb, .int .i64 qc, .int .i64 qd, .int .i64 qe, .int .i64 qf, .int .i64 qh] 71)).alloc (.cells #[.int .u64 (rk : Int), .int .i64 rg, .int .i64 ro, .int .i64 rn] 44)).alloc (.cells #[.int .i64 0, .int .i64 0, .int .i64 0, .int .i64 0] 74) = WR at *
  have a0 := kQ.cell 0
  have a1 := kQ.cell 1
  have a2 := kQ.cell 2
  have a3 := kQ.cell 3
  have a4 := kQ.cell 4
  have a5 := kQ.cell 5
  have a6 := kQ.cell 6
  simp only [List.getElem?_toArray, List.getElem?_cons_zero, List.getElem?_cons_succ] at a0 a1 a2 a3 a4 a5 a6
  have lQ := kQ.lt
  clear hq
  go_enter Try.func41, Try.ntmps41
  go_wp2_with fail
  refine (hright _).mono ?_
  rintro e w1 ⟨rfl, hb1⟩
  have kH1 := kH.below hb1 kH.lt
  have b1 := bR.trans (hb1.mono bR.size)
  clear hright kQ a0 a1 a2 a3 a4 a5 a6
  have z0 := kH1.cell 0
  have z1 := kH1.cell 1
  have z2 := kH1.cell 2
  have z3 := kH1.cell 3
  simp only [List.getElem?_toArray, List.getElem?_cons_zero, List.getElem?_cons_succ] at z0 z1 z2 z3
  have f0 := kH1.frozen 0
  have f1 := kH1.frozen 1
  have f2 := kH1.frozen 2
  have f3 := kH1.frozen 3
  have lH1 := kH1.lt
  go_wp2_with fail
  have kz := (((kH1.put 0 (.int .i64 0)).put 1 (.int .i64 0)).put 2 (.int .i64 0)).put 3 (.int .i64 0)
  have bz := four4_below b1 (g := w.heap.size + 1 + 1) (by omega) (.int .i64 0) (.int .i64 0) (.int .i64 0) (.int .i64 0)
  unfold four4 at bz
  simp only [List.setIfInBounds_toArray, List.set_cons_zero, List.set_cons_succ] at kz
  generalize (((w1.setCell ⟨w.heap.size + 1 + 1, 0, none⟩ (.int .i64 0)).setCell ⟨w.heap.size + 1 + 1, 1, none⟩ (.int .i64 0)).setCell ⟨w.heap.size + 1 + 1, 2, none⟩ (.int .i64 0)).setCell ⟨w.heap.size + 1 + 1, 3, none⟩ (.int .i64 0) = wX at *
  have y0 := kz.cell 0
  have y1 := kz.cell 1
  have y2 := kz.cell 2
  have y3 := kz.cell 3
  simp only [List.getElem?_toArray, List.getElem?_cons_zero, List.getElem?_cons_succ] at y0 y1 y2 y3
  exact bodyPost_ret (v := .tuple #[.agg #[.int .i64 0, .int .i64 0, .int .i64 0, .int .i64 0], .int .i64 40]) (by simp [results, Try.results41, go_sem, y0, y1, y2, y3]) rfl ⟨rfl, bz⟩

/-- where the loop over the secrets stands -/
def VI (w : World) (l : List E) (f : E → Prop) (m : Int) (i v : Value) (wr : World) : Prop :=
  ∃ (j : Nat) (le : List E), j ≤ l.length ∧ i = .int .i64 (j : Int) ∧ Below w.heap.size w wr ∧ wr.ownsRow 0 58 2 v le.length (cellsE le) ∧ (∀ g, v.ownBlock = some g → w.heap.size ≤ g) ∧ le.length ≤ j ∧ ((le.length : Int) ≤ m ∨ le.length = 0) ∧ ∀ x ∈ le, x ∈ l ∧ f x

set_option maxRecDepth 100000 in
set_option maxHeartbeats 8000000 in
theorem law_listSound (qa qb qc qd qe qf qh : Int) (l : List E) (A : Option Addr) (c : Nat) (w : World) (hE : Es w w.heap.size l A c) :
    Calls Try.prog 8 #[.agg #[.int .i64 qa, .int .i64 qb, .int .i64 qc, .int .i64 qd, .int .i64 qe, .int .i64 qf, .int .i64 qh], .slice A l.length c] w fun e w' => e = .returned (.bool true) ∧ Below w.heap.size w w' := by
  have bQ : Below w.heap.size w (w.alloc (.cells #[.int .i64 qa, .int .i64 qb, .int .i64 qc, .int .i64 qd, .int .i64 qe, .int .i64 qf, .int .i64 qh] 71)) := (Below.refl _ _).alloc (Nat.le_refl _) _
  have kQ := Blk.new w 71 #[.int .i64 qa, .int .i64 qb, .int .i64 qc, .int .i64 qd, .int .i64 qe, .int .i64 qf, .int .i64 qh]
  have HE := vers.lay (hE.at_world bQ)
  have hll : l.length ≤ 140737488355328 := by have := hE.2.1; omega
  clear hE
  generalize hWQ : w.alloc (.cells #[.int .i64 qa, .int .i64 qb, .int .i64 qc, .int .i64 qd, .int .i64 qe, .int .i64 qf, .int .i64 qh] 71) = WQ at *
  have a0 := kQ.cell 0
  have a1 := kQ.cell 1
  have a2 := kQ.cell 2
  have a3 := kQ.cell 3
  have a4 := kQ.cell 4
  have a5 := kQ.cell 5
  have a6 := kQ.cell 6
  simp only [List.getElem?_toArray, List.getElem?_cons_zero, List.getElem?_cons_succ] at a0 a1 a2 a3 a4 a5 a6
  have lQ := kQ.lt
  go_enter Try.func8, Try.ntmps8
  go_wp2_with fail
  go_loopw [15, 5] (fun i v wr => VI WQ l (fun x => OkS qa qb qc qd qe qf qh (pe x)) qa i v wr) (fun i _ _ => l.length - (intOf i).toNat)
  case atStart => exact ⟨0, [], Nat.zero_le _, rfl, Below.refl _ _, ⟨rfl, .inl ⟨rfl, rfl⟩⟩, (fun g hg => by cases hg), Nat.zero_le _, .inr rfl, fun x hx => by cases hx⟩
  case round =>
    obtain ⟨j, le, hj, rfl, hb, hrow, hown, hlj, hlm, hmem⟩ := hrel
    by_cases hlt : j < l.length
    · obtain ⟨bk, off, rfl, hbk, e0, e1, hvx⟩ := (HE.out.at_world hb).at_ hlt
      have hmx := List.getElem_mem hlt
      generalize l[j] = x at *
      obtain ⟨xs, xl, xA, xc⟩ := x
      simp only [] at e0 e1 hvx
      have bX : Below wr.heap.size wr (wr.alloc (.cells #[.string xs, .slice xA xl.length xc] 58)) := (Below.refl _ _).alloc (Nat.le_refl _) _
      have kX := Blk.new wr 58 #[.string xs, .slice xA xl.length xc]
      have hbs := hb.size
      have hbX := hb.trans (bX.mono hbs)
      have kQX := (kQ.below hb lQ).below bX (kQ.below hb lQ).lt
      have hvX := (hvx.below bX).more bX.size
      have hcall := refSecret_any qa qb qc qd qe qf qh xs xl xA xc _ hvX
      have hrX := row_below hrow bX
      have hsX := (HE.out.2.2.2.2 _ hmx).2
      have HMX := vers.lay hmx
      have HME := vers.lay hmem
      have HOW := vers.lay hown
      have hlX : wr.heap.size < (wr.alloc (.cells #[.string xs, .slice xA xl.length xc] 58)).heap.size := by simp
      clear a0 a1 a2 a3 a4 a5 a6 hmx hmem hown hrow hvx hvX
      generalize hWX : wr.alloc (.cells #[.string xs, .slice xA xl.length xc] 58) = WX at *
      obtain ⟨Av, cv, rfl, _, _, _⟩ := row_rdF hrX
      have b0 := kQX.cell 0
      have b1 := kQX.cell 1
      have b2 := kQX.cell 2
      have b3 := kQX.cell 3
      have b4 := kQX.cell 4
      have b5 := kQX.cell 5
      have b6 := kQX.cell 6
      simp only [List.getElem?_toArray, List.getElem?_cons_zero, List.getElem?_cons_succ] at b0 b1 b2 b3 b4 b5 b6
      have x0 := kX.cell 0
      have x1 := kX.cell 1
      simp only [List.getElem?_toArray, List.getElem?_cons_zero, List.getElem?_cons_succ] at x0 x1
      have lQX := kQX.lt
      have lXX := kX.lt
      have HZ := vers.lay (show OkS qa qb qc qd qe qf qh (xs, xl) ↔ rb (nbad qa qb qc qd qe qf qh xs xl) xl = 0 from Iff.rfl)
      generalize rb (nbad qa qb qc qd qe qf qh xs xl) xl = n at *
      by_cases hz : n = 0
      · subst hz
        have hok : OkS qa qb qc qd qe qf qh (xs, xl) := HZ.out.2 rfl
        have hqk : ok qa qb qc qd qe qf qh := by
          refine Classical.byContradiction fun hk => ?_
          unfold OkS rb at hok
          rw [nbad_no hk] at hok
          split at hok <;> omega
        have h64 : qa ≤ 64 := hqk.1.2
        have HOK := vers.lay hok
        clear hok hqk
        by_cases hl2 : (le.length : Int) < qa
        · have d1 : decide ((le.length : Int) < qa) = true := decide_eq_true hl2
          go_wp2_with fail
          refine hcall.mono ?_
          rintro e w1 ⟨rfl, hb1⟩
          have kQ1 := kQX.below hb1 lQX
          have kX1 := kX.below hb1 lXX
          have hr1 := row_below hrX hb1
          have hb01 := hbX.trans (hb1.mono hbX.size)
          clear hcall b0 b1 b2 b3 b4 b5 b6 x0 x1
          have b0 := kQ1.cell 0
          simp only [List.getElem?_toArray, List.getElem?_cons_zero] at b0
          have x0 := kX1.cell 0
          have x1 := kX1.cell 1
          simp only [List.getElem?_toArray, List.getElem?_cons_zero, List.getElem?_cons_succ] at x0 x1
          have lQ1 := kQ1.lt
          have lX1 := kX1.lt
          go_wp2_with (at_builtin; refine wp_secret (e := ⟨xs, xl, xA, xc⟩) rfl _ _ rfl hr1 rfl rfl rfl (by omega) ?_; intro v9 w9 ho9 hk9 hv9 hz9)
          refine ⟨⟨j + 1, le ++ [⟨xs, xl, xA, xc⟩], hlt, by go_num, hb01.trans (hk9.below (fun g hg => HOW.out g hg) hb01.size), ho9, fun g hg => (hv9 g hg).elim (fun h => HOW.out g h) (fun h => Nat.le_trans hb01.size h.1), by rw [List.length_append, List.length_singleton]; omega, .inl (by rw [List.length_append, List.length_singleton]; omega), fun y hy => (List.mem_append.1 hy).elim (fun h => HME.out y h) (fun h => by rw [List.mem_singleton.1 h]; exact ⟨HMX.out, HOK.out⟩)⟩, by first | (simp [intOf]; done) | (simp [intOf]; omega) | omega⟩
        · have d1 : decide ((le.length : Int) < qa) = false := decide_eq_false hl2
          go_wp2_with fail
          refine hcall.mono ?_
          rintro e w1 ⟨rfl, hb1⟩
          have kQ1 := kQX.below hb1 lQX
          have hb01 := hbX.trans (hb1.mono hbX.size)
          clear hcall b0 b1 b2 b3 b4 b5 b6 x0 x1
          have b0 := kQ1.cell 0
          simp only [List.getElem?_toArray, List.getElem?_cons_zero] at b0
          have lQ1 := kQ1.lt
          go_wp2_with fail
          refine ⟨⟨j + 1, le, hlt, by go_num, hb01, row_below hrX hb1, HOW.out, by omega, hlm, HME.out⟩, by first | (simp [intOf]; done) | (simp [intOf]; omega) | omega⟩
      · have d1 : (n == 0) = false := by simp [hz]
        go_wp2_with fail
        refine hcall.mono ?_
        rintro e w1 ⟨rfl, hb1⟩
        go_wp2_with fail
        refine ⟨⟨j + 1, le, hlt, by go_num, hbX.trans (hb1.mono hbX.size), row_below hrX hb1, HOW.out, by omega, hlm, HME.out⟩, by first | (simp [intOf]; done) | (simp [intOf]; omega) | omega⟩
    · obtain rfl : j = l.length := by omega
      have hl64 : le.length ≤ 64 := by
        rcases Nat.eq_zero_or_pos le.length with h0 | h0
        · omega
        · have hok : OkS qa qb qc qd qe qf qh (pe le[0]) := (hmem _ (List.getElem_mem h0)).2
          have hqk : ok qa qb qc qd qe qf qh := by
            refine Classical.byContradiction fun hk => ?_
            unfold OkS rb at hok
            rw [nbad_no hk] at hok
            split at hok <;> omega
          have := hqk.1.2
          omega
      obtain ⟨Ao, co, rfl, ho1, ho2, ho3⟩ := row_rdF hrow
      have hbs := hb.size
      have hEo : Es wr wr.heap.size le Ao co := ⟨ho1, by omega, ho2, ho3.rd, fun x hx => (HE.out.at_world hb).2.2.2.2 x (hmem x hx).1⟩
      have hg := grown_ok le Ao co wr hEo
      have hln := growE_len le (min le.length 50)
      have hinl : ∀ x ∈ growE le (min le.length 50), OkS qa qb qc qd qe qf qh (pe x) := fun x hx => (hmem x (growE_mem _ hx)).2
      have HLM := vers.lay hlm
      have HEO := vers.lay hEo
      generalize growE le (min le.length 50) = la at *
      have hlal : la.length ≤ le.length := by omega
      have HIN := vers.lay hinl
      clear hinl hmem hrow hown hlm hln ho1 ho2 ho3 hEo hlj
      have kQr := kQ.below hb lQ
      clear a0 a1 a2 a3 a4 a5 a6
      go_wp2_with fail
      refine hg.mono ?_
      rintro e w1 ⟨h, S, ns, r, ht, v, rfl, hb1, hh, hlo, hroot, hht, hfit, hrow, hown, hlen, hinc, hmem⟩
      clear hg
      have hSh1 : Shown w1 h S ns r ht (la.map pe) := ⟨hh, hroot, hht, hfit, by rw [List.length_map]; exact hlen⟩
      have hns := hh.len
      have hr : ∃ i, r = refOf i := by
        obtain ⟨x, hx, _⟩ := hroot
        unfold pageAt at hx
        split at hx
        · rename_i hc
          exact ⟨_, hc.2⟩
        · cases hx
      have HR := vers.lay hr
      have HNS := vers.lay (show ns.length ≤ 100000 by omega)
      have hII : Inc (nm (la.map pe)) := by unfold nm; rw [pe_map]; exact hinc
      have HII := vers.lay hII
      obtain ⟨Av, cv, rfl, _, _, _⟩ := row_rdF hrow
      clear hh hlo hroot hht hfit hrow hown hmem hr hns hII hinc
      obtain ⟨rk, rg, ro, rn⟩ := r
      have hb01 := hb.trans (hb1.mono hbs)
      have b2 : Below w1.heap.size w1 (w1.alloc (.cells #[.int .u64 (rk : Int), .int .i64 rg, .int .i64 ro, .int .i64 rn] 44)) := (Below.refl _ _).alloc (Nat.le_refl _) _
      have kR := Blk.new w1 44 #[.int .u64 (rk : Int), .int .i64 rg, .int .i64 ro, .int .i64 rn]
      have hSh := hSh1.below b2
      have hb02 := hb01.trans (b2.mono hb01.size)
      have kQ2 := kQ.below hb02 lQ
      have lR : w1.heap.size < (w1.alloc (.cells #[.int .u64 (rk : Int), .int .i64 rg, .int .i64 ro, .int .i64 rn] 44)).heap.size := by simp
      generalize hW2 : w1.alloc (.cells #[.int .u64 (rk : Int), .int .i64 rg, .int .i64 ro, .int .i64 rn] 44) = w2 at *
      have z0 := kR.cell 0
      have z1 := kR.cell 1
      have z2 := kR.cell 2
      have z3 := kR.cell 3
      simp only [List.getElem?_toArray, List.getElem?_cons_zero, List.getElem?_cons_succ] at z0 z1 z2 z3
      have a0 := kQ2.cell 0
      have a1 := kQ2.cell 1
      have a2 := kQ2.cell 2
      have a3 := kQ2.cell 3
      have a4 := kQ2.cell 4
      have a5 := kQ2.cell 5
      have a6 := kQ2.cell 6
      simp only [List.getElem?_toArray, List.getElem?_cons_zero, List.getElem?_cons_succ] at a0 a1 a2 a3 a4 a5 a6
      have lQ2 := kQ2.lt
      clear hSh1 b2 kQr
      by_cases hq : ok qa qb qc qd qe qf qh
      · have hcall := shape_ok qa qb qc qd qe qf qh hq h S ns ⟨rk, rg, ro, rn⟩ ht (la.map pe) w2 hSh HII.out (fun y hy => by obtain ⟨x, hx, rfl⟩ := List.mem_map.1 hy; exact HIN.out x hx) (by rw [List.length_map]; have h1 := HLM.out; have := hq.1.1; omega) HNS.out HR.out
        have hlv := levels_ok qa qb qc qd qe qf qh hq
        have hlp := live_ok qa qb qc qd qe qf qh hq
        have hright := fun w => right_ok qa qb qc qd qe qf qh w hq
        rw [List.length_map] at hcall
        clear hSh hq
        go_wp2_with fail
        refine hcall.mono ?_
        rintro e w3 ⟨⟨P, D, hPD, rfl⟩, hb3⟩
        clear hcall a0 a1 a2 a3 a4 a5 a6 z0 z1 z2 z3
        have b4 : Below w3.heap.size w3 (w3.alloc (.cells #[.int .i64 (D : Int), .int .i64 (P : Int), .int .i64 (la.length : Int), .int .i64 (P : Int)] 74)) := (Below.refl _ _).alloc (Nat.le_refl _) _
        have k4 := Blk.new w3 74 #[.int .i64 (D : Int), .int .i64 (P : Int), .int .i64 (la.length : Int), .int .i64 (P : Int)]
        have h34 := hb3.trans (b4.mono hb3.size)
        have kQ4 := kQ2.below h34 lQ2
        have hb04 := hb02.trans (h34.mono hb02.size)
        have l34 : w3.heap.size < (w3.alloc (.cells #[.int .i64 (D : Int), .int .i64 (P : Int), .int .i64 (la.length : Int), .int .i64 (P : Int)] 74)).heap.size := by simp
        generalize hW4 : w3.alloc (.cells #[.int .i64 (D : Int), .int .i64 (P : Int), .int .i64 (la.length : Int), .int .i64 (P : Int)] 74) = w4 at *
        have a0 := kQ4.cell 0
        have a1 := kQ4.cell 1
        have a2 := kQ4.cell 2
        have a3 := kQ4.cell 3
        have a4 := kQ4.cell 4
        have a5 := kQ4.cell 5
        have a6 := kQ4.cell 6
        simp only [List.getElem?_toArray, List.getElem?_cons_zero, List.getElem?_cons_succ] at a0 a1 a2 a3 a4 a5 a6
        have c0 := k4.cell 0
        have c1 := k4.cell 1
        have c2 := k4.cell 2
        have c3 := k4.cell 3
        simp only [List.getElem?_toArray, List.getElem?_cons_zero, List.getElem?_cons_succ] at c0 c1 c2 c3
        have lQ4 := kQ4.lt
        have l4 := k4.lt
        go_wp2_with fail
        refine (hright _).mono ?_
        rintro e w5 ⟨rfl, hb5⟩
        have hb05 := hb04.trans (hb5.mono hb04.size)
        have k5 := k4.below hb5 l4
        have kQ5 := kQ4.below hb5 lQ4
        have l5 := k5.lt
        have lQ5 := kQ5.lt
        clear a0 a1 a2 a3 a4 a5 a6 c0 c1 c2 c3 hright
        obtain ⟨N, hN, hM⟩ := norms (fun wx => Below w5.heap.size w5 wx) w5 (Below.refl _ _)
        have hne : Nonempty World := ⟨w5⟩
        have n0 := fun n => (k5.below (hN n) l5).cell 0
        have n1 := fun n => (k5.below (hN n) l5).cell 1
        have n2 := fun n => (k5.below (hN n) l5).cell 2
        have n3 := fun n => (k5.below (hN n) l5).cell 3
        have m0 := fun n => (kQ5.below (hN n) lQ5).cell 0
        have m1 := fun n => (kQ5.below (hN n) lQ5).cell 1
        have m2 := fun n => (kQ5.below (hN n) lQ5).cell 2
        have m3 := fun n => (kQ5.below (hN n) lQ5).cell 3
        have m4 := fun n => (kQ5.below (hN n) lQ5).cell 4
        have m5 := fun n => (kQ5.below (hN n) lQ5).cell 5
        have m6 := fun n => (kQ5.below (hN n) lQ5).cell 6
        simp only [List.getElem?_toArray, List.getElem?_cons_zero, List.getElem?_cons_succ] at n0 n1 n2 n3 m0 m1 m2 m3 m4 m5 m6
        have d1 : decide ((1 : Int) ≤ (P : Int)) = true := decide_eq_true (by omega)
        have d2 : decide ((P : Int) ≤ lp qa) = true := decide_eq_true hPD.2.1
        have d3 : decide ((1 : Int) ≤ (D : Int)) = true := decide_eq_true (by omega)
        have d4 : decide ((D : Int) ≤ lv qa) = true := decide_eq_true hPD.2.2.2
        have d5 : ((P : Int) == (P : Int)) = true := by simp
        have d6 : ((la.length : Int) == (la.length : Int)) = true := by simp
        clear hPD
        go_wp2_with fail
        refine region_class N (by kernel_rfl) (by kernel_rfl) (hM _ (Below.refl _ w5).drew) ?_
        repeat (go_big_quiet_step (first | (go_at_call 43; exact call_b hN hM (hlv _)) | (go_at_call 44; exact call_b hN hM (hlp _))))
        refine wpQuiet_nil ?_
        rintro _ ⟨n, rfl⟩
        have I9 := hN n
        generalize N n = w9 at I9 ⊢
        clear n0 n1 n2 n3 m0 m1 m2 m3 m4 m5 m6 hM hN N n hne
        go_wp2_with fail
        go_ret
        exact ⟨rfl, bQ.trans ((hb05.trans (I9.mono hb05.size)).mono bQ.size)⟩
      · have hcall := shape_no qa qb qc qd qe qf qh hq h ⟨rk, rg, ro, rn⟩ w2
        have hright := fun w => right_no qa qb qc qd qe qf qh w hq
        clear hSh hq
        go_wp2_with fail
        refine hcall.mono ?_
        rintro e w3 ⟨rfl, hb3⟩
        clear hcall a0 a1 a2 a3 a4 a5 a6 z0 z1 z2 z3
        have b4 : Below w3.heap.size w3 (w3.alloc (.cells #[.int .i64 0, .int .i64 0, .int .i64 0, .int .i64 0] 74)) := (Below.refl _ _).alloc (Nat.le_refl _) _
        have k4 := Blk.new w3 74 #[.int .i64 0, .int .i64 0, .int .i64 0, .int .i64 0]
        have h34 := hb3.trans (b4.mono hb3.size)
        have kQ4 := kQ2.below h34 lQ2
        have hb04 := hb02.trans (h34.mono hb02.size)
        have l34 : w3.heap.size < (w3.alloc (.cells #[.int .i64 0, .int .i64 0, .int .i64 0, .int .i64 0] 74)).heap.size := by simp
        have a0 := kQ4.cell 0
        have a1 := kQ4.cell 1
        have a2 := kQ4.cell 2
        have a3 := kQ4.cell 3
        have a4 := kQ4.cell 4
        have a5 := kQ4.cell 5
        have a6 := kQ4.cell 6
        simp only [List.getElem?_toArray, List.getElem?_cons_zero, List.getElem?_cons_succ] at a0 a1 a2 a3 a4 a5 a6
        have c0 := k4.cell 0
        have c1 := k4.cell 1
        have c2 := k4.cell 2
        have c3 := k4.cell 3
        simp only [List.getElem?_toArray, List.getElem?_cons_zero, List.getElem?_cons_succ] at c0 c1 c2 c3
        have lQ4 := kQ4.lt
        have l4 := k4.lt
        go_wp2_with fail
        refine (hright _).mono ?_
        rintro e w5 ⟨rfl, hb5⟩
        have hb05 := hb04.trans (hb5.mono hb04.size)
        have k5 := k4.below hb5 l4
        have kQ5 := kQ4.below hb5 lQ4
        have l5 := k5.lt
        have lQ5 := kQ5.lt
        clear a0 a1 a2 a3 a4 a5 a6 c0 c1 c2 c3 hright
        have c0 := k5.cell 0
        have c1 := k5.cell 1
        have c2 := k5.cell 2
        have c3 := k5.cell 3
        simp only [List.getElem?_toArray, List.getElem?_cons_zero, List.getElem?_cons_succ] at c0 c1 c2 c3
        go_wp2_with fail
        go_ret
        exact ⟨rfl, bQ.trans (hb05.mono bQ.size)⟩

end Go.Proofs.Ytchghlbiongccaa.trees
