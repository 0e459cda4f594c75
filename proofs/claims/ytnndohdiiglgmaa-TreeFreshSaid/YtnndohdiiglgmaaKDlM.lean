/- climber.neighbours: the walk. -/
import Derived.Test.YtnndohdiiglgmaaKDlK


namespace Go.Proofs.Ytnndohdiiglgmaa.trees
set_option linter.unusedVariables false
set_option linter.unusedSimpArgs false
open Go.RowKit Go.Shelf Go.Proofs.Ytnndohdiiglgmaa.base Go.Proofs.Ytnndohdiiglgmaa.vers Go.Proofs.Ytnndohdiiglgmaa.nodes Go.Proofs.Ytnndohdiiglgmaa.quotas
attribute [local go_sem] Oper.semAt_some

set_option maxRecDepth 100000 in
set_option maxHeartbeats 8000000 in
theorem neigh_any (h : Nat) (S : Nat → Prop) (ns : List P3) (y0 : N) (A : Option Addr) (c : Nat) (way : List (N × Nat)) (F : Nat → Prop) (w : World) (hh : Hp w h S ns) (hS : Steps w F (Value.slice A way.length c) way) (hF : ∀ g, F g → g < w.heap.size ∧ ¬ S g) (hy : NsF w (fun g => g < w.heap.size ∧ (Value.slice A way.length c).ownBlock ≠ some g) y0)
    (hw : WayOk ns (way.map pst)) (hy0 : small y0.p) (hwl : way.length ≤ 100) :
    Calls Try.prog 50 #[clim h, (Value.slice A way.length c), y0.val] w (NePost w (Value.slice A way.length c) way (neighX ns (way.map pst) (List.replicate way.length ([], []), y0.p) (desc way.length way.length))) := by
  have hSR : ∀ g, S g → g < w.heap.size ∧ (Value.slice A way.length c).ownBlock ≠ some g := fun g hg => ⟨hh.lt g hg, fun e => (hF g (hS.2.1 g e)).2 hg⟩
  have hRl : ∀ g, (Value.slice A way.length c).ownBlock = some g → g < w.heap.size := fun g hg => (hF g (hS.2.1 g hg)).1
  refine (callsIn_wide (n := 4)).1 ?_
  refine callsIn_of_wp_marks Try.func50 rfl trivial ?_ rfl
  simp only [Try.ntmps50, List.size_toArray, List.length_cons, List.length_nil, Nat.reduceAdd, Nat.reduceSub, Array.replicate_succ, Array.replicate_zero, List.push_toArray, List.append_toArray, List.nil_append, List.cons_append]
  gi_wp2_with (refine ⟨trivial, ?_⟩; gi_at_call 85; refine (backS_in Fence.wide 3 trivial rfl _ _ _ _).mono ?_; rintro e w' ⟨rfl, rfl⟩)
  obtain ⟨W1, hW1⟩ : ∃ W1, ((((w.alloc (.cells #[.iface 23 (.pointer (some ⟨h, 0, none⟩))] 111)).alloc (.cells #[.slice A way.length c] 113)).alloc (.cells #[.bool y0.lf, .slice y0.A y0.es.length y0.c, .slice y0.Q y0.ks.length y0.m] 60)).alloc (.cells #[.int .i64 0] 28)).alloc (.cells #[.slice A way.length c] 113) = W1 := ⟨_, rfl⟩
  rw [hW1]
  obtain ⟨hB0, hsz, k0, k1, k2, k3, k4⟩ := boxes5 _ _ _ _ _ _ _ _ _ _ _ _ hW1
  clear hW1
  have hm112 : way.length * 112 ≤ 140737488355328 := by omega
  have hGl : ∀ g, (Value.slice A way.length c).ownBlock = some g → g < W1.heap.size := fun g hg => by have := hRl g hg; omega
  have hI0 : NIx w h (Value.slice A way.length c) way y0 (way.map fun x => ⟨x.1, x.2, [], none, 0, [], none, 0⟩) W1 := by
    refine ⟨by rw [List.map_map]; exact (List.map_congr_left fun x _ => rfl).trans (List.map_id _), k0, k1, k2, k3, ?_, fun g hg => ⟨?_, hRl g hg⟩, ?_, fun x hx => ?_, Keep.of_below hB0, by omega⟩
    · have e : cellsS ((way.map fun x => (⟨x.1, x.2, [], none, 0, [], none, 0⟩ : SJ)).map SJ.st) = cellsSt way := by
        rw [← cellsS_of, List.map_map]
        rfl
      rw [e]
      exact row_below hS.1 hB0
    · rcases (row_below hS.1 hB0).2 with ⟨e, _⟩ | ⟨g', cap, cur, e, _, hb, _⟩
      · rw [e] at hg; cases hg
      · rw [e] at hg; cases hg; exact ⟨_, _, _, hb⟩
    · refine ((hy.agree (Agree.of_below hB0 fun g hg => hg.1)).cells).mono fun g hg => ⟨⟨by have := hg.1.1; omega, hg.1.2, .inl hg.1.1⟩, hg.2⟩
    · obtain ⟨z, _, rfl⟩ := List.mem_map.1 hx
      exact ⟨⟨by simp, by simp, fun _ => rfl, RdF.nil _ _ _, fun _ h => by cases h⟩, ⟨by simp, by simp, fun _ => rfl, RdF.nil _ _ _, fun _ h => by cases h⟩⟩
  have hrow0 : RowB (w.heap.size + 1 + 1 + 1 + 1) (fun g => (Value.slice A way.length c).ownBlock = some g) A way.length c W1 := hI0.rowB _ (by have := k4.cell 0; simpa using this) hm112
  have hIN : NI w h (Value.slice A way.length c) way (List.replicate way.length ([], []), y0.p) W1 := ⟨y0, _, rfl, (by rw [List.map_map]; exact List.map_eq_replicate_iff.2 fun x _ => rfl), hI0⟩
  clear hI0
  refine wpIn_rangeFunc_ownH (F := Fence.wide) (n := 4) rfl (by omega) (gf := 107) (lb := #[.pointer (some ⟨w.heap.size + 1 + 1 + 1 + 1, 0, none⟩)]) rfl trivial (enters_of Try.func107 (by kernel_rfl) rfl)
    (back2S_stops Fence.wide 3 trivial rfl (by omega) (w.heap.size + 1 + 1 + 1 + 1) (fun g => (Value.slice A way.length c).ownBlock = some g) way.length hm112 A c W1 (by omega) hGl hrow0) (fun h1 h2 h3 => h2 (h1 h3)) (rowB_b (by omega) hGl) (Below.refl _ _) (fun _ => rfl)
    (fun pre W => (∃ st, neighX ns (way.map pst) (List.replicate way.length ([], []), y0.p) (pre.map (·.1.val)) = .ok st ∧ NI w h (Value.slice A way.length c) way st W) ∧ Blk W (w.heap.size + 1 + 1 + 1 + 1) 113 #[(Value.slice A way.length c)])
    (fun cc pre W => ∃ k, (cc = .ret ∧ neighX ns (way.map pst) (List.replicate way.length ([], []), y0.p) (pre.map (·.1.val)) = .error k) ∧ NE w (Value.slice A way.length c) k W)
    (OwnFrom.and (NI.own (fun (pre : List (Fin way.length × St)) st => neighX ns (way.map pst) (List.replicate way.length ([], []), y0.p) (pre.map (·.1.val)) = .ok st) _ (by omega)) (Own.from (fun s' X Y row hs hg hr => blk_own _ _ (fun _ : Unit => _) () X Y row hs hg hr) _))
    (fun cc => NE.own (fun (pre : List (Fin way.length × St)) k => cc = .ret ∧ neighX ns (way.map pst) (List.replicate way.length ([], []), y0.p) (pre.map (·.1.val)) = .error k) _ (by omega))
    ⟨⟨_, rfl, hIN⟩, k4⟩
    (fun x a' W => a' = { tmps := #[clim h, (Value.slice A way.length c), y0.val, .pointer (some ⟨w.heap.size, 0, none⟩), .pointer (some ⟨w.heap.size + 1, 0, none⟩), .pointer (some ⟨w.heap.size + 1 + 1, 0, none⟩), .pointer (some ⟨w.heap.size + 1 + 1 + 1, 0, none⟩), .int .i64 ((x.1.val : Nat) : Int), undef, undef, (Value.slice A way.length c), .func (.func 107) #[] #[.pointer (some ⟨w.heap.size + 1 + 1 + 1 + 1, 0, none⟩)], .int .i64 ((x.1.val : Nat) : Int), x.2.v, undef, undef, undef, undef, undef, undef, undef, undef, undef, undef, undef, undef, undef, undef, undef, undef, undef, undef, undef, undef, undef, undef, undef, undef, undef, undef, undef, undef, undef, undef, undef, undef, undef, undef, undef, undef], defers := [] })
    (fun x a' _ X Y row hs hg hr => hs)
    ?assign ?body ?done ?stop
  case assign =>
    rintro l pre x W K ⟨hI, k5'⟩ hK
    gi_wp2
    exact hK _ _ (KeepsFrom.refl _ _) (fun h => h) ⟨hI, k5'⟩ rfl
  case body =>
    rintro l pre x a' W hl ⟨r, hr⟩ ⟨⟨st, hst, y, xs, hyp, hab, hI⟩, k5'⟩ rfl hlt
    obtain ⟨⟨i, hi⟩, sv⟩ := x
    have hW0 : StOk (way.map pst) (List.replicate way.length ([], []), y0.p) := ⟨by simp, fun j hj => by
      have : (List.replicate way.length (([], []) : AB))[j]?.getD ([], []) = ([], []) := by rw [List.getElem?_replicate]; split <;> rfl
      rw [this]; exact AbOk.none _, fun ab hab n hn => (by
        have e : ab = ([], []) := List.eq_of_mem_replicate hab
        rw [e] at hn
        simp at hn), hy0⟩
    have hOk := neighX_ok hw hW0 _ (fun j hj => by obtain ⟨q, _, rfl⟩ := List.mem_map.1 hj; rw [List.length_map]; exact q.1.2) st hst
    clear hW0
    have hxl : xs.length = way.length := by have := congrArg List.length hI.1; rwa [List.length_map] at this
    have hix : i < xs.length := by omega
    have hlti : 0 < way.length := by omega
    have hS1 := hS.1
    obtain ⟨g, cap, eA, _, _, _⟩ := own_slice_form hS1 hlti
    injection eA with eA _ e2
    subst eA; subst e2
    have hgl : g < w.heap.size := hRl g rfl
    have hrow := hI.2.2.2.2.2.1
    have q0 := (hrow.cellAt (i * 6 + 0) (by omega)).trans (cellsS_at (xs.map SJ.st) (j := i) (by simpa using hix) 0 (by omega))
    have q1 := (hrow.cellAt (i * 6 + 1) (by omega)).trans (cellsS_at (xs.map SJ.st) (j := i) (by simpa using hix) 1 (by omega))
    have q2 := (hrow.cellAt (i * 6 + 2) (by omega)).trans (cellsS_at (xs.map SJ.st) (j := i) (by simpa using hix) 2 (by omega))
    have q3 := (hrow.cellAt (i * 6 + 3) (by omega)).trans (cellsS_at (xs.map SJ.st) (j := i) (by simpa using hix) 3 (by omega))
    have q4 := (hrow.cellAt (i * 6 + 4) (by omega)).trans (cellsS_at (xs.map SJ.st) (j := i) (by simpa using hix) 4 (by omega))
    have q5 := (hrow.cellAt (i * 6 + 5) (by omega)).trans (cellsS_at (xs.map SJ.st) (j := i) (by simpa using hix) 5 (by omega))
    simp only [List.getElem_map] at q0 q1 q2 q3 q4 q5
    have hXw : xs[i].w = way[i] := by have := hI.1; subst this; simp
    have hXab : st.1[i]?.getD ([], []) = xs[i].ab := by rw [← hab, List.getElem?_map, List.getElem?_eq_getElem hix]; rfl
    have hXa : xs[i].ab ∈ st.1 := by rw [← hab]; exact List.mem_map.2 ⟨_, List.getElem_mem hix, rfl⟩
    have hXp : (way.map pst)[i]?.getD zS = (xs[i].n.p, xs[i].at_) := by rw [List.getElem?_map, List.getElem?_eq_getElem hi, ← hXw]; rfl
    have hXF := hI.2.2.2.2.2.2.2.2.1 _ (List.getElem_mem hix)
    have hXO := hS.2.2 _ (List.getElem_mem hi)
    have hWk := hw (pst way[i]) (List.mem_map.2 ⟨_, List.getElem_mem hi, rfl⟩)
    rw [← hXw] at hXO hWk
    have hset : ∀ x : SJ, (xs.set i x).map SJ.ab = st.1.set i x.ab := fun x => by rw [List.map_set, hab]
    have hslf : xs.set i xs[i] = xs := List.set_getElem_self hix
    generalize hX : xs[i] = X at q0 q1 q2 q3 q4 q5 hXw hXab hXa hXp hXF hXO hWk hslf
    obtain ⟨⟨xlf, xes, xks, xA, xc, xQ, xm⟩, xat, la, Aa, ca, lb, Ab, cb⟩ := X
    simp only [SJ.st, St.cells, List.getElem?_cons_zero, List.getElem?_cons_succ, Nat.add_zero] at q0 q1 q2 q3 q4 q5
    obtain ⟨wk1, wk2, wk3, wk4⟩ := hWk
    simp only [pst, N.p] at wk1 wk2 wk3
    rw [List.length_map] at wk3
    have hXN := hXO.ns
    obtain ⟨ylf, yes, yks, yA, yc, yQ, ym⟩ := y
    obtain ⟨hst1, hst2, hst3, hsm⟩ := hOk
    have hab0 := hst2 i (by rw [List.length_map]; exact hi)
    have habs := hst3 _ hXa
    rw [hXab, hXp] at hab0
    rw [← hyp] at hsm
    simp only [small, N.p, List.length_map] at hsm
    have b1 := hI.2.2.1.cell 0
    have c0 := hI.2.1.cell 0
    have n0 := hI.2.2.2.1.cell 0
    have n1 := hI.2.2.2.1.cell 1
    have n2 := hI.2.2.2.1.cell 2
    simp only [List.getElem?_toArray, List.getElem?_cons_zero, List.getElem?_cons_succ] at b1 c0 n0 n1 n2
    have kI1 : (0 : Int) ≤ (i : Int) := by omega
    have kI2 : (i : Int) < (way.length : Int) := by omega
    have hmx : Try.prog.follows .mixedOrders = true := by kernel_rfl
    have e2 : IntKind.i64.wrap ((i : Int) + 2) = (i : Int) + 2 := IntWalk.i64_in _ (by omega)
    have zW := hI.2.2.2.2.2.2.2.2.2.2
    have lg : g < W.heap.size := by omega
    have lB0 : w.heap.size < W.heap.size := by omega
    have lB2 : w.heap.size + 1 + 1 < W.heap.size := by omega
    have hparts := parts_n ⟨ylf, yes, yks, yA, yc, yQ, ym⟩ W
    obtain ⟨np, hnp⟩ : ∃ np, np = partsP (N.p ⟨ylf, yes, yks, yA, yc, yQ, ym⟩) := ⟨_, rfl⟩
    rw [← hnp] at hparts
    have HH := vers.lay hh
    have HPa := vers.lay hparts
    have HY := vers.lay hyp
    have HXab := vers.lay hXab
    have HXp := vers.lay hXp
    have Hset := vers.lay hset
    have Hslf := vers.lay hslf
    have HST := vers.lay hst
    have HNP := vers.lay hnp
    have HXw := vers.lay hXw
    have HX := vers.lay hX
    clear hIN hrow0 k0 k1 k2 k3 k4 hy hw hy0 hGl hst1 hst2 hst3 hXa hXO hparts hst hyp hh hrow hS1 hXab hXp hset hslf hnp hab hX hXw
    by_cases hp : np < 2
    · have d1 : decide ((np : Int) < 2) = true := decide_eq_true (by omega)
      by_cases hk1 : 1 < xks.length
      · have d2 : decide ((1 : Int) < (xks.length : Int)) = true := decide_eq_true (by omega)
        have hKsW : KsF W (fun q => q < w.heap.size) xks xQ xm := (hXN.2.agree (w' := W) (hI.2.2.2.2.2.2.2.2.2.1.agree fun q hq => ⟨(hF q hq.1).1, fun e => hq.2 e.symm⟩)).mono fun q hq => (hF q hq.1).1
        have hHpW : Hp W h S ns := HH.out.agree (fun q hq => hI.2.2.2.2.2.2.2.2.2.1.block q (hSR q hq).1 (hSR q hq).2) hI.2.2.2.2.2.2.2.2.2.1.size
        have HBs := vers.lay (show ∀ wx, Below W.heap.size W wx → Calls Try.prog 87 #[clim h, .pointer (some ⟨g, i * 6, none⟩), .int .i64 ((i : Int) + 2), .bool ylf] wx (BePost wx g (i * 6) xat xks ylf (besideP ns xks xat (i + 2) ylf)) from fun wx hb => by
          have hr := row_below hI.2.2.2.2.2.1 hb
          have h := beside_any h S ns g (i * 6) xat (i + 2) xks xQ xm ylf (fun q => q < w.heap.size) _ _ wx (hHpW.below hb) (hKsW.agree (Agree.of_below hb fun q hq => by omega)) (fun q hq => by have := hb.size; omega) (Nat.lt_of_lt_of_le lg hb.size) ((hb.cell (p := ⟨g, i * 6 + 2, none⟩) lg).trans q2) ((hb.cell (p := ⟨g, i * 6 + 3, none⟩) lg).trans q3) ((hb.cell (p := ⟨g, i * 6 + 4, none⟩) lg).trans q4) ((hb.cell (p := ⟨g, i * 6 + 5, none⟩) lg).trans q5) (hr.frozenAt _) (hr.frozenAt _) wk1 hk1 (by omega) (by omega)
          rwa [show ((i + 2 : Nat) : Int) = (i : Int) + 2 by omega] at h)
        clear hKsW hHpW
        have kE := hI.2.2.2.2.1
        have lE := kE.lt
        have eE := kE.cell 0
        have fE := kE.frozen 0
        simp only [List.getElem?_toArray, List.getElem?_cons_zero] at eE
        gi_wp2_with (first | (refine ⟨trivial, ?_⟩; gi_at_call 86; refine (CallsIn.inRound l (callsIn_wide.2 HPa.out)).mono ?_; rintro e w1 ⟨rfl, hb1⟩; have p2 := (hb1.cell (p := ⟨g, i * 6 + 2, none⟩) lg).trans q2; have c01 := (hb1.cell (p := ⟨w.heap.size, 0, none⟩) lB0).trans c0; have n01 := (hb1.cell (p := ⟨w.heap.size + 1 + 1, 0, none⟩) lB2).trans n0) | (refine ⟨trivial, ?_⟩; gi_at_call 87; refine (CallsIn.inRound l (callsIn_wide.2 (HBs.out _ hb1))).mono ?_; rintro e w2 hBe; obtain ⟨k2, rfl, hE2, hEf2, lE2, HBe⟩ := be_sum hBe (q := w.heap.size + 1 + 1 + 1) (by omega) (Nat.lt_of_lt_of_le lE hb1.size) ((hb1.cell (p := ⟨w.heap.size + 1 + 1 + 1, 0, none⟩) lE).trans eE) ((hb1.frozen (p := ⟨w.heap.size + 1 + 1 + 1, 0, none⟩) lE).trans fE); clear hBe))
        · rename_i hk2
          obtain ⟨hbe, hb2⟩ : besideP ns xks xat (i + 2) ylf = .error k2 ∧ Below w1.heap.size w1 w2 := by
            rcases HBe.out with ⟨k, a, b, c, d⟩ | ⟨_, c, _⟩ | ⟨n, _, _, _, c, _⟩ | ⟨n, _, _, _, c, _⟩
            · cases c; exact ⟨a, d⟩
            · cases c; simp at hk2
            · cases c; simp at hk2
            · cases c; simp at hk2
          have hI3 := (hI.below hb1).below hb2
          have kE3 := hI3.2.2.2.2.1
          have hk3 := hI3.2.2.2.2.2.2.2.2.2.1
          have k9 := fun q (hq : q ≠ w.heap.size + 1 + 1 + 1) => Below.heap_setCell w2 ⟨w.heap.size + 1 + 1 + 1, 0, none⟩ (.int .i64 k2) q (by simpa using hq)
          have z9 : (w2.setCell ⟨w.heap.size + 1 + 1 + 1, 0, none⟩ (.int .i64 k2)).heap.size = w2.heap.size := by simp
          have hb12 : Below W.heap.size W w2 := hb1.trans (hb2.mono hb1.size)
          have bl := (Below.refl 0 w2).setCell (p := ⟨w.heap.size + 1 + 1 + 1, 0, none⟩) (Nat.zero_le _) (.int .i64 k2)
          have hK9 : Keep (fun q => q = w.heap.size + 1 + 1 + 1) W (w2.setCell ⟨w.heap.size + 1 + 1 + 1, 0, none⟩ (.int .i64 k2)) := ⟨bl.os.trans hb12.os, bl.tape.trans hb12.tape, bl.output.trans hb12.output, by rw [z9]; exact hb12.size, fun k hk hn => (k9 k hn).trans (hb12.block k hk)⟩
          refine ⟨keepsFrom_keep _ hK9 (fun q hq => by rw [hq]; exact isC_blk kE), k2, ⟨rfl, (by rw [List.map_append]; exact (neighX_snoc i HST.out).trans (nstepX_err HXp.out HY.out ((bes_yes (ns := ns) (s := (N.p (⟨xlf, xes, xks, xA, xc, xQ, xm⟩ : N), xat)) (d := i + 2) (y := N.p (⟨ylf, yes, yks, yA, yc, yQ, ym⟩ : N)) ⟨by rw [← HNP.out]; exact hp, by simpa [N.p] using hk1⟩).trans hbe)))⟩, ?_, ?_⟩
          · have := kE3.put 0 (.int .i64 k2)
            simpa using this
          · exact ⟨bl.os.trans hk3.os, bl.tape.trans hk3.tape, bl.output.trans hk3.output, by rw [z9]; exact hk3.size, fun k hk hn => (k9 k (by omega)).trans (hk3.block k hk hn)⟩
        · rename_i hk2
          have hbsy := bes_yes (ns := ns) (s := (N.p (⟨xlf, xes, xks, xA, xc, xQ, xm⟩ : N), xat)) (d := i + 2) (y := N.p (⟨ylf, yes, yks, yA, yc, yQ, ym⟩ : N)) ⟨by rw [← HNP.out]; exact hp, by simpa [N.p] using hk1⟩
          have HBY := vers.lay hbsy
          clear hbsy
          rcases HBe.out with ⟨k, _, hk0, hc9, _⟩ | ⟨hbe, hc9, hb2⟩ | ⟨n, hbe, hnl, hcc, hc9, w3', yB, gB, hyn, hb3, hw2, hgB, hkB, hyB⟩ | ⟨n, hbe, hnl, hcc, hc9, w3', yB, gB, hyn, hb3, hw2, hgB, hkB, hyB⟩
          · cases hc9
            exact absurd hk2 (by simpa [bne] using hk0)
          · clear HBe hk2
            have hI2 := (hI.below hb1).below hb2
            rw [← Hslf.out] at hI2
            have hXF2 := hI2.2.2.2.2.2.2.2.2.1 _ (List.mem_set (by omega) _)
            have hn0 := nstepX_ok (ns := ns) HXp.out HXab.out HY.out (HBY.out.trans hbe)
            rw [abOf_none] at hn0
            have HN := vers.lay hn0
            clear hn0
            have HA2 := vers.lay (Hset.out (⟨(⟨xlf, xes, xks, xA, xc, xQ, xm⟩ : N), xat, la, Aa, ca, lb, Ab, cb⟩ : SJ))
            have hKW : Keep (fun q => q = g ∨ q = w.heap.size + 1 + 1) W w2 := Keep.of_below (hb1.trans (hb2.mono hb1.size))
            have hab2 := hab0
            have habs2 := habs
            clear hbe
            have hrow2 := hI2.2.2.2.2.2.1
            have z0 := (hrow2.cellAt (i * 6 + 0) (by omega)).trans (cellsS_at ((xs.set i (⟨(⟨xlf, xes, xks, xA, xc, xQ, xm⟩ : N), xat, la, Aa, ca, lb, Ab, cb⟩ : SJ)).map SJ.st) (j := i) (by simpa using hix) 0 (by omega))
            have z1 := (hrow2.cellAt (i * 6 + 1) (by omega)).trans (cellsS_at ((xs.set i (⟨(⟨xlf, xes, xks, xA, xc, xQ, xm⟩ : N), xat, la, Aa, ca, lb, Ab, cb⟩ : SJ)).map SJ.st) (j := i) (by simpa using hix) 1 (by omega))
            have z2 := (hrow2.cellAt (i * 6 + 2) (by omega)).trans (cellsS_at ((xs.set i (⟨(⟨xlf, xes, xks, xA, xc, xQ, xm⟩ : N), xat, la, Aa, ca, lb, Ab, cb⟩ : SJ)).map SJ.st) (j := i) (by simpa using hix) 2 (by omega))
            have z3 := (hrow2.cellAt (i * 6 + 3) (by omega)).trans (cellsS_at ((xs.set i (⟨(⟨xlf, xes, xks, xA, xc, xQ, xm⟩ : N), xat, la, Aa, ca, lb, Ab, cb⟩ : SJ)).map SJ.st) (j := i) (by simpa using hix) 3 (by omega))
            have z4 := (hrow2.cellAt (i * 6 + 4) (by omega)).trans (cellsS_at ((xs.set i (⟨(⟨xlf, xes, xks, xA, xc, xQ, xm⟩ : N), xat, la, Aa, ca, lb, Ab, cb⟩ : SJ)).map SJ.st) (j := i) (by simpa using hix) 4 (by omega))
            have z5 := (hrow2.cellAt (i * 6 + 5) (by omega)).trans (cellsS_at ((xs.set i (⟨(⟨xlf, xes, xks, xA, xc, xQ, xm⟩ : N), xat, la, Aa, ca, lb, Ab, cb⟩ : SJ)).map SJ.st) (j := i) (by simpa using hix) 5 (by omega))
            simp only [List.getElem_map, List.getElem_set_self, SJ.st, St.cells, List.getElem?_cons_zero, List.getElem?_cons_succ, Nat.add_zero] at z0 z1 z2 z3 z4 z5
            have m0 := hI2.2.2.2.1.cell 0
            have m1 := hI2.2.2.2.1.cell 1
            have m2 := hI2.2.2.2.1.cell 2
            simp only [List.getElem?_toArray, List.getElem?_cons_zero, List.getElem?_cons_succ] at m0 m1 m2
            have hroom := hab2.room (s := (N.p (⟨xlf, xes, xks, xA, xc, xQ, xm⟩ : N), xat)) (by simpa [N.p] using wk1)
            simp only [SJ.ab, List.length_map] at hroom
            have hnx2 : la.length + lb.length ≤ 1 := hroom.2.2
            have hjl := joinP_len (la.map N.p) (N.p (⟨ylf, yes, yks, yA, yc, yQ, ym⟩ : N)) (lb.map N.p)
            have hk2 : ∀ x ∈ la ++ [(⟨ylf, yes, yks, yA, yc, yQ, ym⟩ : N)] ++ lb, x.es.length ≤ 1000 ∧ x.ks.length ≤ 1000 := fun x hx => by
              have hab := fun hm => habs2 (N.p x) hm
              simp only [SJ.ab, small, N.p, List.length_map] at hab
              rcases List.mem_append.1 hx with hx | hx
              · rcases List.mem_append.1 hx with hx | hx
                · exact hab (List.mem_append.2 (.inl (List.mem_map.2 ⟨x, hx, rfl⟩)))
                · have e := List.mem_singleton.1 hx
                  subst e
                  exact hsm
              · exact hab (List.mem_append.2 (.inr (List.mem_map.2 ⟨x, hx, rfl⟩)))
            have lgW : g < w2.heap.size := Nat.lt_of_lt_of_le hgl hI2.2.2.2.2.2.2.2.2.2.1.size
            have lnW := hI2.2.2.2.1.lt
            have HJ := vers.lay (show ∀ wx, Below w2.heap.size w2 wx → _ from fun wx hb => join_any (⟨ylf, yes, yks, yA, yc, yQ, ym⟩ : N) la lb Aa Ab ca cb xlf xA xQ xes.length xc xks.length xm xat (fun q => q < w2.heap.size) wx ((hI2.2.2.2.2.2.2.2.1.mono (G := fun q => q < w2.heap.size) fun q hq => hq.1.1).agree (Agree.of_below hb fun q hq => hq)) ((hXF2.1.mono' (G := fun q => q < w2.heap.size) fun q hq => hq.1.1.1).agree (Agree.of_below hb fun q hq => hq)) ((hXF2.2.mono' (G := fun q => q < w2.heap.size) fun q hq => hq.1.1.1).agree (Agree.of_below hb fun q hq => hq)) (fun q hq => Nat.lt_of_lt_of_le hq hb.size) hk2 hnx2)
            have hKs : KsF w2 (fun q => q < w.heap.size) xks xQ xm := (hXN.2.agree (w' := w2) (hI2.2.2.2.2.2.2.2.2.2.1.agree fun q hq => ⟨(hF q hq.1).1, fun e => hq.2 e.symm⟩)).mono fun q hq => (hF q hq.1).1
            have hzW := hI2.2.2.2.2.2.2.2.2.2.1.size
            have HO := vers.lay (show ∀ (wu : World) (n : Nat) (M : Array Value), Below w2.heap.size w2 wu → M.toList = cellsK (List.replicate n zK) → M.size = n * 5 → n ≤ 2 → _ from fun wu n M hb hM hMs hn => over_zero ⟨(⟨xlf, xes, xks, xA, xc, xQ, xm⟩ : N), xat, Aa, la.length, ca, Ab, lb.length, cb⟩ n (some ⟨wu.heap.size, 0, none⟩) n (fun q => q < wu.heap.size + 1) (wu.alloc (.cells M 66)) ((hKs.agree (Agree.of_below ((hb.mono (Nat.le_refl _)).trans ((Below.refl wu.heap.size wu).alloc (Nat.le_refl _) _ |>.mono hb.size)) fun q hq => by omega)).mono fun q hq => by have := hb.size; omega) (mkKids_own hM hMs hn wu) (fun q hq => by simpa using hq) hroom.1 hroom.2.1 (by simp only; omega))
            clear q0 q1 q2 q3 q4 q5 n0 n1 n2 hKs
            gi_wp2
            have hbd : Below w2.heap.size w2 w2.drew := (Below.refl _ _).drew
            refine mix.region_in l _ (fun w' => Below w2.heap.size w2 w') (fun j => j == 11) hmx (by kernel_rfl) (by rintro ⟨a, w, h⟩; exact h) ?_
            generalize w2.drew = Wd at hbd ⊢
            refine mix.D_take (i := 0) (v := ?_) rfl (by kernel_rfl) (by kernel_rfl) (fun _ _ _ h => h) (Or.inl ⟨by rfl, ?_⟩) hbd ?_
            rotate_left
            · intro w' hSw
              have y0 := (hSw.cell (p := ⟨w.heap.size + 1 + 1, 0, none⟩) lnW).trans m0
              have y1 := (hSw.cell (p := ⟨w.heap.size + 1 + 1, 1, none⟩) lnW).trans m1
              have y2 := (hSw.cell (p := ⟨w.heap.size + 1 + 1, 2, none⟩) lnW).trans m2
              have y3 := (hSw.cell (p := ⟨g, i * 6, none⟩) lgW).trans z0
              have y4 := (hSw.cell (p := ⟨g, i * 6 + 1, none⟩) lgW).trans z1
              have y5 := (hSw.cell (p := ⟨g, i * 6 + 2, none⟩) lgW).trans z2
              have y6 := (hSw.cell (p := ⟨g, i * 6 + 3, none⟩) lgW).trans z3
              have y7 := (hSw.cell (p := ⟨g, i * 6 + 4, none⟩) lgW).trans z4
              have y8 := (hSw.cell (p := ⟨g, i * 6 + 5, none⟩) lgW).trans z5
              try simp only [List.getElem_toArray, List.getElem_cons_zero, List.getElem_cons_succ]
              go_simp
              exact rfl
            try simp only [Act.put, List.setIfInBounds_toArray, List.set_cons_zero, List.set_cons_succ, List.getElem_toArray, List.getElem_cons_zero, List.getElem_cons_succ]
            refine mix.D_take (i := 1) (v := ?_) rfl (by kernel_rfl) (by kernel_rfl) (fun _ _ _ h => h) (Or.inl ⟨by rfl, ?_⟩) hbd ?_
            rotate_left
            · intro w' hSw
              have y0 := (hSw.cell (p := ⟨w.heap.size + 1 + 1, 0, none⟩) lnW).trans m0
              have y1 := (hSw.cell (p := ⟨w.heap.size + 1 + 1, 1, none⟩) lnW).trans m1
              have y2 := (hSw.cell (p := ⟨w.heap.size + 1 + 1, 2, none⟩) lnW).trans m2
              have y3 := (hSw.cell (p := ⟨g, i * 6, none⟩) lgW).trans z0
              have y4 := (hSw.cell (p := ⟨g, i * 6 + 1, none⟩) lgW).trans z1
              have y5 := (hSw.cell (p := ⟨g, i * 6 + 2, none⟩) lgW).trans z2
              have y6 := (hSw.cell (p := ⟨g, i * 6 + 3, none⟩) lgW).trans z3
              have y7 := (hSw.cell (p := ⟨g, i * 6 + 4, none⟩) lgW).trans z4
              have y8 := (hSw.cell (p := ⟨g, i * 6 + 5, none⟩) lgW).trans z5
              try simp only [List.getElem_toArray, List.getElem_cons_zero, List.getElem_cons_succ]
              go_simp
              exact rfl
            try simp only [Act.put, List.setIfInBounds_toArray, List.set_cons_zero, List.set_cons_succ, List.getElem_toArray, List.getElem_cons_zero, List.getElem_cons_succ]
            refine mix.D_take (i := 2) (v := ?_) rfl (by kernel_rfl) (by kernel_rfl) (fun _ _ _ h => h) (Or.inl ⟨by rfl, ?_⟩) hbd ?_
            rotate_left
            · intro w' hSw
              have y0 := (hSw.cell (p := ⟨w.heap.size + 1 + 1, 0, none⟩) lnW).trans m0
              have y1 := (hSw.cell (p := ⟨w.heap.size + 1 + 1, 1, none⟩) lnW).trans m1
              have y2 := (hSw.cell (p := ⟨w.heap.size + 1 + 1, 2, none⟩) lnW).trans m2
              have y3 := (hSw.cell (p := ⟨g, i * 6, none⟩) lgW).trans z0
              have y4 := (hSw.cell (p := ⟨g, i * 6 + 1, none⟩) lgW).trans z1
              have y5 := (hSw.cell (p := ⟨g, i * 6 + 2, none⟩) lgW).trans z2
              have y6 := (hSw.cell (p := ⟨g, i * 6 + 3, none⟩) lgW).trans z3
              have y7 := (hSw.cell (p := ⟨g, i * 6 + 4, none⟩) lgW).trans z4
              have y8 := (hSw.cell (p := ⟨g, i * 6 + 5, none⟩) lgW).trans z5
              try simp only [List.getElem_toArray, List.getElem_cons_zero, List.getElem_cons_succ]
              go_simp
              exact rfl
            try simp only [Act.put, List.setIfInBounds_toArray, List.set_cons_zero, List.set_cons_succ, List.getElem_toArray, List.getElem_cons_zero, List.getElem_cons_succ]
            refine mix.D_take (i := 3) (v := ?_) rfl (by kernel_rfl) (by kernel_rfl) (fun _ _ _ h => h) (Or.inl ⟨by rfl, ?_⟩) hbd ?_
            rotate_left
            · intro w' hSw
              have y0 := (hSw.cell (p := ⟨w.heap.size + 1 + 1, 0, none⟩) lnW).trans m0
              have y1 := (hSw.cell (p := ⟨w.heap.size + 1 + 1, 1, none⟩) lnW).trans m1
              have y2 := (hSw.cell (p := ⟨w.heap.size + 1 + 1, 2, none⟩) lnW).trans m2
              have y3 := (hSw.cell (p := ⟨g, i * 6, none⟩) lgW).trans z0
              have y4 := (hSw.cell (p := ⟨g, i * 6 + 1, none⟩) lgW).trans z1
              have y5 := (hSw.cell (p := ⟨g, i * 6 + 2, none⟩) lgW).trans z2
              have y6 := (hSw.cell (p := ⟨g, i * 6 + 3, none⟩) lgW).trans z3
              have y7 := (hSw.cell (p := ⟨g, i * 6 + 4, none⟩) lgW).trans z4
              have y8 := (hSw.cell (p := ⟨g, i * 6 + 5, none⟩) lgW).trans z5
              try simp only [List.getElem_toArray, List.getElem_cons_zero, List.getElem_cons_succ]
              go_simp
              exact rfl
            try simp only [Act.put, List.setIfInBounds_toArray, List.set_cons_zero, List.set_cons_succ, List.getElem_toArray, List.getElem_cons_zero, List.getElem_cons_succ]
            refine mix.D_take (i := 4) (v := ?_) rfl (by kernel_rfl) (by kernel_rfl) (fun _ _ _ h => h) (Or.inl ⟨by rfl, ?_⟩) hbd ?_
            rotate_left
            · intro w' hSw
              have y0 := (hSw.cell (p := ⟨w.heap.size + 1 + 1, 0, none⟩) lnW).trans m0
              have y1 := (hSw.cell (p := ⟨w.heap.size + 1 + 1, 1, none⟩) lnW).trans m1
              have y2 := (hSw.cell (p := ⟨w.heap.size + 1 + 1, 2, none⟩) lnW).trans m2
              have y3 := (hSw.cell (p := ⟨g, i * 6, none⟩) lgW).trans z0
              have y4 := (hSw.cell (p := ⟨g, i * 6 + 1, none⟩) lgW).trans z1
              have y5 := (hSw.cell (p := ⟨g, i * 6 + 2, none⟩) lgW).trans z2
              have y6 := (hSw.cell (p := ⟨g, i * 6 + 3, none⟩) lgW).trans z3
              have y7 := (hSw.cell (p := ⟨g, i * 6 + 4, none⟩) lgW).trans z4
              have y8 := (hSw.cell (p := ⟨g, i * 6 + 5, none⟩) lgW).trans z5
              try simp only [List.getElem_toArray, List.getElem_cons_zero, List.getElem_cons_succ]
              go_simp
              exact rfl
            try simp only [Act.put, List.setIfInBounds_toArray, List.set_cons_zero, List.set_cons_succ, List.getElem_toArray, List.getElem_cons_zero, List.getElem_cons_succ]
            refine mix.D_take (i := 5) (v := ?_) rfl (by kernel_rfl) (by kernel_rfl) (fun _ _ _ h => h) (Or.inl ⟨by rfl, ?_⟩) hbd ?_
            rotate_left
            · intro w' hSw
              have y0 := (hSw.cell (p := ⟨w.heap.size + 1 + 1, 0, none⟩) lnW).trans m0
              have y1 := (hSw.cell (p := ⟨w.heap.size + 1 + 1, 1, none⟩) lnW).trans m1
              have y2 := (hSw.cell (p := ⟨w.heap.size + 1 + 1, 2, none⟩) lnW).trans m2
              have y3 := (hSw.cell (p := ⟨g, i * 6, none⟩) lgW).trans z0
              have y4 := (hSw.cell (p := ⟨g, i * 6 + 1, none⟩) lgW).trans z1
              have y5 := (hSw.cell (p := ⟨g, i * 6 + 2, none⟩) lgW).trans z2
              have y6 := (hSw.cell (p := ⟨g, i * 6 + 3, none⟩) lgW).trans z3
              have y7 := (hSw.cell (p := ⟨g, i * 6 + 4, none⟩) lgW).trans z4
              have y8 := (hSw.cell (p := ⟨g, i * 6 + 5, none⟩) lgW).trans z5
              try simp only [List.getElem_toArray, List.getElem_cons_zero, List.getElem_cons_succ]
              go_simp
              exact rfl
            try simp only [Act.put, List.setIfInBounds_toArray, List.set_cons_zero, List.set_cons_succ, List.getElem_toArray, List.getElem_cons_zero, List.getElem_cons_succ]
            refine mix.D_take (i := 6) (v := ?_) rfl (by kernel_rfl) (by kernel_rfl) (fun _ _ _ h => h) (Or.inl ⟨by rfl, ?_⟩) hbd ?_
            rotate_left
            · intro w' hSw
              have y0 := (hSw.cell (p := ⟨w.heap.size + 1 + 1, 0, none⟩) lnW).trans m0
              have y1 := (hSw.cell (p := ⟨w.heap.size + 1 + 1, 1, none⟩) lnW).trans m1
              have y2 := (hSw.cell (p := ⟨w.heap.size + 1 + 1, 2, none⟩) lnW).trans m2
              have y3 := (hSw.cell (p := ⟨g, i * 6, none⟩) lgW).trans z0
              have y4 := (hSw.cell (p := ⟨g, i * 6 + 1, none⟩) lgW).trans z1
              have y5 := (hSw.cell (p := ⟨g, i * 6 + 2, none⟩) lgW).trans z2
              have y6 := (hSw.cell (p := ⟨g, i * 6 + 3, none⟩) lgW).trans z3
              have y7 := (hSw.cell (p := ⟨g, i * 6 + 4, none⟩) lgW).trans z4
              have y8 := (hSw.cell (p := ⟨g, i * 6 + 5, none⟩) lgW).trans z5
              try simp only [List.getElem_toArray, List.getElem_cons_zero, List.getElem_cons_succ]
              go_simp
              exact rfl
            try simp only [Act.put, List.setIfInBounds_toArray, List.set_cons_zero, List.set_cons_succ, List.getElem_toArray, List.getElem_cons_zero, List.getElem_cons_succ]
            refine mix.D_op (k := 7) rfl rfl (by kernel_rfl) (fun K' hK => ?_)
            simp only [List.getElem_toArray, List.getElem_cons_zero, List.getElem_cons_succ]
            go_wp2_with fail
            refine (HJ.out _ hbd).mono ?_
            rintro e w3 ⟨l3, A3, c3, rfl, e3, _, b3⟩
            have hS3 := hbd.trans (b3.mono hbd.size)
            have hl3 : l3.length = (joinP (la.map N.p) (N.p (⟨ylf, yes, yks, yA, yc, yQ, ym⟩ : N)) (lb.map N.p)).length := by rw [← e3, List.length_map]
            generalize hn3 : (joinP (la.map N.p) (N.p (⟨ylf, yes, yks, yA, yc, yQ, ym⟩ : N)) (lb.map N.p)).length = n3 at hjl hl3
            rw [hl3]
            refine hK.out _ _ (fun _ => hS3) ?_
            clear hK K'
            try simp only [Act.put, List.setIfInBounds_toArray, List.set_cons_zero, List.set_cons_succ]
            refine mix.D_op (k := 8) rfl rfl (by kernel_rfl) (fun K' hK => ?_)
            simp only [List.getElem_toArray, List.getElem_cons_zero, List.getElem_cons_succ]
            go_wp2_with fail
            refine hK.out _ _ (fun _ => hS3) ?_
            clear hK K'
            try simp only [Act.put, List.setIfInBounds_toArray, List.set_cons_zero, List.set_cons_succ]
            refine mix.D_op (k := 9) rfl rfl (by kernel_rfl) (fun K' hK => ?_)
            simp only [List.getElem_toArray, List.getElem_cons_zero, List.getElem_cons_succ]
            obtain ⟨M, hmk, hM, hMs⟩ := mkKids n3 (by omega)
            go_wp2_with fail
            have hS4 := hS3.alloc hS3.size (.cells M 66)
            refine hK.out _ _ (fun _ => hS4) ?_
            clear hK K'
            try simp only [Act.put, List.setIfInBounds_toArray, List.set_cons_zero, List.set_cons_succ]
            refine mix.D_op (k := 10) rfl rfl (by kernel_rfl) (fun K' hK => ?_)
            simp only [List.getElem_toArray, List.getElem_cons_zero, List.getElem_cons_succ]
            go_wp2_with fail
            refine ((HO.out w3 n3 M hS3 hM hMs hjl.2)).mono ?_
            rintro e w6 ⟨v6, rfl, ho6, hb6⟩
            have hS6 := hS4.trans (hb6.mono hS4.size)
            obtain ⟨A6, c6, rfl, hy6⟩ := child_ns (v := .slice (some ⟨g, 0, none⟩) way.length c) (n := n3) hXN (fun q hq => (hF q hq).1) (hI2.2.2.2.2.2.2.2.2.2.1.seq hS6) (by have := hI2.2.2.2.2.2.2.2.2.2.2; have := hS4.size; omega) hRl ho6 wk2 hjl.2
            have hI9 := hI2.child hS6 hy6
            have kn6 := (hI2.2.2.2.1.below hS6 lnW)
            have f0 := kn6.frozen 0
            have f1 := kn6.frozen 1
            have f2 := kn6.frozen 2
            have m0 := kn6.cell 0
            have m1 := kn6.cell 1
            have m2 := kn6.cell 2
            simp only [List.getElem?_toArray, List.getElem?_cons_zero, List.getElem?_cons_succ] at m0 m1 m2
            have ln6 := kn6.lt
            refine hK.out _ _ (fun _ => hS6) ?_
            clear hK K'
            try simp only [Act.put, List.setIfInBounds_toArray, List.set_cons_zero, List.set_cons_succ]
            refine mix.D_op (k := 11) rfl rfl (by kernel_rfl) (fun K' hK => ?_)
            simp only [List.getElem_toArray, List.getElem_cons_zero, List.getElem_cons_succ]
            go_wp2_with fail
            refine hK.out _ _ (fun h => by simp at h) ?_
            clear hK K'
            refine mix.D_done (by kernel_rfl) ?_ _
            try simp only [Act.put, List.setIfInBounds_toArray, List.set_cons_zero, List.set_cons_succ, List.getElem_toArray, List.getElem_cons_zero, List.getElem_cons_succ]
            have k9 := set3_heap w6 (w.heap.size + 1 + 1) (.bool xlf) (.slice xA xes.length xc) (.slice A6 (overK xks xat la.length lb.length (List.replicate n3 zK)).length c6)
            have hK9 : Keep (fun q => q = g ∨ q = w.heap.size + 1 + 1) W (set3 w6 (w.heap.size + 1 + 1) (.bool xlf) (.slice xA xes.length xc) (.slice A6 (overK xks xat la.length lb.length (List.replicate n3 zK)).length c6)) := by
              have h6 := hKW.seq hS6
              have bl := set3_below (Below.refl 0 w6) (g := w.heap.size + 1 + 1) (Nat.zero_le _) (.bool xlf) (.slice xA xes.length xc) (.slice A6 (overK xks xat la.length lb.length (List.replicate n3 zK)).length c6)
              exact ⟨bl.os.trans h6.os, bl.tape.trans h6.tape, bl.output.trans h6.output, Nat.le_trans h6.size bl.size, fun k hk hn => (k9 k fun e => hn (.inr e)).trans (h6.block k hk hn)⟩
            have k59 := hK9.blk k5' (fun e => by rcases e with e | e <;> omega)
            refine ⟨keepsFrom_keep _ hK9 (fun q hq => ?_), fun _ => hI9.rowB _ (by have := k59.cell 0; simpa using this) hm112, ⟨_, (by rw [List.map_append]; exact (neighX_snoc i HST.out).trans HN.out), ⟨_, _, ?_, HA2.out, hI9⟩⟩, k59⟩
            · rcases hq with rfl | rfl
              · exact (hI.2.2.2.2.2.2.1 _ rfl).1
              · exact isC_blk hI.2.2.2.1
            · simp only [childX, N.p, SJ.ab, List.length_map, ← hn3]

          · clear HBe hk2
            subst hyn
            have hf := hI.found hb1 hb3 i 5 gB yB ⟨(⟨xlf, xes, xks, xA, xc, xQ, xm⟩ : N), xat, la, Aa, ca, [yB], (some ⟨gB, 0, none⟩), 1⟩ hix (by omega) hgB hkB hyB (by rw [HX.out]) (by rw [HX.out]; rfl) (by rw [HX.out]; exact .inl ⟨rfl, rfl, rfl⟩) (by rw [HX.out]; exact .inr ⟨rfl, rfl, rfl⟩)
            rw [← hw2] at hf
            obtain ⟨hI2, hKW⟩ := hf
            have hXF2 := hI2.2.2.2.2.2.2.2.2.1 _ (List.mem_set (by omega) _)
            have hn0 := nstepX_ok (ns := ns) HXp.out HXab.out HY.out (HBY.out.trans hbe)
            have ha2 : abOf (⟨(⟨xlf, xes, xks, xA, xc, xQ, xm⟩ : N), xat, la, Aa, ca, lb, Ab, cb⟩ : SJ).ab ([], [N.p yB]) = (⟨(⟨xlf, xes, xks, xA, xc, xQ, xm⟩ : N), xat, la, Aa, ca, [yB], (some ⟨gB, 0, none⟩), 1⟩ : SJ).ab := by simp [abOf, SJ.ab]
            have hab2 := hab0.of (besideP_ok hbe hk1 (N.p (⟨xlf, xes, xks, xA, xc, xQ, xm⟩ : N)) rfl).1
            have habs2 : ∀ n ∈ (⟨(⟨xlf, xes, xks, xA, xc, xQ, xm⟩ : N), xat, la, Aa, ca, [yB], (some ⟨gB, 0, none⟩), 1⟩ : SJ).ab.1 ++ (⟨(⟨xlf, xes, xks, xA, xc, xQ, xm⟩ : N), xat, la, Aa, ca, [yB], (some ⟨gB, 0, none⟩), 1⟩ : SJ).ab.2, small n := fun n hn => by
              rw [← ha2] at hn
              rcases mem_abOf hn with h | h
              · exact habs n h
              · exact wk4 _ _ _ hbe n h
            rw [ha2] at hn0 hab2
            have HN := vers.lay hn0
            clear hn0 ha2
            have HA2 := vers.lay (Hset.out (⟨(⟨xlf, xes, xks, xA, xc, xQ, xm⟩ : N), xat, la, Aa, ca, [yB], (some ⟨gB, 0, none⟩), 1⟩ : SJ))
            cases hc9
            clear hbe hw2 hkB hyB hb3 hcc hnl
            have hrow2 := hI2.2.2.2.2.2.1
            have z0 := (hrow2.cellAt (i * 6 + 0) (by omega)).trans (cellsS_at ((xs.set i (⟨(⟨xlf, xes, xks, xA, xc, xQ, xm⟩ : N), xat, la, Aa, ca, [yB], (some ⟨gB, 0, none⟩), 1⟩ : SJ)).map SJ.st) (j := i) (by simpa using hix) 0 (by omega))
            have z1 := (hrow2.cellAt (i * 6 + 1) (by omega)).trans (cellsS_at ((xs.set i (⟨(⟨xlf, xes, xks, xA, xc, xQ, xm⟩ : N), xat, la, Aa, ca, [yB], (some ⟨gB, 0, none⟩), 1⟩ : SJ)).map SJ.st) (j := i) (by simpa using hix) 1 (by omega))
            have z2 := (hrow2.cellAt (i * 6 + 2) (by omega)).trans (cellsS_at ((xs.set i (⟨(⟨xlf, xes, xks, xA, xc, xQ, xm⟩ : N), xat, la, Aa, ca, [yB], (some ⟨gB, 0, none⟩), 1⟩ : SJ)).map SJ.st) (j := i) (by simpa using hix) 2 (by omega))
            have z3 := (hrow2.cellAt (i * 6 + 3) (by omega)).trans (cellsS_at ((xs.set i (⟨(⟨xlf, xes, xks, xA, xc, xQ, xm⟩ : N), xat, la, Aa, ca, [yB], (some ⟨gB, 0, none⟩), 1⟩ : SJ)).map SJ.st) (j := i) (by simpa using hix) 3 (by omega))
            have z4 := (hrow2.cellAt (i * 6 + 4) (by omega)).trans (cellsS_at ((xs.set i (⟨(⟨xlf, xes, xks, xA, xc, xQ, xm⟩ : N), xat, la, Aa, ca, [yB], (some ⟨gB, 0, none⟩), 1⟩ : SJ)).map SJ.st) (j := i) (by simpa using hix) 4 (by omega))
            have z5 := (hrow2.cellAt (i * 6 + 5) (by omega)).trans (cellsS_at ((xs.set i (⟨(⟨xlf, xes, xks, xA, xc, xQ, xm⟩ : N), xat, la, Aa, ca, [yB], (some ⟨gB, 0, none⟩), 1⟩ : SJ)).map SJ.st) (j := i) (by simpa using hix) 5 (by omega))
            simp only [List.getElem_map, List.getElem_set_self, SJ.st, St.cells, List.getElem?_cons_zero, List.getElem?_cons_succ, Nat.add_zero] at z0 z1 z2 z3 z4 z5
            have m0 := hI2.2.2.2.1.cell 0
            have m1 := hI2.2.2.2.1.cell 1
            have m2 := hI2.2.2.2.1.cell 2
            simp only [List.getElem?_toArray, List.getElem?_cons_zero, List.getElem?_cons_succ] at m0 m1 m2
            have hroom := hab2.room (s := (N.p (⟨xlf, xes, xks, xA, xc, xQ, xm⟩ : N), xat)) (by simpa [N.p] using wk1)
            simp only [SJ.ab, List.length_map] at hroom
            have hnx2 : la.length + [yB].length ≤ 1 := hroom.2.2
            have hjl := joinP_len (la.map N.p) (N.p (⟨ylf, yes, yks, yA, yc, yQ, ym⟩ : N)) ([yB].map N.p)
            have hk2 : ∀ x ∈ la ++ [(⟨ylf, yes, yks, yA, yc, yQ, ym⟩ : N)] ++ [yB], x.es.length ≤ 1000 ∧ x.ks.length ≤ 1000 := fun x hx => by
              have hab := fun hm => habs2 (N.p x) hm
              simp only [SJ.ab, small, N.p, List.length_map] at hab
              rcases List.mem_append.1 hx with hx | hx
              · rcases List.mem_append.1 hx with hx | hx
                · exact hab (List.mem_append.2 (.inl (List.mem_map.2 ⟨x, hx, rfl⟩)))
                · have e := List.mem_singleton.1 hx
                  subst e
                  exact hsm
              · exact hab (List.mem_append.2 (.inr (List.mem_map.2 ⟨x, hx, rfl⟩)))
            have lgW : g < w2.heap.size := Nat.lt_of_lt_of_le hgl hI2.2.2.2.2.2.2.2.2.2.1.size
            have lnW := hI2.2.2.2.1.lt
            have HJ := vers.lay (show ∀ wx, Below w2.heap.size w2 wx → _ from fun wx hb => join_any (⟨ylf, yes, yks, yA, yc, yQ, ym⟩ : N) la [yB] Aa (some ⟨gB, 0, none⟩) ca 1 xlf xA xQ xes.length xc xks.length xm xat (fun q => q < w2.heap.size) wx ((hI2.2.2.2.2.2.2.2.1.mono (G := fun q => q < w2.heap.size) fun q hq => hq.1.1).agree (Agree.of_below hb fun q hq => hq)) ((hXF2.1.mono' (G := fun q => q < w2.heap.size) fun q hq => hq.1.1.1).agree (Agree.of_below hb fun q hq => hq)) ((hXF2.2.mono' (G := fun q => q < w2.heap.size) fun q hq => hq.1.1.1).agree (Agree.of_below hb fun q hq => hq)) (fun q hq => Nat.lt_of_lt_of_le hq hb.size) hk2 hnx2)
            have hKs : KsF w2 (fun q => q < w.heap.size) xks xQ xm := (hXN.2.agree (w' := w2) (hI2.2.2.2.2.2.2.2.2.2.1.agree fun q hq => ⟨(hF q hq.1).1, fun e => hq.2 e.symm⟩)).mono fun q hq => (hF q hq.1).1
            have hzW := hI2.2.2.2.2.2.2.2.2.2.1.size
            have HO := vers.lay (show ∀ (wu : World) (n : Nat) (M : Array Value), Below w2.heap.size w2 wu → M.toList = cellsK (List.replicate n zK) → M.size = n * 5 → n ≤ 2 → _ from fun wu n M hb hM hMs hn => over_zero ⟨(⟨xlf, xes, xks, xA, xc, xQ, xm⟩ : N), xat, Aa, la.length, ca, (some ⟨gB, 0, none⟩), [yB].length, 1⟩ n (some ⟨wu.heap.size, 0, none⟩) n (fun q => q < wu.heap.size + 1) (wu.alloc (.cells M 66)) ((hKs.agree (Agree.of_below ((hb.mono (Nat.le_refl _)).trans ((Below.refl wu.heap.size wu).alloc (Nat.le_refl _) _ |>.mono hb.size)) fun q hq => by omega)).mono fun q hq => by have := hb.size; omega) (mkKids_own hM hMs hn wu) (fun q hq => by simpa using hq) hroom.1 hroom.2.1 (by simp only; omega))
            clear q0 q1 q2 q3 q4 q5 n0 n1 n2 hKs
            gi_wp2
            have hbd : Below w2.heap.size w2 w2.drew := (Below.refl _ _).drew
            refine mix.region_in l _ (fun w' => Below w2.heap.size w2 w') (fun j => j == 11) hmx (by kernel_rfl) (by rintro ⟨a, w, h⟩; exact h) ?_
            generalize w2.drew = Wd at hbd ⊢
            refine mix.D_take (i := 0) (v := ?_) rfl (by kernel_rfl) (by kernel_rfl) (fun _ _ _ h => h) (Or.inl ⟨by rfl, ?_⟩) hbd ?_
            rotate_left
            · intro w' hSw
              have y0 := (hSw.cell (p := ⟨w.heap.size + 1 + 1, 0, none⟩) lnW).trans m0
              have y1 := (hSw.cell (p := ⟨w.heap.size + 1 + 1, 1, none⟩) lnW).trans m1
              have y2 := (hSw.cell (p := ⟨w.heap.size + 1 + 1, 2, none⟩) lnW).trans m2
              have y3 := (hSw.cell (p := ⟨g, i * 6, none⟩) lgW).trans z0
              have y4 := (hSw.cell (p := ⟨g, i * 6 + 1, none⟩) lgW).trans z1
              have y5 := (hSw.cell (p := ⟨g, i * 6 + 2, none⟩) lgW).trans z2
              have y6 := (hSw.cell (p := ⟨g, i * 6 + 3, none⟩) lgW).trans z3
              have y7 := (hSw.cell (p := ⟨g, i * 6 + 4, none⟩) lgW).trans z4
              have y8 := (hSw.cell (p := ⟨g, i * 6 + 5, none⟩) lgW).trans z5
              try simp only [List.getElem_toArray, List.getElem_cons_zero, List.getElem_cons_succ]
              go_simp
              exact rfl
            try simp only [Act.put, List.setIfInBounds_toArray, List.set_cons_zero, List.set_cons_succ, List.getElem_toArray, List.getElem_cons_zero, List.getElem_cons_succ]
            refine mix.D_take (i := 1) (v := ?_) rfl (by kernel_rfl) (by kernel_rfl) (fun _ _ _ h => h) (Or.inl ⟨by rfl, ?_⟩) hbd ?_
            rotate_left
            · intro w' hSw
              have y0 := (hSw.cell (p := ⟨w.heap.size + 1 + 1, 0, none⟩) lnW).trans m0
              have y1 := (hSw.cell (p := ⟨w.heap.size + 1 + 1, 1, none⟩) lnW).trans m1
              have y2 := (hSw.cell (p := ⟨w.heap.size + 1 + 1, 2, none⟩) lnW).trans m2
              have y3 := (hSw.cell (p := ⟨g, i * 6, none⟩) lgW).trans z0
              have y4 := (hSw.cell (p := ⟨g, i * 6 + 1, none⟩) lgW).trans z1
              have y5 := (hSw.cell (p := ⟨g, i * 6 + 2, none⟩) lgW).trans z2
              have y6 := (hSw.cell (p := ⟨g, i * 6 + 3, none⟩) lgW).trans z3
              have y7 := (hSw.cell (p := ⟨g, i * 6 + 4, none⟩) lgW).trans z4
              have y8 := (hSw.cell (p := ⟨g, i * 6 + 5, none⟩) lgW).trans z5
              try simp only [List.getElem_toArray, List.getElem_cons_zero, List.getElem_cons_succ]
              go_simp
              exact rfl
            try simp only [Act.put, List.setIfInBounds_toArray, List.set_cons_zero, List.set_cons_succ, List.getElem_toArray, List.getElem_cons_zero, List.getElem_cons_succ]
            refine mix.D_take (i := 2) (v := ?_) rfl (by kernel_rfl) (by kernel_rfl) (fun _ _ _ h => h) (Or.inl ⟨by rfl, ?_⟩) hbd ?_
            rotate_left
            · intro w' hSw
              have y0 := (hSw.cell (p := ⟨w.heap.size + 1 + 1, 0, none⟩) lnW).trans m0
              have y1 := (hSw.cell (p := ⟨w.heap.size + 1 + 1, 1, none⟩) lnW).trans m1
              have y2 := (hSw.cell (p := ⟨w.heap.size + 1 + 1, 2, none⟩) lnW).trans m2
              have y3 := (hSw.cell (p := ⟨g, i * 6, none⟩) lgW).trans z0
              have y4 := (hSw.cell (p := ⟨g, i * 6 + 1, none⟩) lgW).trans z1
              have y5 := (hSw.cell (p := ⟨g, i * 6 + 2, none⟩) lgW).trans z2
              have y6 := (hSw.cell (p := ⟨g, i * 6 + 3, none⟩) lgW).trans z3
              have y7 := (hSw.cell (p := ⟨g, i * 6 + 4, none⟩) lgW).trans z4
              have y8 := (hSw.cell (p := ⟨g, i * 6 + 5, none⟩) lgW).trans z5
              try simp only [List.getElem_toArray, List.getElem_cons_zero, List.getElem_cons_succ]
              go_simp
              exact rfl
            try simp only [Act.put, List.setIfInBounds_toArray, List.set_cons_zero, List.set_cons_succ, List.getElem_toArray, List.getElem_cons_zero, List.getElem_cons_succ]
            refine mix.D_take (i := 3) (v := ?_) rfl (by kernel_rfl) (by kernel_rfl) (fun _ _ _ h => h) (Or.inl ⟨by rfl, ?_⟩) hbd ?_
            rotate_left
            · intro w' hSw
              have y0 := (hSw.cell (p := ⟨w.heap.size + 1 + 1, 0, none⟩) lnW).trans m0
              have y1 := (hSw.cell (p := ⟨w.heap.size + 1 + 1, 1, none⟩) lnW).trans m1
              have y2 := (hSw.cell (p := ⟨w.heap.size + 1 + 1, 2, none⟩) lnW).trans m2
              have y3 := (hSw.cell (p := ⟨g, i * 6, none⟩) lgW).trans z0
              have y4 := (hSw.cell (p := ⟨g, i * 6 + 1, none⟩) lgW).trans z1
              have y5 := (hSw.cell (p := ⟨g, i * 6 + 2, none⟩) lgW).trans z2
              have y6 := (hSw.cell (p := ⟨g, i * 6 + 3, none⟩) lgW).trans z3
              have y7 := (hSw.cell (p := ⟨g, i * 6 + 4, none⟩) lgW).trans z4
              have y8 := (hSw.cell (p := ⟨g, i * 6 + 5, none⟩) lgW).trans z5
              try simp only [List.getElem_toArray, List.getElem_cons_zero, List.getElem_cons_succ]
              go_simp
              exact rfl
            try simp only [Act.put, List.setIfInBounds_toArray, List.set_cons_zero, List.set_cons_succ, List.getElem_toArray, List.getElem_cons_zero, List.getElem_cons_succ]
            refine mix.D_take (i := 4) (v := ?_) rfl (by kernel_rfl) (by kernel_rfl) (fun _ _ _ h => h) (Or.inl ⟨by rfl, ?_⟩) hbd ?_
            rotate_left
            · intro w' hSw
              have y0 := (hSw.cell (p := ⟨w.heap.size + 1 + 1, 0, none⟩) lnW).trans m0
              have y1 := (hSw.cell (p := ⟨w.heap.size + 1 + 1, 1, none⟩) lnW).trans m1
              have y2 := (hSw.cell (p := ⟨w.heap.size + 1 + 1, 2, none⟩) lnW).trans m2
              have y3 := (hSw.cell (p := ⟨g, i * 6, none⟩) lgW).trans z0
              have y4 := (hSw.cell (p := ⟨g, i * 6 + 1, none⟩) lgW).trans z1
              have y5 := (hSw.cell (p := ⟨g, i * 6 + 2, none⟩) lgW).trans z2
              have y6 := (hSw.cell (p := ⟨g, i * 6 + 3, none⟩) lgW).trans z3
              have y7 := (hSw.cell (p := ⟨g, i * 6 + 4, none⟩) lgW).trans z4
              have y8 := (hSw.cell (p := ⟨g, i * 6 + 5, none⟩) lgW).trans z5
              try simp only [List.getElem_toArray, List.getElem_cons_zero, List.getElem_cons_succ]
              go_simp
              exact rfl
            try simp only [Act.put, List.setIfInBounds_toArray, List.set_cons_zero, List.set_cons_succ, List.getElem_toArray, List.getElem_cons_zero, List.getElem_cons_succ]
            refine mix.D_take (i := 5) (v := ?_) rfl (by kernel_rfl) (by kernel_rfl) (fun _ _ _ h => h) (Or.inl ⟨by rfl, ?_⟩) hbd ?_
            rotate_left
            · intro w' hSw
              have y0 := (hSw.cell (p := ⟨w.heap.size + 1 + 1, 0, none⟩) lnW).trans m0
              have y1 := (hSw.cell (p := ⟨w.heap.size + 1 + 1, 1, none⟩) lnW).trans m1
              have y2 := (hSw.cell (p := ⟨w.heap.size + 1 + 1, 2, none⟩) lnW).trans m2
              have y3 := (hSw.cell (p := ⟨g, i * 6, none⟩) lgW).trans z0
              have y4 := (hSw.cell (p := ⟨g, i * 6 + 1, none⟩) lgW).trans z1
              have y5 := (hSw.cell (p := ⟨g, i * 6 + 2, none⟩) lgW).trans z2
              have y6 := (hSw.cell (p := ⟨g, i * 6 + 3, none⟩) lgW).trans z3
              have y7 := (hSw.cell (p := ⟨g, i * 6 + 4, none⟩) lgW).trans z4
              have y8 := (hSw.cell (p := ⟨g, i * 6 + 5, none⟩) lgW).trans z5
              try simp only [List.getElem_toArray, List.getElem_cons_zero, List.getElem_cons_succ]
              go_simp
              exact rfl
            try simp only [Act.put, List.setIfInBounds_toArray, List.set_cons_zero, List.set_cons_succ, List.getElem_toArray, List.getElem_cons_zero, List.getElem_cons_succ]
            refine mix.D_take (i := 6) (v := ?_) rfl (by kernel_rfl) (by kernel_rfl) (fun _ _ _ h => h) (Or.inl ⟨by rfl, ?_⟩) hbd ?_
            rotate_left
            · intro w' hSw
              have y0 := (hSw.cell (p := ⟨w.heap.size + 1 + 1, 0, none⟩) lnW).trans m0
              have y1 := (hSw.cell (p := ⟨w.heap.size + 1 + 1, 1, none⟩) lnW).trans m1
              have y2 := (hSw.cell (p := ⟨w.heap.size + 1 + 1, 2, none⟩) lnW).trans m2
              have y3 := (hSw.cell (p := ⟨g, i * 6, none⟩) lgW).trans z0
              have y4 := (hSw.cell (p := ⟨g, i * 6 + 1, none⟩) lgW).trans z1
              have y5 := (hSw.cell (p := ⟨g, i * 6 + 2, none⟩) lgW).trans z2
              have y6 := (hSw.cell (p := ⟨g, i * 6 + 3, none⟩) lgW).trans z3
              have y7 := (hSw.cell (p := ⟨g, i * 6 + 4, none⟩) lgW).trans z4
              have y8 := (hSw.cell (p := ⟨g, i * 6 + 5, none⟩) lgW).trans z5
              try simp only [List.getElem_toArray, List.getElem_cons_zero, List.getElem_cons_succ]
              go_simp
              exact rfl
            try simp only [Act.put, List.setIfInBounds_toArray, List.set_cons_zero, List.set_cons_succ, List.getElem_toArray, List.getElem_cons_zero, List.getElem_cons_succ]
            refine mix.D_op (k := 7) rfl rfl (by kernel_rfl) (fun K' hK => ?_)
            simp only [List.getElem_toArray, List.getElem_cons_zero, List.getElem_cons_succ]
            go_wp2_with fail
            refine (HJ.out _ hbd).mono ?_
            rintro e w3 ⟨l3, A3, c3, rfl, e3, _, b3⟩
            have hS3 := hbd.trans (b3.mono hbd.size)
            have hl3 : l3.length = (joinP (la.map N.p) (N.p (⟨ylf, yes, yks, yA, yc, yQ, ym⟩ : N)) ([yB].map N.p)).length := by rw [← e3, List.length_map]
            generalize hn3 : (joinP (la.map N.p) (N.p (⟨ylf, yes, yks, yA, yc, yQ, ym⟩ : N)) ([yB].map N.p)).length = n3 at hjl hl3
            rw [hl3]
            refine hK.out _ _ (fun _ => hS3) ?_
            clear hK K'
            try simp only [Act.put, List.setIfInBounds_toArray, List.set_cons_zero, List.set_cons_succ]
            refine mix.D_op (k := 8) rfl rfl (by kernel_rfl) (fun K' hK => ?_)
            simp only [List.getElem_toArray, List.getElem_cons_zero, List.getElem_cons_succ]
            go_wp2_with fail
            refine hK.out _ _ (fun _ => hS3) ?_
            clear hK K'
            try simp only [Act.put, List.setIfInBounds_toArray, List.set_cons_zero, List.set_cons_succ]
            refine mix.D_op (k := 9) rfl rfl (by kernel_rfl) (fun K' hK => ?_)
            simp only [List.getElem_toArray, List.getElem_cons_zero, List.getElem_cons_succ]
            obtain ⟨M, hmk, hM, hMs⟩ := mkKids n3 (by omega)
            go_wp2_with fail
            have hS4 := hS3.alloc hS3.size (.cells M 66)
            refine hK.out _ _ (fun _ => hS4) ?_
            clear hK K'
            try simp only [Act.put, List.setIfInBounds_toArray, List.set_cons_zero, List.set_cons_succ]
            refine mix.D_op (k := 10) rfl rfl (by kernel_rfl) (fun K' hK => ?_)
            simp only [List.getElem_toArray, List.getElem_cons_zero, List.getElem_cons_succ]
            go_wp2_with fail
            refine ((HO.out w3 n3 M hS3 hM hMs hjl.2)).mono ?_
            rintro e w6 ⟨v6, rfl, ho6, hb6⟩
            have hS6 := hS4.trans (hb6.mono hS4.size)
            obtain ⟨A6, c6, rfl, hy6⟩ := child_ns (v := .slice (some ⟨g, 0, none⟩) way.length c) (n := n3) hXN (fun q hq => (hF q hq).1) (hI2.2.2.2.2.2.2.2.2.2.1.seq hS6) (by have := hI2.2.2.2.2.2.2.2.2.2.2; have := hS4.size; omega) hRl ho6 wk2 hjl.2
            have hI9 := hI2.child hS6 hy6
            have kn6 := (hI2.2.2.2.1.below hS6 lnW)
            have f0 := kn6.frozen 0
            have f1 := kn6.frozen 1
            have f2 := kn6.frozen 2
            have m0 := kn6.cell 0
            have m1 := kn6.cell 1
            have m2 := kn6.cell 2
            simp only [List.getElem?_toArray, List.getElem?_cons_zero, List.getElem?_cons_succ] at m0 m1 m2
            have ln6 := kn6.lt
            refine hK.out _ _ (fun _ => hS6) ?_
            clear hK K'
            try simp only [Act.put, List.setIfInBounds_toArray, List.set_cons_zero, List.set_cons_succ]
            refine mix.D_op (k := 11) rfl rfl (by kernel_rfl) (fun K' hK => ?_)
            simp only [List.getElem_toArray, List.getElem_cons_zero, List.getElem_cons_succ]
            go_wp2_with fail
            refine hK.out _ _ (fun h => by simp at h) ?_
            clear hK K'
            refine mix.D_done (by kernel_rfl) ?_ _
            try simp only [Act.put, List.setIfInBounds_toArray, List.set_cons_zero, List.set_cons_succ, List.getElem_toArray, List.getElem_cons_zero, List.getElem_cons_succ]
            have k9 := set3_heap w6 (w.heap.size + 1 + 1) (.bool xlf) (.slice xA xes.length xc) (.slice A6 (overK xks xat la.length [yB].length (List.replicate n3 zK)).length c6)
            have hK9 : Keep (fun q => q = g ∨ q = w.heap.size + 1 + 1) W (set3 w6 (w.heap.size + 1 + 1) (.bool xlf) (.slice xA xes.length xc) (.slice A6 (overK xks xat la.length [yB].length (List.replicate n3 zK)).length c6)) := by
              have h6 := hKW.seq hS6
              have bl := set3_below (Below.refl 0 w6) (g := w.heap.size + 1 + 1) (Nat.zero_le _) (.bool xlf) (.slice xA xes.length xc) (.slice A6 (overK xks xat la.length [yB].length (List.replicate n3 zK)).length c6)
              exact ⟨bl.os.trans h6.os, bl.tape.trans h6.tape, bl.output.trans h6.output, Nat.le_trans h6.size bl.size, fun k hk hn => (k9 k fun e => hn (.inr e)).trans (h6.block k hk hn)⟩
            have k59 := hK9.blk k5' (fun e => by rcases e with e | e <;> omega)
            refine ⟨keepsFrom_keep _ hK9 (fun q hq => ?_), fun _ => hI9.rowB _ (by have := k59.cell 0; simpa using this) hm112, ⟨_, (by rw [List.map_append]; exact (neighX_snoc i HST.out).trans HN.out), ⟨_, _, ?_, HA2.out, hI9⟩⟩, k59⟩
            · rcases hq with rfl | rfl
              · exact (hI.2.2.2.2.2.2.1 _ rfl).1
              · exact isC_blk hI.2.2.2.1
            · simp only [childX, N.p, SJ.ab, List.length_map, ← hn3]

          · clear HBe hk2
            subst hyn
            have hf := hI.found hb1 hb3 i 4 gB yB ⟨(⟨xlf, xes, xks, xA, xc, xQ, xm⟩ : N), xat, [yB], (some ⟨gB, 0, none⟩), 1, lb, Ab, cb⟩ hix (by omega) hgB hkB hyB (by rw [HX.out]) (by rw [HX.out]; rfl) (by rw [HX.out]; exact .inr ⟨rfl, rfl, rfl⟩) (by rw [HX.out]; exact .inl ⟨rfl, rfl, rfl⟩)
            rw [← hw2] at hf
            obtain ⟨hI2, hKW⟩ := hf
            have hXF2 := hI2.2.2.2.2.2.2.2.2.1 _ (List.mem_set (by omega) _)
            have hn0 := nstepX_ok (ns := ns) HXp.out HXab.out HY.out (HBY.out.trans hbe)
            have ha2 : abOf (⟨(⟨xlf, xes, xks, xA, xc, xQ, xm⟩ : N), xat, la, Aa, ca, lb, Ab, cb⟩ : SJ).ab ([N.p yB], []) = (⟨(⟨xlf, xes, xks, xA, xc, xQ, xm⟩ : N), xat, [yB], (some ⟨gB, 0, none⟩), 1, lb, Ab, cb⟩ : SJ).ab := by simp [abOf, SJ.ab]
            have hab2 := hab0.of (besideP_ok hbe hk1 (N.p (⟨xlf, xes, xks, xA, xc, xQ, xm⟩ : N)) rfl).1
            have habs2 : ∀ n ∈ (⟨(⟨xlf, xes, xks, xA, xc, xQ, xm⟩ : N), xat, [yB], (some ⟨gB, 0, none⟩), 1, lb, Ab, cb⟩ : SJ).ab.1 ++ (⟨(⟨xlf, xes, xks, xA, xc, xQ, xm⟩ : N), xat, [yB], (some ⟨gB, 0, none⟩), 1, lb, Ab, cb⟩ : SJ).ab.2, small n := fun n hn => by
              rw [← ha2] at hn
              rcases mem_abOf hn with h | h
              · exact habs n h
              · exact wk4 _ _ _ hbe n h
            rw [ha2] at hn0 hab2
            have HN := vers.lay hn0
            clear hn0 ha2
            have HA2 := vers.lay (Hset.out (⟨(⟨xlf, xes, xks, xA, xc, xQ, xm⟩ : N), xat, [yB], (some ⟨gB, 0, none⟩), 1, lb, Ab, cb⟩ : SJ))
            cases hc9
            clear hbe hw2 hkB hyB hb3 hcc hnl
            have hrow2 := hI2.2.2.2.2.2.1
            have z0 := (hrow2.cellAt (i * 6 + 0) (by omega)).trans (cellsS_at ((xs.set i (⟨(⟨xlf, xes, xks, xA, xc, xQ, xm⟩ : N), xat, [yB], (some ⟨gB, 0, none⟩), 1, lb, Ab, cb⟩ : SJ)).map SJ.st) (j := i) (by simpa using hix) 0 (by omega))
            have z1 := (hrow2.cellAt (i * 6 + 1) (by omega)).trans (cellsS_at ((xs.set i (⟨(⟨xlf, xes, xks, xA, xc, xQ, xm⟩ : N), xat, [yB], (some ⟨gB, 0, none⟩), 1, lb, Ab, cb⟩ : SJ)).map SJ.st) (j := i) (by simpa using hix) 1 (by omega))
            have z2 := (hrow2.cellAt (i * 6 + 2) (by omega)).trans (cellsS_at ((xs.set i (⟨(⟨xlf, xes, xks, xA, xc, xQ, xm⟩ : N), xat, [yB], (some ⟨gB, 0, none⟩), 1, lb, Ab, cb⟩ : SJ)).map SJ.st) (j := i) (by simpa using hix) 2 (by omega))
            have z3 := (hrow2.cellAt (i * 6 + 3) (by omega)).trans (cellsS_at ((xs.set i (⟨(⟨xlf, xes, xks, xA, xc, xQ, xm⟩ : N), xat, [yB], (some ⟨gB, 0, none⟩), 1, lb, Ab, cb⟩ : SJ)).map SJ.st) (j := i) (by simpa using hix) 3 (by omega))
            have z4 := (hrow2.cellAt (i * 6 + 4) (by omega)).trans (cellsS_at ((xs.set i (⟨(⟨xlf, xes, xks, xA, xc, xQ, xm⟩ : N), xat, [yB], (some ⟨gB, 0, none⟩), 1, lb, Ab, cb⟩ : SJ)).map SJ.st) (j := i) (by simpa using hix) 4 (by omega))
            have z5 := (hrow2.cellAt (i * 6 + 5) (by omega)).trans (cellsS_at ((xs.set i (⟨(⟨xlf, xes, xks, xA, xc, xQ, xm⟩ : N), xat, [yB], (some ⟨gB, 0, none⟩), 1, lb, Ab, cb⟩ : SJ)).map SJ.st) (j := i) (by simpa using hix) 5 (by omega))
            simp only [List.getElem_map, List.getElem_set_self, SJ.st, St.cells, List.getElem?_cons_zero, List.getElem?_cons_succ, Nat.add_zero] at z0 z1 z2 z3 z4 z5
            have m0 := hI2.2.2.2.1.cell 0
            have m1 := hI2.2.2.2.1.cell 1
            have m2 := hI2.2.2.2.1.cell 2
            simp only [List.getElem?_toArray, List.getElem?_cons_zero, List.getElem?_cons_succ] at m0 m1 m2
            have hroom := hab2.room (s := (N.p (⟨xlf, xes, xks, xA, xc, xQ, xm⟩ : N), xat)) (by simpa [N.p] using wk1)
            simp only [SJ.ab, List.length_map] at hroom
            have hnx2 : [yB].length + lb.length ≤ 1 := hroom.2.2
            have hjl := joinP_len ([yB].map N.p) (N.p (⟨ylf, yes, yks, yA, yc, yQ, ym⟩ : N)) (lb.map N.p)
            have hk2 : ∀ x ∈ [yB] ++ [(⟨ylf, yes, yks, yA, yc, yQ, ym⟩ : N)] ++ lb, x.es.length ≤ 1000 ∧ x.ks.length ≤ 1000 := fun x hx => by
              have hab := fun hm => habs2 (N.p x) hm
              simp only [SJ.ab, small, N.p, List.length_map] at hab
              rcases List.mem_append.1 hx with hx | hx
              · rcases List.mem_append.1 hx with hx | hx
                · exact hab (List.mem_append.2 (.inl (List.mem_map.2 ⟨x, hx, rfl⟩)))
                · have e := List.mem_singleton.1 hx
                  subst e
                  exact hsm
              · exact hab (List.mem_append.2 (.inr (List.mem_map.2 ⟨x, hx, rfl⟩)))
            have lgW : g < w2.heap.size := Nat.lt_of_lt_of_le hgl hI2.2.2.2.2.2.2.2.2.2.1.size
            have lnW := hI2.2.2.2.1.lt
            have HJ := vers.lay (show ∀ wx, Below w2.heap.size w2 wx → _ from fun wx hb => join_any (⟨ylf, yes, yks, yA, yc, yQ, ym⟩ : N) [yB] lb (some ⟨gB, 0, none⟩) Ab 1 cb xlf xA xQ xes.length xc xks.length xm xat (fun q => q < w2.heap.size) wx ((hI2.2.2.2.2.2.2.2.1.mono (G := fun q => q < w2.heap.size) fun q hq => hq.1.1).agree (Agree.of_below hb fun q hq => hq)) ((hXF2.1.mono' (G := fun q => q < w2.heap.size) fun q hq => hq.1.1.1).agree (Agree.of_below hb fun q hq => hq)) ((hXF2.2.mono' (G := fun q => q < w2.heap.size) fun q hq => hq.1.1.1).agree (Agree.of_below hb fun q hq => hq)) (fun q hq => Nat.lt_of_lt_of_le hq hb.size) hk2 hnx2)
            have hKs : KsF w2 (fun q => q < w.heap.size) xks xQ xm := (hXN.2.agree (w' := w2) (hI2.2.2.2.2.2.2.2.2.2.1.agree fun q hq => ⟨(hF q hq.1).1, fun e => hq.2 e.symm⟩)).mono fun q hq => (hF q hq.1).1
            have hzW := hI2.2.2.2.2.2.2.2.2.2.1.size
            have HO := vers.lay (show ∀ (wu : World) (n : Nat) (M : Array Value), Below w2.heap.size w2 wu → M.toList = cellsK (List.replicate n zK) → M.size = n * 5 → n ≤ 2 → _ from fun wu n M hb hM hMs hn => over_zero ⟨(⟨xlf, xes, xks, xA, xc, xQ, xm⟩ : N), xat, (some ⟨gB, 0, none⟩), [yB].length, 1, Ab, lb.length, cb⟩ n (some ⟨wu.heap.size, 0, none⟩) n (fun q => q < wu.heap.size + 1) (wu.alloc (.cells M 66)) ((hKs.agree (Agree.of_below ((hb.mono (Nat.le_refl _)).trans ((Below.refl wu.heap.size wu).alloc (Nat.le_refl _) _ |>.mono hb.size)) fun q hq => by omega)).mono fun q hq => by have := hb.size; omega) (mkKids_own hM hMs hn wu) (fun q hq => by simpa using hq) hroom.1 hroom.2.1 (by simp only; omega))
            clear q0 q1 q2 q3 q4 q5 n0 n1 n2 hKs
            gi_wp2
            have hbd : Below w2.heap.size w2 w2.drew := (Below.refl _ _).drew
            refine mix.region_in l _ (fun w' => Below w2.heap.size w2 w') (fun j => j == 11) hmx (by kernel_rfl) (by rintro ⟨a, w, h⟩; exact h) ?_
            generalize w2.drew = Wd at hbd ⊢
            refine mix.D_take (i := 0) (v := ?_) rfl (by kernel_rfl) (by kernel_rfl) (fun _ _ _ h => h) (Or.inl ⟨by rfl, ?_⟩) hbd ?_
            rotate_left
            · intro w' hSw
              have y0 := (hSw.cell (p := ⟨w.heap.size + 1 + 1, 0, none⟩) lnW).trans m0
              have y1 := (hSw.cell (p := ⟨w.heap.size + 1 + 1, 1, none⟩) lnW).trans m1
              have y2 := (hSw.cell (p := ⟨w.heap.size + 1 + 1, 2, none⟩) lnW).trans m2
              have y3 := (hSw.cell (p := ⟨g, i * 6, none⟩) lgW).trans z0
              have y4 := (hSw.cell (p := ⟨g, i * 6 + 1, none⟩) lgW).trans z1
              have y5 := (hSw.cell (p := ⟨g, i * 6 + 2, none⟩) lgW).trans z2
              have y6 := (hSw.cell (p := ⟨g, i * 6 + 3, none⟩) lgW).trans z3
              have y7 := (hSw.cell (p := ⟨g, i * 6 + 4, none⟩) lgW).trans z4
              have y8 := (hSw.cell (p := ⟨g, i * 6 + 5, none⟩) lgW).trans z5
              try simp only [List.getElem_toArray, List.getElem_cons_zero, List.getElem_cons_succ]
              go_simp
              exact rfl
            try simp only [Act.put, List.setIfInBounds_toArray, List.set_cons_zero, List.set_cons_succ, List.getElem_toArray, List.getElem_cons_zero, List.getElem_cons_succ]
            refine mix.D_take (i := 1) (v := ?_) rfl (by kernel_rfl) (by kernel_rfl) (fun _ _ _ h => h) (Or.inl ⟨by rfl, ?_⟩) hbd ?_
            rotate_left
            · intro w' hSw
              have y0 := (hSw.cell (p := ⟨w.heap.size + 1 + 1, 0, none⟩) lnW).trans m0
              have y1 := (hSw.cell (p := ⟨w.heap.size + 1 + 1, 1, none⟩) lnW).trans m1
              have y2 := (hSw.cell (p := ⟨w.heap.size + 1 + 1, 2, none⟩) lnW).trans m2
              have y3 := (hSw.cell (p := ⟨g, i * 6, none⟩) lgW).trans z0
              have y4 := (hSw.cell (p := ⟨g, i * 6 + 1, none⟩) lgW).trans z1
              have y5 := (hSw.cell (p := ⟨g, i * 6 + 2, none⟩) lgW).trans z2
              have y6 := (hSw.cell (p := ⟨g, i * 6 + 3, none⟩) lgW).trans z3
              have y7 := (hSw.cell (p := ⟨g, i * 6 + 4, none⟩) lgW).trans z4
              have y8 := (hSw.cell (p := ⟨g, i * 6 + 5, none⟩) lgW).trans z5
              try simp only [List.getElem_toArray, List.getElem_cons_zero, List.getElem_cons_succ]
              go_simp
              exact rfl
            try simp only [Act.put, List.setIfInBounds_toArray, List.set_cons_zero, List.set_cons_succ, List.getElem_toArray, List.getElem_cons_zero, List.getElem_cons_succ]
            refine mix.D_take (i := 2) (v := ?_) rfl (by kernel_rfl) (by kernel_rfl) (fun _ _ _ h => h) (Or.inl ⟨by rfl, ?_⟩) hbd ?_
            rotate_left
            · intro w' hSw
              have y0 := (hSw.cell (p := ⟨w.heap.size + 1 + 1, 0, none⟩) lnW).trans m0
              have y1 := (hSw.cell (p := ⟨w.heap.size + 1 + 1, 1, none⟩) lnW).trans m1
              have y2 := (hSw.cell (p := ⟨w.heap.size + 1 + 1, 2, none⟩) lnW).trans m2
              have y3 := (hSw.cell (p := ⟨g, i * 6, none⟩) lgW).trans z0
              have y4 := (hSw.cell (p := ⟨g, i * 6 + 1, none⟩) lgW).trans z1
              have y5 := (hSw.cell (p := ⟨g, i * 6 + 2, none⟩) lgW).trans z2
              have y6 := (hSw.cell (p := ⟨g, i * 6 + 3, none⟩) lgW).trans z3
              have y7 := (hSw.cell (p := ⟨g, i * 6 + 4, none⟩) lgW).trans z4
              have y8 := (hSw.cell (p := ⟨g, i * 6 + 5, none⟩) lgW).trans z5
              try simp only [List.getElem_toArray, List.getElem_cons_zero, List.getElem_cons_succ]
              go_simp
              exact rfl
            try simp only [Act.put, List.setIfInBounds_toArray, List.set_cons_zero, List.set_cons_succ, List.getElem_toArray, List.getElem_cons_zero, List.getElem_cons_succ]
            refine mix.D_take (i := 3) (v := ?_) rfl (by kernel_rfl) (by kernel_rfl) (fun _ _ _ h => h) (Or.inl ⟨by rfl, ?_⟩) hbd ?_
            rotate_left
            · intro w' hSw
              have y0 := (hSw.cell (p := ⟨w.heap.size + 1 + 1, 0, none⟩) lnW).trans m0
              have y1 := (hSw.cell (p := ⟨w.heap.size + 1 + 1, 1, none⟩) lnW).trans m1
              have y2 := (hSw.cell (p := ⟨w.heap.size + 1 + 1, 2, none⟩) lnW).trans m2
              have y3 := (hSw.cell (p := ⟨g, i * 6, none⟩) lgW).trans z0
              have y4 := (hSw.cell (p := ⟨g, i * 6 + 1, none⟩) lgW).trans z1
              have y5 := (hSw.cell (p := ⟨g, i * 6 + 2, none⟩) lgW).trans z2
              have y6 := (hSw.cell (p := ⟨g, i * 6 + 3, none⟩) lgW).trans z3
              have y7 := (hSw.cell (p := ⟨g, i * 6 + 4, none⟩) lgW).trans z4
              have y8 := (hSw.cell (p := ⟨g, i * 6 + 5, none⟩) lgW).trans z5
              try simp only [List.getElem_toArray, List.getElem_cons_zero, List.getElem_cons_succ]
              go_simp
              exact rfl
            try simp only [Act.put, List.setIfInBounds_toArray, List.set_cons_zero, List.set_cons_succ, List.getElem_toArray, List.getElem_cons_zero, List.getElem_cons_succ]
            refine mix.D_take (i := 4) (v := ?_) rfl (by kernel_rfl) (by kernel_rfl) (fun _ _ _ h => h) (Or.inl ⟨by rfl, ?_⟩) hbd ?_
            rotate_left
            · intro w' hSw
              have y0 := (hSw.cell (p := ⟨w.heap.size + 1 + 1, 0, none⟩) lnW).trans m0
              have y1 := (hSw.cell (p := ⟨w.heap.size + 1 + 1, 1, none⟩) lnW).trans m1
              have y2 := (hSw.cell (p := ⟨w.heap.size + 1 + 1, 2, none⟩) lnW).trans m2
              have y3 := (hSw.cell (p := ⟨g, i * 6, none⟩) lgW).trans z0
              have y4 := (hSw.cell (p := ⟨g, i * 6 + 1, none⟩) lgW).trans z1
              have y5 := (hSw.cell (p := ⟨g, i * 6 + 2, none⟩) lgW).trans z2
              have y6 := (hSw.cell (p := ⟨g, i * 6 + 3, none⟩) lgW).trans z3
              have y7 := (hSw.cell (p := ⟨g, i * 6 + 4, none⟩) lgW).trans z4
              have y8 := (hSw.cell (p := ⟨g, i * 6 + 5, none⟩) lgW).trans z5
              try simp only [List.getElem_toArray, List.getElem_cons_zero, List.getElem_cons_succ]
              go_simp
              exact rfl
            try simp only [Act.put, List.setIfInBounds_toArray, List.set_cons_zero, List.set_cons_succ, List.getElem_toArray, List.getElem_cons_zero, List.getElem_cons_succ]
            refine mix.D_take (i := 5) (v := ?_) rfl (by kernel_rfl) (by kernel_rfl) (fun _ _ _ h => h) (Or.inl ⟨by rfl, ?_⟩) hbd ?_
            rotate_left
            · intro w' hSw
              have y0 := (hSw.cell (p := ⟨w.heap.size + 1 + 1, 0, none⟩) lnW).trans m0
              have y1 := (hSw.cell (p := ⟨w.heap.size + 1 + 1, 1, none⟩) lnW).trans m1
              have y2 := (hSw.cell (p := ⟨w.heap.size + 1 + 1, 2, none⟩) lnW).trans m2
              have y3 := (hSw.cell (p := ⟨g, i * 6, none⟩) lgW).trans z0
              have y4 := (hSw.cell (p := ⟨g, i * 6 + 1, none⟩) lgW).trans z1
              have y5 := (hSw.cell (p := ⟨g, i * 6 + 2, none⟩) lgW).trans z2
              have y6 := (hSw.cell (p := ⟨g, i * 6 + 3, none⟩) lgW).trans z3
              have y7 := (hSw.cell (p := ⟨g, i * 6 + 4, none⟩) lgW).trans z4
              have y8 := (hSw.cell (p := ⟨g, i * 6 + 5, none⟩) lgW).trans z5
              try simp only [List.getElem_toArray, List.getElem_cons_zero, List.getElem_cons_succ]
              go_simp
              exact rfl
            try simp only [Act.put, List.setIfInBounds_toArray, List.set_cons_zero, List.set_cons_succ, List.getElem_toArray, List.getElem_cons_zero, List.getElem_cons_succ]
            refine mix.D_take (i := 6) (v := ?_) rfl (by kernel_rfl) (by kernel_rfl) (fun _ _ _ h => h) (Or.inl ⟨by rfl, ?_⟩) hbd ?_
            rotate_left
            · intro w' hSw
              have y0 := (hSw.cell (p := ⟨w.heap.size + 1 + 1, 0, none⟩) lnW).trans m0
              have y1 := (hSw.cell (p := ⟨w.heap.size + 1 + 1, 1, none⟩) lnW).trans m1
              have y2 := (hSw.cell (p := ⟨w.heap.size + 1 + 1, 2, none⟩) lnW).trans m2
              have y3 := (hSw.cell (p := ⟨g, i * 6, none⟩) lgW).trans z0
              have y4 := (hSw.cell (p := ⟨g, i * 6 + 1, none⟩) lgW).trans z1
              have y5 := (hSw.cell (p := ⟨g, i * 6 + 2, none⟩) lgW).trans z2
              have y6 := (hSw.cell (p := ⟨g, i * 6 + 3, none⟩) lgW).trans z3
              have y7 := (hSw.cell (p := ⟨g, i * 6 + 4, none⟩) lgW).trans z4
              have y8 := (hSw.cell (p := ⟨g, i * 6 + 5, none⟩) lgW).trans z5
              try simp only [List.getElem_toArray, List.getElem_cons_zero, List.getElem_cons_succ]
              go_simp
              exact rfl
            try simp only [Act.put, List.setIfInBounds_toArray, List.set_cons_zero, List.set_cons_succ, List.getElem_toArray, List.getElem_cons_zero, List.getElem_cons_succ]
            refine mix.D_op (k := 7) rfl rfl (by kernel_rfl) (fun K' hK => ?_)
            simp only [List.getElem_toArray, List.getElem_cons_zero, List.getElem_cons_succ]
            go_wp2_with fail
            refine (HJ.out _ hbd).mono ?_
            rintro e w3 ⟨l3, A3, c3, rfl, e3, _, b3⟩
            have hS3 := hbd.trans (b3.mono hbd.size)
            have hl3 : l3.length = (joinP ([yB].map N.p) (N.p (⟨ylf, yes, yks, yA, yc, yQ, ym⟩ : N)) (lb.map N.p)).length := by rw [← e3, List.length_map]
            generalize hn3 : (joinP ([yB].map N.p) (N.p (⟨ylf, yes, yks, yA, yc, yQ, ym⟩ : N)) (lb.map N.p)).length = n3 at hjl hl3
            rw [hl3]
            refine hK.out _ _ (fun _ => hS3) ?_
            clear hK K'
            try simp only [Act.put, List.setIfInBounds_toArray, List.set_cons_zero, List.set_cons_succ]
            refine mix.D_op (k := 8) rfl rfl (by kernel_rfl) (fun K' hK => ?_)
            simp only [List.getElem_toArray, List.getElem_cons_zero, List.getElem_cons_succ]
            go_wp2_with fail
            refine hK.out _ _ (fun _ => hS3) ?_
            clear hK K'
            try simp only [Act.put, List.setIfInBounds_toArray, List.set_cons_zero, List.set_cons_succ]
            refine mix.D_op (k := 9) rfl rfl (by kernel_rfl) (fun K' hK => ?_)
            simp only [List.getElem_toArray, List.getElem_cons_zero, List.getElem_cons_succ]
            obtain ⟨M, hmk, hM, hMs⟩ := mkKids n3 (by omega)
            go_wp2_with fail
            have hS4 := hS3.alloc hS3.size (.cells M 66)
            refine hK.out _ _ (fun _ => hS4) ?_
            clear hK K'
            try simp only [Act.put, List.setIfInBounds_toArray, List.set_cons_zero, List.set_cons_succ]
            refine mix.D_op (k := 10) rfl rfl (by kernel_rfl) (fun K' hK => ?_)
            simp only [List.getElem_toArray, List.getElem_cons_zero, List.getElem_cons_succ]
            go_wp2_with fail
            refine ((HO.out w3 n3 M hS3 hM hMs hjl.2)).mono ?_
            rintro e w6 ⟨v6, rfl, ho6, hb6⟩
            have hS6 := hS4.trans (hb6.mono hS4.size)
            obtain ⟨A6, c6, rfl, hy6⟩ := child_ns (v := .slice (some ⟨g, 0, none⟩) way.length c) (n := n3) hXN (fun q hq => (hF q hq).1) (hI2.2.2.2.2.2.2.2.2.2.1.seq hS6) (by have := hI2.2.2.2.2.2.2.2.2.2.2; have := hS4.size; omega) hRl ho6 wk2 hjl.2
            have hI9 := hI2.child hS6 hy6
            have kn6 := (hI2.2.2.2.1.below hS6 lnW)
            have f0 := kn6.frozen 0
            have f1 := kn6.frozen 1
            have f2 := kn6.frozen 2
            have m0 := kn6.cell 0
            have m1 := kn6.cell 1
            have m2 := kn6.cell 2
            simp only [List.getElem?_toArray, List.getElem?_cons_zero, List.getElem?_cons_succ] at m0 m1 m2
            have ln6 := kn6.lt
            refine hK.out _ _ (fun _ => hS6) ?_
            clear hK K'
            try simp only [Act.put, List.setIfInBounds_toArray, List.set_cons_zero, List.set_cons_succ]
            refine mix.D_op (k := 11) rfl rfl (by kernel_rfl) (fun K' hK => ?_)
            simp only [List.getElem_toArray, List.getElem_cons_zero, List.getElem_cons_succ]
            go_wp2_with fail
            refine hK.out _ _ (fun h => by simp at h) ?_
            clear hK K'
            refine mix.D_done (by kernel_rfl) ?_ _
            try simp only [Act.put, List.setIfInBounds_toArray, List.set_cons_zero, List.set_cons_succ, List.getElem_toArray, List.getElem_cons_zero, List.getElem_cons_succ]
            have k9 := set3_heap w6 (w.heap.size + 1 + 1) (.bool xlf) (.slice xA xes.length xc) (.slice A6 (overK xks xat [yB].length lb.length (List.replicate n3 zK)).length c6)
            have hK9 : Keep (fun q => q = g ∨ q = w.heap.size + 1 + 1) W (set3 w6 (w.heap.size + 1 + 1) (.bool xlf) (.slice xA xes.length xc) (.slice A6 (overK xks xat [yB].length lb.length (List.replicate n3 zK)).length c6)) := by
              have h6 := hKW.seq hS6
              have bl := set3_below (Below.refl 0 w6) (g := w.heap.size + 1 + 1) (Nat.zero_le _) (.bool xlf) (.slice xA xes.length xc) (.slice A6 (overK xks xat [yB].length lb.length (List.replicate n3 zK)).length c6)
              exact ⟨bl.os.trans h6.os, bl.tape.trans h6.tape, bl.output.trans h6.output, Nat.le_trans h6.size bl.size, fun k hk hn => (k9 k fun e => hn (.inr e)).trans (h6.block k hk hn)⟩
            have k59 := hK9.blk k5' (fun e => by rcases e with e | e <;> omega)
            refine ⟨keepsFrom_keep _ hK9 (fun q hq => ?_), fun _ => hI9.rowB _ (by have := k59.cell 0; simpa using this) hm112, ⟨_, (by rw [List.map_append]; exact (neighX_snoc i HST.out).trans HN.out), ⟨_, _, ?_, HA2.out, hI9⟩⟩, k59⟩
            · rcases hq with rfl | rfl
              · exact (hI.2.2.2.2.2.2.1 _ rfl).1
              · exact isC_blk hI.2.2.2.1
            · simp only [childX, N.p, SJ.ab, List.length_map, ← hn3]

      · have d2 : decide ((1 : Int) < (xks.length : Int)) = false := decide_eq_false (by omega)
        gi_wp2_with (refine ⟨trivial, ?_⟩; gi_at_call 86; refine (CallsIn.inRound l (callsIn_wide.2 HPa.out)).mono ?_; rintro e w1 ⟨rfl, hb1⟩; have p2 := (hb1.cell (p := ⟨g, i * 6 + 2, none⟩) lg).trans q2; have c01 := (hb1.cell (p := ⟨w.heap.size, 0, none⟩) lB0).trans c0; have n01 := (hb1.cell (p := ⟨w.heap.size + 1 + 1, 0, none⟩) lB2).trans n0)
        have hI2 := hI.below hb1
        rw [← Hslf.out] at hI2
        have hXF2 := hI2.2.2.2.2.2.2.2.2.1 _ (List.mem_set (by omega) _)
        have hn0 := nstepX_ok (ns := ns) HXp.out HXab.out HY.out (bes_no (ns := ns) (s := (N.p (⟨xlf, xes, xks, xA, xc, xQ, xm⟩ : N), xat)) (d := i + 2) (y := N.p (⟨ylf, yes, yks, yA, yc, yQ, ym⟩ : N)) (fun hh => hk1 (by simpa [N.p] using hh.2)))
        rw [abOf_none] at hn0
        have HN := vers.lay hn0
        clear hn0
        have HA2 := vers.lay (Hset.out (⟨(⟨xlf, xes, xks, xA, xc, xQ, xm⟩ : N), xat, la, Aa, ca, lb, Ab, cb⟩ : SJ))
        have hKW : Keep (fun q => q = g ∨ q = w.heap.size + 1 + 1) W w1 := Keep.of_below hb1
        have hab2 := hab0
        have habs2 := habs
        have hrow2 := hI2.2.2.2.2.2.1
        have z0 := (hrow2.cellAt (i * 6 + 0) (by omega)).trans (cellsS_at ((xs.set i (⟨(⟨xlf, xes, xks, xA, xc, xQ, xm⟩ : N), xat, la, Aa, ca, lb, Ab, cb⟩ : SJ)).map SJ.st) (j := i) (by simpa using hix) 0 (by omega))
        have z1 := (hrow2.cellAt (i * 6 + 1) (by omega)).trans (cellsS_at ((xs.set i (⟨(⟨xlf, xes, xks, xA, xc, xQ, xm⟩ : N), xat, la, Aa, ca, lb, Ab, cb⟩ : SJ)).map SJ.st) (j := i) (by simpa using hix) 1 (by omega))
        have z2 := (hrow2.cellAt (i * 6 + 2) (by omega)).trans (cellsS_at ((xs.set i (⟨(⟨xlf, xes, xks, xA, xc, xQ, xm⟩ : N), xat, la, Aa, ca, lb, Ab, cb⟩ : SJ)).map SJ.st) (j := i) (by simpa using hix) 2 (by omega))
        have z3 := (hrow2.cellAt (i * 6 + 3) (by omega)).trans (cellsS_at ((xs.set i (⟨(⟨xlf, xes, xks, xA, xc, xQ, xm⟩ : N), xat, la, Aa, ca, lb, Ab, cb⟩ : SJ)).map SJ.st) (j := i) (by simpa using hix) 3 (by omega))
        have z4 := (hrow2.cellAt (i * 6 + 4) (by omega)).trans (cellsS_at ((xs.set i (⟨(⟨xlf, xes, xks, xA, xc, xQ, xm⟩ : N), xat, la, Aa, ca, lb, Ab, cb⟩ : SJ)).map SJ.st) (j := i) (by simpa using hix) 4 (by omega))
        have z5 := (hrow2.cellAt (i * 6 + 5) (by omega)).trans (cellsS_at ((xs.set i (⟨(⟨xlf, xes, xks, xA, xc, xQ, xm⟩ : N), xat, la, Aa, ca, lb, Ab, cb⟩ : SJ)).map SJ.st) (j := i) (by simpa using hix) 5 (by omega))
        simp only [List.getElem_map, List.getElem_set_self, SJ.st, St.cells, List.getElem?_cons_zero, List.getElem?_cons_succ, Nat.add_zero] at z0 z1 z2 z3 z4 z5
        have m0 := hI2.2.2.2.1.cell 0
        have m1 := hI2.2.2.2.1.cell 1
        have m2 := hI2.2.2.2.1.cell 2
        simp only [List.getElem?_toArray, List.getElem?_cons_zero, List.getElem?_cons_succ] at m0 m1 m2
        have hroom := hab2.room (s := (N.p (⟨xlf, xes, xks, xA, xc, xQ, xm⟩ : N), xat)) (by simpa [N.p] using wk1)
        simp only [SJ.ab, List.length_map] at hroom
        have hnx2 : la.length + lb.length ≤ 1 := hroom.2.2
        have hjl := joinP_len (la.map N.p) (N.p (⟨ylf, yes, yks, yA, yc, yQ, ym⟩ : N)) (lb.map N.p)
        have hk2 : ∀ x ∈ la ++ [(⟨ylf, yes, yks, yA, yc, yQ, ym⟩ : N)] ++ lb, x.es.length ≤ 1000 ∧ x.ks.length ≤ 1000 := fun x hx => by
          have hab := fun hm => habs2 (N.p x) hm
          simp only [SJ.ab, small, N.p, List.length_map] at hab
          rcases List.mem_append.1 hx with hx | hx
          · rcases List.mem_append.1 hx with hx | hx
            · exact hab (List.mem_append.2 (.inl (List.mem_map.2 ⟨x, hx, rfl⟩)))
            · have e := List.mem_singleton.1 hx
              subst e
              exact hsm
          · exact hab (List.mem_append.2 (.inr (List.mem_map.2 ⟨x, hx, rfl⟩)))
        have lgW : g < w1.heap.size := Nat.lt_of_lt_of_le hgl hI2.2.2.2.2.2.2.2.2.2.1.size
        have lnW := hI2.2.2.2.1.lt
        have HJ := vers.lay (show ∀ wx, Below w1.heap.size w1 wx → _ from fun wx hb => join_any (⟨ylf, yes, yks, yA, yc, yQ, ym⟩ : N) la lb Aa Ab ca cb xlf xA xQ xes.length xc xks.length xm xat (fun q => q < w1.heap.size) wx ((hI2.2.2.2.2.2.2.2.1.mono (G := fun q => q < w1.heap.size) fun q hq => hq.1.1).agree (Agree.of_below hb fun q hq => hq)) ((hXF2.1.mono' (G := fun q => q < w1.heap.size) fun q hq => hq.1.1.1).agree (Agree.of_below hb fun q hq => hq)) ((hXF2.2.mono' (G := fun q => q < w1.heap.size) fun q hq => hq.1.1.1).agree (Agree.of_below hb fun q hq => hq)) (fun q hq => Nat.lt_of_lt_of_le hq hb.size) hk2 hnx2)
        have hKs : KsF w1 (fun q => q < w.heap.size) xks xQ xm := (hXN.2.agree (w' := w1) (hI2.2.2.2.2.2.2.2.2.2.1.agree fun q hq => ⟨(hF q hq.1).1, fun e => hq.2 e.symm⟩)).mono fun q hq => (hF q hq.1).1
        have hzW := hI2.2.2.2.2.2.2.2.2.2.1.size
        have HO := vers.lay (show ∀ (wu : World) (n : Nat) (M : Array Value), Below w1.heap.size w1 wu → M.toList = cellsK (List.replicate n zK) → M.size = n * 5 → n ≤ 2 → _ from fun wu n M hb hM hMs hn => over_zero ⟨(⟨xlf, xes, xks, xA, xc, xQ, xm⟩ : N), xat, Aa, la.length, ca, Ab, lb.length, cb⟩ n (some ⟨wu.heap.size, 0, none⟩) n (fun q => q < wu.heap.size + 1) (wu.alloc (.cells M 66)) ((hKs.agree (Agree.of_below ((hb.mono (Nat.le_refl _)).trans ((Below.refl wu.heap.size wu).alloc (Nat.le_refl _) _ |>.mono hb.size)) fun q hq => by omega)).mono fun q hq => by have := hb.size; omega) (mkKids_own hM hMs hn wu) (fun q hq => by simpa using hq) hroom.1 hroom.2.1 (by simp only; omega))
        clear q0 q1 q2 q3 q4 q5 n0 n1 n2 hKs
        gi_wp2
        have hbd : Below w1.heap.size w1 w1.drew := (Below.refl _ _).drew
        refine mix.region_in l _ (fun w' => Below w1.heap.size w1 w') (fun j => j == 11) hmx (by kernel_rfl) (by rintro ⟨a, w, h⟩; exact h) ?_
        generalize w1.drew = Wd at hbd ⊢
        refine mix.D_take (i := 0) (v := ?_) rfl (by kernel_rfl) (by kernel_rfl) (fun _ _ _ h => h) (Or.inl ⟨by rfl, ?_⟩) hbd ?_
        rotate_left
        · intro w' hSw
          have y0 := (hSw.cell (p := ⟨w.heap.size + 1 + 1, 0, none⟩) lnW).trans m0
          have y1 := (hSw.cell (p := ⟨w.heap.size + 1 + 1, 1, none⟩) lnW).trans m1
          have y2 := (hSw.cell (p := ⟨w.heap.size + 1 + 1, 2, none⟩) lnW).trans m2
          have y3 := (hSw.cell (p := ⟨g, i * 6, none⟩) lgW).trans z0
          have y4 := (hSw.cell (p := ⟨g, i * 6 + 1, none⟩) lgW).trans z1
          have y5 := (hSw.cell (p := ⟨g, i * 6 + 2, none⟩) lgW).trans z2
          have y6 := (hSw.cell (p := ⟨g, i * 6 + 3, none⟩) lgW).trans z3
          have y7 := (hSw.cell (p := ⟨g, i * 6 + 4, none⟩) lgW).trans z4
          have y8 := (hSw.cell (p := ⟨g, i * 6 + 5, none⟩) lgW).trans z5
          try simp only [List.getElem_toArray, List.getElem_cons_zero, List.getElem_cons_succ]
          go_simp
          exact rfl
        try simp only [Act.put, List.setIfInBounds_toArray, List.set_cons_zero, List.set_cons_succ, List.getElem_toArray, List.getElem_cons_zero, List.getElem_cons_succ]
        refine mix.D_take (i := 1) (v := ?_) rfl (by kernel_rfl) (by kernel_rfl) (fun _ _ _ h => h) (Or.inl ⟨by rfl, ?_⟩) hbd ?_
        rotate_left
        · intro w' hSw
          have y0 := (hSw.cell (p := ⟨w.heap.size + 1 + 1, 0, none⟩) lnW).trans m0
          have y1 := (hSw.cell (p := ⟨w.heap.size + 1 + 1, 1, none⟩) lnW).trans m1
          have y2 := (hSw.cell (p := ⟨w.heap.size + 1 + 1, 2, none⟩) lnW).trans m2
          have y3 := (hSw.cell (p := ⟨g, i * 6, none⟩) lgW).trans z0
          have y4 := (hSw.cell (p := ⟨g, i * 6 + 1, none⟩) lgW).trans z1
          have y5 := (hSw.cell (p := ⟨g, i * 6 + 2, none⟩) lgW).trans z2
          have y6 := (hSw.cell (p := ⟨g, i * 6 + 3, none⟩) lgW).trans z3
          have y7 := (hSw.cell (p := ⟨g, i * 6 + 4, none⟩) lgW).trans z4
          have y8 := (hSw.cell (p := ⟨g, i * 6 + 5, none⟩) lgW).trans z5
          try simp only [List.getElem_toArray, List.getElem_cons_zero, List.getElem_cons_succ]
          go_simp
          exact rfl
        try simp only [Act.put, List.setIfInBounds_toArray, List.set_cons_zero, List.set_cons_succ, List.getElem_toArray, List.getElem_cons_zero, List.getElem_cons_succ]
        refine mix.D_take (i := 2) (v := ?_) rfl (by kernel_rfl) (by kernel_rfl) (fun _ _ _ h => h) (Or.inl ⟨by rfl, ?_⟩) hbd ?_
        rotate_left
        · intro w' hSw
          have y0 := (hSw.cell (p := ⟨w.heap.size + 1 + 1, 0, none⟩) lnW).trans m0
          have y1 := (hSw.cell (p := ⟨w.heap.size + 1 + 1, 1, none⟩) lnW).trans m1
          have y2 := (hSw.cell (p := ⟨w.heap.size + 1 + 1, 2, none⟩) lnW).trans m2
          have y3 := (hSw.cell (p := ⟨g, i * 6, none⟩) lgW).trans z0
          have y4 := (hSw.cell (p := ⟨g, i * 6 + 1, none⟩) lgW).trans z1
          have y5 := (hSw.cell (p := ⟨g, i * 6 + 2, none⟩) lgW).trans z2
          have y6 := (hSw.cell (p := ⟨g, i * 6 + 3, none⟩) lgW).trans z3
          have y7 := (hSw.cell (p := ⟨g, i * 6 + 4, none⟩) lgW).trans z4
          have y8 := (hSw.cell (p := ⟨g, i * 6 + 5, none⟩) lgW).trans z5
          try simp only [List.getElem_toArray, List.getElem_cons_zero, List.getElem_cons_succ]
          go_simp
          exact rfl
        try simp only [Act.put, List.setIfInBounds_toArray, List.set_cons_zero, List.set_cons_succ, List.getElem_toArray, List.getElem_cons_zero, List.getElem_cons_succ]
        refine mix.D_take (i := 3) (v := ?_) rfl (by kernel_rfl) (by kernel_rfl) (fun _ _ _ h => h) (Or.inl ⟨by rfl, ?_⟩) hbd ?_
        rotate_left
        · intro w' hSw
          have y0 := (hSw.cell (p := ⟨w.heap.size + 1 + 1, 0, none⟩) lnW).trans m0
          have y1 := (hSw.cell (p := ⟨w.heap.size + 1 + 1, 1, none⟩) lnW).trans m1
          have y2 := (hSw.cell (p := ⟨w.heap.size + 1 + 1, 2, none⟩) lnW).trans m2
          have y3 := (hSw.cell (p := ⟨g, i * 6, none⟩) lgW).trans z0
          have y4 := (hSw.cell (p := ⟨g, i * 6 + 1, none⟩) lgW).trans z1
          have y5 := (hSw.cell (p := ⟨g, i * 6 + 2, none⟩) lgW).trans z2
          have y6 := (hSw.cell (p := ⟨g, i * 6 + 3, none⟩) lgW).trans z3
          have y7 := (hSw.cell (p := ⟨g, i * 6 + 4, none⟩) lgW).trans z4
          have y8 := (hSw.cell (p := ⟨g, i * 6 + 5, none⟩) lgW).trans z5
          try simp only [List.getElem_toArray, List.getElem_cons_zero, List.getElem_cons_succ]
          go_simp
          exact rfl
        try simp only [Act.put, List.setIfInBounds_toArray, List.set_cons_zero, List.set_cons_succ, List.getElem_toArray, List.getElem_cons_zero, List.getElem_cons_succ]
        refine mix.D_take (i := 4) (v := ?_) rfl (by kernel_rfl) (by kernel_rfl) (fun _ _ _ h => h) (Or.inl ⟨by rfl, ?_⟩) hbd ?_
        rotate_left
        · intro w' hSw
          have y0 := (hSw.cell (p := ⟨w.heap.size + 1 + 1, 0, none⟩) lnW).trans m0
          have y1 := (hSw.cell (p := ⟨w.heap.size + 1 + 1, 1, none⟩) lnW).trans m1
          have y2 := (hSw.cell (p := ⟨w.heap.size + 1 + 1, 2, none⟩) lnW).trans m2
          have y3 := (hSw.cell (p := ⟨g, i * 6, none⟩) lgW).trans z0
          have y4 := (hSw.cell (p := ⟨g, i * 6 + 1, none⟩) lgW).trans z1
          have y5 := (hSw.cell (p := ⟨g, i * 6 + 2, none⟩) lgW).trans z2
          have y6 := (hSw.cell (p := ⟨g, i * 6 + 3, none⟩) lgW).trans z3
          have y7 := (hSw.cell (p := ⟨g, i * 6 + 4, none⟩) lgW).trans z4
          have y8 := (hSw.cell (p := ⟨g, i * 6 + 5, none⟩) lgW).trans z5
          try simp only [List.getElem_toArray, List.getElem_cons_zero, List.getElem_cons_succ]
          go_simp
          exact rfl
        try simp only [Act.put, List.setIfInBounds_toArray, List.set_cons_zero, List.set_cons_succ, List.getElem_toArray, List.getElem_cons_zero, List.getElem_cons_succ]
        refine mix.D_take (i := 5) (v := ?_) rfl (by kernel_rfl) (by kernel_rfl) (fun _ _ _ h => h) (Or.inl ⟨by rfl, ?_⟩) hbd ?_
        rotate_left
        · intro w' hSw
          have y0 := (hSw.cell (p := ⟨w.heap.size + 1 + 1, 0, none⟩) lnW).trans m0
          have y1 := (hSw.cell (p := ⟨w.heap.size + 1 + 1, 1, none⟩) lnW).trans m1
          have y2 := (hSw.cell (p := ⟨w.heap.size + 1 + 1, 2, none⟩) lnW).trans m2
          have y3 := (hSw.cell (p := ⟨g, i * 6, none⟩) lgW).trans z0
          have y4 := (hSw.cell (p := ⟨g, i * 6 + 1, none⟩) lgW).trans z1
          have y5 := (hSw.cell (p := ⟨g, i * 6 + 2, none⟩) lgW).trans z2
          have y6 := (hSw.cell (p := ⟨g, i * 6 + 3, none⟩) lgW).trans z3
          have y7 := (hSw.cell (p := ⟨g, i * 6 + 4, none⟩) lgW).trans z4
          have y8 := (hSw.cell (p := ⟨g, i * 6 + 5, none⟩) lgW).trans z5
          try simp only [List.getElem_toArray, List.getElem_cons_zero, List.getElem_cons_succ]
          go_simp
          exact rfl
        try simp only [Act.put, List.setIfInBounds_toArray, List.set_cons_zero, List.set_cons_succ, List.getElem_toArray, List.getElem_cons_zero, List.getElem_cons_succ]
        refine mix.D_take (i := 6) (v := ?_) rfl (by kernel_rfl) (by kernel_rfl) (fun _ _ _ h => h) (Or.inl ⟨by rfl, ?_⟩) hbd ?_
        rotate_left
        · intro w' hSw
          have y0 := (hSw.cell (p := ⟨w.heap.size + 1 + 1, 0, none⟩) lnW).trans m0
          have y1 := (hSw.cell (p := ⟨w.heap.size + 1 + 1, 1, none⟩) lnW).trans m1
          have y2 := (hSw.cell (p := ⟨w.heap.size + 1 + 1, 2, none⟩) lnW).trans m2
          have y3 := (hSw.cell (p := ⟨g, i * 6, none⟩) lgW).trans z0
          have y4 := (hSw.cell (p := ⟨g, i * 6 + 1, none⟩) lgW).trans z1
          have y5 := (hSw.cell (p := ⟨g, i * 6 + 2, none⟩) lgW).trans z2
          have y6 := (hSw.cell (p := ⟨g, i * 6 + 3, none⟩) lgW).trans z3
          have y7 := (hSw.cell (p := ⟨g, i * 6 + 4, none⟩) lgW).trans z4
          have y8 := (hSw.cell (p := ⟨g, i * 6 + 5, none⟩) lgW).trans z5
          try simp only [List.getElem_toArray, List.getElem_cons_zero, List.getElem_cons_succ]
          go_simp
          exact rfl
        try simp only [Act.put, List.setIfInBounds_toArray, List.set_cons_zero, List.set_cons_succ, List.getElem_toArray, List.getElem_cons_zero, List.getElem_cons_succ]
        refine mix.D_op (k := 7) rfl rfl (by kernel_rfl) (fun K' hK => ?_)
        simp only [List.getElem_toArray, List.getElem_cons_zero, List.getElem_cons_succ]
        go_wp2_with fail
        refine (HJ.out _ hbd).mono ?_
        rintro e w3 ⟨l3, A3, c3, rfl, e3, _, b3⟩
        have hS3 := hbd.trans (b3.mono hbd.size)
        have hl3 : l3.length = (joinP (la.map N.p) (N.p (⟨ylf, yes, yks, yA, yc, yQ, ym⟩ : N)) (lb.map N.p)).length := by rw [← e3, List.length_map]
        generalize hn3 : (joinP (la.map N.p) (N.p (⟨ylf, yes, yks, yA, yc, yQ, ym⟩ : N)) (lb.map N.p)).length = n3 at hjl hl3
        rw [hl3]
        refine hK.out _ _ (fun _ => hS3) ?_
        clear hK K'
        try simp only [Act.put, List.setIfInBounds_toArray, List.set_cons_zero, List.set_cons_succ]
        refine mix.D_op (k := 8) rfl rfl (by kernel_rfl) (fun K' hK => ?_)
        simp only [List.getElem_toArray, List.getElem_cons_zero, List.getElem_cons_succ]
        go_wp2_with fail
        refine hK.out _ _ (fun _ => hS3) ?_
        clear hK K'
        try simp only [Act.put, List.setIfInBounds_toArray, List.set_cons_zero, List.set_cons_succ]
        refine mix.D_op (k := 9) rfl rfl (by kernel_rfl) (fun K' hK => ?_)
        simp only [List.getElem_toArray, List.getElem_cons_zero, List.getElem_cons_succ]
        obtain ⟨M, hmk, hM, hMs⟩ := mkKids n3 (by omega)
        go_wp2_with fail
        have hS4 := hS3.alloc hS3.size (.cells M 66)
        refine hK.out _ _ (fun _ => hS4) ?_
        clear hK K'
        try simp only [Act.put, List.setIfInBounds_toArray, List.set_cons_zero, List.set_cons_succ]
        refine mix.D_op (k := 10) rfl rfl (by kernel_rfl) (fun K' hK => ?_)
        simp only [List.getElem_toArray, List.getElem_cons_zero, List.getElem_cons_succ]
        go_wp2_with fail
        refine ((HO.out w3 n3 M hS3 hM hMs hjl.2)).mono ?_
        rintro e w6 ⟨v6, rfl, ho6, hb6⟩
        have hS6 := hS4.trans (hb6.mono hS4.size)
        obtain ⟨A6, c6, rfl, hy6⟩ := child_ns (v := .slice (some ⟨g, 0, none⟩) way.length c) (n := n3) hXN (fun q hq => (hF q hq).1) (hI2.2.2.2.2.2.2.2.2.2.1.seq hS6) (by have := hI2.2.2.2.2.2.2.2.2.2.2; have := hS4.size; omega) hRl ho6 wk2 hjl.2
        have hI9 := hI2.child hS6 hy6
        have kn6 := (hI2.2.2.2.1.below hS6 lnW)
        have f0 := kn6.frozen 0
        have f1 := kn6.frozen 1
        have f2 := kn6.frozen 2
        have m0 := kn6.cell 0
        have m1 := kn6.cell 1
        have m2 := kn6.cell 2
        simp only [List.getElem?_toArray, List.getElem?_cons_zero, List.getElem?_cons_succ] at m0 m1 m2
        have ln6 := kn6.lt
        refine hK.out _ _ (fun _ => hS6) ?_
        clear hK K'
        try simp only [Act.put, List.setIfInBounds_toArray, List.set_cons_zero, List.set_cons_succ]
        refine mix.D_op (k := 11) rfl rfl (by kernel_rfl) (fun K' hK => ?_)
        simp only [List.getElem_toArray, List.getElem_cons_zero, List.getElem_cons_succ]
        go_wp2_with fail
        refine hK.out _ _ (fun h => by simp at h) ?_
        clear hK K'
        refine mix.D_done (by kernel_rfl) ?_ _
        try simp only [Act.put, List.setIfInBounds_toArray, List.set_cons_zero, List.set_cons_succ, List.getElem_toArray, List.getElem_cons_zero, List.getElem_cons_succ]
        have k9 := set3_heap w6 (w.heap.size + 1 + 1) (.bool xlf) (.slice xA xes.length xc) (.slice A6 (overK xks xat la.length lb.length (List.replicate n3 zK)).length c6)
        have hK9 : Keep (fun q => q = g ∨ q = w.heap.size + 1 + 1) W (set3 w6 (w.heap.size + 1 + 1) (.bool xlf) (.slice xA xes.length xc) (.slice A6 (overK xks xat la.length lb.length (List.replicate n3 zK)).length c6)) := by
          have h6 := hKW.seq hS6
          have bl := set3_below (Below.refl 0 w6) (g := w.heap.size + 1 + 1) (Nat.zero_le _) (.bool xlf) (.slice xA xes.length xc) (.slice A6 (overK xks xat la.length lb.length (List.replicate n3 zK)).length c6)
          exact ⟨bl.os.trans h6.os, bl.tape.trans h6.tape, bl.output.trans h6.output, Nat.le_trans h6.size bl.size, fun k hk hn => (k9 k fun e => hn (.inr e)).trans (h6.block k hk hn)⟩
        have k59 := hK9.blk k5' (fun e => by rcases e with e | e <;> omega)
        refine ⟨keepsFrom_keep _ hK9 (fun q hq => ?_), fun _ => hI9.rowB _ (by have := k59.cell 0; simpa using this) hm112, ⟨_, (by rw [List.map_append]; exact (neighX_snoc i HST.out).trans HN.out), ⟨_, _, ?_, HA2.out, hI9⟩⟩, k59⟩
        · rcases hq with rfl | rfl
          · exact (hI.2.2.2.2.2.2.1 _ rfl).1
          · exact isC_blk hI.2.2.2.1
        · simp only [childX, N.p, SJ.ab, List.length_map, ← hn3]

    · have d1 : decide ((np : Int) < 2) = false := decide_eq_false (by omega)
      gi_wp2_with (refine ⟨trivial, ?_⟩; gi_at_call 86; refine (CallsIn.inRound l (callsIn_wide.2 HPa.out)).mono ?_; rintro e w1 ⟨rfl, hb1⟩)
      have hI2 := hI.below hb1
      rw [← Hslf.out] at hI2
      have hXF2 := hI2.2.2.2.2.2.2.2.2.1 _ (List.mem_set (by omega) _)
      have hn0 := nstepX_ok (ns := ns) HXp.out HXab.out HY.out (bes_no (ns := ns) (s := (N.p (⟨xlf, xes, xks, xA, xc, xQ, xm⟩ : N), xat)) (d := i + 2) (y := N.p (⟨ylf, yes, yks, yA, yc, yQ, ym⟩ : N)) (fun hh => hp (by rw [HNP.out]; exact hh.1)))
      rw [abOf_none] at hn0
      have HN := vers.lay hn0
      clear hn0
      have HA2 := vers.lay (Hset.out (⟨(⟨xlf, xes, xks, xA, xc, xQ, xm⟩ : N), xat, la, Aa, ca, lb, Ab, cb⟩ : SJ))
      have hKW : Keep (fun q => q = g ∨ q = w.heap.size + 1 + 1) W w1 := Keep.of_below hb1
      have hab2 := hab0
      have habs2 := habs
      have hrow2 := hI2.2.2.2.2.2.1
      have z0 := (hrow2.cellAt (i * 6 + 0) (by omega)).trans (cellsS_at ((xs.set i (⟨(⟨xlf, xes, xks, xA, xc, xQ, xm⟩ : N), xat, la, Aa, ca, lb, Ab, cb⟩ : SJ)).map SJ.st) (j := i) (by simpa using hix) 0 (by omega))
      have z1 := (hrow2.cellAt (i * 6 + 1) (by omega)).trans (cellsS_at ((xs.set i (⟨(⟨xlf, xes, xks, xA, xc, xQ, xm⟩ : N), xat, la, Aa, ca, lb, Ab, cb⟩ : SJ)).map SJ.st) (j := i) (by simpa using hix) 1 (by omega))
      have z2 := (hrow2.cellAt (i * 6 + 2) (by omega)).trans (cellsS_at ((xs.set i (⟨(⟨xlf, xes, xks, xA, xc, xQ, xm⟩ : N), xat, la, Aa, ca, lb, Ab, cb⟩ : SJ)).map SJ.st) (j := i) (by simpa using hix) 2 (by omega))
      have z3 := (hrow2.cellAt (i * 6 + 3) (by omega)).trans (cellsS_at ((xs.set i (⟨(⟨xlf, xes, xks, xA, xc, xQ, xm⟩ : N), xat, la, Aa, ca, lb, Ab, cb⟩ : SJ)).map SJ.st) (j := i) (by simpa using hix) 3 (by omega))
      have z4 := (hrow2.cellAt (i * 6 + 4) (by omega)).trans (cellsS_at ((xs.set i (⟨(⟨xlf, xes, xks, xA, xc, xQ, xm⟩ : N), xat, la, Aa, ca, lb, Ab, cb⟩ : SJ)).map SJ.st) (j := i) (by simpa using hix) 4 (by omega))
      have z5 := (hrow2.cellAt (i * 6 + 5) (by omega)).trans (cellsS_at ((xs.set i (⟨(⟨xlf, xes, xks, xA, xc, xQ, xm⟩ : N), xat, la, Aa, ca, lb, Ab, cb⟩ : SJ)).map SJ.st) (j := i) (by simpa using hix) 5 (by omega))
      simp only [List.getElem_map, List.getElem_set_self, SJ.st, St.cells, List.getElem?_cons_zero, List.getElem?_cons_succ, Nat.add_zero] at z0 z1 z2 z3 z4 z5
      have m0 := hI2.2.2.2.1.cell 0
      have m1 := hI2.2.2.2.1.cell 1
      have m2 := hI2.2.2.2.1.cell 2
      simp only [List.getElem?_toArray, List.getElem?_cons_zero, List.getElem?_cons_succ] at m0 m1 m2
      have hroom := hab2.room (s := (N.p (⟨xlf, xes, xks, xA, xc, xQ, xm⟩ : N), xat)) (by simpa [N.p] using wk1)
      simp only [SJ.ab, List.length_map] at hroom
      have hnx2 : la.length + lb.length ≤ 1 := hroom.2.2
      have hjl := joinP_len (la.map N.p) (N.p (⟨ylf, yes, yks, yA, yc, yQ, ym⟩ : N)) (lb.map N.p)
      have hk2 : ∀ x ∈ la ++ [(⟨ylf, yes, yks, yA, yc, yQ, ym⟩ : N)] ++ lb, x.es.length ≤ 1000 ∧ x.ks.length ≤ 1000 := fun x hx => by
        have hab := fun hm => habs2 (N.p x) hm
        simp only [SJ.ab, small, N.p, List.length_map] at hab
        rcases List.mem_append.1 hx with hx | hx
        · rcases List.mem_append.1 hx with hx | hx
          · exact hab (List.mem_append.2 (.inl (List.mem_map.2 ⟨x, hx, rfl⟩)))
          · have e := List.mem_singleton.1 hx
            subst e
            exact hsm
        · exact hab (List.mem_append.2 (.inr (List.mem_map.2 ⟨x, hx, rfl⟩)))
      have lgW : g < w1.heap.size := Nat.lt_of_lt_of_le hgl hI2.2.2.2.2.2.2.2.2.2.1.size
      have lnW := hI2.2.2.2.1.lt
      have HJ := vers.lay (show ∀ wx, Below w1.heap.size w1 wx → _ from fun wx hb => join_any (⟨ylf, yes, yks, yA, yc, yQ, ym⟩ : N) la lb Aa Ab ca cb xlf xA xQ xes.length xc xks.length xm xat (fun q => q < w1.heap.size) wx ((hI2.2.2.2.2.2.2.2.1.mono (G := fun q => q < w1.heap.size) fun q hq => hq.1.1).agree (Agree.of_below hb fun q hq => hq)) ((hXF2.1.mono' (G := fun q => q < w1.heap.size) fun q hq => hq.1.1.1).agree (Agree.of_below hb fun q hq => hq)) ((hXF2.2.mono' (G := fun q => q < w1.heap.size) fun q hq => hq.1.1.1).agree (Agree.of_below hb fun q hq => hq)) (fun q hq => Nat.lt_of_lt_of_le hq hb.size) hk2 hnx2)
      have hKs : KsF w1 (fun q => q < w.heap.size) xks xQ xm := (hXN.2.agree (w' := w1) (hI2.2.2.2.2.2.2.2.2.2.1.agree fun q hq => ⟨(hF q hq.1).1, fun e => hq.2 e.symm⟩)).mono fun q hq => (hF q hq.1).1
      have hzW := hI2.2.2.2.2.2.2.2.2.2.1.size
      have HO := vers.lay (show ∀ (wu : World) (n : Nat) (M : Array Value), Below w1.heap.size w1 wu → M.toList = cellsK (List.replicate n zK) → M.size = n * 5 → n ≤ 2 → _ from fun wu n M hb hM hMs hn => over_zero ⟨(⟨xlf, xes, xks, xA, xc, xQ, xm⟩ : N), xat, Aa, la.length, ca, Ab, lb.length, cb⟩ n (some ⟨wu.heap.size, 0, none⟩) n (fun q => q < wu.heap.size + 1) (wu.alloc (.cells M 66)) ((hKs.agree (Agree.of_below ((hb.mono (Nat.le_refl _)).trans ((Below.refl wu.heap.size wu).alloc (Nat.le_refl _) _ |>.mono hb.size)) fun q hq => by omega)).mono fun q hq => by have := hb.size; omega) (mkKids_own hM hMs hn wu) (fun q hq => by simpa using hq) hroom.1 hroom.2.1 (by simp only; omega))
      clear q0 q1 q2 q3 q4 q5 n0 n1 n2 hKs
      gi_wp2
      have hbd : Below w1.heap.size w1 w1.drew := (Below.refl _ _).drew
      refine mix.region_in l _ (fun w' => Below w1.heap.size w1 w') (fun j => j == 11) hmx (by kernel_rfl) (by rintro ⟨a, w, h⟩; exact h) ?_
      generalize w1.drew = Wd at hbd ⊢
      refine mix.D_take (i := 0) (v := ?_) rfl (by kernel_rfl) (by kernel_rfl) (fun _ _ _ h => h) (Or.inl ⟨by rfl, ?_⟩) hbd ?_
      rotate_left
      · intro w' hSw
        have y0 := (hSw.cell (p := ⟨w.heap.size + 1 + 1, 0, none⟩) lnW).trans m0
        have y1 := (hSw.cell (p := ⟨w.heap.size + 1 + 1, 1, none⟩) lnW).trans m1
        have y2 := (hSw.cell (p := ⟨w.heap.size + 1 + 1, 2, none⟩) lnW).trans m2
        have y3 := (hSw.cell (p := ⟨g, i * 6, none⟩) lgW).trans z0
        have y4 := (hSw.cell (p := ⟨g, i * 6 + 1, none⟩) lgW).trans z1
        have y5 := (hSw.cell (p := ⟨g, i * 6 + 2, none⟩) lgW).trans z2
        have y6 := (hSw.cell (p := ⟨g, i * 6 + 3, none⟩) lgW).trans z3
        have y7 := (hSw.cell (p := ⟨g, i * 6 + 4, none⟩) lgW).trans z4
        have y8 := (hSw.cell (p := ⟨g, i * 6 + 5, none⟩) lgW).trans z5
        try simp only [List.getElem_toArray, List.getElem_cons_zero, List.getElem_cons_succ]
        go_simp
        exact rfl
      try simp only [Act.put, List.setIfInBounds_toArray, List.set_cons_zero, List.set_cons_succ, List.getElem_toArray, List.getElem_cons_zero, List.getElem_cons_succ]
      refine mix.D_take (i := 1) (v := ?_) rfl (by kernel_rfl) (by kernel_rfl) (fun _ _ _ h => h) (Or.inl ⟨by rfl, ?_⟩) hbd ?_
      rotate_left
      · intro w' hSw
        have y0 := (hSw.cell (p := ⟨w.heap.size + 1 + 1, 0, none⟩) lnW).trans m0
        have y1 := (hSw.cell (p := ⟨w.heap.size + 1 + 1, 1, none⟩) lnW).trans m1
        have y2 := (hSw.cell (p := ⟨w.heap.size + 1 + 1, 2, none⟩) lnW).trans m2
        have y3 := (hSw.cell (p := ⟨g, i * 6, none⟩) lgW).trans z0
        have y4 := (hSw.cell (p := ⟨g, i * 6 + 1, none⟩) lgW).trans z1
        have y5 := (hSw.cell (p := ⟨g, i * 6 + 2, none⟩) lgW).trans z2
        have y6 := (hSw.cell (p := ⟨g, i * 6 + 3, none⟩) lgW).trans z3
        have y7 := (hSw.cell (p := ⟨g, i * 6 + 4, none⟩) lgW).trans z4
        have y8 := (hSw.cell (p := ⟨g, i * 6 + 5, none⟩) lgW).trans z5
        try simp only [List.getElem_toArray, List.getElem_cons_zero, List.getElem_cons_succ]
        go_simp
        exact rfl
      try simp only [Act.put, List.setIfInBounds_toArray, List.set_cons_zero, List.set_cons_succ, List.getElem_toArray, List.getElem_cons_zero, List.getElem_cons_succ]
      refine mix.D_take (i := 2) (v := ?_) rfl (by kernel_rfl) (by kernel_rfl) (fun _ _ _ h => h) (Or.inl ⟨by rfl, ?_⟩) hbd ?_
      rotate_left
      · intro w' hSw
        have y0 := (hSw.cell (p := ⟨w.heap.size + 1 + 1, 0, none⟩) lnW).trans m0
        have y1 := (hSw.cell (p := ⟨w.heap.size + 1 + 1, 1, none⟩) lnW).trans m1
        have y2 := (hSw.cell (p := ⟨w.heap.size + 1 + 1, 2, none⟩) lnW).trans m2
        have y3 := (hSw.cell (p := ⟨g, i * 6, none⟩) lgW).trans z0
        have y4 := (hSw.cell (p := ⟨g, i * 6 + 1, none⟩) lgW).trans z1
        have y5 := (hSw.cell (p := ⟨g, i * 6 + 2, none⟩) lgW).trans z2
        have y6 := (hSw.cell (p := ⟨g, i * 6 + 3, none⟩) lgW).trans z3
        have y7 := (hSw.cell (p := ⟨g, i * 6 + 4, none⟩) lgW).trans z4
        have y8 := (hSw.cell (p := ⟨g, i * 6 + 5, none⟩) lgW).trans z5
        try simp only [List.getElem_toArray, List.getElem_cons_zero, List.getElem_cons_succ]
        go_simp
        exact rfl
      try simp only [Act.put, List.setIfInBounds_toArray, List.set_cons_zero, List.set_cons_succ, List.getElem_toArray, List.getElem_cons_zero, List.getElem_cons_succ]
      refine mix.D_take (i := 3) (v := ?_) rfl (by kernel_rfl) (by kernel_rfl) (fun _ _ _ h => h) (Or.inl ⟨by rfl, ?_⟩) hbd ?_
      rotate_left
      · intro w' hSw
        have y0 := (hSw.cell (p := ⟨w.heap.size + 1 + 1, 0, none⟩) lnW).trans m0
        have y1 := (hSw.cell (p := ⟨w.heap.size + 1 + 1, 1, none⟩) lnW).trans m1
        have y2 := (hSw.cell (p := ⟨w.heap.size + 1 + 1, 2, none⟩) lnW).trans m2
        have y3 := (hSw.cell (p := ⟨g, i * 6, none⟩) lgW).trans z0
        have y4 := (hSw.cell (p := ⟨g, i * 6 + 1, none⟩) lgW).trans z1
        have y5 := (hSw.cell (p := ⟨g, i * 6 + 2, none⟩) lgW).trans z2
        have y6 := (hSw.cell (p := ⟨g, i * 6 + 3, none⟩) lgW).trans z3
        have y7 := (hSw.cell (p := ⟨g, i * 6 + 4, none⟩) lgW).trans z4
        have y8 := (hSw.cell (p := ⟨g, i * 6 + 5, none⟩) lgW).trans z5
        try simp only [List.getElem_toArray, List.getElem_cons_zero, List.getElem_cons_succ]
        go_simp
        exact rfl
      try simp only [Act.put, List.setIfInBounds_toArray, List.set_cons_zero, List.set_cons_succ, List.getElem_toArray, List.getElem_cons_zero, List.getElem_cons_succ]
      refine mix.D_take (i := 4) (v := ?_) rfl (by kernel_rfl) (by kernel_rfl) (fun _ _ _ h => h) (Or.inl ⟨by rfl, ?_⟩) hbd ?_
      rotate_left
      · intro w' hSw
        have y0 := (hSw.cell (p := ⟨w.heap.size + 1 + 1, 0, none⟩) lnW).trans m0
        have y1 := (hSw.cell (p := ⟨w.heap.size + 1 + 1, 1, none⟩) lnW).trans m1
        have y2 := (hSw.cell (p := ⟨w.heap.size + 1 + 1, 2, none⟩) lnW).trans m2
        have y3 := (hSw.cell (p := ⟨g, i * 6, none⟩) lgW).trans z0
        have y4 := (hSw.cell (p := ⟨g, i * 6 + 1, none⟩) lgW).trans z1
        have y5 := (hSw.cell (p := ⟨g, i * 6 + 2, none⟩) lgW).trans z2
        have y6 := (hSw.cell (p := ⟨g, i * 6 + 3, none⟩) lgW).trans z3
        have y7 := (hSw.cell (p := ⟨g, i * 6 + 4, none⟩) lgW).trans z4
        have y8 := (hSw.cell (p := ⟨g, i * 6 + 5, none⟩) lgW).trans z5
        try simp only [List.getElem_toArray, List.getElem_cons_zero, List.getElem_cons_succ]
        go_simp
        exact rfl
      try simp only [Act.put, List.setIfInBounds_toArray, List.set_cons_zero, List.set_cons_succ, List.getElem_toArray, List.getElem_cons_zero, List.getElem_cons_succ]
      refine mix.D_take (i := 5) (v := ?_) rfl (by kernel_rfl) (by kernel_rfl) (fun _ _ _ h => h) (Or.inl ⟨by rfl, ?_⟩) hbd ?_
      rotate_left
      · intro w' hSw
        have y0 := (hSw.cell (p := ⟨w.heap.size + 1 + 1, 0, none⟩) lnW).trans m0
        have y1 := (hSw.cell (p := ⟨w.heap.size + 1 + 1, 1, none⟩) lnW).trans m1
        have y2 := (hSw.cell (p := ⟨w.heap.size + 1 + 1, 2, none⟩) lnW).trans m2
        have y3 := (hSw.cell (p := ⟨g, i * 6, none⟩) lgW).trans z0
        have y4 := (hSw.cell (p := ⟨g, i * 6 + 1, none⟩) lgW).trans z1
        have y5 := (hSw.cell (p := ⟨g, i * 6 + 2, none⟩) lgW).trans z2
        have y6 := (hSw.cell (p := ⟨g, i * 6 + 3, none⟩) lgW).trans z3
        have y7 := (hSw.cell (p := ⟨g, i * 6 + 4, none⟩) lgW).trans z4
        have y8 := (hSw.cell (p := ⟨g, i * 6 + 5, none⟩) lgW).trans z5
        try simp only [List.getElem_toArray, List.getElem_cons_zero, List.getElem_cons_succ]
        go_simp
        exact rfl
      try simp only [Act.put, List.setIfInBounds_toArray, List.set_cons_zero, List.set_cons_succ, List.getElem_toArray, List.getElem_cons_zero, List.getElem_cons_succ]
      refine mix.D_take (i := 6) (v := ?_) rfl (by kernel_rfl) (by kernel_rfl) (fun _ _ _ h => h) (Or.inl ⟨by rfl, ?_⟩) hbd ?_
      rotate_left
      · intro w' hSw
        have y0 := (hSw.cell (p := ⟨w.heap.size + 1 + 1, 0, none⟩) lnW).trans m0
        have y1 := (hSw.cell (p := ⟨w.heap.size + 1 + 1, 1, none⟩) lnW).trans m1
        have y2 := (hSw.cell (p := ⟨w.heap.size + 1 + 1, 2, none⟩) lnW).trans m2
        have y3 := (hSw.cell (p := ⟨g, i * 6, none⟩) lgW).trans z0
        have y4 := (hSw.cell (p := ⟨g, i * 6 + 1, none⟩) lgW).trans z1
        have y5 := (hSw.cell (p := ⟨g, i * 6 + 2, none⟩) lgW).trans z2
        have y6 := (hSw.cell (p := ⟨g, i * 6 + 3, none⟩) lgW).trans z3
        have y7 := (hSw.cell (p := ⟨g, i * 6 + 4, none⟩) lgW).trans z4
        have y8 := (hSw.cell (p := ⟨g, i * 6 + 5, none⟩) lgW).trans z5
        try simp only [List.getElem_toArray, List.getElem_cons_zero, List.getElem_cons_succ]
        go_simp
        exact rfl
      try simp only [Act.put, List.setIfInBounds_toArray, List.set_cons_zero, List.set_cons_succ, List.getElem_toArray, List.getElem_cons_zero, List.getElem_cons_succ]
      refine mix.D_op (k := 7) rfl rfl (by kernel_rfl) (fun K' hK => ?_)
      simp only [List.getElem_toArray, List.getElem_cons_zero, List.getElem_cons_succ]
      go_wp2_with fail
      refine (HJ.out _ hbd).mono ?_
      rintro e w3 ⟨l3, A3, c3, rfl, e3, _, b3⟩
      have hS3 := hbd.trans (b3.mono hbd.size)
      have hl3 : l3.length = (joinP (la.map N.p) (N.p (⟨ylf, yes, yks, yA, yc, yQ, ym⟩ : N)) (lb.map N.p)).length := by rw [← e3, List.length_map]
      generalize hn3 : (joinP (la.map N.p) (N.p (⟨ylf, yes, yks, yA, yc, yQ, ym⟩ : N)) (lb.map N.p)).length = n3 at hjl hl3
      rw [hl3]
      refine hK.out _ _ (fun _ => hS3) ?_
      clear hK K'
      try simp only [Act.put, List.setIfInBounds_toArray, List.set_cons_zero, List.set_cons_succ]
      refine mix.D_op (k := 8) rfl rfl (by kernel_rfl) (fun K' hK => ?_)
      simp only [List.getElem_toArray, List.getElem_cons_zero, List.getElem_cons_succ]
      go_wp2_with fail
      refine hK.out _ _ (fun _ => hS3) ?_
      clear hK K'
      try simp only [Act.put, List.setIfInBounds_toArray, List.set_cons_zero, List.set_cons_succ]
      refine mix.D_op (k := 9) rfl rfl (by kernel_rfl) (fun K' hK => ?_)
      simp only [List.getElem_toArray, List.getElem_cons_zero, List.getElem_cons_succ]
      obtain ⟨M, hmk, hM, hMs⟩ := mkKids n3 (by omega)
      go_wp2_with fail
      have hS4 := hS3.alloc hS3.size (.cells M 66)
      refine hK.out _ _ (fun _ => hS4) ?_
      clear hK K'
      try simp only [Act.put, List.setIfInBounds_toArray, List.set_cons_zero, List.set_cons_succ]
      refine mix.D_op (k := 10) rfl rfl (by kernel_rfl) (fun K' hK => ?_)
      simp only [List.getElem_toArray, List.getElem_cons_zero, List.getElem_cons_succ]
      go_wp2_with fail
      refine ((HO.out w3 n3 M hS3 hM hMs hjl.2)).mono ?_
      rintro e w6 ⟨v6, rfl, ho6, hb6⟩
      have hS6 := hS4.trans (hb6.mono hS4.size)
      obtain ⟨A6, c6, rfl, hy6⟩ := child_ns (v := .slice (some ⟨g, 0, none⟩) way.length c) (n := n3) hXN (fun q hq => (hF q hq).1) (hI2.2.2.2.2.2.2.2.2.2.1.seq hS6) (by have := hI2.2.2.2.2.2.2.2.2.2.2; have := hS4.size; omega) hRl ho6 wk2 hjl.2
      have hI9 := hI2.child hS6 hy6
      have kn6 := (hI2.2.2.2.1.below hS6 lnW)
      have f0 := kn6.frozen 0
      have f1 := kn6.frozen 1
      have f2 := kn6.frozen 2
      have m0 := kn6.cell 0
      have m1 := kn6.cell 1
      have m2 := kn6.cell 2
      simp only [List.getElem?_toArray, List.getElem?_cons_zero, List.getElem?_cons_succ] at m0 m1 m2
      have ln6 := kn6.lt
      refine hK.out _ _ (fun _ => hS6) ?_
      clear hK K'
      try simp only [Act.put, List.setIfInBounds_toArray, List.set_cons_zero, List.set_cons_succ]
      refine mix.D_op (k := 11) rfl rfl (by kernel_rfl) (fun K' hK => ?_)
      simp only [List.getElem_toArray, List.getElem_cons_zero, List.getElem_cons_succ]
      go_wp2_with fail
      refine hK.out _ _ (fun h => by simp at h) ?_
      clear hK K'
      refine mix.D_done (by kernel_rfl) ?_ _
      try simp only [Act.put, List.setIfInBounds_toArray, List.set_cons_zero, List.set_cons_succ, List.getElem_toArray, List.getElem_cons_zero, List.getElem_cons_succ]
      have k9 := set3_heap w6 (w.heap.size + 1 + 1) (.bool xlf) (.slice xA xes.length xc) (.slice A6 (overK xks xat la.length lb.length (List.replicate n3 zK)).length c6)
      have hK9 : Keep (fun q => q = g ∨ q = w.heap.size + 1 + 1) W (set3 w6 (w.heap.size + 1 + 1) (.bool xlf) (.slice xA xes.length xc) (.slice A6 (overK xks xat la.length lb.length (List.replicate n3 zK)).length c6)) := by
        have h6 := hKW.seq hS6
        have bl := set3_below (Below.refl 0 w6) (g := w.heap.size + 1 + 1) (Nat.zero_le _) (.bool xlf) (.slice xA xes.length xc) (.slice A6 (overK xks xat la.length lb.length (List.replicate n3 zK)).length c6)
        exact ⟨bl.os.trans h6.os, bl.tape.trans h6.tape, bl.output.trans h6.output, Nat.le_trans h6.size bl.size, fun k hk hn => (k9 k fun e => hn (.inr e)).trans (h6.block k hk hn)⟩
      have k59 := hK9.blk k5' (fun e => by rcases e with e | e <;> omega)
      refine ⟨keepsFrom_keep _ hK9 (fun q hq => ?_), fun _ => hI9.rowB _ (by have := k59.cell 0; simpa using this) hm112, ⟨_, (by rw [List.map_append]; exact (neighX_snoc i HST.out).trans HN.out), ⟨_, _, ?_, HA2.out, hI9⟩⟩, k59⟩
      · rcases hq with rfl | rfl
        · exact (hI.2.2.2.2.2.2.1 _ rfl).1
        · exact isC_blk hI.2.2.2.1
      · simp only [childX, N.p, SJ.ab, List.length_map, ← hn3]

  case done =>
    rintro D ys W hD hys ⟨⟨st, hst, y, xs, hyp, hab, hI⟩, k5'⟩ hK
    rw [hys] at hst
    have kE := hI.2.2.2.2.1
    have lE := kE.lt
    have eE := kE.cell 0
    have fE := kE.frozen 0
    simp only [List.getElem?_toArray, List.getElem?_cons_zero] at eE
    obtain ⟨h2, h4, h5, h6, h7, h8, h9, h10, h11, h12, h13⟩ := hI
    have HST := vers.lay hst
    have HAB := vers.lay hab
    have HH2 := vers.lay h2
    clear hst hab h2 hyp hys
    gi_wp2
    have hK' := (KeepsOthers.setCell W ⟨w.heap.size + 1 + 1 + 1, 0, none⟩ (.int .i64 0)).same D _ hK rfl
    refine ⟨by simp, .inl ⟨_, _, rfl, run_takeDeferred hK', ?_⟩⟩
    have hc5 := cell_kept (World.cell?_setCell_same' W ⟨w.heap.size + 1 + 1 + 1, 0, none⟩ (.int .i64 0) (by rw [eE]; rfl)) (grownBy_putObj' _ D (.deferred none)) (fun r e => by cases e; exact ⟨_, hK', rfl⟩)
    have bl := (Below.refl 0 W).setCell (p := ⟨w.heap.size + 1 + 1 + 1, 0, none⟩) (Nat.zero_le _) (.int .i64 0)
    have hg := grownBy_putObj' (W.setCell ⟨w.heap.size + 1 + 1 + 1, 0, none⟩ (.int .i64 0)) D (.deferred none)
    have hz9 : ((W.setCell ⟨w.heap.size + 1 + 1 + 1, 0, none⟩ (.int .i64 0)).putObj D (.deferred none)).heap.size = W.heap.size := by simp
    have k9 : ∀ q, q ≠ w.heap.size + 1 + 1 + 1 → q ≠ D → ((W.setCell ⟨w.heap.size + 1 + 1 + 1, 0, none⟩ (.int .i64 0)).putObj D (.deferred none)).heap[q]? = W.heap[q]? := fun q h1 h2 => (World.putObj_heap_other h2).trans (Below.heap_setCell _ _ _ _ (by simpa using h1))
    refine ⟨.int .i64 0, ?_, ⟨hg.os.trans (bl.os.trans h12.os), hg.tape.trans (bl.tape.trans h12.tape), hg.output.trans (bl.output.trans h12.output), by rw [hz9]; exact h12.size, fun k hk hn => (k9 k (by omega) (by omega)).trans (h12.block k hk hn)⟩, ?_⟩
    · simp [results, Try.results50, go_sem, hc5]
    · rw [HST.out]
      refine ⟨rfl, xs, HH2.out, HAB.out, ownsRow_agree h8 (fun q hq => k9 q (by have := (h9 q hq).2; omega) (by have := (h9 q hq).2; omega)), fun x hx => ?_⟩
      refine ((h11 x hx).agree fun q hq => k9 q (by have := hq.1.2; omega) (fun e => ?_)).mono fun q hq => ⟨by have := hq.1.2; omega, by rw [hz9]; exact hq.1.1.1⟩
      obtain ⟨cs, t, fr, hc⟩ := hq.2
      rw [e, hK] at hc
      cases hc
  case stop =>
    rintro D cc pre W hD ⟨k', hk', hpre⟩ ⟨k, ⟨rfl, hst⟩, kE, h12⟩ hK
    rw [hpre] at hst
    have HST := vers.lay (neighX_cut hk' hst)
    have lE := kE.lt
    have eE := kE.cell 0
    simp only [List.getElem?_toArray, List.getElem?_cons_zero] at eE
    clear hst hpre
    gi_wp2
    refine ⟨by simp, .inl ⟨_, _, rfl, run_takeDeferred hK, ?_⟩⟩
    have hc5 := cell_kept eE (grownBy_putObj' W D (.deferred none)) (fun r e => by cases e; exact ⟨_, hK, rfl⟩)
    have hg := grownBy_putObj' W D (.deferred none)
    have hz9 : (W.putObj D (.deferred none)).heap.size = W.heap.size := by simp
    refine ⟨.int .i64 k, ?_, ⟨hg.os.trans h12.os, hg.tape.trans h12.tape, hg.output.trans h12.output, by rw [hz9]; exact h12.size, fun k hk hn => (World.putObj_heap_other (by omega)).trans (h12.block k hk hn)⟩, ?_⟩
    · simp [results, Try.results50, go_sem, hc5]
    · rw [HST.out]

end Go.Proofs.Ytnndohdiiglgmaa.trees

/- climber.up with tree.join: what holds between two rounds. -/

namespace Go.Proofs.Ytnndohdiiglgmaa.trees
set_option linter.unusedVariables false
set_option linter.unusedSimpArgs false
open Go.RowKit Go.Shelf Go.Proofs.Ytnndohdiiglgmaa.base Go.Proofs.Ytnndohdiiglgmaa.vers Go.Proofs.Ytnndohdiiglgmaa.nodes Go.Proofs.Ytnndohdiiglgmaa.quotas
attribute [local go_sem] Oper.semAt_some

/-- one round -/
theorem up_nextJ {w W w2 w3 w4 : World} {h B : Nat} {S S' : Nat → Prop} {F : Nat → Prop} {fv : Value} {st : List P3 × P3} {y : N} {s : St} {l : List N} {J : List P3} {v : Value} {A4 : Option Addr} {c4 : Nat}
    (hSl : ∀ g, S g → g < w.heap.size) (h1 : Hp W h S' st.1) (h2 : y.p = st.2) (h30 : ∀ g, S' g → (S g ∨ (w.heap.size + 6 ≤ g ∧ ∃ q, y.Q = some q ∧ g < q.block)) ∧ isC W g) (h4 : Blk W (w.heap.size + 1) 60 #[.bool y.lf, .slice y.A y.es.length y.c, .slice y.Q y.ks.length y.m])
    (h6 : Blk W w.heap.size 111 #[.iface 23 (.pointer (some ⟨h, 0, none⟩))]) (h7 : Blk W (w.heap.size + 1 + 1) 121 #[fv]) (h8 : Blk W (w.heap.size + 1 + 1 + 1) 60 #[.bool false, .slice none 0 0, .slice none 0 0]) (h9 : Blk W (w.heap.size + 1 + 1 + 1 + 1) 28 #[.int .i64 0]) (h10 : Keep S w W) (h11 : w.heap.size + 6 ≤ W.heap.size)
    (hs : NsF w F s.n) (hF : ∀ g, F g → g < w.heap.size ∧ ¬ S g) (b2 : Below W.heap.size W w2) (hl : l.map N.p = J) (hJ : 1 ≤ J.length ∧ J.length ≤ 2)
    (hL : LP w2 h S' st.1 l l.length v w3) (ho4 : w4.ownsRow w3.heap.size 66 5 (.slice A4 (overK s.n.ks s.at_ s.na s.nb (laid st.1.length l)).length c4) (overK s.n.ks s.at_ s.na s.nb (laid st.1.length l)).length (cellsK (overK s.n.ks s.at_ s.na s.nb (laid st.1.length l)))) (b4 : Below w3.heap.size w3 w4)
    (hk : ∀ k ∈ laid st.1.length l, k.fits) (hks : s.n.ks.length ≤ 1000) (hll : l.length ≤ 2) (hB : w.heap.size + 1 < B) :
    UpI w h S fv (st.1 ++ J, (s.n.lf, s.n.es.map pe, overK s.n.ks s.at_ s.na s.nb (laidP st.1.length J))) (set3 w4 (w.heap.size + 1) (.bool s.n.lf) (.slice s.n.A s.n.es.length s.n.c) (.slice A4 (overK s.n.ks s.at_ s.na s.nb (laid st.1.length l)).length c4)) ∧
      KeepsFrom B W (set3 w4 (w.heap.size + 1) (.bool s.n.lf) (.slice s.n.A s.n.es.length s.n.c) (.slice A4 (overK s.n.ks s.at_ s.na s.nb (laid st.1.length l)).length c4)) ∧
      (∀ G : Nat → Prop, (∀ g, G g → g < W.heap.size ∧ ¬ S' g ∧ g ≠ w.heap.size + 1) → Agree W (set3 w4 (w.heap.size + 1) (.bool s.n.lf) (.slice s.n.A s.n.es.length s.n.c) (.slice A4 (overK s.n.ks s.at_ s.na s.nb (laid st.1.length l)).length c4)) G) := by
  obtain ⟨K3, _, _, S2, hH3, hS2, _⟩ := hL
  have h3 : ∀ g, S' g → (S g ∨ w.heap.size + 6 ≤ g) ∧ isC W g := fun g hg => ⟨(h30 g hg).1.imp id (fun h => h.1), (h30 g hg).2⟩
  have hpos : 0 < (overK s.n.ks s.at_ s.na s.nb (laid st.1.length l)).length := by
    have : 0 < l.length := by
      have h0 := congrArg List.length hl
      rw [List.length_map] at h0
      omega
    unfold overK
    simp only [List.length_append, laid_len]
    omega
  obtain ⟨g4, cap4, e4, _, _, _⟩ := own_slice_form ho4 hpos
  injection e4 with e4 _ _
  have hg4 : w3.heap.size ≤ g4 := (ho4.lt g4 (by rw [e4]; rfl)).1
  have z2 := b2.size
  have z3 := K3.size
  have z4 := b4.size
  have zz := set3_size w4 (w.heap.size + 1) (.bool s.n.lf) (.slice s.n.A s.n.es.length s.n.c) (.slice A4 (overK s.n.ks s.at_ s.na s.nb (laid st.1.length l)).length c4)
  have ho9 := set3_below (Below.refl 0 w4) (g := w.heap.size + 1) (Nat.zero_le _) (.bool s.n.lf) (.slice s.n.A s.n.es.length s.n.c) (.slice A4 (overK s.n.ks s.at_ s.na s.nb (laid st.1.length l)).length c4)
  have hx := set3_heap w4 (w.heap.size + 1) (.bool s.n.lf) (.slice s.n.A s.n.es.length s.n.c) (.slice A4 (overK s.n.ks s.at_ s.na s.nb (laid st.1.length l)).length c4)
  have kx := fun {t} {a b c} (hb : Blk w4 (w.heap.size + 1) t #[a, b, c]) => set3_blk hb (.bool s.n.lf) (.slice s.n.A s.n.es.length s.n.c) (.slice A4 (overK s.n.ks s.at_ s.na s.nb (laid st.1.length l)).length c4)
  generalize set3 w4 (w.heap.size + 1) (.bool s.n.lf) (.slice s.n.A s.n.es.length s.n.c) (.slice A4 (overK s.n.ks s.at_ s.na s.nb (laid st.1.length l)).length c4) = W9 at zz hx kx ho9 ⊢
  -- what is kept from W on
  have hk4 : ∀ g, g < W.heap.size → ¬ S' g → w4.heap[g]? = W.heap[g]? := fun g hg hn => (b4.block g (by omega)).trans ((K3.block g (by omega) hn).trans (b2.block g hg))
  have hk9 : ∀ g, g < W.heap.size → ¬ S' g → g ≠ w.heap.size + 1 → W9.heap[g]? = W.heap[g]? := fun g hg hn hne => (hx g hne).trans (hk4 g hg hn)
  have hns : ∀ g, w.heap.size ≤ g → g < w.heap.size + 6 → ¬ S' g := fun g g1 g2 hg => by
    rcases (h3 g hg).1 with h | h
    · have := hSl g h; omega
    · omega
  have BK : ∀ {g : Nat} {t : TypeId} {cs : Array Value}, Blk W g t cs → w.heap.size ≤ g → g < w.heap.size + 6 → g ≠ w.heap.size + 1 → Blk W9 g t cs := fun hb g1 g2 g3 => (hk9 _ hb.lt (hns _ g1 g2) g3).trans hb
  have hS3 : ∀ g, S2 g → g < w3.heap.size := hH3.lt
  have hS2' : ∀ g, S2 g → (S g ∨ w.heap.size + 6 ≤ g) := fun g hg => by
    rcases hS2 g hg with h | h
    · exact (h3 g h).1
    · exact .inr (by omega)
  have hne2 : ∀ g, S2 g → g ≠ w.heap.size + 1 := fun g hg e => by
    rcases hS2' g hg with h | h
    · have := hSl g h; omega
    · omega
  have e39 : ∀ g, S2 g → W9.heap[g]? = w3.heap[g]? := fun g hg => (hx g (hne2 g hg)).trans (b4.block g (hS3 g hg))
  have KW : Keep S w W9 := by
    have b9 : W9.heap.size = w4.heap.size := zz
    refine ⟨?_, ?_, ?_, by have := h10.size; omega, fun k hk hn => ?_⟩
    · exact ho9.os.trans (b4.os.trans (K3.os.trans (b2.os.trans h10.os)))
    · exact ho9.tape.trans (b4.tape.trans (K3.tape.trans (b2.tape.trans h10.tape)))
    · exact ho9.output.trans (b4.output.trans (K3.output.trans (b2.output.trans h10.output)))
    · have h0 : ¬ S' k := fun hs => by
        rcases (h3 k hs).1 with h | h
        · exact hn h
        · omega
      exact (hk9 k (by have := h10.size; omega) h0 (by omega)).trans (h10.block k hk hn)
  have hFW : ∀ g, F g → W9.heap[g]? = w.heap[g]? := fun g hg => KW.block g (hF g hg).1 (hF g hg).2
  refine ⟨⟨fun g => S2 g ∧ isC w3 g, ⟨s.n.lf, s.n.es, overK s.n.ks s.at_ s.na s.nb (laid st.1.length l), s.n.A, s.n.c, A4, c4⟩, ?_, ?_, ?_, ?_, ?_, BK h6 (by omega) (by omega) (by omega), BK h7 (by omega) (by omega) (by omega), BK h8 (by omega) (by omega) (by omega), BK h9 (by omega) (by omega) (by omega), KW, by omega, fun a e => by have e : A4 = some a := e; rw [e4] at e; cases e; have := (ho4.lt g4 (by rw [e4]; rfl)).2; show g4 < _; omega⟩, ?_, ?_⟩
  · have := (hH3.cells).agree (w' := W9) (fun g hg => e39 g hg.1) (by omega)
    rw [List.take_length, hl] at this
    exact this
  · simp only [← hl, laid_p]
    rfl
  · exact fun g hg => ⟨(hS2' g hg.1).imp id (fun h => ⟨h, _, e4, by have := hS3 g hg.1; show g < g4; omega⟩), hg.2.at (e39 g hg.1)⟩
  · exact kx ((hk4 _ h4.lt (hns _ (by omega) (by omega))).trans h4)
  · refine ⟨(((hs.1.agree hFW).cells).mono fun g hg => ⟨⟨?_, ?_, ?_⟩, hg.2⟩), ?_⟩
    · have := (hF g hg.1).1; have := h10.size; omega
    · intro h0
      rcases hS2' g h0.1 with h | h
      · exact (hF g hg.1).2 h
      · have := (hF g hg.1).1; omega
    · have := (hF g hg.1).1; omega
    · have hv4 : ∀ g, (Value.slice A4 (overK s.n.ks s.at_ s.na s.nb (laid st.1.length l)).length c4).ownBlock = some g → w3.heap.size ≤ g ∧ g < w4.heap.size := fun g hg => ho4.lt g hg
      have hof : ∀ x ∈ overK s.n.ks s.at_ s.na s.nb (laid st.1.length l), x.fits := fun x hx => by
        unfold overK at hx
        rcases List.mem_append.1 hx with h | h
        · rcases List.mem_append.1 h with h | h
          · exact hs.2.2.2.2.2 x (List.mem_of_mem_take h)
          · exact hk x h
        · exact hs.2.2.2.2.2 x (List.mem_of_mem_drop h)
      have hol : (overK s.n.ks s.at_ s.na s.nb (laid st.1.length l)).length * 48 ≤ 140737488355328 := by
        have : (overK s.n.ks s.at_ s.na s.nb (laid st.1.length l)).length ≤ 2 * s.n.ks.length + 2 := by
          unfold overK
          simp only [List.length_append, List.length_take, List.length_drop, laid_len]
          omega
        omega
      have ho9 := ownsRow_agree (w' := W9) ho4 (fun g hg => hx g (by have := hv4 g hg; omega))
      obtain ⟨A5, c5, e5, hK5⟩ := own_ks (F := fun g => w3.heap.size ≤ g ∧ g < w4.heap.size) ho9 rfl hol hv4 hof
      injection e5 with e5 _ e6
      subst e5 e6
      exact (hK5.cells).mono fun g hg => ⟨⟨by omega, fun h0 => by have := hS3 g h0.1; omega, by omega⟩, hg.2⟩
  · refine ⟨by omega, fun k o hB' hk ho => ?_⟩
    have hlt : k < W.heap.size := (Array.getElem?_eq_some_iff.1 hk).1
    refine (hk9 k hlt (fun hs => ?_) (by omega)).trans hk
    obtain ⟨cs, t, fr, h0⟩ := (h3 k hs).2
    rw [h0] at hk
    cases hk
    cases ho
  · exact fun G hG g hg => hk9 g (hG g hg).1 (hG g hg).2.1 (hG g hg).2.2

/-- one step up -/
def stepJ (s : List P3 × P3) (x : SJ) : List P3 × P3 := stepD s (x.n.p, x.at_, x.la.map N.p, x.lb.map N.p)
def upJ (s : List P3 × P3) (l : List SJ) : List P3 × P3 := l.foldl stepJ s
theorem upJ_snoc (s : List P3 × P3) (l : List SJ) (x : SJ) : upJ s (l ++ [x]) = stepJ (upJ s l) x := by simp [upJ, List.foldl_append]
theorem upJ_D (s : List P3 × P3) (l : List SJ) : upJ s l = upD s (l.map fun x => (x.n.p, x.at_, x.la.map N.p, x.lb.map N.p)) := by
  unfold upJ upD
  rw [List.foldl_map]
  rfl
/-- a step that join takes -/
def SnOk (w : World) (F : Nat → Prop) (x : SJ) : Prop := NsF w F x.n ∧ x.F w F ∧ x.la.length ≤ x.at_ ∧ x.at_ + 1 + x.lb.length ≤ x.n.ks.length ∧ x.n.ks.length ≤ 900 ∧ x.n.es.length ≤ 1000 ∧ x.la.length + x.lb.length ≤ 1 ∧ ∀ n ∈ x.la ++ x.lb, n.es.length ≤ 1000 ∧ n.ks.length ≤ 1000
theorem upJ_len {α : Type} {f : α → SJ} : ∀ (l : List α) (s : List P3 × P3), (upJ s (l.map f)).1.length ≤ s.1.length + 2 * l.length
  | [], s => Nat.le_refl _
  | a :: l, s => by
    have h := upJ_len (f := f) l (stepJ s (f a))
    have h2 := (joinP_len ((f a).la.map N.p) s.2 ((f a).lb.map N.p)).2
    have h3 : (stepJ s (f a)).1.length = s.1.length + (joinP ((f a).la.map N.p) s.2 ((f a).lb.map N.p)).length := by simp [stepJ, stepD]
    rw [List.length_cons]
    show (upJ (stepJ s (f a)) (l.map f)).1.length ≤ _
    omega
theorem upJ_small {w : World} {F : Nat → Prop} {α : Type} {f : α → SJ} (hf : ∀ a, SnOk w F (f a)) : ∀ (l : List α) (s : List P3 × P3), small s.2 → small (upJ s (l.map f)).2
  | [], s, h => h
  | a :: l, s, h => by
    refine upJ_small hf l (stepJ s (f a)) ?_
    obtain ⟨_, _, h1, h2, h3, h4, _, _⟩ := hf a
    have h5 := (joinP_len ((f a).la.map N.p) s.2 ((f a).lb.map N.p)).2
    refine ⟨by simpa [stepJ, stepD, N.p] using h4, ?_⟩
    have hl : (laidP s.1.length (joinP ((f a).la.map N.p) s.2 ((f a).lb.map N.p))).length = (joinP ((f a).la.map N.p) s.2 ((f a).lb.map N.p)).length := by simp [laidP]
    show (overK _ _ _ _ _).length ≤ 1000
    unfold overK
    simp only [List.length_append, List.length_take, List.length_drop, hl, N.p]
    omega
end Go.Proofs.Ytnndohdiiglgmaa.trees

/- climber.up with tree.join. -/

namespace Go.Proofs.Ytnndohdiiglgmaa.trees
set_option linter.unusedVariables false
set_option linter.unusedSimpArgs false
open Go.RowKit Go.Shelf Go.Proofs.Ytnndohdiiglgmaa.base Go.Proofs.Ytnndohdiiglgmaa.vers Go.Proofs.Ytnndohdiiglgmaa.nodes Go.Proofs.Ytnndohdiiglgmaa.quotas
attribute [local go_sem] Oper.semAt_some

set_option maxRecDepth 100000 in
set_option maxHeartbeats 8000000 in
theorem up_join {α : Type} (f : α → SJ) (ss : List α) (z : α) (A : Option Addr) (c : Nat) (x0 : N) (h : Nat) (S : Nat → Prop) (ns : List P3) (F : Nat → Prop) (w : World) (hh : Hp w h S ns) (hS : StF w F (ss.map fun a => (f a).st) A c) (hx : NsF w F x0) (hF : ∀ g, F g → g < w.heap.size ∧ ¬ S g)
    (hst : 0 < ss.length → ∀ a, SnOk w F (f a)) (hx0 : small x0.p) (hn : ns.length + 2 * ss.length ≤ 20000) (hxQ : ∀ a, x0.Q = some a → a.block < w.heap.size) :
    Calls Try.prog 51 #[clim h, .slice A ss.length c, x0.val, (.func (.func 52) #[] #[])] w (UpPost w h S (upJ (ns, x0.p) ((back ss z ss.length).map fun p : Nat × α => f p.2))) := by
  refine (callsIn_wide (n := 4)).1 ?_
  refine callsIn_of_wp_marks Try.func51 rfl trivial ?_ rfl
  simp only [Try.ntmps51, List.size_toArray, List.length_cons, List.length_nil, Nat.reduceAdd, Nat.reduceSub, Array.replicate_succ, Array.replicate_zero, List.push_toArray, List.append_toArray, List.nil_append, List.cons_append]
  gi_wp2_with (refine ⟨trivial, ?_⟩; gi_at_call 85; refine (backS_in Fence.wide 3 trivial rfl _ _ _ _).mono ?_; rintro e w' ⟨rfl, rfl⟩)
  obtain ⟨W1, hW1⟩ : ∃ W1, ((((((w.alloc (.cells #[.iface 23 (.pointer (some ⟨h, 0, none⟩))] 111)).alloc (.cells #[.bool x0.lf, .slice x0.A x0.es.length x0.c, .slice x0.Q x0.ks.length x0.m] 60)).alloc (.cells #[(.func (.func 52) #[] #[])] 121)).alloc (.cells #[.bool false, .slice none 0 0, .slice none 0 0] 60)).alloc (.cells #[.int .i64 0] 28)).alloc (.cells #[.slice A ss.length c] 113)) = W1 := ⟨_, rfl⟩
  rw [hW1]
  obtain ⟨hB0, hsz, k0, k1, k2, k3, k4, k5⟩ := boxes6 _ _ _ _ _ _ _ _ _ _ _ _ _ _ hW1
  clear hW1
  have hG : ∀ g, (F g ∨ g = w.heap.size + 1 + 1 + 1 + 1 + 1) → g < W1.heap.size := fun g hg => by
    rcases hg with hg | hg
    · have := (hF g hg).1; omega
    · omega
  have hFl : ∀ g, F g → g < w.heap.size := fun g hg => (hF g hg).1
  have hS1 : StF W1 (fun g => F g ∨ g = w.heap.size + 1 + 1 + 1 + 1 + 1) (ss.map fun a => (f a).st) A c := ⟨hS.1, hS.2.1, hS.2.2.1, (hS.2.2.2.agree (Agree.of_below hB0 hFl)).mono fun g hg => .inl hg⟩
  have hSl := hh.lt
  have hI0 : UpI w h S (.func (.func 52) #[] #[]) (upJ (ns, x0.p) ([].map fun p : Nat × α => f p.2)) W1 :=
    ⟨fun g => S g ∧ isC W1 g, x0, (hh.below hB0).cells, rfl, fun g hg => ⟨.inl hg.1, hg.2⟩, k1, (((hx.agree (Agree.of_below hB0 hFl)).cells).mono fun g hg => ⟨⟨by have := hFl g hg.1; omega, fun h0 => (hF g hg.1).2 h0.1, by have := hFl g hg.1; omega⟩, hg.2⟩), k0, k2, k3, k4, Keep.of_below hB0, by omega, fun a e => by have := hxQ a e; omega⟩
  refine wpIn_rangeFunc_ownH (F := Fence.wide) (n := 4) rfl (by omega) (gf := 107) (lb := #[.pointer (some ⟨w.heap.size + 1 + 1 + 1 + 1 + 1, 0, none⟩)]) rfl trivial (enters_of Try.func107 (by kernel_rfl) rfl)
    (backS_stops Fence.wide 3 trivial rfl (by omega) (w.heap.size + 1 + 1 + 1 + 1 + 1) (fun g => F g ∨ g = w.heap.size + 1 + 1 + 1 + 1 + 1) (fun a => (f a).st) ss z A c W1 (.inr rfl) hG (k5.cell 0) hS1) agree_t (agree_b hG) (Below.refl _ _) (fun _ => rfl)
    (fun pre W => UpI w h S (.func (.func 52) #[] #[]) (upJ (ns, x0.p) (pre.map fun p : Nat × α => f p.2)) W ∧ Blk W (w.heap.size + 1 + 1 + 1 + 1 + 1) 113 #[.slice A ss.length c])
    (fun _ _ _ => False)
    (OwnFrom.and (UpI.own (fun pre : List (Nat × α) => upJ (ns, x0.p) (pre.map fun p : Nat × α => f p.2)) _ (by omega)) (Own.from (fun s' X Y row hs hg hr => blk_own _ _ (fun _ : Unit => _) () X Y row hs hg hr) _))
    (fun cc s' X Y row hs hg hr => hs)
    ⟨hI0, k5⟩
    (fun x a' W => ∃ (Bx : Nat) (q : Option Addr) (n9 c9 : Nat), w.heap.size + 1 + 1 + 1 + 1 + 1 < Bx ∧ Blk W Bx 134 (f x.2).st.cells.toArray ∧ W.cell? ⟨w.heap.size + 1, 2, none⟩ = some (.slice q n9 c9) ∧ (∀ a, q = some a → a.block < Bx) ∧ a' = { tmps := #[clim h, .slice A ss.length c, x0.val, (.func (.func 52) #[] #[]), .pointer (some ⟨w.heap.size, 0, none⟩), undef, .pointer (some ⟨w.heap.size + 1, 0, none⟩), .pointer (some ⟨w.heap.size + 1 + 1, 0, none⟩), .pointer (some ⟨w.heap.size + 1 + 1 + 1, 0, none⟩), .pointer (some ⟨w.heap.size + 1 + 1 + 1 + 1, 0, none⟩), undef, .pointer (some ⟨Bx, 0, none⟩), undef, undef, .slice A ss.length c, .func (.func 107) #[] #[.pointer (some ⟨w.heap.size + 1 + 1 + 1 + 1 + 1, 0, none⟩)], .int .i64 (x.1 : Int), (f x.2).st.v, undef, undef, undef, undef, undef, undef, undef, undef, undef, undef, undef, undef, undef, undef, undef, undef, undef], defers := [] })
    (fun x a' _ X Y row hs hg hr => by obtain ⟨Bx, q, n9, c9, q1, q2, q3, q4, q5⟩ := hs; exact ⟨Bx, q, n9, c9, q1, blk_own Bx 134 (fun (_ : Unit) => _) () X Y row q2 hg (fun r e => (hr r e).2), cell_kept q3 hg (fun r e => (hr r e).2), q4, q5⟩)
    ?assign ?body ?done ?stop
  case assign =>
    rintro l pre x W K ⟨hI, k5'⟩ hK
    obtain ⟨S', y, i1, i2, i3, i4, i5, i6, i7, i8, i9, i10, i11, i12⟩ := id hI
    have hIW := (UpI.own (w := w) (h := h) (S := S) (fv := (.func (.func 52) #[] #[])) (fun pre : List (Nat × α) => upJ (ns, x0.p) (pre.map fun p : Nat × α => f p.2)) w.heap.size (Nat.le_refl _)).alloc (.cells (f x.2).st.cells.toArray 134) hI
    have hq := (i4.alloc (.cells (f x.2).st.cells.toArray 134)).cell 2
    have hqb := i12
    simp only [List.getElem?_toArray, List.getElem?_cons_zero, List.getElem?_cons_succ] at hq
    unfold St.cells at hIW hq
    gi_wp2
    exact hK _ _ ((KeepsOthers.alloc _ _).from _) (Agree.of_below ((Below.refl _ W).alloc (Nat.le_refl _) _) (fun g hg => by have := hG g hg; omega)) ⟨hIW, k5'.alloc _⟩ ⟨W.heap.size, y.Q, _, _, by omega, Blk.new _ _ _, hq, hqb, rfl⟩
  case body =>
    rintro l pre x a' W hl ⟨r, hr⟩ ⟨hI, k5'⟩ ⟨Bx, q, n9, c9, hBx, bX, hq, hqb, rfl⟩ hlt
    have hlt0 : 0 < ss.length := Nat.lt_of_le_of_lt (Nat.zero_le _) hlt
    obtain ⟨hsn, hsF, hat1, hat2, hks, hes, hn1, hsm⟩ := hst hlt0 x.2
    have hroom : (upJ (ns, x0.p) (pre.map fun p : Nat × α => f p.2)).1.length + 2 ≤ 20000 := by
      have h1 := upJ_len (f := fun p : Nat × α => f p.2) pre (ns, x0.p)
      simp only at h1
      omega
    have hysm := upJ_small (f := fun p : Nat × α => f p.2) (fun p => hst hlt0 p.2) pre (ns, x0.p) hx0
    have hnext : ∀ W9, UpI w h S (.func (.func 52) #[] #[]) (stepJ (upJ (ns, x0.p) (pre.map fun p : Nat × α => f p.2)) (f x.2)) W9 → UpI w h S (.func (.func 52) #[] #[]) (upJ (ns, x0.p) ((pre ++ [x]).map fun p : Nat × α => f p.2)) W9 := fun W9 h9 => by
      rw [List.map_append, List.map_cons, List.map_nil, upJ_snoc]
      exact h9
    generalize upJ (ns, x0.p) (pre.map fun p : Nat × α => f p.2) = st at hI hroom hnext hysm
    have HN := vers.lay hnext
    clear hnext
    obtain ⟨S', y, i1, i2, i3, i4, i5, i6, i7, i8, i9, i10, i11, i12⟩ := hI
    have hSx : ¬ S' Bx := fun h0 => by
      rcases (i3 Bx h0).1 with h1 | ⟨_, a, e, h2⟩
      · have := hSl _ h1; omega
      · have e2 := i4.cell 2
        simp only [List.getElem?_toArray, List.getElem?_cons_zero, List.getElem?_cons_succ] at e2
        rw [e2] at hq
        injection hq with hq
        injection hq with hq _ _
        have := hqb a (by rw [← hq]; exact e)
        omega
    have hSb : ∀ g, w.heap.size ≤ g → g < w.heap.size + 6 → ¬ S' g := fun g g1 g2 h0 => by
      rcases (i3 g h0).1 with h1 | ⟨h1, _⟩
      · have := hSl _ h1; omega
      · omega
    generalize f x.2 = s at hsn hsF hat1 hat2 hks hes hn1 hsm bX HN ⊢
    clear hq hqb
    have lX := bX.lt
    have lW : w.heap.size + 1 + 1 < W.heap.size := by omega
    have lC : w.heap.size < W.heap.size := by omega
    have c0 := i6.cell 0
    have c7 := i7.cell 0
    have gy0 := i4.cell 0
    have gy1 := i4.cell 1
    have gy2 := i4.cell 2
    have x0' := bX.cell 0
    have x1' := bX.cell 1
    have x2' := bX.cell 2
    have x3' := bX.cell 3
    have x4' := bX.cell 4
    have x5' := bX.cell 5
    simp only [St.cells, List.getElem?_toArray, List.getElem?_cons_zero, List.getElem?_cons_succ] at c0 c7 gy0 gy1 gy2 x0' x1' x2' x3' x4' x5'
    have hFy : ∀ g, ((g < W.heap.size ∧ ¬ S' g ∧ (g < w.heap.size ∨ w.heap.size + 6 ≤ g)) ∧ isC W g) → g < W.heap.size := fun g hg => hg.1.1
    have hsF' : s.F W (fun g => (g < W.heap.size ∧ ¬ S' g ∧ (g < w.heap.size ∨ w.heap.size + 6 ≤ g)) ∧ isC W g) := ((hsF.agree (i10.agree fun g hg => hF g hg)).cells).mono fun g hg => ⟨⟨by have := (hF g hg.1).1; have := i10.size; omega, fun h0 => (by
      rcases (i3 g h0).1 with h1 | ⟨h1, _⟩
      · exact (hF g hg.1).2 h1
      · have := (hF g hg.1).1; omega), .inl (hF g hg.1).1⟩, hg.2⟩
    have hkk : ∀ x ∈ s.la ++ [y] ++ s.lb, x.es.length ≤ 1000 ∧ x.ks.length ≤ 1000 := fun x hx => by
      rcases List.mem_append.1 hx with hx | hx
      · rcases List.mem_append.1 hx with hx | hx
        · exact hsm x (List.mem_append.2 (.inl hx))
        · have e := List.mem_singleton.1 hx
          subst e
          rw [← i2] at hysm
          simpa [small, N.p] using hysm
      · exact hsm x (List.mem_append.2 (.inr hx))
    have hput := fun w1 (hb : Below W.heap.size W w1) => join_any y s.la s.lb s.Aa s.Ab s.ca s.cb s.n.lf s.n.A s.n.Q s.n.es.length s.n.c s.n.ks.length s.n.m s.at_ _ w1 (i5.agree (Agree.of_below hb hFy)) (hsF'.1.agree (Agree.of_below hb hFy)) (hsF'.2.agree (Agree.of_below hb hFy)) (fun g hg => Nat.lt_of_lt_of_le (hFy g hg) hb.size) hkk hn1
    have hll : ∀ l1 : List N, l1.map N.p = joinP (s.la.map N.p) y.p (s.lb.map N.p) → l1.length ≤ 2 := fun l1 e => by
      have := congrArg List.length e
      rw [List.length_map] at this
      have := (joinP_len (s.la.map N.p) y.p (s.lb.map N.p)).2
      omega
    have hlay := fun w2 (hb : Below W.heap.size W w2) (l1 : List N) A1 c1 (e1 : l1.map N.p = joinP (s.la.map N.p) y.p (s.lb.map N.p)) (h1 : LF w2 (fun g => ((g < W.heap.size ∧ ¬ S' g ∧ (g < w.heap.size ∨ w.heap.size + 6 ≤ g)) ∧ isC W g) ∨ (W.heap.size ≤ g ∧ g < w2.heap.size)) l1 A1 c1) =>
      lay_ok l1 A1 c1 h S' st.1 w2 (i1.agree (Agree.of_below hb i1.lt) hb.size) _ h1 (fun g hg => by
        have := hb.size
        rcases hg with hg | hg
        · exact ⟨by omega, hg.1.2.1⟩
        · exact ⟨hg.2, fun h0 => by have := i1.lt g h0; omega⟩) (by have := hll l1 e1; omega)
    have hmx : Try.prog.follows .mixedOrders = true := by kernel_rfl
    have hd : 1 ≤ 4 - 1 - 1 := by omega
    have HP := vers.lay hput
    have HL := vers.lay hlay
    have HLL := vers.lay hll
    have HFY := vers.lay hFy
    clear hput hlay hll hFy
    have hn0 := hSb w.heap.size (by omega) (by omega)
    have hn1 := hSb (w.heap.size + 1) (by omega) (by omega)
    have hn2 := hSb (w.heap.size + 1 + 1) (by omega) (by omega)
    have l1' : w.heap.size + 1 < W.heap.size := by omega
    obtain ⟨ylf, yes, yks, yA, yc, yQ, ym⟩ := y
    gi_wp2
    have hbd : Below W.heap.size W W.drew := (Below.refl _ _).drew
    have hS0 : Keep S' W W.drew := Keep.of_below hbd
    refine mix.region_in l _ (fun w' => Keep S' W w') (fun j => j == 10) hmx (by kernel_rfl) (by rintro ⟨a, w, h⟩; exact h) ?_
    generalize W.drew = Wd at hbd hS0 ⊢
    refine mix.D_take (i := 0) (v := ?_) rfl (by kernel_rfl) (by kernel_rfl) (fun _ _ _ h => h) (Or.inl ⟨by rfl, ?_⟩) hS0 ?_
    rotate_left
    · intro w' hSw
      have y0 := (hSw.cell (p := ⟨w.heap.size, 0, none⟩) lC hn0).trans c0
      have y1 := (hSw.cell (p := ⟨w.heap.size + 1 + 1, 0, none⟩) lW hn2).trans c7
      have y2 := (hSw.cell (p := ⟨w.heap.size + 1, 0, none⟩) l1' hn1).trans gy0
      have y3 := (hSw.cell (p := ⟨w.heap.size + 1, 1, none⟩) l1' hn1).trans gy1
      have y4 := (hSw.cell (p := ⟨w.heap.size + 1, 2, none⟩) l1' hn1).trans gy2
      have y5 := (hSw.cell (p := ⟨Bx, 0, none⟩) lX hSx).trans x0'
      have y6 := (hSw.cell (p := ⟨Bx, 1, none⟩) lX hSx).trans x1'
      have y7 := (hSw.cell (p := ⟨Bx, 2, none⟩) lX hSx).trans x2'
      have y8 := (hSw.cell (p := ⟨Bx, 3, none⟩) lX hSx).trans x3'
      have y9 := (hSw.cell (p := ⟨Bx, 4, none⟩) lX hSx).trans x4'
      have y10 := (hSw.cell (p := ⟨Bx, 5, none⟩) lX hSx).trans x5'
      try simp only [List.getElem_toArray, List.getElem_cons_zero, List.getElem_cons_succ]
      go_simp
      exact rfl
    try simp only [Act.put, List.setIfInBounds_toArray, List.set_cons_zero, List.set_cons_succ, List.getElem_toArray, List.getElem_cons_zero, List.getElem_cons_succ]
    refine mix.D_take (i := 1) (v := ?_) rfl (by kernel_rfl) (by kernel_rfl) (fun _ _ _ h => h) (Or.inl ⟨by rfl, ?_⟩) hS0 ?_
    rotate_left
    · intro w' hSw
      have y0 := (hSw.cell (p := ⟨w.heap.size, 0, none⟩) lC hn0).trans c0
      have y1 := (hSw.cell (p := ⟨w.heap.size + 1 + 1, 0, none⟩) lW hn2).trans c7
      have y2 := (hSw.cell (p := ⟨w.heap.size + 1, 0, none⟩) l1' hn1).trans gy0
      have y3 := (hSw.cell (p := ⟨w.heap.size + 1, 1, none⟩) l1' hn1).trans gy1
      have y4 := (hSw.cell (p := ⟨w.heap.size + 1, 2, none⟩) l1' hn1).trans gy2
      have y5 := (hSw.cell (p := ⟨Bx, 0, none⟩) lX hSx).trans x0'
      have y6 := (hSw.cell (p := ⟨Bx, 1, none⟩) lX hSx).trans x1'
      have y7 := (hSw.cell (p := ⟨Bx, 2, none⟩) lX hSx).trans x2'
      have y8 := (hSw.cell (p := ⟨Bx, 3, none⟩) lX hSx).trans x3'
      have y9 := (hSw.cell (p := ⟨Bx, 4, none⟩) lX hSx).trans x4'
      have y10 := (hSw.cell (p := ⟨Bx, 5, none⟩) lX hSx).trans x5'
      try simp only [List.getElem_toArray, List.getElem_cons_zero, List.getElem_cons_succ]
      go_simp
      exact rfl
    try simp only [Act.put, List.setIfInBounds_toArray, List.set_cons_zero, List.set_cons_succ, List.getElem_toArray, List.getElem_cons_zero, List.getElem_cons_succ]
    refine mix.D_take (i := 2) (v := ?_) rfl (by kernel_rfl) (by kernel_rfl) (fun _ _ _ h => h) (Or.inl ⟨by rfl, ?_⟩) hS0 ?_
    rotate_left
    · intro w' hSw
      have y0 := (hSw.cell (p := ⟨w.heap.size, 0, none⟩) lC hn0).trans c0
      have y1 := (hSw.cell (p := ⟨w.heap.size + 1 + 1, 0, none⟩) lW hn2).trans c7
      have y2 := (hSw.cell (p := ⟨w.heap.size + 1, 0, none⟩) l1' hn1).trans gy0
      have y3 := (hSw.cell (p := ⟨w.heap.size + 1, 1, none⟩) l1' hn1).trans gy1
      have y4 := (hSw.cell (p := ⟨w.heap.size + 1, 2, none⟩) l1' hn1).trans gy2
      have y5 := (hSw.cell (p := ⟨Bx, 0, none⟩) lX hSx).trans x0'
      have y6 := (hSw.cell (p := ⟨Bx, 1, none⟩) lX hSx).trans x1'
      have y7 := (hSw.cell (p := ⟨Bx, 2, none⟩) lX hSx).trans x2'
      have y8 := (hSw.cell (p := ⟨Bx, 3, none⟩) lX hSx).trans x3'
      have y9 := (hSw.cell (p := ⟨Bx, 4, none⟩) lX hSx).trans x4'
      have y10 := (hSw.cell (p := ⟨Bx, 5, none⟩) lX hSx).trans x5'
      try simp only [List.getElem_toArray, List.getElem_cons_zero, List.getElem_cons_succ]
      go_simp
      exact rfl
    try simp only [Act.put, List.setIfInBounds_toArray, List.set_cons_zero, List.set_cons_succ, List.getElem_toArray, List.getElem_cons_zero, List.getElem_cons_succ]
    refine mix.D_take (i := 3) (v := ?_) rfl (by kernel_rfl) (by kernel_rfl) (fun _ _ _ h => h) (Or.inl ⟨by rfl, ?_⟩) hS0 ?_
    rotate_left
    · intro w' hSw
      have y0 := (hSw.cell (p := ⟨w.heap.size, 0, none⟩) lC hn0).trans c0
      have y1 := (hSw.cell (p := ⟨w.heap.size + 1 + 1, 0, none⟩) lW hn2).trans c7
      have y2 := (hSw.cell (p := ⟨w.heap.size + 1, 0, none⟩) l1' hn1).trans gy0
      have y3 := (hSw.cell (p := ⟨w.heap.size + 1, 1, none⟩) l1' hn1).trans gy1
      have y4 := (hSw.cell (p := ⟨w.heap.size + 1, 2, none⟩) l1' hn1).trans gy2
      have y5 := (hSw.cell (p := ⟨Bx, 0, none⟩) lX hSx).trans x0'
      have y6 := (hSw.cell (p := ⟨Bx, 1, none⟩) lX hSx).trans x1'
      have y7 := (hSw.cell (p := ⟨Bx, 2, none⟩) lX hSx).trans x2'
      have y8 := (hSw.cell (p := ⟨Bx, 3, none⟩) lX hSx).trans x3'
      have y9 := (hSw.cell (p := ⟨Bx, 4, none⟩) lX hSx).trans x4'
      have y10 := (hSw.cell (p := ⟨Bx, 5, none⟩) lX hSx).trans x5'
      try simp only [List.getElem_toArray, List.getElem_cons_zero, List.getElem_cons_succ]
      go_simp
      exact rfl
    try simp only [Act.put, List.setIfInBounds_toArray, List.set_cons_zero, List.set_cons_succ, List.getElem_toArray, List.getElem_cons_zero, List.getElem_cons_succ]
    refine mix.D_op (k := 4) rfl rfl (by kernel_rfl) (fun K' hK => ?_)
    simp only [List.getElem_toArray, List.getElem_cons_zero, List.getElem_cons_succ]
    go_wp2_with fail
    refine (HP.out _ hbd).mono ?_
    rintro e w2 hN
    have hN := npost_from hbd HFY.out hN
    obtain ⟨l1, A1, c1, rfl, e1, h1, b2⟩ := hN
    have hS2 : Keep S' W w2 := Keep.of_below b2
    refine hK.out _ _ (fun _ => hS2) ?_
    clear hK K'
    try simp only [Act.put, List.setIfInBounds_toArray, List.set_cons_zero, List.set_cons_succ]
    refine mix.D_op (k := 5) rfl rfl (by kernel_rfl) (fun K' hK => ?_)
    simp only [List.getElem_toArray, List.getElem_cons_zero, List.getElem_cons_succ]
    go_wp2_with fail
    refine (HL.out _ b2 _ _ _ e1 h1).mono ?_
    rintro e w3 ⟨v3, rfl, hLP⟩
    have hS3 : Keep S' W w3 := hS2.trans hLP.1 (fun g hg _ => hg)
    have hfit := laid_fits (i := st.1.length) h1.2.2.2.2 (by have := HLL.out l1 e1; omega)
    have ho3 := hLP.2.1
    rw [List.take_length] at ho3
    obtain ⟨R3, r3, rfl, hK3⟩ := own_ks (F := fun g => g < w3.heap.size) ho3 (laid_len _ _).symm (by rw [laid_len]; have := HLL.out l1 e1; omega) (fun g hg => (ho3.lt g hg).2) hfit
    refine hK.out _ _ (fun _ => hS3) ?_
    clear hK K'
    try simp only [Act.put, List.setIfInBounds_toArray, List.set_cons_zero, List.set_cons_succ]
    refine mix.D_take (i := 6) (v := ?_) rfl (by kernel_rfl) (by kernel_rfl) (fun _ _ _ h => h) (Or.inl ⟨by rfl, ?_⟩) hS3 ?_
    rotate_left
    · intro w' hSw
      try simp only [List.getElem_toArray, List.getElem_cons_zero, List.getElem_cons_succ]
      go_simp
      exact rfl
    try simp only [Act.put, List.setIfInBounds_toArray, List.set_cons_zero, List.set_cons_succ, List.getElem_toArray, List.getElem_cons_zero, List.getElem_cons_succ]
    refine mix.D_take (i := 7) (v := ?_) rfl (by kernel_rfl) (by kernel_rfl) (fun _ _ _ h => h) (Or.inl ⟨by rfl, ?_⟩) hS3 ?_
    rotate_left
    · intro w' hSw
      try simp only [List.getElem_toArray, List.getElem_cons_zero, List.getElem_cons_succ]
      go_simp
      exact rfl
    try simp only [Act.put, List.setIfInBounds_toArray, List.set_cons_zero, List.set_cons_succ, List.getElem_toArray, List.getElem_cons_zero, List.getElem_cons_succ]
    refine mix.D_take (i := 8) (v := ?_) rfl (by kernel_rfl) (by kernel_rfl) (fun _ _ _ h => h) (Or.inl ⟨by rfl, ?_⟩) hS3 ?_
    rotate_left
    · intro w' hSw
      try simp only [List.getElem_toArray, List.getElem_cons_zero, List.getElem_cons_succ]
      go_simp
      exact rfl
    try simp only [Act.put, List.setIfInBounds_toArray, List.set_cons_zero, List.set_cons_succ, List.getElem_toArray, List.getElem_cons_zero, List.getElem_cons_succ]
    refine mix.D_op (k := 9) rfl rfl (by kernel_rfl) (fun K' hK => ?_)
    simp only [List.getElem_toArray, List.getElem_cons_zero, List.getElem_cons_succ]
    go_wp2_with fail
    refine hK.out _ _ (fun _ => hS3) ?_
    clear hK K'
    try simp only [Act.put, List.setIfInBounds_toArray, List.set_cons_zero, List.set_cons_succ]
    refine mix.D_op (k := 10) rfl rfl (by kernel_rfl) (fun K' hK => ?_)
    simp only [List.getElem_toArray, List.getElem_cons_zero, List.getElem_cons_succ]
    go_wp2_with fail
    refine hK.out _ _ (fun h => by simp at h) ?_
    clear hK K'
    refine mix.D_done (by kernel_rfl) ?_ _
    try simp only [Act.put, List.setIfInBounds_toArray, List.set_cons_zero, List.set_cons_succ, List.getElem_toArray, List.getElem_cons_zero, List.getElem_cons_succ]
    have kX3 := hS3.blk bX hSx
    have kG3 := hS3.blk i4 hn1
    have x0' := kX3.cell 0
    have x1' := kX3.cell 1
    have x2' := kX3.cell 2
    have x3' := kX3.cell 3
    have x4' := kX3.cell 4
    have x5' := kX3.cell 5
    simp only [St.cells, List.getElem?_toArray, List.getElem?_cons_zero, List.getElem?_cons_succ] at x0' x1' x2' x3' x4' x5'
    have lX3 := kX3.lt
    have hover := over_any s.st (laid st.1.length l1) R3 r3 (fun g => g < w3.heap.size) w3 ((hsn.2.agree (w' := w3) (fun g hg => ((hS3.block g (by have := (hF g hg).1; omega) (fun h0 => by
      rcases (i3 g h0).1 with h1 | ⟨h1, _⟩
      · exact (hF g hg).2 h1
      · have := (hF g hg).1; omega)).trans (i10.block g (hF g hg).1 (hF g hg).2)))).mono (fun g hg => by have := (hF g hg).1; have := hS3.size; omega)) hK3 (fun g hg => hg) (by exact hat1) (by exact hat2) (by rw [laid_len]; have := HLL.out l1 e1; have hq0 : s.st.n.ks.length = s.n.ks.length := rfl; omega)
    have HO := vers.lay hover
    clear hover c0 c7 gy0 gy1 gy2
    gi_wp2_with (refine ⟨trivial, ?_⟩; gi_at_call 88; refine (CallsIn.inRound l (callsIn_wide.2 HO.out)).mono ?_; rintro e w4 ⟨v4, rfl, ho4, hb4⟩; obtain ⟨A4, c4, rfl, _⟩ := row_rdF ho4; have kG4 := kG3.below hb4 kG3.lt; have z0 := kG4.cell 0; have z1 := kG4.cell 1; have z2 := kG4.cell 2; simp only [List.getElem?_toArray, List.getElem?_cons_zero, List.getElem?_cons_succ] at z0 z1 z2; have f0 := kG4.frozen 0; have f1 := kG4.frozen 1; have f2 := kG4.frozen 2; have lG4 := kG4.lt)
    have hU := up_nextJ (s := s.st) (B := W1.heap.size) (fv := (.func (.func 52) #[] #[])) hSl i1 i2 i3 i4 i6 i7 i8 i9 i10 i11 hsn hF b2 e1 (joinP_len _ _ _) hLP ho4 hb4 hfit (by have : s.st.n.ks.length = s.n.ks.length := rfl; omega) (HLL.out l1 e1) (by omega)
    obtain ⟨u1, u2, u3⟩ := hU
    have u3 := u3 (fun g => F g ∨ g = w.heap.size + 1 + 1 + 1 + 1 + 1) (fun g hg => by
      rcases hg with hg | hg
      · have := hF g hg
        refine ⟨by omega, fun h0 => ?_, by omega⟩
        rcases (i3 g h0).1 with h1 | ⟨h1, _⟩
        · exact this.2 h1
        · omega
      · exact ⟨by omega, hSb g (by omega) (by omega), by omega⟩)
    have k5'' := (u3 _ (.inr rfl)).trans k5'
    unfold set3 at u1 u2 u3 k5''
    exact ⟨u2, u3, HN.out _ (by rw [i2] at u1; rw [show stepJ st s = (st.1 ++ joinP (s.la.map N.p) st.2 (s.lb.map N.p), (s.st.n.lf, s.st.n.es.map pe, overK s.st.n.ks s.st.at_ s.st.na s.st.nb (laidP st.1.length (joinP (s.la.map N.p) st.2 (s.lb.map N.p))))) by simp only [stepJ, stepD, SJ.st, N.p, List.length_map]]; exact u1), k5''⟩
  case done =>
    rintro D ys W hD rfl ⟨hI, k5'⟩ hK
    obtain ⟨y, i4, i8, i9, HU⟩ := up_done hSl hI
    have gy0 := i4.cell 0
    have gy1 := i4.cell 1
    have gy2 := i4.cell 2
    have z0 := i8.cell 0
    have z1 := i8.cell 1
    have z2 := i8.cell 2
    have e0 := i9.cell 0
    simp only [List.getElem?_toArray, List.getElem?_cons_zero, List.getElem?_cons_succ] at gy0 gy1 gy2 z0 z1 z2 e0
    have f0 := i8.frozen 0
    have f1 := i8.frozen 1
    have f2 := i8.frozen 2
    have fe := i9.frozen 0
    have lz := i8.lt
    have le := i9.lt
    have ly := i4.lt
    have hD6 : w.heap.size + 6 ≤ D := by omega
    gi_wp2
    have hK' : ((((W.setCell ⟨w.heap.size + 1 + 1 + 1, 0, none⟩ (.bool y.lf)).setCell ⟨w.heap.size + 1 + 1 + 1, 1, none⟩ (.slice y.A y.es.length y.c)).setCell ⟨w.heap.size + 1 + 1 + 1, 2, none⟩ (.slice y.Q y.ks.length y.m)).setCell ⟨w.heap.size + 1 + 1 + 1 + 1, 0, none⟩ (.int .i64 0)).heap[D]? = some (.deferred (some [])) := by
      rw [Below.heap_setCell _ _ _ _ (by simp; omega), Below.heap_setCell _ _ _ _ (by simp; omega), Below.heap_setCell _ _ _ _ (by simp; omega), Below.heap_setCell _ _ _ _ (by simp; omega)]
      exact hK
    have kz := ((i8.put 0 (.bool y.lf)).put 1 (.slice y.A y.es.length y.c)).put 2 (.slice y.Q y.ks.length y.m)
    have kz := (kz.far (p := ⟨w.heap.size + 1 + 1 + 1 + 1, 0, none⟩) (by simp) (.int .i64 0))
    have ke := (((i9.far (p := ⟨w.heap.size + 1 + 1 + 1, 0, none⟩) (by simp) (.bool y.lf)).far (p := ⟨w.heap.size + 1 + 1 + 1, 1, none⟩) (by simp) (.slice y.A y.es.length y.c)).far (p := ⟨w.heap.size + 1 + 1 + 1, 2, none⟩) (by simp) (.slice y.Q y.ks.length y.m)).put 0 (.int .i64 0)
    have bz := ((((Below.refl 0 W).setCell (p := ⟨w.heap.size + 1 + 1 + 1, 0, none⟩) (Nat.zero_le _) (.bool y.lf)).setCell (p := ⟨w.heap.size + 1 + 1 + 1, 1, none⟩) (Nat.zero_le _) (.slice y.A y.es.length y.c)).setCell (p := ⟨w.heap.size + 1 + 1 + 1, 2, none⟩) (Nat.zero_le _) (.slice y.Q y.ks.length y.m)).setCell (p := ⟨w.heap.size + 1 + 1 + 1 + 1, 0, none⟩) (Nat.zero_le _) (.int .i64 0)
    have az : ∀ g, g ≠ w.heap.size + 1 + 1 + 1 → g ≠ w.heap.size + 1 + 1 + 1 + 1 → ((((W.setCell ⟨w.heap.size + 1 + 1 + 1, 0, none⟩ (.bool y.lf)).setCell ⟨w.heap.size + 1 + 1 + 1, 1, none⟩ (.slice y.A y.es.length y.c)).setCell ⟨w.heap.size + 1 + 1 + 1, 2, none⟩ (.slice y.Q y.ks.length y.m)).setCell ⟨w.heap.size + 1 + 1 + 1 + 1, 0, none⟩ (.int .i64 0)).heap[g]? = W.heap[g]? := fun g g1 g2 => by
      rw [Below.heap_setCell _ _ _ _ (by simpa using g2), Below.heap_setCell _ _ _ _ (by simpa using g1), Below.heap_setCell _ _ _ _ (by simpa using g1), Below.heap_setCell _ _ _ _ (by simpa using g1)]
    have sz : ((((W.setCell ⟨w.heap.size + 1 + 1 + 1, 0, none⟩ (.bool y.lf)).setCell ⟨w.heap.size + 1 + 1 + 1, 1, none⟩ (.slice y.A y.es.length y.c)).setCell ⟨w.heap.size + 1 + 1 + 1, 2, none⟩ (.slice y.Q y.ks.length y.m)).setCell ⟨w.heap.size + 1 + 1 + 1 + 1, 0, none⟩ (.int .i64 0)).heap.size = W.heap.size := by simp
    simp only [List.setIfInBounds_toArray, List.set_cons_zero, List.set_cons_succ] at kz ke
    generalize ((((W.setCell ⟨w.heap.size + 1 + 1 + 1, 0, none⟩ (.bool y.lf)).setCell ⟨w.heap.size + 1 + 1 + 1, 1, none⟩ (.slice y.A y.es.length y.c)).setCell ⟨w.heap.size + 1 + 1 + 1, 2, none⟩ (.slice y.Q y.ks.length y.m)).setCell ⟨w.heap.size + 1 + 1 + 1 + 1, 0, none⟩ (.int .i64 0)) = WX at hK' kz ke bz az sz ⊢
    refine ⟨by simp, .inl ⟨_, _, rfl, run_takeDeferred hK', ?_⟩⟩
    have hg := grownBy_putObj' WX D (.deferred none)
    have hr : ∀ r, some D = some r → ∃ o : Obj, WX.heap[r]? = some o ∧ o.isCells = false := fun r e => by cases e; exact ⟨_, hK', rfl⟩
    have kz := (grown_isC hg hr (isC_blk kz)).trans kz
    have ke := (grown_isC hg hr (isC_blk ke)).trans ke
    have kz : Blk (WX.putObj D (.deferred none)) (w.heap.size + 1 + 1 + 1) 60 _ := kz
    have ke : Blk (WX.putObj D (.deferred none)) (w.heap.size + 1 + 1 + 1 + 1) 28 _ := ke
    have z0 := kz.cell 0
    have z1 := kz.cell 1
    have z2 := kz.cell 2
    have e0 := ke.cell 0
    simp only [List.getElem?_toArray, List.getElem?_cons_zero, List.getElem?_cons_succ] at z0 z1 z2 e0
    refine ⟨.tuple #[y.val, .int .i64 0], ?_, HU _ D _ hD6 hK rfl (fun g g1 g2 g3 => ?_) (by rw [← sz]; simp) (hg.os.trans bz.os) (hg.tape.trans bz.tape) (hg.output.trans bz.output)⟩
    · simp [results, Try.results51, go_sem, z0, z1, z2, e0]
    · exact (World.putObj_heap_other g3).trans (az g g1 g2)
  case stop =>
    rintro D cc pre W hD _ h0
    exact h0.elim

end Go.Proofs.Ytnndohdiiglgmaa.trees
