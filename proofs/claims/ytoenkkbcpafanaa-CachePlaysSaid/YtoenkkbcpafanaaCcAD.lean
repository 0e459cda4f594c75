/- The document's cache: Like. -/
import Derived.Test.YtoenkkbcpafanaaCcAC
import Derived.Test.YtoenkkbcpafanaaMixG


namespace Go.Proofs.Ytoenkkbcpafanaa.caches
set_option linter.unusedVariables false
set_option linter.unusedSimpArgs false
open Go.RowKit Go.Proofs.Ytoenkkbcpafanaa.base Go.Proofs.Ytoenkkbcpafanaa.vers Go.Proofs.Ytoenkkbcpafanaa.nodes Go.Proofs.Ytoenkkbcpafanaa.trees

section
variable {A B : Option Addr} {c d : Nat} {w w' : World} {F : Nat → Prop} {l : List H}
/-- what is kept, as it is read -/
def HsR (w : World) (l : List H) (A : Option Addr) (c : Nat) : Prop := l.length ≤ c ∧ (A = none → c = 0) ∧ RdF w (fun b => b < w.heap.size) A (cellsH l) ∧ l.length ≤ 32 ∧ ∀ x ∈ l, NsF w (fun b => b < w.heap.size) x.n
theorem HsR.below (h : HsR w l A c) (hb : Below w.heap.size w w') : HsR w' l A c :=
  ⟨h.1, h.2.1, (h.2.2.1.agree fun b hl => hb.block b hl).mono fun b hl => Nat.lt_of_lt_of_le hl hb.size, h.2.2.2.1, fun x hx => ((h.2.2.2.2 x hx).agree fun b hl => hb.block b hl).mono fun b hl => Nat.lt_of_lt_of_le hl hb.size⟩
theorem ph_both {x y : H} (h : x.ph = y.ph) : x.r = y.r ∧ x.n.p = y.n.p ∧ x.p = y.p := by
  unfold H.ph at h
  injection h with h1 h2
  injection h2 with h2 h3
  exact ⟨h1, h2, h3⟩

set_option maxRecDepth 100000 in
set_option maxHeartbeats 16000000 in
theorem likeR_ok (la lb : List H) (A B : Option Addr) (c d : Nat) (w : World) (ha : HsR w la A c) (hb : HsR w lb B d) (he : la.map H.ph = lb.map H.ph) :
    Calls Try.prog 46 #[.slice A la.length c, .slice B lb.length d] w fun e w' => e = .returned (.bool true) ∧ Below w.heap.size w w' := by
  have hl : lb.length = la.length := by have := congrArg List.length he; simpa using this.symm
  have hcap := ha.2.2.2.1
  have HA := vers.lay ha
  have HB := vers.lay hb
  have HE := vers.lay (fun j (h1 : j < la.length) (h2 : j < lb.length) => ph_both (show la[j].ph = lb[j].ph by have := congrArg (fun L => L[j]?) he; simpa [h1, h2] using this))
  have HL := vers.lay hl
  rw [hl]
  clear ha hb he hl
  go_enter Try.func46, Try.ntmps46
  go_wp2_with fail
  go_loopw [5] (fun ii wr => ∃ j : Nat, ii = .int .i64 (j : Int) ∧ j ≤ la.length ∧ Hid (Below w.heap.size w wr)) (fun ii _ => la.length - (RowKit.intOf ii).toNat)
  case atStart => exact ⟨0, rfl, Nat.zero_le _, vers.lay (Below.refl _ _)⟩
  case round =>
    obtain ⟨j, rfl, hj, HBw⟩ := hrel
    by_cases hlt : j < la.length
    · obtain ⟨_, _, hr1, _, hn1⟩ := HA.out.below HBw.out
      obtain ⟨_, _, hr2, _, hn2⟩ := HB.out.below HBw.out
      have h2 : j < lb.length := by rw [HL.out]; exact hlt
      obtain ⟨b1, f1, rfl, hl1, x0, x1, x2, x3, x4, x5, x6, x7⟩ := RdF.h_at hr1 hlt
      obtain ⟨b2, f2, rfl, hl2, y0, y1, y2, y3, y4, y5, y6, y7⟩ := RdF.h_at hr2 h2
      have n1 := hn1 _ (List.getElem_mem hlt)
      have n2 := hn2 _ (List.getElem_mem h2)
      obtain ⟨e1, e2, e3⟩ := HE.out j hlt h2
      obtain ⟨z1, hz1⟩ : ∃ z1, la[j]'hlt = z1 := ⟨_, rfl⟩
      obtain ⟨z2, hz2⟩ : ∃ z2, lb[j]'h2 = z2 := ⟨_, rfl⟩
      rw [hz1] at x0 x1 x2 x3 x4 x5 x6 x7 n1 e1 e2 e3
      rw [hz2] at y0 y1 y2 y3 y4 y5 y6 y7 n2 e1 e2 e3
      clear hz1 hz2 hr1 hr2 hn1 hn2 h2
      obtain ⟨⟨rk, rg, ro, rn⟩, m1, p1, F1⟩ := z1
      obtain ⟨r2, m2, p2, F2⟩ := z2
      simp only at e1 e2 e3
      subst e1 e3
      simp only at x0 x1 x2 x3 x4 x5 x6 x7 n1 y0 y1 y2 y3 y4 y5 y6 y7 n2
      have hd : decide (m1.lf = m2.lf ∧ m1.es.map pe = m2.es.map pe ∧ m1.ks = m2.ks) = true := decide_eq_true (by
        unfold N.p at e2
        injection e2 with e4 e5
        injection e5 with e5 e6
        exact ⟨e4, e5, e6⟩)
      have HLK := vers.lay (fun w' (hbw : Below wr.heap.size wr w') => by
        have := likeN_any m1.lf m2.lf m1.es m2.es m1.ks m2.ks m1.A m2.A m1.c m2.c m1.Q m2.Q m1.m m2.m w' (n1.1.es.at_world hbw) (n2.1.es.at_world hbw) ((n1.2.ks.below hbw).more hbw.size) ((n2.2.ks.below hbw).more hbw.size)
        rw [hd] at this
        exact this)
      have hne : ∀ u, (binOp .neq 27 (.agg #[.int .u64 (rk : Int), .int .i64 rg, .int .i64 ro, .int .i64 rn]) (.agg #[.int .u64 (rk : Int), .int .i64 rg, .int .i64 ro, .int .i64 rn])).run Try.prog u = .ok (.bool false) u := fun u => (ref_neq ⟨rk, rg, ro, rn⟩ ⟨rk, rg, ro, rn⟩ u).trans (by simp)
      clear n1 n2 e2 hd
      have hS0 : Below wr.heap.size wr wr.drew := (Below.refl _ _).drew
      go_upto_region 6 with (fail)
      refine mix.region_D (fun w' => Below wr.heap.size wr w') (fun _ => false) (by kernel_rfl) ?_
      generalize wr.drew = Wd at *
      refine mix.D_takeT (i := 0) (v := ?_) rfl (by kernel_rfl) (by kernel_rfl) (fun _ _ _ h => h) (Or.inl ⟨by first | rfl | simp [Region.wanted, yielded], ?_⟩) hS0 ?_
      rotate_left
      · intro w' hSw
        have a0 := (hSw.cell (p := ⟨b1, f1 + j * 8, none⟩) hl1).trans x0
        have a1 := (hSw.cell (p := ⟨b1, f1 + j * 8 + 1, none⟩) hl1).trans x1
        have a2 := (hSw.cell (p := ⟨b1, f1 + j * 8 + 2, none⟩) hl1).trans x2
        have a3 := (hSw.cell (p := ⟨b1, f1 + j * 8 + 3, none⟩) hl1).trans x3
        have a4 := (hSw.cell (p := ⟨b1, f1 + j * 8 + 4, none⟩) hl1).trans x4
        have a5 := (hSw.cell (p := ⟨b1, f1 + j * 8 + 5, none⟩) hl1).trans x5
        have a6 := (hSw.cell (p := ⟨b1, f1 + j * 8 + 6, none⟩) hl1).trans x6
        have a7 := (hSw.cell (p := ⟨b1, f1 + j * 8 + 7, none⟩) hl1).trans x7
        have c0 := (hSw.cell (p := ⟨b2, f2 + j * 8, none⟩) hl2).trans y0
        have c1 := (hSw.cell (p := ⟨b2, f2 + j * 8 + 1, none⟩) hl2).trans y1
        have c2 := (hSw.cell (p := ⟨b2, f2 + j * 8 + 2, none⟩) hl2).trans y2
        have c3 := (hSw.cell (p := ⟨b2, f2 + j * 8 + 3, none⟩) hl2).trans y3
        have c4 := (hSw.cell (p := ⟨b2, f2 + j * 8 + 4, none⟩) hl2).trans y4
        have c5 := (hSw.cell (p := ⟨b2, f2 + j * 8 + 5, none⟩) hl2).trans y5
        have c6 := (hSw.cell (p := ⟨b2, f2 + j * 8 + 6, none⟩) hl2).trans y6
        have c7 := (hSw.cell (p := ⟨b2, f2 + j * 8 + 7, none⟩) hl2).trans y7
        try simp only [List.getElem_toArray, List.getElem_cons_zero, List.getElem_cons_succ]
        go_simp
        exact rfl
      try simp only [Act.put, List.setIfInBounds_toArray, List.set_cons_zero, List.set_cons_succ, List.getElem_toArray, List.getElem_cons_zero, List.getElem_cons_succ]
      refine mix.D_takeT (i := 1) (v := ?_) rfl (by kernel_rfl) (by kernel_rfl) (fun _ _ _ h => h) (Or.inl ⟨by first | rfl | simp [Region.wanted, yielded], ?_⟩) hS0 ?_
      rotate_left
      · intro w' hSw
        have a0 := (hSw.cell (p := ⟨b1, f1 + j * 8, none⟩) hl1).trans x0
        have a1 := (hSw.cell (p := ⟨b1, f1 + j * 8 + 1, none⟩) hl1).trans x1
        have a2 := (hSw.cell (p := ⟨b1, f1 + j * 8 + 2, none⟩) hl1).trans x2
        have a3 := (hSw.cell (p := ⟨b1, f1 + j * 8 + 3, none⟩) hl1).trans x3
        have a4 := (hSw.cell (p := ⟨b1, f1 + j * 8 + 4, none⟩) hl1).trans x4
        have a5 := (hSw.cell (p := ⟨b1, f1 + j * 8 + 5, none⟩) hl1).trans x5
        have a6 := (hSw.cell (p := ⟨b1, f1 + j * 8 + 6, none⟩) hl1).trans x6
        have a7 := (hSw.cell (p := ⟨b1, f1 + j * 8 + 7, none⟩) hl1).trans x7
        have c0 := (hSw.cell (p := ⟨b2, f2 + j * 8, none⟩) hl2).trans y0
        have c1 := (hSw.cell (p := ⟨b2, f2 + j * 8 + 1, none⟩) hl2).trans y1
        have c2 := (hSw.cell (p := ⟨b2, f2 + j * 8 + 2, none⟩) hl2).trans y2
        have c3 := (hSw.cell (p := ⟨b2, f2 + j * 8 + 3, none⟩) hl2).trans y3
        have c4 := (hSw.cell (p := ⟨b2, f2 + j * 8 + 4, none⟩) hl2).trans y4
        have c5 := (hSw.cell (p := ⟨b2, f2 + j * 8 + 5, none⟩) hl2).trans y5
        have c6 := (hSw.cell (p := ⟨b2, f2 + j * 8 + 6, none⟩) hl2).trans y6
        have c7 := (hSw.cell (p := ⟨b2, f2 + j * 8 + 7, none⟩) hl2).trans y7
        try simp only [List.getElem_toArray, List.getElem_cons_zero, List.getElem_cons_succ]
        go_simp
        exact rfl
      try simp only [Act.put, List.setIfInBounds_toArray, List.set_cons_zero, List.set_cons_succ, List.getElem_toArray, List.getElem_cons_zero, List.getElem_cons_succ]
      refine mix.D_takeT (i := 2) (v := ?_) rfl (by kernel_rfl) (by kernel_rfl) (fun _ _ _ h => h) (Or.inl ⟨by first | rfl | simp [Region.wanted, yielded], ?_⟩) hS0 ?_
      rotate_left
      · intro w' hSw
        have a0 := (hSw.cell (p := ⟨b1, f1 + j * 8, none⟩) hl1).trans x0
        have a1 := (hSw.cell (p := ⟨b1, f1 + j * 8 + 1, none⟩) hl1).trans x1
        have a2 := (hSw.cell (p := ⟨b1, f1 + j * 8 + 2, none⟩) hl1).trans x2
        have a3 := (hSw.cell (p := ⟨b1, f1 + j * 8 + 3, none⟩) hl1).trans x3
        have a4 := (hSw.cell (p := ⟨b1, f1 + j * 8 + 4, none⟩) hl1).trans x4
        have a5 := (hSw.cell (p := ⟨b1, f1 + j * 8 + 5, none⟩) hl1).trans x5
        have a6 := (hSw.cell (p := ⟨b1, f1 + j * 8 + 6, none⟩) hl1).trans x6
        have a7 := (hSw.cell (p := ⟨b1, f1 + j * 8 + 7, none⟩) hl1).trans x7
        have c0 := (hSw.cell (p := ⟨b2, f2 + j * 8, none⟩) hl2).trans y0
        have c1 := (hSw.cell (p := ⟨b2, f2 + j * 8 + 1, none⟩) hl2).trans y1
        have c2 := (hSw.cell (p := ⟨b2, f2 + j * 8 + 2, none⟩) hl2).trans y2
        have c3 := (hSw.cell (p := ⟨b2, f2 + j * 8 + 3, none⟩) hl2).trans y3
        have c4 := (hSw.cell (p := ⟨b2, f2 + j * 8 + 4, none⟩) hl2).trans y4
        have c5 := (hSw.cell (p := ⟨b2, f2 + j * 8 + 5, none⟩) hl2).trans y5
        have c6 := (hSw.cell (p := ⟨b2, f2 + j * 8 + 6, none⟩) hl2).trans y6
        have c7 := (hSw.cell (p := ⟨b2, f2 + j * 8 + 7, none⟩) hl2).trans y7
        try simp only [List.getElem_toArray, List.getElem_cons_zero, List.getElem_cons_succ]
        go_simp
        exact rfl
      try simp only [Act.put, List.setIfInBounds_toArray, List.set_cons_zero, List.set_cons_succ, List.getElem_toArray, List.getElem_cons_zero, List.getElem_cons_succ]
      refine mix.D_takeT (i := 3) (v := ?_) rfl (by kernel_rfl) (by kernel_rfl) (fun _ _ _ h => h) (Or.inl ⟨by first | rfl | simp [Region.wanted, yielded], ?_⟩) hS0 ?_
      rotate_left
      · intro w' hSw
        have a0 := (hSw.cell (p := ⟨b1, f1 + j * 8, none⟩) hl1).trans x0
        have a1 := (hSw.cell (p := ⟨b1, f1 + j * 8 + 1, none⟩) hl1).trans x1
        have a2 := (hSw.cell (p := ⟨b1, f1 + j * 8 + 2, none⟩) hl1).trans x2
        have a3 := (hSw.cell (p := ⟨b1, f1 + j * 8 + 3, none⟩) hl1).trans x3
        have a4 := (hSw.cell (p := ⟨b1, f1 + j * 8 + 4, none⟩) hl1).trans x4
        have a5 := (hSw.cell (p := ⟨b1, f1 + j * 8 + 5, none⟩) hl1).trans x5
        have a6 := (hSw.cell (p := ⟨b1, f1 + j * 8 + 6, none⟩) hl1).trans x6
        have a7 := (hSw.cell (p := ⟨b1, f1 + j * 8 + 7, none⟩) hl1).trans x7
        have c0 := (hSw.cell (p := ⟨b2, f2 + j * 8, none⟩) hl2).trans y0
        have c1 := (hSw.cell (p := ⟨b2, f2 + j * 8 + 1, none⟩) hl2).trans y1
        have c2 := (hSw.cell (p := ⟨b2, f2 + j * 8 + 2, none⟩) hl2).trans y2
        have c3 := (hSw.cell (p := ⟨b2, f2 + j * 8 + 3, none⟩) hl2).trans y3
        have c4 := (hSw.cell (p := ⟨b2, f2 + j * 8 + 4, none⟩) hl2).trans y4
        have c5 := (hSw.cell (p := ⟨b2, f2 + j * 8 + 5, none⟩) hl2).trans y5
        have c6 := (hSw.cell (p := ⟨b2, f2 + j * 8 + 6, none⟩) hl2).trans y6
        have c7 := (hSw.cell (p := ⟨b2, f2 + j * 8 + 7, none⟩) hl2).trans y7
        try simp only [List.getElem_toArray, List.getElem_cons_zero, List.getElem_cons_succ]
        go_simp
        exact rfl
      try simp only [Act.put, List.setIfInBounds_toArray, List.set_cons_zero, List.set_cons_succ, List.getElem_toArray, List.getElem_cons_zero, List.getElem_cons_succ]
      refine mix.D_takeT (i := 4) (v := ?_) rfl (by kernel_rfl) (by kernel_rfl) (fun _ _ _ h => h) (Or.inl ⟨by first | rfl | simp [Region.wanted, yielded], ?_⟩) hS0 ?_
      rotate_left
      · intro w' hSw
        have a0 := (hSw.cell (p := ⟨b1, f1 + j * 8, none⟩) hl1).trans x0
        have a1 := (hSw.cell (p := ⟨b1, f1 + j * 8 + 1, none⟩) hl1).trans x1
        have a2 := (hSw.cell (p := ⟨b1, f1 + j * 8 + 2, none⟩) hl1).trans x2
        have a3 := (hSw.cell (p := ⟨b1, f1 + j * 8 + 3, none⟩) hl1).trans x3
        have a4 := (hSw.cell (p := ⟨b1, f1 + j * 8 + 4, none⟩) hl1).trans x4
        have a5 := (hSw.cell (p := ⟨b1, f1 + j * 8 + 5, none⟩) hl1).trans x5
        have a6 := (hSw.cell (p := ⟨b1, f1 + j * 8 + 6, none⟩) hl1).trans x6
        have a7 := (hSw.cell (p := ⟨b1, f1 + j * 8 + 7, none⟩) hl1).trans x7
        have c0 := (hSw.cell (p := ⟨b2, f2 + j * 8, none⟩) hl2).trans y0
        have c1 := (hSw.cell (p := ⟨b2, f2 + j * 8 + 1, none⟩) hl2).trans y1
        have c2 := (hSw.cell (p := ⟨b2, f2 + j * 8 + 2, none⟩) hl2).trans y2
        have c3 := (hSw.cell (p := ⟨b2, f2 + j * 8 + 3, none⟩) hl2).trans y3
        have c4 := (hSw.cell (p := ⟨b2, f2 + j * 8 + 4, none⟩) hl2).trans y4
        have c5 := (hSw.cell (p := ⟨b2, f2 + j * 8 + 5, none⟩) hl2).trans y5
        have c6 := (hSw.cell (p := ⟨b2, f2 + j * 8 + 6, none⟩) hl2).trans y6
        have c7 := (hSw.cell (p := ⟨b2, f2 + j * 8 + 7, none⟩) hl2).trans y7
        try simp only [List.getElem_toArray, List.getElem_cons_zero, List.getElem_cons_succ]
        go_simp
        exact rfl
      try simp only [Act.put, List.setIfInBounds_toArray, List.set_cons_zero, List.set_cons_succ, List.getElem_toArray, List.getElem_cons_zero, List.getElem_cons_succ]
      refine mix.D_takeT (i := 5) (v := ?_) rfl (by kernel_rfl) (by kernel_rfl) (fun _ _ _ h => h) (Or.inl ⟨by first | rfl | simp [Region.wanted, yielded], ?_⟩) hS0 ?_
      rotate_left
      · intro w' hSw
        have a0 := (hSw.cell (p := ⟨b1, f1 + j * 8, none⟩) hl1).trans x0
        have a1 := (hSw.cell (p := ⟨b1, f1 + j * 8 + 1, none⟩) hl1).trans x1
        have a2 := (hSw.cell (p := ⟨b1, f1 + j * 8 + 2, none⟩) hl1).trans x2
        have a3 := (hSw.cell (p := ⟨b1, f1 + j * 8 + 3, none⟩) hl1).trans x3
        have a4 := (hSw.cell (p := ⟨b1, f1 + j * 8 + 4, none⟩) hl1).trans x4
        have a5 := (hSw.cell (p := ⟨b1, f1 + j * 8 + 5, none⟩) hl1).trans x5
        have a6 := (hSw.cell (p := ⟨b1, f1 + j * 8 + 6, none⟩) hl1).trans x6
        have a7 := (hSw.cell (p := ⟨b1, f1 + j * 8 + 7, none⟩) hl1).trans x7
        have c0 := (hSw.cell (p := ⟨b2, f2 + j * 8, none⟩) hl2).trans y0
        have c1 := (hSw.cell (p := ⟨b2, f2 + j * 8 + 1, none⟩) hl2).trans y1
        have c2 := (hSw.cell (p := ⟨b2, f2 + j * 8 + 2, none⟩) hl2).trans y2
        have c3 := (hSw.cell (p := ⟨b2, f2 + j * 8 + 3, none⟩) hl2).trans y3
        have c4 := (hSw.cell (p := ⟨b2, f2 + j * 8 + 4, none⟩) hl2).trans y4
        have c5 := (hSw.cell (p := ⟨b2, f2 + j * 8 + 5, none⟩) hl2).trans y5
        have c6 := (hSw.cell (p := ⟨b2, f2 + j * 8 + 6, none⟩) hl2).trans y6
        have c7 := (hSw.cell (p := ⟨b2, f2 + j * 8 + 7, none⟩) hl2).trans y7
        try simp only [List.getElem_toArray, List.getElem_cons_zero, List.getElem_cons_succ]
        go_simp
        exact rfl
      try simp only [Act.put, List.setIfInBounds_toArray, List.set_cons_zero, List.set_cons_succ, List.getElem_toArray, List.getElem_cons_zero, List.getElem_cons_succ]
      refine mix.D_takeT (i := 6) (v := ?_) rfl (by kernel_rfl) (by kernel_rfl) (fun _ _ _ h => h) (Or.inl ⟨by first | rfl | simp [Region.wanted, yielded], ?_⟩) hS0 ?_
      rotate_left
      · intro w' hSw
        have a0 := (hSw.cell (p := ⟨b1, f1 + j * 8, none⟩) hl1).trans x0
        have a1 := (hSw.cell (p := ⟨b1, f1 + j * 8 + 1, none⟩) hl1).trans x1
        have a2 := (hSw.cell (p := ⟨b1, f1 + j * 8 + 2, none⟩) hl1).trans x2
        have a3 := (hSw.cell (p := ⟨b1, f1 + j * 8 + 3, none⟩) hl1).trans x3
        have a4 := (hSw.cell (p := ⟨b1, f1 + j * 8 + 4, none⟩) hl1).trans x4
        have a5 := (hSw.cell (p := ⟨b1, f1 + j * 8 + 5, none⟩) hl1).trans x5
        have a6 := (hSw.cell (p := ⟨b1, f1 + j * 8 + 6, none⟩) hl1).trans x6
        have a7 := (hSw.cell (p := ⟨b1, f1 + j * 8 + 7, none⟩) hl1).trans x7
        have c0 := (hSw.cell (p := ⟨b2, f2 + j * 8, none⟩) hl2).trans y0
        have c1 := (hSw.cell (p := ⟨b2, f2 + j * 8 + 1, none⟩) hl2).trans y1
        have c2 := (hSw.cell (p := ⟨b2, f2 + j * 8 + 2, none⟩) hl2).trans y2
        have c3 := (hSw.cell (p := ⟨b2, f2 + j * 8 + 3, none⟩) hl2).trans y3
        have c4 := (hSw.cell (p := ⟨b2, f2 + j * 8 + 4, none⟩) hl2).trans y4
        have c5 := (hSw.cell (p := ⟨b2, f2 + j * 8 + 5, none⟩) hl2).trans y5
        have c6 := (hSw.cell (p := ⟨b2, f2 + j * 8 + 6, none⟩) hl2).trans y6
        have c7 := (hSw.cell (p := ⟨b2, f2 + j * 8 + 7, none⟩) hl2).trans y7
        try simp only [List.getElem_toArray, List.getElem_cons_zero, List.getElem_cons_succ]
        go_simp
        exact rfl
      try simp only [Act.put, List.setIfInBounds_toArray, List.set_cons_zero, List.set_cons_succ, List.getElem_toArray, List.getElem_cons_zero, List.getElem_cons_succ]
      refine mix.D_takeT (i := 7) (v := ?_) rfl (by kernel_rfl) (by kernel_rfl) (fun _ _ _ h => h) (Or.inl ⟨by first | rfl | simp [Region.wanted, yielded], ?_⟩) hS0 ?_
      rotate_left
      · intro w' hSw
        have a0 := (hSw.cell (p := ⟨b1, f1 + j * 8, none⟩) hl1).trans x0
        have a1 := (hSw.cell (p := ⟨b1, f1 + j * 8 + 1, none⟩) hl1).trans x1
        have a2 := (hSw.cell (p := ⟨b1, f1 + j * 8 + 2, none⟩) hl1).trans x2
        have a3 := (hSw.cell (p := ⟨b1, f1 + j * 8 + 3, none⟩) hl1).trans x3
        have a4 := (hSw.cell (p := ⟨b1, f1 + j * 8 + 4, none⟩) hl1).trans x4
        have a5 := (hSw.cell (p := ⟨b1, f1 + j * 8 + 5, none⟩) hl1).trans x5
        have a6 := (hSw.cell (p := ⟨b1, f1 + j * 8 + 6, none⟩) hl1).trans x6
        have a7 := (hSw.cell (p := ⟨b1, f1 + j * 8 + 7, none⟩) hl1).trans x7
        have c0 := (hSw.cell (p := ⟨b2, f2 + j * 8, none⟩) hl2).trans y0
        have c1 := (hSw.cell (p := ⟨b2, f2 + j * 8 + 1, none⟩) hl2).trans y1
        have c2 := (hSw.cell (p := ⟨b2, f2 + j * 8 + 2, none⟩) hl2).trans y2
        have c3 := (hSw.cell (p := ⟨b2, f2 + j * 8 + 3, none⟩) hl2).trans y3
        have c4 := (hSw.cell (p := ⟨b2, f2 + j * 8 + 4, none⟩) hl2).trans y4
        have c5 := (hSw.cell (p := ⟨b2, f2 + j * 8 + 5, none⟩) hl2).trans y5
        have c6 := (hSw.cell (p := ⟨b2, f2 + j * 8 + 6, none⟩) hl2).trans y6
        have c7 := (hSw.cell (p := ⟨b2, f2 + j * 8 + 7, none⟩) hl2).trans y7
        try simp only [List.getElem_toArray, List.getElem_cons_zero, List.getElem_cons_succ]
        go_simp
        exact rfl
      try simp only [Act.put, List.setIfInBounds_toArray, List.set_cons_zero, List.set_cons_succ, List.getElem_toArray, List.getElem_cons_zero, List.getElem_cons_succ]
      refine mix.D_takeT (i := 8) (v := ?_) rfl (by kernel_rfl) (by kernel_rfl) (fun _ _ _ h => h) (Or.inl ⟨by first | rfl | simp [Region.wanted, yielded], ?_⟩) hS0 ?_
      rotate_left
      · intro w' hSw
        have a0 := (hSw.cell (p := ⟨b1, f1 + j * 8, none⟩) hl1).trans x0
        have a1 := (hSw.cell (p := ⟨b1, f1 + j * 8 + 1, none⟩) hl1).trans x1
        have a2 := (hSw.cell (p := ⟨b1, f1 + j * 8 + 2, none⟩) hl1).trans x2
        have a3 := (hSw.cell (p := ⟨b1, f1 + j * 8 + 3, none⟩) hl1).trans x3
        have a4 := (hSw.cell (p := ⟨b1, f1 + j * 8 + 4, none⟩) hl1).trans x4
        have a5 := (hSw.cell (p := ⟨b1, f1 + j * 8 + 5, none⟩) hl1).trans x5
        have a6 := (hSw.cell (p := ⟨b1, f1 + j * 8 + 6, none⟩) hl1).trans x6
        have a7 := (hSw.cell (p := ⟨b1, f1 + j * 8 + 7, none⟩) hl1).trans x7
        have c0 := (hSw.cell (p := ⟨b2, f2 + j * 8, none⟩) hl2).trans y0
        have c1 := (hSw.cell (p := ⟨b2, f2 + j * 8 + 1, none⟩) hl2).trans y1
        have c2 := (hSw.cell (p := ⟨b2, f2 + j * 8 + 2, none⟩) hl2).trans y2
        have c3 := (hSw.cell (p := ⟨b2, f2 + j * 8 + 3, none⟩) hl2).trans y3
        have c4 := (hSw.cell (p := ⟨b2, f2 + j * 8 + 4, none⟩) hl2).trans y4
        have c5 := (hSw.cell (p := ⟨b2, f2 + j * 8 + 5, none⟩) hl2).trans y5
        have c6 := (hSw.cell (p := ⟨b2, f2 + j * 8 + 6, none⟩) hl2).trans y6
        have c7 := (hSw.cell (p := ⟨b2, f2 + j * 8 + 7, none⟩) hl2).trans y7
        try simp only [List.getElem_toArray, List.getElem_cons_zero, List.getElem_cons_succ]
        go_simp
        exact rfl
      try simp only [Act.put, List.setIfInBounds_toArray, List.set_cons_zero, List.set_cons_succ, List.getElem_toArray, List.getElem_cons_zero, List.getElem_cons_succ]
      refine mix.D_takeT (i := 9) (v := ?_) rfl (by kernel_rfl) (by kernel_rfl) (fun _ _ _ h => h) (Or.inl ⟨by first | rfl | simp [Region.wanted, yielded], ?_⟩) hS0 ?_
      rotate_left
      · intro w' hSw
        have a0 := (hSw.cell (p := ⟨b1, f1 + j * 8, none⟩) hl1).trans x0
        have a1 := (hSw.cell (p := ⟨b1, f1 + j * 8 + 1, none⟩) hl1).trans x1
        have a2 := (hSw.cell (p := ⟨b1, f1 + j * 8 + 2, none⟩) hl1).trans x2
        have a3 := (hSw.cell (p := ⟨b1, f1 + j * 8 + 3, none⟩) hl1).trans x3
        have a4 := (hSw.cell (p := ⟨b1, f1 + j * 8 + 4, none⟩) hl1).trans x4
        have a5 := (hSw.cell (p := ⟨b1, f1 + j * 8 + 5, none⟩) hl1).trans x5
        have a6 := (hSw.cell (p := ⟨b1, f1 + j * 8 + 6, none⟩) hl1).trans x6
        have a7 := (hSw.cell (p := ⟨b1, f1 + j * 8 + 7, none⟩) hl1).trans x7
        have c0 := (hSw.cell (p := ⟨b2, f2 + j * 8, none⟩) hl2).trans y0
        have c1 := (hSw.cell (p := ⟨b2, f2 + j * 8 + 1, none⟩) hl2).trans y1
        have c2 := (hSw.cell (p := ⟨b2, f2 + j * 8 + 2, none⟩) hl2).trans y2
        have c3 := (hSw.cell (p := ⟨b2, f2 + j * 8 + 3, none⟩) hl2).trans y3
        have c4 := (hSw.cell (p := ⟨b2, f2 + j * 8 + 4, none⟩) hl2).trans y4
        have c5 := (hSw.cell (p := ⟨b2, f2 + j * 8 + 5, none⟩) hl2).trans y5
        have c6 := (hSw.cell (p := ⟨b2, f2 + j * 8 + 6, none⟩) hl2).trans y6
        have c7 := (hSw.cell (p := ⟨b2, f2 + j * 8 + 7, none⟩) hl2).trans y7
        try simp only [List.getElem_toArray, List.getElem_cons_zero, List.getElem_cons_succ]
        go_simp
        exact rfl
      try simp only [Act.put, List.setIfInBounds_toArray, List.set_cons_zero, List.set_cons_succ, List.getElem_toArray, List.getElem_cons_zero, List.getElem_cons_succ]
      refine mix.D_takeT (i := 10) (v := ?_) rfl (by kernel_rfl) (by kernel_rfl) (fun _ _ _ h => h) (Or.inl ⟨by first | rfl | simp [Region.wanted, yielded], ?_⟩) hS0 ?_
      rotate_left
      · intro w' hSw
        have a0 := (hSw.cell (p := ⟨b1, f1 + j * 8, none⟩) hl1).trans x0
        have a1 := (hSw.cell (p := ⟨b1, f1 + j * 8 + 1, none⟩) hl1).trans x1
        have a2 := (hSw.cell (p := ⟨b1, f1 + j * 8 + 2, none⟩) hl1).trans x2
        have a3 := (hSw.cell (p := ⟨b1, f1 + j * 8 + 3, none⟩) hl1).trans x3
        have a4 := (hSw.cell (p := ⟨b1, f1 + j * 8 + 4, none⟩) hl1).trans x4
        have a5 := (hSw.cell (p := ⟨b1, f1 + j * 8 + 5, none⟩) hl1).trans x5
        have a6 := (hSw.cell (p := ⟨b1, f1 + j * 8 + 6, none⟩) hl1).trans x6
        have a7 := (hSw.cell (p := ⟨b1, f1 + j * 8 + 7, none⟩) hl1).trans x7
        have c0 := (hSw.cell (p := ⟨b2, f2 + j * 8, none⟩) hl2).trans y0
        have c1 := (hSw.cell (p := ⟨b2, f2 + j * 8 + 1, none⟩) hl2).trans y1
        have c2 := (hSw.cell (p := ⟨b2, f2 + j * 8 + 2, none⟩) hl2).trans y2
        have c3 := (hSw.cell (p := ⟨b2, f2 + j * 8 + 3, none⟩) hl2).trans y3
        have c4 := (hSw.cell (p := ⟨b2, f2 + j * 8 + 4, none⟩) hl2).trans y4
        have c5 := (hSw.cell (p := ⟨b2, f2 + j * 8 + 5, none⟩) hl2).trans y5
        have c6 := (hSw.cell (p := ⟨b2, f2 + j * 8 + 6, none⟩) hl2).trans y6
        have c7 := (hSw.cell (p := ⟨b2, f2 + j * 8 + 7, none⟩) hl2).trans y7
        try simp only [List.getElem_toArray, List.getElem_cons_zero, List.getElem_cons_succ]
        go_simp
        exact rfl
      try simp only [Act.put, List.setIfInBounds_toArray, List.set_cons_zero, List.set_cons_succ, List.getElem_toArray, List.getElem_cons_zero, List.getElem_cons_succ]
      refine mix.D_takeT (i := 11) (v := ?_) rfl (by kernel_rfl) (by kernel_rfl) (fun _ _ _ h => h) (Or.inl ⟨by first | rfl | simp [Region.wanted, yielded], ?_⟩) hS0 ?_
      rotate_left
      · intro w' hSw
        have a0 := (hSw.cell (p := ⟨b1, f1 + j * 8, none⟩) hl1).trans x0
        have a1 := (hSw.cell (p := ⟨b1, f1 + j * 8 + 1, none⟩) hl1).trans x1
        have a2 := (hSw.cell (p := ⟨b1, f1 + j * 8 + 2, none⟩) hl1).trans x2
        have a3 := (hSw.cell (p := ⟨b1, f1 + j * 8 + 3, none⟩) hl1).trans x3
        have a4 := (hSw.cell (p := ⟨b1, f1 + j * 8 + 4, none⟩) hl1).trans x4
        have a5 := (hSw.cell (p := ⟨b1, f1 + j * 8 + 5, none⟩) hl1).trans x5
        have a6 := (hSw.cell (p := ⟨b1, f1 + j * 8 + 6, none⟩) hl1).trans x6
        have a7 := (hSw.cell (p := ⟨b1, f1 + j * 8 + 7, none⟩) hl1).trans x7
        have c0 := (hSw.cell (p := ⟨b2, f2 + j * 8, none⟩) hl2).trans y0
        have c1 := (hSw.cell (p := ⟨b2, f2 + j * 8 + 1, none⟩) hl2).trans y1
        have c2 := (hSw.cell (p := ⟨b2, f2 + j * 8 + 2, none⟩) hl2).trans y2
        have c3 := (hSw.cell (p := ⟨b2, f2 + j * 8 + 3, none⟩) hl2).trans y3
        have c4 := (hSw.cell (p := ⟨b2, f2 + j * 8 + 4, none⟩) hl2).trans y4
        have c5 := (hSw.cell (p := ⟨b2, f2 + j * 8 + 5, none⟩) hl2).trans y5
        have c6 := (hSw.cell (p := ⟨b2, f2 + j * 8 + 6, none⟩) hl2).trans y6
        have c7 := (hSw.cell (p := ⟨b2, f2 + j * 8 + 7, none⟩) hl2).trans y7
        try simp only [List.getElem_toArray, List.getElem_cons_zero, List.getElem_cons_succ]
        go_simp
        exact rfl
      try simp only [Act.put, List.setIfInBounds_toArray, List.set_cons_zero, List.set_cons_succ, List.getElem_toArray, List.getElem_cons_zero, List.getElem_cons_succ]
      refine mix.D_takeT (i := 12) (v := ?_) rfl (by kernel_rfl) (by kernel_rfl) (fun _ _ _ h => h) (Or.inl ⟨by first | rfl | simp [Region.wanted, yielded], ?_⟩) hS0 ?_
      rotate_left
      · intro w' hSw
        have a0 := (hSw.cell (p := ⟨b1, f1 + j * 8, none⟩) hl1).trans x0
        have a1 := (hSw.cell (p := ⟨b1, f1 + j * 8 + 1, none⟩) hl1).trans x1
        have a2 := (hSw.cell (p := ⟨b1, f1 + j * 8 + 2, none⟩) hl1).trans x2
        have a3 := (hSw.cell (p := ⟨b1, f1 + j * 8 + 3, none⟩) hl1).trans x3
        have a4 := (hSw.cell (p := ⟨b1, f1 + j * 8 + 4, none⟩) hl1).trans x4
        have a5 := (hSw.cell (p := ⟨b1, f1 + j * 8 + 5, none⟩) hl1).trans x5
        have a6 := (hSw.cell (p := ⟨b1, f1 + j * 8 + 6, none⟩) hl1).trans x6
        have a7 := (hSw.cell (p := ⟨b1, f1 + j * 8 + 7, none⟩) hl1).trans x7
        have c0 := (hSw.cell (p := ⟨b2, f2 + j * 8, none⟩) hl2).trans y0
        have c1 := (hSw.cell (p := ⟨b2, f2 + j * 8 + 1, none⟩) hl2).trans y1
        have c2 := (hSw.cell (p := ⟨b2, f2 + j * 8 + 2, none⟩) hl2).trans y2
        have c3 := (hSw.cell (p := ⟨b2, f2 + j * 8 + 3, none⟩) hl2).trans y3
        have c4 := (hSw.cell (p := ⟨b2, f2 + j * 8 + 4, none⟩) hl2).trans y4
        have c5 := (hSw.cell (p := ⟨b2, f2 + j * 8 + 5, none⟩) hl2).trans y5
        have c6 := (hSw.cell (p := ⟨b2, f2 + j * 8 + 6, none⟩) hl2).trans y6
        have c7 := (hSw.cell (p := ⟨b2, f2 + j * 8 + 7, none⟩) hl2).trans y7
        try simp only [List.getElem_toArray, List.getElem_cons_zero, List.getElem_cons_succ]
        go_simp
        exact rfl
      try simp only [Act.put, List.setIfInBounds_toArray, List.set_cons_zero, List.set_cons_succ, List.getElem_toArray, List.getElem_cons_zero, List.getElem_cons_succ]
      refine mix.D_takeT (i := 13) (v := ?_) rfl (by kernel_rfl) (by kernel_rfl) (fun _ _ _ h => h) (Or.inl ⟨by first | rfl | simp [Region.wanted, yielded], ?_⟩) hS0 ?_
      rotate_left
      · intro w' hSw
        have a0 := (hSw.cell (p := ⟨b1, f1 + j * 8, none⟩) hl1).trans x0
        have a1 := (hSw.cell (p := ⟨b1, f1 + j * 8 + 1, none⟩) hl1).trans x1
        have a2 := (hSw.cell (p := ⟨b1, f1 + j * 8 + 2, none⟩) hl1).trans x2
        have a3 := (hSw.cell (p := ⟨b1, f1 + j * 8 + 3, none⟩) hl1).trans x3
        have a4 := (hSw.cell (p := ⟨b1, f1 + j * 8 + 4, none⟩) hl1).trans x4
        have a5 := (hSw.cell (p := ⟨b1, f1 + j * 8 + 5, none⟩) hl1).trans x5
        have a6 := (hSw.cell (p := ⟨b1, f1 + j * 8 + 6, none⟩) hl1).trans x6
        have a7 := (hSw.cell (p := ⟨b1, f1 + j * 8 + 7, none⟩) hl1).trans x7
        have c0 := (hSw.cell (p := ⟨b2, f2 + j * 8, none⟩) hl2).trans y0
        have c1 := (hSw.cell (p := ⟨b2, f2 + j * 8 + 1, none⟩) hl2).trans y1
        have c2 := (hSw.cell (p := ⟨b2, f2 + j * 8 + 2, none⟩) hl2).trans y2
        have c3 := (hSw.cell (p := ⟨b2, f2 + j * 8 + 3, none⟩) hl2).trans y3
        have c4 := (hSw.cell (p := ⟨b2, f2 + j * 8 + 4, none⟩) hl2).trans y4
        have c5 := (hSw.cell (p := ⟨b2, f2 + j * 8 + 5, none⟩) hl2).trans y5
        have c6 := (hSw.cell (p := ⟨b2, f2 + j * 8 + 6, none⟩) hl2).trans y6
        have c7 := (hSw.cell (p := ⟨b2, f2 + j * 8 + 7, none⟩) hl2).trans y7
        try simp only [List.getElem_toArray, List.getElem_cons_zero, List.getElem_cons_succ]
        go_simp
        exact rfl
      try simp only [Act.put, List.setIfInBounds_toArray, List.set_cons_zero, List.set_cons_succ, List.getElem_toArray, List.getElem_cons_zero, List.getElem_cons_succ]
      refine mix.D_takeT (i := 14) (v := ?_) rfl (by kernel_rfl) (by kernel_rfl) (fun _ _ _ h => h) (Or.inl ⟨by first | rfl | simp [Region.wanted, yielded], ?_⟩) hS0 ?_
      rotate_left
      · intro w' hSw
        have a0 := (hSw.cell (p := ⟨b1, f1 + j * 8, none⟩) hl1).trans x0
        have a1 := (hSw.cell (p := ⟨b1, f1 + j * 8 + 1, none⟩) hl1).trans x1
        have a2 := (hSw.cell (p := ⟨b1, f1 + j * 8 + 2, none⟩) hl1).trans x2
        have a3 := (hSw.cell (p := ⟨b1, f1 + j * 8 + 3, none⟩) hl1).trans x3
        have a4 := (hSw.cell (p := ⟨b1, f1 + j * 8 + 4, none⟩) hl1).trans x4
        have a5 := (hSw.cell (p := ⟨b1, f1 + j * 8 + 5, none⟩) hl1).trans x5
        have a6 := (hSw.cell (p := ⟨b1, f1 + j * 8 + 6, none⟩) hl1).trans x6
        have a7 := (hSw.cell (p := ⟨b1, f1 + j * 8 + 7, none⟩) hl1).trans x7
        have c0 := (hSw.cell (p := ⟨b2, f2 + j * 8, none⟩) hl2).trans y0
        have c1 := (hSw.cell (p := ⟨b2, f2 + j * 8 + 1, none⟩) hl2).trans y1
        have c2 := (hSw.cell (p := ⟨b2, f2 + j * 8 + 2, none⟩) hl2).trans y2
        have c3 := (hSw.cell (p := ⟨b2, f2 + j * 8 + 3, none⟩) hl2).trans y3
        have c4 := (hSw.cell (p := ⟨b2, f2 + j * 8 + 4, none⟩) hl2).trans y4
        have c5 := (hSw.cell (p := ⟨b2, f2 + j * 8 + 5, none⟩) hl2).trans y5
        have c6 := (hSw.cell (p := ⟨b2, f2 + j * 8 + 6, none⟩) hl2).trans y6
        have c7 := (hSw.cell (p := ⟨b2, f2 + j * 8 + 7, none⟩) hl2).trans y7
        try simp only [List.getElem_toArray, List.getElem_cons_zero, List.getElem_cons_succ]
        go_simp
        exact rfl
      try simp only [Act.put, List.setIfInBounds_toArray, List.set_cons_zero, List.set_cons_succ, List.getElem_toArray, List.getElem_cons_zero, List.getElem_cons_succ]
      refine mix.D_takeT (i := 15) (v := ?_) rfl (by kernel_rfl) (by kernel_rfl) (fun _ _ _ h => h) (Or.inl ⟨by first | rfl | simp [Region.wanted, yielded], ?_⟩) hS0 ?_
      rotate_left
      · intro w' hSw
        have a0 := (hSw.cell (p := ⟨b1, f1 + j * 8, none⟩) hl1).trans x0
        have a1 := (hSw.cell (p := ⟨b1, f1 + j * 8 + 1, none⟩) hl1).trans x1
        have a2 := (hSw.cell (p := ⟨b1, f1 + j * 8 + 2, none⟩) hl1).trans x2
        have a3 := (hSw.cell (p := ⟨b1, f1 + j * 8 + 3, none⟩) hl1).trans x3
        have a4 := (hSw.cell (p := ⟨b1, f1 + j * 8 + 4, none⟩) hl1).trans x4
        have a5 := (hSw.cell (p := ⟨b1, f1 + j * 8 + 5, none⟩) hl1).trans x5
        have a6 := (hSw.cell (p := ⟨b1, f1 + j * 8 + 6, none⟩) hl1).trans x6
        have a7 := (hSw.cell (p := ⟨b1, f1 + j * 8 + 7, none⟩) hl1).trans x7
        have c0 := (hSw.cell (p := ⟨b2, f2 + j * 8, none⟩) hl2).trans y0
        have c1 := (hSw.cell (p := ⟨b2, f2 + j * 8 + 1, none⟩) hl2).trans y1
        have c2 := (hSw.cell (p := ⟨b2, f2 + j * 8 + 2, none⟩) hl2).trans y2
        have c3 := (hSw.cell (p := ⟨b2, f2 + j * 8 + 3, none⟩) hl2).trans y3
        have c4 := (hSw.cell (p := ⟨b2, f2 + j * 8 + 4, none⟩) hl2).trans y4
        have c5 := (hSw.cell (p := ⟨b2, f2 + j * 8 + 5, none⟩) hl2).trans y5
        have c6 := (hSw.cell (p := ⟨b2, f2 + j * 8 + 6, none⟩) hl2).trans y6
        have c7 := (hSw.cell (p := ⟨b2, f2 + j * 8 + 7, none⟩) hl2).trans y7
        try simp only [List.getElem_toArray, List.getElem_cons_zero, List.getElem_cons_succ]
        go_simp
        exact rfl
      try simp only [Act.put, List.setIfInBounds_toArray, List.set_cons_zero, List.set_cons_succ, List.getElem_toArray, List.getElem_cons_zero, List.getElem_cons_succ]
      refine mix.D_takeT (i := 16) (v := ?_) rfl (by kernel_rfl) (by kernel_rfl) (fun _ _ _ h => h) (Or.inl ⟨by first | rfl | simp [Region.wanted, yielded], ?_⟩) hS0 ?_
      rotate_left
      · intro w' hSw
        have a0 := (hSw.cell (p := ⟨b1, f1 + j * 8, none⟩) hl1).trans x0
        have a1 := (hSw.cell (p := ⟨b1, f1 + j * 8 + 1, none⟩) hl1).trans x1
        have a2 := (hSw.cell (p := ⟨b1, f1 + j * 8 + 2, none⟩) hl1).trans x2
        have a3 := (hSw.cell (p := ⟨b1, f1 + j * 8 + 3, none⟩) hl1).trans x3
        have a4 := (hSw.cell (p := ⟨b1, f1 + j * 8 + 4, none⟩) hl1).trans x4
        have a5 := (hSw.cell (p := ⟨b1, f1 + j * 8 + 5, none⟩) hl1).trans x5
        have a6 := (hSw.cell (p := ⟨b1, f1 + j * 8 + 6, none⟩) hl1).trans x6
        have a7 := (hSw.cell (p := ⟨b1, f1 + j * 8 + 7, none⟩) hl1).trans x7
        have c0 := (hSw.cell (p := ⟨b2, f2 + j * 8, none⟩) hl2).trans y0
        have c1 := (hSw.cell (p := ⟨b2, f2 + j * 8 + 1, none⟩) hl2).trans y1
        have c2 := (hSw.cell (p := ⟨b2, f2 + j * 8 + 2, none⟩) hl2).trans y2
        have c3 := (hSw.cell (p := ⟨b2, f2 + j * 8 + 3, none⟩) hl2).trans y3
        have c4 := (hSw.cell (p := ⟨b2, f2 + j * 8 + 4, none⟩) hl2).trans y4
        have c5 := (hSw.cell (p := ⟨b2, f2 + j * 8 + 5, none⟩) hl2).trans y5
        have c6 := (hSw.cell (p := ⟨b2, f2 + j * 8 + 6, none⟩) hl2).trans y6
        have c7 := (hSw.cell (p := ⟨b2, f2 + j * 8 + 7, none⟩) hl2).trans y7
        try simp only [List.getElem_toArray, List.getElem_cons_zero, List.getElem_cons_succ]
        go_simp
        exact rfl
      try simp only [Act.put, List.setIfInBounds_toArray, List.set_cons_zero, List.set_cons_succ, List.getElem_toArray, List.getElem_cons_zero, List.getElem_cons_succ]
      refine mix.D_takeT (i := 17) (v := ?_) rfl (by kernel_rfl) (by kernel_rfl) (fun _ _ _ h => h) (Or.inl ⟨by first | rfl | simp [Region.wanted, yielded], ?_⟩) hS0 ?_
      rotate_left
      · intro w' hSw
        have a0 := (hSw.cell (p := ⟨b1, f1 + j * 8, none⟩) hl1).trans x0
        have a1 := (hSw.cell (p := ⟨b1, f1 + j * 8 + 1, none⟩) hl1).trans x1
        have a2 := (hSw.cell (p := ⟨b1, f1 + j * 8 + 2, none⟩) hl1).trans x2
        have a3 := (hSw.cell (p := ⟨b1, f1 + j * 8 + 3, none⟩) hl1).trans x3
        have a4 := (hSw.cell (p := ⟨b1, f1 + j * 8 + 4, none⟩) hl1).trans x4
        have a5 := (hSw.cell (p := ⟨b1, f1 + j * 8 + 5, none⟩) hl1).trans x5
        have a6 := (hSw.cell (p := ⟨b1, f1 + j * 8 + 6, none⟩) hl1).trans x6
        have a7 := (hSw.cell (p := ⟨b1, f1 + j * 8 + 7, none⟩) hl1).trans x7
        have c0 := (hSw.cell (p := ⟨b2, f2 + j * 8, none⟩) hl2).trans y0
        have c1 := (hSw.cell (p := ⟨b2, f2 + j * 8 + 1, none⟩) hl2).trans y1
        have c2 := (hSw.cell (p := ⟨b2, f2 + j * 8 + 2, none⟩) hl2).trans y2
        have c3 := (hSw.cell (p := ⟨b2, f2 + j * 8 + 3, none⟩) hl2).trans y3
        have c4 := (hSw.cell (p := ⟨b2, f2 + j * 8 + 4, none⟩) hl2).trans y4
        have c5 := (hSw.cell (p := ⟨b2, f2 + j * 8 + 5, none⟩) hl2).trans y5
        have c6 := (hSw.cell (p := ⟨b2, f2 + j * 8 + 6, none⟩) hl2).trans y6
        have c7 := (hSw.cell (p := ⟨b2, f2 + j * 8 + 7, none⟩) hl2).trans y7
        try simp only [List.getElem_toArray, List.getElem_cons_zero, List.getElem_cons_succ]
        go_simp
        exact rfl
      try simp only [Act.put, List.setIfInBounds_toArray, List.set_cons_zero, List.set_cons_succ, List.getElem_toArray, List.getElem_cons_zero, List.getElem_cons_succ]
      refine mix.D_takeT (i := 18) (v := ?_) rfl (by kernel_rfl) (by kernel_rfl) (fun _ _ _ h => h) (Or.inl ⟨by first | rfl | simp [Region.wanted, yielded], ?_⟩) hS0 ?_
      rotate_left
      · intro w' hSw
        have a0 := (hSw.cell (p := ⟨b1, f1 + j * 8, none⟩) hl1).trans x0
        have a1 := (hSw.cell (p := ⟨b1, f1 + j * 8 + 1, none⟩) hl1).trans x1
        have a2 := (hSw.cell (p := ⟨b1, f1 + j * 8 + 2, none⟩) hl1).trans x2
        have a3 := (hSw.cell (p := ⟨b1, f1 + j * 8 + 3, none⟩) hl1).trans x3
        have a4 := (hSw.cell (p := ⟨b1, f1 + j * 8 + 4, none⟩) hl1).trans x4
        have a5 := (hSw.cell (p := ⟨b1, f1 + j * 8 + 5, none⟩) hl1).trans x5
        have a6 := (hSw.cell (p := ⟨b1, f1 + j * 8 + 6, none⟩) hl1).trans x6
        have a7 := (hSw.cell (p := ⟨b1, f1 + j * 8 + 7, none⟩) hl1).trans x7
        have c0 := (hSw.cell (p := ⟨b2, f2 + j * 8, none⟩) hl2).trans y0
        have c1 := (hSw.cell (p := ⟨b2, f2 + j * 8 + 1, none⟩) hl2).trans y1
        have c2 := (hSw.cell (p := ⟨b2, f2 + j * 8 + 2, none⟩) hl2).trans y2
        have c3 := (hSw.cell (p := ⟨b2, f2 + j * 8 + 3, none⟩) hl2).trans y3
        have c4 := (hSw.cell (p := ⟨b2, f2 + j * 8 + 4, none⟩) hl2).trans y4
        have c5 := (hSw.cell (p := ⟨b2, f2 + j * 8 + 5, none⟩) hl2).trans y5
        have c6 := (hSw.cell (p := ⟨b2, f2 + j * 8 + 6, none⟩) hl2).trans y6
        have c7 := (hSw.cell (p := ⟨b2, f2 + j * 8 + 7, none⟩) hl2).trans y7
        try simp only [List.getElem_toArray, List.getElem_cons_zero, List.getElem_cons_succ]
        go_simp
        exact rfl
      try simp only [Act.put, List.setIfInBounds_toArray, List.set_cons_zero, List.set_cons_succ, List.getElem_toArray, List.getElem_cons_zero, List.getElem_cons_succ]
      refine mix.D_takeT (i := 19) (v := ?_) rfl (by kernel_rfl) (by kernel_rfl) (fun _ _ _ h => h) (Or.inl ⟨by first | rfl | simp [Region.wanted, yielded], ?_⟩) hS0 ?_
      rotate_left
      · intro w' hSw
        have a0 := (hSw.cell (p := ⟨b1, f1 + j * 8, none⟩) hl1).trans x0
        have a1 := (hSw.cell (p := ⟨b1, f1 + j * 8 + 1, none⟩) hl1).trans x1
        have a2 := (hSw.cell (p := ⟨b1, f1 + j * 8 + 2, none⟩) hl1).trans x2
        have a3 := (hSw.cell (p := ⟨b1, f1 + j * 8 + 3, none⟩) hl1).trans x3
        have a4 := (hSw.cell (p := ⟨b1, f1 + j * 8 + 4, none⟩) hl1).trans x4
        have a5 := (hSw.cell (p := ⟨b1, f1 + j * 8 + 5, none⟩) hl1).trans x5
        have a6 := (hSw.cell (p := ⟨b1, f1 + j * 8 + 6, none⟩) hl1).trans x6
        have a7 := (hSw.cell (p := ⟨b1, f1 + j * 8 + 7, none⟩) hl1).trans x7
        have c0 := (hSw.cell (p := ⟨b2, f2 + j * 8, none⟩) hl2).trans y0
        have c1 := (hSw.cell (p := ⟨b2, f2 + j * 8 + 1, none⟩) hl2).trans y1
        have c2 := (hSw.cell (p := ⟨b2, f2 + j * 8 + 2, none⟩) hl2).trans y2
        have c3 := (hSw.cell (p := ⟨b2, f2 + j * 8 + 3, none⟩) hl2).trans y3
        have c4 := (hSw.cell (p := ⟨b2, f2 + j * 8 + 4, none⟩) hl2).trans y4
        have c5 := (hSw.cell (p := ⟨b2, f2 + j * 8 + 5, none⟩) hl2).trans y5
        have c6 := (hSw.cell (p := ⟨b2, f2 + j * 8 + 6, none⟩) hl2).trans y6
        have c7 := (hSw.cell (p := ⟨b2, f2 + j * 8 + 7, none⟩) hl2).trans y7
        try simp only [List.getElem_toArray, List.getElem_cons_zero, List.getElem_cons_succ]
        go_simp
        exact rfl
      try simp only [Act.put, List.setIfInBounds_toArray, List.set_cons_zero, List.set_cons_succ, List.getElem_toArray, List.getElem_cons_zero, List.getElem_cons_succ]
      refine mix.D_takeT (i := 20) (v := ?_) rfl (by kernel_rfl) (by kernel_rfl) (fun _ _ _ h => h) (Or.inl ⟨by first | rfl | simp [Region.wanted, yielded], ?_⟩) hS0 ?_
      rotate_left
      · intro w' hSw
        have a0 := (hSw.cell (p := ⟨b1, f1 + j * 8, none⟩) hl1).trans x0
        have a1 := (hSw.cell (p := ⟨b1, f1 + j * 8 + 1, none⟩) hl1).trans x1
        have a2 := (hSw.cell (p := ⟨b1, f1 + j * 8 + 2, none⟩) hl1).trans x2
        have a3 := (hSw.cell (p := ⟨b1, f1 + j * 8 + 3, none⟩) hl1).trans x3
        have a4 := (hSw.cell (p := ⟨b1, f1 + j * 8 + 4, none⟩) hl1).trans x4
        have a5 := (hSw.cell (p := ⟨b1, f1 + j * 8 + 5, none⟩) hl1).trans x5
        have a6 := (hSw.cell (p := ⟨b1, f1 + j * 8 + 6, none⟩) hl1).trans x6
        have a7 := (hSw.cell (p := ⟨b1, f1 + j * 8 + 7, none⟩) hl1).trans x7
        have c0 := (hSw.cell (p := ⟨b2, f2 + j * 8, none⟩) hl2).trans y0
        have c1 := (hSw.cell (p := ⟨b2, f2 + j * 8 + 1, none⟩) hl2).trans y1
        have c2 := (hSw.cell (p := ⟨b2, f2 + j * 8 + 2, none⟩) hl2).trans y2
        have c3 := (hSw.cell (p := ⟨b2, f2 + j * 8 + 3, none⟩) hl2).trans y3
        have c4 := (hSw.cell (p := ⟨b2, f2 + j * 8 + 4, none⟩) hl2).trans y4
        have c5 := (hSw.cell (p := ⟨b2, f2 + j * 8 + 5, none⟩) hl2).trans y5
        have c6 := (hSw.cell (p := ⟨b2, f2 + j * 8 + 6, none⟩) hl2).trans y6
        have c7 := (hSw.cell (p := ⟨b2, f2 + j * 8 + 7, none⟩) hl2).trans y7
        try simp only [List.getElem_toArray, List.getElem_cons_zero, List.getElem_cons_succ]
        go_simp
        exact rfl
      try simp only [Act.put, List.setIfInBounds_toArray, List.set_cons_zero, List.set_cons_succ, List.getElem_toArray, List.getElem_cons_zero, List.getElem_cons_succ]
      refine mix.D_takeT (i := 21) (v := ?_) rfl (by kernel_rfl) (by kernel_rfl) (fun _ _ _ h => h) (Or.inl ⟨by first | rfl | simp [Region.wanted, yielded], ?_⟩) hS0 ?_
      rotate_left
      · intro w' hSw
        have a0 := (hSw.cell (p := ⟨b1, f1 + j * 8, none⟩) hl1).trans x0
        have a1 := (hSw.cell (p := ⟨b1, f1 + j * 8 + 1, none⟩) hl1).trans x1
        have a2 := (hSw.cell (p := ⟨b1, f1 + j * 8 + 2, none⟩) hl1).trans x2
        have a3 := (hSw.cell (p := ⟨b1, f1 + j * 8 + 3, none⟩) hl1).trans x3
        have a4 := (hSw.cell (p := ⟨b1, f1 + j * 8 + 4, none⟩) hl1).trans x4
        have a5 := (hSw.cell (p := ⟨b1, f1 + j * 8 + 5, none⟩) hl1).trans x5
        have a6 := (hSw.cell (p := ⟨b1, f1 + j * 8 + 6, none⟩) hl1).trans x6
        have a7 := (hSw.cell (p := ⟨b1, f1 + j * 8 + 7, none⟩) hl1).trans x7
        have c0 := (hSw.cell (p := ⟨b2, f2 + j * 8, none⟩) hl2).trans y0
        have c1 := (hSw.cell (p := ⟨b2, f2 + j * 8 + 1, none⟩) hl2).trans y1
        have c2 := (hSw.cell (p := ⟨b2, f2 + j * 8 + 2, none⟩) hl2).trans y2
        have c3 := (hSw.cell (p := ⟨b2, f2 + j * 8 + 3, none⟩) hl2).trans y3
        have c4 := (hSw.cell (p := ⟨b2, f2 + j * 8 + 4, none⟩) hl2).trans y4
        have c5 := (hSw.cell (p := ⟨b2, f2 + j * 8 + 5, none⟩) hl2).trans y5
        have c6 := (hSw.cell (p := ⟨b2, f2 + j * 8 + 6, none⟩) hl2).trans y6
        have c7 := (hSw.cell (p := ⟨b2, f2 + j * 8 + 7, none⟩) hl2).trans y7
        try simp only [List.getElem_toArray, List.getElem_cons_zero, List.getElem_cons_succ]
        go_simp
        exact rfl
      try simp only [Act.put, List.setIfInBounds_toArray, List.set_cons_zero, List.set_cons_succ, List.getElem_toArray, List.getElem_cons_zero, List.getElem_cons_succ]
      refine mix.D_takeT (i := 22) (v := ?_) rfl (by kernel_rfl) (by kernel_rfl) (fun _ _ _ h => h) (Or.inl ⟨by first | rfl | simp [Region.wanted, yielded], ?_⟩) hS0 ?_
      rotate_left
      · intro w' hSw
        have a0 := (hSw.cell (p := ⟨b1, f1 + j * 8, none⟩) hl1).trans x0
        have a1 := (hSw.cell (p := ⟨b1, f1 + j * 8 + 1, none⟩) hl1).trans x1
        have a2 := (hSw.cell (p := ⟨b1, f1 + j * 8 + 2, none⟩) hl1).trans x2
        have a3 := (hSw.cell (p := ⟨b1, f1 + j * 8 + 3, none⟩) hl1).trans x3
        have a4 := (hSw.cell (p := ⟨b1, f1 + j * 8 + 4, none⟩) hl1).trans x4
        have a5 := (hSw.cell (p := ⟨b1, f1 + j * 8 + 5, none⟩) hl1).trans x5
        have a6 := (hSw.cell (p := ⟨b1, f1 + j * 8 + 6, none⟩) hl1).trans x6
        have a7 := (hSw.cell (p := ⟨b1, f1 + j * 8 + 7, none⟩) hl1).trans x7
        have c0 := (hSw.cell (p := ⟨b2, f2 + j * 8, none⟩) hl2).trans y0
        have c1 := (hSw.cell (p := ⟨b2, f2 + j * 8 + 1, none⟩) hl2).trans y1
        have c2 := (hSw.cell (p := ⟨b2, f2 + j * 8 + 2, none⟩) hl2).trans y2
        have c3 := (hSw.cell (p := ⟨b2, f2 + j * 8 + 3, none⟩) hl2).trans y3
        have c4 := (hSw.cell (p := ⟨b2, f2 + j * 8 + 4, none⟩) hl2).trans y4
        have c5 := (hSw.cell (p := ⟨b2, f2 + j * 8 + 5, none⟩) hl2).trans y5
        have c6 := (hSw.cell (p := ⟨b2, f2 + j * 8 + 6, none⟩) hl2).trans y6
        have c7 := (hSw.cell (p := ⟨b2, f2 + j * 8 + 7, none⟩) hl2).trans y7
        try simp only [List.getElem_toArray, List.getElem_cons_zero, List.getElem_cons_succ]
        go_simp
        exact rfl
      try simp only [Act.put, List.setIfInBounds_toArray, List.set_cons_zero, List.set_cons_succ, List.getElem_toArray, List.getElem_cons_zero, List.getElem_cons_succ]
      refine mix.D_takeT (i := 23) (v := ?_) rfl (by kernel_rfl) (by kernel_rfl) (fun _ _ _ h => h) (Or.inl ⟨by first | rfl | simp [Region.wanted, yielded], ?_⟩) hS0 ?_
      rotate_left
      · intro w' hSw
        have a0 := (hSw.cell (p := ⟨b1, f1 + j * 8, none⟩) hl1).trans x0
        have a1 := (hSw.cell (p := ⟨b1, f1 + j * 8 + 1, none⟩) hl1).trans x1
        have a2 := (hSw.cell (p := ⟨b1, f1 + j * 8 + 2, none⟩) hl1).trans x2
        have a3 := (hSw.cell (p := ⟨b1, f1 + j * 8 + 3, none⟩) hl1).trans x3
        have a4 := (hSw.cell (p := ⟨b1, f1 + j * 8 + 4, none⟩) hl1).trans x4
        have a5 := (hSw.cell (p := ⟨b1, f1 + j * 8 + 5, none⟩) hl1).trans x5
        have a6 := (hSw.cell (p := ⟨b1, f1 + j * 8 + 6, none⟩) hl1).trans x6
        have a7 := (hSw.cell (p := ⟨b1, f1 + j * 8 + 7, none⟩) hl1).trans x7
        have c0 := (hSw.cell (p := ⟨b2, f2 + j * 8, none⟩) hl2).trans y0
        have c1 := (hSw.cell (p := ⟨b2, f2 + j * 8 + 1, none⟩) hl2).trans y1
        have c2 := (hSw.cell (p := ⟨b2, f2 + j * 8 + 2, none⟩) hl2).trans y2
        have c3 := (hSw.cell (p := ⟨b2, f2 + j * 8 + 3, none⟩) hl2).trans y3
        have c4 := (hSw.cell (p := ⟨b2, f2 + j * 8 + 4, none⟩) hl2).trans y4
        have c5 := (hSw.cell (p := ⟨b2, f2 + j * 8 + 5, none⟩) hl2).trans y5
        have c6 := (hSw.cell (p := ⟨b2, f2 + j * 8 + 6, none⟩) hl2).trans y6
        have c7 := (hSw.cell (p := ⟨b2, f2 + j * 8 + 7, none⟩) hl2).trans y7
        try simp only [List.getElem_toArray, List.getElem_cons_zero, List.getElem_cons_succ]
        go_simp
        exact rfl
      try simp only [Act.put, List.setIfInBounds_toArray, List.set_cons_zero, List.set_cons_succ, List.getElem_toArray, List.getElem_cons_zero, List.getElem_cons_succ]
      refine mix.D_takeT (i := 24) (v := ?_) rfl (by kernel_rfl) (by kernel_rfl) (fun _ _ _ h => h) (Or.inl ⟨by first | rfl | simp [Region.wanted, yielded], ?_⟩) hS0 ?_
      rotate_left
      · intro w' hSw
        have a0 := (hSw.cell (p := ⟨b1, f1 + j * 8, none⟩) hl1).trans x0
        have a1 := (hSw.cell (p := ⟨b1, f1 + j * 8 + 1, none⟩) hl1).trans x1
        have a2 := (hSw.cell (p := ⟨b1, f1 + j * 8 + 2, none⟩) hl1).trans x2
        have a3 := (hSw.cell (p := ⟨b1, f1 + j * 8 + 3, none⟩) hl1).trans x3
        have a4 := (hSw.cell (p := ⟨b1, f1 + j * 8 + 4, none⟩) hl1).trans x4
        have a5 := (hSw.cell (p := ⟨b1, f1 + j * 8 + 5, none⟩) hl1).trans x5
        have a6 := (hSw.cell (p := ⟨b1, f1 + j * 8 + 6, none⟩) hl1).trans x6
        have a7 := (hSw.cell (p := ⟨b1, f1 + j * 8 + 7, none⟩) hl1).trans x7
        have c0 := (hSw.cell (p := ⟨b2, f2 + j * 8, none⟩) hl2).trans y0
        have c1 := (hSw.cell (p := ⟨b2, f2 + j * 8 + 1, none⟩) hl2).trans y1
        have c2 := (hSw.cell (p := ⟨b2, f2 + j * 8 + 2, none⟩) hl2).trans y2
        have c3 := (hSw.cell (p := ⟨b2, f2 + j * 8 + 3, none⟩) hl2).trans y3
        have c4 := (hSw.cell (p := ⟨b2, f2 + j * 8 + 4, none⟩) hl2).trans y4
        have c5 := (hSw.cell (p := ⟨b2, f2 + j * 8 + 5, none⟩) hl2).trans y5
        have c6 := (hSw.cell (p := ⟨b2, f2 + j * 8 + 6, none⟩) hl2).trans y6
        have c7 := (hSw.cell (p := ⟨b2, f2 + j * 8 + 7, none⟩) hl2).trans y7
        try simp only [List.getElem_toArray, List.getElem_cons_zero, List.getElem_cons_succ]
        go_simp
        exact rfl
      try simp only [Act.put, List.setIfInBounds_toArray, List.set_cons_zero, List.set_cons_succ, List.getElem_toArray, List.getElem_cons_zero, List.getElem_cons_succ]
      refine mix.D_takeT (i := 25) (v := ?_) rfl (by kernel_rfl) (by kernel_rfl) (fun _ _ _ h => h) (Or.inl ⟨by first | rfl | simp [Region.wanted, yielded], ?_⟩) hS0 ?_
      rotate_left
      · intro w' hSw
        have a0 := (hSw.cell (p := ⟨b1, f1 + j * 8, none⟩) hl1).trans x0
        have a1 := (hSw.cell (p := ⟨b1, f1 + j * 8 + 1, none⟩) hl1).trans x1
        have a2 := (hSw.cell (p := ⟨b1, f1 + j * 8 + 2, none⟩) hl1).trans x2
        have a3 := (hSw.cell (p := ⟨b1, f1 + j * 8 + 3, none⟩) hl1).trans x3
        have a4 := (hSw.cell (p := ⟨b1, f1 + j * 8 + 4, none⟩) hl1).trans x4
        have a5 := (hSw.cell (p := ⟨b1, f1 + j * 8 + 5, none⟩) hl1).trans x5
        have a6 := (hSw.cell (p := ⟨b1, f1 + j * 8 + 6, none⟩) hl1).trans x6
        have a7 := (hSw.cell (p := ⟨b1, f1 + j * 8 + 7, none⟩) hl1).trans x7
        have c0 := (hSw.cell (p := ⟨b2, f2 + j * 8, none⟩) hl2).trans y0
        have c1 := (hSw.cell (p := ⟨b2, f2 + j * 8 + 1, none⟩) hl2).trans y1
        have c2 := (hSw.cell (p := ⟨b2, f2 + j * 8 + 2, none⟩) hl2).trans y2
        have c3 := (hSw.cell (p := ⟨b2, f2 + j * 8 + 3, none⟩) hl2).trans y3
        have c4 := (hSw.cell (p := ⟨b2, f2 + j * 8 + 4, none⟩) hl2).trans y4
        have c5 := (hSw.cell (p := ⟨b2, f2 + j * 8 + 5, none⟩) hl2).trans y5
        have c6 := (hSw.cell (p := ⟨b2, f2 + j * 8 + 6, none⟩) hl2).trans y6
        have c7 := (hSw.cell (p := ⟨b2, f2 + j * 8 + 7, none⟩) hl2).trans y7
        try simp only [List.getElem_toArray, List.getElem_cons_zero, List.getElem_cons_succ]
        go_simp
        exact rfl
      try simp only [Act.put, List.setIfInBounds_toArray, List.set_cons_zero, List.set_cons_succ, List.getElem_toArray, List.getElem_cons_zero, List.getElem_cons_succ]
      refine mix.D_takeT (i := 26) (v := ?_) rfl (by kernel_rfl) (by kernel_rfl) (fun _ _ _ h => h) (Or.inl ⟨by first | rfl | simp [Region.wanted, yielded], ?_⟩) hS0 ?_
      rotate_left
      · intro w' hSw
        have a0 := (hSw.cell (p := ⟨b1, f1 + j * 8, none⟩) hl1).trans x0
        have a1 := (hSw.cell (p := ⟨b1, f1 + j * 8 + 1, none⟩) hl1).trans x1
        have a2 := (hSw.cell (p := ⟨b1, f1 + j * 8 + 2, none⟩) hl1).trans x2
        have a3 := (hSw.cell (p := ⟨b1, f1 + j * 8 + 3, none⟩) hl1).trans x3
        have a4 := (hSw.cell (p := ⟨b1, f1 + j * 8 + 4, none⟩) hl1).trans x4
        have a5 := (hSw.cell (p := ⟨b1, f1 + j * 8 + 5, none⟩) hl1).trans x5
        have a6 := (hSw.cell (p := ⟨b1, f1 + j * 8 + 6, none⟩) hl1).trans x6
        have a7 := (hSw.cell (p := ⟨b1, f1 + j * 8 + 7, none⟩) hl1).trans x7
        have c0 := (hSw.cell (p := ⟨b2, f2 + j * 8, none⟩) hl2).trans y0
        have c1 := (hSw.cell (p := ⟨b2, f2 + j * 8 + 1, none⟩) hl2).trans y1
        have c2 := (hSw.cell (p := ⟨b2, f2 + j * 8 + 2, none⟩) hl2).trans y2
        have c3 := (hSw.cell (p := ⟨b2, f2 + j * 8 + 3, none⟩) hl2).trans y3
        have c4 := (hSw.cell (p := ⟨b2, f2 + j * 8 + 4, none⟩) hl2).trans y4
        have c5 := (hSw.cell (p := ⟨b2, f2 + j * 8 + 5, none⟩) hl2).trans y5
        have c6 := (hSw.cell (p := ⟨b2, f2 + j * 8 + 6, none⟩) hl2).trans y6
        have c7 := (hSw.cell (p := ⟨b2, f2 + j * 8 + 7, none⟩) hl2).trans y7
        try simp only [List.getElem_toArray, List.getElem_cons_zero, List.getElem_cons_succ]
        go_simp
        exact rfl
      try simp only [Act.put, List.setIfInBounds_toArray, List.set_cons_zero, List.set_cons_succ, List.getElem_toArray, List.getElem_cons_zero, List.getElem_cons_succ]
      refine mix.D_takeT (i := 27) (v := ?_) rfl (by kernel_rfl) (by kernel_rfl) (fun _ _ _ h => h) (Or.inl ⟨by first | rfl | simp [Region.wanted, yielded], ?_⟩) hS0 ?_
      rotate_left
      · intro w' hSw
        have a0 := (hSw.cell (p := ⟨b1, f1 + j * 8, none⟩) hl1).trans x0
        have a1 := (hSw.cell (p := ⟨b1, f1 + j * 8 + 1, none⟩) hl1).trans x1
        have a2 := (hSw.cell (p := ⟨b1, f1 + j * 8 + 2, none⟩) hl1).trans x2
        have a3 := (hSw.cell (p := ⟨b1, f1 + j * 8 + 3, none⟩) hl1).trans x3
        have a4 := (hSw.cell (p := ⟨b1, f1 + j * 8 + 4, none⟩) hl1).trans x4
        have a5 := (hSw.cell (p := ⟨b1, f1 + j * 8 + 5, none⟩) hl1).trans x5
        have a6 := (hSw.cell (p := ⟨b1, f1 + j * 8 + 6, none⟩) hl1).trans x6
        have a7 := (hSw.cell (p := ⟨b1, f1 + j * 8 + 7, none⟩) hl1).trans x7
        have c0 := (hSw.cell (p := ⟨b2, f2 + j * 8, none⟩) hl2).trans y0
        have c1 := (hSw.cell (p := ⟨b2, f2 + j * 8 + 1, none⟩) hl2).trans y1
        have c2 := (hSw.cell (p := ⟨b2, f2 + j * 8 + 2, none⟩) hl2).trans y2
        have c3 := (hSw.cell (p := ⟨b2, f2 + j * 8 + 3, none⟩) hl2).trans y3
        have c4 := (hSw.cell (p := ⟨b2, f2 + j * 8 + 4, none⟩) hl2).trans y4
        have c5 := (hSw.cell (p := ⟨b2, f2 + j * 8 + 5, none⟩) hl2).trans y5
        have c6 := (hSw.cell (p := ⟨b2, f2 + j * 8 + 6, none⟩) hl2).trans y6
        have c7 := (hSw.cell (p := ⟨b2, f2 + j * 8 + 7, none⟩) hl2).trans y7
        try simp only [List.getElem_toArray, List.getElem_cons_zero, List.getElem_cons_succ]
        go_simp
        exact rfl
      try simp only [Act.put, List.setIfInBounds_toArray, List.set_cons_zero, List.set_cons_succ, List.getElem_toArray, List.getElem_cons_zero, List.getElem_cons_succ]
      refine mix.D_takeT (i := 28) (v := ?_) rfl (by kernel_rfl) (by kernel_rfl) (fun _ _ _ h => h) (Or.inl ⟨by first | rfl | simp [Region.wanted, yielded], ?_⟩) hS0 ?_
      rotate_left
      · intro w' hSw
        have a0 := (hSw.cell (p := ⟨b1, f1 + j * 8, none⟩) hl1).trans x0
        have a1 := (hSw.cell (p := ⟨b1, f1 + j * 8 + 1, none⟩) hl1).trans x1
        have a2 := (hSw.cell (p := ⟨b1, f1 + j * 8 + 2, none⟩) hl1).trans x2
        have a3 := (hSw.cell (p := ⟨b1, f1 + j * 8 + 3, none⟩) hl1).trans x3
        have a4 := (hSw.cell (p := ⟨b1, f1 + j * 8 + 4, none⟩) hl1).trans x4
        have a5 := (hSw.cell (p := ⟨b1, f1 + j * 8 + 5, none⟩) hl1).trans x5
        have a6 := (hSw.cell (p := ⟨b1, f1 + j * 8 + 6, none⟩) hl1).trans x6
        have a7 := (hSw.cell (p := ⟨b1, f1 + j * 8 + 7, none⟩) hl1).trans x7
        have c0 := (hSw.cell (p := ⟨b2, f2 + j * 8, none⟩) hl2).trans y0
        have c1 := (hSw.cell (p := ⟨b2, f2 + j * 8 + 1, none⟩) hl2).trans y1
        have c2 := (hSw.cell (p := ⟨b2, f2 + j * 8 + 2, none⟩) hl2).trans y2
        have c3 := (hSw.cell (p := ⟨b2, f2 + j * 8 + 3, none⟩) hl2).trans y3
        have c4 := (hSw.cell (p := ⟨b2, f2 + j * 8 + 4, none⟩) hl2).trans y4
        have c5 := (hSw.cell (p := ⟨b2, f2 + j * 8 + 5, none⟩) hl2).trans y5
        have c6 := (hSw.cell (p := ⟨b2, f2 + j * 8 + 6, none⟩) hl2).trans y6
        have c7 := (hSw.cell (p := ⟨b2, f2 + j * 8 + 7, none⟩) hl2).trans y7
        try simp only [List.getElem_toArray, List.getElem_cons_zero, List.getElem_cons_succ]
        go_simp
        exact rfl
      try simp only [Act.put, List.setIfInBounds_toArray, List.set_cons_zero, List.set_cons_succ, List.getElem_toArray, List.getElem_cons_zero, List.getElem_cons_succ]
      refine mix.D_takeT (i := 29) (v := ?_) rfl (by kernel_rfl) (by kernel_rfl) (fun _ _ _ h => h) (Or.inl ⟨by first | rfl | simp [Region.wanted, yielded], ?_⟩) hS0 ?_
      rotate_left
      · intro w' hSw
        have a0 := (hSw.cell (p := ⟨b1, f1 + j * 8, none⟩) hl1).trans x0
        have a1 := (hSw.cell (p := ⟨b1, f1 + j * 8 + 1, none⟩) hl1).trans x1
        have a2 := (hSw.cell (p := ⟨b1, f1 + j * 8 + 2, none⟩) hl1).trans x2
        have a3 := (hSw.cell (p := ⟨b1, f1 + j * 8 + 3, none⟩) hl1).trans x3
        have a4 := (hSw.cell (p := ⟨b1, f1 + j * 8 + 4, none⟩) hl1).trans x4
        have a5 := (hSw.cell (p := ⟨b1, f1 + j * 8 + 5, none⟩) hl1).trans x5
        have a6 := (hSw.cell (p := ⟨b1, f1 + j * 8 + 6, none⟩) hl1).trans x6
        have a7 := (hSw.cell (p := ⟨b1, f1 + j * 8 + 7, none⟩) hl1).trans x7
        have c0 := (hSw.cell (p := ⟨b2, f2 + j * 8, none⟩) hl2).trans y0
        have c1 := (hSw.cell (p := ⟨b2, f2 + j * 8 + 1, none⟩) hl2).trans y1
        have c2 := (hSw.cell (p := ⟨b2, f2 + j * 8 + 2, none⟩) hl2).trans y2
        have c3 := (hSw.cell (p := ⟨b2, f2 + j * 8 + 3, none⟩) hl2).trans y3
        have c4 := (hSw.cell (p := ⟨b2, f2 + j * 8 + 4, none⟩) hl2).trans y4
        have c5 := (hSw.cell (p := ⟨b2, f2 + j * 8 + 5, none⟩) hl2).trans y5
        have c6 := (hSw.cell (p := ⟨b2, f2 + j * 8 + 6, none⟩) hl2).trans y6
        have c7 := (hSw.cell (p := ⟨b2, f2 + j * 8 + 7, none⟩) hl2).trans y7
        try simp only [List.getElem_toArray, List.getElem_cons_zero, List.getElem_cons_succ]
        go_simp
        exact rfl
      try simp only [Act.put, List.setIfInBounds_toArray, List.set_cons_zero, List.set_cons_succ, List.getElem_toArray, List.getElem_cons_zero, List.getElem_cons_succ]
      refine mix.D_takeT (i := 30) (v := ?_) rfl (by kernel_rfl) (by kernel_rfl) (fun _ _ _ h => h) (Or.inl ⟨by first | rfl | simp [Region.wanted, yielded], ?_⟩) hS0 ?_
      rotate_left
      · intro w' hSw
        have a0 := (hSw.cell (p := ⟨b1, f1 + j * 8, none⟩) hl1).trans x0
        have a1 := (hSw.cell (p := ⟨b1, f1 + j * 8 + 1, none⟩) hl1).trans x1
        have a2 := (hSw.cell (p := ⟨b1, f1 + j * 8 + 2, none⟩) hl1).trans x2
        have a3 := (hSw.cell (p := ⟨b1, f1 + j * 8 + 3, none⟩) hl1).trans x3
        have a4 := (hSw.cell (p := ⟨b1, f1 + j * 8 + 4, none⟩) hl1).trans x4
        have a5 := (hSw.cell (p := ⟨b1, f1 + j * 8 + 5, none⟩) hl1).trans x5
        have a6 := (hSw.cell (p := ⟨b1, f1 + j * 8 + 6, none⟩) hl1).trans x6
        have a7 := (hSw.cell (p := ⟨b1, f1 + j * 8 + 7, none⟩) hl1).trans x7
        have c0 := (hSw.cell (p := ⟨b2, f2 + j * 8, none⟩) hl2).trans y0
        have c1 := (hSw.cell (p := ⟨b2, f2 + j * 8 + 1, none⟩) hl2).trans y1
        have c2 := (hSw.cell (p := ⟨b2, f2 + j * 8 + 2, none⟩) hl2).trans y2
        have c3 := (hSw.cell (p := ⟨b2, f2 + j * 8 + 3, none⟩) hl2).trans y3
        have c4 := (hSw.cell (p := ⟨b2, f2 + j * 8 + 4, none⟩) hl2).trans y4
        have c5 := (hSw.cell (p := ⟨b2, f2 + j * 8 + 5, none⟩) hl2).trans y5
        have c6 := (hSw.cell (p := ⟨b2, f2 + j * 8 + 6, none⟩) hl2).trans y6
        have c7 := (hSw.cell (p := ⟨b2, f2 + j * 8 + 7, none⟩) hl2).trans y7
        try simp only [List.getElem_toArray, List.getElem_cons_zero, List.getElem_cons_succ]
        go_simp
        exact rfl
      try simp only [Act.put, List.setIfInBounds_toArray, List.set_cons_zero, List.set_cons_succ, List.getElem_toArray, List.getElem_cons_zero, List.getElem_cons_succ]
      refine mix.D_takeT (i := 31) (v := ?_) rfl (by kernel_rfl) (by kernel_rfl) (fun _ _ _ h => h) (Or.inl ⟨by first | rfl | simp [Region.wanted, yielded], ?_⟩) hS0 ?_
      rotate_left
      · intro w' hSw
        have a0 := (hSw.cell (p := ⟨b1, f1 + j * 8, none⟩) hl1).trans x0
        have a1 := (hSw.cell (p := ⟨b1, f1 + j * 8 + 1, none⟩) hl1).trans x1
        have a2 := (hSw.cell (p := ⟨b1, f1 + j * 8 + 2, none⟩) hl1).trans x2
        have a3 := (hSw.cell (p := ⟨b1, f1 + j * 8 + 3, none⟩) hl1).trans x3
        have a4 := (hSw.cell (p := ⟨b1, f1 + j * 8 + 4, none⟩) hl1).trans x4
        have a5 := (hSw.cell (p := ⟨b1, f1 + j * 8 + 5, none⟩) hl1).trans x5
        have a6 := (hSw.cell (p := ⟨b1, f1 + j * 8 + 6, none⟩) hl1).trans x6
        have a7 := (hSw.cell (p := ⟨b1, f1 + j * 8 + 7, none⟩) hl1).trans x7
        have c0 := (hSw.cell (p := ⟨b2, f2 + j * 8, none⟩) hl2).trans y0
        have c1 := (hSw.cell (p := ⟨b2, f2 + j * 8 + 1, none⟩) hl2).trans y1
        have c2 := (hSw.cell (p := ⟨b2, f2 + j * 8 + 2, none⟩) hl2).trans y2
        have c3 := (hSw.cell (p := ⟨b2, f2 + j * 8 + 3, none⟩) hl2).trans y3
        have c4 := (hSw.cell (p := ⟨b2, f2 + j * 8 + 4, none⟩) hl2).trans y4
        have c5 := (hSw.cell (p := ⟨b2, f2 + j * 8 + 5, none⟩) hl2).trans y5
        have c6 := (hSw.cell (p := ⟨b2, f2 + j * 8 + 6, none⟩) hl2).trans y6
        have c7 := (hSw.cell (p := ⟨b2, f2 + j * 8 + 7, none⟩) hl2).trans y7
        try simp only [List.getElem_toArray, List.getElem_cons_zero, List.getElem_cons_succ]
        go_simp
        exact rfl
      try simp only [Act.put, List.setIfInBounds_toArray, List.set_cons_zero, List.set_cons_succ, List.getElem_toArray, List.getElem_cons_zero, List.getElem_cons_succ]
      refine mix.D_takeT (i := 32) (v := ?_) rfl (by kernel_rfl) (by kernel_rfl) (fun _ _ _ h => h) (Or.inl ⟨by first | rfl | simp [Region.wanted, yielded], ?_⟩) hS0 ?_
      rotate_left
      · intro w' hSw
        have a0 := (hSw.cell (p := ⟨b1, f1 + j * 8, none⟩) hl1).trans x0
        have a1 := (hSw.cell (p := ⟨b1, f1 + j * 8 + 1, none⟩) hl1).trans x1
        have a2 := (hSw.cell (p := ⟨b1, f1 + j * 8 + 2, none⟩) hl1).trans x2
        have a3 := (hSw.cell (p := ⟨b1, f1 + j * 8 + 3, none⟩) hl1).trans x3
        have a4 := (hSw.cell (p := ⟨b1, f1 + j * 8 + 4, none⟩) hl1).trans x4
        have a5 := (hSw.cell (p := ⟨b1, f1 + j * 8 + 5, none⟩) hl1).trans x5
        have a6 := (hSw.cell (p := ⟨b1, f1 + j * 8 + 6, none⟩) hl1).trans x6
        have a7 := (hSw.cell (p := ⟨b1, f1 + j * 8 + 7, none⟩) hl1).trans x7
        have c0 := (hSw.cell (p := ⟨b2, f2 + j * 8, none⟩) hl2).trans y0
        have c1 := (hSw.cell (p := ⟨b2, f2 + j * 8 + 1, none⟩) hl2).trans y1
        have c2 := (hSw.cell (p := ⟨b2, f2 + j * 8 + 2, none⟩) hl2).trans y2
        have c3 := (hSw.cell (p := ⟨b2, f2 + j * 8 + 3, none⟩) hl2).trans y3
        have c4 := (hSw.cell (p := ⟨b2, f2 + j * 8 + 4, none⟩) hl2).trans y4
        have c5 := (hSw.cell (p := ⟨b2, f2 + j * 8 + 5, none⟩) hl2).trans y5
        have c6 := (hSw.cell (p := ⟨b2, f2 + j * 8 + 6, none⟩) hl2).trans y6
        have c7 := (hSw.cell (p := ⟨b2, f2 + j * 8 + 7, none⟩) hl2).trans y7
        try simp only [List.getElem_toArray, List.getElem_cons_zero, List.getElem_cons_succ]
        go_simp
        exact rfl
      try simp only [Act.put, List.setIfInBounds_toArray, List.set_cons_zero, List.set_cons_succ, List.getElem_toArray, List.getElem_cons_zero, List.getElem_cons_succ]
      refine mix.D_takeT (i := 33) (v := ?_) rfl (by kernel_rfl) (by kernel_rfl) (fun _ _ _ h => h) (Or.inl ⟨by first | rfl | simp [Region.wanted, yielded], ?_⟩) hS0 ?_
      rotate_left
      · intro w' hSw
        have a0 := (hSw.cell (p := ⟨b1, f1 + j * 8, none⟩) hl1).trans x0
        have a1 := (hSw.cell (p := ⟨b1, f1 + j * 8 + 1, none⟩) hl1).trans x1
        have a2 := (hSw.cell (p := ⟨b1, f1 + j * 8 + 2, none⟩) hl1).trans x2
        have a3 := (hSw.cell (p := ⟨b1, f1 + j * 8 + 3, none⟩) hl1).trans x3
        have a4 := (hSw.cell (p := ⟨b1, f1 + j * 8 + 4, none⟩) hl1).trans x4
        have a5 := (hSw.cell (p := ⟨b1, f1 + j * 8 + 5, none⟩) hl1).trans x5
        have a6 := (hSw.cell (p := ⟨b1, f1 + j * 8 + 6, none⟩) hl1).trans x6
        have a7 := (hSw.cell (p := ⟨b1, f1 + j * 8 + 7, none⟩) hl1).trans x7
        have c0 := (hSw.cell (p := ⟨b2, f2 + j * 8, none⟩) hl2).trans y0
        have c1 := (hSw.cell (p := ⟨b2, f2 + j * 8 + 1, none⟩) hl2).trans y1
        have c2 := (hSw.cell (p := ⟨b2, f2 + j * 8 + 2, none⟩) hl2).trans y2
        have c3 := (hSw.cell (p := ⟨b2, f2 + j * 8 + 3, none⟩) hl2).trans y3
        have c4 := (hSw.cell (p := ⟨b2, f2 + j * 8 + 4, none⟩) hl2).trans y4
        have c5 := (hSw.cell (p := ⟨b2, f2 + j * 8 + 5, none⟩) hl2).trans y5
        have c6 := (hSw.cell (p := ⟨b2, f2 + j * 8 + 6, none⟩) hl2).trans y6
        have c7 := (hSw.cell (p := ⟨b2, f2 + j * 8 + 7, none⟩) hl2).trans y7
        try simp only [List.getElem_toArray, List.getElem_cons_zero, List.getElem_cons_succ]
        go_simp
        exact rfl
      try simp only [Act.put, List.setIfInBounds_toArray, List.set_cons_zero, List.set_cons_succ, List.getElem_toArray, List.getElem_cons_zero, List.getElem_cons_succ]
      refine mix.D_takeT (i := 34) (v := ?_) rfl (by kernel_rfl) (by kernel_rfl) (fun _ _ _ h => h) (Or.inl ⟨by first | rfl | simp [Region.wanted, yielded], ?_⟩) hS0 ?_
      rotate_left
      · intro w' hSw
        have a0 := (hSw.cell (p := ⟨b1, f1 + j * 8, none⟩) hl1).trans x0
        have a1 := (hSw.cell (p := ⟨b1, f1 + j * 8 + 1, none⟩) hl1).trans x1
        have a2 := (hSw.cell (p := ⟨b1, f1 + j * 8 + 2, none⟩) hl1).trans x2
        have a3 := (hSw.cell (p := ⟨b1, f1 + j * 8 + 3, none⟩) hl1).trans x3
        have a4 := (hSw.cell (p := ⟨b1, f1 + j * 8 + 4, none⟩) hl1).trans x4
        have a5 := (hSw.cell (p := ⟨b1, f1 + j * 8 + 5, none⟩) hl1).trans x5
        have a6 := (hSw.cell (p := ⟨b1, f1 + j * 8 + 6, none⟩) hl1).trans x6
        have a7 := (hSw.cell (p := ⟨b1, f1 + j * 8 + 7, none⟩) hl1).trans x7
        have c0 := (hSw.cell (p := ⟨b2, f2 + j * 8, none⟩) hl2).trans y0
        have c1 := (hSw.cell (p := ⟨b2, f2 + j * 8 + 1, none⟩) hl2).trans y1
        have c2 := (hSw.cell (p := ⟨b2, f2 + j * 8 + 2, none⟩) hl2).trans y2
        have c3 := (hSw.cell (p := ⟨b2, f2 + j * 8 + 3, none⟩) hl2).trans y3
        have c4 := (hSw.cell (p := ⟨b2, f2 + j * 8 + 4, none⟩) hl2).trans y4
        have c5 := (hSw.cell (p := ⟨b2, f2 + j * 8 + 5, none⟩) hl2).trans y5
        have c6 := (hSw.cell (p := ⟨b2, f2 + j * 8 + 6, none⟩) hl2).trans y6
        have c7 := (hSw.cell (p := ⟨b2, f2 + j * 8 + 7, none⟩) hl2).trans y7
        try simp only [List.getElem_toArray, List.getElem_cons_zero, List.getElem_cons_succ]
        go_simp
        exact rfl
      try simp only [Act.put, List.setIfInBounds_toArray, List.set_cons_zero, List.set_cons_succ, List.getElem_toArray, List.getElem_cons_zero, List.getElem_cons_succ]
      refine mix.D_opW (k := 35) rfl (by kernel_rfl) (by first | rfl | simp [Region.wanted, yielded]) (fun K' hK => ?_)
      simp only [List.getElem_toArray, List.getElem_cons_zero, List.getElem_cons_succ]
      go_wp2_with fail
      refine (HLK.out Wd hS0).mono ?_
      rintro e w4 ⟨rfl, hb4⟩
      have hs4 : Below wr.heap.size wr w4 := hS0.trans (hb4.mono hS0.size)
      refine hK.out _ _ (fun _ => hs4) ?_
      clear hK K'
      try simp only [Act.put, List.setIfInBounds_toArray, List.set_cons_zero, List.set_cons_succ]
      refine mix.D_takeT (i := 36) (v := ?_) rfl (by kernel_rfl) (by kernel_rfl) (fun _ _ _ h => h) (Or.inl ⟨by first | rfl | simp [Region.wanted, yielded], ?_⟩) hs4 ?_
      rotate_left
      · intro w' hSw
        have a0 := (hSw.cell (p := ⟨b1, f1 + j * 8, none⟩) hl1).trans x0
        have a1 := (hSw.cell (p := ⟨b1, f1 + j * 8 + 1, none⟩) hl1).trans x1
        have a2 := (hSw.cell (p := ⟨b1, f1 + j * 8 + 2, none⟩) hl1).trans x2
        have a3 := (hSw.cell (p := ⟨b1, f1 + j * 8 + 3, none⟩) hl1).trans x3
        have a4 := (hSw.cell (p := ⟨b1, f1 + j * 8 + 4, none⟩) hl1).trans x4
        have a5 := (hSw.cell (p := ⟨b1, f1 + j * 8 + 5, none⟩) hl1).trans x5
        have a6 := (hSw.cell (p := ⟨b1, f1 + j * 8 + 6, none⟩) hl1).trans x6
        have a7 := (hSw.cell (p := ⟨b1, f1 + j * 8 + 7, none⟩) hl1).trans x7
        have c0 := (hSw.cell (p := ⟨b2, f2 + j * 8, none⟩) hl2).trans y0
        have c1 := (hSw.cell (p := ⟨b2, f2 + j * 8 + 1, none⟩) hl2).trans y1
        have c2 := (hSw.cell (p := ⟨b2, f2 + j * 8 + 2, none⟩) hl2).trans y2
        have c3 := (hSw.cell (p := ⟨b2, f2 + j * 8 + 3, none⟩) hl2).trans y3
        have c4 := (hSw.cell (p := ⟨b2, f2 + j * 8 + 4, none⟩) hl2).trans y4
        have c5 := (hSw.cell (p := ⟨b2, f2 + j * 8 + 5, none⟩) hl2).trans y5
        have c6 := (hSw.cell (p := ⟨b2, f2 + j * 8 + 6, none⟩) hl2).trans y6
        have c7 := (hSw.cell (p := ⟨b2, f2 + j * 8 + 7, none⟩) hl2).trans y7
        try simp only [List.getElem_toArray, List.getElem_cons_zero, List.getElem_cons_succ]
        go_simp
        exact rfl
      try simp only [Act.put, List.setIfInBounds_toArray, List.set_cons_zero, List.set_cons_succ, List.getElem_toArray, List.getElem_cons_zero, List.getElem_cons_succ]
      refine mix.D_takeT (i := 37) (v := ?_) rfl (by kernel_rfl) (by kernel_rfl) (fun _ _ _ h => h) (Or.inl ⟨by first | rfl | simp [Region.wanted, yielded], ?_⟩) hs4 ?_
      rotate_left
      · intro w' hSw
        have a0 := (hSw.cell (p := ⟨b1, f1 + j * 8, none⟩) hl1).trans x0
        have a1 := (hSw.cell (p := ⟨b1, f1 + j * 8 + 1, none⟩) hl1).trans x1
        have a2 := (hSw.cell (p := ⟨b1, f1 + j * 8 + 2, none⟩) hl1).trans x2
        have a3 := (hSw.cell (p := ⟨b1, f1 + j * 8 + 3, none⟩) hl1).trans x3
        have a4 := (hSw.cell (p := ⟨b1, f1 + j * 8 + 4, none⟩) hl1).trans x4
        have a5 := (hSw.cell (p := ⟨b1, f1 + j * 8 + 5, none⟩) hl1).trans x5
        have a6 := (hSw.cell (p := ⟨b1, f1 + j * 8 + 6, none⟩) hl1).trans x6
        have a7 := (hSw.cell (p := ⟨b1, f1 + j * 8 + 7, none⟩) hl1).trans x7
        have c0 := (hSw.cell (p := ⟨b2, f2 + j * 8, none⟩) hl2).trans y0
        have c1 := (hSw.cell (p := ⟨b2, f2 + j * 8 + 1, none⟩) hl2).trans y1
        have c2 := (hSw.cell (p := ⟨b2, f2 + j * 8 + 2, none⟩) hl2).trans y2
        have c3 := (hSw.cell (p := ⟨b2, f2 + j * 8 + 3, none⟩) hl2).trans y3
        have c4 := (hSw.cell (p := ⟨b2, f2 + j * 8 + 4, none⟩) hl2).trans y4
        have c5 := (hSw.cell (p := ⟨b2, f2 + j * 8 + 5, none⟩) hl2).trans y5
        have c6 := (hSw.cell (p := ⟨b2, f2 + j * 8 + 6, none⟩) hl2).trans y6
        have c7 := (hSw.cell (p := ⟨b2, f2 + j * 8 + 7, none⟩) hl2).trans y7
        try simp only [List.getElem_toArray, List.getElem_cons_zero, List.getElem_cons_succ]
        go_simp
        exact rfl
      try simp only [Act.put, List.setIfInBounds_toArray, List.set_cons_zero, List.set_cons_succ, List.getElem_toArray, List.getElem_cons_zero, List.getElem_cons_succ]
      refine mix.D_done (by kernel_rfl) ?_ _
      try simp only [Act.put, List.setIfInBounds_toArray, List.set_cons_zero, List.set_cons_succ, List.getElem_toArray, List.getElem_cons_zero, List.getElem_cons_succ]
      have HB2 := vers.lay (HBw.out.trans (hs4.mono HBw.out.size))
      go_wp2_with fail
      exact ⟨⟨j + 1, by go_num, hlt, HB2⟩, by first | (simp [RowKit.intOf]; done) | (simp [RowKit.intOf]; omega) | omega⟩
    · obtain rfl : j = la.length := by omega
      go_wp2_with fail
      go_ret
      exact ⟨rfl, HBw.out⟩
end
end Go.Proofs.Ytoenkkbcpafanaa.caches
