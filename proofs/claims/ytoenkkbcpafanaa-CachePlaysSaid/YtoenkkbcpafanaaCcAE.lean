/- The document's cache: Put. -/
import Derived.Test.YtoenkkbcpafanaaCcAD


namespace Go.Proofs.Ytoenkkbcpafanaa.caches
set_option linter.unusedVariables false
set_option linter.unusedSimpArgs false
open Go.RowKit Go.Proofs.Ytoenkkbcpafanaa.base Go.Proofs.Ytoenkkbcpafanaa.vers Go.Proofs.Ytoenkkbcpafanaa.nodes Go.Proofs.Ytoenkkbcpafanaa.trees

/-- cells written one by one from a place on -/
def allS (g : Nat) : List Value → Nat → World → World
  | [], _, w => w
  | v :: l, i, w => allS g l (i + 1) (w.setCell ⟨g, i, none⟩ v)
theorem allS_keep (g : Nat) : ∀ (l : List Value) (i : Nat) (w : World), Keep (fun b => b = g) w (allS g l i w)
  | [], _, w => Keep.refl _ _
  | v :: l, i, w => (keep_p w g i v).trans (allS_keep g l (i + 1) _) fun _ h _ => h
/-- the first place without pins from j on -/
def FrI (l : List H) (j : Nat) : Option Nat → Prop
  | none => ∀ i (hi : i < l.length), j ≤ i → l[i].p ≠ 0
  | some i => ∃ hi : i < l.length, j ≤ i ∧ l[i].p = 0 ∧ ∀ i' (hi' : i' < l.length), j ≤ i' → i' < i → l[i'].p ≠ 0
theorem FrI.done {l : List H} {z : Option Nat} (h : FrI l 0 z) : freeP (l.map H.ph) = z := by
  unfold freeP
  cases z with
  | none => exact idx_no fun i hi => decide_eq_false (by rw [List.getElem_map]; exact h i (by simpa using hi) (Nat.zero_le _))
  | some i =>
    obtain ⟨hi, _, h0, hn⟩ := h
    exact idx_yes (by simpa using hi) (decide_eq_true (by rw [List.getElem_map]; exact h0)) fun i' hi' hl => decide_eq_false (by rw [List.getElem_map]; exact hn i' (by simpa using hi') (Nat.zero_le _) hl)
theorem FrI.yes {l : List H} {j : Nat} (hj : j < l.length) (h : l[j].p = 0) : FrI l j (some j) := ⟨hj, Nat.le_refl _, h, fun i' _ h1 h2 => by omega⟩
theorem FrI.no {l : List H} {j : Nat} {z : Option Nat} (hj : j < l.length) (h : l[j].p ≠ 0) (hz : FrI l (j + 1) z) : FrI l j z := by
  have e : ∀ i (hi : i < l.length), j ≤ i → ¬ j + 1 ≤ i → l[i].p ≠ 0 := fun i hi h1 h2 => by
    obtain rfl : i = j := by omega
    exact h
  cases z with
  | none => exact fun i hi h1 => if h2 : j + 1 ≤ i then hz i hi h2 else e i hi h1 h2
  | some i =>
    obtain ⟨hi, h1, h0, hn⟩ := hz
    exact ⟨hi, by omega, h0, fun i' hi' h2 h3 => if h4 : j + 1 ≤ i' then hn i' hi' h4 h3 else e i' hi' h2 h4⟩
/-- what the document's Put has made first -/
structure PB (w : World) (wx : World) (qh : Nat) (rk : Nat) (rg ro rn : Int) (n : P3) (yN : N) : Prop where
  below : Below w.heap.size w wx
  blk : Blk wx qh 110 #[.int .u64 (rk : Int), .int .i64 rg, .int .i64 ro, .int .i64 rn, .bool yN.lf, .slice yN.A yN.es.length yN.c, .slice yN.Q yN.ks.length yN.m, .int .i64 0]
  ge : w.heap.size ≤ qh
  ns : NsF wx (fun b => w.heap.size ≤ b ∧ b < wx.heap.size ∧ b ≠ qh) yN
  eq : yN.p = n
section
variable {w w' w9 : World} {rp room f m f' m' : Nat} {F G : Nat → Prop} {v v' : Value} {l l' : List H}

set_option maxRecDepth 100000 in
set_option maxHeartbeats 16000000 in
theorem putR_ok (h : Rf w rp F room f m v l) (rk : Nat) (rg ro rn : Int) (lf : Bool) (es : List E) (ks : List K) (A : Option Addr) (c : Nat) (Q : Option Addr) (q : Nat) (hy : NsF w (fun b => b < w.heap.size) ⟨lf, es, ks, A, c, Q, q⟩) :
    Calls Try.prog 49 #[.pointer (some ⟨rp, 0, none⟩), .agg #[.int .u64 (rk : Int), .int .i64 rg, .int .i64 ro, .int .i64 rn], .agg #[.bool lf, .slice A es.length c, .slice Q ks.length q]] w (RPost w rp F room f m (putP room (l.map H.ph) ⟨rk, rg, ro, rn⟩ (lf, es.map pe, ks))) := by
  have bA : Below w.heap.size w ((w.alloc (.cells #[.int .u64 (rk : Int), .int .i64 rg, .int .i64 ro, .int .i64 rn] 27)).alloc (.cells #[.bool lf, .slice A es.length c, .slice Q ks.length q] 87)) := ((Below.refl _ _).alloc (Nat.le_refl _) _).alloc (by simp) _
  have k1 := (Blk.new w 27 #[.int .u64 (rk : Int), .int .i64 rg, .int .i64 ro, .int .i64 rn]).alloc (.cells #[.bool lf, .slice A es.length c, .slice Q ks.length q] 87)
  have k2 := Blk.new (w.alloc (.cells #[.int .u64 (rk : Int), .int .i64 rg, .int .i64 ro, .int .i64 rn] 27)) 87 #[.bool lf, .slice A es.length c, .slice Q ks.length q]
  rw [World.size_alloc] at k2
  have HH := vers.lay h
  have hlen := h.len
  have hcap := h.cap
  have HY := vers.lay hy
  clear h hy
  obtain ⟨i0, hi0, hz0, hz1, hz2⟩ := info_parts infoH
  go_enter Try.func49, Try.ntmps49
  go_upto_region 1 with (fail)
  generalize hWq : (w.alloc (.cells #[.int .u64 (rk : Int), .int .i64 rg, .int .i64 ro, .int .i64 rn] 27)).alloc (.cells #[.bool lf, .slice A es.length c, .slice Q ks.length q] 87) = W at *
  obtain ⟨q0, hq0e⟩ : ∃ q0, w.heap.size = q0 := ⟨_, rfl⟩
  have HQ := vers.lay hq0e
  rw [hq0e] at k1 k2 ⊢
  have hqs : W.heap.size = q0 + 2 := by rw [← hWq, ← hq0e]; simp
  clear hWq hq0e
  have HQS := vers.lay hqs
  clear hqs
  have BA := vers.lay bA
  have K1 := vers.lay k1
  have HCP := vers.lay (fun w' (hb : Below W.heap.size W w') => copy6_any lf es ks A c Q q w' (HY.out.1.es.at_world (BA.out.trans (hb.mono BA.out.size))) ((HY.out.2.ks.below (BA.out.trans (hb.mono BA.out.size))).more (Nat.le_trans BA.out.size hb.size)))
  obtain ⟨x0, x1, x2, x3⟩ : W.cell? ⟨q0, 0, none⟩ = _ ∧ W.cell? ⟨q0, 1, none⟩ = _ ∧ W.cell? ⟨q0, 2, none⟩ = _ ∧ W.cell? ⟨q0, 3, none⟩ = _ := ⟨k1.cell 0, k1.cell 1, k1.cell 2, k1.cell 3⟩
  obtain ⟨y0, y1, y2⟩ : W.cell? ⟨q0 + 1, 0, none⟩ = _ ∧ W.cell? ⟨q0 + 1, 1, none⟩ = _ ∧ W.cell? ⟨q0 + 1, 2, none⟩ = _ := ⟨k2.cell 0, k2.cell 1, k2.cell 2⟩
  simp only [List.getElem?_toArray, List.getElem?_cons_zero, List.getElem?_cons_succ] at x0 x1 x2 x3 y0 y1 y2
  have hq0l := k1.lt
  have hq1l := k2.lt
  clear bA k1 k2
  go_cut [7] from 11 to 14 (fun x wx => ∃ (qh : Nat) (yN : N), x = .pointer (some ⟨qh, 0, none⟩) ∧ Hid (PB W wx qh rk rg ro rn (lf, es.map pe, ks) yN))
  case first =>
    have hS0 : Below W.heap.size W W.drew := (Below.refl _ _).drew
    refine mix.region_D (fun w' => Below W.heap.size W w') (fun j => j == 5) (by kernel_rfl) ?_
    generalize W.drew = Wd at *
    refine mix.D_takeT (i := 0) (v := ?_) rfl (by kernel_rfl) (by kernel_rfl) (fun _ _ _ h => h) (Or.inl ⟨by first | rfl | simp [Region.wanted, yielded], ?_⟩) hS0 ?_
    rotate_left
    · intro w' hSw
      have a0 := (hSw.cell (p := ⟨q0, 0, none⟩) hq0l).trans x0
      have a1 := (hSw.cell (p := ⟨q0, 1, none⟩) hq0l).trans x1
      have a2 := (hSw.cell (p := ⟨q0, 2, none⟩) hq0l).trans x2
      have a3 := (hSw.cell (p := ⟨q0, 3, none⟩) hq0l).trans x3
      have b0 := (hSw.cell (p := ⟨q0 + 1, 0, none⟩) hq1l).trans y0
      have b1 := (hSw.cell (p := ⟨q0 + 1, 1, none⟩) hq1l).trans y1
      have b2 := (hSw.cell (p := ⟨q0 + 1, 2, none⟩) hq1l).trans y2
      try simp only [List.getElem_toArray, List.getElem_cons_zero, List.getElem_cons_succ]
      go_simp
      exact rfl
    try simp only [Act.put, List.setIfInBounds_toArray, List.set_cons_zero, List.set_cons_succ, List.getElem_toArray, List.getElem_cons_zero, List.getElem_cons_succ]
    refine mix.D_takeT (i := 1) (v := ?_) rfl (by kernel_rfl) (by kernel_rfl) (fun _ _ _ h => h) (Or.inl ⟨by first | rfl | simp [Region.wanted, yielded], ?_⟩) hS0 ?_
    rotate_left
    · intro w' hSw
      have a0 := (hSw.cell (p := ⟨q0, 0, none⟩) hq0l).trans x0
      have a1 := (hSw.cell (p := ⟨q0, 1, none⟩) hq0l).trans x1
      have a2 := (hSw.cell (p := ⟨q0, 2, none⟩) hq0l).trans x2
      have a3 := (hSw.cell (p := ⟨q0, 3, none⟩) hq0l).trans x3
      have b0 := (hSw.cell (p := ⟨q0 + 1, 0, none⟩) hq1l).trans y0
      have b1 := (hSw.cell (p := ⟨q0 + 1, 1, none⟩) hq1l).trans y1
      have b2 := (hSw.cell (p := ⟨q0 + 1, 2, none⟩) hq1l).trans y2
      try simp only [List.getElem_toArray, List.getElem_cons_zero, List.getElem_cons_succ]
      go_simp
      exact rfl
    try simp only [Act.put, List.setIfInBounds_toArray, List.set_cons_zero, List.set_cons_succ, List.getElem_toArray, List.getElem_cons_zero, List.getElem_cons_succ]
    refine mix.D_two (k := 2) (j := 4) rfl rfl rfl rfl (by kernel_rfl) (fun K' hK => ?_) (fun K' hK => ?_)
    · simp only [List.getElem_toArray, List.getElem_cons_zero, List.getElem_cons_succ]
      go_wp2_with fail
      refine (HCP.out Wd hS0).mono ?_
      rintro e w1 ⟨hb1, es1, A1, c1, Q1, m1, rfl, hpe, _, _, hO⟩
      have hs1 : Below W.heap.size W w1 := hS0.trans (hb1.mono hS0.size)
      refine hK.out _ _ (fun _ => hs1) ?_
      clear hK K'
      try simp only [Act.put, List.setIfInBounds_toArray, List.set_cons_zero, List.set_cons_succ]
      refine mix.D_takeT (i := 3) (v := ?_) rfl (by kernel_rfl) (by kernel_rfl) (fun _ _ _ h => h) (Or.inl ⟨by first | rfl | simp [Region.wanted, yielded], ?_⟩) hs1 ?_
      rotate_left
      · intro w' hSw
        try simp only [List.getElem_toArray, List.getElem_cons_zero, List.getElem_cons_succ]
        go_simp
        exact rfl
      try simp only [Act.put, List.setIfInBounds_toArray, List.set_cons_zero, List.set_cons_succ, List.getElem_toArray, List.getElem_cons_zero, List.getElem_cons_succ]
      refine mix.D_op (k := 4) rfl rfl (by kernel_rfl) (fun K' hK => ?_)
      simp only [List.getElem_toArray, List.getElem_cons_zero, List.getElem_cons_succ]
      go_wp2_with fail
      have ba : Below w1.heap.size w1 (w1.alloc (.cells #[.int .u64 0, .int .i64 0, .int .i64 0, .int .i64 0, .bool false, .slice none 0 0, .slice none 0 0, .int .i64 0] 110)) := (Below.refl _ _).alloc (Nat.le_refl _) _
      have hs2 : Below W.heap.size W (w1.alloc (.cells #[.int .u64 0, .int .i64 0, .int .i64 0, .int .i64 0, .bool false, .slice none 0 0, .slice none 0 0, .int .i64 0] 110)) := hs1.trans (ba.mono hs1.size)
      have kh := Blk.new w1 110 #[.int .u64 0, .int .i64 0, .int .i64 0, .int .i64 0, .bool false, .slice none 0 0, .slice none 0 0, .int .i64 0]
      have hsz : (w1.alloc (.cells #[.int .u64 0, .int .i64 0, .int .i64 0, .int .i64 0, .bool false, .slice none 0 0, .slice none 0 0, .int .i64 0] 110)).heap.size = w1.heap.size + 1 := by simp
      generalize w1.alloc (.cells #[.int .u64 0, .int .i64 0, .int .i64 0, .int .i64 0, .bool false, .slice none 0 0, .slice none 0 0, .int .i64 0] 110) = w2 at *
      obtain ⟨qh, hqh⟩ : ∃ qh, w1.heap.size = qh := ⟨_, rfl⟩
      rw [hqh] at kh hsz ⊢
      refine hK.out _ _ (fun _ => hs2) ?_
      clear hK K'
      try simp only [Act.put, List.setIfInBounds_toArray, List.set_cons_zero, List.set_cons_succ]
      refine mix.D_op (k := 5) rfl rfl (by kernel_rfl) (fun K' hK => ?_)
      simp only [List.getElem_toArray, List.getElem_cons_zero, List.getElem_cons_succ]
      obtain ⟨n0, n1, n2, n3, n4, n5, n6, n7⟩ : w2.cell? ⟨qh, 0, none⟩ = _ ∧ w2.cell? ⟨qh, 1, none⟩ = _ ∧ w2.cell? ⟨qh, 2, none⟩ = _ ∧ w2.cell? ⟨qh, 3, none⟩ = _ ∧ w2.cell? ⟨qh, 4, none⟩ = _ ∧ w2.cell? ⟨qh, 5, none⟩ = _ ∧ w2.cell? ⟨qh, 6, none⟩ = _ ∧ w2.cell? ⟨qh, 7, none⟩ = _ := ⟨kh.cell 0, kh.cell 1, kh.cell 2, kh.cell 3, kh.cell 4, kh.cell 5, kh.cell 6, kh.cell 7⟩
      simp only [List.getElem?_toArray, List.getElem?_cons_zero, List.getElem?_cons_succ] at n0 n1 n2 n3 n4 n5 n6 n7
      obtain ⟨g0, g1, g2, g3, g4, g5, g6, g7⟩ : w2.frozen? ⟨qh, 0, none⟩ = _ ∧ w2.frozen? ⟨qh, 1, none⟩ = _ ∧ w2.frozen? ⟨qh, 2, none⟩ = _ ∧ w2.frozen? ⟨qh, 3, none⟩ = _ ∧ w2.frozen? ⟨qh, 4, none⟩ = _ ∧ w2.frozen? ⟨qh, 5, none⟩ = _ ∧ w2.frozen? ⟨qh, 6, none⟩ = _ ∧ w2.frozen? ⟨qh, 7, none⟩ = _ := ⟨kh.frozen 0, kh.frozen 1, kh.frozen 2, kh.frozen 3, kh.frozen 4, kh.frozen 5, kh.frozen 6, kh.frozen 7⟩
      have gl := kh.lt
      have kk := ((((((((kh.put 0 (.int .u64 (rk : Int))).put 1 (.int .i64 rg)).put 2 (.int .i64 ro)).put 3 (.int .i64 rn)).put 4 (.bool lf)).put 5 (.slice A1 es1.length c1)).put 6 (.slice Q1 ks.length m1)).put 7 (.int .i64 0))
      have kf := allS_keep qh [.int .u64 (rk : Int), .int .i64 rg, .int .i64 ro, .int .i64 rn, .bool lf, .slice A1 es1.length c1, .slice Q1 ks.length m1, .int .i64 0] 0 w2
      unfold allS allS allS allS allS allS allS allS allS at kf
      simp only [Nat.zero_add] at kf
      have HKK := vers.lay kk
      have HKF := vers.lay kf
      clear kk kf
      go_wp2_with fail
      refine hK.out _ _ (fun h => by simp at h) ?_
      clear hK K'
      try simp only [Act.put, List.setIfInBounds_toArray, List.set_cons_zero, List.set_cons_succ]
      refine mix.D_done (by kernel_rfl) ?_ _
      try simp only [Act.put, List.setIfInBounds_toArray, List.set_cons_zero, List.set_cons_succ, List.getElem_toArray, List.getElem_cons_zero, List.getElem_cons_succ]
      go_wp2_with fail
      go_meet
      have s0 := hS0.size
      have s1 := hs1.size
      have s2 := hs2.size
      have sz9 := HKF.out.size
      have kl := kh.lt
      have hW := HQS.out
      refine ⟨qh, ⟨lf, es1, ks, A1, c1, Q1, m1⟩, rfl, vers.lay ⟨hs2.trans (HKF.out.below (fun b e => by omega) s2), by simpa using HKK.out, by omega, ?_, by unfold N.p; rw [hpe]⟩⟩
      refine (hO.ns.agree fun b hb => (HKF.out.block b (by omega) (by omega)).trans (ba.block b hb.2)).mono fun b hb => ⟨by omega, Nat.lt_of_lt_of_le (show b < w2.heap.size by omega) HKF.out.size, by omega⟩
    · simp only [List.getElem_toArray, List.getElem_cons_zero, List.getElem_cons_succ]
      go_wp2_with fail
      have ba : Below Wd.heap.size Wd (Wd.alloc (.cells #[.int .u64 0, .int .i64 0, .int .i64 0, .int .i64 0, .bool false, .slice none 0 0, .slice none 0 0, .int .i64 0] 110)) := (Below.refl _ _).alloc (Nat.le_refl _) _
      have hs1 : Below W.heap.size W (Wd.alloc (.cells #[.int .u64 0, .int .i64 0, .int .i64 0, .int .i64 0, .bool false, .slice none 0 0, .slice none 0 0, .int .i64 0] 110)) := hS0.trans (ba.mono hS0.size)
      have kh := Blk.new Wd 110 #[.int .u64 0, .int .i64 0, .int .i64 0, .int .i64 0, .bool false, .slice none 0 0, .slice none 0 0, .int .i64 0]
      have hsz : (Wd.alloc (.cells #[.int .u64 0, .int .i64 0, .int .i64 0, .int .i64 0, .bool false, .slice none 0 0, .slice none 0 0, .int .i64 0] 110)).heap.size = Wd.heap.size + 1 := by simp
      generalize Wd.alloc (.cells #[.int .u64 0, .int .i64 0, .int .i64 0, .int .i64 0, .bool false, .slice none 0 0, .slice none 0 0, .int .i64 0] 110) = w1 at *
      obtain ⟨qh, hqh⟩ : ∃ qh, Wd.heap.size = qh := ⟨_, rfl⟩
      rw [hqh] at kh hsz ⊢
      refine hK.out _ _ (fun _ => hs1) ?_
      clear hK K'
      try simp only [Act.put, List.setIfInBounds_toArray, List.set_cons_zero, List.set_cons_succ]
      refine mix.D_op (k := 2) rfl rfl (by kernel_rfl) (fun K' hK => ?_)
      simp only [List.getElem_toArray, List.getElem_cons_zero, List.getElem_cons_succ]
      go_wp2_with fail
      refine (HCP.out w1 hs1).mono ?_
      rintro e w2 ⟨hb1, es1, A1, c1, Q1, m1, rfl, hpe, _, _, hO⟩
      have hs2 : Below W.heap.size W w2 := hs1.trans (hb1.mono hs1.size)
      refine hK.out _ _ (fun _ => hs2) ?_
      clear hK K'
      try simp only [Act.put, List.setIfInBounds_toArray, List.set_cons_zero, List.set_cons_succ]
      refine mix.D_takeT (i := 3) (v := ?_) rfl (by kernel_rfl) (by kernel_rfl) (fun _ _ _ h => h) (Or.inl ⟨by first | rfl | simp [Region.wanted, yielded], ?_⟩) hs2 ?_
      rotate_left
      · intro w' hSw
        try simp only [List.getElem_toArray, List.getElem_cons_zero, List.getElem_cons_succ]
        go_simp
        exact rfl
      try simp only [Act.put, List.setIfInBounds_toArray, List.set_cons_zero, List.set_cons_succ, List.getElem_toArray, List.getElem_cons_zero, List.getElem_cons_succ]
      have kh2 := kh.below hb1 kh.lt
      refine mix.D_op (k := 5) rfl rfl (by kernel_rfl) (fun K' hK => ?_)
      simp only [List.getElem_toArray, List.getElem_cons_zero, List.getElem_cons_succ]
      obtain ⟨n0, n1, n2, n3, n4, n5, n6, n7⟩ : w2.cell? ⟨qh, 0, none⟩ = _ ∧ w2.cell? ⟨qh, 1, none⟩ = _ ∧ w2.cell? ⟨qh, 2, none⟩ = _ ∧ w2.cell? ⟨qh, 3, none⟩ = _ ∧ w2.cell? ⟨qh, 4, none⟩ = _ ∧ w2.cell? ⟨qh, 5, none⟩ = _ ∧ w2.cell? ⟨qh, 6, none⟩ = _ ∧ w2.cell? ⟨qh, 7, none⟩ = _ := ⟨kh2.cell 0, kh2.cell 1, kh2.cell 2, kh2.cell 3, kh2.cell 4, kh2.cell 5, kh2.cell 6, kh2.cell 7⟩
      simp only [List.getElem?_toArray, List.getElem?_cons_zero, List.getElem?_cons_succ] at n0 n1 n2 n3 n4 n5 n6 n7
      obtain ⟨g0, g1, g2, g3, g4, g5, g6, g7⟩ : w2.frozen? ⟨qh, 0, none⟩ = _ ∧ w2.frozen? ⟨qh, 1, none⟩ = _ ∧ w2.frozen? ⟨qh, 2, none⟩ = _ ∧ w2.frozen? ⟨qh, 3, none⟩ = _ ∧ w2.frozen? ⟨qh, 4, none⟩ = _ ∧ w2.frozen? ⟨qh, 5, none⟩ = _ ∧ w2.frozen? ⟨qh, 6, none⟩ = _ ∧ w2.frozen? ⟨qh, 7, none⟩ = _ := ⟨kh2.frozen 0, kh2.frozen 1, kh2.frozen 2, kh2.frozen 3, kh2.frozen 4, kh2.frozen 5, kh2.frozen 6, kh2.frozen 7⟩
      have gl := kh2.lt
      have kk := ((((((((kh2.put 0 (.int .u64 (rk : Int))).put 1 (.int .i64 rg)).put 2 (.int .i64 ro)).put 3 (.int .i64 rn)).put 4 (.bool lf)).put 5 (.slice A1 es1.length c1)).put 6 (.slice Q1 ks.length m1)).put 7 (.int .i64 0))
      have kf := allS_keep qh [.int .u64 (rk : Int), .int .i64 rg, .int .i64 ro, .int .i64 rn, .bool lf, .slice A1 es1.length c1, .slice Q1 ks.length m1, .int .i64 0] 0 w2
      unfold allS allS allS allS allS allS allS allS allS at kf
      simp only [Nat.zero_add] at kf
      have HKK := vers.lay kk
      have HKF := vers.lay kf
      clear kk kf
      go_wp2_with fail
      refine hK.out _ _ (fun h => by simp at h) ?_
      clear hK K'
      try simp only [Act.put, List.setIfInBounds_toArray, List.set_cons_zero, List.set_cons_succ]
      refine mix.D_done (by kernel_rfl) ?_ _
      try simp only [Act.put, List.setIfInBounds_toArray, List.set_cons_zero, List.set_cons_succ, List.getElem_toArray, List.getElem_cons_zero, List.getElem_cons_succ]
      go_wp2_with fail
      go_meet
      have s0 := hS0.size
      have s1 := hs1.size
      have s2 := hs2.size
      have sz9 := HKF.out.size
      have kl := kh.lt
      have hW := HQS.out
      refine ⟨qh, ⟨lf, es1, ks, A1, c1, Q1, m1⟩, rfl, vers.lay ⟨hs2.trans (HKF.out.below (fun b e => by omega) s2), by simpa using HKK.out, by omega, ?_, by unfold N.p; rw [hpe]⟩⟩
      have sb := hb1.size
      refine (hO.ns.agree fun b hb => HKF.out.block b hb.2 (by omega)).mono fun b hb => ⟨by omega, Nat.lt_of_lt_of_le hb.2 HKF.out.size, by omega⟩
  case rest =>
  obtain ⟨qh, yN, rfl, HPB⟩ := hcut
  clear x0 x1 x2 x3 y0 y1 y2 hq0l hq1l HCP
  have hqw := HQ.out
  have hqs := HQS.out
  have sW := HPB.out.below.size
  have gq := HPB.out.ge
  obtain ⟨G, hG⟩ : ∃ G : Nat → Prop, ∀ b, G b ↔ (W.heap.size ≤ b ∧ b < wc.heap.size ∧ b ≠ qh) := ⟨_, fun b => Iff.rfl⟩
  have BAX := vers.lay (BA.out.trans (HPB.out.below.mono BA.out.size))
  have h1 := (HH.out.below BAX.out).more (G := G) (fun b hb => ((hG b).1 hb).2.1)
  have hlow : ∀ b, F b → b < q0 := fun b hb => by have := HH.out.flt b hb; omega
  have hqF1 : ¬ (F qh ∨ G qh) := by
    rintro (e | e)
    · have := hlow _ e; omega
    · exact ((hG _).1 e).2.2 rfl
  have hn1 : NsF wc (fun b => (F b ∨ G b) ∧ b ≠ rp ∧ v.ownBlock ≠ some b) yN := HPB.out.ns.mono fun b hb => ⟨.inr ((hG b).2 hb), fun e => by have := hlow rp HH.out.fp; omega, fun e => by have := hlow b (HH.out.fv b e).1; omega⟩
  have hnew : ∀ b, (F b ∨ G b) → F b ∨ w.heap.size ≤ b := fun b hb => hb.imp id fun e => by have := ((hG b).1 e).1; omega
  have hrl := hlow rp HH.out.fp
  obtain ⟨F1, hF1⟩ : ∃ F1 : Nat → Prop, (fun b => F b ∨ G b) = F1 := ⟨_, rfl⟩
  have hsub : ∀ b, F b → F1 b := fun b hb => by rw [← hF1]; exact .inl hb
  have hmk : ∀ b, F b ∨ G b ↔ F1 b := fun b => by rw [← hF1]
  simp only [hmk] at hn1 hnew hqF1
  rw [hF1] at h1
  have H1 := vers.lay h1
  have HN1 := vers.lay hn1
  have HNEW := vers.lay hnew
  have HSUB := vers.lay hsub
  have HLOW := vers.lay hlow
  clear h1 hn1 hnew hsub hmk hF1 hG hlow G
  have KA := vers.lay (show Keep F w wc from Keep.of_below BAX.out)
  have kq := K1.out.below HPB.out.below K1.out.lt
  obtain ⟨x0, x1, x2, x3⟩ : wc.cell? ⟨q0, 0, none⟩ = _ ∧ wc.cell? ⟨q0, 1, none⟩ = _ ∧ wc.cell? ⟨q0, 2, none⟩ = _ ∧ wc.cell? ⟨q0, 3, none⟩ = _ := ⟨kq.cell 0, kq.cell 1, kq.cell 2, kq.cell 3⟩
  simp only [List.getElem?_toArray, List.getElem?_cons_zero, List.getElem?_cons_succ] at x0 x1 x2 x3
  have hq0l := kq.lt
  obtain ⟨ans, hans⟩ : ∃ ans, atR (l.map H.ph) ⟨rk, rg, ro, rn⟩ = ans := ⟨_, rfl⟩
  have hfnd := atR_ok H1.out rk rg ro rn
  rw [hans] at hfnd
  cases ans with
  | some i =>
    have d1 : oi (some i) = (i : Int) := rfl
    rw [d1] at hfnd
    have i1 : decide (0 ≤ (i : Int)) = true := decide_eq_true (by omega)
    have i3 : (0 : Int) ≤ (i : Int) := by omega
    have hi : i < l.length := by obtain ⟨h, _⟩ := atR_lt hans; simpa using h
    have i2 : (i : Int) < (l.length : Int) := by omega
    have HPT := vers.lay (show putP room (l.map H.ph) ⟨rk, rg, ro, rn⟩ (lf, es.map pe, ks) = (0, outL (l.map H.ph) i ++ [(⟨rk, rg, ro, rn⟩, (lf, es.map pe, ks), pinsAt (l.map H.ph) i)]) by unfold putP; rw [hans])
    have HPN := vers.lay (show pinsAt (l.map H.ph) i = (l[i]'hi).p by unfold pinsAt; rw [List.getElem?_map, List.getElem?_eq_getElem hi]; rfl)
    clear d1 hans kq
    go_upto_region 4 with (go_at_call 115; refine hfnd.mono ?_; rintro e1 w1 ⟨rfl, hb1⟩)
    have H2 := vers.lay (H1.out.below hb1)
    have KB := vers.lay (KA.out.seq hb1)
    have kh1 := HPB.out.blk.below hb1 HPB.out.blk.lt
    have HN2 := vers.lay (HN1.out.agree (w' := w1) fun b hb => hb1.block b (H1.out.flt b hb.1))
    have sz1 := hb1.size
    clear hfnd x0 x1 x2 x3 hq0l hb1
    obtain ⟨hpW, _, z1, _, _⟩ := H2.out.head
    obtain ⟨A1, c1, hv1, _, _, hr⟩ := H2.out.slice
    subst hv1
    obtain ⟨b, off, rfl, _, y0, y1, y2, y3, y4, y5, y6, y7⟩ := RdF.h_at hr hi
    clear y0 y1 y2 y3 y4 y5 y6 hr
    have hbl := World.block_lt_of_cell? _ _ y7
    obtain ⟨pn, hpn⟩ : ∃ pn, (l[i]'hi).p = pn := ⟨_, rfl⟩
    rw [hpn] at y7 HPN
    have n7 := kh1.cell 7
    simp only [List.getElem?_toArray, List.getElem?_cons_zero, List.getElem?_cons_succ] at n7
    have g7 := kh1.frozen 7
    have gl := kh1.lt
    have KS := vers.lay (keep_p w1 qh 7 (.int .i64 (pn : Int)))
    have kh2 : Blk (w1.setCell ⟨qh, 7, none⟩ (.int .i64 (pn : Int))) qh 110 #[.int .u64 (rk : Int), .int .i64 rg, .int .i64 ro, .int .i64 rn, .bool yN.lf, .slice yN.A yN.es.length yN.c, .slice yN.Q yN.ks.length yN.m, .int .i64 (pn : Int)] := by simpa using kh1.put 7 (.int .i64 (pn : Int))
    have KH2 := vers.lay kh2
    have HI := vers.lay hi
    clear hpn kh1 kh2 i2 hi
    go_upto_region 5 with (fail)
    generalize w1.setCell ⟨qh, 7, none⟩ (.int .i64 (pn : Int)) = w2 at *
    have H3 := vers.lay (H2.out.keep KS.out (fun b hb e => hqF1 (e ▸ hb)))
    have HN3 := vers.lay (HN2.out.agree (w' := w2) fun b hb => KS.out.block b (H2.out.flt b hb.1) (fun e => hqF1 (e ▸ hb.1)))
    have K3 := vers.lay (Keep.trans (S := F) KB.out KS.out fun b e hl => by omega)
    have sz2 := KS.out.size
    rw [HPN.out] at HPT
    clear z1 y7 n7 g7 gl hbl hpW KS H2 HN2 KB
    have hou := outR_ok H3.out HI.out
    have HOL := vers.lay (outL_len l HI.out)
    have HMAP := vers.lay (outL_map H.ph l i)
    go_upto_region 6 with (go_at_call 116; refine hou.mono ?_; rintro e4 W9 ⟨v9, F9, rfl, hX9, hk9, hf9, hg9⟩)
    have hrq : rp ≠ qh := fun e => by omega
    have kh := hk9.blk KH2.out (fun e => hrq e.symm)
    have s9 := hk9.size
    have hqF : ¬ F9 qh := fun hq => by
      rcases hf9 qh hq with h | h
      · exact hqF1 h
      · have := KH2.out.lt; omega
    have KO := vers.lay hk9
    have HF9 := vers.lay hf9
    obtain ⟨A9, c9, hv9, _⟩ := hX9.slice
    have HNX := vers.lay ((HN3.out.agree (w' := W9) fun b hb => hk9.block b (H3.out.flt b hb.1) hb.2.1).mono fun b hb => (show F9 b ∧ b ≠ rp ∧ v9.ownBlock ≠ some b from ⟨(hg9 b hb.1).1, hb.2.1, (hg9 b hb.1).2⟩))
    subst hv9
    obtain ⟨l9, hl9e⟩ : ∃ l9, outL l i = l9 := ⟨_, rfl⟩
    have HX := vers.lay hX9
    rw [hl9e] at HX HNX HMAP HOL
    have hl9 : l9.length + 1 ≤ room := by have := HOL.out; have := HI.out; omega
    have KA9 := vers.lay (Keep.trans (S := F) K3.out KO.out fun b e _ => e ▸ HH.out.fp)
    have HN9 := vers.lay (fun b (hb : F9 b) => show F b ∨ w.heap.size ≤ b by
      rcases HF9.out b hb with h | h
      · exact HNEW.out b h
      · exact .inr (by omega))
    have hs9 : w.heap.size ≤ W9.heap.size := by omega
    clear hX9 hk9 hf9 hg9 hl9e hou
    obtain ⟨hrpl9, _, x1, _, _⟩ := HX.out.head
    obtain ⟨h0, h1, h2, h3, h4, h5, h6, h7⟩ : W9.cell? ⟨qh, 0, none⟩ = _ ∧ W9.cell? ⟨qh, 1, none⟩ = _ ∧ W9.cell? ⟨qh, 2, none⟩ = _ ∧ W9.cell? ⟨qh, 3, none⟩ = _ ∧ W9.cell? ⟨qh, 4, none⟩ = _ ∧ W9.cell? ⟨qh, 5, none⟩ = _ ∧ W9.cell? ⟨qh, 6, none⟩ = _ ∧ W9.cell? ⟨qh, 7, none⟩ = _ := ⟨kh.cell 0, kh.cell 1, kh.cell 2, kh.cell 3, kh.cell 4, kh.cell 5, kh.cell 6, kh.cell 7⟩
    simp only [List.getElem?_toArray, List.getElem?_cons_zero, List.getElem?_cons_succ] at h0 h1 h2 h3 h4 h5 h6 h7
    have hql9 := kh.lt
    have hS0 : Below W9.heap.size W9 W9.drew := (Below.refl _ _).drew
    have hS9 : Keep (fun b => (Value.slice A9 l9.length c9).ownBlock = some b) W9 W9.drew := Keep.of_below hS0
    go_upto_region 6 with (fail)
    refine mix.region_D (fun w' => Keep (fun b => (Value.slice A9 l9.length c9).ownBlock = some b) W9 w') (fun j => j == 10) (by kernel_rfl) ?_
    generalize W9.drew = Wd at *
    refine mix.D_takeT (i := 0) (v := ?_) rfl (by kernel_rfl) (by kernel_rfl) (fun _ _ _ h => h) (Or.inl ⟨by first | rfl | simp [Region.wanted, yielded], ?_⟩) hS9 ?_
    rotate_left
    · intro w' hSw
      have z1 := (hSw.cell (p := ⟨rp, 1, none⟩) hrpl9 (fun e => (HX.out.fv rp e).2 rfl)).trans x1
      have a0 := (hSw.cell (p := ⟨qh, 0, none⟩) hql9 (fun e => hqF (HX.out.fv qh e).1)).trans h0
      have a1 := (hSw.cell (p := ⟨qh, 1, none⟩) hql9 (fun e => hqF (HX.out.fv qh e).1)).trans h1
      have a2 := (hSw.cell (p := ⟨qh, 2, none⟩) hql9 (fun e => hqF (HX.out.fv qh e).1)).trans h2
      have a3 := (hSw.cell (p := ⟨qh, 3, none⟩) hql9 (fun e => hqF (HX.out.fv qh e).1)).trans h3
      have a4 := (hSw.cell (p := ⟨qh, 4, none⟩) hql9 (fun e => hqF (HX.out.fv qh e).1)).trans h4
      have a5 := (hSw.cell (p := ⟨qh, 5, none⟩) hql9 (fun e => hqF (HX.out.fv qh e).1)).trans h5
      have a6 := (hSw.cell (p := ⟨qh, 6, none⟩) hql9 (fun e => hqF (HX.out.fv qh e).1)).trans h6
      have a7 := (hSw.cell (p := ⟨qh, 7, none⟩) hql9 (fun e => hqF (HX.out.fv qh e).1)).trans h7
      try simp only [List.getElem_toArray, List.getElem_cons_zero, List.getElem_cons_succ]
      go_simp
      exact rfl
    try simp only [Act.put, List.setIfInBounds_toArray, List.set_cons_zero, List.set_cons_succ, List.getElem_toArray, List.getElem_cons_zero, List.getElem_cons_succ]
    refine mix.D_takeT (i := 1) (v := ?_) rfl (by kernel_rfl) (by kernel_rfl) (fun _ _ _ h => h) (Or.inl ⟨by first | rfl | simp [Region.wanted, yielded], ?_⟩) hS9 ?_
    rotate_left
    · intro w' hSw
      have z1 := (hSw.cell (p := ⟨rp, 1, none⟩) hrpl9 (fun e => (HX.out.fv rp e).2 rfl)).trans x1
      have a0 := (hSw.cell (p := ⟨qh, 0, none⟩) hql9 (fun e => hqF (HX.out.fv qh e).1)).trans h0
      have a1 := (hSw.cell (p := ⟨qh, 1, none⟩) hql9 (fun e => hqF (HX.out.fv qh e).1)).trans h1
      have a2 := (hSw.cell (p := ⟨qh, 2, none⟩) hql9 (fun e => hqF (HX.out.fv qh e).1)).trans h2
      have a3 := (hSw.cell (p := ⟨qh, 3, none⟩) hql9 (fun e => hqF (HX.out.fv qh e).1)).trans h3
      have a4 := (hSw.cell (p := ⟨qh, 4, none⟩) hql9 (fun e => hqF (HX.out.fv qh e).1)).trans h4
      have a5 := (hSw.cell (p := ⟨qh, 5, none⟩) hql9 (fun e => hqF (HX.out.fv qh e).1)).trans h5
      have a6 := (hSw.cell (p := ⟨qh, 6, none⟩) hql9 (fun e => hqF (HX.out.fv qh e).1)).trans h6
      have a7 := (hSw.cell (p := ⟨qh, 7, none⟩) hql9 (fun e => hqF (HX.out.fv qh e).1)).trans h7
      try simp only [List.getElem_toArray, List.getElem_cons_zero, List.getElem_cons_succ]
      go_simp
      exact rfl
    try simp only [Act.put, List.setIfInBounds_toArray, List.set_cons_zero, List.set_cons_succ, List.getElem_toArray, List.getElem_cons_zero, List.getElem_cons_succ]
    refine mix.D_takeT (i := 2) (v := ?_) rfl (by kernel_rfl) (by kernel_rfl) (fun _ _ _ h => h) (Or.inl ⟨by first | rfl | simp [Region.wanted, yielded], ?_⟩) hS9 ?_
    rotate_left
    · intro w' hSw
      have z1 := (hSw.cell (p := ⟨rp, 1, none⟩) hrpl9 (fun e => (HX.out.fv rp e).2 rfl)).trans x1
      have a0 := (hSw.cell (p := ⟨qh, 0, none⟩) hql9 (fun e => hqF (HX.out.fv qh e).1)).trans h0
      have a1 := (hSw.cell (p := ⟨qh, 1, none⟩) hql9 (fun e => hqF (HX.out.fv qh e).1)).trans h1
      have a2 := (hSw.cell (p := ⟨qh, 2, none⟩) hql9 (fun e => hqF (HX.out.fv qh e).1)).trans h2
      have a3 := (hSw.cell (p := ⟨qh, 3, none⟩) hql9 (fun e => hqF (HX.out.fv qh e).1)).trans h3
      have a4 := (hSw.cell (p := ⟨qh, 4, none⟩) hql9 (fun e => hqF (HX.out.fv qh e).1)).trans h4
      have a5 := (hSw.cell (p := ⟨qh, 5, none⟩) hql9 (fun e => hqF (HX.out.fv qh e).1)).trans h5
      have a6 := (hSw.cell (p := ⟨qh, 6, none⟩) hql9 (fun e => hqF (HX.out.fv qh e).1)).trans h6
      have a7 := (hSw.cell (p := ⟨qh, 7, none⟩) hql9 (fun e => hqF (HX.out.fv qh e).1)).trans h7
      try simp only [List.getElem_toArray, List.getElem_cons_zero, List.getElem_cons_succ]
      go_simp
      exact rfl
    try simp only [Act.put, List.setIfInBounds_toArray, List.set_cons_zero, List.set_cons_succ, List.getElem_toArray, List.getElem_cons_zero, List.getElem_cons_succ]
    refine mix.D_takeT (i := 3) (v := ?_) rfl (by kernel_rfl) (by kernel_rfl) (fun _ _ _ h => h) (Or.inl ⟨by first | rfl | simp [Region.wanted, yielded], ?_⟩) hS9 ?_
    rotate_left
    · intro w' hSw
      have z1 := (hSw.cell (p := ⟨rp, 1, none⟩) hrpl9 (fun e => (HX.out.fv rp e).2 rfl)).trans x1
      have a0 := (hSw.cell (p := ⟨qh, 0, none⟩) hql9 (fun e => hqF (HX.out.fv qh e).1)).trans h0
      have a1 := (hSw.cell (p := ⟨qh, 1, none⟩) hql9 (fun e => hqF (HX.out.fv qh e).1)).trans h1
      have a2 := (hSw.cell (p := ⟨qh, 2, none⟩) hql9 (fun e => hqF (HX.out.fv qh e).1)).trans h2
      have a3 := (hSw.cell (p := ⟨qh, 3, none⟩) hql9 (fun e => hqF (HX.out.fv qh e).1)).trans h3
      have a4 := (hSw.cell (p := ⟨qh, 4, none⟩) hql9 (fun e => hqF (HX.out.fv qh e).1)).trans h4
      have a5 := (hSw.cell (p := ⟨qh, 5, none⟩) hql9 (fun e => hqF (HX.out.fv qh e).1)).trans h5
      have a6 := (hSw.cell (p := ⟨qh, 6, none⟩) hql9 (fun e => hqF (HX.out.fv qh e).1)).trans h6
      have a7 := (hSw.cell (p := ⟨qh, 7, none⟩) hql9 (fun e => hqF (HX.out.fv qh e).1)).trans h7
      try simp only [List.getElem_toArray, List.getElem_cons_zero, List.getElem_cons_succ]
      go_simp
      exact rfl
    try simp only [Act.put, List.setIfInBounds_toArray, List.set_cons_zero, List.set_cons_succ, List.getElem_toArray, List.getElem_cons_zero, List.getElem_cons_succ]
    refine mix.D_takeT (i := 4) (v := ?_) rfl (by kernel_rfl) (by kernel_rfl) (fun _ _ _ h => h) (Or.inl ⟨by first | rfl | simp [Region.wanted, yielded], ?_⟩) hS9 ?_
    rotate_left
    · intro w' hSw
      have z1 := (hSw.cell (p := ⟨rp, 1, none⟩) hrpl9 (fun e => (HX.out.fv rp e).2 rfl)).trans x1
      have a0 := (hSw.cell (p := ⟨qh, 0, none⟩) hql9 (fun e => hqF (HX.out.fv qh e).1)).trans h0
      have a1 := (hSw.cell (p := ⟨qh, 1, none⟩) hql9 (fun e => hqF (HX.out.fv qh e).1)).trans h1
      have a2 := (hSw.cell (p := ⟨qh, 2, none⟩) hql9 (fun e => hqF (HX.out.fv qh e).1)).trans h2
      have a3 := (hSw.cell (p := ⟨qh, 3, none⟩) hql9 (fun e => hqF (HX.out.fv qh e).1)).trans h3
      have a4 := (hSw.cell (p := ⟨qh, 4, none⟩) hql9 (fun e => hqF (HX.out.fv qh e).1)).trans h4
      have a5 := (hSw.cell (p := ⟨qh, 5, none⟩) hql9 (fun e => hqF (HX.out.fv qh e).1)).trans h5
      have a6 := (hSw.cell (p := ⟨qh, 6, none⟩) hql9 (fun e => hqF (HX.out.fv qh e).1)).trans h6
      have a7 := (hSw.cell (p := ⟨qh, 7, none⟩) hql9 (fun e => hqF (HX.out.fv qh e).1)).trans h7
      try simp only [List.getElem_toArray, List.getElem_cons_zero, List.getElem_cons_succ]
      go_simp
      exact rfl
    try simp only [Act.put, List.setIfInBounds_toArray, List.set_cons_zero, List.set_cons_succ, List.getElem_toArray, List.getElem_cons_zero, List.getElem_cons_succ]
    refine mix.D_takeT (i := 5) (v := ?_) rfl (by kernel_rfl) (by kernel_rfl) (fun _ _ _ h => h) (Or.inl ⟨by first | rfl | simp [Region.wanted, yielded], ?_⟩) hS9 ?_
    rotate_left
    · intro w' hSw
      have z1 := (hSw.cell (p := ⟨rp, 1, none⟩) hrpl9 (fun e => (HX.out.fv rp e).2 rfl)).trans x1
      have a0 := (hSw.cell (p := ⟨qh, 0, none⟩) hql9 (fun e => hqF (HX.out.fv qh e).1)).trans h0
      have a1 := (hSw.cell (p := ⟨qh, 1, none⟩) hql9 (fun e => hqF (HX.out.fv qh e).1)).trans h1
      have a2 := (hSw.cell (p := ⟨qh, 2, none⟩) hql9 (fun e => hqF (HX.out.fv qh e).1)).trans h2
      have a3 := (hSw.cell (p := ⟨qh, 3, none⟩) hql9 (fun e => hqF (HX.out.fv qh e).1)).trans h3
      have a4 := (hSw.cell (p := ⟨qh, 4, none⟩) hql9 (fun e => hqF (HX.out.fv qh e).1)).trans h4
      have a5 := (hSw.cell (p := ⟨qh, 5, none⟩) hql9 (fun e => hqF (HX.out.fv qh e).1)).trans h5
      have a6 := (hSw.cell (p := ⟨qh, 6, none⟩) hql9 (fun e => hqF (HX.out.fv qh e).1)).trans h6
      have a7 := (hSw.cell (p := ⟨qh, 7, none⟩) hql9 (fun e => hqF (HX.out.fv qh e).1)).trans h7
      try simp only [List.getElem_toArray, List.getElem_cons_zero, List.getElem_cons_succ]
      go_simp
      exact rfl
    try simp only [Act.put, List.setIfInBounds_toArray, List.set_cons_zero, List.set_cons_succ, List.getElem_toArray, List.getElem_cons_zero, List.getElem_cons_succ]
    refine mix.D_op (k := 6) rfl rfl (by kernel_rfl) (fun K' hK => ?_)
    simp only [List.getElem_toArray, List.getElem_cons_zero, List.getElem_cons_succ]
    go_wp2_with fail
    have hs10 : Keep (fun b => (Value.slice A9 l9.length c9).ownBlock = some b) W9 (Wd.alloc (.cells (⟨⟨rk, rg, ro, rn⟩, yN, pn, fun _ => True⟩ : H).cells.toArray 110)) := hS9.seq ((Below.refl _ _).alloc (Nat.le_refl _) _)
    refine hK.out _ _ (fun _ => hs10) ?_
    clear hK K'
    try simp only [Act.put, List.setIfInBounds_toArray, List.set_cons_zero, List.set_cons_succ]
    refine mix.D_op (k := 7) rfl rfl (by kernel_rfl) (fun K' hK => ?_)
    simp only [List.getElem_toArray, List.getElem_cons_zero, List.getElem_cons_succ]
    have hrow9 := (HX.out.below hS0).row
    refine wp_put1 Try.underlying98 hi0 hz0 hz1 hz2 rfl (by decide) _ _ rfl hrow9 rfl rfl (by intro u hu; simp at hu; rcases hu with rfl | rfl | rfl | rfl | rfl | rfl | rfl | rfl <;> rfl) rfl rfl (by omega) (by unfold maxLen; omega) ?_
    intro v' w10 ho10 hk10 hv10 hz10
    have hs11 : Keep (fun b => (Value.slice A9 l9.length c9).ownBlock = some b) W9 w10 := hS9.trans hk10 fun _ h _ => h
    obtain ⟨A10, c10, rfl, _⟩ := row_rdF ho10
    refine hK.out _ _ (fun _ => hs11) ?_
    clear hK K'
    try simp only [Act.put, List.setIfInBounds_toArray, List.set_cons_zero, List.set_cons_succ]
    refine mix.D_takeT (i := 8) (v := ?_) rfl (by kernel_rfl) (by kernel_rfl) (fun _ _ _ h => h) (Or.inl ⟨by first | rfl | simp [Region.wanted, yielded], ?_⟩) hs11 ?_
    rotate_left
    · intro w' hSw
      have z1 := (hSw.cell (p := ⟨rp, 1, none⟩) hrpl9 (fun e => (HX.out.fv rp e).2 rfl)).trans x1
      have a0 := (hSw.cell (p := ⟨qh, 0, none⟩) hql9 (fun e => hqF (HX.out.fv qh e).1)).trans h0
      have a1 := (hSw.cell (p := ⟨qh, 1, none⟩) hql9 (fun e => hqF (HX.out.fv qh e).1)).trans h1
      have a2 := (hSw.cell (p := ⟨qh, 2, none⟩) hql9 (fun e => hqF (HX.out.fv qh e).1)).trans h2
      have a3 := (hSw.cell (p := ⟨qh, 3, none⟩) hql9 (fun e => hqF (HX.out.fv qh e).1)).trans h3
      have a4 := (hSw.cell (p := ⟨qh, 4, none⟩) hql9 (fun e => hqF (HX.out.fv qh e).1)).trans h4
      have a5 := (hSw.cell (p := ⟨qh, 5, none⟩) hql9 (fun e => hqF (HX.out.fv qh e).1)).trans h5
      have a6 := (hSw.cell (p := ⟨qh, 6, none⟩) hql9 (fun e => hqF (HX.out.fv qh e).1)).trans h6
      have a7 := (hSw.cell (p := ⟨qh, 7, none⟩) hql9 (fun e => hqF (HX.out.fv qh e).1)).trans h7
      try simp only [List.getElem_toArray, List.getElem_cons_zero, List.getElem_cons_succ]
      go_simp
      exact rfl
    try simp only [Act.put, List.setIfInBounds_toArray, List.set_cons_zero, List.set_cons_succ, List.getElem_toArray, List.getElem_cons_zero, List.getElem_cons_succ]
    refine mix.D_takeT (i := 9) (v := ?_) rfl (by kernel_rfl) (by kernel_rfl) (fun _ _ _ h => h) (Or.inl ⟨by first | rfl | simp [Region.wanted, yielded], ?_⟩) hs11 ?_
    rotate_left
    · intro w' hSw
      have z1 := (hSw.cell (p := ⟨rp, 1, none⟩) hrpl9 (fun e => (HX.out.fv rp e).2 rfl)).trans x1
      have a0 := (hSw.cell (p := ⟨qh, 0, none⟩) hql9 (fun e => hqF (HX.out.fv qh e).1)).trans h0
      have a1 := (hSw.cell (p := ⟨qh, 1, none⟩) hql9 (fun e => hqF (HX.out.fv qh e).1)).trans h1
      have a2 := (hSw.cell (p := ⟨qh, 2, none⟩) hql9 (fun e => hqF (HX.out.fv qh e).1)).trans h2
      have a3 := (hSw.cell (p := ⟨qh, 3, none⟩) hql9 (fun e => hqF (HX.out.fv qh e).1)).trans h3
      have a4 := (hSw.cell (p := ⟨qh, 4, none⟩) hql9 (fun e => hqF (HX.out.fv qh e).1)).trans h4
      have a5 := (hSw.cell (p := ⟨qh, 5, none⟩) hql9 (fun e => hqF (HX.out.fv qh e).1)).trans h5
      have a6 := (hSw.cell (p := ⟨qh, 6, none⟩) hql9 (fun e => hqF (HX.out.fv qh e).1)).trans h6
      have a7 := (hSw.cell (p := ⟨qh, 7, none⟩) hql9 (fun e => hqF (HX.out.fv qh e).1)).trans h7
      try simp only [List.getElem_toArray, List.getElem_cons_zero, List.getElem_cons_succ]
      go_simp
      exact rfl
    try simp only [Act.put, List.setIfInBounds_toArray, List.set_cons_zero, List.set_cons_succ, List.getElem_toArray, List.getElem_cons_zero, List.getElem_cons_succ]
    refine mix.D_op (k := 10) rfl rfl (by kernel_rfl) (fun K' hK => ?_)
    simp only [List.getElem_toArray, List.getElem_cons_zero, List.getElem_cons_succ]
    obtain ⟨cp, kp⟩ := Rf.push HX.out (⟨⟨rk, rg, ro, rn⟩, yN, pn, fun _ => True⟩ : H) HNX.out ho10 hs11 (fun b hb => by
      rcases hv10 b hb with e | e
      · exact .inl e
      · exact .inr ⟨by have := hS0.size; omega, e.2⟩) hl9
    have HCP := vers.lay cp
    have HKP := vers.lay kp
    clear cp kp
    have kpp := hs11.blk HX.out.blk (fun e => (HX.out.fv rp e).2 rfl)
    have xp := kpp.cell 1
    have fp := kpp.frozen 1
    have lp := kpp.lt
    simp only [List.getElem?_toArray, List.getElem?_cons_zero, List.getElem?_cons_succ] at xp
    clear kpp
    go_wp2_with fail
    refine hK.out _ _ (fun h => by simp at h) ?_
    clear hK K'
    try simp only [Act.put, List.setIfInBounds_toArray, List.set_cons_zero, List.set_cons_succ]
    refine mix.D_done (by kernel_rfl) ?_ _
    try simp only [Act.put, List.setIfInBounds_toArray, List.set_cons_zero, List.set_cons_succ, List.getElem_toArray, List.getElem_cons_zero, List.getElem_cons_succ]
    generalize hW11 : w10.setCell ⟨rp, 1, none⟩ _ = w11 at *
    clear hW11
    go_wp2_with fail
    go_ret
    refine ⟨0, _, _, _, rfl, ?_, HCP.out, Keep.trans (S := F) KA9.out HKP.out fun b h hl => ?_, fun b hb => ?_⟩
    · rw [HPT.out, List.map_append, HMAP.out, List.map_singleton, ← HPB.out.eq]; rfl
    · rcases HN9.out b h with h | h
      · exact h
      · omega
    · rcases hb.1 with h | h
      · exact HN9.out b h
      · exact .inr (by omega)
  | none =>
    have d1 : oi (none : Option Nat) = (-1 : Int) := rfl
    rw [d1] at hfnd
    have HAT := vers.lay hans
    clear d1 hans kq
    go_upto_region 8 with (go_at_call 115; refine hfnd.mono ?_; rintro e1 w1 ⟨rfl, hb1⟩)
    have H2 := vers.lay (H1.out.below hb1)
    have KB := vers.lay (KA.out.seq hb1)
    have KH1 := vers.lay (HPB.out.blk.below hb1 HPB.out.blk.lt)
    have HN2 := vers.lay (HN1.out.agree (w' := w1) fun b hb => hb1.block b (H1.out.flt b hb.1))
    have sz1 := hb1.size
    clear hfnd x0 x1 x2 x3 hq0l hb1
    obtain ⟨hpW, z0, z1, _, _⟩ := H2.out.head
    obtain ⟨A9, c9, hv1, _, _, _⟩ := H2.out.slice
    subst hv1
    obtain ⟨pn, hpn⟩ : ∃ pn : Nat, pn = 0 := ⟨0, rfl⟩
    have KH2 := vers.lay (show Blk w1 qh 110 #[.int .u64 (rk : Int), .int .i64 rg, .int .i64 ro, .int .i64 rn, .bool yN.lf, .slice yN.A yN.es.length yN.c, .slice yN.Q yN.ks.length yN.m, .int .i64 (pn : Int)] by rw [hpn]; exact KH1.out)
    by_cases hfull : l.length < room
    · have t1 : decide ((room : Int) ≤ (l.length : Int)) = false := decide_eq_false (by omega)
      have HPT := vers.lay (show putP room (l.map H.ph) ⟨rk, rg, ro, rn⟩ (lf, es.map pe, ks) = (0, l.map H.ph ++ [(⟨rk, rg, ro, rn⟩, (lf, es.map pe, ks), pn)]) by unfold putP; rw [HAT.out]; unfold makeP; rw [List.length_map, if_pos hfull, hpn]; rfl)
      clear hpn
      go_quiet (fail)
      go_upto_region 18 with (fail)
      generalize hwq : w1.drewN _ = W9
      have bq : Below w1.heap.size w1 W9 := by rw [← hwq]; exact below_drewN _ _
      clear hwq
      have kh := KH2.out.below bq KH2.out.lt
      have HX := vers.lay (H2.out.below bq)
      have HNX := vers.lay (HN2.out.agree (w' := W9) fun b hb => bq.block b (H2.out.flt b hb.1))
      obtain ⟨l9, hl9e⟩ : ∃ l9, l = l9 := ⟨_, rfl⟩
      have HMAP := vers.lay (show l9.map H.ph = l.map H.ph by rw [← hl9e])
      have hl9 : l9.length + 1 ≤ room := by rw [← hl9e]; omega
      have KA9 := vers.lay (KB.out.seq bq)
      have HN9 := HNEW
      have hs9 : w.heap.size ≤ W9.heap.size := KA9.out.size
      have hqF := hqF1
      clear hqF1 hpW z0 z1 HNEW bq H1 H2 HN1 HN2 HSUB
      generalize F1 = F9 at *
      rw [show l.length = l9.length by rw [hl9e], show (Rf W9 rp F9 room f m (.slice A9 l9.length c9) l) = (Rf W9 rp F9 room f m (.slice A9 l9.length c9) l9) by rw [hl9e]] at HX
      rw [show l.length = l9.length by rw [hl9e]] at HNX
      clear hl9e t1 hfull
      obtain ⟨hrpl9, _, x1, _, _⟩ := HX.out.head
      obtain ⟨h0, h1, h2, h3, h4, h5, h6, h7⟩ : W9.cell? ⟨qh, 0, none⟩ = _ ∧ W9.cell? ⟨qh, 1, none⟩ = _ ∧ W9.cell? ⟨qh, 2, none⟩ = _ ∧ W9.cell? ⟨qh, 3, none⟩ = _ ∧ W9.cell? ⟨qh, 4, none⟩ = _ ∧ W9.cell? ⟨qh, 5, none⟩ = _ ∧ W9.cell? ⟨qh, 6, none⟩ = _ ∧ W9.cell? ⟨qh, 7, none⟩ = _ := ⟨kh.cell 0, kh.cell 1, kh.cell 2, kh.cell 3, kh.cell 4, kh.cell 5, kh.cell 6, kh.cell 7⟩
      simp only [List.getElem?_toArray, List.getElem?_cons_zero, List.getElem?_cons_succ] at h0 h1 h2 h3 h4 h5 h6 h7
      have hql9 := kh.lt
      have hS0 : Below W9.heap.size W9 W9.drew := (Below.refl _ _).drew
      have hS9 : Keep (fun b => (Value.slice A9 l9.length c9).ownBlock = some b) W9 W9.drew := Keep.of_below hS0
      go_upto_region 18 with (fail)
      refine mix.region_D (fun w' => Keep (fun b => (Value.slice A9 l9.length c9).ownBlock = some b) W9 w') (fun j => j == 10) (by kernel_rfl) ?_
      generalize W9.drew = Wd at *
      refine mix.D_takeT (i := 0) (v := ?_) rfl (by kernel_rfl) (by kernel_rfl) (fun _ _ _ h => h) (Or.inl ⟨by first | rfl | simp [Region.wanted, yielded], ?_⟩) hS9 ?_
      rotate_left
      · intro w' hSw
        have z1 := (hSw.cell (p := ⟨rp, 1, none⟩) hrpl9 (fun e => (HX.out.fv rp e).2 rfl)).trans x1
        have a0 := (hSw.cell (p := ⟨qh, 0, none⟩) hql9 (fun e => hqF (HX.out.fv qh e).1)).trans h0
        have a1 := (hSw.cell (p := ⟨qh, 1, none⟩) hql9 (fun e => hqF (HX.out.fv qh e).1)).trans h1
        have a2 := (hSw.cell (p := ⟨qh, 2, none⟩) hql9 (fun e => hqF (HX.out.fv qh e).1)).trans h2
        have a3 := (hSw.cell (p := ⟨qh, 3, none⟩) hql9 (fun e => hqF (HX.out.fv qh e).1)).trans h3
        have a4 := (hSw.cell (p := ⟨qh, 4, none⟩) hql9 (fun e => hqF (HX.out.fv qh e).1)).trans h4
        have a5 := (hSw.cell (p := ⟨qh, 5, none⟩) hql9 (fun e => hqF (HX.out.fv qh e).1)).trans h5
        have a6 := (hSw.cell (p := ⟨qh, 6, none⟩) hql9 (fun e => hqF (HX.out.fv qh e).1)).trans h6
        have a7 := (hSw.cell (p := ⟨qh, 7, none⟩) hql9 (fun e => hqF (HX.out.fv qh e).1)).trans h7
        try simp only [List.getElem_toArray, List.getElem_cons_zero, List.getElem_cons_succ]
        go_simp
        exact rfl
      try simp only [Act.put, List.setIfInBounds_toArray, List.set_cons_zero, List.set_cons_succ, List.getElem_toArray, List.getElem_cons_zero, List.getElem_cons_succ]
      refine mix.D_takeT (i := 1) (v := ?_) rfl (by kernel_rfl) (by kernel_rfl) (fun _ _ _ h => h) (Or.inl ⟨by first | rfl | simp [Region.wanted, yielded], ?_⟩) hS9 ?_
      rotate_left
      · intro w' hSw
        have z1 := (hSw.cell (p := ⟨rp, 1, none⟩) hrpl9 (fun e => (HX.out.fv rp e).2 rfl)).trans x1
        have a0 := (hSw.cell (p := ⟨qh, 0, none⟩) hql9 (fun e => hqF (HX.out.fv qh e).1)).trans h0
        have a1 := (hSw.cell (p := ⟨qh, 1, none⟩) hql9 (fun e => hqF (HX.out.fv qh e).1)).trans h1
        have a2 := (hSw.cell (p := ⟨qh, 2, none⟩) hql9 (fun e => hqF (HX.out.fv qh e).1)).trans h2
        have a3 := (hSw.cell (p := ⟨qh, 3, none⟩) hql9 (fun e => hqF (HX.out.fv qh e).1)).trans h3
        have a4 := (hSw.cell (p := ⟨qh, 4, none⟩) hql9 (fun e => hqF (HX.out.fv qh e).1)).trans h4
        have a5 := (hSw.cell (p := ⟨qh, 5, none⟩) hql9 (fun e => hqF (HX.out.fv qh e).1)).trans h5
        have a6 := (hSw.cell (p := ⟨qh, 6, none⟩) hql9 (fun e => hqF (HX.out.fv qh e).1)).trans h6
        have a7 := (hSw.cell (p := ⟨qh, 7, none⟩) hql9 (fun e => hqF (HX.out.fv qh e).1)).trans h7
        try simp only [List.getElem_toArray, List.getElem_cons_zero, List.getElem_cons_succ]
        go_simp
        exact rfl
      try simp only [Act.put, List.setIfInBounds_toArray, List.set_cons_zero, List.set_cons_succ, List.getElem_toArray, List.getElem_cons_zero, List.getElem_cons_succ]
      refine mix.D_takeT (i := 2) (v := ?_) rfl (by kernel_rfl) (by kernel_rfl) (fun _ _ _ h => h) (Or.inl ⟨by first | rfl | simp [Region.wanted, yielded], ?_⟩) hS9 ?_
      rotate_left
      · intro w' hSw
        have z1 := (hSw.cell (p := ⟨rp, 1, none⟩) hrpl9 (fun e => (HX.out.fv rp e).2 rfl)).trans x1
        have a0 := (hSw.cell (p := ⟨qh, 0, none⟩) hql9 (fun e => hqF (HX.out.fv qh e).1)).trans h0
        have a1 := (hSw.cell (p := ⟨qh, 1, none⟩) hql9 (fun e => hqF (HX.out.fv qh e).1)).trans h1
        have a2 := (hSw.cell (p := ⟨qh, 2, none⟩) hql9 (fun e => hqF (HX.out.fv qh e).1)).trans h2
        have a3 := (hSw.cell (p := ⟨qh, 3, none⟩) hql9 (fun e => hqF (HX.out.fv qh e).1)).trans h3
        have a4 := (hSw.cell (p := ⟨qh, 4, none⟩) hql9 (fun e => hqF (HX.out.fv qh e).1)).trans h4
        have a5 := (hSw.cell (p := ⟨qh, 5, none⟩) hql9 (fun e => hqF (HX.out.fv qh e).1)).trans h5
        have a6 := (hSw.cell (p := ⟨qh, 6, none⟩) hql9 (fun e => hqF (HX.out.fv qh e).1)).trans h6
        have a7 := (hSw.cell (p := ⟨qh, 7, none⟩) hql9 (fun e => hqF (HX.out.fv qh e).1)).trans h7
        try simp only [List.getElem_toArray, List.getElem_cons_zero, List.getElem_cons_succ]
        go_simp
        exact rfl
      try simp only [Act.put, List.setIfInBounds_toArray, List.set_cons_zero, List.set_cons_succ, List.getElem_toArray, List.getElem_cons_zero, List.getElem_cons_succ]
      refine mix.D_takeT (i := 3) (v := ?_) rfl (by kernel_rfl) (by kernel_rfl) (fun _ _ _ h => h) (Or.inl ⟨by first | rfl | simp [Region.wanted, yielded], ?_⟩) hS9 ?_
      rotate_left
      · intro w' hSw
        have z1 := (hSw.cell (p := ⟨rp, 1, none⟩) hrpl9 (fun e => (HX.out.fv rp e).2 rfl)).trans x1
        have a0 := (hSw.cell (p := ⟨qh, 0, none⟩) hql9 (fun e => hqF (HX.out.fv qh e).1)).trans h0
        have a1 := (hSw.cell (p := ⟨qh, 1, none⟩) hql9 (fun e => hqF (HX.out.fv qh e).1)).trans h1
        have a2 := (hSw.cell (p := ⟨qh, 2, none⟩) hql9 (fun e => hqF (HX.out.fv qh e).1)).trans h2
        have a3 := (hSw.cell (p := ⟨qh, 3, none⟩) hql9 (fun e => hqF (HX.out.fv qh e).1)).trans h3
        have a4 := (hSw.cell (p := ⟨qh, 4, none⟩) hql9 (fun e => hqF (HX.out.fv qh e).1)).trans h4
        have a5 := (hSw.cell (p := ⟨qh, 5, none⟩) hql9 (fun e => hqF (HX.out.fv qh e).1)).trans h5
        have a6 := (hSw.cell (p := ⟨qh, 6, none⟩) hql9 (fun e => hqF (HX.out.fv qh e).1)).trans h6
        have a7 := (hSw.cell (p := ⟨qh, 7, none⟩) hql9 (fun e => hqF (HX.out.fv qh e).1)).trans h7
        try simp only [List.getElem_toArray, List.getElem_cons_zero, List.getElem_cons_succ]
        go_simp
        exact rfl
      try simp only [Act.put, List.setIfInBounds_toArray, List.set_cons_zero, List.set_cons_succ, List.getElem_toArray, List.getElem_cons_zero, List.getElem_cons_succ]
      refine mix.D_takeT (i := 4) (v := ?_) rfl (by kernel_rfl) (by kernel_rfl) (fun _ _ _ h => h) (Or.inl ⟨by first | rfl | simp [Region.wanted, yielded], ?_⟩) hS9 ?_
      rotate_left
      · intro w' hSw
        have z1 := (hSw.cell (p := ⟨rp, 1, none⟩) hrpl9 (fun e => (HX.out.fv rp e).2 rfl)).trans x1
        have a0 := (hSw.cell (p := ⟨qh, 0, none⟩) hql9 (fun e => hqF (HX.out.fv qh e).1)).trans h0
        have a1 := (hSw.cell (p := ⟨qh, 1, none⟩) hql9 (fun e => hqF (HX.out.fv qh e).1)).trans h1
        have a2 := (hSw.cell (p := ⟨qh, 2, none⟩) hql9 (fun e => hqF (HX.out.fv qh e).1)).trans h2
        have a3 := (hSw.cell (p := ⟨qh, 3, none⟩) hql9 (fun e => hqF (HX.out.fv qh e).1)).trans h3
        have a4 := (hSw.cell (p := ⟨qh, 4, none⟩) hql9 (fun e => hqF (HX.out.fv qh e).1)).trans h4
        have a5 := (hSw.cell (p := ⟨qh, 5, none⟩) hql9 (fun e => hqF (HX.out.fv qh e).1)).trans h5
        have a6 := (hSw.cell (p := ⟨qh, 6, none⟩) hql9 (fun e => hqF (HX.out.fv qh e).1)).trans h6
        have a7 := (hSw.cell (p := ⟨qh, 7, none⟩) hql9 (fun e => hqF (HX.out.fv qh e).1)).trans h7
        try simp only [List.getElem_toArray, List.getElem_cons_zero, List.getElem_cons_succ]
        go_simp
        exact rfl
      try simp only [Act.put, List.setIfInBounds_toArray, List.set_cons_zero, List.set_cons_succ, List.getElem_toArray, List.getElem_cons_zero, List.getElem_cons_succ]
      refine mix.D_takeT (i := 5) (v := ?_) rfl (by kernel_rfl) (by kernel_rfl) (fun _ _ _ h => h) (Or.inl ⟨by first | rfl | simp [Region.wanted, yielded], ?_⟩) hS9 ?_
      rotate_left
      · intro w' hSw
        have z1 := (hSw.cell (p := ⟨rp, 1, none⟩) hrpl9 (fun e => (HX.out.fv rp e).2 rfl)).trans x1
        have a0 := (hSw.cell (p := ⟨qh, 0, none⟩) hql9 (fun e => hqF (HX.out.fv qh e).1)).trans h0
        have a1 := (hSw.cell (p := ⟨qh, 1, none⟩) hql9 (fun e => hqF (HX.out.fv qh e).1)).trans h1
        have a2 := (hSw.cell (p := ⟨qh, 2, none⟩) hql9 (fun e => hqF (HX.out.fv qh e).1)).trans h2
        have a3 := (hSw.cell (p := ⟨qh, 3, none⟩) hql9 (fun e => hqF (HX.out.fv qh e).1)).trans h3
        have a4 := (hSw.cell (p := ⟨qh, 4, none⟩) hql9 (fun e => hqF (HX.out.fv qh e).1)).trans h4
        have a5 := (hSw.cell (p := ⟨qh, 5, none⟩) hql9 (fun e => hqF (HX.out.fv qh e).1)).trans h5
        have a6 := (hSw.cell (p := ⟨qh, 6, none⟩) hql9 (fun e => hqF (HX.out.fv qh e).1)).trans h6
        have a7 := (hSw.cell (p := ⟨qh, 7, none⟩) hql9 (fun e => hqF (HX.out.fv qh e).1)).trans h7
        try simp only [List.getElem_toArray, List.getElem_cons_zero, List.getElem_cons_succ]
        go_simp
        exact rfl
      try simp only [Act.put, List.setIfInBounds_toArray, List.set_cons_zero, List.set_cons_succ, List.getElem_toArray, List.getElem_cons_zero, List.getElem_cons_succ]
      refine mix.D_op (k := 6) rfl rfl (by kernel_rfl) (fun K' hK => ?_)
      simp only [List.getElem_toArray, List.getElem_cons_zero, List.getElem_cons_succ]
      go_wp2_with fail
      have hs10 : Keep (fun b => (Value.slice A9 l9.length c9).ownBlock = some b) W9 (Wd.alloc (.cells (⟨⟨rk, rg, ro, rn⟩, yN, pn, fun _ => True⟩ : H).cells.toArray 110)) := hS9.seq ((Below.refl _ _).alloc (Nat.le_refl _) _)
      refine hK.out _ _ (fun _ => hs10) ?_
      clear hK K'
      try simp only [Act.put, List.setIfInBounds_toArray, List.set_cons_zero, List.set_cons_succ]
      refine mix.D_op (k := 7) rfl rfl (by kernel_rfl) (fun K' hK => ?_)
      simp only [List.getElem_toArray, List.getElem_cons_zero, List.getElem_cons_succ]
      have hrow9 := (HX.out.below hS0).row
      refine wp_put1 Try.underlying98 hi0 hz0 hz1 hz2 rfl (by decide) _ _ rfl hrow9 rfl rfl (by intro u hu; simp at hu; rcases hu with rfl | rfl | rfl | rfl | rfl | rfl | rfl | rfl <;> rfl) rfl rfl (by omega) (by unfold maxLen; omega) ?_
      intro v' w10 ho10 hk10 hv10 hz10
      have hs11 : Keep (fun b => (Value.slice A9 l9.length c9).ownBlock = some b) W9 w10 := hS9.trans hk10 fun _ h _ => h
      obtain ⟨A10, c10, rfl, _⟩ := row_rdF ho10
      refine hK.out _ _ (fun _ => hs11) ?_
      clear hK K'
      try simp only [Act.put, List.setIfInBounds_toArray, List.set_cons_zero, List.set_cons_succ]
      refine mix.D_takeT (i := 8) (v := ?_) rfl (by kernel_rfl) (by kernel_rfl) (fun _ _ _ h => h) (Or.inl ⟨by first | rfl | simp [Region.wanted, yielded], ?_⟩) hs11 ?_
      rotate_left
      · intro w' hSw
        have z1 := (hSw.cell (p := ⟨rp, 1, none⟩) hrpl9 (fun e => (HX.out.fv rp e).2 rfl)).trans x1
        have a0 := (hSw.cell (p := ⟨qh, 0, none⟩) hql9 (fun e => hqF (HX.out.fv qh e).1)).trans h0
        have a1 := (hSw.cell (p := ⟨qh, 1, none⟩) hql9 (fun e => hqF (HX.out.fv qh e).1)).trans h1
        have a2 := (hSw.cell (p := ⟨qh, 2, none⟩) hql9 (fun e => hqF (HX.out.fv qh e).1)).trans h2
        have a3 := (hSw.cell (p := ⟨qh, 3, none⟩) hql9 (fun e => hqF (HX.out.fv qh e).1)).trans h3
        have a4 := (hSw.cell (p := ⟨qh, 4, none⟩) hql9 (fun e => hqF (HX.out.fv qh e).1)).trans h4
        have a5 := (hSw.cell (p := ⟨qh, 5, none⟩) hql9 (fun e => hqF (HX.out.fv qh e).1)).trans h5
        have a6 := (hSw.cell (p := ⟨qh, 6, none⟩) hql9 (fun e => hqF (HX.out.fv qh e).1)).trans h6
        have a7 := (hSw.cell (p := ⟨qh, 7, none⟩) hql9 (fun e => hqF (HX.out.fv qh e).1)).trans h7
        try simp only [List.getElem_toArray, List.getElem_cons_zero, List.getElem_cons_succ]
        go_simp
        exact rfl
      try simp only [Act.put, List.setIfInBounds_toArray, List.set_cons_zero, List.set_cons_succ, List.getElem_toArray, List.getElem_cons_zero, List.getElem_cons_succ]
      refine mix.D_takeT (i := 9) (v := ?_) rfl (by kernel_rfl) (by kernel_rfl) (fun _ _ _ h => h) (Or.inl ⟨by first | rfl | simp [Region.wanted, yielded], ?_⟩) hs11 ?_
      rotate_left
      · intro w' hSw
        have z1 := (hSw.cell (p := ⟨rp, 1, none⟩) hrpl9 (fun e => (HX.out.fv rp e).2 rfl)).trans x1
        have a0 := (hSw.cell (p := ⟨qh, 0, none⟩) hql9 (fun e => hqF (HX.out.fv qh e).1)).trans h0
        have a1 := (hSw.cell (p := ⟨qh, 1, none⟩) hql9 (fun e => hqF (HX.out.fv qh e).1)).trans h1
        have a2 := (hSw.cell (p := ⟨qh, 2, none⟩) hql9 (fun e => hqF (HX.out.fv qh e).1)).trans h2
        have a3 := (hSw.cell (p := ⟨qh, 3, none⟩) hql9 (fun e => hqF (HX.out.fv qh e).1)).trans h3
        have a4 := (hSw.cell (p := ⟨qh, 4, none⟩) hql9 (fun e => hqF (HX.out.fv qh e).1)).trans h4
        have a5 := (hSw.cell (p := ⟨qh, 5, none⟩) hql9 (fun e => hqF (HX.out.fv qh e).1)).trans h5
        have a6 := (hSw.cell (p := ⟨qh, 6, none⟩) hql9 (fun e => hqF (HX.out.fv qh e).1)).trans h6
        have a7 := (hSw.cell (p := ⟨qh, 7, none⟩) hql9 (fun e => hqF (HX.out.fv qh e).1)).trans h7
        try simp only [List.getElem_toArray, List.getElem_cons_zero, List.getElem_cons_succ]
        go_simp
        exact rfl
      try simp only [Act.put, List.setIfInBounds_toArray, List.set_cons_zero, List.set_cons_succ, List.getElem_toArray, List.getElem_cons_zero, List.getElem_cons_succ]
      refine mix.D_op (k := 10) rfl rfl (by kernel_rfl) (fun K' hK => ?_)
      simp only [List.getElem_toArray, List.getElem_cons_zero, List.getElem_cons_succ]
      obtain ⟨cp, kp⟩ := Rf.push HX.out (⟨⟨rk, rg, ro, rn⟩, yN, pn, fun _ => True⟩ : H) HNX.out ho10 hs11 (fun b hb => by
        rcases hv10 b hb with e | e
        · exact .inl e
        · exact .inr ⟨by have := hS0.size; omega, e.2⟩) hl9
      have HCP := vers.lay cp
      have HKP := vers.lay kp
      clear cp kp
      have kpp := hs11.blk HX.out.blk (fun e => (HX.out.fv rp e).2 rfl)
      have xp := kpp.cell 1
      have fp := kpp.frozen 1
      have lp := kpp.lt
      simp only [List.getElem?_toArray, List.getElem?_cons_zero, List.getElem?_cons_succ] at xp
      clear kpp
      go_wp2_with fail
      refine hK.out _ _ (fun h => by simp at h) ?_
      clear hK K'
      try simp only [Act.put, List.setIfInBounds_toArray, List.set_cons_zero, List.set_cons_succ]
      refine mix.D_done (by kernel_rfl) ?_ _
      try simp only [Act.put, List.setIfInBounds_toArray, List.set_cons_zero, List.set_cons_succ, List.getElem_toArray, List.getElem_cons_zero, List.getElem_cons_succ]
      generalize hW11 : w10.setCell ⟨rp, 1, none⟩ _ = w11 at *
      clear hW11
      go_wp2_with fail
      go_ret
      refine ⟨0, _, _, _, rfl, ?_, HCP.out, Keep.trans (S := F) KA9.out HKP.out fun b h hl => ?_, fun b hb => ?_⟩
      · rw [HPT.out, List.map_append, HMAP.out, List.map_singleton, ← HPB.out.eq]; rfl
      · rcases HN9.out b h with h | h
        · exact h
        · omega
      · rcases hb.1 with h | h
        · exact HN9.out b h
        · exact .inr (by omega)
    · have t1 : decide ((room : Int) ≤ (l.length : Int)) = true := decide_eq_true (by omega)
      have hpos : 0 ≤ l.length := Nat.zero_le _
      go_quiet (fail)
      go_upto_region 9 with (fail)
      generalize hwq : w1.drewN _ = w2
      have bq : Below w1.heap.size w1 w2 := by rw [← hwq]; exact below_drewN _ _
      clear hwq
      have H3 := vers.lay (H2.out.below bq)
      have HN3 := vers.lay (HN2.out.agree (w' := w2) fun b hb => bq.block b (H2.out.flt b hb.1))
      have K3 := vers.lay (KB.out.seq bq)
      have KH3 := vers.lay (KH2.out.below bq KH2.out.lt)
      have sz2 := bq.size
      clear hpW z0 z1 KH2 KH1 H2 HN2 KB H1 HN1 bq
      obtain ⟨hpW, z0, z1, _, _⟩ := H3.out.head
      have el : IntKind.i64.wrap ((l.length : Int) - 1) = (l.length : Int) - 1 := IntWalk.i64_in _ (by omega)
      go_wp2_with fail
      clear hpW z0 z1 el
      go_loopw [9, 10] (fun ff kk wr => ∃ (j : Nat) (z : Option Nat), kk = .int .i64 ((j : Int) - 1) ∧ ff = .int .i64 (oi z) ∧ j ≤ l.length ∧ Hid (FrI l j z) ∧ wr = w2) (fun _ kk _ => (RowKit.intOf kk + 1).toNat)
      case atStart => exact ⟨l.length, none, rfl, rfl, Nat.le_refl _, vers.lay (fun i hi h => by omega), rfl⟩
      case round =>
        obtain ⟨j, z, rfl, rfl, hj, HZ, rfl⟩ := hrel
        obtain ⟨hpW, z0, z1, _, _⟩ := H3.out.head
        rcases j with _ | j
        · rw [show (((0 : Nat) : Int) - 1) = (-1 : Int) from rfl]
          have hfr := HZ.out.done
          cases z with
          | none =>
            have HPT := vers.lay (show putP room (l.map H.ph) ⟨rk, rg, ro, rn⟩ (lf, es.map pe, ks) = (150, l.map H.ph) by unfold putP; rw [HAT.out]; unfold makeP; rw [List.length_map, if_neg hfull, hfr]; rfl)
            have d1 : oi (none : Option Nat) = (-1 : Int) := rfl
            rw [d1]
            clear d1 hfr hfull t1
            go_wp2_with fail
            go_ret
            exact ⟨150, _, l, _, rfl, HPT.out.symm, H3.out, K3.out, HNEW.out⟩
          | some i =>
            have HPT := vers.lay (show putP room (l.map H.ph) ⟨rk, rg, ro, rn⟩ (lf, es.map pe, ks) = (0, outL (l.map H.ph) i ++ [(⟨rk, rg, ro, rn⟩, (lf, es.map pe, ks), pn)]) by unfold putP; rw [HAT.out]; unfold makeP; rw [List.length_map, if_neg hfull, hfr, hpn]; rfl)
            have HI := vers.lay (show i < l.length by obtain ⟨hi, _⟩ := HZ.out; exact hi)
            have d1 : oi (some i) = (i : Int) := rfl
            rw [d1]
            have i1 : decide ((i : Int) < 0) = false := decide_eq_false (by omega)
            have KH2 := KH3
            clear d1 hfr hfull t1 hpW z0 z1 KH3 hpn
            go_upto_region 17 with (fail)
            have hou := outR_ok H3.out HI.out
            have HOL := vers.lay (outL_len l HI.out)
            have HMAP := vers.lay (outL_map H.ph l i)
            go_upto_region 18 with (go_at_call 116; refine hou.mono ?_; rintro e4 W9 ⟨v9, F9, rfl, hX9, hk9, hf9, hg9⟩)
            have hrq : rp ≠ qh := fun e => by omega
            have kh := hk9.blk KH2.out (fun e => hrq e.symm)
            have s9 := hk9.size
            have hqF : ¬ F9 qh := fun hq => by
              rcases hf9 qh hq with h | h
              · exact hqF1 h
              · have := KH2.out.lt; omega
            have KO := vers.lay hk9
            have HF9 := vers.lay hf9
            obtain ⟨A9, c9, hv9, _⟩ := hX9.slice
            have HNX := vers.lay ((HN3.out.agree (w' := W9) fun b hb => hk9.block b (H3.out.flt b hb.1) hb.2.1).mono fun b hb => (show F9 b ∧ b ≠ rp ∧ v9.ownBlock ≠ some b from ⟨(hg9 b hb.1).1, hb.2.1, (hg9 b hb.1).2⟩))
            subst hv9
            obtain ⟨l9, hl9e⟩ : ∃ l9, outL l i = l9 := ⟨_, rfl⟩
            have HX := vers.lay hX9
            rw [hl9e] at HX HNX HMAP HOL
            have hl9 : l9.length + 1 ≤ room := by have := HOL.out; have := HI.out; omega
            have KA9 := vers.lay (Keep.trans (S := F) K3.out KO.out fun b e _ => e ▸ HH.out.fp)
            have HN9 := vers.lay (fun b (hb : F9 b) => show F b ∨ w.heap.size ≤ b by
              rcases HF9.out b hb with h | h
              · exact HNEW.out b h
              · exact .inr (by omega))
            have hs9 : w.heap.size ≤ W9.heap.size := by omega
            clear hX9 hk9 hf9 hg9 hl9e hou
            obtain ⟨hrpl9, _, x1, _, _⟩ := HX.out.head
            obtain ⟨h0, h1, h2, h3, h4, h5, h6, h7⟩ : W9.cell? ⟨qh, 0, none⟩ = _ ∧ W9.cell? ⟨qh, 1, none⟩ = _ ∧ W9.cell? ⟨qh, 2, none⟩ = _ ∧ W9.cell? ⟨qh, 3, none⟩ = _ ∧ W9.cell? ⟨qh, 4, none⟩ = _ ∧ W9.cell? ⟨qh, 5, none⟩ = _ ∧ W9.cell? ⟨qh, 6, none⟩ = _ ∧ W9.cell? ⟨qh, 7, none⟩ = _ := ⟨kh.cell 0, kh.cell 1, kh.cell 2, kh.cell 3, kh.cell 4, kh.cell 5, kh.cell 6, kh.cell 7⟩
            simp only [List.getElem?_toArray, List.getElem?_cons_zero, List.getElem?_cons_succ] at h0 h1 h2 h3 h4 h5 h6 h7
            have hql9 := kh.lt
            have hS0 : Below W9.heap.size W9 W9.drew := (Below.refl _ _).drew
            have hS9 : Keep (fun b => (Value.slice A9 l9.length c9).ownBlock = some b) W9 W9.drew := Keep.of_below hS0
            go_upto_region 18 with (fail)
            refine mix.region_D (fun w' => Keep (fun b => (Value.slice A9 l9.length c9).ownBlock = some b) W9 w') (fun j => j == 10) (by kernel_rfl) ?_
            generalize W9.drew = Wd at *
            refine mix.D_takeT (i := 0) (v := ?_) rfl (by kernel_rfl) (by kernel_rfl) (fun _ _ _ h => h) (Or.inl ⟨by first | rfl | simp [Region.wanted, yielded], ?_⟩) hS9 ?_
            rotate_left
            · intro w' hSw
              have z1 := (hSw.cell (p := ⟨rp, 1, none⟩) hrpl9 (fun e => (HX.out.fv rp e).2 rfl)).trans x1
              have a0 := (hSw.cell (p := ⟨qh, 0, none⟩) hql9 (fun e => hqF (HX.out.fv qh e).1)).trans h0
              have a1 := (hSw.cell (p := ⟨qh, 1, none⟩) hql9 (fun e => hqF (HX.out.fv qh e).1)).trans h1
              have a2 := (hSw.cell (p := ⟨qh, 2, none⟩) hql9 (fun e => hqF (HX.out.fv qh e).1)).trans h2
              have a3 := (hSw.cell (p := ⟨qh, 3, none⟩) hql9 (fun e => hqF (HX.out.fv qh e).1)).trans h3
              have a4 := (hSw.cell (p := ⟨qh, 4, none⟩) hql9 (fun e => hqF (HX.out.fv qh e).1)).trans h4
              have a5 := (hSw.cell (p := ⟨qh, 5, none⟩) hql9 (fun e => hqF (HX.out.fv qh e).1)).trans h5
              have a6 := (hSw.cell (p := ⟨qh, 6, none⟩) hql9 (fun e => hqF (HX.out.fv qh e).1)).trans h6
              have a7 := (hSw.cell (p := ⟨qh, 7, none⟩) hql9 (fun e => hqF (HX.out.fv qh e).1)).trans h7
              try simp only [List.getElem_toArray, List.getElem_cons_zero, List.getElem_cons_succ]
              go_simp
              exact rfl
            try simp only [Act.put, List.setIfInBounds_toArray, List.set_cons_zero, List.set_cons_succ, List.getElem_toArray, List.getElem_cons_zero, List.getElem_cons_succ]
            refine mix.D_takeT (i := 1) (v := ?_) rfl (by kernel_rfl) (by kernel_rfl) (fun _ _ _ h => h) (Or.inl ⟨by first | rfl | simp [Region.wanted, yielded], ?_⟩) hS9 ?_
            rotate_left
            · intro w' hSw
              have z1 := (hSw.cell (p := ⟨rp, 1, none⟩) hrpl9 (fun e => (HX.out.fv rp e).2 rfl)).trans x1
              have a0 := (hSw.cell (p := ⟨qh, 0, none⟩) hql9 (fun e => hqF (HX.out.fv qh e).1)).trans h0
              have a1 := (hSw.cell (p := ⟨qh, 1, none⟩) hql9 (fun e => hqF (HX.out.fv qh e).1)).trans h1
              have a2 := (hSw.cell (p := ⟨qh, 2, none⟩) hql9 (fun e => hqF (HX.out.fv qh e).1)).trans h2
              have a3 := (hSw.cell (p := ⟨qh, 3, none⟩) hql9 (fun e => hqF (HX.out.fv qh e).1)).trans h3
              have a4 := (hSw.cell (p := ⟨qh, 4, none⟩) hql9 (fun e => hqF (HX.out.fv qh e).1)).trans h4
              have a5 := (hSw.cell (p := ⟨qh, 5, none⟩) hql9 (fun e => hqF (HX.out.fv qh e).1)).trans h5
              have a6 := (hSw.cell (p := ⟨qh, 6, none⟩) hql9 (fun e => hqF (HX.out.fv qh e).1)).trans h6
              have a7 := (hSw.cell (p := ⟨qh, 7, none⟩) hql9 (fun e => hqF (HX.out.fv qh e).1)).trans h7
              try simp only [List.getElem_toArray, List.getElem_cons_zero, List.getElem_cons_succ]
              go_simp
              exact rfl
            try simp only [Act.put, List.setIfInBounds_toArray, List.set_cons_zero, List.set_cons_succ, List.getElem_toArray, List.getElem_cons_zero, List.getElem_cons_succ]
            refine mix.D_takeT (i := 2) (v := ?_) rfl (by kernel_rfl) (by kernel_rfl) (fun _ _ _ h => h) (Or.inl ⟨by first | rfl | simp [Region.wanted, yielded], ?_⟩) hS9 ?_
            rotate_left
            · intro w' hSw
              have z1 := (hSw.cell (p := ⟨rp, 1, none⟩) hrpl9 (fun e => (HX.out.fv rp e).2 rfl)).trans x1
              have a0 := (hSw.cell (p := ⟨qh, 0, none⟩) hql9 (fun e => hqF (HX.out.fv qh e).1)).trans h0
              have a1 := (hSw.cell (p := ⟨qh, 1, none⟩) hql9 (fun e => hqF (HX.out.fv qh e).1)).trans h1
              have a2 := (hSw.cell (p := ⟨qh, 2, none⟩) hql9 (fun e => hqF (HX.out.fv qh e).1)).trans h2
              have a3 := (hSw.cell (p := ⟨qh, 3, none⟩) hql9 (fun e => hqF (HX.out.fv qh e).1)).trans h3
              have a4 := (hSw.cell (p := ⟨qh, 4, none⟩) hql9 (fun e => hqF (HX.out.fv qh e).1)).trans h4
              have a5 := (hSw.cell (p := ⟨qh, 5, none⟩) hql9 (fun e => hqF (HX.out.fv qh e).1)).trans h5
              have a6 := (hSw.cell (p := ⟨qh, 6, none⟩) hql9 (fun e => hqF (HX.out.fv qh e).1)).trans h6
              have a7 := (hSw.cell (p := ⟨qh, 7, none⟩) hql9 (fun e => hqF (HX.out.fv qh e).1)).trans h7
              try simp only [List.getElem_toArray, List.getElem_cons_zero, List.getElem_cons_succ]
              go_simp
              exact rfl
            try simp only [Act.put, List.setIfInBounds_toArray, List.set_cons_zero, List.set_cons_succ, List.getElem_toArray, List.getElem_cons_zero, List.getElem_cons_succ]
            refine mix.D_takeT (i := 3) (v := ?_) rfl (by kernel_rfl) (by kernel_rfl) (fun _ _ _ h => h) (Or.inl ⟨by first | rfl | simp [Region.wanted, yielded], ?_⟩) hS9 ?_
            rotate_left
            · intro w' hSw
              have z1 := (hSw.cell (p := ⟨rp, 1, none⟩) hrpl9 (fun e => (HX.out.fv rp e).2 rfl)).trans x1
              have a0 := (hSw.cell (p := ⟨qh, 0, none⟩) hql9 (fun e => hqF (HX.out.fv qh e).1)).trans h0
              have a1 := (hSw.cell (p := ⟨qh, 1, none⟩) hql9 (fun e => hqF (HX.out.fv qh e).1)).trans h1
              have a2 := (hSw.cell (p := ⟨qh, 2, none⟩) hql9 (fun e => hqF (HX.out.fv qh e).1)).trans h2
              have a3 := (hSw.cell (p := ⟨qh, 3, none⟩) hql9 (fun e => hqF (HX.out.fv qh e).1)).trans h3
              have a4 := (hSw.cell (p := ⟨qh, 4, none⟩) hql9 (fun e => hqF (HX.out.fv qh e).1)).trans h4
              have a5 := (hSw.cell (p := ⟨qh, 5, none⟩) hql9 (fun e => hqF (HX.out.fv qh e).1)).trans h5
              have a6 := (hSw.cell (p := ⟨qh, 6, none⟩) hql9 (fun e => hqF (HX.out.fv qh e).1)).trans h6
              have a7 := (hSw.cell (p := ⟨qh, 7, none⟩) hql9 (fun e => hqF (HX.out.fv qh e).1)).trans h7
              try simp only [List.getElem_toArray, List.getElem_cons_zero, List.getElem_cons_succ]
              go_simp
              exact rfl
            try simp only [Act.put, List.setIfInBounds_toArray, List.set_cons_zero, List.set_cons_succ, List.getElem_toArray, List.getElem_cons_zero, List.getElem_cons_succ]
            refine mix.D_takeT (i := 4) (v := ?_) rfl (by kernel_rfl) (by kernel_rfl) (fun _ _ _ h => h) (Or.inl ⟨by first | rfl | simp [Region.wanted, yielded], ?_⟩) hS9 ?_
            rotate_left
            · intro w' hSw
              have z1 := (hSw.cell (p := ⟨rp, 1, none⟩) hrpl9 (fun e => (HX.out.fv rp e).2 rfl)).trans x1
              have a0 := (hSw.cell (p := ⟨qh, 0, none⟩) hql9 (fun e => hqF (HX.out.fv qh e).1)).trans h0
              have a1 := (hSw.cell (p := ⟨qh, 1, none⟩) hql9 (fun e => hqF (HX.out.fv qh e).1)).trans h1
              have a2 := (hSw.cell (p := ⟨qh, 2, none⟩) hql9 (fun e => hqF (HX.out.fv qh e).1)).trans h2
              have a3 := (hSw.cell (p := ⟨qh, 3, none⟩) hql9 (fun e => hqF (HX.out.fv qh e).1)).trans h3
              have a4 := (hSw.cell (p := ⟨qh, 4, none⟩) hql9 (fun e => hqF (HX.out.fv qh e).1)).trans h4
              have a5 := (hSw.cell (p := ⟨qh, 5, none⟩) hql9 (fun e => hqF (HX.out.fv qh e).1)).trans h5
              have a6 := (hSw.cell (p := ⟨qh, 6, none⟩) hql9 (fun e => hqF (HX.out.fv qh e).1)).trans h6
              have a7 := (hSw.cell (p := ⟨qh, 7, none⟩) hql9 (fun e => hqF (HX.out.fv qh e).1)).trans h7
              try simp only [List.getElem_toArray, List.getElem_cons_zero, List.getElem_cons_succ]
              go_simp
              exact rfl
            try simp only [Act.put, List.setIfInBounds_toArray, List.set_cons_zero, List.set_cons_succ, List.getElem_toArray, List.getElem_cons_zero, List.getElem_cons_succ]
            refine mix.D_takeT (i := 5) (v := ?_) rfl (by kernel_rfl) (by kernel_rfl) (fun _ _ _ h => h) (Or.inl ⟨by first | rfl | simp [Region.wanted, yielded], ?_⟩) hS9 ?_
            rotate_left
            · intro w' hSw
              have z1 := (hSw.cell (p := ⟨rp, 1, none⟩) hrpl9 (fun e => (HX.out.fv rp e).2 rfl)).trans x1
              have a0 := (hSw.cell (p := ⟨qh, 0, none⟩) hql9 (fun e => hqF (HX.out.fv qh e).1)).trans h0
              have a1 := (hSw.cell (p := ⟨qh, 1, none⟩) hql9 (fun e => hqF (HX.out.fv qh e).1)).trans h1
              have a2 := (hSw.cell (p := ⟨qh, 2, none⟩) hql9 (fun e => hqF (HX.out.fv qh e).1)).trans h2
              have a3 := (hSw.cell (p := ⟨qh, 3, none⟩) hql9 (fun e => hqF (HX.out.fv qh e).1)).trans h3
              have a4 := (hSw.cell (p := ⟨qh, 4, none⟩) hql9 (fun e => hqF (HX.out.fv qh e).1)).trans h4
              have a5 := (hSw.cell (p := ⟨qh, 5, none⟩) hql9 (fun e => hqF (HX.out.fv qh e).1)).trans h5
              have a6 := (hSw.cell (p := ⟨qh, 6, none⟩) hql9 (fun e => hqF (HX.out.fv qh e).1)).trans h6
              have a7 := (hSw.cell (p := ⟨qh, 7, none⟩) hql9 (fun e => hqF (HX.out.fv qh e).1)).trans h7
              try simp only [List.getElem_toArray, List.getElem_cons_zero, List.getElem_cons_succ]
              go_simp
              exact rfl
            try simp only [Act.put, List.setIfInBounds_toArray, List.set_cons_zero, List.set_cons_succ, List.getElem_toArray, List.getElem_cons_zero, List.getElem_cons_succ]
            refine mix.D_op (k := 6) rfl rfl (by kernel_rfl) (fun K' hK => ?_)
            simp only [List.getElem_toArray, List.getElem_cons_zero, List.getElem_cons_succ]
            go_wp2_with fail
            have hs10 : Keep (fun b => (Value.slice A9 l9.length c9).ownBlock = some b) W9 (Wd.alloc (.cells (⟨⟨rk, rg, ro, rn⟩, yN, pn, fun _ => True⟩ : H).cells.toArray 110)) := hS9.seq ((Below.refl _ _).alloc (Nat.le_refl _) _)
            refine hK.out _ _ (fun _ => hs10) ?_
            clear hK K'
            try simp only [Act.put, List.setIfInBounds_toArray, List.set_cons_zero, List.set_cons_succ]
            refine mix.D_op (k := 7) rfl rfl (by kernel_rfl) (fun K' hK => ?_)
            simp only [List.getElem_toArray, List.getElem_cons_zero, List.getElem_cons_succ]
            have hrow9 := (HX.out.below hS0).row
            refine wp_put1 Try.underlying98 hi0 hz0 hz1 hz2 rfl (by decide) _ _ rfl hrow9 rfl rfl (by intro u hu; simp at hu; rcases hu with rfl | rfl | rfl | rfl | rfl | rfl | rfl | rfl <;> rfl) rfl rfl (by omega) (by unfold maxLen; omega) ?_
            intro v' w10 ho10 hk10 hv10 hz10
            have hs11 : Keep (fun b => (Value.slice A9 l9.length c9).ownBlock = some b) W9 w10 := hS9.trans hk10 fun _ h _ => h
            obtain ⟨A10, c10, rfl, _⟩ := row_rdF ho10
            refine hK.out _ _ (fun _ => hs11) ?_
            clear hK K'
            try simp only [Act.put, List.setIfInBounds_toArray, List.set_cons_zero, List.set_cons_succ]
            refine mix.D_takeT (i := 8) (v := ?_) rfl (by kernel_rfl) (by kernel_rfl) (fun _ _ _ h => h) (Or.inl ⟨by first | rfl | simp [Region.wanted, yielded], ?_⟩) hs11 ?_
            rotate_left
            · intro w' hSw
              have z1 := (hSw.cell (p := ⟨rp, 1, none⟩) hrpl9 (fun e => (HX.out.fv rp e).2 rfl)).trans x1
              have a0 := (hSw.cell (p := ⟨qh, 0, none⟩) hql9 (fun e => hqF (HX.out.fv qh e).1)).trans h0
              have a1 := (hSw.cell (p := ⟨qh, 1, none⟩) hql9 (fun e => hqF (HX.out.fv qh e).1)).trans h1
              have a2 := (hSw.cell (p := ⟨qh, 2, none⟩) hql9 (fun e => hqF (HX.out.fv qh e).1)).trans h2
              have a3 := (hSw.cell (p := ⟨qh, 3, none⟩) hql9 (fun e => hqF (HX.out.fv qh e).1)).trans h3
              have a4 := (hSw.cell (p := ⟨qh, 4, none⟩) hql9 (fun e => hqF (HX.out.fv qh e).1)).trans h4
              have a5 := (hSw.cell (p := ⟨qh, 5, none⟩) hql9 (fun e => hqF (HX.out.fv qh e).1)).trans h5
              have a6 := (hSw.cell (p := ⟨qh, 6, none⟩) hql9 (fun e => hqF (HX.out.fv qh e).1)).trans h6
              have a7 := (hSw.cell (p := ⟨qh, 7, none⟩) hql9 (fun e => hqF (HX.out.fv qh e).1)).trans h7
              try simp only [List.getElem_toArray, List.getElem_cons_zero, List.getElem_cons_succ]
              go_simp
              exact rfl
            try simp only [Act.put, List.setIfInBounds_toArray, List.set_cons_zero, List.set_cons_succ, List.getElem_toArray, List.getElem_cons_zero, List.getElem_cons_succ]
            refine mix.D_takeT (i := 9) (v := ?_) rfl (by kernel_rfl) (by kernel_rfl) (fun _ _ _ h => h) (Or.inl ⟨by first | rfl | simp [Region.wanted, yielded], ?_⟩) hs11 ?_
            rotate_left
            · intro w' hSw
              have z1 := (hSw.cell (p := ⟨rp, 1, none⟩) hrpl9 (fun e => (HX.out.fv rp e).2 rfl)).trans x1
              have a0 := (hSw.cell (p := ⟨qh, 0, none⟩) hql9 (fun e => hqF (HX.out.fv qh e).1)).trans h0
              have a1 := (hSw.cell (p := ⟨qh, 1, none⟩) hql9 (fun e => hqF (HX.out.fv qh e).1)).trans h1
              have a2 := (hSw.cell (p := ⟨qh, 2, none⟩) hql9 (fun e => hqF (HX.out.fv qh e).1)).trans h2
              have a3 := (hSw.cell (p := ⟨qh, 3, none⟩) hql9 (fun e => hqF (HX.out.fv qh e).1)).trans h3
              have a4 := (hSw.cell (p := ⟨qh, 4, none⟩) hql9 (fun e => hqF (HX.out.fv qh e).1)).trans h4
              have a5 := (hSw.cell (p := ⟨qh, 5, none⟩) hql9 (fun e => hqF (HX.out.fv qh e).1)).trans h5
              have a6 := (hSw.cell (p := ⟨qh, 6, none⟩) hql9 (fun e => hqF (HX.out.fv qh e).1)).trans h6
              have a7 := (hSw.cell (p := ⟨qh, 7, none⟩) hql9 (fun e => hqF (HX.out.fv qh e).1)).trans h7
              try simp only [List.getElem_toArray, List.getElem_cons_zero, List.getElem_cons_succ]
              go_simp
              exact rfl
            try simp only [Act.put, List.setIfInBounds_toArray, List.set_cons_zero, List.set_cons_succ, List.getElem_toArray, List.getElem_cons_zero, List.getElem_cons_succ]
            refine mix.D_op (k := 10) rfl rfl (by kernel_rfl) (fun K' hK => ?_)
            simp only [List.getElem_toArray, List.getElem_cons_zero, List.getElem_cons_succ]
            obtain ⟨cp, kp⟩ := Rf.push HX.out (⟨⟨rk, rg, ro, rn⟩, yN, pn, fun _ => True⟩ : H) HNX.out ho10 hs11 (fun b hb => by
              rcases hv10 b hb with e | e
              · exact .inl e
              · exact .inr ⟨by have := hS0.size; omega, e.2⟩) hl9
            have HCP := vers.lay cp
            have HKP := vers.lay kp
            clear cp kp
            have kpp := hs11.blk HX.out.blk (fun e => (HX.out.fv rp e).2 rfl)
            have xp := kpp.cell 1
            have fp := kpp.frozen 1
            have lp := kpp.lt
            simp only [List.getElem?_toArray, List.getElem?_cons_zero, List.getElem?_cons_succ] at xp
            clear kpp
            go_wp2_with fail
            refine hK.out _ _ (fun h => by simp at h) ?_
            clear hK K'
            try simp only [Act.put, List.setIfInBounds_toArray, List.set_cons_zero, List.set_cons_succ]
            refine mix.D_done (by kernel_rfl) ?_ _
            try simp only [Act.put, List.setIfInBounds_toArray, List.set_cons_zero, List.set_cons_succ, List.getElem_toArray, List.getElem_cons_zero, List.getElem_cons_succ]
            generalize hW11 : w10.setCell ⟨rp, 1, none⟩ _ = w11 at *
            clear hW11
            go_wp2_with fail
            go_ret
            refine ⟨0, _, _, _, rfl, ?_, HCP.out, Keep.trans (S := F) KA9.out HKP.out fun b h hl => ?_, fun b hb => ?_⟩
            · rw [HPT.out, List.map_append, HMAP.out, List.map_singleton, ← HPB.out.eq]; rfl
            · rcases HN9.out b h with h | h
              · exact h
              · omega
            · rcases hb.1 with h | h
              · exact HN9.out b h
              · exact .inr (by omega)
        · rw [show (((j + 1 : Nat) : Int) - 1) = (j : Int) by omega]
          obtain ⟨A2, c2, hv2, _, _, hr⟩ := H3.out.slice
          injection hv2 with e1 _ e2
          subst e1 e2
          have hjl : j < l.length := by omega
          obtain ⟨b, off, rfl, _, _, _, _, _, _, _, _, y7⟩ := RdF.h_at hr hjl
          have hbl := World.block_lt_of_cell? _ _ y7
          have ew : IntKind.i64.wrap ((j : Int) - 1) = (j : Int) - 1 := IntWalk.i64_in _ (by omega)
          have g1 : (0 : Int) ≤ (j : Int) := by omega
          have g2 : (j : Int) < (l.length : Int) := by omega
          have g3 : decide ((0 : Int) ≤ (j : Int)) = true := decide_eq_true g1
          have hjle : j ≤ l.length := by omega
          clear hr
          by_cases h0 : (l[j]'hjl).p = 0
          · rw [h0] at y7
            have HZ2 := vers.lay (FrI.yes hjl h0)
            have hz2 : oi (some j) = (j : Int) := rfl
            clear h0 HZ
            go_wp2_with fail
            exact ⟨⟨j, some j, by first | rfl | go_num, by rw [hz2], hjle, HZ2, trivial⟩, by first | (simp [RowKit.intOf]; done) | (simp [RowKit.intOf]; omega) | omega⟩
          · have HZ2 := vers.lay (FrI.no hjl h0 HZ.out)
            obtain ⟨k, hk⟩ : ∃ k, (l[j]'hjl).p = k + 1 := ⟨(l[j]'hjl).p - 1, by omega⟩
            rw [hk] at y7
            have d7 : (((k + 1 : Nat) : Int) == 0) = false := by simp; omega
            have d8 : decide (((k + 1 : Nat) : Int) = 0) = false := decide_eq_false (by omega)
            have d9 : ((k : Int) + 1 == 0) = false := by simp; omega
            have d5 : decide ((k : Int) + 1 = 0) = false := decide_eq_false (by omega)
            clear hk h0 HZ
            go_wp2_with fail
            exact ⟨⟨j, z, by first | rfl | go_num, rfl, hjle, HZ2, trivial⟩, by first | (simp [RowKit.intOf]; done) | (simp [RowKit.intOf]; omega) | omega⟩
end
end Go.Proofs.Ytoenkkbcpafanaa.caches
