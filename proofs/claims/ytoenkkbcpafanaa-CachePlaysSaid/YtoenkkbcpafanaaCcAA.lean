/- The document's cache: Get, Drop, New. -/
import Derived.Test.YtoenkkbcpafanaaCcY
import Derived.Test.YtoenkkbcpafanaaNeQ2


namespace Go.Proofs.Ytoenkkbcpafanaa.caches
set_option linter.unusedVariables false
set_option linter.unusedSimpArgs false
open Go.RowKit Go.Proofs.Ytoenkkbcpafanaa.base Go.Proofs.Ytoenkkbcpafanaa.vers Go.Proofs.Ytoenkkbcpafanaa.nodes Go.Proofs.Ytoenkkbcpafanaa.trees

/-- what the document's Get answers -/
def GPost (w : World) (rp : Nat) (F : Nat → Prop) (room f m : Nat) (l : List H) (ans : Option Nat) (e : Ending) (w' : World) : Prop :=
  match ans with
  | none => e = .returned (.tuple #[.agg #[.bool false, .slice none 0 0, .slice none 0 0], .bool false]) ∧ (∃ v', Rf w' rp F room f (m + 1) v' l) ∧ Keep F w w'
  | some i => ∃ (y : N) (v' : Value) (F' : Nat → Prop), e = .returned (.tuple #[.agg #[.bool y.lf, .slice y.A y.es.length y.c, .slice y.Q y.ks.length y.m], .bool true]) ∧ (∃ hi : i < l.length, y.p = l[i].n.p) ∧ NsF w' (fun b => b < w'.heap.size) y ∧ Rf w' rp F' room (f + 1) m v' (mvL l i) ∧ Keep F w w' ∧ ∀ b, F' b → F b ∨ w.heap.size ≤ b
section
variable {A : Option Addr} {c : Nat} {w w' w9 : World} {rp room f m f' m' : Nat} {F G : Nat → Prop} {v v' : Value} {l l' : List H}
theorem Rf.head' (h : Rf w rp F room f m v l) (hk : Keep (fun b => b = rp) w w') (hb : Blk w' rp 100 #[.int .i64 (room : Int), v, .int .i64 (f' : Int), .int .i64 (m' : Int)]) : Rf w' rp F room f' m' v l :=
  ⟨hb, ownsRow_agree h.row fun b hb => hk.block b (h.flt b (h.fv b hb).1) (h.fv b hb).2, fun b hb => Nat.lt_of_lt_of_le (h.flt b hb) hk.size, h.fp, h.fv, fun x hx => (h.node x hx).agree (hk.agree fun b hb => ⟨h.flt b hb.1, hb.2.1⟩), h.len, h.cap⟩
theorem Rf.hit (h : Rf w rp F room f m v l) : Rf (w.setCell ⟨rp, 2, none⟩ (.int .i64 ((f : Int) + 1))) rp F room (f + 1) m v l := h.head' (keep_p w rp 2 _) (by simpa using h.blk.put 2 (.int .i64 ((f : Int) + 1)))
theorem Rf.miss (h : Rf w rp F room f m v l) : Rf (w.setCell ⟨rp, 3, none⟩ (.int .i64 ((m : Int) + 1))) rp F room f (m + 1) v l := h.head' (keep_p w rp 3 _) (by simpa using h.blk.put 3 (.int .i64 ((m : Int) + 1)))

set_option maxRecDepth 100000 in
set_option maxHeartbeats 16000000 in
theorem getR_ok (h : Rf w rp F room f m v l) (rk : Nat) (rg ro rn : Int) (hf : f < 4611686018427387904) (hm : m < 4611686018427387904) :
    Calls Try.prog 36 #[.pointer (some ⟨rp, 0, none⟩), .agg #[.int .u64 (rk : Int), .int .i64 rg, .int .i64 ro, .int .i64 rn]] w (GPost w rp F room f m l (atR (l.map H.ph) ⟨rk, rg, ro, rn⟩)) := by
  have bA : Below w.heap.size w ((w.alloc (.cells #[.int .u64 (rk : Int), .int .i64 rg, .int .i64 ro, .int .i64 rn] 27)).alloc (.cells #[.bool false, .slice none 0 0, .slice none 0 0] 87)) := ((Below.refl _ _).alloc (Nat.le_refl _) _).alloc (by simp) _
  have k1 := (Blk.new w 27 #[.int .u64 (rk : Int), .int .i64 rg, .int .i64 ro, .int .i64 rn]).alloc (.cells #[.bool false, .slice none 0 0, .slice none 0 0] 87)
  have k2 := Blk.new (w.alloc (.cells #[.int .u64 (rk : Int), .int .i64 rg, .int .i64 ro, .int .i64 rn] 27)) 87 #[.bool false, .slice none 0 0, .slice none 0 0]
  rw [World.size_alloc] at k2
  have HH := vers.lay h
  have hlen := h.len
  have hcap := h.cap
  clear h
  obtain ⟨ans, hans⟩ : ∃ ans, atR (l.map H.ph) ⟨rk, rg, ro, rn⟩ = ans := ⟨_, rfl⟩
  rw [hans]
  have HAT := vers.lay hans
  clear hans
  obtain ⟨i0, hi0, hz0, hz1, hz2⟩ := info_parts infoH
  go_enter Try.func36, Try.ntmps36
  go_upto_region 1 with (fail)
  generalize hWq : (w.alloc (.cells #[.int .u64 (rk : Int), .int .i64 rg, .int .i64 ro, .int .i64 rn] 27)).alloc (.cells #[.bool false, .slice none 0 0, .slice none 0 0] 87) = W at *
  obtain ⟨q1, hq1e⟩ : ∃ q1, w.heap.size = q1 := ⟨_, rfl⟩
  have HQ := vers.lay hq1e
  rw [hq1e] at k1 k2 ⊢
  have hqs : W.heap.size = q1 + 2 := by rw [← hWq, ← hq1e]; simp
  clear hWq hq1e
  have HQS := vers.lay hqs
  clear hqs
  have H0 := vers.lay (HH.out.below bA)
  have hfnd := atR_ok H0.out rk rg ro rn
  rw [HAT.out] at hfnd
  obtain ⟨b0, b1, b2, b3⟩ : W.cell? ⟨q1, 0, none⟩ = _ ∧ W.cell? ⟨q1, 1, none⟩ = _ ∧ W.cell? ⟨q1, 2, none⟩ = _ ∧ W.cell? ⟨q1, 3, none⟩ = _ := ⟨k1.cell 0, k1.cell 1, k1.cell 2, k1.cell 3⟩
  simp only [List.getElem?_toArray, List.getElem?_cons_zero, List.getElem?_cons_succ] at b0 b1 b2 b3
  have hq1l := k1.lt
  have BA := vers.lay bA
  have K2 := vers.lay k2
  clear bA k1 k2
  have hFq : ∀ b, F b → b < q1 := fun b hb => by have := HH.out.flt b hb; have := HQ.out; omega
  have HFQ := vers.lay hFq
  clear hFq
  cases ans with
  | none =>
    have d1 : oi (none : Option Nat) = (-1 : Int) := rfl
    rw [d1] at hfnd
    clear d1
    go_upto_region 3 with (go_at_call 115; refine hfnd.mono ?_; rintro e1 w1 ⟨rfl, hb1⟩)
    have H1 := vers.lay (H0.out.below hb1)
    have BA1 := vers.lay (BA.out.trans (hb1.mono BA.out.size))
    have K21 := vers.lay (K2.out.below hb1 K2.out.lt)
    clear hb1 hfnd b0 b1 b2 b3 hq1l K2
    obtain ⟨hpW, _, _, _, x3⟩ := H1.out.head
    have f3 := H1.out.blk.frozen 3
    have ew : IntKind.i64.wrap ((m : Int) + 1) = (m : Int) + 1 := IntWalk.i64_in _ (by omega)
    have H2 := vers.lay H1.out.miss
    have hne : rp ≠ q1 + 1 := fun e => by have := HFQ.out rp HH.out.fp; omega
    have K22 := (keep_p w1 rp 3 (.int .i64 ((m : Int) + 1))).blk K21.out (fun e => hne e.symm)
    have KK := vers.lay (keep_p w1 rp 3 (.int .i64 ((m : Int) + 1)))
    go_upto_region 4 with (fail)
    generalize w1.setCell ⟨rp, 3, none⟩ (.int .i64 ((m : Int) + 1)) = w2 at *
    have c0 := K22.cell 0
    have c1 := K22.cell 1
    have c2 := K22.cell 2
    simp only [List.getElem?_toArray, List.getElem?_cons_zero, List.getElem?_cons_succ] at c0 c1 c2
    have g0 := K22.frozen 0
    have g1 := K22.frozen 1
    have g2 := K22.frozen 2
    have gl := K22.lt
    have HK22 := vers.lay K22
    clear K22 x3 f3
    go_wp2_with fail
    have kk := three_blk HK22.out (.bool false) (.slice none 0 0) (.slice none 0 0)
    have far := three_heap w2 (q1 + 1) (.bool false) (.slice none 0 0) (.slice none 0 0)
    have fsz := three_size w2 (q1 + 1) (.bool false) (.slice none 0 0) (.slice none 0 0)
    unfold three at kk far fsz
    have z0 := kk.cell 0
    have z1 := kk.cell 1
    have z2 := kk.cell 2
    simp only [List.getElem?_toArray, List.getElem?_cons_zero, List.getElem?_cons_succ] at z0 z1 z2
    have hKf : Keep (fun b => b = q1 + 1) w2 (((w2.setCell ⟨q1 + 1, 0, none⟩ (.bool false)).setCell ⟨q1 + 1, 1, none⟩ (.slice none 0 0)).setCell ⟨q1 + 1, 2, none⟩ (.slice none 0 0)) := ⟨rfl, rfl, rfl, by rw [fsz]; exact Nat.le_refl _, fun k _ hn => far k hn⟩
    refine bodyPost_ret (v := .tuple #[.agg #[.bool false, .slice none 0 0, .slice none 0 0], .bool false]) (by simp [results, Try.results36, go_sem, z0, z1, z2]) rfl ⟨rfl, ⟨v, H2.out.keep hKf (fun b hb e => by have := HFQ.out b hb; omega)⟩, ?_⟩
    exact ((Keep.trans (S := fun b => b = rp) (Keep.of_below BA1.out) KK.out fun _ h _ => h).trans hKf fun b h1 h2 => by have := HQ.out; omega).mono fun b e _ => e ▸ HH.out.fp
  | some i =>
    have d1 : oi (some i) = (i : Int) := rfl
    rw [d1] at hfnd
    clear d1
    have hi : i < l.length := by obtain ⟨h, _⟩ := atR_lt HAT.out; simpa using h
    have i1 : (0 : Int) ≤ (i : Int) := by omega
    have ilt : decide ((i : Int) < 0) = false := decide_eq_false (by omega)
    have i2 : (i : Int) < (l.length : Int) := by omega
    go_upto_region 5 with (go_at_call 115; refine hfnd.mono ?_; rintro e1 w1 ⟨rfl, hb1⟩)
    have H1 := vers.lay (H0.out.below hb1)
    have BA1 := vers.lay (BA.out.trans (hb1.mono BA.out.size))
    have K21 := vers.lay (K2.out.below hb1 K2.out.lt)
    have hs01 := hb1.size
    clear hb1 hfnd b0 b1 b2 b3 hq1l K2
    obtain ⟨hpW, _, _, x2, _⟩ := H1.out.head
    have f2 := H1.out.blk.frozen 2
    have ew : IntKind.i64.wrap ((f : Int) + 1) = (f : Int) + 1 := IntWalk.i64_in _ (by omega)
    have H2 := vers.lay H1.out.hit
    have hne : rp ≠ q1 + 1 := fun e => by have := HFQ.out rp HH.out.fp; omega
    have KK := vers.lay (keep_p w1 rp 2 (.int .i64 ((f : Int) + 1)))
    have K22 := vers.lay (KK.out.blk K21.out (fun e => hne e.symm))
    go_upto_region 6 with (fail)
    generalize w1.setCell ⟨rp, 2, none⟩ (.int .i64 ((f : Int) + 1)) = w2 at *
    have KW := vers.lay (Keep.trans (S := F) (Keep.of_below BA1.out) (KK.out.mono (G := F) fun b e _ => e ▸ H1.out.fp) fun _ h _ => h)
    have SW := vers.lay KK.out.size
    clear x2 f2 KK K21 H1 hpW
    obtain ⟨hpW, _, x1, _, _⟩ := H2.out.head
    obtain ⟨A1, c1, hv1, _, _, hr⟩ := H2.out.slice
    subst hv1
    obtain ⟨b, off, rfl, _, y0, y1, y2, y3, y4, y5, y6, y7⟩ := RdF.h_at hr hi
    have hbl := World.block_lt_of_cell? _ _ y0
    have hNi := H2.out.node _ (List.getElem_mem hi)
    have hout := fun w' vv (hc : Rf w' rp F room (f + 1) m vv l) => outR_ok hc hi
    have HOUT := vers.lay hout
    have HMV := vers.lay (mvL_out l hi)
    have HOL := vers.lay (outL_len l hi)
    have HI := vers.lay hi
    obtain ⟨x9, hx9⟩ : ∃ x9, l[i]'hi = x9 := ⟨_, rfl⟩
    rw [hx9] at y0 y1 y2 y3 y4 y5 y6 y7 hNi
    have HX9 := vers.lay hx9
    clear hx9 hr hout
    obtain ⟨⟨xk, xg, xo, xn⟩, yN, pn, XF⟩ := x9
    simp only at y0 y1 y2 y3 y4 y5 y6 y7 hNi
    have b3 : Below w2.heap.size w2 (w2.alloc (.cells #[.int .u64 (xk : Int), .int .i64 xg, .int .i64 xo, .int .i64 xn, .bool yN.lf, .slice yN.A yN.es.length yN.c, .slice yN.Q yN.ks.length yN.m, .int .i64 (pn : Int)] 110)) := (Below.refl _ _).alloc (Nat.le_refl _) _
    have k3 := Blk.new w2 110 #[.int .u64 (xk : Int), .int .i64 xg, .int .i64 xo, .int .i64 xn, .bool yN.lf, .slice yN.A yN.es.length yN.c, .slice yN.Q yN.ks.length yN.m, .int .i64 (pn : Int)]
    go_upto_region 7 with (fail)
    generalize hW3 : w2.alloc (.cells #[.int .u64 (xk : Int), .int .i64 xg, .int .i64 xo, .int .i64 xn, .bool yN.lf, .slice yN.A yN.es.length yN.c, .slice yN.Q yN.ks.length yN.m, .int .i64 (pn : Int)] 110) = W3 at b3 k3 ⊢
    obtain ⟨qh, hqh⟩ : ∃ qh, w2.heap.size = qh := ⟨_, rfl⟩
    rw [hqh] at k3 ⊢
    have HQH := vers.lay hqh
    have B3 := vers.lay b3
    have K3 := vers.lay k3
    have hou := HOUT.out _ _ (H2.out.below b3)
    have hNx := vers.lay (hNi.agree (w' := W3) fun b hb => b3.block b (H2.out.flt b hb.1))
    clear hNi
    clear hW3 hqh b3 k3 y0 y1 y2 y3 y4 y5 y6 y7 x1
    go_upto_region 8 with (go_at_call 116; refine hou.mono ?_; rintro e4 W9 ⟨v9, F9, rfl, hX9, hk9, hf9, hg9⟩)
    have HX0 := vers.lay hX9
    have hqhF : ¬ F qh := fun hq => by have := H2.out.flt qh hq; have := HQH.out; omega
    have hrq : rp ≠ qh := fun e => hqhF (e ▸ H2.out.fp)
    have kh := hk9.blk K3.out (fun e => hrq e.symm)
    have s9 := hk9.size
    have hqF : ¬ F9 qh := fun hq => by
      rcases hf9 qh hq with h | h
      · exact hqhF h
      · have := K3.out.lt; omega
    have KO := vers.lay hk9
    have HF9 := vers.lay hf9
    have k29 := vers.lay (hk9.blk ((K22.out.below B3.out K22.out.lt)) (fun e => hne e.symm))
    have hq1F : ¬ F9 (q1 + 1) := fun hq => by
      rcases hf9 _ hq with h | h
      · have := HFQ.out _ h; omega
      · have := K22.out.lt; have := B3.out.size; omega
    obtain ⟨A9, c9, hv9, _⟩ := hX9.slice
    have HN9 := vers.lay ((hNx.out.agree (w' := W9) fun b hb => hk9.block b (Nat.lt_of_lt_of_le (H2.out.flt b hb.1) B3.out.size) hb.2.1).mono fun b hb => (show F9 b ∧ b ≠ rp ∧ v9.ownBlock ≠ some b from ⟨(hg9 b hb.1).1, hb.2.1, (hg9 b hb.1).2⟩))
    subst hv9
    obtain ⟨l9, hl9e⟩ : ∃ l9, outL l i = l9 := ⟨_, rfl⟩
    have HX := vers.lay hX9
    rw [hl9e] at HX HN9 HMV HOL HX0
    have HNX := HN9
    have hl9 : l9.length + 1 ≤ room := by have := HOL.out; have := HI.out; omega
    clear hX9 hk9 hf9 hg9 hl9e hou hqhF HX0 HN9
    obtain ⟨hrpl9, _, x1, _, _⟩ := HX.out.head
    obtain ⟨h0, h1, h2, h3, h4, h5, h6, h7⟩ : W9.cell? ⟨qh, 0, none⟩ = _ ∧ W9.cell? ⟨qh, 1, none⟩ = _ ∧ W9.cell? ⟨qh, 2, none⟩ = _ ∧ W9.cell? ⟨qh, 3, none⟩ = _ ∧ W9.cell? ⟨qh, 4, none⟩ = _ ∧ W9.cell? ⟨qh, 5, none⟩ = _ ∧ W9.cell? ⟨qh, 6, none⟩ = _ ∧ W9.cell? ⟨qh, 7, none⟩ = _ := ⟨kh.cell 0, kh.cell 1, kh.cell 2, kh.cell 3, kh.cell 4, kh.cell 5, kh.cell 6, kh.cell 7⟩
    simp only [List.getElem?_toArray, List.getElem?_cons_zero, List.getElem?_cons_succ] at h0 h1 h2 h3 h4 h5 h6 h7
    have hql9 := kh.lt
    have hS0 : Below W9.heap.size W9 W9.drew := (Below.refl _ _).drew
    have hS9 : Keep (fun b => (Value.slice A9 l9.length c9).ownBlock = some b) W9 W9.drew := Keep.of_below hS0
    go_upto_region 8 with (fail)
    refine mix.region_D (fun w' => Keep (fun b => (Value.slice A9 l9.length c9).ownBlock = some b) W9 w') (fun j => j == 10) (by kernel_rfl) ?_
    generalize W9.drew = Wd at *
    refine mix.D_takeT (i := 0) (v := ?_) rfl (by kernel_rfl) (by kernel_rfl) (fun _ _ _ h => h) (Or.inl ⟨by first | rfl | simp [Region.wanted, yielded], ?_⟩) hS9 ?_
    rotate_left
    · intro w' hSw
      have z1 := (hSw.cell (p := ⟨rp, 1, none⟩) hrpl9 (fun e => (HX.out.fv rp e).2 rfl)).trans x1
      have a0 := (hSw.cell (p := ⟨qh, 0, none⟩) hql9 (fun e => hqF (HX.out.fv qh e).1)).trans h0
      have a1 := (hSw.cell (p := ⟨qh, 1, none⟩) hql9 (fun e => hqF (HX.out.fv qh e).1)).trans h1
      have a2 := (hSw.cell (p := ⟨qh, 2, none⟩) hql9 (fun e => hqF (HX.out.fv qh e).1)).trans h2
      have a3 := (hSw.cell (p := ⟨qh, 3, none⟩) hql9 (fun e => hqF (HX.out.fv qh e).1)).trans h3
      have a4 := (hSw.cell (p := ⟨qh, 4, none⟩) hql9 (fun e => hqF (HX.out.fv qh e).1)).trans h4
      have a5 := (hSw.cell (p := ⟨qh, 5, none⟩) hql9 (fun e => hqF (HX.out.fv qh e).1)).trans h5
      have a6 := (hSw.cell (p := ⟨qh, 6, none⟩) hql9 (fun e => hqF (HX.out.fv qh e).1)).trans h6
      have a7 := (hSw.cell (p := ⟨qh, 7, none⟩) hql9 (fun e => hqF (HX.out.fv qh e).1)).trans h7
      try simp only [List.getElem_toArray, List.getElem_cons_zero, List.getElem_cons_succ]
      go_simp
      exact rfl
    try simp only [Act.put, List.setIfInBounds_toArray, List.set_cons_zero, List.set_cons_succ, List.getElem_toArray, List.getElem_cons_zero, List.getElem_cons_succ]
    refine mix.D_takeT (i := 1) (v := ?_) rfl (by kernel_rfl) (by kernel_rfl) (fun _ _ _ h => h) (Or.inl ⟨by first | rfl | simp [Region.wanted, yielded], ?_⟩) hS9 ?_
    rotate_left
    · intro w' hSw
      have z1 := (hSw.cell (p := ⟨rp, 1, none⟩) hrpl9 (fun e => (HX.out.fv rp e).2 rfl)).trans x1
      have a0 := (hSw.cell (p := ⟨qh, 0, none⟩) hql9 (fun e => hqF (HX.out.fv qh e).1)).trans h0
      have a1 := (hSw.cell (p := ⟨qh, 1, none⟩) hql9 (fun e => hqF (HX.out.fv qh e).1)).trans h1
      have a2 := (hSw.cell (p := ⟨qh, 2, none⟩) hql9 (fun e => hqF (HX.out.fv qh e).1)).trans h2
      have a3 := (hSw.cell (p := ⟨qh, 3, none⟩) hql9 (fun e => hqF (HX.out.fv qh e).1)).trans h3
      have a4 := (hSw.cell (p := ⟨qh, 4, none⟩) hql9 (fun e => hqF (HX.out.fv qh e).1)).trans h4
      have a5 := (hSw.cell (p := ⟨qh, 5, none⟩) hql9 (fun e => hqF (HX.out.fv qh e).1)).trans h5
      have a6 := (hSw.cell (p := ⟨qh, 6, none⟩) hql9 (fun e => hqF (HX.out.fv qh e).1)).trans h6
      have a7 := (hSw.cell (p := ⟨qh, 7, none⟩) hql9 (fun e => hqF (HX.out.fv qh e).1)).trans h7
      try simp only [List.getElem_toArray, List.getElem_cons_zero, List.getElem_cons_succ]
      go_simp
      exact rfl
    try simp only [Act.put, List.setIfInBounds_toArray, List.set_cons_zero, List.set_cons_succ, List.getElem_toArray, List.getElem_cons_zero, List.getElem_cons_succ]
    refine mix.D_takeT (i := 2) (v := ?_) rfl (by kernel_rfl) (by kernel_rfl) (fun _ _ _ h => h) (Or.inl ⟨by first | rfl | simp [Region.wanted, yielded], ?_⟩) hS9 ?_
    rotate_left
    · intro w' hSw
      have z1 := (hSw.cell (p := ⟨rp, 1, none⟩) hrpl9 (fun e => (HX.out.fv rp e).2 rfl)).trans x1
      have a0 := (hSw.cell (p := ⟨qh, 0, none⟩) hql9 (fun e => hqF (HX.out.fv qh e).1)).trans h0
      have a1 := (hSw.cell (p := ⟨qh, 1, none⟩) hql9 (fun e => hqF (HX.out.fv qh e).1)).trans h1
      have a2 := (hSw.cell (p := ⟨qh, 2, none⟩) hql9 (fun e => hqF (HX.out.fv qh e).1)).trans h2
      have a3 := (hSw.cell (p := ⟨qh, 3, none⟩) hql9 (fun e => hqF (HX.out.fv qh e).1)).trans h3
      have a4 := (hSw.cell (p := ⟨qh, 4, none⟩) hql9 (fun e => hqF (HX.out.fv qh e).1)).trans h4
      have a5 := (hSw.cell (p := ⟨qh, 5, none⟩) hql9 (fun e => hqF (HX.out.fv qh e).1)).trans h5
      have a6 := (hSw.cell (p := ⟨qh, 6, none⟩) hql9 (fun e => hqF (HX.out.fv qh e).1)).trans h6
      have a7 := (hSw.cell (p := ⟨qh, 7, none⟩) hql9 (fun e => hqF (HX.out.fv qh e).1)).trans h7
      try simp only [List.getElem_toArray, List.getElem_cons_zero, List.getElem_cons_succ]
      go_simp
      exact rfl
    try simp only [Act.put, List.setIfInBounds_toArray, List.set_cons_zero, List.set_cons_succ, List.getElem_toArray, List.getElem_cons_zero, List.getElem_cons_succ]
    refine mix.D_takeT (i := 3) (v := ?_) rfl (by kernel_rfl) (by kernel_rfl) (fun _ _ _ h => h) (Or.inl ⟨by first | rfl | simp [Region.wanted, yielded], ?_⟩) hS9 ?_
    rotate_left
    · intro w' hSw
      have z1 := (hSw.cell (p := ⟨rp, 1, none⟩) hrpl9 (fun e => (HX.out.fv rp e).2 rfl)).trans x1
      have a0 := (hSw.cell (p := ⟨qh, 0, none⟩) hql9 (fun e => hqF (HX.out.fv qh e).1)).trans h0
      have a1 := (hSw.cell (p := ⟨qh, 1, none⟩) hql9 (fun e => hqF (HX.out.fv qh e).1)).trans h1
      have a2 := (hSw.cell (p := ⟨qh, 2, none⟩) hql9 (fun e => hqF (HX.out.fv qh e).1)).trans h2
      have a3 := (hSw.cell (p := ⟨qh, 3, none⟩) hql9 (fun e => hqF (HX.out.fv qh e).1)).trans h3
      have a4 := (hSw.cell (p := ⟨qh, 4, none⟩) hql9 (fun e => hqF (HX.out.fv qh e).1)).trans h4
      have a5 := (hSw.cell (p := ⟨qh, 5, none⟩) hql9 (fun e => hqF (HX.out.fv qh e).1)).trans h5
      have a6 := (hSw.cell (p := ⟨qh, 6, none⟩) hql9 (fun e => hqF (HX.out.fv qh e).1)).trans h6
      have a7 := (hSw.cell (p := ⟨qh, 7, none⟩) hql9 (fun e => hqF (HX.out.fv qh e).1)).trans h7
      try simp only [List.getElem_toArray, List.getElem_cons_zero, List.getElem_cons_succ]
      go_simp
      exact rfl
    try simp only [Act.put, List.setIfInBounds_toArray, List.set_cons_zero, List.set_cons_succ, List.getElem_toArray, List.getElem_cons_zero, List.getElem_cons_succ]
    refine mix.D_takeT (i := 4) (v := ?_) rfl (by kernel_rfl) (by kernel_rfl) (fun _ _ _ h => h) (Or.inl ⟨by first | rfl | simp [Region.wanted, yielded], ?_⟩) hS9 ?_
    rotate_left
    · intro w' hSw
      have z1 := (hSw.cell (p := ⟨rp, 1, none⟩) hrpl9 (fun e => (HX.out.fv rp e).2 rfl)).trans x1
      have a0 := (hSw.cell (p := ⟨qh, 0, none⟩) hql9 (fun e => hqF (HX.out.fv qh e).1)).trans h0
      have a1 := (hSw.cell (p := ⟨qh, 1, none⟩) hql9 (fun e => hqF (HX.out.fv qh e).1)).trans h1
      have a2 := (hSw.cell (p := ⟨qh, 2, none⟩) hql9 (fun e => hqF (HX.out.fv qh e).1)).trans h2
      have a3 := (hSw.cell (p := ⟨qh, 3, none⟩) hql9 (fun e => hqF (HX.out.fv qh e).1)).trans h3
      have a4 := (hSw.cell (p := ⟨qh, 4, none⟩) hql9 (fun e => hqF (HX.out.fv qh e).1)).trans h4
      have a5 := (hSw.cell (p := ⟨qh, 5, none⟩) hql9 (fun e => hqF (HX.out.fv qh e).1)).trans h5
      have a6 := (hSw.cell (p := ⟨qh, 6, none⟩) hql9 (fun e => hqF (HX.out.fv qh e).1)).trans h6
      have a7 := (hSw.cell (p := ⟨qh, 7, none⟩) hql9 (fun e => hqF (HX.out.fv qh e).1)).trans h7
      try simp only [List.getElem_toArray, List.getElem_cons_zero, List.getElem_cons_succ]
      go_simp
      exact rfl
    try simp only [Act.put, List.setIfInBounds_toArray, List.set_cons_zero, List.set_cons_succ, List.getElem_toArray, List.getElem_cons_zero, List.getElem_cons_succ]
    refine mix.D_takeT (i := 5) (v := ?_) rfl (by kernel_rfl) (by kernel_rfl) (fun _ _ _ h => h) (Or.inl ⟨by first | rfl | simp [Region.wanted, yielded], ?_⟩) hS9 ?_
    rotate_left
    · intro w' hSw
      have z1 := (hSw.cell (p := ⟨rp, 1, none⟩) hrpl9 (fun e => (HX.out.fv rp e).2 rfl)).trans x1
      have a0 := (hSw.cell (p := ⟨qh, 0, none⟩) hql9 (fun e => hqF (HX.out.fv qh e).1)).trans h0
      have a1 := (hSw.cell (p := ⟨qh, 1, none⟩) hql9 (fun e => hqF (HX.out.fv qh e).1)).trans h1
      have a2 := (hSw.cell (p := ⟨qh, 2, none⟩) hql9 (fun e => hqF (HX.out.fv qh e).1)).trans h2
      have a3 := (hSw.cell (p := ⟨qh, 3, none⟩) hql9 (fun e => hqF (HX.out.fv qh e).1)).trans h3
      have a4 := (hSw.cell (p := ⟨qh, 4, none⟩) hql9 (fun e => hqF (HX.out.fv qh e).1)).trans h4
      have a5 := (hSw.cell (p := ⟨qh, 5, none⟩) hql9 (fun e => hqF (HX.out.fv qh e).1)).trans h5
      have a6 := (hSw.cell (p := ⟨qh, 6, none⟩) hql9 (fun e => hqF (HX.out.fv qh e).1)).trans h6
      have a7 := (hSw.cell (p := ⟨qh, 7, none⟩) hql9 (fun e => hqF (HX.out.fv qh e).1)).trans h7
      try simp only [List.getElem_toArray, List.getElem_cons_zero, List.getElem_cons_succ]
      go_simp
      exact rfl
    try simp only [Act.put, List.setIfInBounds_toArray, List.set_cons_zero, List.set_cons_succ, List.getElem_toArray, List.getElem_cons_zero, List.getElem_cons_succ]
    refine mix.D_op (k := 6) rfl rfl (by kernel_rfl) (fun K' hK => ?_)
    simp only [List.getElem_toArray, List.getElem_cons_zero, List.getElem_cons_succ]
    go_wp2_with fail
    have hs10 : Keep (fun b => (Value.slice A9 l9.length c9).ownBlock = some b) W9 (Wd.alloc (.cells (⟨⟨xk, xg, xo, xn⟩, yN, pn, XF⟩ : H).cells.toArray 110)) := hS9.seq ((Below.refl _ _).alloc (Nat.le_refl _) _)
    refine hK.out _ _ (fun _ => hs10) ?_
    clear hK K'
    try simp only [Act.put, List.setIfInBounds_toArray, List.set_cons_zero, List.set_cons_succ]
    refine mix.D_op (k := 7) rfl rfl (by kernel_rfl) (fun K' hK => ?_)
    simp only [List.getElem_toArray, List.getElem_cons_zero, List.getElem_cons_succ]
    have hrow9 := (HX.out.below hS0).row
    refine wp_put1 Try.underlying98 hi0 hz0 hz1 hz2 rfl (by decide) _ _ rfl hrow9 rfl rfl (by intro u hu; simp at hu; rcases hu with rfl | rfl | rfl | rfl | rfl | rfl | rfl | rfl <;> rfl) rfl rfl (by omega) (by unfold maxLen; omega) ?_
    intro v' w10 ho10 hk10 hv10 hz10
    have hs11 : Keep (fun b => (Value.slice A9 l9.length c9).ownBlock = some b) W9 w10 := hS9.trans hk10 fun _ h _ => h
    obtain ⟨A10, c10, rfl, _⟩ := row_rdF ho10
    refine hK.out _ _ (fun _ => hs11) ?_
    clear hK K'
    try simp only [Act.put, List.setIfInBounds_toArray, List.set_cons_zero, List.set_cons_succ]
    refine mix.D_takeT (i := 8) (v := ?_) rfl (by kernel_rfl) (by kernel_rfl) (fun _ _ _ h => h) (Or.inl ⟨by first | rfl | simp [Region.wanted, yielded], ?_⟩) hs11 ?_
    rotate_left
    · intro w' hSw
      have z1 := (hSw.cell (p := ⟨rp, 1, none⟩) hrpl9 (fun e => (HX.out.fv rp e).2 rfl)).trans x1
      have a0 := (hSw.cell (p := ⟨qh, 0, none⟩) hql9 (fun e => hqF (HX.out.fv qh e).1)).trans h0
      have a1 := (hSw.cell (p := ⟨qh, 1, none⟩) hql9 (fun e => hqF (HX.out.fv qh e).1)).trans h1
      have a2 := (hSw.cell (p := ⟨qh, 2, none⟩) hql9 (fun e => hqF (HX.out.fv qh e).1)).trans h2
      have a3 := (hSw.cell (p := ⟨qh, 3, none⟩) hql9 (fun e => hqF (HX.out.fv qh e).1)).trans h3
      have a4 := (hSw.cell (p := ⟨qh, 4, none⟩) hql9 (fun e => hqF (HX.out.fv qh e).1)).trans h4
      have a5 := (hSw.cell (p := ⟨qh, 5, none⟩) hql9 (fun e => hqF (HX.out.fv qh e).1)).trans h5
      have a6 := (hSw.cell (p := ⟨qh, 6, none⟩) hql9 (fun e => hqF (HX.out.fv qh e).1)).trans h6
      have a7 := (hSw.cell (p := ⟨qh, 7, none⟩) hql9 (fun e => hqF (HX.out.fv qh e).1)).trans h7
      try simp only [List.getElem_toArray, List.getElem_cons_zero, List.getElem_cons_succ]
      go_simp
      exact rfl
    try simp only [Act.put, List.setIfInBounds_toArray, List.set_cons_zero, List.set_cons_succ, List.getElem_toArray, List.getElem_cons_zero, List.getElem_cons_succ]
    refine mix.D_takeT (i := 9) (v := ?_) rfl (by kernel_rfl) (by kernel_rfl) (fun _ _ _ h => h) (Or.inl ⟨by first | rfl | simp [Region.wanted, yielded], ?_⟩) hs11 ?_
    rotate_left
    · intro w' hSw
      have z1 := (hSw.cell (p := ⟨rp, 1, none⟩) hrpl9 (fun e => (HX.out.fv rp e).2 rfl)).trans x1
      have a0 := (hSw.cell (p := ⟨qh, 0, none⟩) hql9 (fun e => hqF (HX.out.fv qh e).1)).trans h0
      have a1 := (hSw.cell (p := ⟨qh, 1, none⟩) hql9 (fun e => hqF (HX.out.fv qh e).1)).trans h1
      have a2 := (hSw.cell (p := ⟨qh, 2, none⟩) hql9 (fun e => hqF (HX.out.fv qh e).1)).trans h2
      have a3 := (hSw.cell (p := ⟨qh, 3, none⟩) hql9 (fun e => hqF (HX.out.fv qh e).1)).trans h3
      have a4 := (hSw.cell (p := ⟨qh, 4, none⟩) hql9 (fun e => hqF (HX.out.fv qh e).1)).trans h4
      have a5 := (hSw.cell (p := ⟨qh, 5, none⟩) hql9 (fun e => hqF (HX.out.fv qh e).1)).trans h5
      have a6 := (hSw.cell (p := ⟨qh, 6, none⟩) hql9 (fun e => hqF (HX.out.fv qh e).1)).trans h6
      have a7 := (hSw.cell (p := ⟨qh, 7, none⟩) hql9 (fun e => hqF (HX.out.fv qh e).1)).trans h7
      try simp only [List.getElem_toArray, List.getElem_cons_zero, List.getElem_cons_succ]
      go_simp
      exact rfl
    try simp only [Act.put, List.setIfInBounds_toArray, List.set_cons_zero, List.set_cons_succ, List.getElem_toArray, List.getElem_cons_zero, List.getElem_cons_succ]
    refine mix.D_op (k := 10) rfl rfl (by kernel_rfl) (fun K' hK => ?_)
    simp only [List.getElem_toArray, List.getElem_cons_zero, List.getElem_cons_succ]
    obtain ⟨cp, kp⟩ := Rf.push HX.out (⟨⟨xk, xg, xo, xn⟩, yN, pn, XF⟩ : H) HNX.out ho10 hs11 (fun b hb => by
      rcases hv10 b hb with e | e
      · exact .inl e
      · exact .inr ⟨by have := hS0.size; omega, e.2⟩) hl9
    have HCP := vers.lay cp
    have HKP := vers.lay kp
    clear cp kp
    have kpp := hs11.blk HX.out.blk (fun e => (HX.out.fv rp e).2 rfl)
    have xp := kpp.cell 1
    have fp := kpp.frozen 1
    have lp := kpp.lt
    simp only [List.getElem?_toArray, List.getElem?_cons_zero, List.getElem?_cons_succ] at xp
    clear kpp
    go_wp2_with fail
    refine hK.out _ _ (fun h => by simp at h) ?_
    clear hK K'
    try simp only [Act.put, List.setIfInBounds_toArray, List.set_cons_zero, List.set_cons_succ]
    refine mix.D_done (by kernel_rfl) ?_ _
    try simp only [Act.put, List.setIfInBounds_toArray, List.set_cons_zero, List.set_cons_succ, List.getElem_toArray, List.getElem_cons_zero, List.getElem_cons_succ]
    have K9 := vers.lay kh
    generalize hW11 : w10.setCell ⟨rp, 1, none⟩ _ = w11 at *
    have kh11 := HKP.out.blk K9.out hqF
    have k211 := vers.lay (HKP.out.blk k29.out hq1F)
    obtain ⟨n4, n5, n6⟩ : w11.cell? ⟨qh, 4, none⟩ = _ ∧ w11.cell? ⟨qh, 5, none⟩ = _ ∧ w11.cell? ⟨qh, 6, none⟩ = _ := ⟨kh11.cell 4, kh11.cell 5, kh11.cell 6⟩
    simp only [List.getElem?_toArray, List.getElem?_cons_zero, List.getElem?_cons_succ] at n4 n5 n6
    have hqh11 := kh11.lt
    have HN11 := (HCP.out.node _ (List.mem_append.2 (.inr (List.mem_singleton.2 rfl)))).mono (G := fun b => b < w11.heap.size) fun b hb => HCP.out.flt b hb.1
    simp only at HN11
    have hcp := copy6_any yN.lf yN.es yN.ks yN.A yN.c yN.Q yN.m w11 HN11.1.es HN11.2.ks
    clear HN11
    have c0 := K22.out.lt
    have s11 := HKP.out.size
    go_wp2_with (go_at_call 117; refine hcp.mono ?_; rintro e2 w12 ⟨hb12, es1, A1, c1', Q1, m1, rfl, hpe, _, _, hO2⟩; have g0 := (k211.out.below hb12 k211.out.lt).frozen 0; have g1 := (k211.out.below hb12 k211.out.lt).frozen 1; have g2 := (k211.out.below hb12 k211.out.lt).frozen 2; have y0 := (k211.out.below hb12 k211.out.lt).cell 0; have y1 := (k211.out.below hb12 k211.out.lt).cell 1; have y2 := (k211.out.below hb12 k211.out.lt).cell 2; simp only [List.getElem?_toArray, List.getElem?_cons_zero, List.getElem?_cons_succ] at y0 y1 y2; have gl := (k211.out.below hb12 k211.out.lt).lt; have HK6 := vers.lay (k211.out.below hb12 k211.out.lt))
    have s12 := hb12.size
    have kk := three_blk HK6.out (.bool yN.lf) (.slice A1 es1.length c1') (.slice Q1 yN.ks.length m1)
    have far := three_heap w12 (q1 + 1) (.bool yN.lf) (.slice A1 es1.length c1') (.slice Q1 yN.ks.length m1)
    have fsz := three_size w12 (q1 + 1) (.bool yN.lf) (.slice A1 es1.length c1') (.slice Q1 yN.ks.length m1)
    unfold three at kk far fsz
    have z0 := kk.cell 0
    have z1 := kk.cell 1
    have z2 := kk.cell 2
    simp only [List.getElem?_toArray, List.getElem?_cons_zero, List.getElem?_cons_succ] at z0 z1 z2
    have hKf : Keep (fun b => b = q1 + 1) w12 (((w12.setCell ⟨q1 + 1, 0, none⟩ (.bool yN.lf)).setCell ⟨q1 + 1, 1, none⟩ (.slice A1 es1.length c1')).setCell ⟨q1 + 1, 2, none⟩ (.slice Q1 yN.ks.length m1)) := ⟨rfl, rfl, rfl, by rw [fsz]; exact Nat.le_refl _, fun k _ hn => far k hn⟩
    have e1 := HQ.out
    have e2 := HQS.out
    have e3 := SW.out
    have e4 := B3.out.size
    have e5 := k29.out.lt
    have hc9 := HCP.out.below hb12
    have hc10 := hc9.keep hKf (fun b hb e => by
      subst e
      rcases hb.1 with h | h
      · exact hq1F h
      · omega)
    rw [← HX9.out, ← HMV.out] at hc10
    refine bodyPost_ret (v := .tuple #[.agg #[.bool yN.lf, .slice A1 es1.length c1', .slice Q1 yN.ks.length m1], .bool true]) (by simp [results, Try.results36, go_sem, z0, z1, z2]) rfl ⟨⟨yN.lf, es1, yN.ks, A1, c1', Q1, m1⟩, _, _, rfl, ⟨HI.out, ?_⟩, ?_, hc10, ?_, ?_⟩
    · rw [HX9.out]; unfold N.p; rw [hpe]
    · refine (hO2.ns.agree (w' := (((w12.setCell ⟨q1 + 1, 0, none⟩ (.bool yN.lf)).setCell ⟨q1 + 1, 1, none⟩ (.slice A1 es1.length c1')).setCell ⟨q1 + 1, 2, none⟩ (.slice Q1 yN.ks.length m1))) fun b hb => far b (by omega)).mono fun b hb => by rw [fsz]; exact hb.2
    · refine (Keep.trans (S := F) (Keep.trans (S := F) (Keep.trans (S := F) (Keep.trans (S := F) (Keep.trans (S := F) KW.out (Keep.of_below B3.out) fun _ h _ => h) KO.out fun b e _ => e ▸ HH.out.fp) HKP.out fun b h hl => ?_) (Keep.of_below hb12) fun _ h _ => h) hKf fun b h1 h2 => by omega)
      rcases HF9.out b h with h | h
      · exact h
      · omega
    · intro b hb
      rcases hb.1 with h | h
      · rcases HF9.out b h with h | h
        · exact .inl h
        · exact .inr (by omega)
      · exact .inr (by omega)

end
end Go.Proofs.Ytoenkkbcpafanaa.caches
