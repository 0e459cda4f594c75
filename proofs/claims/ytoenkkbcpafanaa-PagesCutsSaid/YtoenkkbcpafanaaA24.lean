/- Cache's Get, Wipe, Kept, Hits, New. -/
import Derived.Test.YtoenkkbcpafanaaA23


namespace Go.Proofs.Ytoenkkbcpafanaa.caches
set_option linter.unusedVariables false
set_option linter.unusedSimpArgs false
open Go.RowKit Go.Proofs.Ytoenkkbcpafanaa.base Go.Proofs.Ytoenkkbcpafanaa.vers Go.Proofs.Ytoenkkbcpafanaa.nodes Go.Proofs.Ytoenkkbcpafanaa.trees

section
variable {w w' w2 : World} {p g room f m f' m' : Nat} {Z : Nat → Prop} {l l' : List H}
theorem Ca.head' (h : Ca w p g Z room f m l) (hk : Keep (fun b => b = p) w w') (hb : Blk w' p 212 #[.slice (some ⟨g, 0, none⟩) l.length room, .int .i64 (room : Int), .int .i64 (f' : Int), .int .i64 (m' : Int)]) : Ca w' p g Z room f' m' l :=
  ⟨hb, ownsRow_agree h.row fun b hb => (by cases hb; exact hk.block g h.head.2.1 h.ne), h.cap, h.ne, fun b hb => Nat.lt_of_lt_of_le (h.zlt b hb) hk.size, h.zp, h.zg, fun x hx => ⟨(h.node x hx).1.agree (hk.agree fun b hb => ⟨h.zlt b ((h.node x hx).2 b hb).1, ((h.node x hx).2 b hb).2.1⟩), (h.node x hx).2⟩, h.apart, h.fits⟩
theorem keep_p (w : World) (q o : Nat) (u : Value) : Keep (fun b => b = q) w (w.setCell ⟨q, o, none⟩ u) := ⟨rfl, rfl, rfl, by simp, fun k _ hn => Below.heap_setCell _ _ _ _ (by simpa using hn)⟩
theorem Ca.hit (h : Ca w p g Z room f m l) : Ca (w.setCell ⟨p, 2, none⟩ (.int .i64 ((f : Int) + 1))) p g Z room (f + 1) m l := h.head' (keep_p w p 2 _) (by simpa using h.blk.put 2 (.int .i64 ((f : Int) + 1)))
theorem Ca.miss (h : Ca w p g Z room f m l) : Ca (w.setCell ⟨p, 3, none⟩ (.int .i64 ((m : Int) + 1))) p g Z room f (m + 1) l := h.head' (keep_p w p 3 _) (by simpa using h.blk.put 3 (.int .i64 ((m : Int) + 1)))

set_option maxRecDepth 100000 in
set_option maxHeartbeats 4000000 in
theorem get_no (h : Ca w p g Z room f m l) (rk : Nat) (rg ro rn : Int) (hat : atR (l.map H.ph) ⟨rk, rg, ro, rn⟩ = none) (hm : m < 4611686018427387904) :
    Calls Try.prog 35 #[.pointer (some ⟨p, 0, none⟩), .agg #[.int .u64 (rk : Int), .int .i64 rg, .int .i64 ro, .int .i64 rn]] w fun e w' => e = .returned (.tuple #[.agg #[.bool false, .slice none 0 0, .slice none 0 0], .bool false]) ∧ Ca w' p g Z room f (m + 1) l ∧ Keep (fun b => b = p) w w' := by
  have bA : Below w.heap.size w ((w.alloc (.cells #[.int .u64 (rk : Int), .int .i64 rg, .int .i64 ro, .int .i64 rn] 27)).alloc (.cells #[.bool false, .slice none 0 0, .slice none 0 0] 87)) := ((Below.refl _ _).alloc (Nat.le_refl _) _).alloc (by simp) _
  have k1 := (Blk.new w 27 #[.int .u64 (rk : Int), .int .i64 rg, .int .i64 ro, .int .i64 rn]).alloc (.cells #[.bool false, .slice none 0 0, .slice none 0 0] 87)
  have k2 := Blk.new (w.alloc (.cells #[.int .u64 (rk : Int), .int .i64 rg, .int .i64 ro, .int .i64 rn] 27)) 87 #[.bool false, .slice none 0 0, .slice none 0 0]
  rw [World.size_alloc] at k2
  have HH := vers.lay h
  clear h
  go_enter Try.func35, Try.ntmps35
  go_upto_region 1 with (fail)
  generalize hWq : (w.alloc (.cells #[.int .u64 (rk : Int), .int .i64 rg, .int .i64 ro, .int .i64 rn] 27)).alloc (.cells #[.bool false, .slice none 0 0, .slice none 0 0] 87) = W at *
  obtain ⟨q1, hq1e⟩ : ∃ q1, w.heap.size = q1 := ⟨_, rfl⟩
  have HQ := vers.lay hq1e
  rw [hq1e] at k1 k2 ⊢
  have hqs : W.heap.size = q1 + 2 := by rw [← hWq, ← hq1e]; simp
  clear hWq hq1e
  have HQS := vers.lay hqs
  clear hqs
  have H0 := vers.lay (HH.out.below bA)
  have hf := find_ok H0.out ⟨rk, rg, ro, rn⟩
  obtain ⟨b0, b1, b2, b3⟩ : W.cell? ⟨q1, 0, none⟩ = _ ∧ W.cell? ⟨q1, 1, none⟩ = _ ∧ W.cell? ⟨q1, 2, none⟩ = _ ∧ W.cell? ⟨q1, 3, none⟩ = _ := ⟨k1.cell 0, k1.cell 1, k1.cell 2, k1.cell 3⟩
  simp only [List.getElem?_toArray, List.getElem?_cons_zero, List.getElem?_cons_succ] at b0 b1 b2 b3
  have hq1l := k1.lt
  rw [hat] at hf
  clear hat
  have BA := vers.lay bA
  have K2 := vers.lay k2
  clear bA k1 k2
  have d1 : oi (none : Option Nat) = (-1 : Int) := rfl
  rw [d1] at hf
  clear d1
  go_upto_region 3 with (go_at_call 112; refine hf.mono ?_; rintro e1 w1 ⟨rfl, hb1⟩)
  have H1 := vers.lay (H0.out.below hb1)
  have BA1 := vers.lay (BA.out.trans (hb1.mono BA.out.size))
  have K21 := vers.lay (K2.out.below hb1 K2.out.lt)
  clear hb1 hf b0 b1 b2 b3 hq1l K2
  obtain ⟨hpW, hgW, _, _, _, x3⟩ := H1.out.head
  obtain ⟨_, _, _, f3⟩ := H1.out.frz
  have ew : IntKind.i64.wrap ((m : Int) + 1) = (m : Int) + 1 := IntWalk.i64_in _ (by omega)
  have H2 := vers.lay H1.out.miss
  have hne : p ≠ q1 + 1 := fun e => by have := HH.out.zlt p HH.out.zp; have := HQ.out; omega
  have K22 := (keep_p w1 p 3 (.int .i64 ((m : Int) + 1))).blk K21.out (fun e => hne e.symm)
  have KK := vers.lay (keep_p w1 p 3 (.int .i64 ((m : Int) + 1)))
  go_upto_region 4 with (fail)
  generalize w1.setCell ⟨p, 3, none⟩ (.int .i64 ((m : Int) + 1)) = w2 at *
  have c0 := K22.cell 0
  have c1 := K22.cell 1
  have c2 := K22.cell 2
  simp only [List.getElem?_toArray, List.getElem?_cons_zero, List.getElem?_cons_succ] at c0 c1 c2
  have g0 := K22.frozen 0
  have g1 := K22.frozen 1
  have g2 := K22.frozen 2
  have gl := K22.lt
  have HK22 := vers.lay K22
  clear K22 x3 f3
  have hzq : ∀ b, Z b → b ≠ q1 + 1 := fun b hb e => by have := HH.out.zlt b hb; have := HQ.out; omega
  have HZQ := vers.lay hzq
  clear hzq
  go_wp2_with fail
  have kk := three_blk HK22.out (.bool false) (.slice none 0 0) (.slice none 0 0)
  have far := three_heap w2 (q1 + 1) (.bool false) (.slice none 0 0) (.slice none 0 0)
  have fsz := three_size w2 (q1 + 1) (.bool false) (.slice none 0 0) (.slice none 0 0)
  unfold three at kk far fsz
  have z0 := kk.cell 0
  have z1 := kk.cell 1
  have z2 := kk.cell 2
  simp only [List.getElem?_toArray, List.getElem?_cons_zero, List.getElem?_cons_succ] at z0 z1 z2
  have hKf : Keep (fun b => b = q1 + 1) w2 (((w2.setCell ⟨q1 + 1, 0, none⟩ (.bool false)).setCell ⟨q1 + 1, 1, none⟩ (.slice none 0 0)).setCell ⟨q1 + 1, 2, none⟩ (.slice none 0 0)) := ⟨rfl, rfl, rfl, by rw [fsz]; exact Nat.le_refl _, fun k _ hn => far k hn⟩
  refine bodyPost_ret (v := .tuple #[.agg #[.bool false, .slice none 0 0, .slice none 0 0], .bool false]) (by simp [results, Try.results35, go_sem, z0, z1, z2]) rfl ⟨rfl, H2.out.keep hKf HZQ.out, ?_⟩
  exact (Keep.trans (S := fun b => b = p) (Keep.of_below BA1.out) KK.out fun _ h _ => h).trans hKf fun b h1 h2 => by have := HQ.out; omega

set_option maxRecDepth 100000 in
set_option maxHeartbeats 4000000 in
theorem get_yes (h : Ca w p g Z room f m l) (rk : Nat) (rg ro rn : Int) (i : Nat) (hat : atR (l.map H.ph) ⟨rk, rg, ro, rn⟩ = some i) (hi : i < l.length) (hm : f < 4611686018427387904) :
    Calls Try.prog 35 #[.pointer (some ⟨p, 0, none⟩), .agg #[.int .u64 (rk : Int), .int .i64 rg, .int .i64 ro, .int .i64 rn]] w fun e w' => ∃ y : N, e = .returned (.tuple #[.agg #[.bool y.lf, .slice y.A y.es.length y.c, .slice y.Q y.ks.length y.m], .bool true]) ∧ y.p = l[i].n.p ∧ OwnNF w' (fun b => w.heap.size ≤ b ∧ b < w'.heap.size) y ∧ Ca w' p g Z room (f + 1) m (mvL l i) ∧ Keep Z w w' := by
  have bA : Below w.heap.size w ((w.alloc (.cells #[.int .u64 (rk : Int), .int .i64 rg, .int .i64 ro, .int .i64 rn] 27)).alloc (.cells #[.bool false, .slice none 0 0, .slice none 0 0] 87)) := ((Below.refl _ _).alloc (Nat.le_refl _) _).alloc (by simp) _
  have k1 := (Blk.new w 27 #[.int .u64 (rk : Int), .int .i64 rg, .int .i64 ro, .int .i64 rn]).alloc (.cells #[.bool false, .slice none 0 0, .slice none 0 0] 87)
  have k2 := Blk.new (w.alloc (.cells #[.int .u64 (rk : Int), .int .i64 rg, .int .i64 ro, .int .i64 rn] 27)) 87 #[.bool false, .slice none 0 0, .slice none 0 0]
  rw [World.size_alloc] at k2
  have HH := vers.lay h
  clear h
  go_enter Try.func35, Try.ntmps35
  go_upto_region 1 with (fail)
  generalize hWq : (w.alloc (.cells #[.int .u64 (rk : Int), .int .i64 rg, .int .i64 ro, .int .i64 rn] 27)).alloc (.cells #[.bool false, .slice none 0 0, .slice none 0 0] 87) = W at *
  obtain ⟨q1, hq1e⟩ : ∃ q1, w.heap.size = q1 := ⟨_, rfl⟩
  have HQ := vers.lay hq1e
  rw [hq1e] at k1 k2 ⊢
  have hqs : W.heap.size = q1 + 2 := by rw [← hWq, ← hq1e]; simp
  clear hWq hq1e
  have HQS := vers.lay hqs
  clear hqs
  have H0 := vers.lay (HH.out.below bA)
  have hf := find_ok H0.out ⟨rk, rg, ro, rn⟩
  obtain ⟨b0, b1, b2, b3⟩ : W.cell? ⟨q1, 0, none⟩ = _ ∧ W.cell? ⟨q1, 1, none⟩ = _ ∧ W.cell? ⟨q1, 2, none⟩ = _ ∧ W.cell? ⟨q1, 3, none⟩ = _ := ⟨k1.cell 0, k1.cell 1, k1.cell 2, k1.cell 3⟩
  simp only [List.getElem?_toArray, List.getElem?_cons_zero, List.getElem?_cons_succ] at b0 b1 b2 b3
  have hq1l := k1.lt
  rw [hat] at hf
  clear hat
  have BA := vers.lay bA
  have K2 := vers.lay k2
  clear bA k1 k2
  have d1 : oi (some i) = (i : Int) := rfl
  rw [d1] at hf
  clear d1
  have i1 : (0 : Int) ≤ (i : Int) := by omega
  have i0 : decide ((i : Int) < 0) = false := decide_eq_false (by omega)
  have i2 : (i : Int) < (l.length : Int) := by omega
  go_upto_region 5 with (go_at_call 112; refine hf.mono ?_; rintro e1 w1 ⟨rfl, hb1⟩)
  have H1 := vers.lay (H0.out.below hb1)
  have BA1 := vers.lay (BA.out.trans (hb1.mono BA.out.size))
  have K21 := vers.lay (K2.out.below hb1 K2.out.lt)
  clear hb1 hf b0 b1 b2 b3 hq1l K2
  obtain ⟨hpW, hgW, x0, _, x2, _⟩ := H1.out.head
  obtain ⟨_, _, f2, _⟩ := H1.out.frz
  have ew : IntKind.i64.wrap ((f : Int) + 1) = (f : Int) + 1 := IntWalk.i64_in _ (by omega)
  have H2 := vers.lay H1.out.hit
  have hne : p ≠ q1 + 1 := fun e => by have := HH.out.zlt p HH.out.zp; have := HQ.out; omega
  have K22 := vers.lay ((keep_p w1 p 2 (.int .i64 ((f : Int) + 1))).blk K21.out (fun e => hne e.symm))
  have KK := vers.lay (keep_p w1 p 2 (.int .i64 ((f : Int) + 1)))
  clear x0
  go_upto_region 6 with (fail)
  generalize w1.setCell ⟨p, 2, none⟩ (.int .i64 ((f : Int) + 1)) = w2 at *
  have KW := vers.lay (Keep.trans (S := Z) (Keep.of_below BA1.out) (KK.out.mono (G := Z) fun b e _ => e ▸ H1.out.zp) fun _ h _ => h)
  have SW := vers.lay KK.out.size
  clear x2 f2 KK K21 H1 hpW hgW
  obtain ⟨hpW, hgW, x0, _, _, _⟩ := H2.out.head
  obtain ⟨_, _, _, _, y4, y5, y6, _⟩ := H2.out.at_ hi
  have hNi := H2.out.node _ (List.getElem_mem hi)
  have hNs := hNi.1.ns.mono (G := fun b => b < w2.heap.size) fun b hb => H2.out.zlt b (hNi.2 b hb).1
  have HM := vers.lay (fun w' (hc : Ca w' p g Z room (f + 1) m l) => putLast_ok hc hi)
  have HI := vers.lay hi
  clear hNi
  obtain ⟨x9, hx9⟩ : ∃ x9, l[i]'hi = x9 := ⟨_, rfl⟩
  rw [hx9] at y4 y5 y6 hNs
  obtain ⟨xr, ⟨lf, es, ks, A, c, Q, q⟩, xp, xF⟩ := x9
  have HYP := vers.lay (show (lf, es.map pe, ks) = (l[i]'hi).n.p from by rw [hx9]; rfl)
  clear hx9
  simp only at y4 y5 y6 hNs
  have hcp := copied_any lf es ks A c Q q w2 hNs.1.es hNs.2.ks
  clear hNs
  go_upto_region 7 with (go_at_call 113; refine hcp.mono ?_; rintro e2 w3 ⟨y9, rfl, hy9p, hy9, hb3⟩)
  have b4 : Below w3.heap.size w3 (w3.alloc (.cells #[.bool y9.lf, .slice y9.A y9.es.length y9.c, .slice y9.Q y9.ks.length y9.m] 87)) := (Below.refl _ _).alloc (Nat.le_refl _) _
  have K4 := vers.lay (Blk.new w3 87 #[.bool y9.lf, .slice y9.A y9.es.length y9.c, .slice y9.Q y9.ks.length y9.m])
  have H4 := vers.lay ((H2.out.below hb3).below b4)
  have HY := vers.lay (And.intro hy9p hy9)
  have B4 := vers.lay (And.intro hb3 b4)
  have hpl := HM.out _ H4.out
  obtain ⟨W4, hW4⟩ : ∃ W4, w3.alloc (.cells #[.bool y9.lf, .slice y9.A y9.es.length y9.c, .slice y9.Q y9.ks.length y9.m] 87) = W4 := ⟨_, rfl⟩
  obtain ⟨q4, hq4⟩ : ∃ q4, w3.heap.size = q4 := ⟨_, rfl⟩
  rw [hW4] at hpl K4 H4 B4 ⊢
  rw [hq4] at K4 ⊢
  have HQ4 := vers.lay hq4
  clear hy9p hy9 hb3 b4 hcp y4 y5 y6 x0 hW4 hq4
  go_upto_region 8 with (go_at_call 114; refine hpl.mono ?_; rintro e3 w5 ⟨rfl, h5, k5⟩)
  have s3 := B4.out.1.size
  have s4 := B4.out.2.size
  have s5 := k5.size
  have sq := K4.out.lt
  have hgq : g < q1 := by have := HH.out.zlt g HH.out.zg; have := HQ.out; omega
  have hq2 := HQS.out
  have hsW := BA1.out.size
  have sW := SW.out
  have sK := K22.out.lt
  have q4e := HQ4.out
  have k7 := k5.blk K4.out (fun e => by omega)
  have k6 := k5.blk ((K22.out.below B4.out.1 K22.out.lt).below B4.out.2 (by omega)) (fun e => by omega)
  have n0 := k7.cell 0
  have n1 := k7.cell 1
  have n2 := k7.cell 2
  have c0 := k6.cell 0
  have c1 := k6.cell 1
  have c2 := k6.cell 2
  simp only [List.getElem?_toArray, List.getElem?_cons_zero, List.getElem?_cons_succ] at n0 n1 n2 c0 c1 c2
  have g0 := k6.frozen 0
  have g1 := k6.frozen 1
  have g2 := k6.frozen 2
  have gl := k6.lt
  have gl4 := k7.lt
  have H5 := vers.lay h5
  have HK6 := vers.lay k6
  have HK5 := vers.lay k5
  clear h5 k6 k7 k5 hpl
  go_wp2_with fail
  have kk := three_blk HK6.out (.bool y9.lf) (.slice y9.A y9.es.length y9.c) (.slice y9.Q y9.ks.length y9.m)
  have far := three_heap w5 (q1 + 1) (.bool y9.lf) (.slice y9.A y9.es.length y9.c) (.slice y9.Q y9.ks.length y9.m)
  have fsz := three_size w5 (q1 + 1) (.bool y9.lf) (.slice y9.A y9.es.length y9.c) (.slice y9.Q y9.ks.length y9.m)
  unfold three at kk far fsz
  have z0 := kk.cell 0
  have z1 := kk.cell 1
  have z2 := kk.cell 2
  simp only [List.getElem?_toArray, List.getElem?_cons_zero, List.getElem?_cons_succ] at z0 z1 z2
  have hKf : Keep (fun b => b = q1 + 1) w5 (((w5.setCell ⟨q1 + 1, 0, none⟩ (.bool y9.lf)).setCell ⟨q1 + 1, 1, none⟩ (.slice y9.A y9.es.length y9.c)).setCell ⟨q1 + 1, 2, none⟩ (.slice y9.Q y9.ks.length y9.m)) := ⟨rfl, rfl, rfl, by rw [fsz]; exact Nat.le_refl _, fun k _ hn => far k hn⟩
  have hZq : ∀ b, Z b → b ≠ q1 + 1 := fun b hb e => by have := HH.out.zlt b hb; have := HQ.out; omega
  have hwq := HQ.out
  refine bodyPost_ret (v := .tuple #[y9.val, .bool true]) (by simp [results, Try.results35, go_sem, z0, z1, z2]) rfl ⟨y9, rfl, ?_, ?_, H5.out.keep hKf hZq, ?_⟩
  · rw [HY.out.1]; exact HYP.out
  · refine (HY.out.2.agree (w' := (((w5.setCell ⟨q1 + 1, 0, none⟩ (.bool y9.lf)).setCell ⟨q1 + 1, 1, none⟩ (.slice y9.A y9.es.length y9.c)).setCell ⟨q1 + 1, 2, none⟩ (.slice y9.Q y9.ks.length y9.m))) fun b hb => ?_).mono fun b hb => ⟨by omega, by rw [fsz]; omega⟩
    exact (far b (by omega)).trans ((HK5.out.block b (by omega) (by omega)).trans (B4.out.2.block b (by omega)))
  · refine (Keep.trans (S := Z) KW.out (Keep.trans (S := Z) (Keep.of_below (B4.out.1.trans (B4.out.2.mono s3))) (HK5.out.mono (G := Z) fun b e _ => e ▸ H4.out.zg) fun _ h _ => h) fun _ h _ => h).trans hKf fun b h1 h2 => by omega

end
end Go.Proofs.Ytoenkkbcpafanaa.caches
