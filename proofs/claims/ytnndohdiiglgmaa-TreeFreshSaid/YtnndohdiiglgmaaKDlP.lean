/- tree.Delete where the secret is there. -/
import Derived.Test.YtnndohdiiglgmaaKDlQ
import Derived.Test.YtnndohdiiglgmaaKTmB


namespace Go.Proofs.Ytnndohdiiglgmaa.trees
set_option linter.unusedVariables false
set_option linter.unusedSimpArgs false
open Go.RowKit Go.Shelf Go.Proofs.Ytnndohdiiglgmaa.base Go.Proofs.Ytnndohdiiglgmaa.vers Go.Proofs.Ytnndohdiiglgmaa.nodes Go.Proofs.Ytnndohdiiglgmaa.quotas

theorem boxes3 (w : World) (t0 t1 t2 : TypeId) (c0 c1 c2 : Array Value) (W : World) (e : ((w.alloc (.cells c0 t0)).alloc (.cells c1 t1)).alloc (.cells c2 t2) = W) :
    Below w.heap.size w W ∧ W.heap.size = w.heap.size + 1 + 1 + 1 ∧ Blk W w.heap.size t0 c0 ∧ Blk W (w.heap.size + 1) t1 c1 ∧ Blk W (w.heap.size + 1 + 1) t2 c2 := by
  subst e
  refine ⟨(((Below.refl _ w).alloc (Nat.le_refl _) _).alloc (by simp) _).alloc (by simp; omega) _, by simp, ?_, ?_, ?_⟩
  · exact ((Blk.new w t0 c0).alloc _).alloc _
  · have := (Blk.new (w.alloc (.cells c0 t0)) t1 c1).alloc (.cells c2 t2)
    simpa only [World.size_alloc] using this
  · have := Blk.new ((w.alloc (.cells c0 t0)).alloc (.cells c1 t1)) t2 c2
    simpa only [World.size_alloc] using this
theorem row_isC {w : World} {lo size n g : Nat} {e : TypeId} {v : Value} {xs : List Value} (h : w.ownsRow lo e size v n xs) (hg : v.ownBlock = some g) : isC w g := by
  rcases h.2 with ⟨e, _⟩ | ⟨g', cap, cur, e, _, hb, _⟩
  · rw [e] at hg; cases hg
  · rw [e] at hg; cases hg; exact ⟨_, _, _, hb⟩
theorem OwnVF.cells {w : World} {F : Nat → Prop} {x : E} (h : OwnVF w F x) : OwnVF w (fun g => F g ∧ isC w g) x := ⟨h.1, h.2.1, h.2.2.1, fun g hg => ⟨h.2.2.2 g hg, row_isC h.1 hg⟩⟩
theorem OwnEF.cells {w : World} {F : Nat → Prop} {l : List E} {v : Value} (h : OwnEF w F l v) : OwnEF w (fun g => F g ∧ isC w g) l v :=
  ⟨h.1, h.2.1, fun g hg => ⟨h.2.2.1 g hg, row_isC h.1 hg⟩, fun x hx => ⟨(h.2.2.2 x hx).1.cells.mono fun g hg => ⟨⟨hg.1.1, hg.2⟩, hg.1.2⟩, (h.2.2.2 x hx).2⟩⟩
theorem OwnKF.cells {w : World} {F : Nat → Prop} {l : List K} {v : Value} (h : OwnKF w F l v) : OwnKF w (fun g => F g ∧ isC w g) l v :=
  ⟨h.1, h.2.1, fun g hg => ⟨h.2.2.1 g hg, row_isC h.1 hg⟩, h.2.2.2⟩
theorem OwnNF.cells {w : World} {F : Nat → Prop} {x : N} (h : OwnNF w F x) : OwnNF w (fun g => F g ∧ isC w g) x := ⟨h.1.cells, h.2.1.cells, h.2.2⟩
theorem Steps.cells {w : World} {F : Nat → Prop} {v : Value} {way : List (N × Nat)} (h : Steps w F v way) : Steps w (fun g => F g ∧ isC w g) v way :=
  ⟨h.1, fun g hg => ⟨h.2.1 g hg, row_isC h.1 hg⟩, fun x hx => (h.2.2 x hx).cells.mono fun g hg => ⟨⟨hg.1.1, hg.2⟩, hg.1.2⟩⟩
/-- what Delete leaves -/
def DelPost (w : World) (h : Nat) (S : Nat → Prop) (st : List P3 × R) (e : Ending) (w' : World) : Prop :=
  ∃ S' : Nat → Prop, e = .returned (.tuple #[st.2.val, .bool true, .int .i64 0]) ∧ Hp w' h S' st.1 ∧ (∀ g, S' g → S g ∨ w.heap.size ≤ g) ∧ Keep S w w'
/-- the leaf without the secret, in memory -/
theorem leaf_out {w1 w3 w4 : World} {F : Nat → Prop} {es : List E} {g9 yc k : Nat} {L : List PE} {s : ByteArray} (hO : OwnEF w1 F es (.slice (some ⟨g9, 0, none⟩) es.length yc)) (hes : es.map pe = L) (hI : Inc (nm L)) (hk : (nm L)[k]? = some s)
    (h3 : ∀ g, F g → w3.heap[g]? = w1.heap[g]?) (hD : DlPost es g9 yc k w3 w4) (hF3 : ∀ g, F g → g < w3.heap.size) :
    ∃ es' : List E, es'.length = es.length - 1 ∧ es'.map pe = outP L s ∧ EsF w4 F es' (some ⟨g9, 0, none⟩) yc := by
  obtain ⟨hrow, hkeep⟩ := hD
  have hkl : k < es.length := by
    have := (List.getElem?_eq_some_iff.1 hk).1
    rw [← hes] at this
    simpa [nm] using this
  have hlen : (es.take k ++ es.drop (k + 1)).length = es.length - 1 := by
    rw [List.length_append, List.length_take, List.length_drop]; omega
  have h39 : F g9 := hO.2.2.1 g9 rfl
  obtain ⟨A', c', e', hE⟩ := own_es (F := F) hrow hlen.symm (by have := hO.2.1; omega) (fun g hg => by cases hg; exact h39) (fun x hx => by
    have hx' : x ∈ es := by
      rcases List.mem_append.1 hx with h | h
      · exact List.mem_of_mem_take h
      · exact List.mem_of_mem_drop h
    obtain ⟨hv, hs⟩ := hO.2.2.2 x hx'
    refine ⟨(hv.vs.agree (w' := w4) fun g hg => ?_).mono fun g hg => hg.1, hs⟩
    have hne : g ≠ g9 := fun e => hg.2 (by rw [e]; rfl)
    exact (hkeep.block g (hF3 g hg.1) hne).trans (h3 g hg.1))
  injection e' with e1 _ e2
  subst e1; subst e2
  refine ⟨es.take k ++ es.drop (k + 1), hlen, ?_, hE⟩
  rw [List.map_append, List.map_take, List.map_drop, hes]
  exact outP_at hI hk

theorem sn_ok {ns : List P3} {way' : List (N × Nat)} {xs : List SJ} {abs : List AB} {c9 : P3} (hxw : xs.map SJ.w = way') (hxa : xs.map SJ.ab = abs) (hat : WayOk ns (way'.map pst)) (hok : StOk (way'.map pst) (abs, c9)) {w6 : World} {F6 : Nat → Prop} (h1 : ∀ x ∈ xs, NsF w6 F6 x.n) (h2 : ∀ x ∈ xs, x.F w6 F6) : ∀ x ∈ xs, SnOk w6 F6 x := by
  intro x hx
  obtain ⟨i, hi, rfl⟩ := List.mem_iff_getElem.1 hx
  have hmem : pst xs[i].w ∈ way'.map pst := by
    rw [← hxw]
    exact List.mem_map_of_mem (List.mem_map_of_mem hx)
  obtain ⟨a1, a2, a3, _⟩ := hat _ hmem
  obtain ⟨b1, b2, b3, _⟩ := hok
  have e1 : (way'.map pst)[i]?.getD zS = pst xs[i].w := by
    rw [← hxw, List.map_map, List.getElem?_map, List.getElem?_eq_getElem hi]; rfl
  have e2 : abs[i]?.getD ([], []) = xs[i].ab := by
    rw [← hxa, List.getElem?_map, List.getElem?_eq_getElem hi]; rfl
  have hb := b2 i (by rw [← hxw, List.map_map, List.length_map]; exact hi)
  simp only at hb
  rw [e1, e2] at hb
  obtain ⟨r1, r2, r3⟩ := hb.room a1
  have hab : xs[i].ab ∈ abs := by rw [← hxa]; exact List.mem_map_of_mem hx
  have hsm := b3 _ hab
  simp only [SJ.ab, List.length_map] at r1 r2 r3
  refine ⟨h1 _ hx, h2 _ hx, r1, r2, a2, ?_, r3, fun n hn => ?_⟩
  · have : (xs[i].n.es.map pe).length ≤ 1000 := a3
    rwa [List.length_map] at this
  · have hs := hsm n.p (by
      simp only [SJ.ab]
      rw [← List.map_append]
      exact List.mem_map_of_mem hn)
    exact ⟨by have : (n.es.map pe).length ≤ 1000 := hs.1; rwa [List.length_map] at this, hs.2⟩

set_option maxRecDepth 100000 in
set_option maxHeartbeats 8000000 in
theorem del_ok (h : Nat) (S : Nat → Prop) (ns : List P3) (r : R) (s : ByteArray) (way : List (P3 × Nat)) (leaf : P3) (sts : List SD) (lf9 : Bool) (n9 : Nat) (w : World) (hh : Hp w h S ns) (hr : r.fits)
    (hd : downE ns s 9 r 1 = .ok (way, leaf)) (hlf : leaf.1 = true) (hI : Inc (leaf.2.1.map (·.1))) (hs : s ∈ nm leaf.2.1) (hw : way.length < 8) (hat : WayOk ns way) (hin : ∀ p ∈ way, p.1.1 = false) (hl : small leaf)
    (hN : neighP ns ([], true, (outP leaf.2.1 s).length, 1 + way.length) way.reverse = .ok (sts, lf9, n9, 1)) (hn : ns.length + 2 * way.length + 3 ≤ 20000) :
    Calls Try.prog 14 #[pv h, r.val, .string s] w (DelPost w h S (topP (upD (ns, (leaf.1, outP leaf.2.1 s, leaf.2.2)) sts))) := by
  have hdown := fun w' (hb : Below w.heap.size w w') => down_any h S ns r s w' (hh.agree (fun g hg => hb.block g (hh.lt g hg)) hb.size) hr
  rw [hd] at hdown
  have hSl := hh.lt
  obtain ⟨rk, rg, ro, rn⟩ := r
  obtain ⟨W0, hW0⟩ : ∃ W0, ((w.alloc (.cells #[.int .u64 (rk : Int), .int .i64 rg, .int .i64 ro, .int .i64 rn] 27)).alloc (.cells #[.int .u64 0, .int .i64 0, .int .i64 0, .int .i64 0] 27)).alloc (.cells #[.iface 23 (.pointer (some ⟨h, 0, none⟩))] 111) = W0 := ⟨_, rfl⟩
  obtain ⟨b0, z0, kR0, kZ, kC⟩ := boxes3 _ _ _ _ _ _ _ _ hW0
  have HW0 := vers.lay hW0
  have HD := vers.lay hd
  have HN := vers.lay hN
  obtain ⟨T, hT⟩ : ∃ T, topP (upD (ns, (leaf.1, outP leaf.2.1 s, leaf.2.2)) sts) = T := ⟨_, rfl⟩
  rw [hT]
  have HT := vers.lay hT
  have HLF := vers.lay hlf
  clear hW0 hd hN hT hlf
  go_enter Try.func14, Try.ntmps14
  go_wp2_with fail
  rw [HW0.out]
  refine (hdown _ b0).mono ?_
  rintro e w1 ⟨hb1, v1, y, way', B, rfl, hway, hleaf, hSt, hO⟩
  have bw1 := b0.trans (hb1.mono b0.size)
  have z1 := hb1.size
  have kR0 := kR0.below hb1 kR0.lt
  have kZ := kZ.below hb1 kZ.lt
  have kC := kC.below hb1 kC.lt
  have hwl : way'.length = way.length := by rw [← hway, List.length_map]
  obtain ⟨PA, pc, rfl, hSF⟩ := StF.of_steps hSt (by omega)
  rw [List.length_map]
  obtain ⟨lf, es, ks, yA, yc, yQ, ym⟩ := y
  have hes : es.map pe = leaf.2.1 := by rw [← hleaf]; rfl
  have HKS := vers.lay (show ks = leaf.2.2 ∧ lf = leaf.1 by rw [← hleaf]; exact ⟨rfl, rfl⟩)
  have hnames : es.map (·.s) = leaf.2.1.map (·.1) := by rw [← hes, pe_map]
  have hesl : es.length ≤ 1000 := by have := hl.1; rw [← hes, List.length_map] at this; exact this
  have hI0 := hI
  rw [← hnames] at hI
  clear hleaf
  have kG := Blk.new w1 60 #[.bool lf, .slice yA es.length yc, .slice yQ ks.length ym]
  have b2 : Below w1.heap.size w1 (w1.alloc (.cells #[.bool lf, .slice yA es.length yc, .slice yQ ks.length ym] 60)) := (Below.refl _ _).alloc (Nat.le_refl _) _
  have bw2 := bw1.trans (b2.mono bw1.size)
  have hpl := place_any es yA yc s (w1.alloc (.cells #[.bool lf, .slice yA es.length yc, .slice yQ ks.length ym] 60)) ((hO.1.agree (Agree.of_below b2 fun g hg => hg.2)).es |> fun ⟨A', c', e, hE⟩ => by
    injection e with e1 _ e2
    subst e1; subst e2
    exact hE.es.more (by simp)) hI
  have hsn : s ∈ es.map (·.s) := by rw [hnames]; exact hs
  have hfind := lbP_find hI hsn
  have hdec : decide ((es.map (·.s))[lbP (es.map (·.s)) s]? = some s) = true := decide_eq_true hfind
  have hkl : lbP (es.map (·.s)) s < es.length := by
    have := (List.getElem?_eq_some_iff.1 hfind).1
    simpa using this
  rw [hdec] at hpl
  obtain ⟨k, hk⟩ : ∃ k, lbP (es.map (·.s)) s = k := ⟨_, rfl⟩
  rw [hk] at hpl hfind hkl
  rw [hnames] at hfind
  clear hdec hk
  go_wp2_with fail
  refine hpl.mono ?_
  rintro e w3 ⟨rfl, hb3⟩
  obtain ⟨g9, cap9, eA, _, _, _⟩ := own_slice_form hO.1.1 (show 0 < es.length by omega)
  injection eA with eA _ e2
  subst eA; subst e2
  have hrow3 := row_below (row_below hO.1.1 b2) hb3
  have hdel := delete_any es g9 yc k w3 hrow3 hkl hesl
  have kG3 := kG.below hb3 kG.lt
  have z2 : (w1.alloc (.cells #[.bool lf, .slice (some ⟨g9, 0, none⟩) es.length yc, .slice yQ ks.length ym] 60)).heap.size = w1.heap.size + 1 := by simp
  have z3 := hb3.size
  have K13 : ∀ g, g < w1.heap.size → w3.heap[g]? = w1.heap[g]? := fun g hg => (hb3.block g (by omega)).trans (b2.block g hg)
  have g0 := kG3.cell 0
  have g1 := kG3.cell 1
  have g2 := kG3.cell 2
  simp only [List.getElem?_toArray, List.getElem?_cons_zero, List.getElem?_cons_succ] at g0 g1 g2
  have gf := kG3.frozen 1
  have lG := kG3.lt
  have ek : IntKind.i64.wrap ((k : Int) + 1) = (k : Int) + 1 := IntWalk.i64_in _ (by omega)
  have bw3 := bw2.trans (hb3.mono bw2.size)
  clear hpl hrow3
  go_wp2_with fail
  refine hdel.mono ?_
  rintro e w4 ⟨rfl, hD4⟩
  have hg9 : (W0.heap.size ≤ g9 ∧ B ≤ g9) ∧ g9 < w1.heap.size := hO.1.2.2.1 g9 rfl
  obtain ⟨es', hl', hp', hE4⟩ := leaf_out hO.1 hes hI0 hfind (fun g hg => K13 g hg.2) hD4 (fun g hg => by omega)
  have z4 := hD4.2.size
  have K14 : ∀ g, g < w1.heap.size → g ≠ g9 → w4.heap[g]? = w1.heap[g]? := fun g hg hn => (hD4.2.block g (by omega) hn).trans (K13 g hg)
  have kG4 : Blk w4 w1.heap.size 60 #[.bool lf, .slice (some ⟨g9, 0, none⟩) es.length yc, .slice yQ ks.length ym] := (hD4.2.block _ (by omega) (by omega)).trans kG3
  have bw4 : Below w.heap.size w w4 := bw3.trans (hD4.2.below (fun g e => by omega) bw3.size)
  rw [← hl']
  have hl2 := vers.lay hl'
  clear hdel g0 g1 g2 gf lG kG3 hD4 hb3 ek hl'
  have g0 := kG4.cell 0
  have g1 := kG4.cell 1
  have g2 := kG4.cell 2
  simp only [List.getElem?_toArray, List.getElem?_cons_zero, List.getElem?_cons_succ] at g0 g1 g2
  have gf := kG4.frozen 1
  have lG := kG4.lt
  have kC4 : Blk w4 (w.heap.size + 1 + 1) 111 #[.iface 23 (.pointer (some ⟨h, 0, none⟩))] := (K14 _ kC.lt (by omega)).trans kC
  have kZ4 : Blk w4 (w.heap.size + 1) 27 #[.int .u64 0, .int .i64 0, .int .i64 0, .int .i64 0] := (K14 _ kZ.lt (by omega)).trans kZ
  have c0 := kC4.cell 0
  simp only [List.getElem?_toArray, List.getElem?_cons_zero] at c0
  have lC := kC4.lt
  go_upto_region 9 with (fail)
  have bw5 := bw4.setCell (p := ⟨w1.heap.size, 1, none⟩) (by simp; omega) (.slice (some ⟨g9, 0, none⟩) es'.length yc)
  have kG5 := kG4.put 1 (.slice (some ⟨g9, 0, none⟩) es'.length yc)
  simp only [List.setIfInBounds_toArray, List.set_cons_zero, List.set_cons_succ] at kG5
  have h45 : ∀ g, g ≠ w1.heap.size → (w4.setCell ⟨w1.heap.size, 1, none⟩ (.slice (some ⟨g9, 0, none⟩) es'.length yc)).heap[g]? = w4.heap[g]? := fun g hg => Below.heap_setCell _ _ _ _ (by simpa using hg)
  have z5 : (w4.setCell ⟨w1.heap.size, 1, none⟩ (.slice (some ⟨g9, 0, none⟩) es'.length yc)).heap.size = w4.heap.size := by simp
  generalize w4.setCell ⟨w1.heap.size, 1, none⟩ (.slice (some ⟨g9, 0, none⟩) es'.length yc) = w5 at bw5 kG5 h45 z5 ⊢
  have K15 : ∀ g, g < w1.heap.size → g ≠ g9 → w5.heap[g]? = w1.heap[g]? := fun g hg hn => (h45 g (by omega)).trans (K14 g hg hn)
  have kC5 : Blk w5 (w.heap.size + 1 + 1) 111 #[.iface 23 (.pointer (some ⟨h, 0, none⟩))] := (K15 _ kC.lt (by omega)).trans kC
  have kZ5 : Blk w5 (w.heap.size + 1) 27 #[.int .u64 0, .int .i64 0, .int .i64 0, .int .i64 0] := (K15 _ kZ.lt (by omega)).trans kZ
  have hH5 := hh.agree (Agree.of_below bw5 hh.lt) bw5.size
  have hltC : ∀ g, isC w1 g → g < w1.heap.size := fun g hc => by
    obtain ⟨cs, t, fr, hc⟩ := hc
    exact (Array.getElem?_eq_some_iff.1 hc).1
  rw [List.length_map] at hSt
  have hSt5 : Steps w5 (fun g => (W0.heap.size ≤ g ∧ g < B) ∧ isC w1 g) (.slice PA way'.length pc) way' := hSt.cells.agree fun g hg => K15 g (hltC g hg.2) (by omega)
  have hvB : ∀ g, (Value.slice PA way'.length pc).ownBlock = some g → (W0.heap.size ≤ g ∧ g < B) ∧ isC w1 g := hSt5.2.1
  have hE5a := (hE4.agree (w' := w5) fun g hg => h45 g (by omega)).mono (G := fun g => (W0.heap.size ≤ g ∧ g < w5.heap.size) ∧ (Value.slice PA way'.length pc).ownBlock ≠ some g) (fun g hg => ⟨by omega, fun e => by have := (hvB g e).1; omega⟩)
  have hE5 := hE5a.mono (G := fun g => g < w5.heap.size ∧ (Value.slice PA way'.length pc).ownBlock ≠ some g) (fun g hg => ⟨hg.1.2, hg.2⟩)
  have hOK : OwnKF w1 (fun g => ((W0.heap.size ≤ g ∧ B ≤ g) ∧ g < w1.heap.size) ∧ (Value.slice yQ ks.length ym).ownBlock = some g) ks (.slice yQ ks.length ym) := ⟨hO.2.1.1, hO.2.1.2.1, fun g hg => ⟨hO.2.1.2.2.1 g hg, hg⟩, hO.2.1.2.2.2⟩
  obtain ⟨Q1, m1, eQ, hKs1⟩ := hOK.ks
  injection eQ with eQ _ em
  subst eQ em
  have hKs5a := (hKs1.agree (w' := w5) fun g hg => K15 g hg.1.2 (fun e => hO.2.2 g9 rfl (by rw [← e]; exact hg.2))).mono (G := fun g => (W0.heap.size ≤ g ∧ g < w5.heap.size) ∧ (Value.slice PA way'.length pc).ownBlock ≠ some g) (fun g hg => ⟨by omega, fun e => by have := (hvB g e).1; omega⟩)
  have hKs5 := hKs5a.mono (G := fun g => g < w5.heap.size ∧ (Value.slice PA way'.length pc).ownBlock ≠ some g) (fun g hg => ⟨hg.1.2, hg.2⟩)
  have hsm5 : small (⟨lf, es', ks, some ⟨g9, 0, none⟩, yc, yQ, ym⟩ : N).p := by
    refine ⟨?_, ?_⟩
    · show (es'.map pe).length ≤ 1000
      rw [List.length_map, hl2.out]; omega
    · show ks.length ≤ 1000
      rw [HKS.out.1]; exact hl.2
  have hp0 : (⟨lf, es', ks, some ⟨g9, 0, none⟩, yc, yQ, ym⟩ : N).p = (leaf.1, outP leaf.2.1 s, leaf.2.2) := by
    show (lf, es'.map pe, ks) = _
    rw [HKS.out.1, HKS.out.2, hp']
  have hne := neigh_any h S ns ⟨lf, es', ks, some ⟨g9, 0, none⟩, yc, yQ, ym⟩ PA pc way' _ w5 hH5 hSt5 (fun g hg => ⟨by have := hltC g hg.2; omega, fun h0 => by have := hSl g h0; omega⟩) ⟨hE5, hKs5⟩ (by rw [hway]; exact hat) hsm5 (by omega)
  rw [hway, hp0] at hne
  have hin' : ∀ x ∈ way, x.1.1 = false ∧ x.2 < x.1.2.2.length := fun x hx => ⟨hin x hx, (hat x hx).1⟩
  have hX := neighX_eq (ns := ns) hin' (leaf.1, outP leaf.2.1 s, leaf.2.2) way.length (Nat.le_refl _)
  rw [show way.reverse.take way.length = way.reverse from List.take_of_length_le (by simp), show partsP (leaf.1, outP leaf.2.1 s, leaf.2.2) = (outP leaf.2.1 s).length by unfold partsP; rw [HLF.out, if_pos rfl], HLF.out, show way.length + 1 = 1 + way.length by omega, HN.out] at hX
  obtain ⟨abs, c9, hX1, hX2, _, hX3⟩ := hX
  rw [hwl, HLF.out, hX1] at hne
  have hsts : sts = (desc way.length way.length).map (sdAt way abs) := congrArg Prod.fst hX3
  have HX := vers.lay (And.intro hX1 hsts)
  clear hX1 hX2 hX3 hsts c0 g0 g1 g2 gf
  have HS := vers.lay hSt5
  clear hSt5
  have g0 := kG5.cell 0
  have g1 := kG5.cell 1
  have g2 := kG5.cell 2
  have c0 := kC5.cell 0
  simp only [List.getElem?_toArray, List.getElem?_cons_zero, List.getElem?_cons_succ] at g0 g1 g2 c0
  have lG := kG5.lt
  have lC := kC5.lt
  go_wp2_with fail
  refine hne.mono ?_
  rintro e w6 ⟨hK6, rfl, xs, hxw, hxa, hro, hxF⟩
  have z6 := hK6.size
  have hxl : xs.length = way.length := by rw [← hwl, ← hxw, List.length_map]
  have K56 : ∀ g, g < w5.heap.size → (Value.slice PA way'.length pc).ownBlock ≠ some g → w6.heap[g]? = w5.heap[g]? := fun g hg hn => hK6.block g hg (by rw [← hwl]; exact hn)
  have nown : ∀ g, (g < W0.heap.size ∨ w1.heap.size ≤ g) → (Value.slice PA way'.length pc).ownBlock ≠ some g := fun g hg e => by
    have h1 := hvB g e
    have := hltC g h1.2
    omega
  have bw6 : Below w.heap.size w w6 := bw5.trans (hK6.below (fun g e => by rw [← hwl] at e; have := (hvB g e).1; omega) bw5.size)
  have kG6 : Blk w6 w1.heap.size 60 #[.bool lf, .slice (some ⟨g9, 0, none⟩) es'.length yc, .slice yQ ks.length ym] := (K56 _ kG5.lt (nown _ (.inr (Nat.le_refl _)))).trans kG5
  have kC6 : Blk w6 (w.heap.size + 1 + 1) 111 #[.iface 23 (.pointer (some ⟨h, 0, none⟩))] := (K56 _ kC5.lt (nown _ (.inl (by omega)))).trans kC5
  have kZ6 : Blk w6 (w.heap.size + 1) 27 #[.int .u64 0, .int .i64 0, .int .i64 0, .int .i64 0] := (K56 _ kZ5.lt (nown _ (.inl (by omega)))).trans kZ5
  have hH6 := hh.agree (Agree.of_below bw6 hh.lt) bw6.size
  have hSn : ∀ g, w.heap.size ≤ g → ¬ S g := fun g hg h0 => by have := hSl g h0; omega
  have hx6 : NsF w6 (fun g => g < w6.heap.size ∧ ¬ S g) ⟨lf, es', ks, some ⟨g9, 0, none⟩, yc, yQ, ym⟩ := ⟨(hE5a.agree fun g hg => K56 g hg.1.2 hg.2).mono fun g hg => ⟨by omega, hSn g (by omega)⟩, (hKs5a.agree fun g hg => K56 g hg.1.2 hg.2).mono fun g hg => ⟨by omega, hSn g (by omega)⟩⟩
  rw [hwl] at hro
  have hStF : StF w6 (fun g => g < w6.heap.size ∧ ¬ S g) (xs.map SJ.st) PA pc := by
    obtain ⟨A', c', e', hc', hn', hr'⟩ := row_rdF hro
    injection e' with e1 _ e2
    subst e1; subst e2
    refine ⟨by rw [List.length_map, hxl]; exact hc', by rw [List.length_map]; omega, hn', hr'.mono fun g hg => ?_⟩
    rw [← hwl] at hg
    have h1 := hvB g hg
    have := hltC g h1.2
    exact ⟨by omega, hSn g (by omega)⟩
  have hat' : WayOk ns (way'.map pst) := by rw [hway]; exact hat
  have hok : StOk (way'.map pst) (abs, c9) := by
    have hW0 : StOk way (List.replicate way.length ([], []), (leaf.1, outP leaf.2.1 s, leaf.2.2)) := ⟨by simp, fun j hj => by
      have : (List.replicate way.length (([], []) : AB))[j]?.getD ([], []) = ([], []) := by rw [List.getElem?_replicate]; split <;> rfl
      rw [this]; exact AbOk.none _, fun ab hab n hn => (by
        have e : ab = ([], []) := List.eq_of_mem_replicate hab
        rw [e] at hn
        simp at hn), by rw [← hp0]; exact hsm5⟩
    rw [hway]
    refine neighX_ok hat hW0 (desc way.length way.length) (fun j hj => ?_) _ (by rw [HLF.out]; exact HX.out.1)
    unfold desc at hj
    obtain ⟨q, hq, rfl⟩ := List.mem_map.1 hj
    rw [List.mem_range] at hq
    omega
  have hsn6 := sn_ok hxw hxa hat' hok (w6 := w6) (F6 := fun g => g < w6.heap.size ∧ ¬ S g) (fun x hx => by
    have hm : x.w ∈ way' := by rw [← hxw]; exact List.mem_map_of_mem hx
    exact ((HS.out.2.2 _ hm).ns.agree fun g hg => K56 g (by have := hltC g hg.1.2; omega) (fun e => hg.2 e.symm)).mono fun g hg => ⟨by have := hltC g hg.1.2; omega, hSn g (by omega)⟩) (fun x hx => (hxF x hx).mono fun g hg => ⟨hg.2, hSn g (by have := bw5.size; omega)⟩)
  have hup := up_steps xs PA pc ⟨lf, es', ks, some ⟨g9, 0, none⟩, yc, yQ, ym⟩ h S ns _ w6 hH6 hStF hx6 (fun g hg => hg) hsn6 hsm5 (by omega) (fun a e => by have := (hO.2.1.2.2.1 a.block (by rw [show yQ = some a from e]; rfl)).2; omega)
  rw [hxl, hp0, upJ_D, sd_list (way := way) xs (by rw [← hway, ← hxw, List.map_map]; rfl) hxa, ← HX.out.2] at hup
  have HU := vers.lay hup
  clear hup hne hsn6 hok hat' hStF hx6 hxF hro hxa hxw g0 g1 g2 c0
  have g0 := kG6.cell 0
  have g1 := kG6.cell 1
  have g2 := kG6.cell 2
  have c0 := kC6.cell 0
  simp only [List.getElem?_toArray, List.getElem?_cons_zero, List.getElem?_cons_succ] at g0 g1 g2 c0
  have lG := kG6.lt
  have lC := kC6.lt
  clear hE4 hE5 hE5a hKs1 hKs5 hKs5a kG5 kC5 kZ5 kG4 kC4 kZ4 kG kR0 kZ kC
  go_wp2_with fail
  refine HU.out.mono ?_
  rintro e w7 ⟨S7, ⟨lf7, es7, ks7, A7, c7, Q7, m7⟩, rfl, hy7, hH7, hS7, hN7, hK7⟩
  have HTT : Hid (T = topP (upD (ns, (leaf.1, outP leaf.2.1 s, leaf.2.2)) sts)) := vers.lay HT.out.symm
  have hlen7 := upD_len sts (ns, (leaf.1, outP leaf.2.1 s, leaf.2.2))
  have hstl : sts.length = way.length := by rw [HX.out.2, List.length_map, desc_len]
  rw [hstl] at hlen7
  simp only at hlen7
  generalize upD (ns, (leaf.1, outP leaf.2.1 s, leaf.2.2)) sts = st at hy7 hH7 HTT hlen7
  have hnS7 : ∀ g, w.heap.size ≤ g → g < w6.heap.size → ¬ S7 g := fun g h1 h2 h0 => by
    rcases hS7 g h0 with h | h
    · exact hSn g h1 h
    · omega
  have kC7 := (hK7.blk kC6 (hSn _ (by omega)))
  have kZ7 := (hK7.blk kZ6 (hSn _ (by omega)))
  have z7 := hK7.size
  have hS7' : ∀ g, S7 g → S g ∨ w.heap.size + 3 ≤ g := fun g hg => (hS7 g hg).imp id (fun h => by have := bw6.size; omega)
  have bw7 : Keep S w w7 := ⟨hK7.os.trans bw6.os, hK7.tape.trans bw6.tape, hK7.output.trans bw6.output, by have := bw6.size; omega, fun k hk hn => (hK7.block k (by have := bw6.size; omega) hn).trans (bw6.block k hk)⟩
  clear g0 g1 g2 c0 kG6 kC6 kZ6 HU hH6
  have hZne : w.heap.size + 1 < w6.heap.size := by have := bw6.size; omega
  have hCne : w.heap.size + 1 + 1 < w6.heap.size := by omega
  go_upto_region 15 with (fail)
  have kT := Blk.new w7 60 #[.bool lf7, .slice A7 es7.length c7, .slice Q7 ks7.length m7]
  have b8 : Below w7.heap.size w7 (w7.alloc (.cells #[.bool lf7, .slice A7 es7.length c7, .slice Q7 ks7.length m7] 60)) := (Below.refl _ _).alloc (Nat.le_refl _) _
  have z8 : (w7.alloc (.cells #[.bool lf7, .slice A7 es7.length c7, .slice Q7 ks7.length m7] 60)).heap.size = w7.heap.size + 1 := by simp
  have hH8 := hH7.below b8
  have kC8 := kC7.below b8 kC7.lt
  have kZ8 := kZ7.below b8 kZ7.lt
  have bw8 : Keep S w (w7.alloc (.cells #[.bool lf7, .slice A7 es7.length c7, .slice Q7 ks7.length m7] 60)) := ⟨b8.os.trans bw7.os, b8.tape.trans bw7.tape, b8.output.trans bw7.output, by have := bw7.size; omega, fun k hk hn => (b8.block k (by have := bw7.size; omega)).trans (bw7.block k hk hn)⟩
  have hN8 : NsF (w7.alloc (.cells #[.bool lf7, .slice A7 es7.length c7, .slice Q7 ks7.length m7] 60)) (fun g => g < w7.heap.size ∧ ¬ S7 g) ⟨lf7, es7, ks7, A7, c7, Q7, m7⟩ := hN7.agree (Agree.of_below b8 fun g hg => hg.1)
  obtain ⟨W8, hW8⟩ : ∃ W8, w7.alloc (.cells #[.bool lf7, .slice A7 es7.length c7, .slice Q7 ks7.length m7] 60) = W8 := ⟨_, rfl⟩
  rw [hW8] at kT b8 z8 hH8 kC8 kZ8 bw8 hN8 ⊢
  clear hW8 hH7 kC7 kZ7 hN7 hK7 bw7
  have c8 := kC8.cell 0
  have t0 := kT.cell 0
  have t1 := kT.cell 1
  have t2 := kT.cell 2
  have q0 := kZ8.cell 0
  have q1 := kZ8.cell 1
  have q2 := kZ8.cell 2
  have q3 := kZ8.cell 3
  simp only [List.getElem?_toArray, List.getElem?_cons_zero, List.getElem?_cons_succ] at c8 t0 t1 t2 q0 q1 q2 q3
  have f0 := kZ8.frozen 0
  have f1 := kZ8.frozen 1
  have f2 := kZ8.frozen 2
  have f3 := kZ8.frozen 3
  have l8 := kC8.lt
  have l12 := kT.lt
  have lZ := kZ8.lt
  have hHO := vers.lay hH8
  have hNO := vers.lay hN8
  by_cases hc : lf7 = false ∧ ks7.length = 1
  · obtain ⟨rfl, hk1⟩ := hc
    obtain ⟨k0, rfl⟩ := List.length_eq_one_iff.1 hk1
    have hKs := hN8.2
    have a0 : (cellsK [k0])[1]? = some (.int .u64 (k0.k : Int)) := rfl
    have a1 : (cellsK [k0])[2]? = some (.int .i64 k0.g) := rfl
    have a2 : (cellsK [k0])[3]? = some (.int .i64 k0.o) := rfl
    have a3 : (cellsK [k0])[4]? = some (.int .i64 k0.n) := rfl
    obtain ⟨bk, off, eQ, hbk, x0⟩ := hKs.2.2.2.1 _ _ a0
    have x1 : W8.cell? ⟨bk, off + 2, none⟩ = some (.int .i64 k0.g) := by
      obtain ⟨b', o', e', _, hx⟩ := hKs.2.2.2.1 _ _ a1
      rw [eQ] at e'; cases e'; exact hx
    have x2 : W8.cell? ⟨bk, off + 3, none⟩ = some (.int .i64 k0.o) := by
      obtain ⟨b', o', e', _, hx⟩ := hKs.2.2.2.1 _ _ a2
      rw [eQ] at e'; cases e'; exact hx
    have x3 : W8.cell? ⟨bk, off + 4, none⟩ = some (.int .i64 k0.n) := by
      obtain ⟨b', o', e', _, hx⟩ := hKs.2.2.2.1 _ _ a3
      rw [eQ] at e'; cases e'; exact hx
    have eQ : Q7 = some ⟨bk, off, none⟩ := eQ
    subst eQ
    have lb : bk < W8.heap.size := by omega
    have hT9 : T = (st.1, k0.r) := by
      rw [HTT.out]
      unfold topP
      rw [← hy7]
      exact if_pos ⟨rfl, rfl⟩
    have HT9 := vers.lay hT9
    clear hT9 hy7 hN8 hH8 hKs a0 a1 a2 a3
    obtain ⟨ks0, kk, kg, ko, kn⟩ := k0
    simp only [] at x0 x1 x2 x3
    go_wp2_with fail
    have kF := (((kZ8.put 0 (.int .u64 (kk : Int))).put 1 (.int .i64 kg)).put 2 (.int .i64 ko)).put 3 (.int .i64 kn)
    have K4 := four4_keep bw8 (g := w.heap.size + 1) (by omega) (.int .u64 (kk : Int)) (.int .i64 kg) (.int .i64 ko) (.int .i64 kn)
    have H4 := hHO.out.four (hnS7 _ (by omega) hZne) (.int .u64 (kk : Int)) (.int .i64 kg) (.int .i64 ko) (.int .i64 kn)
    unfold four4 at K4 H4
    simp only [List.setIfInBounds_toArray, List.set_cons_zero, List.set_cons_succ] at kF
    generalize (((W8.setCell ⟨w.heap.size + 1, 0, none⟩ (.int .u64 (kk : Int))).setCell ⟨w.heap.size + 1, 1, none⟩ (.int .i64 kg)).setCell ⟨w.heap.size + 1, 2, none⟩ (.int .i64 ko)).setCell ⟨w.heap.size + 1, 3, none⟩ (.int .i64 kn) = wX at kF K4 H4 ⊢
    clear q0 q1 q2 q3
    have q0 := kF.cell 0
    have q1 := kF.cell 1
    have q2 := kF.cell 2
    have q3 := kF.cell 3
    simp only [List.getElem?_toArray, List.getElem?_cons_zero, List.getElem?_cons_succ] at q0 q1 q2 q3
    refine bodyPost_ret (v := .tuple #[.agg #[.int .u64 (kk : Int), .int .i64 kg, .int .i64 ko, .int .i64 kn], .bool true, .int .i64 0]) (by simp [results, Try.results14, go_sem, q0, q1, q2, q3]) rfl ⟨S7, by rw [HT9.out], by rw [HT9.out]; exact H4, fun g hg => (hS7' g hg).imp id (fun h => by omega), K4⟩
  · have hT9 : T = rootP st.1 [(lf7, es7.map pe, ks7)] := by
      rw [HTT.out]
      unfold topP
      rw [← hy7]
      exact if_neg hc
    have HT9 := vers.lay hT9
    clear hy7 hN8 hH8 hT9
    cases lf7 with
    | true =>
      clear hc
      go_upto_region 17 with (fail)
      have kB := Blk.new W8 60 #[.bool true, .slice A7 es7.length c7, .slice Q7 ks7.length m7]
      have bB : Below W8.heap.size W8 (W8.alloc (.cells #[.bool true, .slice A7 es7.length c7, .slice Q7 ks7.length m7] 60)) := (Below.refl _ _).alloc (Nat.le_refl _) _
      have zB : (W8.alloc (.cells #[.bool true, .slice A7 es7.length c7, .slice Q7 ks7.length m7] 60)).heap.size = W8.heap.size + 1 := by simp
      obtain ⟨WB, hWB⟩ : ∃ WB, W8.alloc (.cells #[.bool true, .slice A7 es7.length c7, .slice Q7 ks7.length m7] 60) = WB := ⟨_, rfl⟩
      rw [hWB] at kB bB zB
      have hL : LF WB (fun g => g < W8.heap.size + 1 ∧ ¬ S7 g) [⟨true, es7, ks7, A7, c7, Q7, m7⟩] (some ⟨W8.heap.size, 0, none⟩) 1 := by
        refine ⟨Nat.le_refl _, by simp, (fun e => by cases e), fun j u hj => ⟨W8.heap.size, 0, rfl, ⟨by omega, fun h0 => by have := hHO.out.lt _ h0; omega⟩, ?_⟩, fun x hx => ?_⟩
        · rw [kB.cell, Nat.zero_add]
          simpa [cellsN, N.cells] using hj
        · rw [List.mem_singleton] at hx
          subst hx
          exact (hNO.out.agree (Agree.of_below bB fun g hg => by omega)).mono fun g hg => ⟨by omega, hg.2⟩
      have hroot := rooted_ok [⟨true, es7, ks7, A7, c7, Q7, m7⟩] (some ⟨W8.heap.size, 0, none⟩) 1 h S7 st.1 WB (hHO.out.below bB) _ hL (fun g hg => ⟨by omega, hg.2⟩) (by simp) (by simp; omega)
      rw [show ([⟨true, es7, ks7, A7, c7, Q7, m7⟩] : List N).map N.p = [(true, es7.map pe, ks7)] from rfl, ← HT9.out] at hroot
      rw [show ([⟨true, es7, ks7, A7, c7, Q7, m7⟩] : List N).length = 1 from rfl] at hroot
      have kCB := kC8.below bB kC8.lt
      have kZB := kZ8.below bB kZ8.lt
      have Z8 := vers.lay (And.intro z8 zB)
      have HWB := vers.lay hWB
      clear z8 zB
      go_wp2_with fail
      refine hroot.mono ?_
      rintro e w9 ⟨S9, rfl, hH9, hS9, hK9⟩
      have z9 := hK9.size
      obtain ⟨z8, zB⟩ := Z8.out
      have kZ9 := hK9.blk kZB (hnS7 _ (by omega) hZne)
      have K89 : Keep S w w9 := ⟨hK9.os.trans (bB.os.trans bw8.os), hK9.tape.trans (bB.tape.trans bw8.tape), hK9.output.trans (bB.output.trans bw8.output), by have := bw8.size; omega, fun k hk hn => (hK9.block k (by have := bw8.size; omega) (fun h0 => by
        rcases hS7' k h0 with h1 | h1
        · exact hn h1
        · omega)).trans ((bB.block k (by have := bw8.size; omega)).trans (bw8.block k hk hn))⟩
      clear hroot hL kB kCB kZB c8 t0 t1 t2 q0 q1 q2 q3 f0 f1 f2 f3 hK9
      obtain ⟨T1, pk, pg, po, pn⟩ := T
      have kY := Blk.new w9 27 #[.int .u64 (pk : Int), .int .i64 pg, .int .i64 po, .int .i64 pn]
      have bY : Below w9.heap.size w9 (w9.alloc (.cells #[.int .u64 (pk : Int), .int .i64 pg, .int .i64 po, .int .i64 pn] 27)) := (Below.refl _ _).alloc (Nat.le_refl _) _
      have zY : (w9.alloc (.cells #[.int .u64 (pk : Int), .int .i64 pg, .int .i64 po, .int .i64 pn] 27)).heap.size = w9.heap.size + 1 := by simp
      have kZY := kZ9.below bY kZ9.lt
      have hHY := hH9.below bY
      have KY : Keep S w (w9.alloc (.cells #[.int .u64 (pk : Int), .int .i64 pg, .int .i64 po, .int .i64 pn] 27)) := ⟨bY.os.trans K89.os, bY.tape.trans K89.tape, bY.output.trans K89.output, by have := K89.size; omega, fun k hk hn => (bY.block k (by have := K89.size; omega)).trans (K89.block k hk hn)⟩
      obtain ⟨WY, hWY⟩ : ∃ WY, w9.alloc (.cells #[.int .u64 (pk : Int), .int .i64 pg, .int .i64 po, .int .i64 pn] 27) = WY := ⟨_, rfl⟩
      rw [hWY] at kY bY zY kZY hHY KY
      have q0 := kY.cell 0
      have q1 := kY.cell 1
      have q2 := kY.cell 2
      have q3 := kY.cell 3
      have r0 := kZY.cell 0
      have r1 := kZY.cell 1
      have r2 := kZY.cell 2
      have r3 := kZY.cell 3
      simp only [List.getElem?_toArray, List.getElem?_cons_zero, List.getElem?_cons_succ] at q0 q1 q2 q3 r0 r1 r2 r3
      have f0 := kZY.frozen 0
      have f1 := kZY.frozen 1
      have f2 := kZY.frozen 2
      have f3 := kZY.frozen 3
      have lY := kY.lt
      have lZY := kZY.lt
      have hS9' : ∀ g, S9 g → S g ∨ w.heap.size + 3 ≤ g := fun g hg => by
        rcases hS9 g hg with h1 | h1
        · exact hS7' g h1
        · exact .inr (by have := bw8.size; omega)
      have hne9 : ¬ S9 (w.heap.size + 1) := fun h0 => by
        rcases hS9' _ h0 with h1 | h1
        · exact hSn _ (by omega) h1
        · omega
      have HWY := vers.lay (And.intro zY (And.intro zB z8))
      clear kY bY zY zB z8 kZ9 hH9 K89 hS9
      rw [show R.val ⟨pk, pg, po, pn⟩ = .agg #[.int .u64 (pk : Int), .int .i64 pg, .int .i64 po, .int .i64 pn] from rfl]
      go_wp2_with fail
      have kF := (((kZY.put 0 (.int .u64 (pk : Int))).put 1 (.int .i64 pg)).put 2 (.int .i64 po)).put 3 (.int .i64 pn)
      have K4 := four4_keep KY (g := w.heap.size + 1) (by omega) (.int .u64 (pk : Int)) (.int .i64 pg) (.int .i64 po) (.int .i64 pn)
      have H4 := hHY.four hne9 (.int .u64 (pk : Int)) (.int .i64 pg) (.int .i64 po) (.int .i64 pn)
      unfold four4 at K4 H4
      simp only [List.setIfInBounds_toArray, List.set_cons_zero, List.set_cons_succ] at kF
      generalize (((WY.setCell ⟨w.heap.size + 1, 0, none⟩ (.int .u64 (pk : Int))).setCell ⟨w.heap.size + 1, 1, none⟩ (.int .i64 pg)).setCell ⟨w.heap.size + 1, 2, none⟩ (.int .i64 po)).setCell ⟨w.heap.size + 1, 3, none⟩ (.int .i64 pn) = wX at kF K4 H4 ⊢
      clear q0 q1 q2 q3
      have q0 := kF.cell 0
      have q1 := kF.cell 1
      have q2 := kF.cell 2
      have q3 := kF.cell 3
      simp only [List.getElem?_toArray, List.getElem?_cons_zero, List.getElem?_cons_succ] at q0 q1 q2 q3
      refine bodyPost_ret (v := .tuple #[.agg #[.int .u64 (pk : Int), .int .i64 pg, .int .i64 po, .int .i64 pn], .bool true, .int .i64 0]) (by simp [results, Try.results14, go_sem, q0, q1, q2, q3]) rfl ⟨S9, rfl, H4, fun g hg => (hS9' g hg).imp id (fun h => by omega), K4⟩
    | false =>
      have d1 : decide ((ks7.length : Int) = 1) = false := decide_eq_false (fun h => hc ⟨rfl, by omega⟩)
      have d2 : decide (ks7.length = 1) = false := decide_eq_false (fun h => hc ⟨rfl, h⟩)
      have d3 : ((ks7.length : Int) == 1) = false := beq_eq_false_iff_ne.2 (fun h => hc ⟨rfl, by omega⟩)
      clear hc
      go_upto_region 17 with (fail)
      have kB := Blk.new W8 60 #[.bool false, .slice A7 es7.length c7, .slice Q7 ks7.length m7]
      have bB : Below W8.heap.size W8 (W8.alloc (.cells #[.bool false, .slice A7 es7.length c7, .slice Q7 ks7.length m7] 60)) := (Below.refl _ _).alloc (Nat.le_refl _) _
      have zB : (W8.alloc (.cells #[.bool false, .slice A7 es7.length c7, .slice Q7 ks7.length m7] 60)).heap.size = W8.heap.size + 1 := by simp
      obtain ⟨WB, hWB⟩ : ∃ WB, W8.alloc (.cells #[.bool false, .slice A7 es7.length c7, .slice Q7 ks7.length m7] 60) = WB := ⟨_, rfl⟩
      rw [hWB] at kB bB zB
      have hL : LF WB (fun g => g < W8.heap.size + 1 ∧ ¬ S7 g) [⟨false, es7, ks7, A7, c7, Q7, m7⟩] (some ⟨W8.heap.size, 0, none⟩) 1 := by
        refine ⟨Nat.le_refl _, by simp, (fun e => by cases e), fun j u hj => ⟨W8.heap.size, 0, rfl, ⟨by omega, fun h0 => by have := hHO.out.lt _ h0; omega⟩, ?_⟩, fun x hx => ?_⟩
        · rw [kB.cell, Nat.zero_add]
          simpa [cellsN, N.cells] using hj
        · rw [List.mem_singleton] at hx
          subst hx
          exact (hNO.out.agree (Agree.of_below bB fun g hg => by omega)).mono fun g hg => ⟨by omega, hg.2⟩
      have hroot := rooted_ok [⟨false, es7, ks7, A7, c7, Q7, m7⟩] (some ⟨W8.heap.size, 0, none⟩) 1 h S7 st.1 WB (hHO.out.below bB) _ hL (fun g hg => ⟨by omega, hg.2⟩) (by simp) (by simp; omega)
      rw [show ([⟨false, es7, ks7, A7, c7, Q7, m7⟩] : List N).map N.p = [(false, es7.map pe, ks7)] from rfl, ← HT9.out] at hroot
      rw [show ([⟨false, es7, ks7, A7, c7, Q7, m7⟩] : List N).length = 1 from rfl] at hroot
      have kCB := kC8.below bB kC8.lt
      have kZB := kZ8.below bB kZ8.lt
      have Z8 := vers.lay (And.intro z8 zB)
      have HWB := vers.lay hWB
      clear z8 zB
      go_wp2_with fail
      refine hroot.mono ?_
      rintro e w9 ⟨S9, rfl, hH9, hS9, hK9⟩
      have z9 := hK9.size
      obtain ⟨z8, zB⟩ := Z8.out
      have kZ9 := hK9.blk kZB (hnS7 _ (by omega) hZne)
      have K89 : Keep S w w9 := ⟨hK9.os.trans (bB.os.trans bw8.os), hK9.tape.trans (bB.tape.trans bw8.tape), hK9.output.trans (bB.output.trans bw8.output), by have := bw8.size; omega, fun k hk hn => (hK9.block k (by have := bw8.size; omega) (fun h0 => by
        rcases hS7' k h0 with h1 | h1
        · exact hn h1
        · omega)).trans ((bB.block k (by have := bw8.size; omega)).trans (bw8.block k hk hn))⟩
      clear hroot hL kB kCB kZB c8 t0 t1 t2 q0 q1 q2 q3 f0 f1 f2 f3 hK9
      obtain ⟨T1, pk, pg, po, pn⟩ := T
      have kY := Blk.new w9 27 #[.int .u64 (pk : Int), .int .i64 pg, .int .i64 po, .int .i64 pn]
      have bY : Below w9.heap.size w9 (w9.alloc (.cells #[.int .u64 (pk : Int), .int .i64 pg, .int .i64 po, .int .i64 pn] 27)) := (Below.refl _ _).alloc (Nat.le_refl _) _
      have zY : (w9.alloc (.cells #[.int .u64 (pk : Int), .int .i64 pg, .int .i64 po, .int .i64 pn] 27)).heap.size = w9.heap.size + 1 := by simp
      have kZY := kZ9.below bY kZ9.lt
      have hHY := hH9.below bY
      have KY : Keep S w (w9.alloc (.cells #[.int .u64 (pk : Int), .int .i64 pg, .int .i64 po, .int .i64 pn] 27)) := ⟨bY.os.trans K89.os, bY.tape.trans K89.tape, bY.output.trans K89.output, by have := K89.size; omega, fun k hk hn => (bY.block k (by have := K89.size; omega)).trans (K89.block k hk hn)⟩
      obtain ⟨WY, hWY⟩ : ∃ WY, w9.alloc (.cells #[.int .u64 (pk : Int), .int .i64 pg, .int .i64 po, .int .i64 pn] 27) = WY := ⟨_, rfl⟩
      rw [hWY] at kY bY zY kZY hHY KY
      have q0 := kY.cell 0
      have q1 := kY.cell 1
      have q2 := kY.cell 2
      have q3 := kY.cell 3
      have r0 := kZY.cell 0
      have r1 := kZY.cell 1
      have r2 := kZY.cell 2
      have r3 := kZY.cell 3
      simp only [List.getElem?_toArray, List.getElem?_cons_zero, List.getElem?_cons_succ] at q0 q1 q2 q3 r0 r1 r2 r3
      have f0 := kZY.frozen 0
      have f1 := kZY.frozen 1
      have f2 := kZY.frozen 2
      have f3 := kZY.frozen 3
      have lY := kY.lt
      have lZY := kZY.lt
      have hS9' : ∀ g, S9 g → S g ∨ w.heap.size + 3 ≤ g := fun g hg => by
        rcases hS9 g hg with h1 | h1
        · exact hS7' g h1
        · exact .inr (by have := bw8.size; omega)
      have hne9 : ¬ S9 (w.heap.size + 1) := fun h0 => by
        rcases hS9' _ h0 with h1 | h1
        · exact hSn _ (by omega) h1
        · omega
      have HWY := vers.lay (And.intro zY (And.intro zB z8))
      clear kY bY zY zB z8 kZ9 hH9 K89 hS9
      rw [show R.val ⟨pk, pg, po, pn⟩ = .agg #[.int .u64 (pk : Int), .int .i64 pg, .int .i64 po, .int .i64 pn] from rfl]
      go_wp2_with fail
      have kF := (((kZY.put 0 (.int .u64 (pk : Int))).put 1 (.int .i64 pg)).put 2 (.int .i64 po)).put 3 (.int .i64 pn)
      have K4 := four4_keep KY (g := w.heap.size + 1) (by omega) (.int .u64 (pk : Int)) (.int .i64 pg) (.int .i64 po) (.int .i64 pn)
      have H4 := hHY.four hne9 (.int .u64 (pk : Int)) (.int .i64 pg) (.int .i64 po) (.int .i64 pn)
      unfold four4 at K4 H4
      simp only [List.setIfInBounds_toArray, List.set_cons_zero, List.set_cons_succ] at kF
      generalize (((WY.setCell ⟨w.heap.size + 1, 0, none⟩ (.int .u64 (pk : Int))).setCell ⟨w.heap.size + 1, 1, none⟩ (.int .i64 pg)).setCell ⟨w.heap.size + 1, 2, none⟩ (.int .i64 po)).setCell ⟨w.heap.size + 1, 3, none⟩ (.int .i64 pn) = wX at kF K4 H4 ⊢
      clear q0 q1 q2 q3
      have q0 := kF.cell 0
      have q1 := kF.cell 1
      have q2 := kF.cell 2
      have q3 := kF.cell 3
      simp only [List.getElem?_toArray, List.getElem?_cons_zero, List.getElem?_cons_succ] at q0 q1 q2 q3
      refine bodyPost_ret (v := .tuple #[.agg #[.int .u64 (pk : Int), .int .i64 pg, .int .i64 po, .int .i64 pn], .bool true, .int .i64 0]) (by simp [results, Try.results14, go_sem, q0, q1, q2, q3]) rfl ⟨S9, rfl, H4, fun g hg => (hS9' g hg).imp id (fun h => by omega), K4⟩
end Go.Proofs.Ytnndohdiiglgmaa.trees
