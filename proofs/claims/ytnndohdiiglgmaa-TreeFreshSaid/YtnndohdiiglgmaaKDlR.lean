/- tree.Delete over a tree: where the secret is there, and where it is not. -/
import Derived.Test.YtnndohdiiglgmaaKDlP


namespace Go.Proofs.Ytnndohdiiglgmaa.trees
set_option linter.unusedVariables false
set_option linter.unusedSimpArgs false
open Go.RowKit Go.Shelf Go.Proofs.Ytnndohdiiglgmaa.base Go.Proofs.Ytnndohdiiglgmaa.vers Go.Proofs.Ytnndohdiiglgmaa.nodes Go.Proofs.Ytnndohdiiglgmaa.quotas

set_option maxRecDepth 100000 in
set_option maxHeartbeats 8000000 in
theorem del_no (h : Nat) (S : Nat → Prop) (ns : List P3) (r : R) (s : ByteArray) (way : List (P3 × Nat)) (leaf : P3) (w : World) (hh : Hp w h S ns) (hr : r.fits)
    (hd : downE ns s 9 r 1 = .ok (way, leaf)) (hI : Inc (leaf.2.1.map (·.1))) (hs : s ∉ nm leaf.2.1) :
    Calls Try.prog 14 #[pv h, r.val, .string s] w fun e w' => e = .returned (.tuple #[r.val, .bool false, .int .i64 0]) ∧ Below w.heap.size w w' := by
  have hdown := fun w' (hb : Below w.heap.size w w') => down_any h S ns r s w' (hh.agree (fun g hg => hb.block g (hh.lt g hg)) hb.size) hr
  rw [hd] at hdown
  obtain ⟨rk, rg, ro, rn⟩ := r
  obtain ⟨W0, hW0⟩ : ∃ W0, ((w.alloc (.cells #[.int .u64 (rk : Int), .int .i64 rg, .int .i64 ro, .int .i64 rn] 27)).alloc (.cells #[.int .u64 0, .int .i64 0, .int .i64 0, .int .i64 0] 27)).alloc (.cells #[.iface 23 (.pointer (some ⟨h, 0, none⟩))] 111) = W0 := ⟨_, rfl⟩
  obtain ⟨b0, z0, kR0, kZ, kC⟩ := boxes3 _ _ _ _ _ _ _ _ hW0
  have HW0 := vers.lay hW0
  have HD := vers.lay hd
  clear hW0 hd
  go_enter Try.func14, Try.ntmps14
  go_wp2_with fail
  rw [HW0.out]
  refine (hdown _ b0).mono ?_
  rintro e w1 ⟨hb1, v1, y, way', B, rfl, hway, hleaf, hSt, hO⟩
  have bw1 := b0.trans (hb1.mono b0.size)
  have z1 := hb1.size
  have kR0 := kR0.below hb1 kR0.lt
  have kZ := kZ.below hb1 kZ.lt
  obtain ⟨lf, es, ks, yA, yc, yQ, ym⟩ := y
  have hes : es.map pe = leaf.2.1 := by rw [← hleaf]; rfl
  have hnames : es.map (·.s) = leaf.2.1.map (·.1) := by rw [← hes, pe_map]
  rw [← hnames] at hI
  clear hleaf hway hSt
  have kG := Blk.new w1 60 #[.bool lf, .slice yA es.length yc, .slice yQ ks.length ym]
  have b2 : Below w1.heap.size w1 (w1.alloc (.cells #[.bool lf, .slice yA es.length yc, .slice yQ ks.length ym] 60)) := (Below.refl _ _).alloc (Nat.le_refl _) _
  have bw2 := bw1.trans (b2.mono bw1.size)
  have hpl := place_any es yA yc s (w1.alloc (.cells #[.bool lf, .slice yA es.length yc, .slice yQ ks.length ym] 60)) ((hO.1.agree (Agree.of_below b2 fun g hg => hg.2)).es |> fun ⟨A', c', e, hE⟩ => by
    injection e with e1 _ e2
    subst e1; subst e2
    exact hE.es.more (by simp)) hI
  have hsn : s ∉ es.map (·.s) := by rw [hnames]; exact hs
  have hdec : decide ((es.map (·.s))[lbP (es.map (·.s)) s]? = some s) = false := decide_eq_false (fun e => hsn (List.mem_of_getElem? e))
  rw [hdec] at hpl
  have kR2 := kR0.below b2 kR0.lt
  have kZ2 := kZ.below b2 kZ.lt
  generalize lbP (es.map (·.s)) s = k at hpl
  clear hdec hsn hO
  go_wp2_with fail
  refine hpl.mono ?_
  rintro e w3 ⟨rfl, hb3⟩
  have kR3 := kR2.below hb3 kR2.lt
  have kZ3 := kZ2.below hb3 kZ2.lt
  have bw3 := bw2.trans (hb3.mono bw2.size)
  have q0 := kR3.cell 0
  have q1 := kR3.cell 1
  have q2 := kR3.cell 2
  have q3 := kR3.cell 3
  have r0 := kZ3.cell 0
  have r1 := kZ3.cell 1
  have r2 := kZ3.cell 2
  have r3 := kZ3.cell 3
  simp only [List.getElem?_toArray, List.getElem?_cons_zero, List.getElem?_cons_succ] at q0 q1 q2 q3 r0 r1 r2 r3
  have f0 := kZ3.frozen 0
  have f1 := kZ3.frozen 1
  have f2 := kZ3.frozen 2
  have f3 := kZ3.frozen 3
  have lR := kR3.lt
  have lZ := kZ3.lt
  clear hpl b0 b2 z0 HW0
  go_wp2_with fail
  have kF := (((kZ3.put 0 (.int .u64 (rk : Int))).put 1 (.int .i64 rg)).put 2 (.int .i64 ro)).put 3 (.int .i64 rn)
  have K4 := four4_below bw3 (g := w.heap.size + 1) (by omega) (.int .u64 (rk : Int)) (.int .i64 rg) (.int .i64 ro) (.int .i64 rn)
  unfold four4 at K4
  simp only [List.setIfInBounds_toArray, List.set_cons_zero, List.set_cons_succ] at kF
  generalize (((w3.setCell ⟨w.heap.size + 1, 0, none⟩ (.int .u64 (rk : Int))).setCell ⟨w.heap.size + 1, 1, none⟩ (.int .i64 rg)).setCell ⟨w.heap.size + 1, 2, none⟩ (.int .i64 ro)).setCell ⟨w.heap.size + 1, 3, none⟩ (.int .i64 rn) = wX at kF K4 ⊢
  clear q0 q1 q2 q3
  have q0 := kF.cell 0
  have q1 := kF.cell 1
  have q2 := kF.cell 2
  have q3 := kF.cell 3
  simp only [List.getElem?_toArray, List.getElem?_cons_zero, List.getElem?_cons_succ] at q0 q1 q2 q3
  refine bodyPost_ret (v := .tuple #[.agg #[.int .u64 (rk : Int), .int .i64 rg, .int .i64 ro, .int .i64 rn], .bool false, .int .i64 0]) (by simp [results, Try.results14, go_sem, q0, q1, q2, q3]) rfl ⟨rfl, K4⟩
theorem root_way {ns : List P3} {r : R} {h : Nat} {L : List PE} (t : Root ns r h L) (s : ByteArray) (hI : Inc (nm L)) (hh : h ≤ 7) {way : List (P3 × Nat)} {leaf : P3} (hd : downE ns s 9 r 1 = .ok (way, leaf)) : WayOk ns way ∧ (∀ p ∈ way, p.1.1 = false) ∧ leaf.2.2 = [] := by
  obtain ⟨x, hx, tx, hp, hp2⟩ := t
  have hpage : pageE ns r 1 = .ok x := Tree.page hx tx (by omega)
  rw [downE_ok hpage] at hd
  exact way_tree s h x L 8 1 tx hI hp (by omega) (by omega) way leaf hd
/-- Delete where the secret is there: a tree again, without it -/
theorem del_yes (h : Nat) (S : Nat → Prop) (ns : List P3) (r : R) (ht : Nat) (L : List PE) (s : ByteArray) (w : World) (hh : Hp w h S ns) (hr : r.fits) (t : Root ns r ht L) (hI : Inc (nm L)) (hs : s ∈ nm L) (hht : ht ≤ 6) (hn : ns.length + 2 * ht + 3 ≤ 20000) :
    ∃ m r' h', Root (ns ++ m) r' h' (outP L s) ∧ (h' ≤ ht ∧ ht ≤ h' + 1) ∧ m.length ≤ 2 * ht + 1 ∧ (∃ j, r' = refOf j ∧ j < (ns ++ m).length) ∧
      Calls Try.prog 14 #[pv h, r.val, .string s] w (DelPost w h S (ns ++ m, r')) := by
  obtain ⟨way, leaf, sts, lf, n, m, r', h', d1, d2, d3, d4, d5, d6, d7, d8, d9, d10, d11, d12, d13⟩ := del_root t s hI hs (by omega)
  obtain ⟨w1, w2, w3⟩ := root_way t s hI (by omega) d1
  have hlk : leaf.2.2.length ≤ 1000 := by rw [w3]; exact Nat.zero_le _
  refine ⟨m, r', h', d10, d11, d12, d13, ?_⟩
  have := del_ok h S ns r s way leaf sts lf n w hh hr d1 d3 d4 d5 (by omega) w1 w2 ⟨by omega, hlk⟩ (by rw [d2]; exact d8) (by omega)
  rw [d9] at this
  exact this
/-- Delete where it is not: nothing is changed -/
theorem del_none (h : Nat) (S : Nat → Prop) (ns : List P3) (r : R) (ht : Nat) (L : List PE) (s : ByteArray) (w : World) (hh : Hp w h S ns) (hr : r.fits) (t : Root ns r ht L) (hI : Inc (nm L)) (hs : s ∉ nm L) (hht : ht ≤ 6) :
    Calls Try.prog 14 #[pv h, r.val, .string s] w fun e w' => e = .returned (.tuple #[r.val, .bool false, .int .i64 0]) ∧ Below w.heap.size w w' := by
  obtain ⟨way, leaf, d1, d2, d3, d4, d5⟩ := get_root t s hI (by omega)
  exact del_no h S ns r s way leaf w hh hr d1 d3 (fun hm => hs (by
    obtain ⟨y, hy, e⟩ := List.mem_map.1 hm
    exact List.mem_map.2 ⟨y, (d5 y e).1 hy, e⟩))
end Go.Proofs.Ytnndohdiiglgmaa.trees
