/- Get over a tree that may be. -/
import Derived.Test.YtnndohdiiglgmaaKTmA
import Derived.Test.YtnndohdiiglgmaaKLsG


namespace Go.Proofs.Ytnndohdiiglgmaa.trees
set_option linter.unusedVariables false
set_option linter.unusedSimpArgs false
open Go.RowKit Go.Proofs.Ytnndohdiiglgmaa.base Go.Proofs.Ytnndohdiiglgmaa.vers Go.Proofs.Ytnndohdiiglgmaa.nodes Go.Proofs.Ytnndohdiiglgmaa.quotas

/-- down to the leaf: what has that name is there -/
theorem get_up {ns : List P3} (s : ByteArray) : ∀ (h : Nat) (x : P3) (L : List PE) (f d : Nat), Tree ns h x L → Inc (nm L) → partsP x ≤ 4 → h ≤ f → d + h ≤ 8 →
    ∃ way leaf, afterE ns s f x d = .ok (way, leaf) ∧ leaf.1 = true ∧ Inc (leaf.2.1.map (·.1)) ∧ leaf.2.1.length ≤ 4 ∧ ∀ y : PE, y.1 = s → (y ∈ leaf.2.1 ↔ y ∈ L)
  | 0, x, L, f, d, t, hI, hp, hf, hd => by
    cases (show x = (true, L, []) from t)
    have hl : L.length ≤ 4 := hp
    exact ⟨[], (true, L, []), by rw [afterE, if_pos rfl], rfl, hI, hl, fun y _ => Iff.rfl⟩
  | h + 1, x, L, f, d, t, hI, hp, hf, hd => by
    obtain ⟨a, b, c, t⟩ := t
    obtain ⟨f, rfl⟩ : ∃ f', f = f' + 1 := ⟨f - 1, by omega⟩
    obtain ⟨hlt, k, La, Lk, Lb, y, hk, ek, eL, ka, kb, hy, ty, hpy, hla, hlb⟩ := t.at_ s c hI
    have hIk : Inc (nm Lk) := by
      rw [eL] at hI
      simp only [nm, List.map_append] at hI
      exact (inc_app.1 (inc_app.1 hI).1).2.1
    obtain ⟨way, leaf, h1, h3, h4, h6, h7⟩ := get_up s h y Lk f (d + 1) ty hIk hpy.2 (by omega) (by omega)
    have hkr : (x.2.2[belP x.2.2 s]?.getD zK).r = k.r := by rw [hk]; rfl
    have hpage : pageE ns k.r (d + 1) = .ok y := by
      unfold pageE
      rw [if_neg (by omega), hy]
      refine if_neg fun hc => ?_
      have : partsP y = 0 := by simp [partsP, hc.1, hc.2]
      omega
    refine ⟨(x, belP x.2.2 s) :: way, leaf, ?_, h3, h4, h6, fun z hz => ?_⟩
    · rw [afterE, if_neg (by simp [a]), hkr, downE_ok hpage, h1]
    · rw [h7 z hz, eL, List.mem_append, List.mem_append]
      constructor
      · exact fun h8 => .inl (.inr h8)
      · rintro ((h8 | h8) | h8)
        · have := hla z.1 (List.mem_map.2 ⟨z, h8, rfl⟩)
          rw [hz, ltS_irrefl] at this
          cases this
        · exact h8
        · have := hlb z.1 (List.mem_map.2 ⟨z, h8, rfl⟩)
          rw [hz, ltS_irrefl] at this
          cases this
theorem get_root {ns : List P3} {r : R} {h : Nat} {L : List PE} (t : Root ns r h L) (s : ByteArray) (hI : Inc (nm L)) (hh : h < 7) :
    ∃ way leaf, downE ns s 9 r 1 = .ok (way, leaf) ∧ leaf.1 = true ∧ Inc (leaf.2.1.map (·.1)) ∧ leaf.2.1.length ≤ 4 ∧ ∀ y : PE, y.1 = s → (y ∈ leaf.2.1 ↔ y ∈ L) := by
  obtain ⟨x, hx, tx, hp, hp2⟩ := t
  have hpage : pageE ns r 1 = .ok x := by
    unfold pageE
    rw [if_neg (by omega), hx]
    refine if_neg fun hc => ?_
    cases h with
    | zero => cases (show x = (true, L, []) from tx); cases hc.1
    | succ h => exact tx.2.2.1 hc.2
  obtain ⟨way, leaf, h1, h2⟩ := get_up s h x L 8 1 tx hI hp (by omega) (by omega)
  exact ⟨way, leaf, by rw [downE_ok hpage, h1], h2⟩
theorem lbP_find {N : List ByteArray} (hI : Inc N) {s : ByteArray} (hs : s ∈ N) : N[lbP N s]? = some s := by
  obtain ⟨i, hi, rfl⟩ := List.mem_iff_getElem.1 hs
  have : lbP N N[i] = i := lbP_at N N[i] i (Nat.le_of_lt hi) (fun t h ht => (List.pairwise_iff_getElem.1 hI) t i h hi ht) (fun t h ht => by
    rcases Nat.lt_or_ge i t with h1 | h1
    · exact ltS_asymm ((List.pairwise_iff_getElem.1 hI) i t hi h h1)
    · obtain rfl : t = i := by omega
      exact ltS_irrefl _)
  rw [this, List.getElem?_eq_getElem hi]
/-- what Get answers -/
def GetPost (w : World) (L : List PE) (s : ByteArray) (e : Ending) (w' : World) : Prop :=
  Below w.heap.size w w' ∧ ∃ (x : E) (b : Bool), e = .returned (.tuple #[.agg #[.string x.s, .slice x.A x.l.length x.c], .bool b, .int .i64 0]) ∧ ((b = true ∧ pe x ∈ L ∧ x.s = s) ∨ (b = false ∧ (∀ y ∈ L, y.1 ≠ s))) ∧
    OwnVF w' (fun g => w.heap.size ≤ g ∧ g < w'.heap.size) x ∧ x.s.size ≤ maxLen

set_option maxRecDepth 100000 in
set_option maxHeartbeats 4000000 in
theorem get_ok (h : Nat) (S : Nat → Prop) (ns : List P3) (r : R) (ht : Nat) (L : List PE) (s : ByteArray) (w : World) (hS : Shown w h S ns r ht L) (hI : Inc (nm L)) :
    Calls Try.prog 61 #[pv h, r.val, .string s] w (GetPost w L s) := by
  obtain ⟨way, leaf, hd, hlf, hIl, hll, hmem⟩ := get_root hS.root s hI (by have := hS.low; omega)
  have hdown := fun w' (hb : Below w.heap.size w w') => down_any h S ns r s w' (hS.hp.below hb) hS.fits
  rw [hd] at hdown
  clear hd
  obtain ⟨rk, rg, ro, rn⟩ := r
  have b0 : Below w.heap.size w ((w.alloc (.cells #[.int .u64 (rk : Int), .int .i64 rg, .int .i64 ro, .int .i64 rn] 27)).alloc (.cells #[.string ⟨#[]⟩, .slice none 0 0] 47)) := ((Below.refl _ _).alloc (Nat.le_refl _) _).alloc (by simp) _
  have kR := (Blk.new w 27 #[.int .u64 (rk : Int), .int .i64 rg, .int .i64 ro, .int .i64 rn]).alloc (.cells #[.string ⟨#[]⟩, .slice none 0 0] 47)
  have kE := Blk.new (w.alloc (.cells #[.int .u64 (rk : Int), .int .i64 rg, .int .i64 ro, .int .i64 rn] 27)) 47 #[.string ⟨#[]⟩, .slice none 0 0]
  rw [World.size_alloc] at kE
  have hdn := hdown _ b0
  clear hdown hS
  generalize hW0 : (w.alloc (.cells #[.int .u64 (rk : Int), .int .i64 rg, .int .i64 ro, .int .i64 rn] 27)).alloc (.cells #[.string ⟨#[]⟩, .slice none 0 0] 47) = W0 at *
  have x0 := kR.cell 0
  have x1 := kR.cell 1
  have x2 := kR.cell 2
  have x3 := kR.cell 3
  simp only [List.getElem?_toArray, List.getElem?_cons_zero, List.getElem?_cons_succ] at x0 x1 x2 x3
  have lR := kR.lt
  have lE := kE.lt
  go_enter Try.func61, Try.ntmps61
  go_wp2_with fail
  refine hdn.mono ?_
  rintro e w1 ⟨hb1, v1, y, way', B, rfl, hway, hleaf, hSt, hO⟩
  clear hdn hSt hway x0 x1 x2 x3
  obtain ⟨lf, es, ks, yA, yc, yQ, ym⟩ := y
  have hes : es.map pe = leaf.2.1 := by rw [← hleaf]; rfl
  rw [← hes] at hIl hll hmem
  rw [pe_map] at hIl
  rw [List.length_map] at hll
  have bN : Below w1.heap.size w1 (w1.alloc (.cells #[.bool lf, .slice yA es.length yc, .slice yQ ks.length ym] 60)) := (Below.refl _ _).alloc (Nat.le_refl _) _
  have kN := Blk.new w1 60 #[.bool lf, .slice yA es.length yc, .slice yQ ks.length ym]
  have hO2 := hO.1.agree (Agree.of_below bN fun g hg => hg.2)
  have bw1 := b0.trans (hb1.mono b0.size)
  have bw2 := bw1.trans (bN.mono bw1.size)
  have kE1 := (kE.below hb1 kE.lt).below bN (kE.below hb1 kE.lt).lt
  clear hO
  generalize hW2 : w1.alloc (.cells #[.bool lf, .slice yA es.length yc, .slice yQ ks.length ym] 60) = w2 at *
  have n0 := kN.cell 0
  have n1 := kN.cell 1
  simp only [List.getElem?_toArray, List.getElem?_cons_zero, List.getElem?_cons_succ] at n0 n1
  have lN := kN.lt
  obtain ⟨A9, c9, e9, hE9⟩ := hO2.es
  injection e9 with e1 _ e2
  subst e1 e2
  have hpl := place_any es yA yc s w2 hE9.es hIl
  clear hE9
  have HM := vers.lay hmem
  clear hmem hes hleaf
  by_cases hin : s ∈ es.map (·.s)
  · have hfd := lbP_find hIl hin
    obtain ⟨k, hk⟩ : ∃ k, k = lbP (es.map (·.s)) s := ⟨_, rfl⟩
    rw [← hk] at hpl hfd
    rw [hfd] at hpl
    simp only [decide_true] at hpl
    have hkl : k < es.length := by
      have := (List.getElem?_eq_some_iff.1 hfd).1
      rwa [List.length_map] at this
    have hks : es[k].s = s := by
      rw [List.getElem?_map, List.getElem?_eq_getElem hkl] at hfd
      simpa using hfd
    clear hk hfd hin
    go_wp2_with fail
    refine hpl.mono ?_
    rintro e w3 ⟨rfl, hb3⟩
    clear hpl
    have kN3 := kN.below hb3 kN.lt
    have kE2 := kE1.below hb3 kE1.lt
    have hO3 := hO2.agree (Agree.of_below hb3 fun g hg => Nat.lt_of_lt_of_le hg.2 bN.size)
    have bw3 := bw2.trans (hb3.mono bw2.size)
    obtain ⟨A9, c9, e9, hcell⟩ := row_at hO3.1
    injection e9 with e1 _ e2
    subst e1 e2
    obtain ⟨b, rfl, hob, hbl, y0, y1⟩ := hcell k hkl
    have hx := hO3.2.2.2 _ (List.getElem_mem hkl)
    have hmk := (HM.out (pe es[k]) hks).1 (List.mem_map_of_mem (List.getElem_mem hkl))
    have hbw := (hO3.2.2.1 b hob)
    clear hcell n0 n1
    have n1 := kN3.cell 1
    simp only [List.getElem?_toArray, List.getElem?_cons_zero, List.getElem?_cons_succ] at n1
    have lN3 := kN3.lt
    generalize es[k] = x at y0 y1 hx hmk hks
    obtain ⟨xs, xl, xA, xc⟩ := x
    simp only [] at y0 y1 hks
    subst hks
    have lE2 := kE2.lt
    have f0 := kE2.frozen 0
    have f1 := kE2.frozen 1
    have q0 := kE2.cell 0
    have q1 := kE2.cell 1
    simp only [List.getElem?_toArray, List.getElem?_cons_zero, List.getElem?_cons_succ] at q0 q1
    have HX := vers.lay hx
    have HMK := vers.lay hmk
    clear hx hmk
    have hbne : b ≠ w.heap.size + 1 := by have := hbw.1.1; omega
    have hsb0 := hb1.size
    go_wp2_with fail
    have kz := (kE2.put 0 (.string xs)).put 1 (.slice xA xl.length xc)
    have bz := (bw3.setCell (p := ⟨w.heap.size + 1, 0, none⟩) (by simp) (.string xs)).setCell (p := ⟨w.heap.size + 1, 1, none⟩) (by simp) (.slice xA xl.length xc)
    have hOz := HX.out.1.agree (w' := (w3.setCell ⟨w.heap.size + 1, 0, none⟩ (.string xs)).setCell ⟨w.heap.size + 1, 1, none⟩ (.slice xA xl.length xc)) (fun g hg => by
      have hne : g ≠ w.heap.size + 1 := by have := hg.1.1.1; omega
      rw [Below.heap_setCell _ _ _ _ hne, Below.heap_setCell _ _ _ _ hne])
    have hsz : w1.heap.size ≤ ((w3.setCell ⟨w.heap.size + 1, 0, none⟩ (.string xs)).setCell ⟨w.heap.size + 1, 1, none⟩ (.slice xA xl.length xc)).heap.size := by
      simp only [World.size_setCell]
      have := bN.size; have := hb3.size; omega
    simp only [List.setIfInBounds_toArray, List.set_cons_zero, List.set_cons_succ] at kz
    generalize (w3.setCell ⟨w.heap.size + 1, 0, none⟩ (.string xs)).setCell ⟨w.heap.size + 1, 1, none⟩ (.slice xA xl.length xc) = wX at *
    have z0 := kz.cell 0
    have z1 := kz.cell 1
    simp only [List.getElem?_toArray, List.getElem?_cons_zero, List.getElem?_cons_succ] at z0 z1
    refine bodyPost_ret (v := .tuple #[.agg #[.string xs, .slice xA xl.length xc], .bool true, .int .i64 0]) (by simp [results, Try.results61, go_sem, z0, z1]) rfl ⟨bz, ⟨xs, xl, xA, xc⟩, true, rfl, .inl ⟨rfl, HMK.out, rfl⟩, hOz.mono (fun g hg => ⟨by have := hg.1.1.1; have := b0.size; omega, by have := hg.1.2; omega⟩), HX.out.2⟩
  · have hnf : (es.map (·.s))[lbP (es.map (·.s)) s]? ≠ some s := fun h => hin (List.mem_of_getElem? h)
    have HNO := vers.lay (show ∀ y ∈ L, y.1 ≠ s from fun y hy he => hin (by
      have := (HM.out y he).2 hy
      obtain ⟨x, hx, rfl⟩ := List.mem_map.1 this
      exact List.mem_map.2 ⟨x, hx, he⟩))
    rw [decide_eq_false hnf] at hpl
    clear hnf hin
    generalize lbP (es.map (·.s)) s = k at *
    go_wp2_with fail
    refine hpl.mono ?_
    rintro e w3 ⟨rfl, hb3⟩
    clear hpl
    have kE2 := kE1.below hb3 kE1.lt
    have bw3 := bw2.trans (hb3.mono bw2.size)
    have lE2 := kE2.lt
    have f0 := kE2.frozen 0
    have f1 := kE2.frozen 1
    have q0 := kE2.cell 0
    have q1 := kE2.cell 1
    simp only [List.getElem?_toArray, List.getElem?_cons_zero, List.getElem?_cons_succ] at q0 q1
    go_wp2_with fail
    have kz := (kE2.put 0 (.string ⟨#[]⟩)).put 1 (.slice none 0 0)
    have bz := (bw3.setCell (p := ⟨w.heap.size + 1, 0, none⟩) (by simp) (.string ⟨#[]⟩)).setCell (p := ⟨w.heap.size + 1, 1, none⟩) (by simp) (.slice none 0 0)
    simp only [List.setIfInBounds_toArray, List.set_cons_zero, List.set_cons_succ] at kz
    generalize (w3.setCell ⟨w.heap.size + 1, 0, none⟩ (.string ⟨#[]⟩)).setCell ⟨w.heap.size + 1, 1, none⟩ (.slice none 0 0) = wX at *
    have z0 := kz.cell 0
    have z1 := kz.cell 1
    simp only [List.getElem?_toArray, List.getElem?_cons_zero, List.getElem?_cons_succ] at z0 z1
    refine bodyPost_ret (v := .tuple #[.agg #[.string ⟨#[]⟩, .slice none 0 0], .bool false, .int .i64 0]) (by simp [results, Try.results61, go_sem, z0, z1]) rfl ⟨bz, ⟨⟨#[]⟩, [], none, 0⟩, false, rfl, .inr ⟨rfl, HNO.out⟩, ⟨⟨rfl, .inl ⟨rfl, rfl⟩⟩, by simp, (fun y hy => by cases hy), fun g hg => by cases hg⟩, by simp [ByteArray.size]⟩

end Go.Proofs.Ytnndohdiiglgmaa.trees
