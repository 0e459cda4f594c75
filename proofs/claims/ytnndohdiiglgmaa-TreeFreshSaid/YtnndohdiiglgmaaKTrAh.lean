/- tree.Put, where there is room. -/
import Derived.Test.YtnndohdiiglgmaaKTrAf
import Derived.Test.YtnndohdiiglgmaaKTrY


namespace Go.Proofs.Ytnndohdiiglgmaa.trees
set_option linter.unusedVariables false
set_option linter.unusedSimpArgs false
open Go.RowKit Go.Shelf Go.Proofs.Ytnndohdiiglgmaa.base Go.Proofs.Ytnndohdiiglgmaa.vers Go.Proofs.Ytnndohdiiglgmaa.nodes Go.Proofs.Ytnndohdiiglgmaa.quotas

/-- a step up, in pure words -/
def stepQ (s : List P3 × P3) (x : P3 × Nat) : List P3 × P3 := (s.1 ++ splitP s.2, (x.1.1, x.1.2.1, overK x.1.2.2 x.2 0 0 (laidP s.1.length (splitP s.2))))
def upQ (s : List P3 × P3) (l : List (P3 × Nat)) : List P3 × P3 := l.foldl stepQ s
theorem upR_Q (s : List P3 × P3) : ∀ l : List (N × Nat), upR madePut s (l.map toSt) = upQ s (l.map pst) := by
  intro l
  induction l generalizing s with
  | nil => rfl
  | cons x l ih => exact ih (stepP madePut s (toSt x))
theorem upQ_len : ∀ (l : List (P3 × Nat)) (s : List P3 × P3), (upQ s l).1.length ≤ s.1.length + 2 * l.length
  | [], s => Nat.le_refl _
  | a :: l, s => by
    have h1 := upQ_len l (stepQ s a)
    have h2 : (stepQ s a).1.length ≤ s.1.length + 2 := by
      simp only [stepQ, List.length_append]
      have := splitP_len s.2
      omega
    have h3 : upQ s (a :: l) = upQ (stepQ s a) l := rfl
    rw [h3, List.length_cons]
    omega
/-- the pages behind a Put, and the new root -/
def putP (ns : List P3) (way : List (P3 × Nat)) (leaf : P3) (x : PE) : List P3 × R :=
  let st := upQ (ns, (leaf.1, withP leaf.2.1 x, leaf.2.2)) way.reverse
  rootP st.1 (splitP st.2)

set_option maxRecDepth 100000 in
set_option maxHeartbeats 2000000 in
theorem tooHigh_no (PA : Option Addr) (n pc : Nat) (y : N) (w : World) (hn : n + 1 < 8) :
    Calls Try.prog 58 #[.slice PA n pc, y.val] w fun e w' => e = .returned (.bool false) ∧ Below w.heap.size w w' := by
  have n1 : (n : Int) + 1 < 8 := by omega
  obtain ⟨lf, es, ks, A, c, Q, m⟩ := y
  go_enter Try.func58, Try.ntmps58
  go_wp2_with fail
  go_ret
  exact ⟨rfl, (Below.refl _ _).alloc (Nat.le_refl _) _⟩

theorem boxes4 (w : World) (t0 t1 t2 t3 : TypeId) (c0 c1 c2 c3 : Array Value) (W : World) (e : (((w.alloc (.cells c0 t0)).alloc (.cells c1 t1)).alloc (.cells c2 t2)).alloc (.cells c3 t3) = W) :
    Below w.heap.size w W ∧ W.heap.size = w.heap.size + 1 + 1 + 1 + 1 ∧ Blk W w.heap.size t0 c0 ∧ Blk W (w.heap.size + 1) t1 c1 ∧ Blk W (w.heap.size + 1 + 1) t2 c2 ∧ Blk W (w.heap.size + 1 + 1 + 1) t3 c3 := by
  subst e
  refine ⟨((((Below.refl _ w).alloc (Nat.le_refl _) _).alloc (by simp) _).alloc (by simp; omega) _).alloc (by simp; omega) _, by simp, ?_, ?_, ?_, ?_⟩
  · exact (((Blk.new w t0 c0).alloc _).alloc _).alloc _
  · have := ((Blk.new (w.alloc (.cells c0 t0)) t1 c1).alloc (.cells c2 t2)).alloc (.cells c3 t3)
    simpa only [World.size_alloc] using this
  · have := (Blk.new ((w.alloc (.cells c0 t0)).alloc (.cells c1 t1)) t2 c2).alloc (.cells c3 t3)
    simpa only [World.size_alloc] using this
  · have := Blk.new (((w.alloc (.cells c0 t0)).alloc (.cells c1 t1)).alloc (.cells c2 t2)) t3 c3
    simpa only [World.size_alloc] using this

set_option maxRecDepth 100000 in
set_option maxHeartbeats 8000000 in
theorem put_ok (h : Nat) (S : Nat → Prop) (ns : List P3) (r : R) (s : ByteArray) (vl : List V) (A : Option Addr) (c : Nat) (way : List (P3 × Nat)) (leaf : P3) (w : World) (hh : Hp w h S ns) (hr : r.fits) (hV : Vs w w.heap.size vl A c) (hs : s.size ≤ maxLen)
    (hd : downE ns s 9 r 1 = .ok (way, leaf)) (hI : Inc (leaf.2.1.map (·.1))) (hw : way.length + 1 < 8) (hat : ∀ p ∈ way, p.2 < p.1.2.2.length ∧ p.1.2.2.length ≤ 1000) (hl : leaf.2.1.length ≤ 1000) (hn : ns.length + 2 * way.length + 3 ≤ 20000) :
    Calls Try.prog 18 #[pv h, r.val, .agg #[.string s, .slice A vl.length c]] w (RootPost w h S (putP ns way leaf (s, vl))) := by
  have hdown := fun w' (hb : Below w.heap.size w w') => down_any h S ns r s w' (hh.agree (fun g hg => hb.block g (hh.lt g hg)) hb.size) hr
  rw [hd] at hdown
  have hSl := hh.lt
  obtain ⟨rk, rg, ro, rn⟩ := r
  obtain ⟨W0, hW0⟩ : ∃ W0, ((((w.alloc (.cells #[.int .u64 (rk : Int), .int .i64 rg, .int .i64 ro, .int .i64 rn] 27)).alloc (.cells #[.string s, .slice A vl.length c] 47)).alloc (.cells #[.int .u64 0, .int .i64 0, .int .i64 0, .int .i64 0] 27)).alloc (.cells #[.iface 23 (.pointer (some ⟨h, 0, none⟩))] 111)) = W0 := ⟨_, rfl⟩
  obtain ⟨b0, z0, kR0, kE, kZ, kC⟩ := boxes4 _ _ _ _ _ _ _ _ _ _ hW0
  have HW0 := vers.lay hW0
  have HD := vers.lay hd
  clear hW0 hd
  go_enter Try.func18, Try.ntmps18
  go_wp2_with fail
  rw [HW0.out]
  refine (hdown _ b0).mono ?_
  rintro e w1 ⟨hb1, v1, y, way', B, rfl, hway, hleaf, hSt, hO⟩
  have bw1 := b0.trans (hb1.mono b0.size)
  have z1 := hb1.size
  have kR0 := kR0.below hb1 kR0.lt
  have kE := kE.below hb1 kE.lt
  have kZ := kZ.below hb1 kZ.lt
  have kC := kC.below hb1 kC.lt
  have hwl : way'.length = way.length := by rw [← hway, List.length_map]
  obtain ⟨PA, pc, rfl, hSF⟩ := StF.of_steps hSt (by omega)
  rw [List.length_map]
  obtain ⟨lf, es, ks, yA, yc, yQ, ym⟩ := y
  have e0 := kE.cell 0
  have e1 := kE.cell 1
  simp only [List.getElem?_toArray, List.getElem?_cons_zero, List.getElem?_cons_succ] at e0 e1
  have lE := kE.lt
  have kG := Blk.new w1 60 #[.bool lf, .slice yA es.length yc, .slice yQ ks.length ym]
  have b2 : Below w1.heap.size w1 (w1.alloc (.cells #[.bool lf, .slice yA es.length yc, .slice yQ ks.length ym] 60)) := (Below.refl _ _).alloc (Nat.le_refl _) _
  have hes : es.map pe = leaf.2.1 := by rw [← hleaf]; rfl
  have hnames : es.map (·.s) = leaf.2.1.map (·.1) := by rw [← hes, pe_map]
  have hesl : es.length ≤ 1000 := by rw [← hes, List.length_map] at hl; exact hl
  have bw2 := bw1.trans (b2.mono bw1.size)
  have hwith := with_any es (.slice yA es.length yc) s vl A c (fun g => (W0.heap.size ≤ g ∧ B ≤ g) ∧ g < w1.heap.size) _ (hO.1.agree (Agree.of_below b2 fun g hg => hg.2)) (fun g hg => by simp; omega) ((hV.below bw2).more bw2.size) hs (by rw [hnames]; exact hI) (by omega)
  have hyb : ∀ g, (Value.slice yA es.length yc).ownBlock = some g → g < w1.heap.size := fun g hg => (hO.1.2.2.1 g hg).2
  have hQb : ∀ a, yQ = some a → a.block < w1.heap.size := fun a e => (hO.2.1.1.lt a.block (by rw [e]; rfl)).2
  go_wp2_with fail
  refine hwith.mono ?_
  rintro e w3 ⟨v', l', rfl, hl', hO3, hK3⟩
  obtain ⟨A', c', rfl, hE3⟩ := hO3.es
  have z3 := hK3.size
  simp only [World.size_alloc] at z3
  have K3 : ∀ g, g < W0.heap.size → w3.heap[g]? = w1.heap[g]? := fun g hg => (hK3.block g (by simp; omega) (fun e => by have := hO.1.2.2.1 g e; omega)).trans (b2.block g (by omega))
  have kG3 : Blk w3 w1.heap.size 60 #[.bool lf, .slice yA es.length yc, .slice yQ ks.length ym] := (hK3.block _ (by simp) (fun e => by have := hyb _ e; omega)).trans kG
  have kC3 : Blk w3 (w.heap.size + 1 + 1 + 1) 111 #[.iface 23 (.pointer (some ⟨h, 0, none⟩))] := (K3 _ (by omega)).trans kC
  have kZ3 : Blk w3 (w.heap.size + 1 + 1) 27 #[.int .u64 0, .int .i64 0, .int .i64 0, .int .i64 0] := (K3 _ (by omega)).trans kZ
  have bw3 : Below w.heap.size w w3 := bw2.trans (hK3.below (fun g e => by have := hO.1.2.2.1 g e; omega) bw2.size)
  have g0 := kG3.cell 0
  have g1 := kG3.cell 1
  have g2 := kG3.cell 2
  simp only [List.getElem?_toArray, List.getElem?_cons_zero, List.getElem?_cons_succ] at g0 g1 g2
  have gf := kG3.frozen 1
  have lG := kG3.lt
  -- what lies in memory of the call's own, apart from the boxes
  have hGs : ∀ g, w3.heap.size ≤ g ∨ ((W0.heap.size ≤ g ∧ B ≤ g) ∧ g < w1.heap.size) ∨ (w1.heap.size + 1 ≤ g ∧ g < w3.heap.size) ∨ (W0.heap.size ≤ g ∧ g < B ∧ g < w1.heap.size) → g ≠ w1.heap.size := fun g hg => by omega
  have hE3' : EsF w3 (fun g => (W0.heap.size ≤ g ∧ g ≠ w1.heap.size) ∧ g < w3.heap.size) l' A' c' := hE3.mono fun g hg => by
    rcases hg with hg | hg
    · exact ⟨⟨hg.1.1, by omega⟩, by omega⟩
    · simp only [World.size_alloc] at hg
      exact ⟨⟨by omega, by omega⟩, hg.2⟩
  have hOK : OwnKF w1 (fun g => ((W0.heap.size ≤ g ∧ B ≤ g) ∧ g < w1.heap.size) ∧ (Value.slice yQ ks.length ym).ownBlock = some g) ks (.slice yQ ks.length ym) := ⟨hO.2.1.1, hO.2.1.2.1, fun g hg => ⟨hO.2.1.2.2.1 g hg, hg⟩, hO.2.1.2.2.2⟩
  obtain ⟨Q1, m1, eQ, hKs1⟩ := hOK.ks
  injection eQ with eQ _ em
  subst eQ em
  have hKs3 : KsF w3 (fun g => (W0.heap.size ≤ g ∧ g ≠ w1.heap.size) ∧ g < w3.heap.size) ks yQ ym := (hKs1.agree (w' := w3) (fun g hg => (hK3.block g (by simp; omega) (fun e => hO.2.2 g e hg.2)).trans (b2.block g hg.1.2))).mono fun g hg => ⟨⟨hg.1.1.1, by omega⟩, by omega⟩
  have hlow : ∀ g, g < B → isC w1 g → w3.heap[g]? = w1.heap[g]? := fun g hg hc => by
    have hlt : g < w1.heap.size := by
      obtain ⟨cs, t, fr, hc⟩ := hc
      exact (Array.getElem?_eq_some_iff.1 hc).1
    exact (hK3.block g (by simp; omega) (fun e => by have := hO.1.2.2.1 g e; omega)).trans (b2.block g hlt)
  have hltC : ∀ g, isC w1 g → g < w1.heap.size := fun g hc => by
    obtain ⟨cs, t, fr, hc⟩ := hc
    exact (Array.getElem?_eq_some_iff.1 hc).1
  clear hwith hE3 hK3 e0 e1 lE
  go_wp2_with fail
  have bw4 := bw3.setCell (p := ⟨w1.heap.size, 1, none⟩) (by simp; omega) (.slice A' l'.length c')
  have kG4 := kG3.put 1 (.slice A' l'.length c')
  simp only [List.setIfInBounds_toArray, List.set_cons_zero, List.set_cons_succ] at kG4
  have h34 : ∀ g, g ≠ w1.heap.size → (w3.setCell ⟨w1.heap.size, 1, none⟩ (.slice A' l'.length c')).heap[g]? = w3.heap[g]? := fun g hg => Below.heap_setCell _ _ _ _ (by simpa using hg)
  have z4 : (w3.setCell ⟨w1.heap.size, 1, none⟩ (.slice A' l'.length c')).heap.size = w3.heap.size := by simp
  generalize w3.setCell ⟨w1.heap.size, 1, none⟩ (.slice A' l'.length c') = w4 at bw4 kG4 h34 z4 ⊢
  refine (tooHigh_no PA way.length pc ⟨lf, l', ks, A', c', yQ, ym⟩ _ hw).mono ?_
  rintro e w5 ⟨rfl, b5⟩
  have z5 := b5.size
  have bw5 := bw4.trans (b5.mono bw4.size)
  have h35 : ∀ g, g < w3.heap.size → g ≠ w1.heap.size → w5.heap[g]? = w3.heap[g]? := fun g hg hn => (b5.block g (by omega)).trans (h34 g hn)
  have kG5 := kG4.below b5 kG4.lt
  have kC5 : Blk w5 (w.heap.size + 1 + 1 + 1) 111 #[.iface 23 (.pointer (some ⟨h, 0, none⟩))] := (h35 _ kC3.lt (by omega)).trans kC3
  have kZ5 : Blk w5 (w.heap.size + 1 + 1) 27 #[.int .u64 0, .int .i64 0, .int .i64 0, .int .i64 0] := (h35 _ kZ3.lt (by omega)).trans kZ3
  have hF5 : ∀ g, ((W0.heap.size ≤ g ∧ g ≠ w1.heap.size) ∧ g < w5.heap.size) → g < w5.heap.size ∧ ¬ S g := fun g hg => ⟨hg.2, fun h0 => by have := hSl g h0; omega⟩
  have hE5 := (hE3'.agree (w' := w5) (fun g hg => h35 g hg.2 hg.1.2)).mono (G := fun g => (W0.heap.size ≤ g ∧ g ≠ w1.heap.size) ∧ g < w5.heap.size) (fun g hg => ⟨hg.1, by omega⟩)
  have hKs5 := (hKs3.agree (w' := w5) (fun g hg => h35 g hg.2 hg.1.2)).mono (G := fun g => (W0.heap.size ≤ g ∧ g ≠ w1.heap.size) ∧ g < w5.heap.size) (fun g hg => ⟨hg.1, by omega⟩)
  have hst5 : ∀ g, ((W0.heap.size ≤ g ∧ g < B) ∧ isC w1 g) → w5.heap[g]? = w1.heap[g]? := fun g hg => (h35 g (by have := hltC g hg.2; omega) (by have := hltC g hg.2; omega)).trans (hlow g hg.1.2 hg.2)
  have hS5 : StF w5 (fun g => (W0.heap.size ≤ g ∧ g ≠ w1.heap.size) ∧ g < w5.heap.size) (way'.map toSt) PA pc := ⟨hSF.1, hSF.2.1, hSF.2.2.1, (hSF.2.2.2.cells.agree hst5).mono fun g hg => ⟨⟨hg.1.1, by have := hltC g hg.2; omega⟩, by have := hltC g hg.2; omega⟩⟩
  have hsteps : ∀ s ∈ way'.map toSt, NsF w5 (fun g => (W0.heap.size ≤ g ∧ g ≠ w1.heap.size) ∧ g < w5.heap.size) s.n ∧ s.na = 0 ∧ s.nb = 0 ∧ s.at_ < s.n.ks.length ∧ s.n.ks.length ≤ 1000 := fun s hs => by
    obtain ⟨x, hx, rfl⟩ := List.mem_map.1 hs
    have h1 := hat (pst x) (by rw [← hway]; exact List.mem_map_of_mem hx)
    exact ⟨(((hSt.2.2 x hx).ns.cells.agree (fun g hg => hst5 g ⟨hg.1.1, hg.2⟩)).mono fun g hg => ⟨⟨hg.1.1.1, by have := hltC g hg.2; omega⟩, by have := hltC g hg.2; omega⟩), rfl, rfl, h1.1, h1.2⟩
  have hup := up_put (way'.map toSt) PA pc ⟨lf, l', ks, A', c', yQ, ym⟩ h S ns _ w5 (hh.agree (Agree.of_below bw5 hh.lt) bw5.size) hS5 ⟨hE5, hKs5⟩ hF5 hsteps (by rw [List.length_map, hwl]; omega) (fun a e => by have := hQb a e; omega)
  rw [← List.map_reverse, upR_Q, List.map_reverse, hway, List.length_map, hwl] at hup
  have hx0 : ((⟨lf, l', ks, A', c', yQ, ym⟩ : N)).p = (leaf.1, withP leaf.2.1 (s, vl), leaf.2.2) := by
    rw [← hleaf]
    exact congrArg (fun z => ((lf, z, ks) : P3)) hl'
  rw [hx0] at hup
  have HU := vers.lay hup
  have g0 := kG5.cell 0
  have g1 := kG5.cell 1
  have g2 := kG5.cell 2
  have c0 := kC5.cell 0
  simp only [List.getElem?_toArray, List.getElem?_cons_zero, List.getElem?_cons_succ] at g0 g1 g2 c0
  have lG := kG5.lt
  have lC := kC5.lt
  clear hup
  go_wp2_with fail
  refine HU.out.mono ?_
  rintro e w6 ⟨S6, ⟨lf6, es6, ks6, A6, c6, Q6, m6⟩, rfl, hy6, hH6, hS6, hN6, hK6⟩
  go_wp2_with fail
  have kT := Blk.new w6 60 #[.bool lf6, .slice A6 es6.length c6, .slice Q6 ks6.length m6]
  have b7 : Below w6.heap.size w6 (w6.alloc (.cells #[.bool lf6, .slice A6 es6.length c6, .slice Q6 ks6.length m6] 60)) := (Below.refl _ _).alloc (Nat.le_refl _) _
  have z7 : (w6.alloc (.cells #[.bool lf6, .slice A6 es6.length c6, .slice Q6 ks6.length m6] 60)).heap.size = w6.heap.size + 1 := by simp
  have z6 := hK6.size
  have hnS : ∀ g, w.heap.size ≤ g → ¬ S g := fun g hg h0 => by have := hSl g h0; omega
  have kC7 := (hK6.blk kC5 (hnS _ (by omega))).below b7 (hK6.blk kC5 (hnS _ (by omega))).lt
  have kZ7 := (hK6.blk kZ5 (hnS _ (by omega))).below b7 (hK6.blk kZ5 (hnS _ (by omega))).lt
  have hS6' : ∀ g, S6 g → S g ∨ w.heap.size + 4 ≤ g := fun g hg => (hS6 g hg).imp id (fun h => by omega)
  have hn8 : ¬ S6 (w.heap.size + 1 + 1 + 1) := fun h0 => by
    rcases hS6' _ h0 with h1 | h1
    · exact hnS _ (by omega) h1
    · omega
  have hn6 : ¬ S6 (w.heap.size + 1 + 1) := fun h0 => by
    rcases hS6' _ h0 with h1 | h1
    · exact hnS _ (by omega) h1
    · omega
  have hn12 : ¬ S6 w6.heap.size := fun h0 => by have := hH6.lt _ h0; omega
  have hH7 := hH6.below b7
  have bw7 : Keep S w (w6.alloc (.cells #[.bool lf6, .slice A6 es6.length c6, .slice Q6 ks6.length m6] 60)) := ⟨b7.os.trans (hK6.os.trans bw5.os), b7.tape.trans (hK6.tape.trans bw5.tape), b7.output.trans (hK6.output.trans bw5.output), by have := bw5.size; omega, fun k hk hn => (b7.block k (by omega)).trans ((hK6.block k (by have := bw5.size; omega) hn).trans (bw5.block k hk))⟩
  have hN7 : NsF (w6.alloc (.cells #[.bool lf6, .slice A6 es6.length c6, .slice Q6 ks6.length m6] 60)) (fun g => g < w6.heap.size ∧ ¬ S6 g) ⟨lf6, es6, ks6, A6, c6, Q6, m6⟩ := hN6.agree (Agree.of_below b7 fun g hg => hg.1)
  have hlen6 := upQ_len way.reverse (ns, (leaf.1, withP leaf.2.1 (s, vl), leaf.2.2))
  rw [List.length_reverse] at hlen6
  simp only at hlen6
  have HPUT : Hid (putP ns way leaf (s, vl) = rootP (upQ (ns, (leaf.1, withP leaf.2.1 (s, vl), leaf.2.2)) way.reverse).1 (splitP (upQ (ns, (leaf.1, withP leaf.2.1 (s, vl), leaf.2.2)) way.reverse).2)) := vers.lay rfl
  generalize upQ (ns, (leaf.1, withP leaf.2.1 (s, vl), leaf.2.2)) way.reverse = st at hH6 hH7 hy6 hlen6 HPUT
  obtain ⟨W7, hW7⟩ : ∃ W7, w6.alloc (.cells #[.bool lf6, .slice A6 es6.length c6, .slice Q6 ks6.length m6] 60) = W7 := ⟨_, rfl⟩
  rw [hW7] at kT b7 z7 kC7 kZ7 hH7 bw7 hN7 ⊢
  clear hW7 HU
  have c8 := kC7.cell 0
  have t0 := kT.cell 0
  have t1 := kT.cell 1
  have t2 := kT.cell 2
  simp only [List.getElem?_toArray, List.getElem?_cons_zero, List.getElem?_cons_succ] at c8 t0 t1 t2
  have l8 := kC7.lt
  have l12 : w6.heap.size < W7.heap.size := by omega
  have hSb : Below W7.heap.size W7 W7.drew := (Below.refl _ _).drew
  have hS0 : Keep S6 W7 W7.drew := Keep.of_below hSb
  refine mix.region_D (fun w' => Keep S6 W7 w') (fun j => j == 6 || j == 7) (by kernel_rfl) ?_
  generalize W7.drew = Wd at hSb hS0 ⊢
  refine mix.D_take (i := 0) (v := ?_) rfl (by kernel_rfl) (by kernel_rfl) (fun _ _ _ h => h) (Or.inl ⟨by rfl, ?_⟩) hS0 ?_
  rotate_left
  · intro w' hSw
    have y0 := (hSw.cell (p := ⟨w.heap.size + 1 + 1 + 1, 0, none⟩) l8 hn8).trans c8
    have y1 := (hSw.cell (p := ⟨w6.heap.size, 0, none⟩) l12 hn12).trans t0
    have y2 := (hSw.cell (p := ⟨w6.heap.size, 1, none⟩) l12 hn12).trans t1
    have y3 := (hSw.cell (p := ⟨w6.heap.size, 2, none⟩) l12 hn12).trans t2
    try simp only [List.getElem_toArray, List.getElem_cons_zero, List.getElem_cons_succ]
    go_simp
    exact rfl
  try simp only [Act.put, List.setIfInBounds_toArray, List.set_cons_zero, List.set_cons_succ, List.getElem_toArray, List.getElem_cons_zero, List.getElem_cons_succ]
  refine mix.D_take (i := 1) (v := ?_) rfl (by kernel_rfl) (by kernel_rfl) (fun _ _ _ h => h) (Or.inl ⟨by rfl, ?_⟩) hS0 ?_
  rotate_left
  · intro w' hSw
    have y0 := (hSw.cell (p := ⟨w.heap.size + 1 + 1 + 1, 0, none⟩) l8 hn8).trans c8
    have y1 := (hSw.cell (p := ⟨w6.heap.size, 0, none⟩) l12 hn12).trans t0
    have y2 := (hSw.cell (p := ⟨w6.heap.size, 1, none⟩) l12 hn12).trans t1
    have y3 := (hSw.cell (p := ⟨w6.heap.size, 2, none⟩) l12 hn12).trans t2
    try simp only [List.getElem_toArray, List.getElem_cons_zero, List.getElem_cons_succ]
    go_simp
    exact rfl
  try simp only [Act.put, List.setIfInBounds_toArray, List.set_cons_zero, List.set_cons_succ, List.getElem_toArray, List.getElem_cons_zero, List.getElem_cons_succ]
  refine mix.D_op (k := 2) rfl rfl (by kernel_rfl) (fun K' hK => ?_)
  simp only [List.getElem_toArray, List.getElem_cons_zero, List.getElem_cons_succ]
  go_wp2_with fail
  refine (split_any ⟨lf6, es6, ks6, A6, c6, Q6, m6⟩ _ Wd (hN7.agree (Agree.of_below hSb fun g hg => by omega)) (fun g hg => by have := hSb.size; omega)).mono ?_
  rintro e w8 hN
  obtain ⟨l1, A1, c1, rfl, e1, h1, b8⟩ := hN
  have b78 := hSb.trans (b8.mono hSb.size)
  have hS2 : Keep S6 W7 w8 := Keep.of_below b78
  have hl1 : 1 ≤ l1.length := by
    have := congrArg List.length e1
    rw [List.length_map] at this
    have := splitP_pos (⟨lf6, es6, ks6, A6, c6, Q6, m6⟩ : N).p
    omega
  have hl2 : l1.length ≤ 2 := by
    have := congrArg List.length e1
    rw [List.length_map] at this
    have := splitP_len (⟨lf6, es6, ks6, A6, c6, Q6, m6⟩ : N).p
    omega
  have hroot := rooted_ok l1 A1 c1 h S6 st.1 w8 (hH7.agree (Agree.of_below b78 hH7.lt) b78.size) _ h1 (fun g hg => by
    have := b8.size
    have := hSb.size
    rcases hg with hg | hg
    · exact ⟨by omega, hg.2⟩
    · exact ⟨hg.2, fun h0 => by have := hH7.lt g h0; omega⟩) hl1 (by omega)
  rw [e1, hy6, ← HPUT.out] at hroot
  have HRT := vers.lay hroot
  clear hroot
  refine hK.out _ _ (fun _ => hS2) ?_
  clear hK K'
  try simp only [Act.put, List.setIfInBounds_toArray, List.set_cons_zero, List.set_cons_succ]
  refine mix.D_op (k := 3) rfl rfl (by kernel_rfl) (fun K' hK => ?_)
  simp only [List.getElem_toArray, List.getElem_cons_zero, List.getElem_cons_succ]
  go_wp2_with fail
  refine HRT.out.mono ?_
  rintro e w9 ⟨S9, rfl, hH9, hS9, hK9⟩
  have hS3 : Keep S6 W7 w9 := hS2.trans hK9 (fun g hg _ => hg)
  generalize hrr : (putP ns way leaf (s, vl)).2 = rr
  have HRR := vers.lay hrr
  clear hrr
  obtain ⟨pk, pg, po, pn⟩ := rr
  have kZ9 := hS3.blk kZ7 hn6
  refine hK.out _ _ (fun _ => hS3) ?_
  clear hK K'
  try simp only [Act.put, List.setIfInBounds_toArray, List.set_cons_zero, List.set_cons_succ]
  refine mix.D_take (i := 4) (v := ?_) rfl (by kernel_rfl) (by kernel_rfl) (fun _ _ _ h => h) (Or.inl ⟨by rfl, ?_⟩) hS3 ?_
  rotate_left
  · intro w' hSw
    try simp only [List.getElem_toArray, List.getElem_cons_zero, List.getElem_cons_succ]
    go_simp
    exact rfl
  try simp only [Act.put, List.setIfInBounds_toArray, List.set_cons_zero, List.set_cons_succ, List.getElem_toArray, List.getElem_cons_zero, List.getElem_cons_succ]
  refine mix.D_take (i := 5) (v := ?_) rfl (by kernel_rfl) (by kernel_rfl) (fun _ _ _ h => h) (Or.inl ⟨by rfl, ?_⟩) hS3 ?_
  rotate_left
  · intro w' hSw
    try simp only [List.getElem_toArray, List.getElem_cons_zero, List.getElem_cons_succ]
    go_simp
    exact rfl
  try simp only [Act.put, List.setIfInBounds_toArray, List.set_cons_zero, List.set_cons_succ, List.getElem_toArray, List.getElem_cons_zero, List.getElem_cons_succ]
  refine mix.D_op (k := 6) rfl rfl (by kernel_rfl) (fun K' hK => ?_)
  simp only [List.getElem_toArray, List.getElem_cons_zero, List.getElem_cons_succ]
  have q0 := kZ9.cell 0
  have q1 := kZ9.cell 1
  have q2 := kZ9.cell 2
  have q3 := kZ9.cell 3
  simp only [List.getElem?_toArray, List.getElem?_cons_zero, List.getElem?_cons_succ] at q0 q1 q2 q3
  have f0 := kZ9.frozen 0
  have f1 := kZ9.frozen 1
  have f2 := kZ9.frozen 2
  have f3 := kZ9.frozen 3
  have lZ := kZ9.lt
  go_wp2_with fail
  refine hK.out _ _ (fun h => by simp at h) ?_
  clear hK K'
  try simp only [Act.put, List.setIfInBounds_toArray, List.set_cons_zero, List.set_cons_succ]
  refine mix.D_op (k := 7) rfl rfl (by kernel_rfl) (fun K' hK => ?_)
  simp only [List.getElem_toArray, List.getElem_cons_zero, List.getElem_cons_succ]
  go_wp2_with fail
  refine hK.out _ _ (fun h => by simp at h) ?_
  clear hK K'
  refine mix.D_done (by kernel_rfl) ?_ _
  try simp only [Act.put, List.setIfInBounds_toArray, List.set_cons_zero, List.set_cons_succ, List.getElem_toArray, List.getElem_cons_zero, List.getElem_cons_succ]
  go_wp2_with fail
  have kF := (((kZ9.put 0 (.int .u64 (pk : Int))).put 1 (.int .i64 pg)).put 2 (.int .i64 po)).put 3 (.int .i64 pn)
  have K79 : Keep S w w9 := ⟨hS3.os.trans bw7.os, hS3.tape.trans bw7.tape, hS3.output.trans bw7.output, Nat.le_trans bw7.size hS3.size, fun k hk hn => (hS3.block k (Nat.lt_of_lt_of_le hk bw7.size) (fun h0 => by
    rcases hS6' k h0 with h1 | h1
    · exact hn h1
    · omega)).trans (bw7.block k hk hn)⟩
  have K4 := four4_keep K79 (g := w.heap.size + 1 + 1) (by omega) (.int .u64 (pk : Int)) (.int .i64 pg) (.int .i64 po) (.int .i64 pn)
  have h8w : w.heap.size + 4 ≤ w8.heap.size := by have := b78.size; omega
  have hS9' : ∀ g, S9 g → S g ∨ w.heap.size + 4 ≤ g := fun g hg => by
    rcases hS9 g hg with h1 | h1
    · exact hS6' g h1
    · exact .inr (by omega)
  have hne : ¬ S9 (w.heap.size + 1 + 1) := fun h0 => by
    rcases hS9' _ h0 with h1 | h1
    · exact hnS _ (by omega) h1
    · omega
  have H4 := hH9.four hne (.int .u64 (pk : Int)) (.int .i64 pg) (.int .i64 po) (.int .i64 pn)
  unfold four4 at K4 H4
  simp only [List.setIfInBounds_toArray, List.set_cons_zero, List.set_cons_succ] at kF
  generalize (((w9.setCell ⟨w.heap.size + 1 + 1, 0, none⟩ (.int .u64 (pk : Int))).setCell ⟨w.heap.size + 1 + 1, 1, none⟩ (.int .i64 pg)).setCell ⟨w.heap.size + 1 + 1, 2, none⟩ (.int .i64 po)).setCell ⟨w.heap.size + 1 + 1, 3, none⟩ (.int .i64 pn) = wX at kF K4 H4 ⊢
  have q0 := kF.cell 0
  have q1 := kF.cell 1
  have q2 := kF.cell 2
  have q3 := kF.cell 3
  simp only [List.getElem?_toArray, List.getElem?_cons_zero, List.getElem?_cons_succ] at q0 q1 q2 q3
  refine bodyPost_ret (v := .tuple #[.agg #[.int .u64 (pk : Int), .int .i64 pg, .int .i64 po, .int .i64 pn], .int .i64 0]) (by simp [results, Try.results18, go_sem, q0, q1, q2, q3]) rfl ⟨S9, by rw [HRR.out], H4, fun g hg => (hS9' g hg).imp id (fun h => by omega), K4⟩

end Go.Proofs.Ytnndohdiiglgmaa.trees
