/- The law's after, behind a call that puts; and as a whole. -/
import Derived.Test.YtjlglfjikfpboaaBkHc
import Derived.Test.YtjlglfjikfpboaaVerFK
import Derived.Test.YtjlglfjikfpboaaMixCE


namespace Go.Proofs.Ytjlglfjikfpboaa.books
set_option linter.unusedVariables false
set_option linter.unusedSimpArgs false
open Go.RowKit Go.Shelf Go.Proofs.Ytjlglfjikfpboaa.base Go.Proofs.Ytjlglfjikfpboaa.quotas Go.Proofs.Ytjlglfjikfpboaa.vers Go.Proofs.Ytjlglfjikfpboaa.nodes Go.Proofs.Ytjlglfjikfpboaa.trees Go.Proofs.Ytjlglfjikfpboaa.texts

theorem grown_to {B : Nat} {W w w1 : World} {row : Option Nat} (hb : Below B W w) (hg : w.grownBy w1 row) (hr : ∀ g, row = some g → B ≤ g) (hB : B ≤ W.heap.size) : Below B W w1 := by
  have := hb.size
  exact hb.trans ⟨hg.os, hg.tape, hg.output, hg.size, fun k hk => hg.block k (by omega) (fun e => by have := hr k e.symm; omega)⟩
theorem OwnV.one (lo : Nat) (w : World) (x : V) (hx : x.fits) (h : lo ≤ w.heap.size) : OwnV lo (w.alloc (.cells #[.int .i64 x.n, .string x.v, .string x.t] 147)) [x] (.slice (some ⟨w.heap.size, 0, none⟩) 1 1) :=
  ⟨⟨rfl, .inr ⟨w.heap.size, 1, _, rfl, h, heap_alloc_new w _, Nat.le_refl _, by unfold maxLen; decide, rfl, rfl⟩⟩, by simp, fun y hy => by rw [List.mem_singleton.1 hy]; exact hx⟩
theorem OwnV.keep {lo : Nat} {w w' : World} {l : List V} {v : Value} {S : Nat → Prop} (h : OwnV lo w l v) (hk : Keep S w w') (hS : ∀ g, v.ownBlock = some g → ¬ S g) : OwnV lo w' l v :=
  ⟨ownsRow_agree h.1 fun g hg => hk.block g (h.own g hg).2 (hS g hg), h.2⟩
/-- where the call stands behind the loop: x's number is one more, its list is what goes on -/
structure AfMid (w : World) (ob : O) (F : List TM) (u : Value) (xs : ByteArray) (xl : List V) (xA : Option Addr) (xc : Nat) (n : Int) (wr : World) : Prop where
  bel : Below w.heap.size w wr
  ob : Blk wr w.heap.size 92 (oc ob)
  xb : Blk wr (w.heap.size + 1) 95 #[.string xs, .slice xA xl.length xc, .int .i64 n]
  row : wr.ownsRow 0 95 3 u F.length (cellsT F)
  lo : ∀ g, u.ownBlock = some g → w.heap.size + 2 ≤ g
theorem AfHead.nu {w : World} {ob : O} {T : List TM} {j : Nat} {u : Value} {wr : World} (h : AfHead w ob T j u wr) : ∀ g, u.ownBlock = some g → g < wr.heap.size := fun g hg => (h.row.lt g hg).2
theorem AfHead.mid {w : World} {ob : O} {T : List TM} {j : Nat} {u : Value} {wr : World} (h : AfHead w ob T j u wr) {x : TM} (hx : tmOf ob.s T j = x) (n : Int) :
    AfMid w ob (flT ob.s T j) u x.s x.l x.A x.c n (wr.setCell ⟨w.heap.size + 1, 2, none⟩ (.int .i64 n)) := by
  have hxb := h.xb
  rw [hx] at hxb
  refine ⟨h.bel.setCell (p := ⟨w.heap.size + 1, 2, none⟩) (by simp) _, h.ob.far (p := ⟨w.heap.size + 1, 2, none⟩) (by simp) _, ?_, ?_, h.lo⟩
  · have := hxb.put 2 (.int .i64 n)
    simpa using this
  · refine ownsRow_agree h.row fun g hg => ?_
    have := h.lo g hg
    rw [Below.heap_setCell _ _ _ _ (by simp; omega)]
theorem AfMid.set1 {w : World} {ob : O} {F : List TM} {u : Value} {xs : ByteArray} {xl : List V} {xA : Option Addr} {xc : Nat} {n : Int} {wr : World} (h : AfMid w ob F u xs xl xA xc n wr) (xl' : List V) (A' : Option Addr) (c' : Nat) {v : Value} (hv : v = .slice A' xl'.length c') :
    AfMid w ob F u xs xl' A' c' n (wr.setCell ⟨w.heap.size + 1, 1, none⟩ v) := by
  subst hv
  refine ⟨h.bel.setCell (p := ⟨w.heap.size + 1, 1, none⟩) (by simp) _, h.ob.far (p := ⟨w.heap.size + 1, 1, none⟩) (by simp) _, ?_, ?_, h.lo⟩
  · have := h.xb.put 1 (.slice A' xl'.length c')
    simpa using this
  · refine ownsRow_agree h.row fun g hg => ?_
    have := h.lo g hg
    rw [Below.heap_setCell _ _ _ _ (by simp; omega)]
theorem AfMid.to {w : World} {ob : O} {F : List TM} {u : Value} {xs : ByteArray} {xl : List V} {xA : Option Addr} {xc : Nat} {n : Int} {wr w' : World} (h : AfMid w ob F u xs xl xA xc n wr) (hb : Below wr.heap.size wr w') : AfMid w ob F u xs xl xA xc n w' :=
  ⟨h.bel.trans (hb.mono h.bel.size), h.ob.below hb h.ob.lt, h.xb.below hb h.xb.lt, row_below h.row hb, h.lo⟩
theorem AfMid.fin {w : World} {ob : O} {F : List TM} {u : Value} {xs : ByteArray} {L9 : List V} {A9 : Option Addr} {c9 : Nat} {n : Int} {WZ w9 : World} {lo : Nat} {v9 : Value} (MW : AfMid w ob F u xs L9 A9 c9 n WZ) (hOB : OwnV lo WZ L9 (.slice A9 L9.length c9)) (hlo : ∀ g, u.ownBlock = some g → g < lo)
    (hF : ∀ y ∈ F, (Vs w w.heap.size y.l y.A y.c ∧ y.s.size ≤ maxLen) ∧ (0 ≤ y.n ∧ True)) (hFl : F.length ≤ 1000000) (hxs : xs.size ≤ maxLen)
    (ho9 : w9.ownsRow 0 95 3 v9 (F ++ [(⟨xs, L9, A9, c9, n⟩ : TM)]).length (cellsT (F ++ [(⟨xs, L9, A9, c9, n⟩ : TM)]))) (hk9 : Keep (fun g => u.ownBlock = some g) WZ w9) (hv9 : ∀ g, v9.ownBlock = some g → u.ownBlock = some g ∨ (WZ.heap.size ≤ g ∧ g < w9.heap.size)) (hlw : w.heap.size ≤ lo) :
    ∃ A' c', Ending.returned v9 = .returned (.slice A' (F ++ [(⟨xs, L9, A9, c9, n⟩ : TM)]).length c') ∧ Below w.heap.size w w9 ∧ TDs w9 w9.heap.size (F ++ [(⟨xs, L9, A9, c9, n⟩ : TM)]) A' c' ∧ (∀ b off, A' = some ⟨b, off, none⟩ → w.heap.size ≤ b) ∧ ∀ b off, A9 = some ⟨b, off, none⟩ → w.heap.size ≤ b := by
  have hbel : Below w.heap.size w w9 := MW.bel.trans (hk9.below (fun g hg => by have := MW.lo g hg; omega) MW.bel.size)
  have hO9 : OwnV lo w9 L9 (.slice A9 L9.length c9) := books.OwnV.keep hOB hk9 fun g hg hu => by have := hlo g hu; have := (hOB.own g hg).1; omega
  obtain ⟨A8, c8, e8, hv8, hlo8⟩ := hO9.vs
  cases e8
  obtain ⟨A', c', rfl, hT⟩ := td_rows ho9 (by rw [List.length_append, List.length_singleton]; omega) (fun x hx => by
    rcases List.mem_append.1 hx with hx | hx
    · exact ⟨(((hF x hx).1.1).below hbel).more hbel.size, (hF x hx).1.2⟩
    · rw [List.mem_singleton.1 hx]; exact ⟨hv8, hxs⟩)
  exact ⟨A', c', rfl, hbel, hT, fun b off e => by
    rcases hv9 b (by rw [e]; rfl) with h | h
    · have := MW.lo b h; omega
    · have := MW.bel.size; omega, fun b off e => Nat.le_trans hlw (hlo8 b off e)⟩
theorem mcells {w : World} {g : Nat} {a b c : Value} (h : Blk w g 95 #[a, b, c]) : w.cell? ⟨g, 0, none⟩ = some a ∧ w.cell? ⟨g, 1, none⟩ = some b ∧ w.cell? ⟨g, 2, none⟩ = some c := by
  have t0 := h.cell 0
  have t1 := h.cell 1
  have t2 := h.cell 2
  simp only [List.getElem?_toArray, List.getElem?_cons_zero, List.getElem?_cons_succ] at t0 t1 t2
  exact ⟨t0, t1, t2⟩
/-- what is told stays within bounds -/
theorem afterP_le {M : Nat} {T : List TD} {o : O} (h : ∀ x ∈ T, 0 ≤ x.n ∧ x.n ≤ M ∧ x.l.length ≤ M) : ∀ x ∈ afterP T o, 0 ≤ x.n ∧ x.n ≤ (M + 1 : Nat) ∧ x.l.length ≤ M + 1 := by
  have hf : ∀ x ∈ T.filter (fun x => decide (x.s ≠ o.s)), 0 ≤ x.n ∧ x.n ≤ (M + 1 : Nat) ∧ x.l.length ≤ M + 1 := fun x hx => by
    obtain ⟨h1, h2, h3⟩ := h x (List.mem_filter.1 hx).1
    exact ⟨h1, by omega, by omega⟩
  have ht : 0 ≤ (tdOf T o.s).n ∧ (tdOf T o.s).n ≤ M ∧ (tdOf T o.s).l.length ≤ M := by
    by_cases hx : ∃ x ∈ T, x.s = o.s
    · exact h _ (tdOf_some hx).1
    · rw [tdOf_none hx]; exact ⟨Int.le_refl 0, by show (0 : Int) ≤ M; omega, by simp⟩
  intro x hx
  unfold afterP at hx
  split at hx
  · exact hf x hx
  · rcases List.mem_append.1 hx with hx | hx
    · exact hf x hx
    · rw [List.mem_singleton.1 hx]
      refine ⟨by show 0 ≤ (tdOf T o.s).n + 1; omega, by show (tdOf T o.s).n + 1 ≤ (M + 1 : Nat); omega, ?_⟩
      show ((if o.k = 2 then [] else (tdOf T o.s).l) ++ [(⟨(tdOf T o.s).n + 1, o.v, o.t⟩ : V)]).length ≤ M + 1
      rw [List.length_append, List.length_singleton]
      split
      · simp
      · omega
theorem afterP_len (T : List TD) (o : O) : (afterP T o).length ≤ T.length + 1 := by
  have := List.length_filter_le (fun x : TD => decide (x.s ≠ o.s)) T
  unfold afterP
  split
  · omega
  · rw [List.length_append, List.length_singleton]; omega

theorem after_eq (T : List TM) {o : O} (h3 : o.k ≠ 3) {x : TM} (hx : tmOf o.s T T.length = x) (A : Option Addr) (c : Nat) :
    (flT o.s T T.length ++ [(⟨x.s, (if o.k = 2 then [] else x.l) ++ [⟨x.n + 1, o.v, o.t⟩], A, c, x.n + 1⟩ : TM)]).map pT = afterP (T.map pT) o := by
  have h1 := tmOf_all o.s T
  rw [hx] at h1
  rw [List.map_append, flT_all]
  unfold afterP
  rw [if_neg h3, ← h1]
  rfl

set_option maxRecDepth 100000 in
set_option maxHeartbeats 4000000 in
theorem after_put (T : List TM) (A : Option Addr) (c : Nat) (o : O) (w : World) (M : Nat) (hT : TDs w w.heap.size T A c) (hl : T.length ≤ 1000000) (hM : M ≤ 1000000) (hx : ∀ x ∈ T, 0 ≤ x.n ∧ x.n ≤ M ∧ x.l.length ≤ M) (hf : o.fits) (h3 : o.k ≠ 3) :
    Calls Try.prog 47 #[.slice A T.length c, .agg #[.int .i64 o.k, .string o.s, .string o.v, .string o.t]] w fun e w' => ∃ T' A' c', e = .returned (.slice A' T'.length c') ∧ Below w.heap.size w w' ∧ TDs w' w'.heap.size T' A' c' ∧ T'.map pT = afterP (T.map pT) o ∧ ∀ lo, lo ≤ w.heap.size → LoT lo T A → LoT lo T' A' := by
  have hoS := hf
  have hb0 : Below w.heap.size w ((w.alloc (.cells (oc o) 92)).alloc (.cells (tc ⟨o.s, [], none, 0, 0⟩) 95)) := ((Below.refl _ _).alloc (Nat.le_refl _) _).alloc (by simp) _
  have hk0 := (Blk.new w 92 (oc o)).alloc (.cells (tc ⟨o.s, [], none, 0, 0⟩) 95)
  have hk1 := Blk.new (w.alloc (.cells (oc o) 92)) 95 (tc ⟨o.s, [], none, 0, 0⟩)
  simp only [World.size_alloc] at hk1
  have H0 : AfHead w o T 0 (.slice none 0 0) ((w.alloc (.cells (oc o) 92)).alloc (.cells (tc ⟨o.s, [], none, 0, 0⟩) 95)) := ⟨hb0, hk0, hk1, ⟨rfl, .inl ⟨rfl, rfl⟩⟩, fun g h => by cases h⟩
  have d3 := eq_no h3
  have HEA := vers.lay (fun (x : TM) (hx : tmOf o.s T T.length = x) (A : Option Addr) (c : Nat) => after_eq T h3 hx A c)
  clear hb0 hk0 hk1 h3
  have hTl : T.length ≤ 140737488355328 := by omega
  obtain ⟨ok, os, ov, ot⟩ := o
  simp only [] at *
  go_enter Try.func47, Try.ntmps47
  go_wp2_with fail
  go_loopw [14, 5] (fun i u wr => ∃ j : Nat, j ≤ T.length ∧ i = .int .i64 (j : Int) ∧ AfHead w ⟨ok, os, ov, ot⟩ T j u wr) (fun i _ _ => T.length - (intOf i).toNat)
  case atStart => exact ⟨0, Nat.zero_le _, rfl, H0⟩
  case round =>
    clear H0
    obtain ⟨j, hj, rfl, hA⟩ := hrel
    by_cases hlt : j < T.length
    · obtain ⟨bk, off, rfl, hbk, x0, x1, x2, _⟩ := (hT.at_world hA.bel).at_ hlt
      have hy := vers.lay (fun h => flT_yes (s := os) hlt h)
      have hn := vers.lay (fun h => flT_no (s := os) hlt h)
      have hle := flT_le os T j
      generalize T[j] = x at x0 x1 x2 hy hn
      obtain ⟨xs, xl, xA, xc, xn⟩ := x
      simp only [] at x0 x1 x2 hy hn
      have bZ : Below wr.heap.size wr (wr.alloc (.cells #[.string xs, .slice xA xl.length xc, .int .i64 xn] 95)) := (Below.refl _ _).alloc (Nat.le_refl _) _
      have kZ := Blk.new wr 95 #[.string xs, .slice xA xl.length xc, .int .i64 xn]
      have HZ := hA.below bZ
      have zZ := bZ.size
      generalize hWZ : wr.alloc (.cells #[.string xs, .slice xA xl.length xc, .int .i64 xn] 95) = WZ at *
      have lZ := kZ.lt
      have y0 := kZ.cell 0
      have y1 := kZ.cell 1
      have y2 := kZ.cell 2
      simp only [List.getElem?_toArray, List.getElem?_cons_zero, List.getElem?_cons_succ] at y0 y1 y2
      obtain ⟨o0, o1, o2, o3⟩ := ocells HZ.ob
      have lO := HZ.ob.lt
      have lX := HZ.xb.lt
      have t0 := HZ.xb.cell 0
      have t1 := HZ.xb.cell 1
      have t2 := HZ.xb.cell 2
      simp only [List.getElem?_toArray, List.getElem?_cons_zero, List.getElem?_cons_succ] at t0 t1 t2
      have f0 := HZ.xb.frozen 0
      have f1 := HZ.xb.frozen 1
      have f2 := HZ.xb.frozen 2
      have lo0 := hA.ob.lt
      have hlw := hA.bel.size
      by_cases hs : xs = os
      · have g1 : (xs.toList == os.toList) = true := by rw [hs]; exact beq_self_eq_true _
        have hfe := vers.lay (hy.out hs)
        have HS := vers.lay (fun a b c ha hb hc => HZ.set3 hfe.out.2 hfe.out.1 (a := a) (b := b) (c := c) ha hb hc)
        clear hy hn hs HZ hA
        go_wp2_with fail
        exact ⟨⟨j + 1, hlt, by go_num, HS.out _ _ _ rfl rfl rfl⟩, by simp [intOf]; omega⟩
      · have g1 : (xs.toList == os.toList) = false := by
          rw [beq_eq_false_iff_ne, Lib.toList_data, Lib.toList_data]
          exact fun e => hs (bn_ext e)
        have hfe := vers.lay (hn.out hs)
        have hOZ := HZ.row
        have HP := vers.lay (fun u' w' ho hK hv => HZ.put hfe.out.1 hfe.out.2 (u' := u') (w' := w') ho hK hv)
        clear hy hn hs HZ hA
        simp only [] at hOZ
        go_wp2_with (at_builtin; refine wp_told (e := ⟨xs, xl, xA, xc, xn⟩) rfl _ _ rfl hOZ rfl rfl rfl (by omega) ?_; intro v9 w9 ho9 hk9 hv9 hz9)
        exact ⟨⟨j + 1, hlt, by go_num, HP.out _ _ ho9 hk9 hv9⟩, by simp [intOf]; omega⟩
    · obtain rfl : j = T.length := by omega
      obtain ⟨o0, o1, o2, o3⟩ := ocells hA.ob
      have lO := hA.ob.lt
      have hbel := hA.bel
      have lX := hA.xb.lt
      have hle := flT_le os T T.length
      obtain ⟨x, hxe⟩ : ∃ x, tmOf os T T.length = x := ⟨_, rfl⟩
      have hxT : (0 ≤ x.n ∧ x.n ≤ (M : Int) ∧ x.l.length ≤ M) ∧ Vs w w.heap.size x.l x.A x.c ∧ x.s.size ≤ maxLen := by
        rcases tmOf_mem os T T.length with h | h
        · rw [hxe] at h; exact ⟨hx x h, hT.2.2.2.2 x h⟩
        · rw [hxe] at h; subst h; exact ⟨⟨Int.le_refl 0, by show (0 : Int) ≤ M; omega, Nat.zero_le _⟩, Vs.any_nil _ _ _ _ (fun _ => rfl), hoS.2.1⟩
      have HEQ := vers.lay (fun (A : Option Addr) (c : Nat) => HEA.out x hxe A c)
      have HFM := vers.lay (fun y (hy : y ∈ flT os T T.length) => (⟨⟨hT.2.2.2.2 y (flT_mem hy), flT_mem hy⟩, hx y (flT_mem hy)⟩ : ((Vs w w.heap.size y.l y.A y.c ∧ y.s.size ≤ maxLen) ∧ y ∈ T) ∧ (0 ≤ y.n ∧ y.n ≤ (M : Int) ∧ y.l.length ≤ M)))
      have HMID := vers.lay (fun n => hA.mid (x := x) hxe n)
      have HNU := vers.lay hA.nu
      have hxb := hA.xb
      simp only [] at hxb
      rw [hxe] at hxb
      obtain ⟨t0, t1, t2⟩ := mcells hxb
      have f2 := hxb.frozen 2
      clear hA HEA hx hxe hxb
      generalize flT os T T.length = F at *
      obtain ⟨xs, xl, xA, xc, xn⟩ := x
      simp only [] at *
      obtain ⟨⟨n0, n1, n2⟩, hV, hxsz⟩ := hxT
      have e1 : IntKind.i64.wrap (xn + 1) = xn + 1 := IntWalk.i64_in _ (by omega)
      have e2 : wrap64 (xn + 1) = xn + 1 := IntWalk.wrap64_in _ (by omega)
      have hfx : (⟨xn + 1, ov, ot⟩ : V).fits := ⟨⟨by show (-9223372036854775808 : Int) ≤ xn + 1; omega, by show xn + 1 ≤ (9223372036854775807 : Int); omega⟩, hoS.2.2.1, hoS.2.2.2⟩
      by_cases h2 : ok = 2
      · have d2 := eq_yes h2
        have HEQ2 := vers.lay (fun (A : Option Addr) (c : Nat) => by have := HEQ.out A c; rw [if_pos h2] at this; exact this)
        clear HEQ
        have HK2 := vers.lay h2
        clear h2
        have f1 := (HMID.out (xn + 1)).xb.frozen 1
        have MB0 := vers.lay ((HMID.out (xn + 1)).set1 [] none 0 (v := .slice none 0 0) rfl)
        clear HMID
        go_wp2_with fail
        have MB := MB0.out
        clear MB0 o0 o1 o2 o3 t0 t1 t2 f1 f2
        have hWz : wr.heap.size = (World.setCell (World.setCell wr ⟨w.heap.size + 1, 2, none⟩ (.int .i64 (xn + 1))) ⟨w.heap.size + 1, 1, none⟩ (.slice none 0 0)).heap.size := by simp
        generalize World.setCell (World.setCell wr ⟨w.heap.size + 1, 2, none⟩ (.int .i64 (xn + 1))) ⟨w.heap.size + 1, 1, none⟩ (.slice none 0 0) = WB at MB hWz ⊢
        have hVs : Vs WB WB.heap.size ([] : List V) none 0 := Vs.any_nil _ _ _ _ (fun _ => rfl)
        obtain ⟨L9, hL9⟩ : ∃ L, ([] : List V) ++ [⟨xn + 1, ov, ot⟩] = L := ⟨_, rfl⟩
        have HL9 := vers.lay hL9
        rw [hL9] at HEQ2
        clear hL9
        obtain ⟨_, _, o2, o3⟩ := ocells MB.ob
        obtain ⟨_, t1, t2⟩ := mcells MB.xb
        simp only [List.length_nil] at t1
        have hS0 : Below WB.heap.size WB WB.drew := (Below.refl _ _).drew
        refine mix.region_D (fun w' => Below WB.heap.size WB w') (fun j => j == 14) (by kernel_rfl) ?_
        generalize WB.drew = WBd at hS0 ⊢
        refine mix.D_takeT (i := 1) (v := ?_) rfl (by kernel_rfl) (by kernel_rfl) (fun _ _ _ h => h) (Or.inl ⟨by rfl, ?_⟩) hS0 ?_
        rotate_left
        · intro w' hSw
          have y0 := (hSw.cell (p := ⟨w.heap.size + 1, 1, none⟩) MB.xb.lt).trans t1
          have y1 := (hSw.cell (p := ⟨w.heap.size + 1, 2, none⟩) MB.xb.lt).trans t2
          have y2 := (hSw.cell (p := ⟨w.heap.size, 2, none⟩) MB.ob.lt).trans o2
          have y3 := (hSw.cell (p := ⟨w.heap.size, 3, none⟩) MB.ob.lt).trans o3
          try simp only [List.getElem_toArray, List.getElem_cons_zero, List.getElem_cons_succ]
          go_simp
          exact rfl
        try simp only [Act.put, List.setIfInBounds_toArray, List.set_cons_zero, List.set_cons_succ, List.getElem_toArray, List.getElem_cons_zero, List.getElem_cons_succ]
        refine mix.D_takeT (i := 2) (v := ?_) rfl (by kernel_rfl) (by kernel_rfl) (fun _ _ _ h => h) (Or.inl ⟨by rfl, ?_⟩) hS0 ?_
        rotate_left
        · intro w' hSw
          have y0 := (hSw.cell (p := ⟨w.heap.size + 1, 1, none⟩) MB.xb.lt).trans t1
          have y1 := (hSw.cell (p := ⟨w.heap.size + 1, 2, none⟩) MB.xb.lt).trans t2
          have y2 := (hSw.cell (p := ⟨w.heap.size, 2, none⟩) MB.ob.lt).trans o2
          have y3 := (hSw.cell (p := ⟨w.heap.size, 3, none⟩) MB.ob.lt).trans o3
          try simp only [List.getElem_toArray, List.getElem_cons_zero, List.getElem_cons_succ]
          go_simp
          exact rfl
        try simp only [Act.put, List.setIfInBounds_toArray, List.set_cons_zero, List.set_cons_succ, List.getElem_toArray, List.getElem_cons_zero, List.getElem_cons_succ]
        refine mix.D_takeT (i := 4) (v := ?_) rfl (by kernel_rfl) (by kernel_rfl) (fun _ _ _ h => h) (Or.inl ⟨by rfl, ?_⟩) hS0 ?_
        rotate_left
        · intro w' hSw
          have y0 := (hSw.cell (p := ⟨w.heap.size + 1, 1, none⟩) MB.xb.lt).trans t1
          have y1 := (hSw.cell (p := ⟨w.heap.size + 1, 2, none⟩) MB.xb.lt).trans t2
          have y2 := (hSw.cell (p := ⟨w.heap.size, 2, none⟩) MB.ob.lt).trans o2
          have y3 := (hSw.cell (p := ⟨w.heap.size, 3, none⟩) MB.ob.lt).trans o3
          try simp only [List.getElem_toArray, List.getElem_cons_zero, List.getElem_cons_succ]
          go_simp
          exact rfl
        try simp only [Act.put, List.setIfInBounds_toArray, List.set_cons_zero, List.set_cons_succ, List.getElem_toArray, List.getElem_cons_zero, List.getElem_cons_succ]
        refine mix.D_takeT (i := 5) (v := ?_) rfl (by kernel_rfl) (by kernel_rfl) (fun _ _ _ h => h) (Or.inl ⟨by rfl, ?_⟩) hS0 ?_
        rotate_left
        · intro w' hSw
          have y0 := (hSw.cell (p := ⟨w.heap.size + 1, 1, none⟩) MB.xb.lt).trans t1
          have y1 := (hSw.cell (p := ⟨w.heap.size + 1, 2, none⟩) MB.xb.lt).trans t2
          have y2 := (hSw.cell (p := ⟨w.heap.size, 2, none⟩) MB.ob.lt).trans o2
          have y3 := (hSw.cell (p := ⟨w.heap.size, 3, none⟩) MB.ob.lt).trans o3
          try simp only [List.getElem_toArray, List.getElem_cons_zero, List.getElem_cons_succ]
          go_simp
          exact rfl
        try simp only [Act.put, List.setIfInBounds_toArray, List.set_cons_zero, List.set_cons_succ, List.getElem_toArray, List.getElem_cons_zero, List.getElem_cons_succ]
        refine mix.D_takeT (i := 6) (v := ?_) rfl (by kernel_rfl) (by kernel_rfl) (fun _ _ _ h => h) (Or.inl ⟨by rfl, ?_⟩) hS0 ?_
        rotate_left
        · intro w' hSw
          have y0 := (hSw.cell (p := ⟨w.heap.size + 1, 1, none⟩) MB.xb.lt).trans t1
          have y1 := (hSw.cell (p := ⟨w.heap.size + 1, 2, none⟩) MB.xb.lt).trans t2
          have y2 := (hSw.cell (p := ⟨w.heap.size, 2, none⟩) MB.ob.lt).trans o2
          have y3 := (hSw.cell (p := ⟨w.heap.size, 3, none⟩) MB.ob.lt).trans o3
          try simp only [List.getElem_toArray, List.getElem_cons_zero, List.getElem_cons_succ]
          go_simp
          exact rfl
        try simp only [Act.put, List.setIfInBounds_toArray, List.set_cons_zero, List.set_cons_succ, List.getElem_toArray, List.getElem_cons_zero, List.getElem_cons_succ]
        refine mix.D_takeT (i := 7) (v := ?_) rfl (by kernel_rfl) (by kernel_rfl) (fun _ _ _ h => h) (Or.inl ⟨by rfl, ?_⟩) hS0 ?_
        rotate_left
        · intro w' hSw
          have y0 := (hSw.cell (p := ⟨w.heap.size + 1, 1, none⟩) MB.xb.lt).trans t1
          have y1 := (hSw.cell (p := ⟨w.heap.size + 1, 2, none⟩) MB.xb.lt).trans t2
          have y2 := (hSw.cell (p := ⟨w.heap.size, 2, none⟩) MB.ob.lt).trans o2
          have y3 := (hSw.cell (p := ⟨w.heap.size, 3, none⟩) MB.ob.lt).trans o3
          try simp only [List.getElem_toArray, List.getElem_cons_zero, List.getElem_cons_succ]
          go_simp
          exact rfl
        try simp only [Act.put, List.setIfInBounds_toArray, List.set_cons_zero, List.set_cons_succ, List.getElem_toArray, List.getElem_cons_zero, List.getElem_cons_succ]
        refine mix.D_takeT (i := 8) (v := ?_) rfl (by kernel_rfl) (by kernel_rfl) (fun _ _ _ h => h) (Or.inl ⟨by rfl, ?_⟩) hS0 ?_
        rotate_left
        · intro w' hSw
          have y0 := (hSw.cell (p := ⟨w.heap.size + 1, 1, none⟩) MB.xb.lt).trans t1
          have y1 := (hSw.cell (p := ⟨w.heap.size + 1, 2, none⟩) MB.xb.lt).trans t2
          have y2 := (hSw.cell (p := ⟨w.heap.size, 2, none⟩) MB.ob.lt).trans o2
          have y3 := (hSw.cell (p := ⟨w.heap.size, 3, none⟩) MB.ob.lt).trans o3
          try simp only [List.getElem_toArray, List.getElem_cons_zero, List.getElem_cons_succ]
          go_simp
          exact rfl
        try simp only [Act.put, List.setIfInBounds_toArray, List.set_cons_zero, List.set_cons_succ, List.getElem_toArray, List.getElem_cons_zero, List.getElem_cons_succ]
        refine mix.D_takeT (i := 9) (v := ?_) rfl (by kernel_rfl) (by kernel_rfl) (fun _ _ _ h => h) (Or.inl ⟨by rfl, ?_⟩) hS0 ?_
        rotate_left
        · intro w' hSw
          have y0 := (hSw.cell (p := ⟨w.heap.size + 1, 1, none⟩) MB.xb.lt).trans t1
          have y1 := (hSw.cell (p := ⟨w.heap.size + 1, 2, none⟩) MB.xb.lt).trans t2
          have y2 := (hSw.cell (p := ⟨w.heap.size, 2, none⟩) MB.ob.lt).trans o2
          have y3 := (hSw.cell (p := ⟨w.heap.size, 3, none⟩) MB.ob.lt).trans o3
          try simp only [List.getElem_toArray, List.getElem_cons_zero, List.getElem_cons_succ]
          go_simp
          exact rfl
        try simp only [Act.put, List.setIfInBounds_toArray, List.set_cons_zero, List.set_cons_succ, List.getElem_toArray, List.getElem_cons_zero, List.getElem_cons_succ]
        refine mix.D_takeT (i := 10) (v := ?_) rfl (by kernel_rfl) (by kernel_rfl) (fun _ _ _ h => h) (Or.inl ⟨by rfl, ?_⟩) hS0 ?_
        rotate_left
        · intro w' hSw
          have y0 := (hSw.cell (p := ⟨w.heap.size + 1, 1, none⟩) MB.xb.lt).trans t1
          have y1 := (hSw.cell (p := ⟨w.heap.size + 1, 2, none⟩) MB.xb.lt).trans t2
          have y2 := (hSw.cell (p := ⟨w.heap.size, 2, none⟩) MB.ob.lt).trans o2
          have y3 := (hSw.cell (p := ⟨w.heap.size, 3, none⟩) MB.ob.lt).trans o3
          try simp only [List.getElem_toArray, List.getElem_cons_zero, List.getElem_cons_succ]
          go_simp
          exact rfl
        try simp only [Act.put, List.setIfInBounds_toArray, List.set_cons_zero, List.set_cons_succ, List.getElem_toArray, List.getElem_cons_zero, List.getElem_cons_succ]
        refine mix.D_two (k := 0) (j := 11) rfl rfl rfl rfl (by kernel_rfl) (fun K' hK => ?_) (fun K' hK => ?_)
        · simp only [List.getElem_toArray, List.getElem_cons_zero, List.getElem_cons_succ]
          go_wp2_with fail
          have hs1 : Below WBd.heap.size WBd (WBd.alloc (.cells #[] 147)) := (Below.refl _ _).alloc (Nat.le_refl _) _
          have hE1 := OwnV.empty WB.heap.size WBd hS0.size
          have hsz1 : WBd.heap.size < (WBd.alloc (.cells #[] 147)).heap.size := by simp
          generalize WBd.alloc (.cells #[] 147) = wb1 at hs1 hE1 hsz1 ⊢
          have hb1 : Below WB.heap.size WB wb1 := hS0.trans (hs1.mono hS0.size)
          refine hK.out _ _ (fun _ => hb1) ?_
          clear hK K'
          try simp only [Act.put, List.setIfInBounds_toArray, List.set_cons_zero, List.set_cons_succ]
          refine mix.D_two (k := 3) (j := 11) rfl rfl rfl rfl (by kernel_rfl) (fun K' hK => ?_) (fun K' hK => ?_)
          · simp only [List.getElem_toArray, List.getElem_cons_zero, List.getElem_cons_succ]
            refine vers.wp_append_vs (.tmp 41) (.tmp 43) rfl (m := ([] : List V)) hE1 rfl hb1.size rfl rfl ((hVs.below hb1).more hb1.size) (by simp only [List.length_nil]; omega) ?_
            intro v2 wb2 hA2 hg2 ho2
            obtain ⟨A2, n2, c2, rfl, hn2⟩ := hA2.shape
            have hs2 := hg2.size
            have hown2 := hE1.own
            have hb2 : Below WB.heap.size WB wb2 := grown_to hb1 hg2 (fun g hg => (hown2 g hg).1) (Nat.le_refl _)
            have zw2 := vers.lay (rfl : wb1.heap.size = wb1.heap.size)
            refine hK.out _ _ (fun _ => hb2) ?_
            clear hK K'
            try simp only [Act.put, List.setIfInBounds_toArray, List.set_cons_zero, List.set_cons_succ]
            refine mix.D_op (k := 11) rfl rfl (by kernel_rfl) (fun K' hK => ?_)
            simp only [List.getElem_toArray, List.getElem_cons_zero, List.getElem_cons_succ]
            go_wp2_with fail
            have hs3 : Below wb2.heap.size wb2 (wb2.alloc (.cells #[.int .i64 (xn + 1), .string ov, .string ot] 147)) := (Below.refl _ _).alloc (Nat.le_refl _) _
            have hR3 := OwnV.one WB.heap.size wb2 ⟨xn + 1, ov, ot⟩ hfx hb2.size
            have hsz3 : wb2.heap.size < (wb2.alloc (.cells #[.int .i64 (xn + 1), .string ov, .string ot] 147)).heap.size := by simp
            generalize wb2.alloc (.cells #[.int .i64 (xn + 1), .string ov, .string ot] 147) = wb3 at hs3 hR3 hsz3 ⊢
            have hA3 := hA2.below hs3
            have hb3 : Below WB.heap.size WB wb3 := hb2.trans (hs3.mono hb2.size)
            refine hK.out _ _ (fun _ => hb3) ?_
            clear hK K'
            try simp only [Act.put, List.setIfInBounds_toArray, List.set_cons_zero, List.set_cons_succ]
            refine mix.D_op (k := 12) rfl rfl (by kernel_rfl) (fun K' hK => ?_)
            simp only [List.getElem_toArray, List.getElem_cons_zero, List.getElem_cons_succ]
            obtain ⟨AR4, cR4, eR4, hVR4, _⟩ := hR3.vs
            cases eR4
            refine vers.wp_append_vs (.tmp 44) (.tmp 52) rfl (m := [⟨xn + 1, ov, ot⟩]) hA3 rfl hb3.size rfl rfl hVR4 (by first | (simp only [List.nil_append, List.length_singleton]; omega) | simp) ?_
            intro v4 wb4 hB4 hg4 ho4
            obtain ⟨A4, n4, c4, rfl, hn4⟩ := hB4.shape
            have hs4 := hg4.size
            have hown4 := hA3.own
            have hb4 : Below WB.heap.size WB wb4 := grown_to hb3 hg4 (fun g hg => (hown4 g hg).1) (Nat.le_refl _)
            rw [List.nil_append, HL9.out] at hB4 hn4
            refine hK.out _ _ (fun _ => hb4) ?_
            clear hK K'
            try simp only [Act.put, List.setIfInBounds_toArray, List.set_cons_zero, List.set_cons_succ]
            refine mix.D_takeT (i := 13) (v := ?_) rfl (by kernel_rfl) (by kernel_rfl) (fun _ _ _ h => h) (Or.inl ⟨by rfl, ?_⟩) hb4 ?_
            rotate_left
            · intro w' hSw
              have y0 := (hSw.cell (p := ⟨w.heap.size + 1, 1, none⟩) MB.xb.lt).trans t1
              have y1 := (hSw.cell (p := ⟨w.heap.size + 1, 2, none⟩) MB.xb.lt).trans t2
              have y2 := (hSw.cell (p := ⟨w.heap.size, 2, none⟩) MB.ob.lt).trans o2
              have y3 := (hSw.cell (p := ⟨w.heap.size, 3, none⟩) MB.ob.lt).trans o3
              try simp only [List.getElem_toArray, List.getElem_cons_zero, List.getElem_cons_succ]
              go_simp
              exact rfl
            try simp only [Act.put, List.setIfInBounds_toArray, List.set_cons_zero, List.set_cons_succ, List.getElem_toArray, List.getElem_cons_zero, List.getElem_cons_succ]
            refine mix.D_op (k := 14) rfl rfl (by kernel_rfl) (fun K' hK => ?_)
            simp only [List.getElem_toArray, List.getElem_cons_zero, List.getElem_cons_succ]
            obtain rfl := hn4.out
            have MZ := MB.to hb4
            have hwz := hb4.size
            have MW := MZ.set1 L9 A4 c4 rfl
            have lX := MZ.xb.lt
            obtain ⟨t0, t1, t2⟩ := mcells MZ.xb
            have f1 := MZ.xb.frozen 1
            have hOB : OwnV WB.heap.size (wb4.setCell ⟨w.heap.size + 1, 1, none⟩ (.slice A4 L9.length c4)) L9 (.slice A4 L9.length c4) := ⟨ownsRow_agree hB4.1 fun g hg => Below.heap_setCell _ _ _ _ (fun e => by have := (hB4.own g hg).1; have := MB.xb.lt; simp only at e; omega), hB4.2⟩
            have hbZ := hb4
            clear hB4 hVs
            go_wp2_with fail
            refine hK.out _ _ (fun h => by simp at h) ?_
            clear hK K' MZ t0 t1 t2
            refine mix.D_done (by kernel_rfl) ?_ _
            generalize wb4.setCell ⟨w.heap.size + 1, 1, none⟩ (.slice A4 L9.length c4) = WZ at MW hOB ⊢
            obtain ⟨t0, t1, t2⟩ := mcells MW.xb
            have lX := MW.xb.lt
            have hrow := MW.row
            have hz := MW.bel.size
            go_wp2_with (at_builtin; refine wp_told (e := ⟨xs, L9, A4, c4, xn + 1⟩) rfl _ _ rfl hrow rfl rfl rfl (by omega) ?_; intro v9 w9 ho9 hk9 hv9 hz9)
            go_ret
            obtain ⟨A', c', e', hb', hT', hl1, hl2⟩ := MW.fin hOB (fun g hg => by have := HNU.out g hg; omega) (fun y hy => ⟨(HFM.out y hy).1.1, (HFM.out y hy).2.1, trivial⟩) (by omega) hxsz ho9 hk9 hv9 (by have := hbel.size; omega)
            exact ⟨_, A', c', e', hb', hT', HEQ2.out _ _, fun lo h1 h2 => ⟨fun b off e => Nat.le_trans h1 (hl1 b off e), fun y hy => by
              rcases List.mem_append.1 hy with hy | hy
              · exact h2.2 y (HFM.out y hy).1.2
              · rw [List.mem_singleton.1 hy]; exact fun b off e => Nat.le_trans h1 (hl2 b off e)⟩⟩
          · simp only [List.getElem_toArray, List.getElem_cons_zero, List.getElem_cons_succ]
            go_wp2_with fail
            have hs6 : Below wb1.heap.size wb1 (wb1.alloc (.cells #[.int .i64 (xn + 1), .string ov, .string ot] 147)) := (Below.refl _ _).alloc (Nat.le_refl _) _
            have hR6 := OwnV.one WB.heap.size wb1 ⟨xn + 1, ov, ot⟩ hfx hb1.size
            have hsz6 : wb1.heap.size < (wb1.alloc (.cells #[.int .i64 (xn + 1), .string ov, .string ot] 147)).heap.size := by simp
            generalize wb1.alloc (.cells #[.int .i64 (xn + 1), .string ov, .string ot] 147) = wb6 at hs6 hR6 hsz6 ⊢
            have hE6 := hE1.below hs6
            have hb6 : Below WB.heap.size WB wb6 := hb1.trans (hs6.mono hb1.size)
            refine hK.out _ _ (fun _ => hb6) ?_
            clear hK K'
            try simp only [Act.put, List.setIfInBounds_toArray, List.set_cons_zero, List.set_cons_succ]
            refine mix.D_op (k := 3) rfl rfl (by kernel_rfl) (fun K' hK => ?_)
            simp only [List.getElem_toArray, List.getElem_cons_zero, List.getElem_cons_succ]
            refine vers.wp_append_vs (.tmp 41) (.tmp 43) rfl (m := ([] : List V)) hE6 rfl hb6.size rfl rfl ((hVs.below hb6).more hb6.size) (by simp only [List.length_nil]; omega) ?_
            intro v7 wb7 hA7 hg7 ho7
            obtain ⟨A7, n7, c7, rfl, hn7⟩ := hA7.shape
            have hs7 := hg7.size
            have hown7 := hE6.own
            have hb7 : Below WB.heap.size WB wb7 := grown_to hb6 hg7 (fun g hg => (hown7 g hg).1) (Nat.le_refl _)
            have zw7 := vers.lay (rfl : wb6.heap.size = wb6.heap.size)
            have hR7 := hR6.kept hg7 (fun g hg e => by have h1 : WBd.heap.size = g := Option.some.inj hg; have h2 : wb1.heap.size = g := Option.some.inj e; skip; have s1 := hs1.size; have s6 := hs6.size; omega)
            refine hK.out _ _ (fun _ => hb7) ?_
            clear hK K'
            try simp only [Act.put, List.setIfInBounds_toArray, List.set_cons_zero, List.set_cons_succ]
            refine mix.D_op (k := 12) rfl rfl (by kernel_rfl) (fun K' hK => ?_)
            simp only [List.getElem_toArray, List.getElem_cons_zero, List.getElem_cons_succ]
            obtain ⟨AR8, cR8, eR8, hVR8, _⟩ := hR7.vs
            cases eR8
            refine vers.wp_append_vs (.tmp 44) (.tmp 52) rfl (m := [⟨xn + 1, ov, ot⟩]) hA7 rfl hb7.size rfl rfl hVR8 (by first | (simp only [List.nil_append, List.length_singleton]; omega) | simp) ?_
            intro v8 wb8 hB8 hg8 ho8
            obtain ⟨A8, n8, c8, rfl, hn8⟩ := hB8.shape
            have hs8 := hg8.size
            have hown8 := hA7.own
            have hb8 : Below WB.heap.size WB wb8 := grown_to hb7 hg8 (fun g hg => (hown8 g hg).1) (Nat.le_refl _)
            rw [List.nil_append, HL9.out] at hB8 hn8
            refine hK.out _ _ (fun _ => hb8) ?_
            clear hK K'
            try simp only [Act.put, List.setIfInBounds_toArray, List.set_cons_zero, List.set_cons_succ]
            refine mix.D_takeT (i := 13) (v := ?_) rfl (by kernel_rfl) (by kernel_rfl) (fun _ _ _ h => h) (Or.inl ⟨by rfl, ?_⟩) hb8 ?_
            rotate_left
            · intro w' hSw
              have y0 := (hSw.cell (p := ⟨w.heap.size + 1, 1, none⟩) MB.xb.lt).trans t1
              have y1 := (hSw.cell (p := ⟨w.heap.size + 1, 2, none⟩) MB.xb.lt).trans t2
              have y2 := (hSw.cell (p := ⟨w.heap.size, 2, none⟩) MB.ob.lt).trans o2
              have y3 := (hSw.cell (p := ⟨w.heap.size, 3, none⟩) MB.ob.lt).trans o3
              try simp only [List.getElem_toArray, List.getElem_cons_zero, List.getElem_cons_succ]
              go_simp
              exact rfl
            try simp only [Act.put, List.setIfInBounds_toArray, List.set_cons_zero, List.set_cons_succ, List.getElem_toArray, List.getElem_cons_zero, List.getElem_cons_succ]
            refine mix.D_op (k := 14) rfl rfl (by kernel_rfl) (fun K' hK => ?_)
            simp only [List.getElem_toArray, List.getElem_cons_zero, List.getElem_cons_succ]
            obtain rfl := hn8.out
            have MZ := MB.to hb8
            have hwz := hb8.size
            have MW := MZ.set1 L9 A8 c8 rfl
            have lX := MZ.xb.lt
            obtain ⟨t0, t1, t2⟩ := mcells MZ.xb
            have f1 := MZ.xb.frozen 1
            have hOB : OwnV WB.heap.size (wb8.setCell ⟨w.heap.size + 1, 1, none⟩ (.slice A8 L9.length c8)) L9 (.slice A8 L9.length c8) := ⟨ownsRow_agree hB8.1 fun g hg => Below.heap_setCell _ _ _ _ (fun e => by have := (hB8.own g hg).1; have := MB.xb.lt; simp only at e; omega), hB8.2⟩
            have hbZ := hb8
            clear hB8 hVs
            go_wp2_with fail
            refine hK.out _ _ (fun h => by simp at h) ?_
            clear hK K' MZ t0 t1 t2
            refine mix.D_done (by kernel_rfl) ?_ _
            generalize wb8.setCell ⟨w.heap.size + 1, 1, none⟩ (.slice A8 L9.length c8) = WZ at MW hOB ⊢
            obtain ⟨t0, t1, t2⟩ := mcells MW.xb
            have lX := MW.xb.lt
            have hrow := MW.row
            have hz := MW.bel.size
            go_wp2_with (at_builtin; refine wp_told (e := ⟨xs, L9, A8, c8, xn + 1⟩) rfl _ _ rfl hrow rfl rfl rfl (by omega) ?_; intro v9 w9 ho9 hk9 hv9 hz9)
            go_ret
            obtain ⟨A', c', e', hb', hT', hl1, hl2⟩ := MW.fin hOB (fun g hg => by have := HNU.out g hg; omega) (fun y hy => ⟨(HFM.out y hy).1.1, (HFM.out y hy).2.1, trivial⟩) (by omega) hxsz ho9 hk9 hv9 (by have := hbel.size; omega)
            exact ⟨_, A', c', e', hb', hT', HEQ2.out _ _, fun lo h1 h2 => ⟨fun b off e => Nat.le_trans h1 (hl1 b off e), fun y hy => by
              rcases List.mem_append.1 hy with hy | hy
              · exact h2.2 y (HFM.out y hy).1.2
              · rw [List.mem_singleton.1 hy]; exact fun b off e => Nat.le_trans h1 (hl2 b off e)⟩⟩
        · simp only [List.getElem_toArray, List.getElem_cons_zero, List.getElem_cons_succ]
          go_wp2_with fail
          have hs10 : Below WBd.heap.size WBd (WBd.alloc (.cells #[.int .i64 (xn + 1), .string ov, .string ot] 147)) := (Below.refl _ _).alloc (Nat.le_refl _) _
          have hR10 := OwnV.one WB.heap.size WBd ⟨xn + 1, ov, ot⟩ hfx hS0.size
          have hsz10 : WBd.heap.size < (WBd.alloc (.cells #[.int .i64 (xn + 1), .string ov, .string ot] 147)).heap.size := by simp
          generalize WBd.alloc (.cells #[.int .i64 (xn + 1), .string ov, .string ot] 147) = wb10 at hs10 hR10 hsz10 ⊢
          have hb10 : Below WB.heap.size WB wb10 := hS0.trans (hs10.mono hS0.size)
          refine hK.out _ _ (fun _ => hb10) ?_
          clear hK K'
          try simp only [Act.put, List.setIfInBounds_toArray, List.set_cons_zero, List.set_cons_succ]
          refine mix.D_op (k := 0) rfl rfl (by kernel_rfl) (fun K' hK => ?_)
          simp only [List.getElem_toArray, List.getElem_cons_zero, List.getElem_cons_succ]
          go_wp2_with fail
          have hs11 : Below wb10.heap.size wb10 (wb10.alloc (.cells #[] 147)) := (Below.refl _ _).alloc (Nat.le_refl _) _
          have hE11 := OwnV.empty WB.heap.size wb10 hb10.size
          have hsz11 : wb10.heap.size < (wb10.alloc (.cells #[] 147)).heap.size := by simp
          generalize wb10.alloc (.cells #[] 147) = wb11 at hs11 hE11 hsz11 ⊢
          have hR11 := hR10.below hs11
          have hb11 : Below WB.heap.size WB wb11 := hb10.trans (hs11.mono hb10.size)
          refine hK.out _ _ (fun _ => hb11) ?_
          clear hK K'
          try simp only [Act.put, List.setIfInBounds_toArray, List.set_cons_zero, List.set_cons_succ]
          refine mix.D_op (k := 3) rfl rfl (by kernel_rfl) (fun K' hK => ?_)
          simp only [List.getElem_toArray, List.getElem_cons_zero, List.getElem_cons_succ]
          refine vers.wp_append_vs (.tmp 41) (.tmp 43) rfl (m := ([] : List V)) hE11 rfl hb11.size rfl rfl ((hVs.below hb11).more hb11.size) (by simp only [List.length_nil]; omega) ?_
          intro v12 wb12 hA12 hg12 ho12
          obtain ⟨A12, n12, c12, rfl, hn12⟩ := hA12.shape
          have hs12 := hg12.size
          have hown12 := hE11.own
          have hb12 : Below WB.heap.size WB wb12 := grown_to hb11 hg12 (fun g hg => (hown12 g hg).1) (Nat.le_refl _)
          have zw12 := vers.lay (rfl : wb11.heap.size = wb11.heap.size)
          have hR12 := hR11.kept hg12 (fun g hg e => by have h1 : wb10.heap.size = g := Option.some.inj hg; have h2 : WBd.heap.size = g := Option.some.inj e; skip; have s10 := hs10.size; have s11 := hs11.size; omega)
          refine hK.out _ _ (fun _ => hb12) ?_
          clear hK K'
          try simp only [Act.put, List.setIfInBounds_toArray, List.set_cons_zero, List.set_cons_succ]
          refine mix.D_op (k := 12) rfl rfl (by kernel_rfl) (fun K' hK => ?_)
          simp only [List.getElem_toArray, List.getElem_cons_zero, List.getElem_cons_succ]
          obtain ⟨AR13, cR13, eR13, hVR13, _⟩ := hR12.vs
          cases eR13
          refine vers.wp_append_vs (.tmp 44) (.tmp 52) rfl (m := [⟨xn + 1, ov, ot⟩]) hA12 rfl hb12.size rfl rfl hVR13 (by first | (simp only [List.nil_append, List.length_singleton]; omega) | simp) ?_
          intro v13 wb13 hB13 hg13 ho13
          obtain ⟨A13, n13, c13, rfl, hn13⟩ := hB13.shape
          have hs13 := hg13.size
          have hown13 := hA12.own
          have hb13 : Below WB.heap.size WB wb13 := grown_to hb12 hg13 (fun g hg => (hown13 g hg).1) (Nat.le_refl _)
          rw [List.nil_append, HL9.out] at hB13 hn13
          refine hK.out _ _ (fun _ => hb13) ?_
          clear hK K'
          try simp only [Act.put, List.setIfInBounds_toArray, List.set_cons_zero, List.set_cons_succ]
          refine mix.D_takeT (i := 13) (v := ?_) rfl (by kernel_rfl) (by kernel_rfl) (fun _ _ _ h => h) (Or.inl ⟨by rfl, ?_⟩) hb13 ?_
          rotate_left
          · intro w' hSw
            have y0 := (hSw.cell (p := ⟨w.heap.size + 1, 1, none⟩) MB.xb.lt).trans t1
            have y1 := (hSw.cell (p := ⟨w.heap.size + 1, 2, none⟩) MB.xb.lt).trans t2
            have y2 := (hSw.cell (p := ⟨w.heap.size, 2, none⟩) MB.ob.lt).trans o2
            have y3 := (hSw.cell (p := ⟨w.heap.size, 3, none⟩) MB.ob.lt).trans o3
            try simp only [List.getElem_toArray, List.getElem_cons_zero, List.getElem_cons_succ]
            go_simp
            exact rfl
          try simp only [Act.put, List.setIfInBounds_toArray, List.set_cons_zero, List.set_cons_succ, List.getElem_toArray, List.getElem_cons_zero, List.getElem_cons_succ]
          refine mix.D_op (k := 14) rfl rfl (by kernel_rfl) (fun K' hK => ?_)
          simp only [List.getElem_toArray, List.getElem_cons_zero, List.getElem_cons_succ]
          obtain rfl := hn13.out
          have MZ := MB.to hb13
          have hwz := hb13.size
          have MW := MZ.set1 L9 A13 c13 rfl
          have lX := MZ.xb.lt
          obtain ⟨t0, t1, t2⟩ := mcells MZ.xb
          have f1 := MZ.xb.frozen 1
          have hOB : OwnV WB.heap.size (wb13.setCell ⟨w.heap.size + 1, 1, none⟩ (.slice A13 L9.length c13)) L9 (.slice A13 L9.length c13) := ⟨ownsRow_agree hB13.1 fun g hg => Below.heap_setCell _ _ _ _ (fun e => by have := (hB13.own g hg).1; have := MB.xb.lt; simp only at e; omega), hB13.2⟩
          have hbZ := hb13
          clear hB13 hVs
          go_wp2_with fail
          refine hK.out _ _ (fun h => by simp at h) ?_
          clear hK K' MZ t0 t1 t2
          refine mix.D_done (by kernel_rfl) ?_ _
          generalize wb13.setCell ⟨w.heap.size + 1, 1, none⟩ (.slice A13 L9.length c13) = WZ at MW hOB ⊢
          obtain ⟨t0, t1, t2⟩ := mcells MW.xb
          have lX := MW.xb.lt
          have hrow := MW.row
          have hz := MW.bel.size
          go_wp2_with (at_builtin; refine wp_told (e := ⟨xs, L9, A13, c13, xn + 1⟩) rfl _ _ rfl hrow rfl rfl rfl (by omega) ?_; intro v9 w9 ho9 hk9 hv9 hz9)
          go_ret
          obtain ⟨A', c', e', hb', hT', hl1, hl2⟩ := MW.fin hOB (fun g hg => by have := HNU.out g hg; omega) (fun y hy => ⟨(HFM.out y hy).1.1, (HFM.out y hy).2.1, trivial⟩) (by omega) hxsz ho9 hk9 hv9 (by have := hbel.size; omega)
          exact ⟨_, A', c', e', hb', hT', HEQ2.out _ _, fun lo h1 h2 => ⟨fun b off e => Nat.le_trans h1 (hl1 b off e), fun y hy => by
            rcases List.mem_append.1 hy with hy | hy
            · exact h2.2 y (HFM.out y hy).1.2
            · rw [List.mem_singleton.1 hy]; exact fun b off e => Nat.le_trans h1 (hl2 b off e)⟩⟩
      · have d2 := eq_no h2
        have HEQ2 := vers.lay (fun (A : Option Addr) (c : Nat) => by have := HEQ.out A c; rw [if_neg h2] at this; exact this)
        clear HEQ
        have HK2 := vers.lay h2
        clear h2
        have MB0 := vers.lay (HMID.out (xn + 1))
        clear HMID
        go_wp2_with fail
        have MB := MB0.out
        clear MB0 o0 o1 o2 o3 t0 t1 t2 f2
        have hWz : wr.heap.size = (World.setCell wr ⟨w.heap.size + 1, 2, none⟩ (.int .i64 (xn + 1))).heap.size := by simp
        generalize World.setCell wr ⟨w.heap.size + 1, 2, none⟩ (.int .i64 (xn + 1)) = WB at MB hWz ⊢
        have hVs : Vs WB WB.heap.size xl xA xc := (hV.below MB.bel).more MB.bel.size
        obtain ⟨L9, hL9⟩ : ∃ L, xl ++ [⟨xn + 1, ov, ot⟩] = L := ⟨_, rfl⟩
        have HL9 := vers.lay hL9
        rw [hL9] at HEQ2
        clear hL9
        obtain ⟨_, _, o2, o3⟩ := ocells MB.ob
        obtain ⟨_, t1, t2⟩ := mcells MB.xb
        have hS0 : Below WB.heap.size WB WB.drew := (Below.refl _ _).drew
        refine mix.region_D (fun w' => Below WB.heap.size WB w') (fun j => j == 14) (by kernel_rfl) ?_
        generalize WB.drew = WBd at hS0 ⊢
        refine mix.D_takeT (i := 1) (v := ?_) rfl (by kernel_rfl) (by kernel_rfl) (fun _ _ _ h => h) (Or.inl ⟨by rfl, ?_⟩) hS0 ?_
        rotate_left
        · intro w' hSw
          have y0 := (hSw.cell (p := ⟨w.heap.size + 1, 1, none⟩) MB.xb.lt).trans t1
          have y1 := (hSw.cell (p := ⟨w.heap.size + 1, 2, none⟩) MB.xb.lt).trans t2
          have y2 := (hSw.cell (p := ⟨w.heap.size, 2, none⟩) MB.ob.lt).trans o2
          have y3 := (hSw.cell (p := ⟨w.heap.size, 3, none⟩) MB.ob.lt).trans o3
          try simp only [List.getElem_toArray, List.getElem_cons_zero, List.getElem_cons_succ]
          go_simp
          exact rfl
        try simp only [Act.put, List.setIfInBounds_toArray, List.set_cons_zero, List.set_cons_succ, List.getElem_toArray, List.getElem_cons_zero, List.getElem_cons_succ]
        refine mix.D_takeT (i := 2) (v := ?_) rfl (by kernel_rfl) (by kernel_rfl) (fun _ _ _ h => h) (Or.inl ⟨by rfl, ?_⟩) hS0 ?_
        rotate_left
        · intro w' hSw
          have y0 := (hSw.cell (p := ⟨w.heap.size + 1, 1, none⟩) MB.xb.lt).trans t1
          have y1 := (hSw.cell (p := ⟨w.heap.size + 1, 2, none⟩) MB.xb.lt).trans t2
          have y2 := (hSw.cell (p := ⟨w.heap.size, 2, none⟩) MB.ob.lt).trans o2
          have y3 := (hSw.cell (p := ⟨w.heap.size, 3, none⟩) MB.ob.lt).trans o3
          try simp only [List.getElem_toArray, List.getElem_cons_zero, List.getElem_cons_succ]
          go_simp
          exact rfl
        try simp only [Act.put, List.setIfInBounds_toArray, List.set_cons_zero, List.set_cons_succ, List.getElem_toArray, List.getElem_cons_zero, List.getElem_cons_succ]
        refine mix.D_takeT (i := 4) (v := ?_) rfl (by kernel_rfl) (by kernel_rfl) (fun _ _ _ h => h) (Or.inl ⟨by rfl, ?_⟩) hS0 ?_
        rotate_left
        · intro w' hSw
          have y0 := (hSw.cell (p := ⟨w.heap.size + 1, 1, none⟩) MB.xb.lt).trans t1
          have y1 := (hSw.cell (p := ⟨w.heap.size + 1, 2, none⟩) MB.xb.lt).trans t2
          have y2 := (hSw.cell (p := ⟨w.heap.size, 2, none⟩) MB.ob.lt).trans o2
          have y3 := (hSw.cell (p := ⟨w.heap.size, 3, none⟩) MB.ob.lt).trans o3
          try simp only [List.getElem_toArray, List.getElem_cons_zero, List.getElem_cons_succ]
          go_simp
          exact rfl
        try simp only [Act.put, List.setIfInBounds_toArray, List.set_cons_zero, List.set_cons_succ, List.getElem_toArray, List.getElem_cons_zero, List.getElem_cons_succ]
        refine mix.D_takeT (i := 5) (v := ?_) rfl (by kernel_rfl) (by kernel_rfl) (fun _ _ _ h => h) (Or.inl ⟨by rfl, ?_⟩) hS0 ?_
        rotate_left
        · intro w' hSw
          have y0 := (hSw.cell (p := ⟨w.heap.size + 1, 1, none⟩) MB.xb.lt).trans t1
          have y1 := (hSw.cell (p := ⟨w.heap.size + 1, 2, none⟩) MB.xb.lt).trans t2
          have y2 := (hSw.cell (p := ⟨w.heap.size, 2, none⟩) MB.ob.lt).trans o2
          have y3 := (hSw.cell (p := ⟨w.heap.size, 3, none⟩) MB.ob.lt).trans o3
          try simp only [List.getElem_toArray, List.getElem_cons_zero, List.getElem_cons_succ]
          go_simp
          exact rfl
        try simp only [Act.put, List.setIfInBounds_toArray, List.set_cons_zero, List.set_cons_succ, List.getElem_toArray, List.getElem_cons_zero, List.getElem_cons_succ]
        refine mix.D_takeT (i := 6) (v := ?_) rfl (by kernel_rfl) (by kernel_rfl) (fun _ _ _ h => h) (Or.inl ⟨by rfl, ?_⟩) hS0 ?_
        rotate_left
        · intro w' hSw
          have y0 := (hSw.cell (p := ⟨w.heap.size + 1, 1, none⟩) MB.xb.lt).trans t1
          have y1 := (hSw.cell (p := ⟨w.heap.size + 1, 2, none⟩) MB.xb.lt).trans t2
          have y2 := (hSw.cell (p := ⟨w.heap.size, 2, none⟩) MB.ob.lt).trans o2
          have y3 := (hSw.cell (p := ⟨w.heap.size, 3, none⟩) MB.ob.lt).trans o3
          try simp only [List.getElem_toArray, List.getElem_cons_zero, List.getElem_cons_succ]
          go_simp
          exact rfl
        try simp only [Act.put, List.setIfInBounds_toArray, List.set_cons_zero, List.set_cons_succ, List.getElem_toArray, List.getElem_cons_zero, List.getElem_cons_succ]
        refine mix.D_takeT (i := 7) (v := ?_) rfl (by kernel_rfl) (by kernel_rfl) (fun _ _ _ h => h) (Or.inl ⟨by rfl, ?_⟩) hS0 ?_
        rotate_left
        · intro w' hSw
          have y0 := (hSw.cell (p := ⟨w.heap.size + 1, 1, none⟩) MB.xb.lt).trans t1
          have y1 := (hSw.cell (p := ⟨w.heap.size + 1, 2, none⟩) MB.xb.lt).trans t2
          have y2 := (hSw.cell (p := ⟨w.heap.size, 2, none⟩) MB.ob.lt).trans o2
          have y3 := (hSw.cell (p := ⟨w.heap.size, 3, none⟩) MB.ob.lt).trans o3
          try simp only [List.getElem_toArray, List.getElem_cons_zero, List.getElem_cons_succ]
          go_simp
          exact rfl
        try simp only [Act.put, List.setIfInBounds_toArray, List.set_cons_zero, List.set_cons_succ, List.getElem_toArray, List.getElem_cons_zero, List.getElem_cons_succ]
        refine mix.D_takeT (i := 8) (v := ?_) rfl (by kernel_rfl) (by kernel_rfl) (fun _ _ _ h => h) (Or.inl ⟨by rfl, ?_⟩) hS0 ?_
        rotate_left
        · intro w' hSw
          have y0 := (hSw.cell (p := ⟨w.heap.size + 1, 1, none⟩) MB.xb.lt).trans t1
          have y1 := (hSw.cell (p := ⟨w.heap.size + 1, 2, none⟩) MB.xb.lt).trans t2
          have y2 := (hSw.cell (p := ⟨w.heap.size, 2, none⟩) MB.ob.lt).trans o2
          have y3 := (hSw.cell (p := ⟨w.heap.size, 3, none⟩) MB.ob.lt).trans o3
          try simp only [List.getElem_toArray, List.getElem_cons_zero, List.getElem_cons_succ]
          go_simp
          exact rfl
        try simp only [Act.put, List.setIfInBounds_toArray, List.set_cons_zero, List.set_cons_succ, List.getElem_toArray, List.getElem_cons_zero, List.getElem_cons_succ]
        refine mix.D_takeT (i := 9) (v := ?_) rfl (by kernel_rfl) (by kernel_rfl) (fun _ _ _ h => h) (Or.inl ⟨by rfl, ?_⟩) hS0 ?_
        rotate_left
        · intro w' hSw
          have y0 := (hSw.cell (p := ⟨w.heap.size + 1, 1, none⟩) MB.xb.lt).trans t1
          have y1 := (hSw.cell (p := ⟨w.heap.size + 1, 2, none⟩) MB.xb.lt).trans t2
          have y2 := (hSw.cell (p := ⟨w.heap.size, 2, none⟩) MB.ob.lt).trans o2
          have y3 := (hSw.cell (p := ⟨w.heap.size, 3, none⟩) MB.ob.lt).trans o3
          try simp only [List.getElem_toArray, List.getElem_cons_zero, List.getElem_cons_succ]
          go_simp
          exact rfl
        try simp only [Act.put, List.setIfInBounds_toArray, List.set_cons_zero, List.set_cons_succ, List.getElem_toArray, List.getElem_cons_zero, List.getElem_cons_succ]
        refine mix.D_takeT (i := 10) (v := ?_) rfl (by kernel_rfl) (by kernel_rfl) (fun _ _ _ h => h) (Or.inl ⟨by rfl, ?_⟩) hS0 ?_
        rotate_left
        · intro w' hSw
          have y0 := (hSw.cell (p := ⟨w.heap.size + 1, 1, none⟩) MB.xb.lt).trans t1
          have y1 := (hSw.cell (p := ⟨w.heap.size + 1, 2, none⟩) MB.xb.lt).trans t2
          have y2 := (hSw.cell (p := ⟨w.heap.size, 2, none⟩) MB.ob.lt).trans o2
          have y3 := (hSw.cell (p := ⟨w.heap.size, 3, none⟩) MB.ob.lt).trans o3
          try simp only [List.getElem_toArray, List.getElem_cons_zero, List.getElem_cons_succ]
          go_simp
          exact rfl
        try simp only [Act.put, List.setIfInBounds_toArray, List.set_cons_zero, List.set_cons_succ, List.getElem_toArray, List.getElem_cons_zero, List.getElem_cons_succ]
        refine mix.D_two (k := 0) (j := 11) rfl rfl rfl rfl (by kernel_rfl) (fun K' hK => ?_) (fun K' hK => ?_)
        · simp only [List.getElem_toArray, List.getElem_cons_zero, List.getElem_cons_succ]
          go_wp2_with fail
          have hs1 : Below WBd.heap.size WBd (WBd.alloc (.cells #[] 147)) := (Below.refl _ _).alloc (Nat.le_refl _) _
          have hE1 := OwnV.empty WB.heap.size WBd hS0.size
          have hsz1 : WBd.heap.size < (WBd.alloc (.cells #[] 147)).heap.size := by simp
          generalize WBd.alloc (.cells #[] 147) = wb1 at hs1 hE1 hsz1 ⊢
          have hb1 : Below WB.heap.size WB wb1 := hS0.trans (hs1.mono hS0.size)
          refine hK.out _ _ (fun _ => hb1) ?_
          clear hK K'
          try simp only [Act.put, List.setIfInBounds_toArray, List.set_cons_zero, List.set_cons_succ]
          refine mix.D_two (k := 3) (j := 11) rfl rfl rfl rfl (by kernel_rfl) (fun K' hK => ?_) (fun K' hK => ?_)
          · simp only [List.getElem_toArray, List.getElem_cons_zero, List.getElem_cons_succ]
            refine vers.wp_append_vs (.tmp 41) (.tmp 43) rfl (m := xl) hE1 rfl hb1.size rfl rfl ((hVs.below hb1).more hb1.size) (by simp only [List.length_nil]; omega) ?_
            intro v2 wb2 hA2 hg2 ho2
            obtain ⟨A2, n2, c2, rfl, hn2⟩ := hA2.shape
            have hs2 := hg2.size
            have hown2 := hE1.own
            have hb2 : Below WB.heap.size WB wb2 := grown_to hb1 hg2 (fun g hg => (hown2 g hg).1) (Nat.le_refl _)
            have zw2 := vers.lay (rfl : wb1.heap.size = wb1.heap.size)
            refine hK.out _ _ (fun _ => hb2) ?_
            clear hK K'
            try simp only [Act.put, List.setIfInBounds_toArray, List.set_cons_zero, List.set_cons_succ]
            refine mix.D_op (k := 11) rfl rfl (by kernel_rfl) (fun K' hK => ?_)
            simp only [List.getElem_toArray, List.getElem_cons_zero, List.getElem_cons_succ]
            go_wp2_with fail
            have hs3 : Below wb2.heap.size wb2 (wb2.alloc (.cells #[.int .i64 (xn + 1), .string ov, .string ot] 147)) := (Below.refl _ _).alloc (Nat.le_refl _) _
            have hR3 := OwnV.one WB.heap.size wb2 ⟨xn + 1, ov, ot⟩ hfx hb2.size
            have hsz3 : wb2.heap.size < (wb2.alloc (.cells #[.int .i64 (xn + 1), .string ov, .string ot] 147)).heap.size := by simp
            generalize wb2.alloc (.cells #[.int .i64 (xn + 1), .string ov, .string ot] 147) = wb3 at hs3 hR3 hsz3 ⊢
            have hA3 := hA2.below hs3
            have hb3 : Below WB.heap.size WB wb3 := hb2.trans (hs3.mono hb2.size)
            refine hK.out _ _ (fun _ => hb3) ?_
            clear hK K'
            try simp only [Act.put, List.setIfInBounds_toArray, List.set_cons_zero, List.set_cons_succ]
            refine mix.D_op (k := 12) rfl rfl (by kernel_rfl) (fun K' hK => ?_)
            simp only [List.getElem_toArray, List.getElem_cons_zero, List.getElem_cons_succ]
            obtain ⟨AR4, cR4, eR4, hVR4, _⟩ := hR3.vs
            cases eR4
            refine vers.wp_append_vs (.tmp 44) (.tmp 52) rfl (m := [⟨xn + 1, ov, ot⟩]) hA3 rfl hb3.size rfl rfl hVR4 (by first | (simp only [List.nil_append, List.length_singleton]; omega) | simp) ?_
            intro v4 wb4 hB4 hg4 ho4
            obtain ⟨A4, n4, c4, rfl, hn4⟩ := hB4.shape
            have hs4 := hg4.size
            have hown4 := hA3.own
            have hb4 : Below WB.heap.size WB wb4 := grown_to hb3 hg4 (fun g hg => (hown4 g hg).1) (Nat.le_refl _)
            rw [List.nil_append, HL9.out] at hB4 hn4
            refine hK.out _ _ (fun _ => hb4) ?_
            clear hK K'
            try simp only [Act.put, List.setIfInBounds_toArray, List.set_cons_zero, List.set_cons_succ]
            refine mix.D_takeT (i := 13) (v := ?_) rfl (by kernel_rfl) (by kernel_rfl) (fun _ _ _ h => h) (Or.inl ⟨by rfl, ?_⟩) hb4 ?_
            rotate_left
            · intro w' hSw
              have y0 := (hSw.cell (p := ⟨w.heap.size + 1, 1, none⟩) MB.xb.lt).trans t1
              have y1 := (hSw.cell (p := ⟨w.heap.size + 1, 2, none⟩) MB.xb.lt).trans t2
              have y2 := (hSw.cell (p := ⟨w.heap.size, 2, none⟩) MB.ob.lt).trans o2
              have y3 := (hSw.cell (p := ⟨w.heap.size, 3, none⟩) MB.ob.lt).trans o3
              try simp only [List.getElem_toArray, List.getElem_cons_zero, List.getElem_cons_succ]
              go_simp
              exact rfl
            try simp only [Act.put, List.setIfInBounds_toArray, List.set_cons_zero, List.set_cons_succ, List.getElem_toArray, List.getElem_cons_zero, List.getElem_cons_succ]
            refine mix.D_op (k := 14) rfl rfl (by kernel_rfl) (fun K' hK => ?_)
            simp only [List.getElem_toArray, List.getElem_cons_zero, List.getElem_cons_succ]
            obtain rfl := hn4.out
            have MZ := MB.to hb4
            have hwz := hb4.size
            have MW := MZ.set1 L9 A4 c4 rfl
            have lX := MZ.xb.lt
            obtain ⟨t0, t1, t2⟩ := mcells MZ.xb
            have f1 := MZ.xb.frozen 1
            have hOB : OwnV WB.heap.size (wb4.setCell ⟨w.heap.size + 1, 1, none⟩ (.slice A4 L9.length c4)) L9 (.slice A4 L9.length c4) := ⟨ownsRow_agree hB4.1 fun g hg => Below.heap_setCell _ _ _ _ (fun e => by have := (hB4.own g hg).1; have := MB.xb.lt; simp only at e; omega), hB4.2⟩
            have hbZ := hb4
            clear hB4 hVs
            go_wp2_with fail
            refine hK.out _ _ (fun h => by simp at h) ?_
            clear hK K' MZ t0 t1 t2
            refine mix.D_done (by kernel_rfl) ?_ _
            generalize wb4.setCell ⟨w.heap.size + 1, 1, none⟩ (.slice A4 L9.length c4) = WZ at MW hOB ⊢
            obtain ⟨t0, t1, t2⟩ := mcells MW.xb
            have lX := MW.xb.lt
            have hrow := MW.row
            have hz := MW.bel.size
            go_wp2_with (at_builtin; refine wp_told (e := ⟨xs, L9, A4, c4, xn + 1⟩) rfl _ _ rfl hrow rfl rfl rfl (by omega) ?_; intro v9 w9 ho9 hk9 hv9 hz9)
            go_ret
            obtain ⟨A', c', e', hb', hT', hl1, hl2⟩ := MW.fin hOB (fun g hg => by have := HNU.out g hg; omega) (fun y hy => ⟨(HFM.out y hy).1.1, (HFM.out y hy).2.1, trivial⟩) (by omega) hxsz ho9 hk9 hv9 (by have := hbel.size; omega)
            exact ⟨_, A', c', e', hb', hT', HEQ2.out _ _, fun lo h1 h2 => ⟨fun b off e => Nat.le_trans h1 (hl1 b off e), fun y hy => by
              rcases List.mem_append.1 hy with hy | hy
              · exact h2.2 y (HFM.out y hy).1.2
              · rw [List.mem_singleton.1 hy]; exact fun b off e => Nat.le_trans h1 (hl2 b off e)⟩⟩
          · simp only [List.getElem_toArray, List.getElem_cons_zero, List.getElem_cons_succ]
            go_wp2_with fail
            have hs6 : Below wb1.heap.size wb1 (wb1.alloc (.cells #[.int .i64 (xn + 1), .string ov, .string ot] 147)) := (Below.refl _ _).alloc (Nat.le_refl _) _
            have hR6 := OwnV.one WB.heap.size wb1 ⟨xn + 1, ov, ot⟩ hfx hb1.size
            have hsz6 : wb1.heap.size < (wb1.alloc (.cells #[.int .i64 (xn + 1), .string ov, .string ot] 147)).heap.size := by simp
            generalize wb1.alloc (.cells #[.int .i64 (xn + 1), .string ov, .string ot] 147) = wb6 at hs6 hR6 hsz6 ⊢
            have hE6 := hE1.below hs6
            have hb6 : Below WB.heap.size WB wb6 := hb1.trans (hs6.mono hb1.size)
            refine hK.out _ _ (fun _ => hb6) ?_
            clear hK K'
            try simp only [Act.put, List.setIfInBounds_toArray, List.set_cons_zero, List.set_cons_succ]
            refine mix.D_op (k := 3) rfl rfl (by kernel_rfl) (fun K' hK => ?_)
            simp only [List.getElem_toArray, List.getElem_cons_zero, List.getElem_cons_succ]
            refine vers.wp_append_vs (.tmp 41) (.tmp 43) rfl (m := xl) hE6 rfl hb6.size rfl rfl ((hVs.below hb6).more hb6.size) (by simp only [List.length_nil]; omega) ?_
            intro v7 wb7 hA7 hg7 ho7
            obtain ⟨A7, n7, c7, rfl, hn7⟩ := hA7.shape
            have hs7 := hg7.size
            have hown7 := hE6.own
            have hb7 : Below WB.heap.size WB wb7 := grown_to hb6 hg7 (fun g hg => (hown7 g hg).1) (Nat.le_refl _)
            have zw7 := vers.lay (rfl : wb6.heap.size = wb6.heap.size)
            have hR7 := hR6.kept hg7 (fun g hg e => by have h1 : WBd.heap.size = g := Option.some.inj hg; have h2 : wb1.heap.size = g := Option.some.inj e; skip; have s1 := hs1.size; have s6 := hs6.size; omega)
            refine hK.out _ _ (fun _ => hb7) ?_
            clear hK K'
            try simp only [Act.put, List.setIfInBounds_toArray, List.set_cons_zero, List.set_cons_succ]
            refine mix.D_op (k := 12) rfl rfl (by kernel_rfl) (fun K' hK => ?_)
            simp only [List.getElem_toArray, List.getElem_cons_zero, List.getElem_cons_succ]
            obtain ⟨AR8, cR8, eR8, hVR8, _⟩ := hR7.vs
            cases eR8
            refine vers.wp_append_vs (.tmp 44) (.tmp 52) rfl (m := [⟨xn + 1, ov, ot⟩]) hA7 rfl hb7.size rfl rfl hVR8 (by first | (simp only [List.nil_append, List.length_singleton]; omega) | simp) ?_
            intro v8 wb8 hB8 hg8 ho8
            obtain ⟨A8, n8, c8, rfl, hn8⟩ := hB8.shape
            have hs8 := hg8.size
            have hown8 := hA7.own
            have hb8 : Below WB.heap.size WB wb8 := grown_to hb7 hg8 (fun g hg => (hown8 g hg).1) (Nat.le_refl _)
            rw [List.nil_append, HL9.out] at hB8 hn8
            refine hK.out _ _ (fun _ => hb8) ?_
            clear hK K'
            try simp only [Act.put, List.setIfInBounds_toArray, List.set_cons_zero, List.set_cons_succ]
            refine mix.D_takeT (i := 13) (v := ?_) rfl (by kernel_rfl) (by kernel_rfl) (fun _ _ _ h => h) (Or.inl ⟨by rfl, ?_⟩) hb8 ?_
            rotate_left
            · intro w' hSw
              have y0 := (hSw.cell (p := ⟨w.heap.size + 1, 1, none⟩) MB.xb.lt).trans t1
              have y1 := (hSw.cell (p := ⟨w.heap.size + 1, 2, none⟩) MB.xb.lt).trans t2
              have y2 := (hSw.cell (p := ⟨w.heap.size, 2, none⟩) MB.ob.lt).trans o2
              have y3 := (hSw.cell (p := ⟨w.heap.size, 3, none⟩) MB.ob.lt).trans o3
              try simp only [List.getElem_toArray, List.getElem_cons_zero, List.getElem_cons_succ]
              go_simp
              exact rfl
            try simp only [Act.put, List.setIfInBounds_toArray, List.set_cons_zero, List.set_cons_succ, List.getElem_toArray, List.getElem_cons_zero, List.getElem_cons_succ]
            refine mix.D_op (k := 14) rfl rfl (by kernel_rfl) (fun K' hK => ?_)
            simp only [List.getElem_toArray, List.getElem_cons_zero, List.getElem_cons_succ]
            obtain rfl := hn8.out
            have MZ := MB.to hb8
            have hwz := hb8.size
            have MW := MZ.set1 L9 A8 c8 rfl
            have lX := MZ.xb.lt
            obtain ⟨t0, t1, t2⟩ := mcells MZ.xb
            have f1 := MZ.xb.frozen 1
            have hOB : OwnV WB.heap.size (wb8.setCell ⟨w.heap.size + 1, 1, none⟩ (.slice A8 L9.length c8)) L9 (.slice A8 L9.length c8) := ⟨ownsRow_agree hB8.1 fun g hg => Below.heap_setCell _ _ _ _ (fun e => by have := (hB8.own g hg).1; have := MB.xb.lt; simp only at e; omega), hB8.2⟩
            have hbZ := hb8
            clear hB8 hVs
            go_wp2_with fail
            refine hK.out _ _ (fun h => by simp at h) ?_
            clear hK K' MZ t0 t1 t2
            refine mix.D_done (by kernel_rfl) ?_ _
            generalize wb8.setCell ⟨w.heap.size + 1, 1, none⟩ (.slice A8 L9.length c8) = WZ at MW hOB ⊢
            obtain ⟨t0, t1, t2⟩ := mcells MW.xb
            have lX := MW.xb.lt
            have hrow := MW.row
            have hz := MW.bel.size
            go_wp2_with (at_builtin; refine wp_told (e := ⟨xs, L9, A8, c8, xn + 1⟩) rfl _ _ rfl hrow rfl rfl rfl (by omega) ?_; intro v9 w9 ho9 hk9 hv9 hz9)
            go_ret
            obtain ⟨A', c', e', hb', hT', hl1, hl2⟩ := MW.fin hOB (fun g hg => by have := HNU.out g hg; omega) (fun y hy => ⟨(HFM.out y hy).1.1, (HFM.out y hy).2.1, trivial⟩) (by omega) hxsz ho9 hk9 hv9 (by have := hbel.size; omega)
            exact ⟨_, A', c', e', hb', hT', HEQ2.out _ _, fun lo h1 h2 => ⟨fun b off e => Nat.le_trans h1 (hl1 b off e), fun y hy => by
              rcases List.mem_append.1 hy with hy | hy
              · exact h2.2 y (HFM.out y hy).1.2
              · rw [List.mem_singleton.1 hy]; exact fun b off e => Nat.le_trans h1 (hl2 b off e)⟩⟩
        · simp only [List.getElem_toArray, List.getElem_cons_zero, List.getElem_cons_succ]
          go_wp2_with fail
          have hs10 : Below WBd.heap.size WBd (WBd.alloc (.cells #[.int .i64 (xn + 1), .string ov, .string ot] 147)) := (Below.refl _ _).alloc (Nat.le_refl _) _
          have hR10 := OwnV.one WB.heap.size WBd ⟨xn + 1, ov, ot⟩ hfx hS0.size
          have hsz10 : WBd.heap.size < (WBd.alloc (.cells #[.int .i64 (xn + 1), .string ov, .string ot] 147)).heap.size := by simp
          generalize WBd.alloc (.cells #[.int .i64 (xn + 1), .string ov, .string ot] 147) = wb10 at hs10 hR10 hsz10 ⊢
          have hb10 : Below WB.heap.size WB wb10 := hS0.trans (hs10.mono hS0.size)
          refine hK.out _ _ (fun _ => hb10) ?_
          clear hK K'
          try simp only [Act.put, List.setIfInBounds_toArray, List.set_cons_zero, List.set_cons_succ]
          refine mix.D_op (k := 0) rfl rfl (by kernel_rfl) (fun K' hK => ?_)
          simp only [List.getElem_toArray, List.getElem_cons_zero, List.getElem_cons_succ]
          go_wp2_with fail
          have hs11 : Below wb10.heap.size wb10 (wb10.alloc (.cells #[] 147)) := (Below.refl _ _).alloc (Nat.le_refl _) _
          have hE11 := OwnV.empty WB.heap.size wb10 hb10.size
          have hsz11 : wb10.heap.size < (wb10.alloc (.cells #[] 147)).heap.size := by simp
          generalize wb10.alloc (.cells #[] 147) = wb11 at hs11 hE11 hsz11 ⊢
          have hR11 := hR10.below hs11
          have hb11 : Below WB.heap.size WB wb11 := hb10.trans (hs11.mono hb10.size)
          refine hK.out _ _ (fun _ => hb11) ?_
          clear hK K'
          try simp only [Act.put, List.setIfInBounds_toArray, List.set_cons_zero, List.set_cons_succ]
          refine mix.D_op (k := 3) rfl rfl (by kernel_rfl) (fun K' hK => ?_)
          simp only [List.getElem_toArray, List.getElem_cons_zero, List.getElem_cons_succ]
          refine vers.wp_append_vs (.tmp 41) (.tmp 43) rfl (m := xl) hE11 rfl hb11.size rfl rfl ((hVs.below hb11).more hb11.size) (by simp only [List.length_nil]; omega) ?_
          intro v12 wb12 hA12 hg12 ho12
          obtain ⟨A12, n12, c12, rfl, hn12⟩ := hA12.shape
          have hs12 := hg12.size
          have hown12 := hE11.own
          have hb12 : Below WB.heap.size WB wb12 := grown_to hb11 hg12 (fun g hg => (hown12 g hg).1) (Nat.le_refl _)
          have zw12 := vers.lay (rfl : wb11.heap.size = wb11.heap.size)
          have hR12 := hR11.kept hg12 (fun g hg e => by have h1 : wb10.heap.size = g := Option.some.inj hg; have h2 : WBd.heap.size = g := Option.some.inj e; skip; have s10 := hs10.size; have s11 := hs11.size; omega)
          refine hK.out _ _ (fun _ => hb12) ?_
          clear hK K'
          try simp only [Act.put, List.setIfInBounds_toArray, List.set_cons_zero, List.set_cons_succ]
          refine mix.D_op (k := 12) rfl rfl (by kernel_rfl) (fun K' hK => ?_)
          simp only [List.getElem_toArray, List.getElem_cons_zero, List.getElem_cons_succ]
          obtain ⟨AR13, cR13, eR13, hVR13, _⟩ := hR12.vs
          cases eR13
          refine vers.wp_append_vs (.tmp 44) (.tmp 52) rfl (m := [⟨xn + 1, ov, ot⟩]) hA12 rfl hb12.size rfl rfl hVR13 (by first | (simp only [List.nil_append, List.length_singleton]; omega) | simp) ?_
          intro v13 wb13 hB13 hg13 ho13
          obtain ⟨A13, n13, c13, rfl, hn13⟩ := hB13.shape
          have hs13 := hg13.size
          have hown13 := hA12.own
          have hb13 : Below WB.heap.size WB wb13 := grown_to hb12 hg13 (fun g hg => (hown13 g hg).1) (Nat.le_refl _)
          rw [List.nil_append, HL9.out] at hB13 hn13
          refine hK.out _ _ (fun _ => hb13) ?_
          clear hK K'
          try simp only [Act.put, List.setIfInBounds_toArray, List.set_cons_zero, List.set_cons_succ]
          refine mix.D_takeT (i := 13) (v := ?_) rfl (by kernel_rfl) (by kernel_rfl) (fun _ _ _ h => h) (Or.inl ⟨by rfl, ?_⟩) hb13 ?_
          rotate_left
          · intro w' hSw
            have y0 := (hSw.cell (p := ⟨w.heap.size + 1, 1, none⟩) MB.xb.lt).trans t1
            have y1 := (hSw.cell (p := ⟨w.heap.size + 1, 2, none⟩) MB.xb.lt).trans t2
            have y2 := (hSw.cell (p := ⟨w.heap.size, 2, none⟩) MB.ob.lt).trans o2
            have y3 := (hSw.cell (p := ⟨w.heap.size, 3, none⟩) MB.ob.lt).trans o3
            try simp only [List.getElem_toArray, List.getElem_cons_zero, List.getElem_cons_succ]
            go_simp
            exact rfl
          try simp only [Act.put, List.setIfInBounds_toArray, List.set_cons_zero, List.set_cons_succ, List.getElem_toArray, List.getElem_cons_zero, List.getElem_cons_succ]
          refine mix.D_op (k := 14) rfl rfl (by kernel_rfl) (fun K' hK => ?_)
          simp only [List.getElem_toArray, List.getElem_cons_zero, List.getElem_cons_succ]
          obtain rfl := hn13.out
          have MZ := MB.to hb13
          have hwz := hb13.size
          have MW := MZ.set1 L9 A13 c13 rfl
          have lX := MZ.xb.lt
          obtain ⟨t0, t1, t2⟩ := mcells MZ.xb
          have f1 := MZ.xb.frozen 1
          have hOB : OwnV WB.heap.size (wb13.setCell ⟨w.heap.size + 1, 1, none⟩ (.slice A13 L9.length c13)) L9 (.slice A13 L9.length c13) := ⟨ownsRow_agree hB13.1 fun g hg => Below.heap_setCell _ _ _ _ (fun e => by have := (hB13.own g hg).1; have := MB.xb.lt; simp only at e; omega), hB13.2⟩
          have hbZ := hb13
          clear hB13 hVs
          go_wp2_with fail
          refine hK.out _ _ (fun h => by simp at h) ?_
          clear hK K' MZ t0 t1 t2
          refine mix.D_done (by kernel_rfl) ?_ _
          generalize wb13.setCell ⟨w.heap.size + 1, 1, none⟩ (.slice A13 L9.length c13) = WZ at MW hOB ⊢
          obtain ⟨t0, t1, t2⟩ := mcells MW.xb
          have lX := MW.xb.lt
          have hrow := MW.row
          have hz := MW.bel.size
          go_wp2_with (at_builtin; refine wp_told (e := ⟨xs, L9, A13, c13, xn + 1⟩) rfl _ _ rfl hrow rfl rfl rfl (by omega) ?_; intro v9 w9 ho9 hk9 hv9 hz9)
          go_ret
          obtain ⟨A', c', e', hb', hT', hl1, hl2⟩ := MW.fin hOB (fun g hg => by have := HNU.out g hg; omega) (fun y hy => ⟨(HFM.out y hy).1.1, (HFM.out y hy).2.1, trivial⟩) (by omega) hxsz ho9 hk9 hv9 (by have := hbel.size; omega)
          exact ⟨_, A', c', e', hb', hT', HEQ2.out _ _, fun lo h1 h2 => ⟨fun b off e => Nat.le_trans h1 (hl1 b off e), fun y hy => by
            rcases List.mem_append.1 hy with hy | hy
            · exact h2.2 y (HFM.out y hy).1.2
            · rw [List.mem_singleton.1 hy]; exact fun b off e => Nat.le_trans h1 (hl2 b off e)⟩⟩

theorem after_ok (T : List TM) (A : Option Addr) (c : Nat) (o : O) (w : World) (M : Nat) (hT : TDs w w.heap.size T A c) (hl : T.length ≤ 1000000) (hM : M ≤ 1000000) (hx : ∀ x ∈ T.map pT, 0 ≤ x.n ∧ x.n ≤ M ∧ x.l.length ≤ M) (hf : o.fits) :
    Calls Try.prog 47 #[.slice A T.length c, .agg #[.int .i64 o.k, .string o.s, .string o.v, .string o.t]] w fun e w' => ∃ T' A' c', e = .returned (.slice A' T'.length c') ∧ Below w.heap.size w w' ∧ TDs w' w'.heap.size T' A' c' ∧ T'.map pT = afterP (T.map pT) o ∧ ∀ lo, lo ≤ w.heap.size → LoT lo T A → LoT lo T' A' := by
  by_cases h3 : o.k = 3
  · exact after_del T A c o w hT hl h3
  · exact after_put T A c o w M hT hl hM (fun x h => hx (pT x) (List.mem_map_of_mem h)) hf h3

end Go.Proofs.Ytjlglfjikfpboaa.books
