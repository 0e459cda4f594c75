/- The law TreeUndo. -/
import Derived.Test.YtnndohdiiglgmaaKTuA
import Derived.Deep.CutRange


namespace Go.Proofs.Ytnndohdiiglgmaa.trees
set_option linter.unusedVariables false
set_option linter.unusedSimpArgs false
open Go.RowKit Go.Proofs.Ytnndohdiiglgmaa.base Go.Proofs.Ytnndohdiiglgmaa.vers Go.Proofs.Ytnndohdiiglgmaa.nodes Go.Proofs.Ytnndohdiiglgmaa.quotas

/-- where the law stands, beside a call's box -/
structure UI (w : World) (h rb ob : Nat) (S : Nat → Prop) (ns : List P3) (r : R) (ht : Nat) (L : List PE) (lt : List TO) (v : Value) (o : TO) (wr : World) : Prop where
  oi : OI w h rb S ns r ht L lt v wr
  ko : Blk wr ob 36 #[.int .i64 o.k, .string o.n, .string o.v, .slice o.A o.m o.c, .int .i64 o.b]
  nS : ¬ S ob
  lo : w.heap.size ≤ ob ∧ ob ≠ rb
  nv : ∀ g, v.ownBlock = some g → g ≠ ob
  nn : ∀ x ∈ lt, x.n ≠ o.n
theorem OI.next {w : World} {h rb : Nat} {S : Nat → Prop} {ns : List P3} {r : R} {ht : Nat} {L : List PE} {lt : List TO} {v : Value} {wr w' : World} (I : OI w h rb S ns r ht L lt v wr) (hb : Below wr.heap.size wr w') : OI w h rb S ns r ht L lt v w' :=
  ⟨I.below.trans (hb.mono I.below.size), I.hp.below hb, I.lo, I.rbn, I.kb.below hb I.kb.lt, I.lrb, row_below I.row hb, I.own, I.fits, I.root, I.mp, I.ref⟩
theorem UI.next {w : World} {h rb ob : Nat} {S : Nat → Prop} {ns : List P3} {r : R} {ht : Nat} {L : List PE} {lt : List TO} {v : Value} {o : TO} {wr w' : World} (I : UI w h rb ob S ns r ht L lt v o wr) (hb : Below wr.heap.size wr w') : UI w h rb ob S ns r ht L lt v o w' :=
  ⟨I.oi.next hb, I.ko.below hb I.ko.lt, I.nS, I.lo, I.nv, I.nn⟩
theorem UI.keep {w : World} {h rb ob : Nat} {S S' : Nat → Prop} {ns m : List P3} {r : R} {ht : Nat} {L : List PE} {lt : List TO} {v : Value} {o : TO} {wr w' : World} (I : UI w h rb ob S ns r ht L lt v o wr) (hk : Keep S wr w') (hp : Hp w' h S' (ns ++ m)) (hs : ∀ g, S' g → S g ∨ wr.heap.size ≤ g) : UI w h rb ob S' (ns ++ m) r ht L lt v o w' := by
  have lw := I.oi.below.size
  have lb := I.oi.kb.lt
  have lo := I.ko.lt
  refine ⟨⟨I.oi.below.trans (hk.below (fun g hg => I.oi.lo g hg) lw), hp, fun g hg => (hs g hg).elim (I.oi.lo g) (fun h9 => by omega), fun h9 => (hs _ h9).elim I.oi.rbn (fun h9 => by omega), hk.blk I.oi.kb I.oi.rbn, I.oi.lrb, ownsRow_agree I.oi.row (fun g hg => hk.block g (I.oi.row.lt g hg).2 (I.oi.own g hg).2.1), fun g hg => ⟨(I.oi.own g hg).1, fun h9 => (hs _ h9).elim (I.oi.own g hg).2.1 (fun h9 => by have := (I.oi.row.lt g hg).2; omega), (I.oi.own g hg).2.2⟩, I.oi.fits, I.oi.root.app m, I.oi.mp, ?_⟩,
    hk.blk I.ko I.nS, fun h9 => (hs _ h9).elim I.nS (fun h9 => by omega), I.lo, I.nv, I.nn⟩
  obtain ⟨k, hk1, hk2⟩ := I.oi.ref
  exact ⟨k, hk1, by rw [List.length_append]; omega⟩
theorem op_row0 (w : World) : (w.alloc (.cells #[] 36)).ownsRow 0 36 5 (.slice (some ⟨w.heap.size, 0, none⟩) 0 0) 0 [] := ⟨rfl, .inr ⟨w.heap.size, 0, #[], rfl, Nat.zero_le _, heap_alloc_new w _, Nat.le_refl _, Nat.zero_le _, rfl, rfl⟩⟩
theorem cellsT_one : ∀ (l : List TO), ∀ u ∈ cellsT l, u.oneCell' = true
  | [], u, hu => by simp [cellsT] at hu
  | x :: l, u, hu => by
    rw [cellsT] at hu
    rcases List.mem_append.1 hu with h | h
    · simp [TO.cells] at h
      rcases h with rfl | rfl | rfl | rfl | rfl <;> rfl
    · exact cellsT_one l u h
def UH (w : World) (m h rb ob : Nat) (o : TO) (i e v : Value) (wr : World) : Prop :=
  ∃ (j : Nat) (S : Nat → Prop) (ns : List P3) (r : R) (ht : Nat) (L : List PE) (lt : List TO), j ≤ m ∧ i = .int .i64 (j : Int) ∧ e = .int .i64 0 ∧ Hid (UI w h rb ob S ns r ht L lt v o wr) ∧ lt.length ≤ j ∧ ns.length ≤ 1 + 17 * j

set_option maxRecDepth 100000 in
set_option maxHeartbeats 16000000 in
theorem law_treeUndo (l : List TO) (A : Option Addr) (c : Nat) (o : TO) (w : World) (hT : Tos w w.heap.size l A c) (hof : o.fits) :
    Calls Try.prog 7 #[.slice A l.length c, .agg #[.int .i64 o.k, .string o.n, .string o.v, .slice o.A o.m o.c, .int .i64 o.b]] w fun e w' => e = .returned (.bool true) ∧ Below w.heap.size w w' := by
  have bX0 : Below w.heap.size w (w.alloc (.cells #[.int .i64 o.k, .string o.n, .string o.v, .slice o.A o.m o.c, .int .i64 o.b] 36)) := (Below.refl _ _).alloc (Nat.le_refl _) _
  have kO0 := Blk.new w 36 #[.int .i64 o.k, .string o.n, .string o.v, .slice o.A o.m o.c, .int .i64 o.b]
  have sX0 : (w.alloc (.cells #[.int .i64 o.k, .string o.n, .string o.v, .slice o.A o.m o.c, .int .i64 o.b] 36)).heap.size = w.heap.size + 1 := by simp
  obtain ⟨W0, hW0⟩ : ∃ W0, w.alloc (.cells #[.int .i64 o.k, .string o.n, .string o.v, .slice o.A o.m o.c, .int .i64 o.b] 36) = W0 := ⟨_, rfl⟩
  rw [hW0] at bX0 kO0 sX0
  have hn := newHeap_any W0
  have HOF := vers.lay hof
  have HS0 := vers.lay sX0
  have HW0 := vers.lay hW0
  clear sX0 hW0 hof
  go_enter Try.func7, Try.ntmps7
  go_wp2_with fail
  rw [HW0.out]
  refine hn.mono ?_
  rintro e w1 ⟨h, rfl, hh, hH, hb1⟩
  have he := empty_ok h (fun g => g = h) [] w1 hH (by simp)
  simp only [List.nil_append, List.length_nil] at he
  obtain ⟨rr, hrr⟩ : ∃ rr, rr = refOf 0 := ⟨_, rfl⟩
  rw [← hrr] at he
  have HRR := vers.lay hrr
  clear hrr hn
  obtain ⟨rk, rg, ro, rn⟩ := rr
  go_wp2_with fail
  refine he.mono ?_
  rintro e w2 ⟨S', rfl, hH2, hS2, hK2⟩
  clear he
  have hs1 := hb1.size
  have b12 : Below W0.heap.size w1 w2 := hK2.below (fun g hg => by rw [show g = h from hg]; exact hh) hs1
  have b2 : Below w.heap.size w w2 := bX0.trans ((hb1.trans b12).mono bX0.size)
  have lo2 : ∀ g, S' g → W0.heap.size ≤ g := fun g hg => by rcases hS2 g hg with h1 | h1 <;> omega
  have kO2 := kO0.below (hb1.trans b12) kO0.lt
  have b3 : Below w2.heap.size w2 (w2.alloc (.cells #[.int .u64 (rk : Int), .int .i64 rg, .int .i64 ro, .int .i64 rn] 27)) := (Below.refl _ _).alloc (Nat.le_refl _) _
  have kb3 := Blk.new w2 27 #[.int .u64 (rk : Int), .int .i64 rg, .int .i64 ro, .int .i64 rn]
  have b30 := b2.trans (b3.mono b2.size)
  have hI0 : UI w h w2.heap.size w.heap.size S' [(true, [], [])] ⟨rk, rg, ro, rn⟩ 0 [] [] (.slice none 0 0) o (w2.alloc (.cells #[.int .u64 (rk : Int), .int .i64 rg, .int .i64 ro, .int .i64 rn] 27)) :=
    ⟨⟨b30, hH2.below b3, fun g hg => by have := lo2 g hg; have := HS0.out; omega, fun hs => Nat.lt_irrefl _ (hH2.lt _ hs), kb3, b2.size, ⟨rfl, .inl ⟨rfl, rfl⟩⟩, (fun g hg => by cases hg), (fun x hx => by cases hx), by rw [HRR.out]; exact Root.empty [], Mp.nil, ⟨0, HRR.out, by simp⟩⟩,
      kO2.below b3 kO2.lt, fun hs => by have := lo2 _ hs; have := HS0.out; omega, ⟨by omega, by have := kO2.lt; omega⟩, (fun g hg => by cases hg), fun x hx => by cases hx⟩
  have hshr := shortT_any l A c 40 (by omega) (w2.alloc (.cells #[.int .u64 (rk : Int), .int .i64 rg, .int .i64 ro, .int .i64 rn] 27)) (hT.at_world b30)
  have hlm : (l.take 40).length ≤ 40 := by rw [List.length_take]; omega
  have hX := hT.take (k := (l.take 40).length) (by rw [List.length_take]; omega)
  rw [show l.take (l.take 40).length = l.take 40 by rw [List.length_take]; rcases Nat.lt_or_ge l.length 40 with h9 | h9; (rw [Nat.min_eq_right (by omega), List.take_of_length_le (Nat.le_refl _), List.take_of_length_le (by omega)]); (rw [Nat.min_eq_left h9])] at hX
  rw [show ((40 : Nat) : Int) = 40 from rfl] at hshr
  generalize l.take 40 = lm at *
  clear hT hH2 hS2 hK2 b2 b3 b30 lo2 kb3 hb1 hh hH kO0 kO2 bX0 b12 hs1
  generalize hW3 : w2.alloc (.cells #[.int .u64 (rk : Int), .int .i64 rg, .int .i64 ro, .int .i64 rn] 27) = W3 at *
  go_wp2_with fail
  refine hshr.mono ?_
  rintro e wsh ⟨rfl, rfl⟩
  clear hshr
  generalize w2.heap.size = rb at *
  have hI0 := vers.lay hI0
  go_wp2_with fail
  go_loopw [31, 7, 8] (fun i e v wr => UH w lm.length h rb w.heap.size o i e v wr) (fun i _ _ _ => lm.length - (intOf i).toNat)
  case atStart => exact ⟨0, S', _, _, 0, [], [], Nat.zero_le _, rfl, rfl, hI0, Nat.le_refl _, by simp⟩
  case round =>
    clear hI0 HRR
    obtain ⟨j, S, ns, r, ht, L, lt, hj, rfl, rfl, HU, hltj, hnsj⟩ := hrel
    by_cases hlt : j < lm.length
    · skip
      have hU := HU.out
      have hI := hU.oi
      obtain ⟨bk, off, rfl, hbk, x0, x1, x2, x3, x4⟩ := (hX.below hI.below).at_ hlt
      have hfx := hX.2.2.2.2 _ (List.getElem_mem hlt)
      have HJM := vers.lay (show j + 1 ≤ lm.length from hlt)
      have HXS := vers.lay hX
      clear hX
      generalize lm[j] = x at x0 x1 x2 x3 x4 hfx
      obtain ⟨xk, xn, xv, xA, xm, xc, xb⟩ := x
      simp only [] at x0 x1 x2 x3 x4
      have hfn : xn.size ≤ maxLen := hfx.1
      have hfv : xv.size ≤ maxLen := hfx.2
      have HFX := vers.lay hfx
      clear hfx
      have hsh := hI.shown (by omega) (by omega)
      have hht := hsh.low
      have hfit := hsh.fits
      have HNS := vers.lay hnsj
      have bX : Below wr.heap.size wr (wr.alloc (.cells #[.int .i64 xk, .string xn, .string xv, .slice xA xm xc, .int .i64 xb] 36)) := (Below.refl _ _).alloc (Nat.le_refl _) _
      have kX := Blk.new wr 36 #[.int .i64 xk, .string xn, .string xv, .slice xA xm xc, .int .i64 xb]
      have sX : wr.heap.size < (wr.alloc (.cells #[.int .i64 xk, .string xn, .string xv, .slice xA xm xc, .int .i64 xb] 36)).heap.size := by simp
      have hUX := hU.next bX
      have lwr := hI.below.size
      have lrbw := hI.kb.lt
      have lobw := hU.ko.lt
      have HSL := vers.lay hI.hp.lt
      have hOOB := hUX.ko.cell 1
      simp only [List.getElem?_toArray, List.getElem?_cons_zero, List.getElem?_cons_succ] at hOOB
      generalize hWX : wr.alloc (.cells #[.int .i64 xk, .string xn, .string xv, .slice xA xm xc, .int .i64 xb] 36) = WX at *
      have q0 := kX.cell 0
      have q1 := kX.cell 1
      have q2 := kX.cell 2
      have q3 := kX.cell 3
      have q4 := kX.cell 4
      simp only [List.getElem?_toArray, List.getElem?_cons_zero, List.getElem?_cons_succ] at q0 q1 q2 q3 q4
      have lX := kX.lt
      have lob := hUX.ko.lt
      obtain ⟨Av, cv, rfl, hv1, hv2, hv3⟩ := row_rdF hI.row
      by_cases hne : xn = o.n
      · subst hne
        have HU9 := vers.lay hUX
        clear hI hU HU hUX hsh hv1 hv2 hv3
        go_wp2_with fail
        refine ⟨⟨j + 1, S, ns, r, ht, L, lt, HJM.out, by go_num, rfl, HU9, by omega, by have := HNS.out; omega⟩, by first | (simp [intOf]; done) | (simp [intOf]; omega) | (have := HJM.out; simp [intOf]; omega) | omega⟩
      · have n1 : decide (xn = o.n) = false := decide_eq_false hne
        have n2 : (xn.toList == o.n.toList) = false := by
          rw [beq_eq_false_iff_ne, ByteArray.toList_eq, ByteArray.toList_eq]
          exact fun e => hne (ByteArray.ext (Array.toList_inj.1 e))
        have HNE := vers.lay hne
        clear hne
        obtain ⟨m, r', h', hroot, hh', hml, href, hput⟩ := put_tree h S hI.root xn [vOf xv] hI.mp.inc (by omega) hfit hfn (by omega)
        have HMP := vers.lay (hI.mp.put ⟨xk, xn, xv, xA, xm, xc, xb⟩)
        have HROOT := vers.lay hroot
        have HREF := vers.lay href
        have HML := vers.lay (show (ns ++ m).length ≤ 1 + 17 * (j + 1) by rw [List.length_append]; omega)
        obtain ⟨rk, rg, ro, rn⟩ := r
        obtain ⟨rk', rg', ro', rn'⟩ := r'
        have kbX := hUX.oi.kb
        have hpX := hUX.oi.hp
        have nSb := hI.rbn
        have nSx : ¬ S wr.heap.size := fun hs => by have := HSL.out _ hs; omega
        have b0 := kbX.cell 0
        have b1 := kbX.cell 1
        have b2 := kbX.cell 2
        have b3 := kbX.cell 3
        simp only [List.getElem?_toArray, List.getElem?_cons_zero, List.getElem?_cons_succ] at b0 b1 b2 b3
        have lrb := kbX.lt
        have hsec := fun wx => secret_any ⟨xk, xn, xv, xA, xm, xc, xb⟩ wx
        have HI := vers.lay hI
        have HUX := vers.lay hUX
        clear hI hU HU hUX hsh hroot href
        go_upto_region 12 with (fail)
        have hbD : Below WX.heap.size WX WX.drew := (Below.refl _ _).drew
        have hS0 : Keep S WX WX.drew := Keep.of_below hbD
        refine mix.region_D (fun w' => Keep S WX w') (fun j => j == 7 || j == 8 || j == 9 || j == 10) (by kernel_rfl) ?_
        generalize WX.drew = Wd at hbD hS0 ⊢
        refine mix.D_takeT (i := 0) (v := ?_) rfl (by kernel_rfl) (by kernel_rfl) (fun _ _ _ h => h) (Or.inl ⟨by first | rfl | simp [Region.wanted, yielded], ?_⟩) hS0 ?_
        rotate_left
        · intro w' hSw
          have z0 := (hSw.cell (p := ⟨rb, 0, none⟩) lrb nSb).trans b0
          have z1 := (hSw.cell (p := ⟨rb, 1, none⟩) lrb nSb).trans b1
          have z2 := (hSw.cell (p := ⟨rb, 2, none⟩) lrb nSb).trans b2
          have z3 := (hSw.cell (p := ⟨rb, 3, none⟩) lrb nSb).trans b3
          have y0 := (hSw.cell (p := ⟨wr.heap.size, 0, none⟩) lX nSx).trans q0
          have y1 := (hSw.cell (p := ⟨wr.heap.size, 1, none⟩) lX nSx).trans q1
          have y2 := (hSw.cell (p := ⟨wr.heap.size, 2, none⟩) lX nSx).trans q2
          have y3 := (hSw.cell (p := ⟨wr.heap.size, 3, none⟩) lX nSx).trans q3
          have y4 := (hSw.cell (p := ⟨wr.heap.size, 4, none⟩) lX nSx).trans q4
          try simp only [List.getElem_toArray, List.getElem_cons_zero, List.getElem_cons_succ]
          go_simp
          exact rfl
        try simp only [Act.put, List.setIfInBounds_toArray, List.set_cons_zero, List.set_cons_succ, List.getElem_toArray, List.getElem_cons_zero, List.getElem_cons_succ]
        refine mix.D_takeT (i := 1) (v := ?_) rfl (by kernel_rfl) (by kernel_rfl) (fun _ _ _ h => h) (Or.inl ⟨by first | rfl | simp [Region.wanted, yielded], ?_⟩) hS0 ?_
        rotate_left
        · intro w' hSw
          have z0 := (hSw.cell (p := ⟨rb, 0, none⟩) lrb nSb).trans b0
          have z1 := (hSw.cell (p := ⟨rb, 1, none⟩) lrb nSb).trans b1
          have z2 := (hSw.cell (p := ⟨rb, 2, none⟩) lrb nSb).trans b2
          have z3 := (hSw.cell (p := ⟨rb, 3, none⟩) lrb nSb).trans b3
          have y0 := (hSw.cell (p := ⟨wr.heap.size, 0, none⟩) lX nSx).trans q0
          have y1 := (hSw.cell (p := ⟨wr.heap.size, 1, none⟩) lX nSx).trans q1
          have y2 := (hSw.cell (p := ⟨wr.heap.size, 2, none⟩) lX nSx).trans q2
          have y3 := (hSw.cell (p := ⟨wr.heap.size, 3, none⟩) lX nSx).trans q3
          have y4 := (hSw.cell (p := ⟨wr.heap.size, 4, none⟩) lX nSx).trans q4
          try simp only [List.getElem_toArray, List.getElem_cons_zero, List.getElem_cons_succ]
          go_simp
          exact rfl
        try simp only [Act.put, List.setIfInBounds_toArray, List.set_cons_zero, List.set_cons_succ, List.getElem_toArray, List.getElem_cons_zero, List.getElem_cons_succ]
        refine mix.D_takeT (i := 2) (v := ?_) rfl (by kernel_rfl) (by kernel_rfl) (fun _ _ _ h => h) (Or.inl ⟨by first | rfl | simp [Region.wanted, yielded], ?_⟩) hS0 ?_
        rotate_left
        · intro w' hSw
          have z0 := (hSw.cell (p := ⟨rb, 0, none⟩) lrb nSb).trans b0
          have z1 := (hSw.cell (p := ⟨rb, 1, none⟩) lrb nSb).trans b1
          have z2 := (hSw.cell (p := ⟨rb, 2, none⟩) lrb nSb).trans b2
          have z3 := (hSw.cell (p := ⟨rb, 3, none⟩) lrb nSb).trans b3
          have y0 := (hSw.cell (p := ⟨wr.heap.size, 0, none⟩) lX nSx).trans q0
          have y1 := (hSw.cell (p := ⟨wr.heap.size, 1, none⟩) lX nSx).trans q1
          have y2 := (hSw.cell (p := ⟨wr.heap.size, 2, none⟩) lX nSx).trans q2
          have y3 := (hSw.cell (p := ⟨wr.heap.size, 3, none⟩) lX nSx).trans q3
          have y4 := (hSw.cell (p := ⟨wr.heap.size, 4, none⟩) lX nSx).trans q4
          try simp only [List.getElem_toArray, List.getElem_cons_zero, List.getElem_cons_succ]
          go_simp
          exact rfl
        try simp only [Act.put, List.setIfInBounds_toArray, List.set_cons_zero, List.set_cons_succ, List.getElem_toArray, List.getElem_cons_zero, List.getElem_cons_succ]
        refine mix.D_takeT (i := 3) (v := ?_) rfl (by kernel_rfl) (by kernel_rfl) (fun _ _ _ h => h) (Or.inl ⟨by first | rfl | simp [Region.wanted, yielded], ?_⟩) hS0 ?_
        rotate_left
        · intro w' hSw
          have z0 := (hSw.cell (p := ⟨rb, 0, none⟩) lrb nSb).trans b0
          have z1 := (hSw.cell (p := ⟨rb, 1, none⟩) lrb nSb).trans b1
          have z2 := (hSw.cell (p := ⟨rb, 2, none⟩) lrb nSb).trans b2
          have z3 := (hSw.cell (p := ⟨rb, 3, none⟩) lrb nSb).trans b3
          have y0 := (hSw.cell (p := ⟨wr.heap.size, 0, none⟩) lX nSx).trans q0
          have y1 := (hSw.cell (p := ⟨wr.heap.size, 1, none⟩) lX nSx).trans q1
          have y2 := (hSw.cell (p := ⟨wr.heap.size, 2, none⟩) lX nSx).trans q2
          have y3 := (hSw.cell (p := ⟨wr.heap.size, 3, none⟩) lX nSx).trans q3
          have y4 := (hSw.cell (p := ⟨wr.heap.size, 4, none⟩) lX nSx).trans q4
          try simp only [List.getElem_toArray, List.getElem_cons_zero, List.getElem_cons_succ]
          go_simp
          exact rfl
        try simp only [Act.put, List.setIfInBounds_toArray, List.set_cons_zero, List.set_cons_succ, List.getElem_toArray, List.getElem_cons_zero, List.getElem_cons_succ]
        refine mix.D_op (k := 4) rfl rfl (by kernel_rfl) (fun K' hK => ?_)
        simp only [List.getElem_toArray, List.getElem_cons_zero, List.getElem_cons_succ]
        go_wp2_with fail
        refine (hsec Wd).mono ?_
        rintro e ws ⟨q, rfl, hq, hkq, hbs⟩
        have hbS : Below WX.heap.size WX ws := hbD.trans (hbs.mono hbD.size)
        have hS1 : Keep S WX ws := Keep.of_below hbS
        refine hK.out _ _ (fun _ => hS1) ?_
        clear hK K'
        try simp only [Act.put, List.setIfInBounds_toArray, List.set_cons_zero, List.set_cons_succ]
        refine mix.D_op (k := 5) rfl rfl (by kernel_rfl) (fun K' hK => ?_)
        simp only [List.getElem_toArray, List.getElem_cons_zero, List.getElem_cons_succ]
        have hputc := hput ws (some ⟨q, 0, none⟩) 1 (hpX.below hbS) (vs_of_blk hkq hfv)
        simp only [List.length_singleton] at hputc
        go_wp2_with fail
        refine hputc.mono ?_
        clear hputc
        rintro e wp ⟨S', rfl, hH3, hS3, hK3⟩
        have hS2 : Keep S WX wp := hS1.trans hK3 (fun g hg _ => hg)
        refine hK.out _ _ (fun _ => hS2) ?_
        clear hK K'
        try simp only [Act.put, List.setIfInBounds_toArray, List.set_cons_zero, List.set_cons_succ]
        refine mix.D_takeT (i := 6) (v := ?_) rfl (by kernel_rfl) (by kernel_rfl) (fun _ _ _ h => h) (Or.inl ⟨by first | rfl | simp [Region.wanted, yielded], ?_⟩) hS2 ?_
        rotate_left
        · intro w' hSw
          have z0 := (hSw.cell (p := ⟨rb, 0, none⟩) lrb nSb).trans b0
          have z1 := (hSw.cell (p := ⟨rb, 1, none⟩) lrb nSb).trans b1
          have z2 := (hSw.cell (p := ⟨rb, 2, none⟩) lrb nSb).trans b2
          have z3 := (hSw.cell (p := ⟨rb, 3, none⟩) lrb nSb).trans b3
          have y0 := (hSw.cell (p := ⟨wr.heap.size, 0, none⟩) lX nSx).trans q0
          have y1 := (hSw.cell (p := ⟨wr.heap.size, 1, none⟩) lX nSx).trans q1
          have y2 := (hSw.cell (p := ⟨wr.heap.size, 2, none⟩) lX nSx).trans q2
          have y3 := (hSw.cell (p := ⟨wr.heap.size, 3, none⟩) lX nSx).trans q3
          have y4 := (hSw.cell (p := ⟨wr.heap.size, 4, none⟩) lX nSx).trans q4
          try simp only [List.getElem_toArray, List.getElem_cons_zero, List.getElem_cons_succ]
          go_simp
          exact rfl
        try simp only [Act.put, List.setIfInBounds_toArray, List.set_cons_zero, List.set_cons_succ, List.getElem_toArray, List.getElem_cons_zero, List.getElem_cons_succ]
        refine mix.D_takeF (i := 7) (v := ?_) rfl (by kernel_rfl) (by kernel_rfl) (fun _ _ _ h => h) (Or.inl ⟨by first | rfl | simp [Region.wanted, yielded], ?_⟩) ?_
        rotate_left
        · intro w' _
          try simp only [List.getElem_toArray, List.getElem_cons_zero, List.getElem_cons_succ]
          go_simp
          exact rfl
        try simp only [Act.put, List.setIfInBounds_toArray, List.set_cons_zero, List.set_cons_succ, List.getElem_toArray, List.getElem_cons_zero, List.getElem_cons_succ]
        refine mix.D_takeF (i := 8) (v := ?_) rfl (by kernel_rfl) (by kernel_rfl) (fun _ _ _ h => h) (Or.inl ⟨by first | rfl | simp [Region.wanted, yielded], ?_⟩) ?_
        rotate_left
        · intro w' _
          try simp only [List.getElem_toArray, List.getElem_cons_zero, List.getElem_cons_succ]
          go_simp
          exact rfl
        try simp only [Act.put, List.setIfInBounds_toArray, List.set_cons_zero, List.set_cons_succ, List.getElem_toArray, List.getElem_cons_zero, List.getElem_cons_succ]
        refine mix.D_op (k := 9) rfl rfl (by kernel_rfl) (fun K' hK => ?_)
        simp only [List.getElem_toArray, List.getElem_cons_zero, List.getElem_cons_succ]
        have kb9 := hS2.blk kbX nSb
        have p0 := kb9.cell 0
        have p1 := kb9.cell 1
        have p2 := kb9.cell 2
        have p3 := kb9.cell 3
        simp only [List.getElem?_toArray, List.getElem?_cons_zero, List.getElem?_cons_succ] at p0 p1 p2 p3
        have pf0 := kb9.frozen 0
        have pf1 := kb9.frozen 1
        have pf2 := kb9.frozen 2
        have pf3 := kb9.frozen 3
        have lb9 := kb9.lt
        go_wp2_with fail
        refine hK.out _ _ (fun h => by simp at h) ?_
        clear hK K'
        try simp only [Act.put, List.setIfInBounds_toArray, List.set_cons_zero, List.set_cons_succ]
        refine mix.D_op (k := 10) rfl rfl (by kernel_rfl) (fun K' hK => ?_)
        simp only [List.getElem_toArray, List.getElem_cons_zero, List.getElem_cons_succ]
        go_wp2_with fail
        refine hK.out _ _ (fun h => by simp at h) ?_
        clear hK K'
        try simp only [Act.put, List.setIfInBounds_toArray, List.set_cons_zero, List.set_cons_succ]
        refine mix.D_done (by kernel_rfl) ?_ _
        try simp only [Act.put, List.setIfInBounds_toArray, List.set_cons_zero, List.set_cons_succ, List.getElem_toArray, List.getElem_cons_zero, List.getElem_cons_succ]
        have zws := hbS.size
        have zwp := hS2.size
        have kob9 := hS2.blk HUX.out.ko HUX.out.nS
        have kX9 := hS2.blk kX nSx
        have row9 := ownsRow_agree (row_below HI.out.row bX) (w' := wp) (fun g hg => hS2.block g (by have := (HI.out.row.lt g hg).2; omega) (HI.out.own g hg).2.1)
        have bw9 : Below w.heap.size w wp := (HI.out.below.trans (bX.mono lwr)).trans (hS2.below (fun g hg => HI.out.lo g hg) (by omega))
        have bw5 := four4_below bw9 (g := rb) HI.out.lrb (.int .u64 (rk' : Int)) (.int .i64 rg') (.int .i64 ro') (.int .i64 rn')
        have kb5 := ((((kb9.put 0 (.int .u64 (rk' : Int))).put 1 (.int .i64 rg')).put 2 (.int .i64 ro')).put 3 (.int .i64 rn'))
        simp only [List.setIfInBounds_toArray, List.set_cons_zero, List.set_cons_succ] at kb5
        have hfour := fun k (hk : k ≠ rb) => four4_heap wp rb (.int .u64 (rk' : Int)) (.int .i64 rg') (.int .i64 ro') (.int .i64 rn') k hk
        have nS'b : ¬ S' rb := fun hs => by rcases hS3 _ hs with h9 | h9; exact nSb h9; omega
        have nS'o : ¬ S' w.heap.size := fun hs => by rcases hS3 _ hs with h9 | h9; exact HUX.out.nS h9; omega
        have hHp6 := hH3.four nS'b (.int .u64 (rk' : Int)) (.int .i64 rg') (.int .i64 ro') (.int .i64 rn')
        have row5 := ownsRow_agree row9 (w' := four4 wp rb (.int .u64 (rk' : Int)) (.int .i64 rg') (.int .i64 ro') (.int .i64 rn')) (fun g hg => hfour g (HI.out.own g hg).2.2)
        have kX6 : Blk (four4 wp rb (.int .u64 (rk' : Int)) (.int .i64 rg') (.int .i64 ro') (.int .i64 rn')) wr.heap.size 36 #[.int .i64 xk, .string xn, .string xv, .slice xA xm xc, .int .i64 xb] := (hfour _ (by omega)).trans kX9
        have ko6 : Blk (four4 wp rb (.int .u64 (rk' : Int)) (.int .i64 rg') (.int .i64 ro') (.int .i64 rn')) w.heap.size 36 #[.int .i64 o.k, .string o.n, .string o.v, .slice o.A o.m o.c, .int .i64 o.b] := (hfour _ HUX.out.lo.2).trans kob9
        unfold four4 at bw5 hHp6 row5 kX6 ko6
        clear hfour b0 b1 b2 b3 p0 p1 p2 p3 pf0 pf1 pf2 pf3 kb9 kX9 row9 bw9 kob9 hH3 hK3 hkq kbX hpX kX q0 q1 q2 q3 q4 x0 x1 x2 x3 x4 hsec hput hOOB hv3 lb9
        generalize (((wp.setCell ⟨rb, 0, none⟩ (.int .u64 (rk' : Int))).setCell ⟨rb, 1, none⟩ (.int .i64 rg')).setCell ⟨rb, 2, none⟩ (.int .i64 ro')).setCell ⟨rb, 3, none⟩ (.int .i64 rn') = w6 at bw5 hHp6 row5 kX6 ko6 kb5 ⊢
        have kb6 := kb5
        clear kb5
        have HB6 := vers.lay bw5
        have HLO := vers.lay (⟨fun g hs => (hS3 g hs).elim (fun h9 => HI.out.lo g h9) (fun h9 => by omega), nS'b⟩ : (∀ g, S' g → w.heap.size ≤ g) ∧ ¬ S' rb)
        have HNO := vers.lay nS'o
        have HSL6 := vers.lay hHp6.lt
        obtain ⟨A7, c7, e7, hw1, hw2, hw3⟩ := row_rdF row5
        injection e7 with e7 _ e8
        subst e7 e8
        have hTl : Tos w6 w6.heap.size lt Av cv := ⟨hw1, by omega, hw2, hw3.rd, HI.out.fits⟩
        clear hw1 hw2 hw3 row5 bw5 hS3 nS'b nS'o hS0 hS1 hS2 hbD hbS hbs
        generalize wr.heap.size = bx at *
        go_upto_region 13 with (fail)
        have ax0 := kX6.cell 0
        have ax1 := kX6.cell 1
        have ax2 := kX6.cell 2
        have ax3 := kX6.cell 3
        have ax4 := kX6.cell 4
        simp only [List.getElem?_toArray, List.getElem?_cons_zero, List.getElem?_cons_succ] at ax0 ax1 ax2 ax3 ax4
        have axl := kX6.lt
        have hwo := fun wx (hb : Below w6.heap.size w6 wx) => without_any lt Av cv xn wx (hTl.at_world hb) (by omega)
        have hS0 : Below w6.heap.size w6 w6.drew := (Below.refl _ _).drew
        refine mix.region_D (fun w' => Below w6.heap.size w6 w') (fun j => j == 7) (by kernel_rfl) ?_
        generalize w6.drew = wd at hS0 ⊢
        refine mix.D_takeT (i := 0) (v := ?_) rfl (by kernel_rfl) (by kernel_rfl) (fun _ _ _ h => h) (Or.inl ⟨by rfl, ?_⟩) hS0 ?_
        rotate_left
        · intro w' hSw
          try simp only [List.getElem_toArray, List.getElem_cons_zero, List.getElem_cons_succ]
          go_simp
          exact rfl
        try simp only [Act.put, List.setIfInBounds_toArray, List.set_cons_zero, List.set_cons_succ, List.getElem_toArray, List.getElem_cons_zero, List.getElem_cons_succ]
        refine mix.D_takeT (i := 1) (v := ?_) rfl (by kernel_rfl) (by kernel_rfl) (fun _ _ _ h => h) (Or.inl ⟨by rfl, ?_⟩) hS0 ?_
        rotate_left
        · intro w' hSw
          try simp only [List.getElem_toArray, List.getElem_cons_zero, List.getElem_cons_succ]
          go_simp
          exact rfl
        try simp only [Act.put, List.setIfInBounds_toArray, List.set_cons_zero, List.set_cons_succ, List.getElem_toArray, List.getElem_cons_zero, List.getElem_cons_succ]
        refine mix.D_takeT (i := 2) (v := ?_) rfl (by kernel_rfl) (by kernel_rfl) (fun _ _ _ h => h) (Or.inl ⟨by rfl, ?_⟩) hS0 ?_
        rotate_left
        · intro w' hSw
          have y1 := (hSw.cell (p := ⟨bx, 1, none⟩) axl).trans ax1
          try simp only [List.getElem_toArray, List.getElem_cons_zero, List.getElem_cons_succ]
          go_simp
          exact rfl
        try simp only [Act.put, List.setIfInBounds_toArray, List.set_cons_zero, List.set_cons_succ, List.getElem_toArray, List.getElem_cons_zero, List.getElem_cons_succ]
        refine mix.D_takeT (i := 4) (v := ?_) rfl (by kernel_rfl) (by kernel_rfl) (fun _ _ _ h => h) (Or.inl ⟨by rfl, ?_⟩) hS0 ?_
        rotate_left
        · intro w' hSw
          have y0 := (hSw.cell (p := ⟨bx, 0, none⟩) axl).trans ax0
          have y1 := (hSw.cell (p := ⟨bx, 1, none⟩) axl).trans ax1
          have y2 := (hSw.cell (p := ⟨bx, 2, none⟩) axl).trans ax2
          have y3 := (hSw.cell (p := ⟨bx, 3, none⟩) axl).trans ax3
          have y4 := (hSw.cell (p := ⟨bx, 4, none⟩) axl).trans ax4
          try simp only [List.getElem_toArray, List.getElem_cons_zero, List.getElem_cons_succ]
          go_simp
          exact rfl
        try simp only [Act.put, List.setIfInBounds_toArray, List.set_cons_zero, List.set_cons_succ, List.getElem_toArray, List.getElem_cons_zero, List.getElem_cons_succ]
        refine mix.D_two (k := 3) (j := 5) rfl rfl rfl rfl (by kernel_rfl) (fun K' hK => ?_) (fun K' hK => ?_)
        · simp only [List.getElem_toArray, List.getElem_cons_zero, List.getElem_cons_succ]
          go_wp2_with fail
          refine (hwo _ hS0).mono ?_
          rintro e wa ⟨vw, rfl, htw, hba⟩
          have hbA : Below w6.heap.size w6 wa := hS0.trans (hba.mono hS0.size)
          refine hK.out _ _ (fun _ => hbA) ?_
          clear hK K'
          try simp only [Act.put, List.setIfInBounds_toArray, List.set_cons_zero, List.set_cons_succ, List.getElem_toArray, List.getElem_cons_zero, List.getElem_cons_succ]
          refine mix.D_op (k := 5) rfl rfl (by kernel_rfl) (fun K' hK => ?_)
          simp only [List.getElem_toArray, List.getElem_cons_zero, List.getElem_cons_succ]
          go_wp2_with fail
          have bq : Below wa.heap.size wa (wa.alloc (.cells #[.int .i64 xk, .string xn, .string xv, .slice xA xm xc, .int .i64 xb] 36)) := (Below.refl _ _).alloc (Nat.le_refl _) _
          have kq := Blk.new wa 36 #[.int .i64 xk, .string xn, .string xv, .slice xA xm xc, .int .i64 xb]
          have hbQ : Below w6.heap.size w6 (wa.alloc (.cells #[.int .i64 xk, .string xn, .string xv, .slice xA xm xc, .int .i64 xb] 36)) := hbA.trans (bq.mono hbA.size)
          have lq : wa.heap.size < (wa.alloc (.cells #[.int .i64 xk, .string xn, .string xv, .slice xA xm xc, .int .i64 xb] 36)).heap.size := by simp
          generalize wa.alloc (.cells #[.int .i64 xk, .string xn, .string xv, .slice xA xm xc, .int .i64 xb] 36) = wq at bq kq hbQ lq ⊢
          have hrq := row_below htw.1 bq
          refine hK.out _ _ (fun _ => hbQ) ?_
          clear hK K'
          try simp only [Act.put, List.setIfInBounds_toArray, List.set_cons_zero, List.set_cons_succ, List.getElem_toArray, List.getElem_cons_zero, List.getElem_cons_succ]
          refine mix.D_op (k := 6) rfl rfl (by kernel_rfl) (fun K' hK => ?_)
          simp only [List.getElem_toArray, List.getElem_cons_zero, List.getElem_cons_succ]
          obtain ⟨i0, hi0, hz0, hz1, hz2⟩ := info_parts infoOp
          refine wp_bulk2 Try.underlying22 hi0 hz0 hz1 hz2 rfl (by decide) (.tmp 54) (.tmp 56) rfl hrq rfl (m := 1) (ys := (⟨xk, xn, xv, xA, xm, xc, xb⟩ : TO).cells) rfl (Blk.rd (xs := (⟨xk, xn, xv, xA, xm, xc, xb⟩ : TO).cells) kq lq) (fun h => by cases h) (Nat.le_refl _) (by intro u hu; simp [TO.cells] at hu; rcases hu with rfl | rfl | rfl | rfl | rfl <;> rfl) rfl (by have := woT_le lt xn; omega) (by have := woT_le lt xn; unfold maxLen; omega) ?_
          intro v9 w9 ho9 hk9 hv9
          have hb9 : Below w6.heap.size w6 w9 := hbQ.trans (hk9.below (fun g hg => (fun g hg => Nat.le_trans hS0.size (htw.2.1 g hg)) g hg) hbQ.size)
          refine hK.out _ _ (fun _ => hb9) ?_
          clear hK K'
          try simp only [Act.put, List.setIfInBounds_toArray, List.set_cons_zero, List.set_cons_succ, List.getElem_toArray, List.getElem_cons_zero, List.getElem_cons_succ]
          refine mix.D_op (k := 7) rfl rfl (by kernel_rfl) (fun K' hK => ?_)
          simp only [List.getElem_toArray, List.getElem_cons_zero, List.getElem_cons_succ]
          go_wp2_with fail
          refine hK.out _ _ (fun h => by simp at h) ?_
          clear hK K'
          refine mix.D_done (by kernel_rfl) ?_ _
          have hv9' : ∀ g, v9.ownBlock = some g → w6.heap.size ≤ g := fun g hg => (hv9 g hg).elim (fun h => (fun g hg => Nat.le_trans hS0.size (htw.2.1 g hg)) g h) (fun h => Nat.le_trans hbQ.size h.1)
          have ho9' : w9.ownsRow 0 36 5 v9 (woT lt xn ++ [(⟨xk, xn, xv, xA, xm, xc, xb⟩ : TO)]).length (cellsT (woT lt xn ++ [(⟨xk, xn, xv, xA, xm, xc, xb⟩ : TO)])) := by rw [List.length_append, cellsT_app]; exact ho9
          clear hv9 ho9 hk9
          have hp9 := hHp6.below hb9
          have kb9 := kb6.below hb9 kb6.lt
          have ko9 := ko6.below hb9 ko6.lt
          have zz9 := hb9.size
          have hUN : UI w h rb w.heap.size S' (ns ++ m) ⟨rk', rg', ro', rn'⟩ h' (withP L (xn, [vOf xv])) (woT lt xn ++ [⟨xk, xn, xv, xA, xm, xc, xb⟩]) v9 o w9 :=
            ⟨⟨HB6.out.trans (hb9.mono HB6.out.size), hp9, HLO.out.1, HLO.out.2, kb9, HI.out.lrb, ho9', fun g hg => ⟨by have := hv9' g hg; have := HB6.out.size; omega, fun hs => by have := hv9' g hg; have := HSL6.out g hs; omega, by have := hv9' g hg; have := kb6.lt; omega⟩, fun x hx => (List.mem_append.1 hx).elim (fun h9 => HI.out.fits x (woT_mem.1 h9).1) (fun h9 => by rw [List.mem_singleton.1 h9]; exact HFX.out), HROOT.out, HMP.out, HREF.out⟩,
              ko9, HNO.out, ⟨Nat.le_refl _, HUX.out.lo.2⟩, fun g hg => by have := hv9' g hg; have := ko6.lt; omega, fun x hx => (List.mem_append.1 hx).elim (fun h9 => HUX.out.nn x (woT_mem.1 h9).1) (fun h9 => by rw [List.mem_singleton.1 h9]; exact HNE.out)⟩
          have hlast : (woT lt xn ++ [(⟨xk, xn, xv, xA, xm, xc, xb⟩ : TO)]).length ≤ j + 1 := by rw [List.length_append, List.length_singleton]; have := woT_le lt xn; omega
          have HU9 := vers.lay hUN
          have HLA := vers.lay hlast
          clear hUN hlast hp9 kb9 ko9 hv9' ho9'
          go_wp2_with fail
          refine ⟨⟨j + 1, S', ns ++ m, ⟨rk', rg', ro', rn'⟩, h', _, _, HJM.out, by go_num, rfl, HU9, HLA.out, HML.out⟩, by first | (simp [intOf]; done) | (simp [intOf]; omega) | (have := HJM.out; simp [intOf]; omega) | omega⟩
        · simp only [List.getElem_toArray, List.getElem_cons_zero, List.getElem_cons_succ]
          go_wp2_with fail
          have bq : Below wd.heap.size wd (wd.alloc (.cells #[.int .i64 xk, .string xn, .string xv, .slice xA xm xc, .int .i64 xb] 36)) := (Below.refl _ _).alloc (Nat.le_refl _) _
          have kq := Blk.new wd 36 #[.int .i64 xk, .string xn, .string xv, .slice xA xm xc, .int .i64 xb]
          have hbQ : Below w6.heap.size w6 (wd.alloc (.cells #[.int .i64 xk, .string xn, .string xv, .slice xA xm xc, .int .i64 xb] 36)) := hS0.trans (bq.mono hS0.size)
          have lq : wd.heap.size < (wd.alloc (.cells #[.int .i64 xk, .string xn, .string xv, .slice xA xm xc, .int .i64 xb] 36)).heap.size := by simp
          generalize wd.alloc (.cells #[.int .i64 xk, .string xn, .string xv, .slice xA xm xc, .int .i64 xb] 36) = wq at bq kq hbQ lq ⊢
          refine hK.out _ _ (fun _ => hbQ) ?_
          clear hK K'
          try simp only [Act.put, List.setIfInBounds_toArray, List.set_cons_zero, List.set_cons_succ, List.getElem_toArray, List.getElem_cons_zero, List.getElem_cons_succ]
          refine mix.D_op (k := 3) rfl rfl (by kernel_rfl) (fun K' hK => ?_)
          simp only [List.getElem_toArray, List.getElem_cons_zero, List.getElem_cons_succ]
          go_wp2_with fail
          refine (hwo _ hbQ).mono ?_
          rintro e wa ⟨vw, rfl, htw, hba⟩
          have hbA : Below w6.heap.size w6 wa := hbQ.trans (hba.mono hbQ.size)
          have kqa := kq.below hba lq
          refine hK.out _ _ (fun _ => hbA) ?_
          clear hK K'
          try simp only [Act.put, List.setIfInBounds_toArray, List.set_cons_zero, List.set_cons_succ, List.getElem_toArray, List.getElem_cons_zero, List.getElem_cons_succ]
          refine mix.D_op (k := 6) rfl rfl (by kernel_rfl) (fun K' hK => ?_)
          simp only [List.getElem_toArray, List.getElem_cons_zero, List.getElem_cons_succ]
          obtain ⟨i0, hi0, hz0, hz1, hz2⟩ := info_parts infoOp
          refine wp_bulk2 Try.underlying22 hi0 hz0 hz1 hz2 rfl (by decide) (.tmp 54) (.tmp 56) rfl htw.1 rfl (m := 1) (ys := (⟨xk, xn, xv, xA, xm, xc, xb⟩ : TO).cells) rfl (Blk.rd (xs := (⟨xk, xn, xv, xA, xm, xc, xb⟩ : TO).cells) kqa kqa.lt) (fun h => by cases h) (Nat.le_refl _) (by intro u hu; simp [TO.cells] at hu; rcases hu with rfl | rfl | rfl | rfl | rfl <;> rfl) rfl (by have := woT_le lt xn; omega) (by have := woT_le lt xn; unfold maxLen; omega) ?_
          intro v9 w9 ho9 hk9 hv9
          have hb9 : Below w6.heap.size w6 w9 := hbA.trans (hk9.below (fun g hg => (fun g hg => Nat.le_trans hbQ.size (htw.2.1 g hg)) g hg) hbA.size)
          refine hK.out _ _ (fun _ => hb9) ?_
          clear hK K'
          try simp only [Act.put, List.setIfInBounds_toArray, List.set_cons_zero, List.set_cons_succ, List.getElem_toArray, List.getElem_cons_zero, List.getElem_cons_succ]
          refine mix.D_op (k := 7) rfl rfl (by kernel_rfl) (fun K' hK => ?_)
          simp only [List.getElem_toArray, List.getElem_cons_zero, List.getElem_cons_succ]
          go_wp2_with fail
          refine hK.out _ _ (fun h => by simp at h) ?_
          clear hK K'
          refine mix.D_done (by kernel_rfl) ?_ _
          have hv9' : ∀ g, v9.ownBlock = some g → w6.heap.size ≤ g := fun g hg => (hv9 g hg).elim (fun h => (fun g hg => Nat.le_trans hbQ.size (htw.2.1 g hg)) g h) (fun h => Nat.le_trans hbA.size h.1)
          have ho9' : w9.ownsRow 0 36 5 v9 (woT lt xn ++ [(⟨xk, xn, xv, xA, xm, xc, xb⟩ : TO)]).length (cellsT (woT lt xn ++ [(⟨xk, xn, xv, xA, xm, xc, xb⟩ : TO)])) := by rw [List.length_append, cellsT_app]; exact ho9
          clear hv9 ho9 hk9
          have hp9 := hHp6.below hb9
          have kb9 := kb6.below hb9 kb6.lt
          have ko9 := ko6.below hb9 ko6.lt
          have zz9 := hb9.size
          have hUN : UI w h rb w.heap.size S' (ns ++ m) ⟨rk', rg', ro', rn'⟩ h' (withP L (xn, [vOf xv])) (woT lt xn ++ [⟨xk, xn, xv, xA, xm, xc, xb⟩]) v9 o w9 :=
            ⟨⟨HB6.out.trans (hb9.mono HB6.out.size), hp9, HLO.out.1, HLO.out.2, kb9, HI.out.lrb, ho9', fun g hg => ⟨by have := hv9' g hg; have := HB6.out.size; omega, fun hs => by have := hv9' g hg; have := HSL6.out g hs; omega, by have := hv9' g hg; have := kb6.lt; omega⟩, fun x hx => (List.mem_append.1 hx).elim (fun h9 => HI.out.fits x (woT_mem.1 h9).1) (fun h9 => by rw [List.mem_singleton.1 h9]; exact HFX.out), HROOT.out, HMP.out, HREF.out⟩,
              ko9, HNO.out, ⟨Nat.le_refl _, HUX.out.lo.2⟩, fun g hg => by have := hv9' g hg; have := ko6.lt; omega, fun x hx => (List.mem_append.1 hx).elim (fun h9 => HUX.out.nn x (woT_mem.1 h9).1) (fun h9 => by rw [List.mem_singleton.1 h9]; exact HNE.out)⟩
          have hlast : (woT lt xn ++ [(⟨xk, xn, xv, xA, xm, xc, xb⟩ : TO)]).length ≤ j + 1 := by rw [List.length_append, List.length_singleton]; have := woT_le lt xn; omega
          have HU9 := vers.lay hUN
          have HLA := vers.lay hlast
          clear hUN hlast hp9 kb9 ko9 hv9' ho9'
          go_wp2_with fail
          refine ⟨⟨j + 1, S', ns ++ m, ⟨rk', rg', ro', rn'⟩, h', _, _, HJM.out, by go_num, rfl, HU9, HLA.out, HML.out⟩, by first | (simp [intOf]; done) | (simp [intOf]; omega) | (have := HJM.out; simp [intOf]; omega) | omega⟩
    · skip
      obtain rfl : j = lm.length := by omega
      have hU := HU.out
      have hI := hU.oi
      have hsh := hI.shown (by omega) (by omega)
      have hht := hsh.low
      have hfit := hsh.fits
      have hL := hsh.len
      have hof := HOF.out
      have hfn : o.n.size ≤ maxLen := hof.1
      have hfv : o.v.size ≤ maxLen := hof.2
      obtain ⟨Av, cv, rfl, hv1, hv2, hv3⟩ := row_rdF hI.row
      have HV3 := vers.lay (And.intro hv1 (And.intro hv2 hv3))
      clear hv1 hv2 hv3
      have hwa := woT_all hU.nn
      have hwl := woT_last hU.nn
      have hsec := fun wx => secret_any o wx
      have hinc0 := hI.mp.inc
      have mp1 := hI.mp.put o
      rw [hwa] at mp1
      have mp2 := mp1.put o
      rw [hwl] at mp2
      have mp3 := mp2.del o.n
      rw [hwl] at mp3
      obtain ⟨m1, r1, h1, root1, hh1, hml1, href1, hput1⟩ := put_tree h S hI.root o.n [vOf o.v] hinc0 (by omega) hfit hfn (by omega)
      have HRT1 := vers.lay root1
      have HRF1 := vers.lay href1
      have HMPS := vers.lay (And.intro mp1 (And.intro mp2 mp3))
      clear root1 href1 mp1 mp2 mp3 hwa hwl hsh
      obtain ⟨rk, rg, ro, rn⟩ := r
      obtain ⟨pk, pg, po, pn⟩ := r1
      go_upto_region 15 with (fail)
      go_cut [11, 12] from 59 to 67 (fun a b wx => ∃ (S1 : Nat → Prop) (g1 : Nat), a = .pointer (some ⟨g1, 0, none⟩) ∧ b = .int .i64 0 ∧ Hid (UI w h rb w.heap.size S1 (ns ++ m1) ⟨rk, rg, ro, rn⟩ ht L lt (.slice Av lt.length cv) o wx ∧ UB wx S1 g1 ⟨pk, pg, po, pn⟩))
      case first =>
        have kOw := hU.ko
        have nSO := hU.nS
        have hpW := hU.oi.hp
        have HSLT := vers.lay hpW.lt
        have kS := hI.kb
        have nSsrc := hI.rbn
        have s0 := kS.cell 0
        have s1 := kS.cell 1
        have s2 := kS.cell 2
        have s3 := kS.cell 3
        simp only [List.getElem?_toArray, List.getElem?_cons_zero, List.getElem?_cons_succ] at s0 s1 s2 s3
        have o0 := kOw.cell 0
        have o1 := kOw.cell 1
        have o2 := kOw.cell 2
        have o3 := kOw.cell 3
        have o4 := kOw.cell 4
        simp only [List.getElem?_toArray, List.getElem?_cons_zero, List.getElem?_cons_succ] at o0 o1 o2 o3 o4
        have lsrc := kS.lt
        have lO := kOw.lt
        have HU9 := vers.lay hU
        clear hU hI HU
        have hbD : Below wr.heap.size wr wr.drew := (Below.refl _ _).drew
        have hS0 : Keep S wr wr.drew := Keep.of_below hbD
        refine mix.region_D (fun w' => Keep S wr w') (fun _ => false) (by kernel_rfl) ?_
        generalize wr.drew = Wd at hbD hS0 ⊢
        refine mix.D_take (i := 0) (v := ?_) rfl (by kernel_rfl) (by kernel_rfl) (fun _ _ _ h => h) (Or.inl ⟨by first | rfl | simp [Region.wanted, yielded], ?_⟩) hS0 ?_
        rotate_left
        · intro w' hSw
          have z0 := (hSw.cell (p := ⟨rb, 0, none⟩) lsrc nSsrc).trans s0
          have z1 := (hSw.cell (p := ⟨rb, 1, none⟩) lsrc nSsrc).trans s1
          have z2 := (hSw.cell (p := ⟨rb, 2, none⟩) lsrc nSsrc).trans s2
          have z3 := (hSw.cell (p := ⟨rb, 3, none⟩) lsrc nSsrc).trans s3
          have y0 := (hSw.cell (p := ⟨w.heap.size, 0, none⟩) lO nSO).trans o0
          have y1 := (hSw.cell (p := ⟨w.heap.size, 1, none⟩) lO nSO).trans o1
          have y2 := (hSw.cell (p := ⟨w.heap.size, 2, none⟩) lO nSO).trans o2
          have y3 := (hSw.cell (p := ⟨w.heap.size, 3, none⟩) lO nSO).trans o3
          have y4 := (hSw.cell (p := ⟨w.heap.size, 4, none⟩) lO nSO).trans o4
          try simp only [List.getElem_toArray, List.getElem_cons_zero, List.getElem_cons_succ]
          go_simp
          exact rfl
        try simp only [Act.put, List.setIfInBounds_toArray, List.set_cons_zero, List.set_cons_succ, List.getElem_toArray, List.getElem_cons_zero, List.getElem_cons_succ]
        refine mix.D_take (i := 1) (v := ?_) rfl (by kernel_rfl) (by kernel_rfl) (fun _ _ _ h => h) (Or.inl ⟨by first | rfl | simp [Region.wanted, yielded], ?_⟩) hS0 ?_
        rotate_left
        · intro w' hSw
          have z0 := (hSw.cell (p := ⟨rb, 0, none⟩) lsrc nSsrc).trans s0
          have z1 := (hSw.cell (p := ⟨rb, 1, none⟩) lsrc nSsrc).trans s1
          have z2 := (hSw.cell (p := ⟨rb, 2, none⟩) lsrc nSsrc).trans s2
          have z3 := (hSw.cell (p := ⟨rb, 3, none⟩) lsrc nSsrc).trans s3
          have y0 := (hSw.cell (p := ⟨w.heap.size, 0, none⟩) lO nSO).trans o0
          have y1 := (hSw.cell (p := ⟨w.heap.size, 1, none⟩) lO nSO).trans o1
          have y2 := (hSw.cell (p := ⟨w.heap.size, 2, none⟩) lO nSO).trans o2
          have y3 := (hSw.cell (p := ⟨w.heap.size, 3, none⟩) lO nSO).trans o3
          have y4 := (hSw.cell (p := ⟨w.heap.size, 4, none⟩) lO nSO).trans o4
          try simp only [List.getElem_toArray, List.getElem_cons_zero, List.getElem_cons_succ]
          go_simp
          exact rfl
        try simp only [Act.put, List.setIfInBounds_toArray, List.set_cons_zero, List.set_cons_succ, List.getElem_toArray, List.getElem_cons_zero, List.getElem_cons_succ]
        refine mix.D_take (i := 2) (v := ?_) rfl (by kernel_rfl) (by kernel_rfl) (fun _ _ _ h => h) (Or.inl ⟨by first | rfl | simp [Region.wanted, yielded], ?_⟩) hS0 ?_
        rotate_left
        · intro w' hSw
          have z0 := (hSw.cell (p := ⟨rb, 0, none⟩) lsrc nSsrc).trans s0
          have z1 := (hSw.cell (p := ⟨rb, 1, none⟩) lsrc nSsrc).trans s1
          have z2 := (hSw.cell (p := ⟨rb, 2, none⟩) lsrc nSsrc).trans s2
          have z3 := (hSw.cell (p := ⟨rb, 3, none⟩) lsrc nSsrc).trans s3
          have y0 := (hSw.cell (p := ⟨w.heap.size, 0, none⟩) lO nSO).trans o0
          have y1 := (hSw.cell (p := ⟨w.heap.size, 1, none⟩) lO nSO).trans o1
          have y2 := (hSw.cell (p := ⟨w.heap.size, 2, none⟩) lO nSO).trans o2
          have y3 := (hSw.cell (p := ⟨w.heap.size, 3, none⟩) lO nSO).trans o3
          have y4 := (hSw.cell (p := ⟨w.heap.size, 4, none⟩) lO nSO).trans o4
          try simp only [List.getElem_toArray, List.getElem_cons_zero, List.getElem_cons_succ]
          go_simp
          exact rfl
        try simp only [Act.put, List.setIfInBounds_toArray, List.set_cons_zero, List.set_cons_succ, List.getElem_toArray, List.getElem_cons_zero, List.getElem_cons_succ]
        refine mix.D_take (i := 3) (v := ?_) rfl (by kernel_rfl) (by kernel_rfl) (fun _ _ _ h => h) (Or.inl ⟨by first | rfl | simp [Region.wanted, yielded], ?_⟩) hS0 ?_
        rotate_left
        · intro w' hSw
          have z0 := (hSw.cell (p := ⟨rb, 0, none⟩) lsrc nSsrc).trans s0
          have z1 := (hSw.cell (p := ⟨rb, 1, none⟩) lsrc nSsrc).trans s1
          have z2 := (hSw.cell (p := ⟨rb, 2, none⟩) lsrc nSsrc).trans s2
          have z3 := (hSw.cell (p := ⟨rb, 3, none⟩) lsrc nSsrc).trans s3
          have y0 := (hSw.cell (p := ⟨w.heap.size, 0, none⟩) lO nSO).trans o0
          have y1 := (hSw.cell (p := ⟨w.heap.size, 1, none⟩) lO nSO).trans o1
          have y2 := (hSw.cell (p := ⟨w.heap.size, 2, none⟩) lO nSO).trans o2
          have y3 := (hSw.cell (p := ⟨w.heap.size, 3, none⟩) lO nSO).trans o3
          have y4 := (hSw.cell (p := ⟨w.heap.size, 4, none⟩) lO nSO).trans o4
          try simp only [List.getElem_toArray, List.getElem_cons_zero, List.getElem_cons_succ]
          go_simp
          exact rfl
        try simp only [Act.put, List.setIfInBounds_toArray, List.set_cons_zero, List.set_cons_succ, List.getElem_toArray, List.getElem_cons_zero, List.getElem_cons_succ]
        refine mix.D_two (k := 4) (j := 9) rfl rfl rfl rfl (by kernel_rfl) (fun K' hK => ?_) (fun K' hK => ?_)
        · simp only [List.getElem_toArray, List.getElem_cons_zero, List.getElem_cons_succ]
          go_wp2_with fail
          refine (hsec Wd).mono ?_
          rintro e ws ⟨q, rfl, hq, hkq, hbs⟩
          have hS1 : Keep S wr ws := hS0.seq hbs
          have zS1 := hbs.size
          have hbws : Below wr.heap.size wr ws := hbD.trans (hbs.mono hbD.size)
          refine hK.out _ _ (fun _ => hS1) ?_
          clear hK K'
          try simp only [Act.put, List.setIfInBounds_toArray, List.set_cons_zero, List.set_cons_succ, List.getElem_toArray, List.getElem_cons_zero, List.getElem_cons_succ]
          refine mix.D_two (k := 5) (j := 9) rfl rfl rfl rfl (by kernel_rfl) (fun K' hK => ?_) (fun K' hK => ?_)
          · simp only [List.getElem_toArray, List.getElem_cons_zero, List.getElem_cons_succ]
            have hputc := hput1 ws (some ⟨q, 0, none⟩) 1 (hpW.below hbws) (vs_of_blk hkq hfv)
            simp only [List.length_singleton] at hputc
            go_wp2_with fail
            refine hputc.mono ?_
            clear hputc
            rintro e wp ⟨S1, rfl, hHp, hSp, hKp⟩
            have hSP : Keep S wr wp := hS1.trans hKp (fun g hg _ => hg)
            have zP := hKp.size
            have hS3 : ∀ g, S1 g → S g ∨ wr.heap.size ≤ g := fun g hg => (hSp g hg).imp id (fun h9 => by have := hS1.size; omega)
            refine hK.out _ _ (fun _ => hSP) ?_
            clear hK K'
            try simp only [Act.put, List.setIfInBounds_toArray, List.set_cons_zero, List.set_cons_succ, List.getElem_toArray, List.getElem_cons_zero, List.getElem_cons_succ]
            refine mix.D_take (i := 6) (v := ?_) rfl (by kernel_rfl) (by kernel_rfl) (fun _ _ _ h => h) (Or.inl ⟨by first | rfl | simp [Region.wanted, yielded], ?_⟩) hSP ?_
            rotate_left
            · intro w' hSw
              have z0 := (hSw.cell (p := ⟨rb, 0, none⟩) lsrc nSsrc).trans s0
              have z1 := (hSw.cell (p := ⟨rb, 1, none⟩) lsrc nSsrc).trans s1
              have z2 := (hSw.cell (p := ⟨rb, 2, none⟩) lsrc nSsrc).trans s2
              have z3 := (hSw.cell (p := ⟨rb, 3, none⟩) lsrc nSsrc).trans s3
              have y0 := (hSw.cell (p := ⟨w.heap.size, 0, none⟩) lO nSO).trans o0
              have y1 := (hSw.cell (p := ⟨w.heap.size, 1, none⟩) lO nSO).trans o1
              have y2 := (hSw.cell (p := ⟨w.heap.size, 2, none⟩) lO nSO).trans o2
              have y3 := (hSw.cell (p := ⟨w.heap.size, 3, none⟩) lO nSO).trans o3
              have y4 := (hSw.cell (p := ⟨w.heap.size, 4, none⟩) lO nSO).trans o4
              try simp only [List.getElem_toArray, List.getElem_cons_zero, List.getElem_cons_succ]
              go_simp
              exact rfl
            try simp only [Act.put, List.setIfInBounds_toArray, List.set_cons_zero, List.set_cons_succ, List.getElem_toArray, List.getElem_cons_zero, List.getElem_cons_succ]
            refine mix.D_take (i := 7) (v := ?_) rfl (by kernel_rfl) (by kernel_rfl) (fun _ _ _ h => h) (Or.inl ⟨by first | rfl | simp [Region.wanted, yielded], ?_⟩) hSP ?_
            rotate_left
            · intro w' hSw
              have z0 := (hSw.cell (p := ⟨rb, 0, none⟩) lsrc nSsrc).trans s0
              have z1 := (hSw.cell (p := ⟨rb, 1, none⟩) lsrc nSsrc).trans s1
              have z2 := (hSw.cell (p := ⟨rb, 2, none⟩) lsrc nSsrc).trans s2
              have z3 := (hSw.cell (p := ⟨rb, 3, none⟩) lsrc nSsrc).trans s3
              have y0 := (hSw.cell (p := ⟨w.heap.size, 0, none⟩) lO nSO).trans o0
              have y1 := (hSw.cell (p := ⟨w.heap.size, 1, none⟩) lO nSO).trans o1
              have y2 := (hSw.cell (p := ⟨w.heap.size, 2, none⟩) lO nSO).trans o2
              have y3 := (hSw.cell (p := ⟨w.heap.size, 3, none⟩) lO nSO).trans o3
              have y4 := (hSw.cell (p := ⟨w.heap.size, 4, none⟩) lO nSO).trans o4
              try simp only [List.getElem_toArray, List.getElem_cons_zero, List.getElem_cons_succ]
              go_simp
              exact rfl
            try simp only [Act.put, List.setIfInBounds_toArray, List.set_cons_zero, List.set_cons_succ, List.getElem_toArray, List.getElem_cons_zero, List.getElem_cons_succ]
            refine mix.D_take (i := 8) (v := ?_) rfl (by kernel_rfl) (by kernel_rfl) (fun _ _ _ h => h) (Or.inl ⟨by first | rfl | simp [Region.wanted, yielded], ?_⟩) hSP ?_
            rotate_left
            · intro w' hSw
              have z0 := (hSw.cell (p := ⟨rb, 0, none⟩) lsrc nSsrc).trans s0
              have z1 := (hSw.cell (p := ⟨rb, 1, none⟩) lsrc nSsrc).trans s1
              have z2 := (hSw.cell (p := ⟨rb, 2, none⟩) lsrc nSsrc).trans s2
              have z3 := (hSw.cell (p := ⟨rb, 3, none⟩) lsrc nSsrc).trans s3
              have y0 := (hSw.cell (p := ⟨w.heap.size, 0, none⟩) lO nSO).trans o0
              have y1 := (hSw.cell (p := ⟨w.heap.size, 1, none⟩) lO nSO).trans o1
              have y2 := (hSw.cell (p := ⟨w.heap.size, 2, none⟩) lO nSO).trans o2
              have y3 := (hSw.cell (p := ⟨w.heap.size, 3, none⟩) lO nSO).trans o3
              have y4 := (hSw.cell (p := ⟨w.heap.size, 4, none⟩) lO nSO).trans o4
              try simp only [List.getElem_toArray, List.getElem_cons_zero, List.getElem_cons_succ]
              go_simp
              exact rfl
            try simp only [Act.put, List.setIfInBounds_toArray, List.set_cons_zero, List.set_cons_succ, List.getElem_toArray, List.getElem_cons_zero, List.getElem_cons_succ]
            refine mix.D_op (k := 9) rfl rfl (by kernel_rfl) (fun K' hK => ?_)
            simp only [List.getElem_toArray, List.getElem_cons_zero, List.getElem_cons_succ]
            go_wp2_with fail
            have bA : Below wp.heap.size wp (wp.alloc (.cells #[.int .u64 0, .int .i64 0, .int .i64 0, .int .i64 0] 27)) := (Below.refl _ _).alloc (Nat.le_refl _) _
            have kG := Blk.new wp 27 #[.int .u64 0, .int .i64 0, .int .i64 0, .int .i64 0]
            have zA := hSP.size
            obtain ⟨gG, hgG⟩ : ∃ gG, wp.heap.size = gG := ⟨_, rfl⟩
            have zA1 : gG < (wp.alloc (.cells #[.int .u64 0, .int .i64 0, .int .i64 0, .int .i64 0] 27)).heap.size := by rw [← hgG]; simp
            generalize hwa : wp.alloc (.cells #[.int .u64 0, .int .i64 0, .int .i64 0, .int .i64 0] 27) = wa at bA kG zA1 ⊢
            rw [hgG] at kG zA
            rw [hgG]
            have hSA : Keep S wr wa := hSP.seq bA
            have hHA := hHp.below bA
            have nG : ¬ S1 gG := fun h9 => by have := hHp.lt _ h9; omega
            refine hK.out _ _ (fun _ => hSA) ?_
            clear hK K'
            try simp only [Act.put, List.setIfInBounds_toArray, List.set_cons_zero, List.set_cons_succ, List.getElem_toArray, List.getElem_cons_zero, List.getElem_cons_succ]
            refine mix.D_op (k := 10) rfl rfl (by kernel_rfl) (fun K' hK => ?_)
            simp only [List.getElem_toArray, List.getElem_cons_zero, List.getElem_cons_succ]
            have pf0 := kG.frozen 0
            have pf1 := kG.frozen 1
            have pf2 := kG.frozen 2
            have pf3 := kG.frozen 3
            have g0 := kG.cell 0
            have g1 := kG.cell 1
            have g2 := kG.cell 2
            have g3 := kG.cell 3
            simp only [List.getElem?_toArray, List.getElem?_cons_zero, List.getElem?_cons_succ] at g0 g1 g2 g3
            have lG := kG.lt
            go_wp2_with fail
            have hF := four4_keep hSA (g := gG) zA (.int .u64 (pk : Int)) (.int .i64 pg) (.int .i64 po) (.int .i64 pn)
            have hHF := hHA.four nG (.int .u64 (pk : Int)) (.int .i64 pg) (.int .i64 po) (.int .i64 pn)
            have kF := ((((kG).put 0 (.int .u64 (pk : Int))).put 1 (.int .i64 pg)).put 2 (.int .i64 po)).put 3 (.int .i64 pn)
            simp only [List.setIfInBounds_toArray, List.set_cons_zero, List.set_cons_succ] at kF
            unfold four4 at hF hHF
            refine hK.out _ _ (fun _ => hF) ?_
            clear hK K'
            try simp only [Act.put, List.setIfInBounds_toArray, List.set_cons_zero, List.set_cons_succ, List.getElem_toArray, List.getElem_cons_zero, List.getElem_cons_succ]
            refine mix.D_op (k := 11) rfl rfl (by kernel_rfl) (fun K' hK => ?_)
            simp only [List.getElem_toArray, List.getElem_cons_zero, List.getElem_cons_succ]
            go_wp2_with fail
            refine hK.out _ _ (fun _ => hF) ?_
            clear hK K'
            try simp only [Act.put, List.setIfInBounds_toArray, List.set_cons_zero, List.set_cons_succ, List.getElem_toArray, List.getElem_cons_zero, List.getElem_cons_succ]
            refine mix.D_done (by kernel_rfl) ?_ _
            try simp only [Act.put, List.setIfInBounds_toArray, List.set_cons_zero, List.set_cons_succ, List.getElem_toArray, List.getElem_cons_zero, List.getElem_cons_succ]
            go_wp2_with fail
            go_meet
            exact ⟨S1, gG, rfl, rfl, vers.lay ⟨HU9.out.keep hF hHF hS3, kF, nG⟩⟩
          · simp only [List.getElem_toArray, List.getElem_cons_zero, List.getElem_cons_succ]
            go_wp2_with fail
            have bA : Below ws.heap.size ws (ws.alloc (.cells #[.int .u64 0, .int .i64 0, .int .i64 0, .int .i64 0] 27)) := (Below.refl _ _).alloc (Nat.le_refl _) _
            have kG := Blk.new ws 27 #[.int .u64 0, .int .i64 0, .int .i64 0, .int .i64 0]
            have zA := hS1.size
            obtain ⟨gG, hgG⟩ : ∃ gG, ws.heap.size = gG := ⟨_, rfl⟩
            have zA1 : gG < (ws.alloc (.cells #[.int .u64 0, .int .i64 0, .int .i64 0, .int .i64 0] 27)).heap.size := by rw [← hgG]; simp
            generalize hwa : ws.alloc (.cells #[.int .u64 0, .int .i64 0, .int .i64 0, .int .i64 0] 27) = wa at bA kG zA1 ⊢
            rw [hgG] at kG zA
            rw [hgG]
            have hSA : Keep S wr wa := hS1.seq bA
            have hkqA := hkq.below bA hkq.lt
            have hqA : Wd.heap.size ≤ q := hq
            have hbwa : Below wr.heap.size wr wa := hbws.trans (bA.mono hbws.size)
            refine hK.out _ _ (fun _ => hSA) ?_
            clear hK K'
            try simp only [Act.put, List.setIfInBounds_toArray, List.set_cons_zero, List.set_cons_succ, List.getElem_toArray, List.getElem_cons_zero, List.getElem_cons_succ]
            refine mix.D_op (k := 5) rfl rfl (by kernel_rfl) (fun K' hK => ?_)
            simp only [List.getElem_toArray, List.getElem_cons_zero, List.getElem_cons_succ]
            have hputc := hput1 wa (some ⟨q, 0, none⟩) 1 (hpW.below hbwa) (vs_of_blk hkqA hfv)
            simp only [List.length_singleton] at hputc
            go_wp2_with fail
            refine hputc.mono ?_
            clear hputc
            rintro e wp ⟨S1, rfl, hHp, hSp, hKp⟩
            have hSP : Keep S wr wp := hSA.trans hKp (fun g hg _ => hg)
            have zP := hKp.size
            have hS3 : ∀ g, S1 g → S g ∨ wr.heap.size ≤ g := fun g hg => (hSp g hg).imp id (fun h9 => by have := hSA.size; omega)
            have nSG : ¬ S gG := fun h9 => by have := HSLT.out _ h9; omega
            have kG2 := hKp.blk kG nSG
            have nG : ¬ S1 gG := fun h9 => (hSp _ h9).elim nSG (fun h9 => by have := kG.lt; omega)
            refine hK.out _ _ (fun _ => hSP) ?_
            clear hK K'
            try simp only [Act.put, List.setIfInBounds_toArray, List.set_cons_zero, List.set_cons_succ, List.getElem_toArray, List.getElem_cons_zero, List.getElem_cons_succ]
            refine mix.D_take (i := 6) (v := ?_) rfl (by kernel_rfl) (by kernel_rfl) (fun _ _ _ h => h) (Or.inl ⟨by first | rfl | simp [Region.wanted, yielded], ?_⟩) hSP ?_
            rotate_left
            · intro w' hSw
              have z0 := (hSw.cell (p := ⟨rb, 0, none⟩) lsrc nSsrc).trans s0
              have z1 := (hSw.cell (p := ⟨rb, 1, none⟩) lsrc nSsrc).trans s1
              have z2 := (hSw.cell (p := ⟨rb, 2, none⟩) lsrc nSsrc).trans s2
              have z3 := (hSw.cell (p := ⟨rb, 3, none⟩) lsrc nSsrc).trans s3
              have y0 := (hSw.cell (p := ⟨w.heap.size, 0, none⟩) lO nSO).trans o0
              have y1 := (hSw.cell (p := ⟨w.heap.size, 1, none⟩) lO nSO).trans o1
              have y2 := (hSw.cell (p := ⟨w.heap.size, 2, none⟩) lO nSO).trans o2
              have y3 := (hSw.cell (p := ⟨w.heap.size, 3, none⟩) lO nSO).trans o3
              have y4 := (hSw.cell (p := ⟨w.heap.size, 4, none⟩) lO nSO).trans o4
              try simp only [List.getElem_toArray, List.getElem_cons_zero, List.getElem_cons_succ]
              go_simp
              exact rfl
            try simp only [Act.put, List.setIfInBounds_toArray, List.set_cons_zero, List.set_cons_succ, List.getElem_toArray, List.getElem_cons_zero, List.getElem_cons_succ]
            refine mix.D_take (i := 7) (v := ?_) rfl (by kernel_rfl) (by kernel_rfl) (fun _ _ _ h => h) (Or.inl ⟨by first | rfl | simp [Region.wanted, yielded], ?_⟩) hSP ?_
            rotate_left
            · intro w' hSw
              have z0 := (hSw.cell (p := ⟨rb, 0, none⟩) lsrc nSsrc).trans s0
              have z1 := (hSw.cell (p := ⟨rb, 1, none⟩) lsrc nSsrc).trans s1
              have z2 := (hSw.cell (p := ⟨rb, 2, none⟩) lsrc nSsrc).trans s2
              have z3 := (hSw.cell (p := ⟨rb, 3, none⟩) lsrc nSsrc).trans s3
              have y0 := (hSw.cell (p := ⟨w.heap.size, 0, none⟩) lO nSO).trans o0
              have y1 := (hSw.cell (p := ⟨w.heap.size, 1, none⟩) lO nSO).trans o1
              have y2 := (hSw.cell (p := ⟨w.heap.size, 2, none⟩) lO nSO).trans o2
              have y3 := (hSw.cell (p := ⟨w.heap.size, 3, none⟩) lO nSO).trans o3
              have y4 := (hSw.cell (p := ⟨w.heap.size, 4, none⟩) lO nSO).trans o4
              try simp only [List.getElem_toArray, List.getElem_cons_zero, List.getElem_cons_succ]
              go_simp
              exact rfl
            try simp only [Act.put, List.setIfInBounds_toArray, List.set_cons_zero, List.set_cons_succ, List.getElem_toArray, List.getElem_cons_zero, List.getElem_cons_succ]
            refine mix.D_take (i := 8) (v := ?_) rfl (by kernel_rfl) (by kernel_rfl) (fun _ _ _ h => h) (Or.inl ⟨by first | rfl | simp [Region.wanted, yielded], ?_⟩) hSP ?_
            rotate_left
            · intro w' hSw
              have z0 := (hSw.cell (p := ⟨rb, 0, none⟩) lsrc nSsrc).trans s0
              have z1 := (hSw.cell (p := ⟨rb, 1, none⟩) lsrc nSsrc).trans s1
              have z2 := (hSw.cell (p := ⟨rb, 2, none⟩) lsrc nSsrc).trans s2
              have z3 := (hSw.cell (p := ⟨rb, 3, none⟩) lsrc nSsrc).trans s3
              have y0 := (hSw.cell (p := ⟨w.heap.size, 0, none⟩) lO nSO).trans o0
              have y1 := (hSw.cell (p := ⟨w.heap.size, 1, none⟩) lO nSO).trans o1
              have y2 := (hSw.cell (p := ⟨w.heap.size, 2, none⟩) lO nSO).trans o2
              have y3 := (hSw.cell (p := ⟨w.heap.size, 3, none⟩) lO nSO).trans o3
              have y4 := (hSw.cell (p := ⟨w.heap.size, 4, none⟩) lO nSO).trans o4
              try simp only [List.getElem_toArray, List.getElem_cons_zero, List.getElem_cons_succ]
              go_simp
              exact rfl
            try simp only [Act.put, List.setIfInBounds_toArray, List.set_cons_zero, List.set_cons_succ, List.getElem_toArray, List.getElem_cons_zero, List.getElem_cons_succ]
            refine mix.D_op (k := 10) rfl rfl (by kernel_rfl) (fun K' hK => ?_)
            simp only [List.getElem_toArray, List.getElem_cons_zero, List.getElem_cons_succ]
            have pf0 := kG2.frozen 0
            have pf1 := kG2.frozen 1
            have pf2 := kG2.frozen 2
            have pf3 := kG2.frozen 3
            have g0 := kG2.cell 0
            have g1 := kG2.cell 1
            have g2 := kG2.cell 2
            have g3 := kG2.cell 3
            simp only [List.getElem?_toArray, List.getElem?_cons_zero, List.getElem?_cons_succ] at g0 g1 g2 g3
            have lG := kG2.lt
            go_wp2_with fail
            have hF := four4_keep hSP (g := gG) zA (.int .u64 (pk : Int)) (.int .i64 pg) (.int .i64 po) (.int .i64 pn)
            have hHF := hHp.four nG (.int .u64 (pk : Int)) (.int .i64 pg) (.int .i64 po) (.int .i64 pn)
            have kF := ((((kG2).put 0 (.int .u64 (pk : Int))).put 1 (.int .i64 pg)).put 2 (.int .i64 po)).put 3 (.int .i64 pn)
            simp only [List.setIfInBounds_toArray, List.set_cons_zero, List.set_cons_succ] at kF
            unfold four4 at hF hHF
            refine hK.out _ _ (fun _ => hF) ?_
            clear hK K'
            try simp only [Act.put, List.setIfInBounds_toArray, List.set_cons_zero, List.set_cons_succ, List.getElem_toArray, List.getElem_cons_zero, List.getElem_cons_succ]
            refine mix.D_op (k := 11) rfl rfl (by kernel_rfl) (fun K' hK => ?_)
            simp only [List.getElem_toArray, List.getElem_cons_zero, List.getElem_cons_succ]
            go_wp2_with fail
            refine hK.out _ _ (fun _ => hF) ?_
            clear hK K'
            try simp only [Act.put, List.setIfInBounds_toArray, List.set_cons_zero, List.set_cons_succ, List.getElem_toArray, List.getElem_cons_zero, List.getElem_cons_succ]
            refine mix.D_done (by kernel_rfl) ?_ _
            try simp only [Act.put, List.setIfInBounds_toArray, List.set_cons_zero, List.set_cons_succ, List.getElem_toArray, List.getElem_cons_zero, List.getElem_cons_succ]
            go_wp2_with fail
            go_meet
            exact ⟨S1, gG, rfl, rfl, vers.lay ⟨HU9.out.keep hF hHF hS3, kF, nG⟩⟩
        · simp only [List.getElem_toArray, List.getElem_cons_zero, List.getElem_cons_succ]
          go_wp2_with fail
          have bA : Below Wd.heap.size Wd (Wd.alloc (.cells #[.int .u64 0, .int .i64 0, .int .i64 0, .int .i64 0] 27)) := (Below.refl _ _).alloc (Nat.le_refl _) _
          have kG := Blk.new Wd 27 #[.int .u64 0, .int .i64 0, .int .i64 0, .int .i64 0]
          have zA := hS0.size
          obtain ⟨gG, hgG⟩ : ∃ gG, Wd.heap.size = gG := ⟨_, rfl⟩
          have zA1 : gG < (Wd.alloc (.cells #[.int .u64 0, .int .i64 0, .int .i64 0, .int .i64 0] 27)).heap.size := by rw [← hgG]; simp
          generalize hwa : Wd.alloc (.cells #[.int .u64 0, .int .i64 0, .int .i64 0, .int .i64 0] 27) = wa at bA kG zA1 ⊢
          rw [hgG] at kG zA
          rw [hgG]
          have hSA : Keep S wr wa := hS0.seq bA
          have hbwa : Below wr.heap.size wr wa := hbD.trans (bA.mono hbD.size)
          refine hK.out _ _ (fun _ => hSA) ?_
          clear hK K'
          try simp only [Act.put, List.setIfInBounds_toArray, List.set_cons_zero, List.set_cons_succ, List.getElem_toArray, List.getElem_cons_zero, List.getElem_cons_succ]
          refine mix.D_op (k := 4) rfl rfl (by kernel_rfl) (fun K' hK => ?_)
          simp only [List.getElem_toArray, List.getElem_cons_zero, List.getElem_cons_succ]
          go_wp2_with fail
          refine (hsec wa).mono ?_
          rintro e ws ⟨q, rfl, hq, hkq, hbs⟩
          have hS1 : Keep S wr ws := hSA.seq hbs
          have zS1 := hbs.size
          have kG1 := kG.below hbs kG.lt
          have hbws : Below wr.heap.size wr ws := hbwa.trans (hbs.mono hbwa.size)
          refine hK.out _ _ (fun _ => hS1) ?_
          clear hK K'
          try simp only [Act.put, List.setIfInBounds_toArray, List.set_cons_zero, List.set_cons_succ, List.getElem_toArray, List.getElem_cons_zero, List.getElem_cons_succ]
          refine mix.D_op (k := 5) rfl rfl (by kernel_rfl) (fun K' hK => ?_)
          simp only [List.getElem_toArray, List.getElem_cons_zero, List.getElem_cons_succ]
          have hputc := hput1 ws (some ⟨q, 0, none⟩) 1 (hpW.below hbws) (vs_of_blk hkq hfv)
          simp only [List.length_singleton] at hputc
          go_wp2_with fail
          refine hputc.mono ?_
          clear hputc
          rintro e wp ⟨S1, rfl, hHp, hSp, hKp⟩
          have hSP : Keep S wr wp := hS1.trans hKp (fun g hg _ => hg)
          have zP := hKp.size
          have hS3 : ∀ g, S1 g → S g ∨ wr.heap.size ≤ g := fun g hg => (hSp g hg).imp id (fun h9 => by have := hS1.size; omega)
          have nSG : ¬ S gG := fun h9 => by have := HSLT.out _ h9; omega
          have kG2 := hKp.blk kG1 nSG
          have nG : ¬ S1 gG := fun h9 => (hSp _ h9).elim nSG (fun h9 => by have := kG1.lt; omega)
          refine hK.out _ _ (fun _ => hSP) ?_
          clear hK K'
          try simp only [Act.put, List.setIfInBounds_toArray, List.set_cons_zero, List.set_cons_succ, List.getElem_toArray, List.getElem_cons_zero, List.getElem_cons_succ]
          refine mix.D_take (i := 6) (v := ?_) rfl (by kernel_rfl) (by kernel_rfl) (fun _ _ _ h => h) (Or.inl ⟨by first | rfl | simp [Region.wanted, yielded], ?_⟩) hSP ?_
          rotate_left
          · intro w' hSw
            have z0 := (hSw.cell (p := ⟨rb, 0, none⟩) lsrc nSsrc).trans s0
            have z1 := (hSw.cell (p := ⟨rb, 1, none⟩) lsrc nSsrc).trans s1
            have z2 := (hSw.cell (p := ⟨rb, 2, none⟩) lsrc nSsrc).trans s2
            have z3 := (hSw.cell (p := ⟨rb, 3, none⟩) lsrc nSsrc).trans s3
            have y0 := (hSw.cell (p := ⟨w.heap.size, 0, none⟩) lO nSO).trans o0
            have y1 := (hSw.cell (p := ⟨w.heap.size, 1, none⟩) lO nSO).trans o1
            have y2 := (hSw.cell (p := ⟨w.heap.size, 2, none⟩) lO nSO).trans o2
            have y3 := (hSw.cell (p := ⟨w.heap.size, 3, none⟩) lO nSO).trans o3
            have y4 := (hSw.cell (p := ⟨w.heap.size, 4, none⟩) lO nSO).trans o4
            try simp only [List.getElem_toArray, List.getElem_cons_zero, List.getElem_cons_succ]
            go_simp
            exact rfl
          try simp only [Act.put, List.setIfInBounds_toArray, List.set_cons_zero, List.set_cons_succ, List.getElem_toArray, List.getElem_cons_zero, List.getElem_cons_succ]
          refine mix.D_take (i := 7) (v := ?_) rfl (by kernel_rfl) (by kernel_rfl) (fun _ _ _ h => h) (Or.inl ⟨by first | rfl | simp [Region.wanted, yielded], ?_⟩) hSP ?_
          rotate_left
          · intro w' hSw
            have z0 := (hSw.cell (p := ⟨rb, 0, none⟩) lsrc nSsrc).trans s0
            have z1 := (hSw.cell (p := ⟨rb, 1, none⟩) lsrc nSsrc).trans s1
            have z2 := (hSw.cell (p := ⟨rb, 2, none⟩) lsrc nSsrc).trans s2
            have z3 := (hSw.cell (p := ⟨rb, 3, none⟩) lsrc nSsrc).trans s3
            have y0 := (hSw.cell (p := ⟨w.heap.size, 0, none⟩) lO nSO).trans o0
            have y1 := (hSw.cell (p := ⟨w.heap.size, 1, none⟩) lO nSO).trans o1
            have y2 := (hSw.cell (p := ⟨w.heap.size, 2, none⟩) lO nSO).trans o2
            have y3 := (hSw.cell (p := ⟨w.heap.size, 3, none⟩) lO nSO).trans o3
            have y4 := (hSw.cell (p := ⟨w.heap.size, 4, none⟩) lO nSO).trans o4
            try simp only [List.getElem_toArray, List.getElem_cons_zero, List.getElem_cons_succ]
            go_simp
            exact rfl
          try simp only [Act.put, List.setIfInBounds_toArray, List.set_cons_zero, List.set_cons_succ, List.getElem_toArray, List.getElem_cons_zero, List.getElem_cons_succ]
          refine mix.D_take (i := 8) (v := ?_) rfl (by kernel_rfl) (by kernel_rfl) (fun _ _ _ h => h) (Or.inl ⟨by first | rfl | simp [Region.wanted, yielded], ?_⟩) hSP ?_
          rotate_left
          · intro w' hSw
            have z0 := (hSw.cell (p := ⟨rb, 0, none⟩) lsrc nSsrc).trans s0
            have z1 := (hSw.cell (p := ⟨rb, 1, none⟩) lsrc nSsrc).trans s1
            have z2 := (hSw.cell (p := ⟨rb, 2, none⟩) lsrc nSsrc).trans s2
            have z3 := (hSw.cell (p := ⟨rb, 3, none⟩) lsrc nSsrc).trans s3
            have y0 := (hSw.cell (p := ⟨w.heap.size, 0, none⟩) lO nSO).trans o0
            have y1 := (hSw.cell (p := ⟨w.heap.size, 1, none⟩) lO nSO).trans o1
            have y2 := (hSw.cell (p := ⟨w.heap.size, 2, none⟩) lO nSO).trans o2
            have y3 := (hSw.cell (p := ⟨w.heap.size, 3, none⟩) lO nSO).trans o3
            have y4 := (hSw.cell (p := ⟨w.heap.size, 4, none⟩) lO nSO).trans o4
            try simp only [List.getElem_toArray, List.getElem_cons_zero, List.getElem_cons_succ]
            go_simp
            exact rfl
          try simp only [Act.put, List.setIfInBounds_toArray, List.set_cons_zero, List.set_cons_succ, List.getElem_toArray, List.getElem_cons_zero, List.getElem_cons_succ]
          refine mix.D_op (k := 10) rfl rfl (by kernel_rfl) (fun K' hK => ?_)
          simp only [List.getElem_toArray, List.getElem_cons_zero, List.getElem_cons_succ]
          have pf0 := kG2.frozen 0
          have pf1 := kG2.frozen 1
          have pf2 := kG2.frozen 2
          have pf3 := kG2.frozen 3
          have g0 := kG2.cell 0
          have g1 := kG2.cell 1
          have g2 := kG2.cell 2
          have g3 := kG2.cell 3
          simp only [List.getElem?_toArray, List.getElem?_cons_zero, List.getElem?_cons_succ] at g0 g1 g2 g3
          have lG := kG2.lt
          go_wp2_with fail
          have hF := four4_keep hSP (g := gG) zA (.int .u64 (pk : Int)) (.int .i64 pg) (.int .i64 po) (.int .i64 pn)
          have hHF := hHp.four nG (.int .u64 (pk : Int)) (.int .i64 pg) (.int .i64 po) (.int .i64 pn)
          have kF := ((((kG2).put 0 (.int .u64 (pk : Int))).put 1 (.int .i64 pg)).put 2 (.int .i64 po)).put 3 (.int .i64 pn)
          simp only [List.setIfInBounds_toArray, List.set_cons_zero, List.set_cons_succ] at kF
          unfold four4 at hF hHF
          refine hK.out _ _ (fun _ => hF) ?_
          clear hK K'
          try simp only [Act.put, List.setIfInBounds_toArray, List.set_cons_zero, List.set_cons_succ, List.getElem_toArray, List.getElem_cons_zero, List.getElem_cons_succ]
          refine mix.D_op (k := 11) rfl rfl (by kernel_rfl) (fun K' hK => ?_)
          simp only [List.getElem_toArray, List.getElem_cons_zero, List.getElem_cons_succ]
          go_wp2_with fail
          refine hK.out _ _ (fun _ => hF) ?_
          clear hK K'
          try simp only [Act.put, List.setIfInBounds_toArray, List.set_cons_zero, List.set_cons_succ, List.getElem_toArray, List.getElem_cons_zero, List.getElem_cons_succ]
          refine mix.D_done (by kernel_rfl) ?_ _
          try simp only [Act.put, List.setIfInBounds_toArray, List.set_cons_zero, List.set_cons_succ, List.getElem_toArray, List.getElem_cons_zero, List.getElem_cons_succ]
          go_wp2_with fail
          go_meet
          exact ⟨S1, gG, rfl, rfl, vers.lay ⟨HU9.out.keep hF hHF hS3, kF, nG⟩⟩
      case rest =>
        obtain ⟨S1, g1, rfl, rfl, HC1⟩ := hcut
        generalize wc = w4 at HC1 ⊢
        clear HU hU hI hput1 HV3 wc
        have HI1 := vers.lay HC1.out.1
        have HB1 := vers.lay HC1.out.2
        clear HC1
        have hltl : lt.length ≤ 40 := by omega
        have hL1 : (withP L (o.n, [vOf o.v])).length ≤ 50 := by rw [← HMPS.out.1.len, List.length_append, List.length_singleton]; omega
        have hL2 : (withP (withP L (o.n, [vOf o.v])) (o.n, [vOf o.v])).length ≤ 50 := by rw [← HMPS.out.2.1.len, List.length_append, List.length_singleton]; omega
        have hL3 : (outP (withP (withP L (o.n, [vOf o.v])) (o.n, [vOf o.v])) o.n).length ≤ 50 := by rw [← HMPS.out.2.2.len]; omega
        have hh1x : h1 ≤ 4 := root_h HRT1.out hL1
        have hn1 : (ns ++ m1).length ≤ 700 := by rw [List.length_append]; omega
        have hfit1 : R.fits ⟨pk, pg, po, pn⟩ := by
          obtain ⟨k, e, hk⟩ := HRF1.out
          rw [e]
          exact refOf_fits2 (by omega)
        obtain ⟨m2, r2, h2, root2, hh2, hml2, href2, hput2⟩ := put_tree h S1 HRT1.out o.n [vOf o.v] HMPS.out.1.inc (by omega) hfit1 hfn (by omega)
        have hn2 : (ns ++ m1 ++ m2).length ≤ 720 := by rw [List.length_append]; omega
        obtain ⟨qk, qg, qo, qn⟩ := r2
        have hfit2 : R.fits ⟨qk, qg, qo, qn⟩ := by
          obtain ⟨k, e, hk⟩ := href2
          rw [e]
          exact refOf_fits2 (by omega)
        have hh2x : h2 ≤ 4 := root_h root2 hL2
        have HRT2 := vers.lay root2
        clear root2 href2 hh1 hh2 hml1 hml2
        go_upto_region 16 with (fail)
        go_cut [13, 14] from 68 to 76 (fun a b wx => ∃ (S2 : Nat → Prop) (g2 : Nat), a = .pointer (some ⟨g2, 0, none⟩) ∧ b = .int .i64 0 ∧ Hid (UI w h rb w.heap.size S2 (ns ++ m1 ++ m2) ⟨rk, rg, ro, rn⟩ ht L lt (.slice Av lt.length cv) o wx ∧ UB wx S2 g1 ⟨pk, pg, po, pn⟩ ∧ UB wx S2 g2 ⟨qk, qg, qo, qn⟩))
        case first =>
          have kOw := HI1.out.ko
          have nSO := HI1.out.nS
          have hpW := HI1.out.oi.hp
          have HSLT := vers.lay hpW.lt
          have kS := HB1.out.1
          have nSsrc := HB1.out.2
          have s0 := kS.cell 0
          have s1 := kS.cell 1
          have s2 := kS.cell 2
          have s3 := kS.cell 3
          simp only [List.getElem?_toArray, List.getElem?_cons_zero, List.getElem?_cons_succ] at s0 s1 s2 s3
          have o0 := kOw.cell 0
          have o1 := kOw.cell 1
          have o2 := kOw.cell 2
          have o3 := kOw.cell 3
          have o4 := kOw.cell 4
          simp only [List.getElem?_toArray, List.getElem?_cons_zero, List.getElem?_cons_succ] at o0 o1 o2 o3 o4
          have lsrc := kS.lt
          have lO := kOw.lt

          have hbD : Below w4.heap.size w4 w4.drew := (Below.refl _ _).drew
          have hS0 : Keep S1 w4 w4.drew := Keep.of_below hbD
          refine mix.region_D (fun w' => Keep S1 w4 w') (fun _ => false) (by kernel_rfl) ?_
          generalize w4.drew = Wd at hbD hS0 ⊢
          refine mix.D_take (i := 0) (v := ?_) rfl (by kernel_rfl) (by kernel_rfl) (fun _ _ _ h => h) (Or.inl ⟨by first | rfl | simp [Region.wanted, yielded], ?_⟩) hS0 ?_
          rotate_left
          · intro w' hSw
            have z0 := (hSw.cell (p := ⟨g1, 0, none⟩) lsrc nSsrc).trans s0
            have z1 := (hSw.cell (p := ⟨g1, 1, none⟩) lsrc nSsrc).trans s1
            have z2 := (hSw.cell (p := ⟨g1, 2, none⟩) lsrc nSsrc).trans s2
            have z3 := (hSw.cell (p := ⟨g1, 3, none⟩) lsrc nSsrc).trans s3
            have y0 := (hSw.cell (p := ⟨w.heap.size, 0, none⟩) lO nSO).trans o0
            have y1 := (hSw.cell (p := ⟨w.heap.size, 1, none⟩) lO nSO).trans o1
            have y2 := (hSw.cell (p := ⟨w.heap.size, 2, none⟩) lO nSO).trans o2
            have y3 := (hSw.cell (p := ⟨w.heap.size, 3, none⟩) lO nSO).trans o3
            have y4 := (hSw.cell (p := ⟨w.heap.size, 4, none⟩) lO nSO).trans o4
            try simp only [List.getElem_toArray, List.getElem_cons_zero, List.getElem_cons_succ]
            go_simp
            exact rfl
          try simp only [Act.put, List.setIfInBounds_toArray, List.set_cons_zero, List.set_cons_succ, List.getElem_toArray, List.getElem_cons_zero, List.getElem_cons_succ]
          refine mix.D_take (i := 1) (v := ?_) rfl (by kernel_rfl) (by kernel_rfl) (fun _ _ _ h => h) (Or.inl ⟨by first | rfl | simp [Region.wanted, yielded], ?_⟩) hS0 ?_
          rotate_left
          · intro w' hSw
            have z0 := (hSw.cell (p := ⟨g1, 0, none⟩) lsrc nSsrc).trans s0
            have z1 := (hSw.cell (p := ⟨g1, 1, none⟩) lsrc nSsrc).trans s1
            have z2 := (hSw.cell (p := ⟨g1, 2, none⟩) lsrc nSsrc).trans s2
            have z3 := (hSw.cell (p := ⟨g1, 3, none⟩) lsrc nSsrc).trans s3
            have y0 := (hSw.cell (p := ⟨w.heap.size, 0, none⟩) lO nSO).trans o0
            have y1 := (hSw.cell (p := ⟨w.heap.size, 1, none⟩) lO nSO).trans o1
            have y2 := (hSw.cell (p := ⟨w.heap.size, 2, none⟩) lO nSO).trans o2
            have y3 := (hSw.cell (p := ⟨w.heap.size, 3, none⟩) lO nSO).trans o3
            have y4 := (hSw.cell (p := ⟨w.heap.size, 4, none⟩) lO nSO).trans o4
            try simp only [List.getElem_toArray, List.getElem_cons_zero, List.getElem_cons_succ]
            go_simp
            exact rfl
          try simp only [Act.put, List.setIfInBounds_toArray, List.set_cons_zero, List.set_cons_succ, List.getElem_toArray, List.getElem_cons_zero, List.getElem_cons_succ]
          refine mix.D_take (i := 2) (v := ?_) rfl (by kernel_rfl) (by kernel_rfl) (fun _ _ _ h => h) (Or.inl ⟨by first | rfl | simp [Region.wanted, yielded], ?_⟩) hS0 ?_
          rotate_left
          · intro w' hSw
            have z0 := (hSw.cell (p := ⟨g1, 0, none⟩) lsrc nSsrc).trans s0
            have z1 := (hSw.cell (p := ⟨g1, 1, none⟩) lsrc nSsrc).trans s1
            have z2 := (hSw.cell (p := ⟨g1, 2, none⟩) lsrc nSsrc).trans s2
            have z3 := (hSw.cell (p := ⟨g1, 3, none⟩) lsrc nSsrc).trans s3
            have y0 := (hSw.cell (p := ⟨w.heap.size, 0, none⟩) lO nSO).trans o0
            have y1 := (hSw.cell (p := ⟨w.heap.size, 1, none⟩) lO nSO).trans o1
            have y2 := (hSw.cell (p := ⟨w.heap.size, 2, none⟩) lO nSO).trans o2
            have y3 := (hSw.cell (p := ⟨w.heap.size, 3, none⟩) lO nSO).trans o3
            have y4 := (hSw.cell (p := ⟨w.heap.size, 4, none⟩) lO nSO).trans o4
            try simp only [List.getElem_toArray, List.getElem_cons_zero, List.getElem_cons_succ]
            go_simp
            exact rfl
          try simp only [Act.put, List.setIfInBounds_toArray, List.set_cons_zero, List.set_cons_succ, List.getElem_toArray, List.getElem_cons_zero, List.getElem_cons_succ]
          refine mix.D_take (i := 3) (v := ?_) rfl (by kernel_rfl) (by kernel_rfl) (fun _ _ _ h => h) (Or.inl ⟨by first | rfl | simp [Region.wanted, yielded], ?_⟩) hS0 ?_
          rotate_left
          · intro w' hSw
            have z0 := (hSw.cell (p := ⟨g1, 0, none⟩) lsrc nSsrc).trans s0
            have z1 := (hSw.cell (p := ⟨g1, 1, none⟩) lsrc nSsrc).trans s1
            have z2 := (hSw.cell (p := ⟨g1, 2, none⟩) lsrc nSsrc).trans s2
            have z3 := (hSw.cell (p := ⟨g1, 3, none⟩) lsrc nSsrc).trans s3
            have y0 := (hSw.cell (p := ⟨w.heap.size, 0, none⟩) lO nSO).trans o0
            have y1 := (hSw.cell (p := ⟨w.heap.size, 1, none⟩) lO nSO).trans o1
            have y2 := (hSw.cell (p := ⟨w.heap.size, 2, none⟩) lO nSO).trans o2
            have y3 := (hSw.cell (p := ⟨w.heap.size, 3, none⟩) lO nSO).trans o3
            have y4 := (hSw.cell (p := ⟨w.heap.size, 4, none⟩) lO nSO).trans o4
            try simp only [List.getElem_toArray, List.getElem_cons_zero, List.getElem_cons_succ]
            go_simp
            exact rfl
          try simp only [Act.put, List.setIfInBounds_toArray, List.set_cons_zero, List.set_cons_succ, List.getElem_toArray, List.getElem_cons_zero, List.getElem_cons_succ]
          refine mix.D_two (k := 4) (j := 9) rfl rfl rfl rfl (by kernel_rfl) (fun K' hK => ?_) (fun K' hK => ?_)
          · simp only [List.getElem_toArray, List.getElem_cons_zero, List.getElem_cons_succ]
            go_wp2_with fail
            refine (hsec Wd).mono ?_
            rintro e ws ⟨q, rfl, hq, hkq, hbs⟩
            have hS1 : Keep S1 w4 ws := hS0.seq hbs
            have zS1 := hbs.size
            have hbws : Below w4.heap.size w4 ws := hbD.trans (hbs.mono hbD.size)
            refine hK.out _ _ (fun _ => hS1) ?_
            clear hK K'
            try simp only [Act.put, List.setIfInBounds_toArray, List.set_cons_zero, List.set_cons_succ, List.getElem_toArray, List.getElem_cons_zero, List.getElem_cons_succ]
            refine mix.D_two (k := 5) (j := 9) rfl rfl rfl rfl (by kernel_rfl) (fun K' hK => ?_) (fun K' hK => ?_)
            · simp only [List.getElem_toArray, List.getElem_cons_zero, List.getElem_cons_succ]
              have hputc := hput2 ws (some ⟨q, 0, none⟩) 1 (hpW.below hbws) (vs_of_blk hkq hfv)
              simp only [List.length_singleton] at hputc
              go_wp2_with fail
              refine hputc.mono ?_
              clear hputc
              rintro e wp ⟨S2, rfl, hHp, hSp, hKp⟩
              have hSP : Keep S1 w4 wp := hS1.trans hKp (fun g hg _ => hg)
              have zP := hKp.size
              have hS3 : ∀ g, S2 g → S1 g ∨ w4.heap.size ≤ g := fun g hg => (hSp g hg).imp id (fun h9 => by have := hS1.size; omega)
              refine hK.out _ _ (fun _ => hSP) ?_
              clear hK K'
              try simp only [Act.put, List.setIfInBounds_toArray, List.set_cons_zero, List.set_cons_succ, List.getElem_toArray, List.getElem_cons_zero, List.getElem_cons_succ]
              refine mix.D_take (i := 6) (v := ?_) rfl (by kernel_rfl) (by kernel_rfl) (fun _ _ _ h => h) (Or.inl ⟨by first | rfl | simp [Region.wanted, yielded], ?_⟩) hSP ?_
              rotate_left
              · intro w' hSw
                have z0 := (hSw.cell (p := ⟨g1, 0, none⟩) lsrc nSsrc).trans s0
                have z1 := (hSw.cell (p := ⟨g1, 1, none⟩) lsrc nSsrc).trans s1
                have z2 := (hSw.cell (p := ⟨g1, 2, none⟩) lsrc nSsrc).trans s2
                have z3 := (hSw.cell (p := ⟨g1, 3, none⟩) lsrc nSsrc).trans s3
                have y0 := (hSw.cell (p := ⟨w.heap.size, 0, none⟩) lO nSO).trans o0
                have y1 := (hSw.cell (p := ⟨w.heap.size, 1, none⟩) lO nSO).trans o1
                have y2 := (hSw.cell (p := ⟨w.heap.size, 2, none⟩) lO nSO).trans o2
                have y3 := (hSw.cell (p := ⟨w.heap.size, 3, none⟩) lO nSO).trans o3
                have y4 := (hSw.cell (p := ⟨w.heap.size, 4, none⟩) lO nSO).trans o4
                try simp only [List.getElem_toArray, List.getElem_cons_zero, List.getElem_cons_succ]
                go_simp
                exact rfl
              try simp only [Act.put, List.setIfInBounds_toArray, List.set_cons_zero, List.set_cons_succ, List.getElem_toArray, List.getElem_cons_zero, List.getElem_cons_succ]
              refine mix.D_take (i := 7) (v := ?_) rfl (by kernel_rfl) (by kernel_rfl) (fun _ _ _ h => h) (Or.inl ⟨by first | rfl | simp [Region.wanted, yielded], ?_⟩) hSP ?_
              rotate_left
              · intro w' hSw
                have z0 := (hSw.cell (p := ⟨g1, 0, none⟩) lsrc nSsrc).trans s0
                have z1 := (hSw.cell (p := ⟨g1, 1, none⟩) lsrc nSsrc).trans s1
                have z2 := (hSw.cell (p := ⟨g1, 2, none⟩) lsrc nSsrc).trans s2
                have z3 := (hSw.cell (p := ⟨g1, 3, none⟩) lsrc nSsrc).trans s3
                have y0 := (hSw.cell (p := ⟨w.heap.size, 0, none⟩) lO nSO).trans o0
                have y1 := (hSw.cell (p := ⟨w.heap.size, 1, none⟩) lO nSO).trans o1
                have y2 := (hSw.cell (p := ⟨w.heap.size, 2, none⟩) lO nSO).trans o2
                have y3 := (hSw.cell (p := ⟨w.heap.size, 3, none⟩) lO nSO).trans o3
                have y4 := (hSw.cell (p := ⟨w.heap.size, 4, none⟩) lO nSO).trans o4
                try simp only [List.getElem_toArray, List.getElem_cons_zero, List.getElem_cons_succ]
                go_simp
                exact rfl
              try simp only [Act.put, List.setIfInBounds_toArray, List.set_cons_zero, List.set_cons_succ, List.getElem_toArray, List.getElem_cons_zero, List.getElem_cons_succ]
              refine mix.D_take (i := 8) (v := ?_) rfl (by kernel_rfl) (by kernel_rfl) (fun _ _ _ h => h) (Or.inl ⟨by first | rfl | simp [Region.wanted, yielded], ?_⟩) hSP ?_
              rotate_left
              · intro w' hSw
                have z0 := (hSw.cell (p := ⟨g1, 0, none⟩) lsrc nSsrc).trans s0
                have z1 := (hSw.cell (p := ⟨g1, 1, none⟩) lsrc nSsrc).trans s1
                have z2 := (hSw.cell (p := ⟨g1, 2, none⟩) lsrc nSsrc).trans s2
                have z3 := (hSw.cell (p := ⟨g1, 3, none⟩) lsrc nSsrc).trans s3
                have y0 := (hSw.cell (p := ⟨w.heap.size, 0, none⟩) lO nSO).trans o0
                have y1 := (hSw.cell (p := ⟨w.heap.size, 1, none⟩) lO nSO).trans o1
                have y2 := (hSw.cell (p := ⟨w.heap.size, 2, none⟩) lO nSO).trans o2
                have y3 := (hSw.cell (p := ⟨w.heap.size, 3, none⟩) lO nSO).trans o3
                have y4 := (hSw.cell (p := ⟨w.heap.size, 4, none⟩) lO nSO).trans o4
                try simp only [List.getElem_toArray, List.getElem_cons_zero, List.getElem_cons_succ]
                go_simp
                exact rfl
              try simp only [Act.put, List.setIfInBounds_toArray, List.set_cons_zero, List.set_cons_succ, List.getElem_toArray, List.getElem_cons_zero, List.getElem_cons_succ]
              refine mix.D_op (k := 9) rfl rfl (by kernel_rfl) (fun K' hK => ?_)
              simp only [List.getElem_toArray, List.getElem_cons_zero, List.getElem_cons_succ]
              go_wp2_with fail
              have bA : Below wp.heap.size wp (wp.alloc (.cells #[.int .u64 0, .int .i64 0, .int .i64 0, .int .i64 0] 27)) := (Below.refl _ _).alloc (Nat.le_refl _) _
              have kG := Blk.new wp 27 #[.int .u64 0, .int .i64 0, .int .i64 0, .int .i64 0]
              have zA := hSP.size
              obtain ⟨gG, hgG⟩ : ∃ gG, wp.heap.size = gG := ⟨_, rfl⟩
              have zA1 : gG < (wp.alloc (.cells #[.int .u64 0, .int .i64 0, .int .i64 0, .int .i64 0] 27)).heap.size := by rw [← hgG]; simp
              generalize hwa : wp.alloc (.cells #[.int .u64 0, .int .i64 0, .int .i64 0, .int .i64 0] 27) = wa at bA kG zA1 ⊢
              rw [hgG] at kG zA
              rw [hgG]
              have hSA : Keep S1 w4 wa := hSP.seq bA
              have hHA := hHp.below bA
              have nG : ¬ S2 gG := fun h9 => by have := hHp.lt _ h9; omega
              refine hK.out _ _ (fun _ => hSA) ?_
              clear hK K'
              try simp only [Act.put, List.setIfInBounds_toArray, List.set_cons_zero, List.set_cons_succ, List.getElem_toArray, List.getElem_cons_zero, List.getElem_cons_succ]
              refine mix.D_op (k := 10) rfl rfl (by kernel_rfl) (fun K' hK => ?_)
              simp only [List.getElem_toArray, List.getElem_cons_zero, List.getElem_cons_succ]
              have pf0 := kG.frozen 0
              have pf1 := kG.frozen 1
              have pf2 := kG.frozen 2
              have pf3 := kG.frozen 3
              have g0 := kG.cell 0
              have g1 := kG.cell 1
              have g2 := kG.cell 2
              have g3 := kG.cell 3
              simp only [List.getElem?_toArray, List.getElem?_cons_zero, List.getElem?_cons_succ] at g0 g1 g2 g3
              have lG := kG.lt
              go_wp2_with fail
              have hF := four4_keep hSA (g := gG) zA (.int .u64 (qk : Int)) (.int .i64 qg) (.int .i64 qo) (.int .i64 qn)
              have hHF := hHA.four nG (.int .u64 (qk : Int)) (.int .i64 qg) (.int .i64 qo) (.int .i64 qn)
              have kF := ((((kG).put 0 (.int .u64 (qk : Int))).put 1 (.int .i64 qg)).put 2 (.int .i64 qo)).put 3 (.int .i64 qn)
              simp only [List.setIfInBounds_toArray, List.set_cons_zero, List.set_cons_succ] at kF
              unfold four4 at hF hHF
              refine hK.out _ _ (fun _ => hF) ?_
              clear hK K'
              try simp only [Act.put, List.setIfInBounds_toArray, List.set_cons_zero, List.set_cons_succ, List.getElem_toArray, List.getElem_cons_zero, List.getElem_cons_succ]
              refine mix.D_op (k := 11) rfl rfl (by kernel_rfl) (fun K' hK => ?_)
              simp only [List.getElem_toArray, List.getElem_cons_zero, List.getElem_cons_succ]
              go_wp2_with fail
              refine hK.out _ _ (fun _ => hF) ?_
              clear hK K'
              try simp only [Act.put, List.setIfInBounds_toArray, List.set_cons_zero, List.set_cons_succ, List.getElem_toArray, List.getElem_cons_zero, List.getElem_cons_succ]
              refine mix.D_done (by kernel_rfl) ?_ _
              try simp only [Act.put, List.setIfInBounds_toArray, List.set_cons_zero, List.set_cons_succ, List.getElem_toArray, List.getElem_cons_zero, List.getElem_cons_succ]
              go_wp2_with fail
              go_meet
              exact ⟨S2, gG, rfl, rfl, vers.lay ⟨HI1.out.keep hF hHF hS3, HB1.out.keep hF hS3, kF, nG⟩⟩
            · simp only [List.getElem_toArray, List.getElem_cons_zero, List.getElem_cons_succ]
              go_wp2_with fail
              have bA : Below ws.heap.size ws (ws.alloc (.cells #[.int .u64 0, .int .i64 0, .int .i64 0, .int .i64 0] 27)) := (Below.refl _ _).alloc (Nat.le_refl _) _
              have kG := Blk.new ws 27 #[.int .u64 0, .int .i64 0, .int .i64 0, .int .i64 0]
              have zA := hS1.size
              obtain ⟨gG, hgG⟩ : ∃ gG, ws.heap.size = gG := ⟨_, rfl⟩
              have zA1 : gG < (ws.alloc (.cells #[.int .u64 0, .int .i64 0, .int .i64 0, .int .i64 0] 27)).heap.size := by rw [← hgG]; simp
              generalize hwa : ws.alloc (.cells #[.int .u64 0, .int .i64 0, .int .i64 0, .int .i64 0] 27) = wa at bA kG zA1 ⊢
              rw [hgG] at kG zA
              rw [hgG]
              have hSA : Keep S1 w4 wa := hS1.seq bA
              have hkqA := hkq.below bA hkq.lt
              have hqA : Wd.heap.size ≤ q := hq
              have hbwa : Below w4.heap.size w4 wa := hbws.trans (bA.mono hbws.size)
              refine hK.out _ _ (fun _ => hSA) ?_
              clear hK K'
              try simp only [Act.put, List.setIfInBounds_toArray, List.set_cons_zero, List.set_cons_succ, List.getElem_toArray, List.getElem_cons_zero, List.getElem_cons_succ]
              refine mix.D_op (k := 5) rfl rfl (by kernel_rfl) (fun K' hK => ?_)
              simp only [List.getElem_toArray, List.getElem_cons_zero, List.getElem_cons_succ]
              have hputc := hput2 wa (some ⟨q, 0, none⟩) 1 (hpW.below hbwa) (vs_of_blk hkqA hfv)
              simp only [List.length_singleton] at hputc
              go_wp2_with fail
              refine hputc.mono ?_
              clear hputc
              rintro e wp ⟨S2, rfl, hHp, hSp, hKp⟩
              have hSP : Keep S1 w4 wp := hSA.trans hKp (fun g hg _ => hg)
              have zP := hKp.size
              have hS3 : ∀ g, S2 g → S1 g ∨ w4.heap.size ≤ g := fun g hg => (hSp g hg).imp id (fun h9 => by have := hSA.size; omega)
              have nSG : ¬ S1 gG := fun h9 => by have := HSLT.out _ h9; omega
              have kG2 := hKp.blk kG nSG
              have nG : ¬ S2 gG := fun h9 => (hSp _ h9).elim nSG (fun h9 => by have := kG.lt; omega)
              refine hK.out _ _ (fun _ => hSP) ?_
              clear hK K'
              try simp only [Act.put, List.setIfInBounds_toArray, List.set_cons_zero, List.set_cons_succ, List.getElem_toArray, List.getElem_cons_zero, List.getElem_cons_succ]
              refine mix.D_take (i := 6) (v := ?_) rfl (by kernel_rfl) (by kernel_rfl) (fun _ _ _ h => h) (Or.inl ⟨by first | rfl | simp [Region.wanted, yielded], ?_⟩) hSP ?_
              rotate_left
              · intro w' hSw
                have z0 := (hSw.cell (p := ⟨g1, 0, none⟩) lsrc nSsrc).trans s0
                have z1 := (hSw.cell (p := ⟨g1, 1, none⟩) lsrc nSsrc).trans s1
                have z2 := (hSw.cell (p := ⟨g1, 2, none⟩) lsrc nSsrc).trans s2
                have z3 := (hSw.cell (p := ⟨g1, 3, none⟩) lsrc nSsrc).trans s3
                have y0 := (hSw.cell (p := ⟨w.heap.size, 0, none⟩) lO nSO).trans o0
                have y1 := (hSw.cell (p := ⟨w.heap.size, 1, none⟩) lO nSO).trans o1
                have y2 := (hSw.cell (p := ⟨w.heap.size, 2, none⟩) lO nSO).trans o2
                have y3 := (hSw.cell (p := ⟨w.heap.size, 3, none⟩) lO nSO).trans o3
                have y4 := (hSw.cell (p := ⟨w.heap.size, 4, none⟩) lO nSO).trans o4
                try simp only [List.getElem_toArray, List.getElem_cons_zero, List.getElem_cons_succ]
                go_simp
                exact rfl
              try simp only [Act.put, List.setIfInBounds_toArray, List.set_cons_zero, List.set_cons_succ, List.getElem_toArray, List.getElem_cons_zero, List.getElem_cons_succ]
              refine mix.D_take (i := 7) (v := ?_) rfl (by kernel_rfl) (by kernel_rfl) (fun _ _ _ h => h) (Or.inl ⟨by first | rfl | simp [Region.wanted, yielded], ?_⟩) hSP ?_
              rotate_left
              · intro w' hSw
                have z0 := (hSw.cell (p := ⟨g1, 0, none⟩) lsrc nSsrc).trans s0
                have z1 := (hSw.cell (p := ⟨g1, 1, none⟩) lsrc nSsrc).trans s1
                have z2 := (hSw.cell (p := ⟨g1, 2, none⟩) lsrc nSsrc).trans s2
                have z3 := (hSw.cell (p := ⟨g1, 3, none⟩) lsrc nSsrc).trans s3
                have y0 := (hSw.cell (p := ⟨w.heap.size, 0, none⟩) lO nSO).trans o0
                have y1 := (hSw.cell (p := ⟨w.heap.size, 1, none⟩) lO nSO).trans o1
                have y2 := (hSw.cell (p := ⟨w.heap.size, 2, none⟩) lO nSO).trans o2
                have y3 := (hSw.cell (p := ⟨w.heap.size, 3, none⟩) lO nSO).trans o3
                have y4 := (hSw.cell (p := ⟨w.heap.size, 4, none⟩) lO nSO).trans o4
                try simp only [List.getElem_toArray, List.getElem_cons_zero, List.getElem_cons_succ]
                go_simp
                exact rfl
              try simp only [Act.put, List.setIfInBounds_toArray, List.set_cons_zero, List.set_cons_succ, List.getElem_toArray, List.getElem_cons_zero, List.getElem_cons_succ]
              refine mix.D_take (i := 8) (v := ?_) rfl (by kernel_rfl) (by kernel_rfl) (fun _ _ _ h => h) (Or.inl ⟨by first | rfl | simp [Region.wanted, yielded], ?_⟩) hSP ?_
              rotate_left
              · intro w' hSw
                have z0 := (hSw.cell (p := ⟨g1, 0, none⟩) lsrc nSsrc).trans s0
                have z1 := (hSw.cell (p := ⟨g1, 1, none⟩) lsrc nSsrc).trans s1
                have z2 := (hSw.cell (p := ⟨g1, 2, none⟩) lsrc nSsrc).trans s2
                have z3 := (hSw.cell (p := ⟨g1, 3, none⟩) lsrc nSsrc).trans s3
                have y0 := (hSw.cell (p := ⟨w.heap.size, 0, none⟩) lO nSO).trans o0
                have y1 := (hSw.cell (p := ⟨w.heap.size, 1, none⟩) lO nSO).trans o1
                have y2 := (hSw.cell (p := ⟨w.heap.size, 2, none⟩) lO nSO).trans o2
                have y3 := (hSw.cell (p := ⟨w.heap.size, 3, none⟩) lO nSO).trans o3
                have y4 := (hSw.cell (p := ⟨w.heap.size, 4, none⟩) lO nSO).trans o4
                try simp only [List.getElem_toArray, List.getElem_cons_zero, List.getElem_cons_succ]
                go_simp
                exact rfl
              try simp only [Act.put, List.setIfInBounds_toArray, List.set_cons_zero, List.set_cons_succ, List.getElem_toArray, List.getElem_cons_zero, List.getElem_cons_succ]
              refine mix.D_op (k := 10) rfl rfl (by kernel_rfl) (fun K' hK => ?_)
              simp only [List.getElem_toArray, List.getElem_cons_zero, List.getElem_cons_succ]
              have pf0 := kG2.frozen 0
              have pf1 := kG2.frozen 1
              have pf2 := kG2.frozen 2
              have pf3 := kG2.frozen 3
              have g0 := kG2.cell 0
              have g1 := kG2.cell 1
              have g2 := kG2.cell 2
              have g3 := kG2.cell 3
              simp only [List.getElem?_toArray, List.getElem?_cons_zero, List.getElem?_cons_succ] at g0 g1 g2 g3
              have lG := kG2.lt
              go_wp2_with fail
              have hF := four4_keep hSP (g := gG) zA (.int .u64 (qk : Int)) (.int .i64 qg) (.int .i64 qo) (.int .i64 qn)
              have hHF := hHp.four nG (.int .u64 (qk : Int)) (.int .i64 qg) (.int .i64 qo) (.int .i64 qn)
              have kF := ((((kG2).put 0 (.int .u64 (qk : Int))).put 1 (.int .i64 qg)).put 2 (.int .i64 qo)).put 3 (.int .i64 qn)
              simp only [List.setIfInBounds_toArray, List.set_cons_zero, List.set_cons_succ] at kF
              unfold four4 at hF hHF
              refine hK.out _ _ (fun _ => hF) ?_
              clear hK K'
              try simp only [Act.put, List.setIfInBounds_toArray, List.set_cons_zero, List.set_cons_succ, List.getElem_toArray, List.getElem_cons_zero, List.getElem_cons_succ]
              refine mix.D_op (k := 11) rfl rfl (by kernel_rfl) (fun K' hK => ?_)
              simp only [List.getElem_toArray, List.getElem_cons_zero, List.getElem_cons_succ]
              go_wp2_with fail
              refine hK.out _ _ (fun _ => hF) ?_
              clear hK K'
              try simp only [Act.put, List.setIfInBounds_toArray, List.set_cons_zero, List.set_cons_succ, List.getElem_toArray, List.getElem_cons_zero, List.getElem_cons_succ]
              refine mix.D_done (by kernel_rfl) ?_ _
              try simp only [Act.put, List.setIfInBounds_toArray, List.set_cons_zero, List.set_cons_succ, List.getElem_toArray, List.getElem_cons_zero, List.getElem_cons_succ]
              go_wp2_with fail
              go_meet
              exact ⟨S2, gG, rfl, rfl, vers.lay ⟨HI1.out.keep hF hHF hS3, HB1.out.keep hF hS3, kF, nG⟩⟩
          · simp only [List.getElem_toArray, List.getElem_cons_zero, List.getElem_cons_succ]
            go_wp2_with fail
            have bA : Below Wd.heap.size Wd (Wd.alloc (.cells #[.int .u64 0, .int .i64 0, .int .i64 0, .int .i64 0] 27)) := (Below.refl _ _).alloc (Nat.le_refl _) _
            have kG := Blk.new Wd 27 #[.int .u64 0, .int .i64 0, .int .i64 0, .int .i64 0]
            have zA := hS0.size
            obtain ⟨gG, hgG⟩ : ∃ gG, Wd.heap.size = gG := ⟨_, rfl⟩
            have zA1 : gG < (Wd.alloc (.cells #[.int .u64 0, .int .i64 0, .int .i64 0, .int .i64 0] 27)).heap.size := by rw [← hgG]; simp
            generalize hwa : Wd.alloc (.cells #[.int .u64 0, .int .i64 0, .int .i64 0, .int .i64 0] 27) = wa at bA kG zA1 ⊢
            rw [hgG] at kG zA
            rw [hgG]
            have hSA : Keep S1 w4 wa := hS0.seq bA
            have hbwa : Below w4.heap.size w4 wa := hbD.trans (bA.mono hbD.size)
            refine hK.out _ _ (fun _ => hSA) ?_
            clear hK K'
            try simp only [Act.put, List.setIfInBounds_toArray, List.set_cons_zero, List.set_cons_succ, List.getElem_toArray, List.getElem_cons_zero, List.getElem_cons_succ]
            refine mix.D_op (k := 4) rfl rfl (by kernel_rfl) (fun K' hK => ?_)
            simp only [List.getElem_toArray, List.getElem_cons_zero, List.getElem_cons_succ]
            go_wp2_with fail
            refine (hsec wa).mono ?_
            rintro e ws ⟨q, rfl, hq, hkq, hbs⟩
            have hS1 : Keep S1 w4 ws := hSA.seq hbs
            have zS1 := hbs.size
            have kG1 := kG.below hbs kG.lt
            have hbws : Below w4.heap.size w4 ws := hbwa.trans (hbs.mono hbwa.size)
            refine hK.out _ _ (fun _ => hS1) ?_
            clear hK K'
            try simp only [Act.put, List.setIfInBounds_toArray, List.set_cons_zero, List.set_cons_succ, List.getElem_toArray, List.getElem_cons_zero, List.getElem_cons_succ]
            refine mix.D_op (k := 5) rfl rfl (by kernel_rfl) (fun K' hK => ?_)
            simp only [List.getElem_toArray, List.getElem_cons_zero, List.getElem_cons_succ]
            have hputc := hput2 ws (some ⟨q, 0, none⟩) 1 (hpW.below hbws) (vs_of_blk hkq hfv)
            simp only [List.length_singleton] at hputc
            go_wp2_with fail
            refine hputc.mono ?_
            clear hputc
            rintro e wp ⟨S2, rfl, hHp, hSp, hKp⟩
            have hSP : Keep S1 w4 wp := hS1.trans hKp (fun g hg _ => hg)
            have zP := hKp.size
            have hS3 : ∀ g, S2 g → S1 g ∨ w4.heap.size ≤ g := fun g hg => (hSp g hg).imp id (fun h9 => by have := hS1.size; omega)
            have nSG : ¬ S1 gG := fun h9 => by have := HSLT.out _ h9; omega
            have kG2 := hKp.blk kG1 nSG
            have nG : ¬ S2 gG := fun h9 => (hSp _ h9).elim nSG (fun h9 => by have := kG1.lt; omega)
            refine hK.out _ _ (fun _ => hSP) ?_
            clear hK K'
            try simp only [Act.put, List.setIfInBounds_toArray, List.set_cons_zero, List.set_cons_succ, List.getElem_toArray, List.getElem_cons_zero, List.getElem_cons_succ]
            refine mix.D_take (i := 6) (v := ?_) rfl (by kernel_rfl) (by kernel_rfl) (fun _ _ _ h => h) (Or.inl ⟨by first | rfl | simp [Region.wanted, yielded], ?_⟩) hSP ?_
            rotate_left
            · intro w' hSw
              have z0 := (hSw.cell (p := ⟨g1, 0, none⟩) lsrc nSsrc).trans s0
              have z1 := (hSw.cell (p := ⟨g1, 1, none⟩) lsrc nSsrc).trans s1
              have z2 := (hSw.cell (p := ⟨g1, 2, none⟩) lsrc nSsrc).trans s2
              have z3 := (hSw.cell (p := ⟨g1, 3, none⟩) lsrc nSsrc).trans s3
              have y0 := (hSw.cell (p := ⟨w.heap.size, 0, none⟩) lO nSO).trans o0
              have y1 := (hSw.cell (p := ⟨w.heap.size, 1, none⟩) lO nSO).trans o1
              have y2 := (hSw.cell (p := ⟨w.heap.size, 2, none⟩) lO nSO).trans o2
              have y3 := (hSw.cell (p := ⟨w.heap.size, 3, none⟩) lO nSO).trans o3
              have y4 := (hSw.cell (p := ⟨w.heap.size, 4, none⟩) lO nSO).trans o4
              try simp only [List.getElem_toArray, List.getElem_cons_zero, List.getElem_cons_succ]
              go_simp
              exact rfl
            try simp only [Act.put, List.setIfInBounds_toArray, List.set_cons_zero, List.set_cons_succ, List.getElem_toArray, List.getElem_cons_zero, List.getElem_cons_succ]
            refine mix.D_take (i := 7) (v := ?_) rfl (by kernel_rfl) (by kernel_rfl) (fun _ _ _ h => h) (Or.inl ⟨by first | rfl | simp [Region.wanted, yielded], ?_⟩) hSP ?_
            rotate_left
            · intro w' hSw
              have z0 := (hSw.cell (p := ⟨g1, 0, none⟩) lsrc nSsrc).trans s0
              have z1 := (hSw.cell (p := ⟨g1, 1, none⟩) lsrc nSsrc).trans s1
              have z2 := (hSw.cell (p := ⟨g1, 2, none⟩) lsrc nSsrc).trans s2
              have z3 := (hSw.cell (p := ⟨g1, 3, none⟩) lsrc nSsrc).trans s3
              have y0 := (hSw.cell (p := ⟨w.heap.size, 0, none⟩) lO nSO).trans o0
              have y1 := (hSw.cell (p := ⟨w.heap.size, 1, none⟩) lO nSO).trans o1
              have y2 := (hSw.cell (p := ⟨w.heap.size, 2, none⟩) lO nSO).trans o2
              have y3 := (hSw.cell (p := ⟨w.heap.size, 3, none⟩) lO nSO).trans o3
              have y4 := (hSw.cell (p := ⟨w.heap.size, 4, none⟩) lO nSO).trans o4
              try simp only [List.getElem_toArray, List.getElem_cons_zero, List.getElem_cons_succ]
              go_simp
              exact rfl
            try simp only [Act.put, List.setIfInBounds_toArray, List.set_cons_zero, List.set_cons_succ, List.getElem_toArray, List.getElem_cons_zero, List.getElem_cons_succ]
            refine mix.D_take (i := 8) (v := ?_) rfl (by kernel_rfl) (by kernel_rfl) (fun _ _ _ h => h) (Or.inl ⟨by first | rfl | simp [Region.wanted, yielded], ?_⟩) hSP ?_
            rotate_left
            · intro w' hSw
              have z0 := (hSw.cell (p := ⟨g1, 0, none⟩) lsrc nSsrc).trans s0
              have z1 := (hSw.cell (p := ⟨g1, 1, none⟩) lsrc nSsrc).trans s1
              have z2 := (hSw.cell (p := ⟨g1, 2, none⟩) lsrc nSsrc).trans s2
              have z3 := (hSw.cell (p := ⟨g1, 3, none⟩) lsrc nSsrc).trans s3
              have y0 := (hSw.cell (p := ⟨w.heap.size, 0, none⟩) lO nSO).trans o0
              have y1 := (hSw.cell (p := ⟨w.heap.size, 1, none⟩) lO nSO).trans o1
              have y2 := (hSw.cell (p := ⟨w.heap.size, 2, none⟩) lO nSO).trans o2
              have y3 := (hSw.cell (p := ⟨w.heap.size, 3, none⟩) lO nSO).trans o3
              have y4 := (hSw.cell (p := ⟨w.heap.size, 4, none⟩) lO nSO).trans o4
              try simp only [List.getElem_toArray, List.getElem_cons_zero, List.getElem_cons_succ]
              go_simp
              exact rfl
            try simp only [Act.put, List.setIfInBounds_toArray, List.set_cons_zero, List.set_cons_succ, List.getElem_toArray, List.getElem_cons_zero, List.getElem_cons_succ]
            refine mix.D_op (k := 10) rfl rfl (by kernel_rfl) (fun K' hK => ?_)
            simp only [List.getElem_toArray, List.getElem_cons_zero, List.getElem_cons_succ]
            have pf0 := kG2.frozen 0
            have pf1 := kG2.frozen 1
            have pf2 := kG2.frozen 2
            have pf3 := kG2.frozen 3
            have g0 := kG2.cell 0
            have g1 := kG2.cell 1
            have g2 := kG2.cell 2
            have g3 := kG2.cell 3
            simp only [List.getElem?_toArray, List.getElem?_cons_zero, List.getElem?_cons_succ] at g0 g1 g2 g3
            have lG := kG2.lt
            go_wp2_with fail
            have hF := four4_keep hSP (g := gG) zA (.int .u64 (qk : Int)) (.int .i64 qg) (.int .i64 qo) (.int .i64 qn)
            have hHF := hHp.four nG (.int .u64 (qk : Int)) (.int .i64 qg) (.int .i64 qo) (.int .i64 qn)
            have kF := ((((kG2).put 0 (.int .u64 (qk : Int))).put 1 (.int .i64 qg)).put 2 (.int .i64 qo)).put 3 (.int .i64 qn)
            simp only [List.setIfInBounds_toArray, List.set_cons_zero, List.set_cons_succ] at kF
            unfold four4 at hF hHF
            refine hK.out _ _ (fun _ => hF) ?_
            clear hK K'
            try simp only [Act.put, List.setIfInBounds_toArray, List.set_cons_zero, List.set_cons_succ, List.getElem_toArray, List.getElem_cons_zero, List.getElem_cons_succ]
            refine mix.D_op (k := 11) rfl rfl (by kernel_rfl) (fun K' hK => ?_)
            simp only [List.getElem_toArray, List.getElem_cons_zero, List.getElem_cons_succ]
            go_wp2_with fail
            refine hK.out _ _ (fun _ => hF) ?_
            clear hK K'
            try simp only [Act.put, List.setIfInBounds_toArray, List.set_cons_zero, List.set_cons_succ, List.getElem_toArray, List.getElem_cons_zero, List.getElem_cons_succ]
            refine mix.D_done (by kernel_rfl) ?_ _
            try simp only [Act.put, List.setIfInBounds_toArray, List.set_cons_zero, List.set_cons_succ, List.getElem_toArray, List.getElem_cons_zero, List.getElem_cons_succ]
            go_wp2_with fail
            go_meet
            exact ⟨S2, gG, rfl, rfl, vers.lay ⟨HI1.out.keep hF hHF hS3, HB1.out.keep hF hS3, kF, nG⟩⟩
        case rest =>
          obtain ⟨S2, g2, rfl, rfl, HC2⟩ := hcut
          generalize wc = w5 at HC2 ⊢
          clear HI1 HB1 hput2 wc hsec
          have HI2 := vers.lay HC2.out.1
          have HB2 := vers.lay HC2.out.2.1
          have HB3 := vers.lay HC2.out.2.2
          clear HC2
          have hmem : o.n ∈ nm (withP (withP L (o.n, [vOf o.v])) (o.n, [vOf o.v])) := List.mem_map.2 ⟨(o.n, [vOf o.v]), (withP_mem HMPS.out.1.inc _).2 (.inl rfl), rfl⟩
          obtain ⟨m3, r3, h3, root3, hh3, hml3, href3, hdel⟩ := del_yes h S2 (ns ++ m1 ++ m2) ⟨qk, qg, qo, qn⟩ h2 (withP (withP L (o.n, [vOf o.v])) (o.n, [vOf o.v])) o.n w5 HI2.out.oi.hp hfit2 HRT2.out HMPS.out.2.1.inc hmem (by omega) (by omega)
          have hn3 : (ns ++ m1 ++ m2 ++ m3).length ≤ 740 := by rw [List.length_append]; omega
          obtain ⟨dk, dg, dz, dn⟩ := r3
          have hfit3 : R.fits ⟨dk, dg, dz, dn⟩ := by
            obtain ⟨k, e, hk⟩ := href3
            rw [e]
            exact refOf_fits2 (by omega)
          have hh3x : h3 ≤ 4 := root_h root3 hL3
          have HRT3 := vers.lay root3
          clear root3 href3 hh3 hml3 hmem
          have kS := HB3.out.1
          have kOw := HI2.out.ko
          have s0 := kS.cell 0
          have s1 := kS.cell 1
          have s2 := kS.cell 2
          have s3 := kS.cell 3
          simp only [List.getElem?_toArray, List.getElem?_cons_zero, List.getElem?_cons_succ] at s0 s1 s2 s3
          have o0 := kOw.cell 0
          have o1 := kOw.cell 1
          have o2 := kOw.cell 2
          have o3 := kOw.cell 3
          have o4 := kOw.cell 4
          simp only [List.getElem?_toArray, List.getElem?_cons_zero, List.getElem?_cons_succ] at o0 o1 o2 o3 o4
          have lsrc := kS.lt
          have lO := kOw.lt
          go_wp2_with fail
          refine hdel.mono ?_
          rintro e wd ⟨S3, rfl, hHd, hSd, hKd⟩
          clear hdel s0 s1 s2 s3 o0 o1 o2 o3 o4
          have I5 := HI2.out.keep hKd hHd hSd
          have B1 := HB2.out.keep hKd hSd
          have B2 := HB3.out.keep hKd hSd
          have bR : Below wd.heap.size wd (wd.alloc (.cells #[.int .u64 (dk : Int), .int .i64 dg, .int .i64 dz, .int .i64 dn] 27)) := (Below.refl _ _).alloc (Nat.le_refl _) _
          have kR := Blk.new wd 27 #[.int .u64 (dk : Int), .int .i64 dg, .int .i64 dz, .int .i64 dn]
          have nR : ¬ S3 wd.heap.size := fun h9 => Nat.lt_irrefl _ (hHd.lt _ h9)
          have B3 : UB (wd.alloc (.cells #[.int .u64 (dk : Int), .int .i64 dg, .int .i64 dz, .int .i64 dn] 27)) S3 wd.heap.size ⟨dk, dg, dz, dn⟩ := ⟨kR, nR⟩
          have I6 := vers.lay (I5.next bR)
          have B1 := vers.lay (B1.next bR)
          have B2 := vers.lay (B2.next bR)
          have B3 := vers.lay B3
          generalize hW6 : wd.alloc (.cells #[.int .u64 (dk : Int), .int .i64 dg, .int .i64 dz, .int .i64 dn] 27) = w6 at *
          clear I5 hHd hSd hKd bR kR nR HI2 HB2 HB3 kS kOw lsrc lO
          have HTL : Hid (Tos w6 w6.heap.size lt Av cv) := by
            obtain ⟨A8, c8, e8, hw1, hw2, hw3⟩ := row_rdF I6.out.oi.row
            injection e8 with e7 _ e8
            subst e7 e8
            exact vers.lay ⟨hw1, by omega, hw2, hw3.rd, I6.out.oi.fits⟩
          go_upto_region 20 with (fail)
          clear hW6
          generalize wd.heap.size = g3 at *
          go_cut [18] from 105 to 110 (fun a wx => ∃ (A9 : Option Addr) (c9 : Nat), a = .slice A9 (lt ++ [o]).length c9 ∧ Hid (Below w6.heap.size w6 wx ∧ Tos wx wx.heap.size (lt ++ [o]) A9 c9))
          case first =>
            have kO6 := I6.out.ko
            have lO := kO6.lt
            obtain ⟨i0, hi0, hz0, hz1, hz2⟩ := info_parts infoOp
            have hS0 : Below w6.heap.size w6 w6.drew := (Below.refl _ _).drew
            refine mix.region_D (fun w' => Below w6.heap.size w6 w') (fun _ => false) (by kernel_rfl) ?_
            generalize w6.drew = Wd at hS0 ⊢
            refine mix.D_take (i := 1) (v := ?_) rfl (by kernel_rfl) (by kernel_rfl) (fun _ _ _ h => h) (Or.inl ⟨by first | rfl | simp [Region.wanted, yielded], ?_⟩) hS0 ?_
            rotate_left
            · intro w' hSw
              try simp only [List.getElem_toArray, List.getElem_cons_zero, List.getElem_cons_succ]
              go_simp
              exact rfl
            try simp only [Act.put, List.setIfInBounds_toArray, List.set_cons_zero, List.set_cons_succ, List.getElem_toArray, List.getElem_cons_zero, List.getElem_cons_succ]
            refine mix.D_take (i := 3) (v := ?_) rfl (by kernel_rfl) (by kernel_rfl) (fun _ _ _ h => h) (Or.inl ⟨by first | rfl | simp [Region.wanted, yielded], ?_⟩) hS0 ?_
            rotate_left
            · intro w' hSw
              have y0 := (kO6.below hSw lO).cell 0
              have y1 := (kO6.below hSw lO).cell 1
              have y2 := (kO6.below hSw lO).cell 2
              have y3 := (kO6.below hSw lO).cell 3
              have y4 := (kO6.below hSw lO).cell 4
              simp only [List.getElem?_toArray, List.getElem?_cons_zero, List.getElem?_cons_succ] at y0 y1 y2 y3 y4
              try simp only [List.getElem_toArray, List.getElem_cons_zero, List.getElem_cons_succ]
              go_simp
              exact rfl
            try simp only [Act.put, List.setIfInBounds_toArray, List.set_cons_zero, List.set_cons_succ, List.getElem_toArray, List.getElem_cons_zero, List.getElem_cons_succ]
            refine mix.D_two (k := 0) (j := 4) rfl rfl rfl rfl (by kernel_rfl) (fun K' hK => ?_) (fun K' hK => ?_)
            · simp only [List.getElem_toArray, List.getElem_cons_zero, List.getElem_cons_succ]
              go_wp2_with fail
              have b0 : Below Wd.heap.size Wd (Wd.alloc (.cells #[] 36)) := (Below.refl _ _).alloc (Nat.le_refl _) _
              have r0 := op_row0 Wd
              have z0 := hS0.size
              have hbZ := hS0.trans (b0.mono hS0.size)
              obtain ⟨g0, hg0⟩ : ∃ g0, Wd.heap.size = g0 := ⟨_, rfl⟩
              have y0 : g0 < (Wd.alloc (.cells #[] 36)).heap.size := by rw [← hg0]; simp
              generalize Wd.alloc (.cells #[] 36) = w0 at *
              rw [hg0] at r0 z0
              rw [hg0]
              refine hK.out _ _ (fun _ => hbZ) ?_
              clear hK K'
              try simp only [Act.put, List.setIfInBounds_toArray, List.set_cons_zero, List.set_cons_succ, List.getElem_toArray, List.getElem_cons_zero, List.getElem_cons_succ]
              refine mix.D_two (k := 2) (j := 4) rfl rfl rfl rfl (by kernel_rfl) (fun K' hK => ?_) (fun K' hK => ?_)
              · simp only [List.getElem_toArray, List.getElem_cons_zero, List.getElem_cons_succ]
                refine wp_bulk2 Try.underlying22 hi0 hz0 hz1 hz2 rfl (by decide) (.tmp 105) (.tmp 106) rfl r0 rfl (m := lt.length) (ys := cellsT lt) (by rw [cellsT_len]; omega) ((HTL.out.at_world hbZ).2.2.2.1) HTL.out.2.2.1 HTL.out.1 (cellsT_one lt) rfl (by omega) (by unfold maxLen; omega) ?_
                intro v1 w1 ho1 hk1 hv1
                have hb1 : Below w6.heap.size w6 w1 := hbZ.trans (hk1.below (fun g hg => by have e : g0 = g := Option.some.inj hg; have := hbZ.size; omega) hbZ.size)
                have hv1' : ∀ g, v1.ownBlock = some g → w6.heap.size ≤ g := fun g hg => (hv1 g hg).elim (fun h9 => by have e : g0 = g := Option.some.inj h9; omega) (fun h9 => Nat.le_trans hbZ.size h9.1)
                rw [Nat.zero_add, List.nil_append] at ho1
                refine hK.out _ _ (fun _ => hb1) ?_
                clear hK K'
                try simp only [Act.put, List.setIfInBounds_toArray, List.set_cons_zero, List.set_cons_succ, List.getElem_toArray, List.getElem_cons_zero, List.getElem_cons_succ]
                refine mix.D_op (k := 4) rfl rfl (by kernel_rfl) (fun K' hK => ?_)
                simp only [List.getElem_toArray, List.getElem_cons_zero, List.getElem_cons_succ]
                go_wp2_with fail
                have bq : Below w1.heap.size w1 (w1.alloc (.cells #[.int .i64 o.k, .string o.n, .string o.v, .slice o.A o.m o.c, .int .i64 o.b] 36)) := (Below.refl _ _).alloc (Nat.le_refl _) _
                have kq := Blk.new w1 36 #[.int .i64 o.k, .string o.n, .string o.v, .slice o.A o.m o.c, .int .i64 o.b]
                have zq := hb1.size
                have hbQ := hb1.trans (bq.mono hb1.size)
                obtain ⟨gq, hgq⟩ : ∃ gq, w1.heap.size = gq := ⟨_, rfl⟩
                generalize w1.alloc (.cells #[.int .i64 o.k, .string o.n, .string o.v, .slice o.A o.m o.c, .int .i64 o.b] 36) = wq at *
                rw [hgq] at kq zq
                rw [hgq]
                have ho2 := row_below ho1 bq
                refine hK.out _ _ (fun _ => hbQ) ?_
                clear hK K'
                try simp only [Act.put, List.setIfInBounds_toArray, List.set_cons_zero, List.set_cons_succ, List.getElem_toArray, List.getElem_cons_zero, List.getElem_cons_succ]
                refine mix.D_op (k := 5) rfl rfl (by kernel_rfl) (fun K' hK => ?_)
                simp only [List.getElem_toArray, List.getElem_cons_zero, List.getElem_cons_succ]
                refine wp_bulk2 Try.underlying22 hi0 hz0 hz1 hz2 rfl (by decide) (.tmp 107) (.tmp 109) rfl ho2 rfl (m := 1) (ys := o.cells) rfl (Blk.rd (xs := o.cells) kq kq.lt) (fun h => by cases h) (Nat.le_refl _) (by intro u hu; simp [TO.cells] at hu; rcases hu with rfl | rfl | rfl | rfl | rfl <;> rfl) rfl (by omega) (by unfold maxLen; omega) ?_
                intro v9 w9 ho9 hk9 hv9
                have hb9 : Below w6.heap.size w6 w9 := hbQ.trans (hk9.below (fun g hg => hv1' g hg) hbQ.size)
                have ho9' : w9.ownsRow 0 36 5 v9 (lt ++ [o]).length (cellsT (lt ++ [o])) := by rw [List.length_append, cellsT_app]; exact ho9
                obtain ⟨A9, c9, rfl, hw1, hw2, hw3⟩ := row_rdF ho9'
                have hT9 : Tos w9 w9.heap.size (lt ++ [o]) A9 c9 := ⟨hw1, by rw [List.length_append, List.length_singleton]; omega, hw2, hw3.rd, fun x hx => (List.mem_append.1 hx).elim (HTL.out.2.2.2.2 x) (fun h9 => by rw [List.mem_singleton.1 h9]; exact HOF.out)⟩
                have HT9 := vers.lay (And.intro hb9 hT9)
                clear hw1 hw2 hw3 hT9 ho9 ho9' hk9 hv9
                refine hK.out _ _ (fun _ => hb9) ?_
                clear hK K'
                try simp only [Act.put, List.setIfInBounds_toArray, List.set_cons_zero, List.set_cons_succ, List.getElem_toArray, List.getElem_cons_zero, List.getElem_cons_succ]
                refine mix.D_op (k := 6) rfl rfl (by kernel_rfl) (fun K' hK => ?_)
                simp only [List.getElem_toArray, List.getElem_cons_zero, List.getElem_cons_succ]
                go_wp2_with fail
                refine hK.out _ _ (fun _ => hb9) ?_
                clear hK K'
                try simp only [Act.put, List.setIfInBounds_toArray, List.set_cons_zero, List.set_cons_succ, List.getElem_toArray, List.getElem_cons_zero, List.getElem_cons_succ]
                refine mix.D_done (by kernel_rfl) ?_ _
                try simp only [Act.put, List.setIfInBounds_toArray, List.set_cons_zero, List.set_cons_succ, List.getElem_toArray, List.getElem_cons_zero, List.getElem_cons_succ]
                go_wp2_with fail
                go_meet
                exact ⟨A9, c9, by simp, HT9⟩
              · simp only [List.getElem_toArray, List.getElem_cons_zero, List.getElem_cons_succ]
                go_wp2_with fail
                have bq : Below w0.heap.size w0 (w0.alloc (.cells #[.int .i64 o.k, .string o.n, .string o.v, .slice o.A o.m o.c, .int .i64 o.b] 36)) := (Below.refl _ _).alloc (Nat.le_refl _) _
                have kq := Blk.new w0 36 #[.int .i64 o.k, .string o.n, .string o.v, .slice o.A o.m o.c, .int .i64 o.b]
                have zq := hbZ.size
                have hbQ := hbZ.trans (bq.mono hbZ.size)
                obtain ⟨gq, hgq⟩ : ∃ gq, w0.heap.size = gq := ⟨_, rfl⟩
                generalize w0.alloc (.cells #[.int .i64 o.k, .string o.n, .string o.v, .slice o.A o.m o.c, .int .i64 o.b] 36) = wq at *
                rw [hgq] at kq zq
                rw [hgq]
                have r1 := row_below r0 bq
                have n0 : g0 ≠ gq := by omega
                refine hK.out _ _ (fun _ => hbQ) ?_
                clear hK K'
                try simp only [Act.put, List.setIfInBounds_toArray, List.set_cons_zero, List.set_cons_succ, List.getElem_toArray, List.getElem_cons_zero, List.getElem_cons_succ]
                refine mix.D_op (k := 2) rfl rfl (by kernel_rfl) (fun K' hK => ?_)
                simp only [List.getElem_toArray, List.getElem_cons_zero, List.getElem_cons_succ]
                refine wp_bulk2 Try.underlying22 hi0 hz0 hz1 hz2 rfl (by decide) (.tmp 105) (.tmp 106) rfl r1 rfl (m := lt.length) (ys := cellsT lt) (by rw [cellsT_len]; omega) ((HTL.out.at_world hbQ).2.2.2.1) HTL.out.2.2.1 HTL.out.1 (cellsT_one lt) rfl (by omega) (by unfold maxLen; omega) ?_
                intro v1 w1 ho1 hk1 hv1
                have hb1 : Below w6.heap.size w6 w1 := hbQ.trans (hk1.below (fun g hg => by have e : g0 = g := Option.some.inj hg; have := hbQ.size; omega) hbQ.size)
                have hv1' : ∀ g, v1.ownBlock = some g → w6.heap.size ≤ g := fun g hg => (hv1 g hg).elim (fun h9 => by have e : g0 = g := Option.some.inj h9; omega) (fun h9 => Nat.le_trans hbQ.size h9.1)
                rw [Nat.zero_add, List.nil_append] at ho1
                have kq1 := hk1.blk kq (fun h9 => by have e : g0 = gq := Option.some.inj h9; omega)
                refine hK.out _ _ (fun _ => hb1) ?_
                clear hK K'
                try simp only [Act.put, List.setIfInBounds_toArray, List.set_cons_zero, List.set_cons_succ, List.getElem_toArray, List.getElem_cons_zero, List.getElem_cons_succ]
                refine mix.D_op (k := 5) rfl rfl (by kernel_rfl) (fun K' hK => ?_)
                simp only [List.getElem_toArray, List.getElem_cons_zero, List.getElem_cons_succ]
                refine wp_bulk2 Try.underlying22 hi0 hz0 hz1 hz2 rfl (by decide) (.tmp 107) (.tmp 109) rfl ho1 rfl (m := 1) (ys := o.cells) rfl (Blk.rd (xs := o.cells) kq1 kq1.lt) (fun h => by cases h) (Nat.le_refl _) (by intro u hu; simp [TO.cells] at hu; rcases hu with rfl | rfl | rfl | rfl | rfl <;> rfl) rfl (by omega) (by unfold maxLen; omega) ?_
                intro v9 w9 ho9 hk9 hv9
                have hb9 : Below w6.heap.size w6 w9 := hb1.trans (hk9.below (fun g hg => hv1' g hg) hb1.size)
                have ho9' : w9.ownsRow 0 36 5 v9 (lt ++ [o]).length (cellsT (lt ++ [o])) := by rw [List.length_append, cellsT_app]; exact ho9
                obtain ⟨A9, c9, rfl, hw1, hw2, hw3⟩ := row_rdF ho9'
                have hT9 : Tos w9 w9.heap.size (lt ++ [o]) A9 c9 := ⟨hw1, by rw [List.length_append, List.length_singleton]; omega, hw2, hw3.rd, fun x hx => (List.mem_append.1 hx).elim (HTL.out.2.2.2.2 x) (fun h9 => by rw [List.mem_singleton.1 h9]; exact HOF.out)⟩
                have HT9 := vers.lay (And.intro hb9 hT9)
                clear hw1 hw2 hw3 hT9 ho9 ho9' hk9 hv9
                refine hK.out _ _ (fun _ => hb9) ?_
                clear hK K'
                try simp only [Act.put, List.setIfInBounds_toArray, List.set_cons_zero, List.set_cons_succ, List.getElem_toArray, List.getElem_cons_zero, List.getElem_cons_succ]
                refine mix.D_op (k := 6) rfl rfl (by kernel_rfl) (fun K' hK => ?_)
                simp only [List.getElem_toArray, List.getElem_cons_zero, List.getElem_cons_succ]
                go_wp2_with fail
                refine hK.out _ _ (fun _ => hb9) ?_
                clear hK K'
                try simp only [Act.put, List.setIfInBounds_toArray, List.set_cons_zero, List.set_cons_succ, List.getElem_toArray, List.getElem_cons_zero, List.getElem_cons_succ]
                refine mix.D_done (by kernel_rfl) ?_ _
                try simp only [Act.put, List.setIfInBounds_toArray, List.set_cons_zero, List.set_cons_succ, List.getElem_toArray, List.getElem_cons_zero, List.getElem_cons_succ]
                go_wp2_with fail
                go_meet
                exact ⟨A9, c9, by simp, HT9⟩
            · simp only [List.getElem_toArray, List.getElem_cons_zero, List.getElem_cons_succ]
              go_wp2_with fail
              have bq : Below Wd.heap.size Wd (Wd.alloc (.cells #[.int .i64 o.k, .string o.n, .string o.v, .slice o.A o.m o.c, .int .i64 o.b] 36)) := (Below.refl _ _).alloc (Nat.le_refl _) _
              have kq := Blk.new Wd 36 #[.int .i64 o.k, .string o.n, .string o.v, .slice o.A o.m o.c, .int .i64 o.b]
              have zq := hS0.size
              have hbQ := hS0.trans (bq.mono hS0.size)
              obtain ⟨gq, hgq⟩ : ∃ gq, Wd.heap.size = gq := ⟨_, rfl⟩
              generalize Wd.alloc (.cells #[.int .i64 o.k, .string o.n, .string o.v, .slice o.A o.m o.c, .int .i64 o.b] 36) = wq at *
              rw [hgq] at kq zq
              rw [hgq]
              refine hK.out _ _ (fun _ => hbQ) ?_
              clear hK K'
              try simp only [Act.put, List.setIfInBounds_toArray, List.set_cons_zero, List.set_cons_succ, List.getElem_toArray, List.getElem_cons_zero, List.getElem_cons_succ]
              refine mix.D_op (k := 0) rfl rfl (by kernel_rfl) (fun K' hK => ?_)
              simp only [List.getElem_toArray, List.getElem_cons_zero, List.getElem_cons_succ]
              go_wp2_with fail
              have b0 : Below wq.heap.size wq (wq.alloc (.cells #[] 36)) := (Below.refl _ _).alloc (Nat.le_refl _) _
              have r0 := op_row0 wq
              have z0 := hbQ.size
              have hbZ := hbQ.trans (b0.mono hbQ.size)
              obtain ⟨g0, hg0⟩ : ∃ g0, wq.heap.size = g0 := ⟨_, rfl⟩
              have y0 : g0 < (wq.alloc (.cells #[] 36)).heap.size := by rw [← hg0]; simp
              have kq0 := kq.below b0 kq.lt
              have n0 : g0 ≠ gq := by have := kq.lt; omega
              generalize wq.alloc (.cells #[] 36) = w0 at *
              rw [hg0] at r0 z0
              rw [hg0]
              refine hK.out _ _ (fun _ => hbZ) ?_
              clear hK K'
              try simp only [Act.put, List.setIfInBounds_toArray, List.set_cons_zero, List.set_cons_succ, List.getElem_toArray, List.getElem_cons_zero, List.getElem_cons_succ]
              refine mix.D_op (k := 2) rfl rfl (by kernel_rfl) (fun K' hK => ?_)
              simp only [List.getElem_toArray, List.getElem_cons_zero, List.getElem_cons_succ]
              refine wp_bulk2 Try.underlying22 hi0 hz0 hz1 hz2 rfl (by decide) (.tmp 105) (.tmp 106) rfl r0 rfl (m := lt.length) (ys := cellsT lt) (by rw [cellsT_len]; omega) ((HTL.out.at_world hbZ).2.2.2.1) HTL.out.2.2.1 HTL.out.1 (cellsT_one lt) rfl (by omega) (by unfold maxLen; omega) ?_
              intro v1 w1 ho1 hk1 hv1
              have hb1 : Below w6.heap.size w6 w1 := hbZ.trans (hk1.below (fun g hg => by have e : g0 = g := Option.some.inj hg; have := hbZ.size; omega) hbZ.size)
              have hv1' : ∀ g, v1.ownBlock = some g → w6.heap.size ≤ g := fun g hg => (hv1 g hg).elim (fun h9 => by have e : g0 = g := Option.some.inj h9; omega) (fun h9 => Nat.le_trans hbZ.size h9.1)
              rw [Nat.zero_add, List.nil_append] at ho1
              have kq1 := hk1.blk kq0 (fun h9 => by have e : g0 = gq := Option.some.inj h9; omega)
              refine hK.out _ _ (fun _ => hb1) ?_
              clear hK K'
              try simp only [Act.put, List.setIfInBounds_toArray, List.set_cons_zero, List.set_cons_succ, List.getElem_toArray, List.getElem_cons_zero, List.getElem_cons_succ]
              refine mix.D_op (k := 5) rfl rfl (by kernel_rfl) (fun K' hK => ?_)
              simp only [List.getElem_toArray, List.getElem_cons_zero, List.getElem_cons_succ]
              refine wp_bulk2 Try.underlying22 hi0 hz0 hz1 hz2 rfl (by decide) (.tmp 107) (.tmp 109) rfl ho1 rfl (m := 1) (ys := o.cells) rfl (Blk.rd (xs := o.cells) kq1 kq1.lt) (fun h => by cases h) (Nat.le_refl _) (by intro u hu; simp [TO.cells] at hu; rcases hu with rfl | rfl | rfl | rfl | rfl <;> rfl) rfl (by omega) (by unfold maxLen; omega) ?_
              intro v9 w9 ho9 hk9 hv9
              have hb9 : Below w6.heap.size w6 w9 := hb1.trans (hk9.below (fun g hg => hv1' g hg) hb1.size)
              have ho9' : w9.ownsRow 0 36 5 v9 (lt ++ [o]).length (cellsT (lt ++ [o])) := by rw [List.length_append, cellsT_app]; exact ho9
              obtain ⟨A9, c9, rfl, hw1, hw2, hw3⟩ := row_rdF ho9'
              have hT9 : Tos w9 w9.heap.size (lt ++ [o]) A9 c9 := ⟨hw1, by rw [List.length_append, List.length_singleton]; omega, hw2, hw3.rd, fun x hx => (List.mem_append.1 hx).elim (HTL.out.2.2.2.2 x) (fun h9 => by rw [List.mem_singleton.1 h9]; exact HOF.out)⟩
              have HT9 := vers.lay (And.intro hb9 hT9)
              clear hw1 hw2 hw3 hT9 ho9 ho9' hk9 hv9
              refine hK.out _ _ (fun _ => hb9) ?_
              clear hK K'
              try simp only [Act.put, List.setIfInBounds_toArray, List.set_cons_zero, List.set_cons_succ, List.getElem_toArray, List.getElem_cons_zero, List.getElem_cons_succ]
              refine mix.D_op (k := 6) rfl rfl (by kernel_rfl) (fun K' hK => ?_)
              simp only [List.getElem_toArray, List.getElem_cons_zero, List.getElem_cons_succ]
              go_wp2_with fail
              refine hK.out _ _ (fun _ => hb9) ?_
              clear hK K'
              try simp only [Act.put, List.setIfInBounds_toArray, List.set_cons_zero, List.set_cons_succ, List.getElem_toArray, List.getElem_cons_zero, List.getElem_cons_succ]
              refine mix.D_done (by kernel_rfl) ?_ _
              try simp only [Act.put, List.setIfInBounds_toArray, List.set_cons_zero, List.set_cons_succ, List.getElem_toArray, List.getElem_cons_zero, List.getElem_cons_succ]
              go_wp2_with fail
              go_meet
              exact ⟨A9, c9, by simp, HT9⟩
          case rest =>
            obtain ⟨A9, c9, rfl, HC3⟩ := hcut
            have hb7 := HC3.out.1
            have hT9 := HC3.out.2
            clear HC3
            generalize wc = w7 at hb7 hT9 ⊢
            generalize lt ++ [o] = l2 at *
            have I7 := I6.out.next hb7
            have hBp := B1.out.next hb7
            have hBq := B2.out.next hb7
            have hBd := B3.out.next hb7
            have hTl := HTL.out.at_world hb7
            have hc1 := fun (wx : World) (hb : Below w7.heap.size w7 wx) => shows_ok h S3 (ns ++ m1 ++ m2 ++ m3) ⟨pk, pg, po, pn⟩ h1 (withP L (o.n, [vOf o.v])) l2 A9 c9 wx ((⟨I7.oi.hp, ((HRT1.out.app m2).app m3), hh1x, hfit1, hL1⟩ : Shown w7 h S3 (ns ++ m1 ++ m2 ++ m3) ⟨pk, pg, po, pn⟩ h1 (withP L (o.n, [vOf o.v]))).below hb) (hT9.at_world hb) HMPS.out.1
            have hc2 := fun (wx : World) (hb : Below w7.heap.size w7 wx) => shows_ok h S3 (ns ++ m1 ++ m2 ++ m3) ⟨qk, qg, qo, qn⟩ h2 (withP (withP L (o.n, [vOf o.v])) (o.n, [vOf o.v])) l2 A9 c9 wx ((⟨I7.oi.hp, (HRT2.out.app m3), hh2x, hfit2, hL2⟩ : Shown w7 h S3 (ns ++ m1 ++ m2 ++ m3) ⟨qk, qg, qo, qn⟩ h2 (withP (withP L (o.n, [vOf o.v])) (o.n, [vOf o.v]))).below hb) (hT9.at_world hb) HMPS.out.2.1
            have hc3 := fun (wx : World) (hb : Below w7.heap.size w7 wx) => shows_ok h S3 (ns ++ m1 ++ m2 ++ m3) ⟨dk, dg, dz, dn⟩ h3 (outP (withP (withP L (o.n, [vOf o.v])) (o.n, [vOf o.v])) o.n) lt Av cv wx ((⟨I7.oi.hp, HRT3.out, hh3x, hfit3, hL3⟩ : Shown w7 h S3 (ns ++ m1 ++ m2 ++ m3) ⟨dk, dg, dz, dn⟩ h3 (outP (withP (withP L (o.n, [vOf o.v])) (o.n, [vOf o.v])) o.n)).below hb) (hTl.at_world hb) HMPS.out.2.2
            have hc4 := fun (wx : World) (hb : Below w7.heap.size w7 wx) => shows_ok h S3 (ns ++ m1 ++ m2 ++ m3) ⟨rk, rg, ro, rn⟩ ht L lt Av cv wx ((⟨I7.oi.hp, I7.oi.root, hht, hfit, hL⟩ : Shown w7 h S3 (ns ++ m1 ++ m2 ++ m3) ⟨rk, rg, ro, rn⟩ ht L).below hb) (hTl.at_world hb) I7.oi.mp
            have hw7 := I7.oi.below
            have kp := hBp.1
            have kq := hBq.1
            have kd := hBd.1
            have kr := I7.oi.kb
            have HC := vers.lay (And.intro hc1 (And.intro hc2 (And.intro hc3 hc4)))
            clear hc1 hc2 hc3 hc4 hBp hBq hBd hTl hT9 I7
            have a0 := kp.cell 0
            have a1 := kp.cell 1
            have a2 := kp.cell 2
            have a3 := kp.cell 3
            simp only [List.getElem?_toArray, List.getElem?_cons_zero, List.getElem?_cons_succ] at a0 a1 a2 a3
            have lp := kp.lt
            have hs1 := HC.out.1 w7 (Below.refl _ _)
            go_wp2_with fail
            refine hs1.mono ?_
            rintro e wa ⟨rfl, hba⟩
            clear hs1 a0 a1 a2 a3
            have hwa7 := hba
            have kq1 := kq.below hba kq.lt
            have a0 := kq1.cell 0
            have a1 := kq1.cell 1
            have a2 := kq1.cell 2
            have a3 := kq1.cell 3
            simp only [List.getElem?_toArray, List.getElem?_cons_zero, List.getElem?_cons_succ] at a0 a1 a2 a3
            have lq := kq1.lt
            have hs2 := HC.out.2.1 wa hwa7
            go_wp2_with fail
            refine hs2.mono ?_
            rintro e wb ⟨rfl, hbb⟩
            clear hs2 a0 a1 a2 a3
            have hwb7 := hwa7.trans (hbb.mono hwa7.size)
            have kd1 := kd.below hwb7 kd.lt
            have a0 := kd1.cell 0
            have a1 := kd1.cell 1
            have a2 := kd1.cell 2
            have a3 := kd1.cell 3
            simp only [List.getElem?_toArray, List.getElem?_cons_zero, List.getElem?_cons_succ] at a0 a1 a2 a3
            have ld := kd1.lt
            have hs3 := HC.out.2.2.1 wb hwb7
            go_wp2_with fail
            refine hs3.mono ?_
            rintro e wz ⟨rfl, hbz⟩
            clear hs3 a0 a1 a2 a3
            have hwz7 := hwb7.trans (hbz.mono hwb7.size)
            have kr1 := kr.below hwz7 kr.lt
            have a0 := kr1.cell 0
            have a1 := kr1.cell 1
            have a2 := kr1.cell 2
            have a3 := kr1.cell 3
            simp only [List.getElem?_toArray, List.getElem?_cons_zero, List.getElem?_cons_succ] at a0 a1 a2 a3
            have lr := kr1.lt
            have hs4 := HC.out.2.2.2 wz hwz7
            go_wp2_with fail
            refine hs4.mono ?_
            rintro e we ⟨rfl, hbe⟩
            have hwe7 := hwz7.trans (hbe.mono hwz7.size)
            go_wp2_with fail
            go_ret
            exact ⟨by first | rfl | simp, hw7.trans (hwe7.mono hw7.size)⟩

end Go.Proofs.Ytnndohdiiglgmaa.trees
