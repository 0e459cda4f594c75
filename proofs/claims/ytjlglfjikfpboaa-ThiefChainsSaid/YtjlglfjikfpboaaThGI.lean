/- loot's add: a term and all that it leads to; take: all pieces. -/
import Derived.Test.YtjlglfjikfpboaaThDF
import Derived.Deep.LoopGhost
import Derived.Maps.RangeWalk


namespace Go.Proofs.Ytjlglfjikfpboaa.thiefs
set_option linter.unusedVariables false
set_option linter.unusedSimpArgs false
open Go.RowKit Go.Proofs.Ytjlglfjikfpboaa.base Go.Proofs.Ytjlglfjikfpboaa.tm Go.Proofs.Ytjlglfjikfpboaa.lies Go.Proofs.Ytjlglfjikfpboaa.copies Go.Proofs.Ytjlglfjikfpboaa.reads Go.Proofs.Ytjlglfjikfpboaa.texts

/-- the maps' blocks -/
abbrev Zt (mk ma ms : Nat) (Z : Nat → Prop) : Nat → Prop := fun g => g = mk ∨ g = ma ∨ g = ms ∨ Z g
/-- at the loop's head: k rounds at most are to come -/
def AHead (w : World) (mk ma ms : Nat) (F Z : Nat → Prop) (P : List T) (k : Nat) (v : Value) (wr : World) : Prop :=
  ∃ (K : List Int) (A : List (List UInt8)) (S : Wt) (Z' : Nat → Prop) (D : List T) (Q : Option Addr) (c : Nat), Ok P K A S D ∧ lots D S = k ∧ v = .slice Q D.length c ∧ LAt wr mk ma ms F Z' K A S ∧ Keep (Zt mk ma ms Z) w wr ∧ (∀ g, Z' g → Z g ∨ w.heap.size + 2 ≤ g) ∧
    Trow wr F D (.slice Q D.length c) ∧ (∀ g, (Value.slice Q D.length c).ownBlock = some g → w.heap.size + 2 ≤ g ∧ ¬ Z' g) ∧ Blk wr w.heap.size 110 #[.map (some mk), .map (some ma), .map (some ms)]
/-- what add leaves -/
def APost (w : World) (mk ma ms : Nat) (F Z : Nat → Prop) (P : List T) (w' : World) : Prop :=
  ∃ (K : List Int) (A : List (List UInt8)) (S : Wt) (Z' : Nat → Prop), Ok P K A S [] ∧ LAt w' mk ma ms F Z' K A S ∧ Keep (Zt mk ma ms Z) w w' ∧ ∀ g, Z' g → Z g ∨ w.heap.size ≤ g
theorem one_row (w : World) (F : Nat → Prop) {t : T} {B : Option Addr} {c : Nat} (hT : TF w F t (.slice B t.l.length c)) (hF : ∀ g, F g → g < w.heap.size) :
    Trow (w.alloc (.cells #[.int .i64 t.k, .int .u64 t.n, .string t.s, .slice B t.l.length c] 39)) F [t] (.slice (some ⟨w.heap.size, 0, none⟩) 1 1) := by
  refine ⟨_, World.ownsRow_lit (base := 0) (e := 39) (size := 4) w #[.int .i64 t.k, .int .u64 t.n, .string t.s, .slice B t.l.length c] 1 (Nat.zero_le _) (by unfold maxLen; omega) rfl, ?_⟩
  exact ⟨.slice B t.l.length c, [], rfl, TF.agree (Agree.of_below (B := w.heap.size) ((Below.refl _ _).alloc (Nat.le_refl _) _) hF) _ _ hT, rfl⟩

set_option maxRecDepth 100000 in
set_option maxHeartbeats 400000 in
theorem add_ok (t : T) (B : Option Addr) (c : Nat) (mk ma ms : Nat) (F Z : Nat → Prop) (P : List T) (K : List Int) (A : List (List UInt8)) (S : Wt) (w : World) (h : LAt w mk ma ms F Z K A S) (hok : Ok P K A S [t]) (hT : TF w F t (.slice B t.l.length c)) (hP : sizeL P ≤ 500000) :
    Calls Try.prog 87 #[.agg #[.map (some mk), .map (some ma), .map (some ms)], .agg #[.int .i64 t.k, .int .u64 t.n, .string t.s, .slice B t.l.length c]] w fun e w' => e = .returned (.tuple #[]) ∧ APost w mk ma ms F Z P w' := by
  have x0 := (Blk.new w 110 #[.map (some mk), .map (some ma), .map (some ms)]).alloc (.cells #[.int .i64 t.k, .int .u64 t.n, .string t.s, .slice B t.l.length c] 39)
  have x1 := Blk.new (w.alloc (.cells #[.map (some mk), .map (some ma), .map (some ms)] 110)) 39 #[.int .i64 t.k, .int .u64 t.n, .string t.s, .slice B t.l.length c]
  simp only [World.size_alloc] at x1
  have b1 : Below w.heap.size w ((w.alloc (.cells #[.map (some mk), .map (some ma), .map (some ms)] 110)).alloc (.cells #[.int .i64 t.k, .int .u64 t.n, .string t.s, .slice B t.l.length c] 39)) := ((Below.refl _ _).alloc (Nat.le_refl _) _).alloc (by simp) _
  have hT1 := TF.agree (Agree.of_below b1 fun g hg => (h.f g hg).1) _ _ hT
  have hrow := one_row _ F hT1 (fun g hg => (((h.below b1).f g hg).1))
  simp only [World.size_alloc] at hrow
  have b2 := b1.alloc (o := .cells #[.int .i64 t.k, .int .u64 t.n, .string t.s, .slice B t.l.length c] 39) (by simp; omega)
  have h2 := h.below b2
  have x2 := x0.alloc (.cells #[.int .i64 t.k, .int .u64 t.n, .string t.s, .slice B t.l.length c] 39)
  have hZ : ∀ g, Z g → g < w.heap.size := fun g hg => (h.z g hg).1
  go_enter Try.func87, Try.ntmps87
  go_wp2_with fail
  go_loopg [4] (lots [t] S) (fun k v wr => AHead w mk ma ms F Z P k v wr)
  case atStart =>
    exact ⟨K, A, S, Z, [t], _, 1, hok, rfl, rfl, h2, Keep.of_below b2, fun g hg => .inl hg, hrow, fun g hg => by simp [Value.ownBlock] at hg; subst hg; exact ⟨by omega, fun hz => by have := hZ _ hz; omega⟩, x2⟩
  case round =>
    obtain ⟨K1, A1, S1, Z', D, Q, c', hok1, hk, rfl, hL1, hkp, hZ', hrow1, hown1, hx⟩ := hrel
    have y0 := hx.cell 0
    have y1 := hx.cell 1
    have y2 := hx.cell 2
    simp at y0 y1 y2
    have hcnt := hok1.cnt
    have hFw : ∀ g, F g → g < w.heap.size := fun g hg => (h.f g hg).1
    obtain ⟨l1, l2, l3⟩ := h.lt
    rcases List.eq_nil_or_concat D with rfl | ⟨D0, t1, rfl⟩
    · have HK := lies.lay hk
      clear hk
      have HR := lies.lay hrow1
      clear hrow1
      go_wp2_with fail
      refine bodyPost_end (v := .tuple #[]) (results_none rfl _ _ _) rfl ?_
      exact ⟨rfl, K1, A1, S1, Z', hok1, hL1, hkp, fun g hg => (hZ' g hg).imp id fun h => by omega⟩
    · have HK := lies.lay hk
      clear hk
      rw [List.concat_eq_append] at *
      have hlD : D0.length + 1 ≤ 500000 := by
        have h3 : (D0 ++ [t1]).length ≤ lots (D0 ++ [t1]) S1 := Nat.le_trans (len_le_size _) (Nat.le_add_right _ _)
        simp only [List.length_append, List.length_singleton] at h3
        omega
      obtain ⟨Q', c2, xs, e0, q1, _, q3, q4⟩ := hrow1.rd
      injection e0 with e1 _ e2
      subst e1; subst e2
      obtain ⟨tb, off, B1, c1, rfl, hb1, hT2, z0, z1, z2, z3⟩ := tf_cells q3 q4 (j := D0.length) (by simp)
      have hel : (D0 ++ [t1])[D0.length]'(by simp) = t1 := by simp
      rw [hel] at hT2 z0 z1 z2 z3
      clear hel
      have HC1 := lies.lay (And.intro hcnt (And.intro hFw (And.intro q3 q4)))
      have HC2 := lies.lay (And.intro hrow1 (And.intro hown1 (And.intro hZ' hkp)))
      clear hcnt hFw q3 q4 hrow1 hown1 hZ' hkp
      rw [show (D0 ++ [t1]).length = D0.length + 1 by simp]
      have e7 : wrap64 (D0.length : Int) = (D0.length : Int) := IntWalk.wrap64_in _ (by omega)
      go_wp2_with fail
      obtain ⟨hcnt, hFw, q3, q4⟩ := HC1.out
      obtain ⟨hrow1, hown1, hZ', hkp⟩ := HC2.out
      have hcut0 := hrow1.cut (by simp)
      have hstep := hok1.step
      obtain ⟨htb1, htb2⟩ := hown1 tb rfl
      have htblt : tb < wr.heap.size := hrow1.lt tb rfl
      have hTsz : sizeL (atL S1 t1.n) + t1.l.length ≤ 1000000 := by
        have h3 := (atL_del hok1.upS t1.n (fun p => sizeL p.2) rfl).1
        have h4 : lots (D0 ++ [t1]) S1 = sizeL D0 + (sizeL t1.l + 1) + (S1.map fun p => sizeL p.2).sum := by unfold lots; rw [sizeL_app, sizeL, sizeL, size_eq]
        have h5 := len_le_size t1.l
        try simp only [] at h3
        omega
      have hU : K1.length < maxLen ∧ A1.length < maxLen ∧ S1.length < maxLen := by unfold maxLen; omega
      clear hrow1 q4 q3
      have hAup := hok1.upA
      have hbW : Below wr.heap.size wr (wr.alloc (.cells #[.int .i64 t1.k, .int .u64 t1.n, .string t1.s, .slice B1 t1.l.length c1] 39)) := (Below.refl _ _).alloc (Nat.le_refl _) _
      have k9 := Blk.new wr 39 #[.int .i64 t1.k, .int .u64 t1.n, .string t1.s, .slice B1 t1.l.length c1]
      have y9 := hx.below hbW hx.lt
      have hget : ∀ u, Below (wr.alloc (.cells #[.int .i64 t1.k, .int .u64 t1.n, .string t1.s, .slice B1 t1.l.length c1] 39)).heap.size (wr.alloc (.cells #[.int .i64 t1.k, .int .u64 t1.n, .string t1.s, .slice B1 t1.l.length c1] 39)) u → Calls Try.prog 123 #[.agg #[.map (some mk), .map (some ma), .map (some ms)], .agg #[.int .i64 t1.k, .int .u64 t1.n, .string t1.s, .slice B1 t1.l.length c1]] u (GPost u mk ma ms F Z' (getP K1 A1 S1 t1)) := fun u hu => by
        have hbu := hbW.trans (hu.mono (by simp))
        exact get_ok t1 B1 c1 mk ma ms F Z' K1 A1 S1 u (hL1.below hbu) hAup (TF.agree (Agree.of_below hbu fun g hg => (hL1.f g hg).1) _ _ hT2) hU hTsz
      have hcut := hcut0.agree (Agree.of_below hbW fun g hg => (hL1.f g hg).1) (fun g hg => hbW.block g (by cases hg; exact htblt))
      have hWs : (wr.alloc (.cells #[.int .i64 t1.k, .int .u64 t1.n, .string t1.s, .slice B1 t1.l.length c1] 39)).heap.size = wr.heap.size + 1 := by simp
      have HC := lies.lay hcut
      have HG := lies.lay hget
      clear hcut hget hcut0
      generalize hrr : getP K1 A1 S1 t1 = r at hstep HG
      obtain ⟨K2, A2, S2, out⟩ := r
      have HS := lies.lay hstep
      clear hrr hstep
      generalize wr.alloc (.cells #[.int .i64 t1.k, .int .u64 t1.n, .string t1.s, .slice B1 t1.l.length c1] 39) = W at *
      have hdc : D0.length ≤ c' := by rw [List.length_append] at q1; omega
      have hcut := HC.out
      have hget := HG.out
      have hstep := HS.out
      simp only [] at hstep
      have hall : D0.length + out.length ≤ 1000000 := by
        have h3 := hstep.1.cnt
        have h4 : (D0 ++ out).length ≤ lots (D0 ++ out) S2 := Nat.le_trans (len_le_size _) (Nat.le_add_right _ _)
        rw [List.length_append] at h4
        try simp only [] at h3
        omega
      have w0 := y9.cell 0
      have w1 := y9.cell 1
      have w2 := y9.cell 2
      have t0 := k9.cell 0
      have t1x := k9.cell 1
      have t2 := k9.cell 2
      have t3 := k9.cell 3
      simp at w0 w1 w2 t0 t1x t2 t3
      have l5 := y9.lt
      have l6 := k9.lt
      have hwr := hkp.size
      have htb : w.heap.size + 2 ≤ tb ∧ ¬ Z' tb := ⟨htb1, htb2⟩
      have htbF : ¬ F tb := fun hF => by have := hFw tb hF; omega
      have hZx : ∀ g, Z' g → g < wr.heap.size ∧ g ≠ w.heap.size := fun g hg => ⟨(hL1.z g hg).1, fun e => by rcases hZ' g hg with h3 | h3 <;> first | omega | (have := hZ g h3; omega)⟩
      have hx9 : ¬ (Zt mk ma ms Z' w.heap.size ∨ w.heap.size = tb) := fun e => by
        rcases e with (e | e | e | e) | e
        · omega
        · omega
        · omega
        · exact (hZx _ e).2 rfl
        · omega
      have hx8 : ¬ (Zt mk ma ms Z' wr.heap.size ∨ wr.heap.size = tb) := fun e => by
        rcases e with (e | e | e | e) | e
        · omega
        · omega
        · omega
        · have := (hZx _ e).1; omega
        · omega
      have hfar : ∀ g, (F g ∨ g = tb) → g < W.heap.size ∧ ¬ Zt mk ma ms Z' g := fun g hg => by
        rcases hg with hg | rfl
        · exact ⟨by have := hFw g hg; omega, fun e => by rcases e with e | e | e | e; exact (hL1.f g hg).2.1 e; exact (hL1.f g hg).2.2.1 e; exact (hL1.f g hg).2.2.2.1 e; exact (hL1.f g hg).2.2.2.2 e⟩
        · exact ⟨by omega, fun e => by rcases e with e | e | e | e; omega; omega; omega; exact htb2 e⟩
      have hback : ∀ g, (Zt mk ma ms Z' g ∨ g = tb) → g < w.heap.size → Zt mk ma ms Z g := fun g hg hlt => by
        rcases hg with (e | e | e | e) | e
        · exact .inl e
        · exact .inr (.inl e)
        · exact .inr (.inr (.inl e))
        · rcases hZ' g e with h3 | h3
          · exact .inr (.inr (.inr h3))
          · omega
        · omega
      have hS1 : Below W.heap.size W W.drew := (Below.refl _ _).drew
      have hS0 : Keep (fun g => Zt mk ma ms Z' g ∨ g = tb) W W.drew := Keep.of_below hS1
      refine mix.region_D (fun w' => Keep (fun g => Zt mk ma ms Z' g ∨ g = tb) W w') (fun j => j == 7) (by kernel_rfl) ?_
      generalize W.drew = Wd at hS0 hS1 ⊢
      refine mix.D_take (i := 0) (v := ?_) rfl (by kernel_rfl) (by kernel_rfl) (fun _ _ _ h => h) (Or.inl ⟨by rfl, ?_⟩) hS0 ?_
      rotate_left
      · intro w' hSw
        have y0 := (hSw.cell (p := ⟨w.heap.size, 0, none⟩) l5 hx9).trans w0
        have y1 := (hSw.cell (p := ⟨w.heap.size, 1, none⟩) l5 hx9).trans w1
        have y2 := (hSw.cell (p := ⟨w.heap.size, 2, none⟩) l5 hx9).trans w2
        have y3 := (hSw.cell (p := ⟨wr.heap.size, 0, none⟩) l6 hx8).trans t0
        have y4 := (hSw.cell (p := ⟨wr.heap.size, 1, none⟩) l6 hx8).trans t1x
        have y5 := (hSw.cell (p := ⟨wr.heap.size, 2, none⟩) l6 hx8).trans t2
        have y6 := (hSw.cell (p := ⟨wr.heap.size, 3, none⟩) l6 hx8).trans t3
        try simp only [List.getElem_toArray, List.getElem_cons_zero, List.getElem_cons_succ]
        go_simp
        exact rfl
      try simp only [Act.put, List.setIfInBounds_toArray, List.set_cons_zero, List.set_cons_succ, List.getElem_toArray, List.getElem_cons_zero, List.getElem_cons_succ]
      refine mix.D_take (i := 1) (v := ?_) rfl (by kernel_rfl) (by kernel_rfl) (fun _ _ _ h => h) (Or.inl ⟨by rfl, ?_⟩) hS0 ?_
      rotate_left
      · intro w' hSw
        have y0 := (hSw.cell (p := ⟨w.heap.size, 0, none⟩) l5 hx9).trans w0
        have y1 := (hSw.cell (p := ⟨w.heap.size, 1, none⟩) l5 hx9).trans w1
        have y2 := (hSw.cell (p := ⟨w.heap.size, 2, none⟩) l5 hx9).trans w2
        have y3 := (hSw.cell (p := ⟨wr.heap.size, 0, none⟩) l6 hx8).trans t0
        have y4 := (hSw.cell (p := ⟨wr.heap.size, 1, none⟩) l6 hx8).trans t1x
        have y5 := (hSw.cell (p := ⟨wr.heap.size, 2, none⟩) l6 hx8).trans t2
        have y6 := (hSw.cell (p := ⟨wr.heap.size, 3, none⟩) l6 hx8).trans t3
        try simp only [List.getElem_toArray, List.getElem_cons_zero, List.getElem_cons_succ]
        go_simp
        exact rfl
      try simp only [Act.put, List.setIfInBounds_toArray, List.set_cons_zero, List.set_cons_succ, List.getElem_toArray, List.getElem_cons_zero, List.getElem_cons_succ]
      refine mix.D_take (i := 2) (v := ?_) rfl (by kernel_rfl) (by kernel_rfl) (fun _ _ _ h => h) (Or.inl ⟨by rfl, ?_⟩) hS0 ?_
      rotate_left
      · intro w' hSw
        have y0 := (hSw.cell (p := ⟨w.heap.size, 0, none⟩) l5 hx9).trans w0
        have y1 := (hSw.cell (p := ⟨w.heap.size, 1, none⟩) l5 hx9).trans w1
        have y2 := (hSw.cell (p := ⟨w.heap.size, 2, none⟩) l5 hx9).trans w2
        have y3 := (hSw.cell (p := ⟨wr.heap.size, 0, none⟩) l6 hx8).trans t0
        have y4 := (hSw.cell (p := ⟨wr.heap.size, 1, none⟩) l6 hx8).trans t1x
        have y5 := (hSw.cell (p := ⟨wr.heap.size, 2, none⟩) l6 hx8).trans t2
        have y6 := (hSw.cell (p := ⟨wr.heap.size, 3, none⟩) l6 hx8).trans t3
        try simp only [List.getElem_toArray, List.getElem_cons_zero, List.getElem_cons_succ]
        go_simp
        exact rfl
      try simp only [Act.put, List.setIfInBounds_toArray, List.set_cons_zero, List.set_cons_succ, List.getElem_toArray, List.getElem_cons_zero, List.getElem_cons_succ]
      refine mix.D_take (i := 3) (v := ?_) rfl (by kernel_rfl) (by kernel_rfl) (fun _ _ _ h => h) (Or.inl ⟨by rfl, ?_⟩) hS0 ?_
      rotate_left
      · intro w' hSw
        have y0 := (hSw.cell (p := ⟨w.heap.size, 0, none⟩) l5 hx9).trans w0
        have y1 := (hSw.cell (p := ⟨w.heap.size, 1, none⟩) l5 hx9).trans w1
        have y2 := (hSw.cell (p := ⟨w.heap.size, 2, none⟩) l5 hx9).trans w2
        have y3 := (hSw.cell (p := ⟨wr.heap.size, 0, none⟩) l6 hx8).trans t0
        have y4 := (hSw.cell (p := ⟨wr.heap.size, 1, none⟩) l6 hx8).trans t1x
        have y5 := (hSw.cell (p := ⟨wr.heap.size, 2, none⟩) l6 hx8).trans t2
        have y6 := (hSw.cell (p := ⟨wr.heap.size, 3, none⟩) l6 hx8).trans t3
        try simp only [List.getElem_toArray, List.getElem_cons_zero, List.getElem_cons_succ]
        go_simp
        exact rfl
      try simp only [Act.put, List.setIfInBounds_toArray, List.set_cons_zero, List.set_cons_succ, List.getElem_toArray, List.getElem_cons_zero, List.getElem_cons_succ]
      refine mix.D_take (i := 4) (v := ?_) rfl (by kernel_rfl) (by kernel_rfl) (fun _ _ _ h => h) (Or.inl ⟨by rfl, ?_⟩) hS0 ?_
      rotate_left
      · intro w' hSw
        have y0 := (hSw.cell (p := ⟨w.heap.size, 0, none⟩) l5 hx9).trans w0
        have y1 := (hSw.cell (p := ⟨w.heap.size, 1, none⟩) l5 hx9).trans w1
        have y2 := (hSw.cell (p := ⟨w.heap.size, 2, none⟩) l5 hx9).trans w2
        have y3 := (hSw.cell (p := ⟨wr.heap.size, 0, none⟩) l6 hx8).trans t0
        have y4 := (hSw.cell (p := ⟨wr.heap.size, 1, none⟩) l6 hx8).trans t1x
        have y5 := (hSw.cell (p := ⟨wr.heap.size, 2, none⟩) l6 hx8).trans t2
        have y6 := (hSw.cell (p := ⟨wr.heap.size, 3, none⟩) l6 hx8).trans t3
        try simp only [List.getElem_toArray, List.getElem_cons_zero, List.getElem_cons_succ]
        go_simp
        exact rfl
      try simp only [Act.put, List.setIfInBounds_toArray, List.set_cons_zero, List.set_cons_succ, List.getElem_toArray, List.getElem_cons_zero, List.getElem_cons_succ]
      refine mix.D_op (k := 5) rfl rfl (by kernel_rfl) (fun K' hK => ?_)
      simp only [List.getElem_toArray, List.getElem_cons_zero, List.getElem_cons_succ]
      go_wp2_with fail
      refine (hget Wd hS1).mono ?_
      rintro e wb1 ⟨Q5, c5, ys5, Z5, rfl, hL5, hk5, hZ5, hc5, hR5, hT5⟩
      have hb1 : Keep (fun g => Zt mk ma ms Z' g ∨ g = tb) W wb1 := (Keep.of_below hS1).trans hk5 (fun g hg _ => .inl hg)
      simp only [] at hL5 hc5 hR5 hT5
      refine hK.out _ _ (fun _ => hb1) ?_
      clear hK K'
      try simp only [Act.put, List.setIfInBounds_toArray, List.set_cons_zero, List.set_cons_succ]
      refine mix.D_op (k := 6) rfl rfl (by kernel_rfl) (fun K' hK => ?_)
      simp only [List.getElem_toArray, List.getElem_cons_zero, List.getElem_cons_succ]
      have hag5 : Agree W wb1 (fun g => F g ∨ g = tb) := ((Keep.of_below hS1).trans hk5 (fun g hg _ => hg)).agree hfar
      refine wp_terms _ _ rfl (F := F) (H := fun g => F g ∨ Z' g) (l := D0) (m := out) (hcut.agree (hag5.mono fun g hg => .inl hg) (fun g hg => hag5 g (.inr (by cases hg; rfl)))) rfl hR5 hT5 hc5 rfl hall (fun g hg hF => htbF (by cases hg; exact hF)) (fun g hg => (hL5.f g hg).1) ?_
      intro v9 wb2 ho9 hk9 hat9
      have hb2 : Keep (fun g => Zt mk ma ms Z' g ∨ g = tb) W wb2 := hb1.trans hk9 (fun g hg _ => .inr (by cases hg; rfl))
      obtain ⟨A9, c9, xs9, rfl, _, _, _, _⟩ := ho9.rd
      refine hK.out _ _ (fun _ => hb2) ?_
      clear hK K'
      try simp only [Act.put, List.setIfInBounds_toArray, List.set_cons_zero, List.set_cons_succ]
      refine mix.D_op (k := 7) rfl rfl (by kernel_rfl) (fun K' hK => ?_)
      simp only [List.getElem_toArray, List.getElem_cons_zero, List.getElem_cons_succ]
      go_wp2_with fail
      refine hK.out _ _ (fun h => by simp at h) ?_
      clear hK K'
      refine mix.D_done (by kernel_rfl) ?_ _
      go_wp2_with fail
      go_roundg (lots (D0 ++ out) S2)
      case measure => have := HK.out; have := hstep.2; omega
      case rel =>
        have hkW : Keep (Zt mk ma ms Z) w wb2 := (hkp.trans (Keep.of_below (S := Zt mk ma ms Z) hbW) (fun g hg _ => hg)).trans hb2 (fun g hg hlt => hback g hg hlt)
        have hk9' : Keep (fun g => g = tb) wb1 wb2 := hk9.mono fun g hg _ => by cases hg; rfl
        have hs5 := hk5.size
        have hsd := hS1.size
        have hs9 := hk9.size
        have htb5 : ¬ Z5 tb := fun h5 => (hZ5 tb h5).elim htb.2 (fun h6 => by omega)
        refine ⟨K2, A2, S2, Z5, D0 ++ out, A9, c9, hstep.1, rfl, rfl, hL5.keep hk9' (fun e => by omega) (fun e => by omega) (fun e => by omega) (fun g hg e => htbF (e ▸ hg)) (fun g hg e => htb5 (e ▸ hg)), hkW, fun g hg => ?_, ho9, fun g hg => ?_, hb2.blk y9 (fun e => hx9 e)⟩
        · rcases hZ5 g hg with h5 | h5
          · exact hZ' g h5
          · exact .inr (by omega)
        · rcases hat9 g hg with h5 | h5
          · cases h5; exact ⟨htb.1, htb5⟩
          · exact ⟨by omega, fun h6 => by have := (hL5.z g h6).1; omega⟩

end Go.Proofs.Ytjlglfjikfpboaa.thiefs

/- thief's take: what can be got at from pieces. -/

namespace Go.Proofs.Ytjlglfjikfpboaa.thiefs
set_option linter.unusedVariables false
set_option linter.unusedSimpArgs false
open Go.RowKit Go.Proofs.Ytjlglfjikfpboaa.base Go.Proofs.Ytjlglfjikfpboaa.tm Go.Proofs.Ytjlglfjikfpboaa.lies Go.Proofs.Ytjlglfjikfpboaa.copies Go.Proofs.Ytjlglfjikfpboaa.reads Go.Proofs.Ytjlglfjikfpboaa.texts

/-- a slice of texts that lies below block B -/
def Ts (w : World) (B : Nat) (l : List ByteArray) (A : Option Addr) (c : Nat) : Prop := l.length ≤ c ∧ l.length * 16 ≤ 140737488355328 ∧ (A = none → c = 0) ∧ Rd w B A (sts l) ∧ ∀ x ∈ l, x.size ≤ maxLen
section
variable {w w' : World} {B B' : Nat} {l : List ByteArray} {A : Option Addr} {c : Nat}
theorem Ts.below (h : Ts w B l A c) (hb : Below B w w') : Ts w' B l A c := ⟨h.1, h.2.1, h.2.2.1, h.2.2.2.1.below hb, h.2.2.2.2⟩
theorem Ts.more (h : Ts w B l A c) (hB : B ≤ B') : Ts w B' l A c := ⟨h.1, h.2.1, h.2.2.1, h.2.2.2.1.more hB, h.2.2.2.2⟩
theorem Ts.now (h : Ts w w.heap.size l A c) (hb : Below w.heap.size w w') : Ts w' w'.heap.size l A c := (h.below hb).more hb.size
theorem Ts.nil (w : World) (B : Nat) : Ts w B [] none 0 := ⟨Nat.le_refl _, by simp, fun _ => rfl, Rd.nil _ _ _, fun x h => by cases h⟩
theorem Ts.at_ (h : Ts w B l A c) {j : Nat} (hj : j < l.length) : ∃ b off, A = some ⟨b, off, none⟩ ∧ b < B ∧ w.cell? ⟨b, off + j, none⟩ = some (.string l[j]) := by
  obtain ⟨b, off, e, hb, hc⟩ := h.2.2.2.1.at_ (k := j) (by simpa [sts] using hj)
  exact ⟨b, off, e, hb, by simpa [sts] using hc⟩
end
/-- the terms that pieces are -/
abbrev pcs (l : List ByteArray) : List T := l.map pieceT
theorem pcs_size : ∀ l : List ByteArray, sizeL (pcs l) ≤ 4000 * l.length
  | [] => by simp [sizeL]
  | s :: l => by
    rw [pcs, List.map_cons, sizeL, List.length_cons]
    have := pcs_size l
    have := (piece_facts s).1
    unfold pcs at *
    omega
theorem keep_set (w : World) (a : Addr) (u : Value) : Keep (fun g => g = a.block) w (w.setCell a u) := ⟨rfl, rfl, rfl, by simp [World.setCell], fun k _ hn => Below.heap_setCell _ _ _ _ hn⟩
theorem keep_three (w : World) (g : Nat) (a b c : Value) : Keep (fun k => k = g) w (((w.setCell ⟨g, 0, none⟩ a).setCell ⟨g, 1, none⟩ b).setCell ⟨g, 2, none⟩ c) :=
  ((keep_set w ⟨g, 0, none⟩ a).trans (keep_set _ ⟨g, 1, none⟩ b) (fun k hk _ => hk)).trans (keep_set _ ⟨g, 2, none⟩ c) (fun k hk _ => hk)
/-- at the loop's head -/
def KHead (w : World) (l : List ByteArray) (i : Value) (wr : World) : Prop :=
  ∃ (j : Nat) (K : List Int) (A : List (List UInt8)) (S : Wt) (F Z : Nat → Prop), j ≤ l.length ∧ i = .int .i64 (j : Int) ∧ Ok (pcs (l.take j)) K A S [] ∧ LAt wr (w.heap.size + 1) (w.heap.size + 1 + 1) (w.heap.size + 1 + 1 + 1) F Z K A S ∧ Below w.heap.size w wr ∧ (∀ g, F g → w.heap.size + 5 ≤ g) ∧ (∀ g, Z g → w.heap.size + 5 ≤ g) ∧
    Blk wr w.heap.size 110 #[.map none, .map none, .map none] ∧ Blk wr (w.heap.size + 1 + 1 + 1 + 1) 110 #[.map (some (w.heap.size + 1)), .map (some (w.heap.size + 1 + 1)), .map (some (w.heap.size + 1 + 1 + 1))]
/-- what take leaves -/
def KPost (w : World) (l : List ByteArray) (e : Ending) (w' : World) : Prop :=
  ∃ (mk ma ms : Nat) (K : List Int) (A : List (List UInt8)) (S : Wt) (F Z : Nat → Prop), e = .returned (.agg #[.map (some mk), .map (some ma), .map (some ms)]) ∧ Below w.heap.size w w' ∧ Loot (pcs l) K A (S.map fun p => p.2.length).sum ∧ Ok (pcs l) K A S [] ∧ LAt w' mk ma ms F Z K A S

set_option maxRecDepth 100000 in
set_option maxHeartbeats 400000 in
theorem take_ok (l : List ByteArray) (A0 : Option Addr) (c0 : Nat) (w : World) (hT : Ts w w.heap.size l A0 c0) (hl : l.length ≤ 125) :
    Calls Try.prog 54 #[.slice A0 l.length c0] w (KPost w l) := by
  have hb0 : Below w.heap.size w (((((w.alloc (.cells #[.map none, .map none, .map none] 110)).alloc (.map #[] 0)).alloc (.map #[] 0)).alloc (.map #[] 0)).alloc (.cells #[.map (some (w.heap.size + 1)), .map (some (w.heap.size + 1 + 1)), .map (some (w.heap.size + 1 + 1 + 1))] 110)) := (((((Below.refl _ w).alloc (Nat.le_refl _) _).alloc (by simp) _).alloc (by simp; omega) _).alloc (by simp; omega) _).alloc (by simp; omega) _
  have x0 := ((((Blk.new w 110 #[.map none, .map none, .map none]).alloc (.map #[] 0)).alloc (.map #[] 0)).alloc (.map #[] 0)).alloc (.cells #[.map (some (w.heap.size + 1)), .map (some (w.heap.size + 1 + 1)), .map (some (w.heap.size + 1 + 1 + 1))] 110)
  have x4 := Blk.new ((((w.alloc (.cells #[.map none, .map none, .map none] 110)).alloc (.map #[] 0)).alloc (.map #[] 0)).alloc (.map #[] 0)) 110 #[.map (some (w.heap.size + 1)), .map (some (w.heap.size + 1 + 1)), .map (some (w.heap.size + 1 + 1 + 1))]
  have hk := ((((World.ownsMap_made (w.alloc (.cells #[.map none, .map none, .map none] 110)) Try.prog 36 (unitElem (H := Value))).alloc (.map #[] 0)).alloc (.map #[] 0)).alloc (.cells #[.map (some (w.heap.size + 1)), .map (some (w.heap.size + 1 + 1)), .map (some (w.heap.size + 1 + 1 + 1))] 110))
  have ha := (((World.ownsMap_made ((w.alloc (.cells #[.map none, .map none, .map none] 110)).alloc (.map #[] 0)) Try.prog 9 (unitElem (H := Value))).alloc (.map #[] 0)).alloc (.cells #[.map (some (w.heap.size + 1)), .map (some (w.heap.size + 1 + 1)), .map (some (w.heap.size + 1 + 1 + 1))] 110))
  have hs := (World.ownsMap_made (((w.alloc (.cells #[.map none, .map none, .map none] 110)).alloc (.map #[] 0)).alloc (.map #[] 0)) Try.prog 36 RS).alloc (.cells #[.map (some (w.heap.size + 1)), .map (some (w.heap.size + 1 + 1)), .map (some (w.heap.size + 1 + 1 + 1))] 110)
  simp only [World.size_alloc] at x4 hk ha hs
  have hlo : l.length ≤ 140737488355328 := by omega
  have hmm := @run_makeMap Try.prog
  go_enter Try.func54, Try.ntmps54
  go_wp2_with fail
  go_loopw [12] (fun i wr => KHead w l i wr) (fun i _ => l.length - (intOf i).toNat)
  case atStart =>
    exact ⟨0, [], [], [], fun _ => False, fun _ => False, Nat.zero_le _, rfl, Ok.start, ⟨hk, ha, ⟨[], rfl, hs, (fun e he => by cases he), fun e he => by cases he⟩, ⟨by omega, by omega, by omega⟩, fun g hg => hg.elim, fun g hg => hg.elim⟩, hb0, fun g hg => hg.elim, fun g hg => hg.elim, x0, x4⟩
  case round =>
    obtain ⟨j, K, A, S, F, Z, hj, rfl, hokr, hLr, hbw, hFw, hZw, hx, hy⟩ := hrel
    by_cases hlt : j < l.length
    · obtain ⟨b, off, rfl, hbk, e0⟩ := (hT.below hbw).at_ hlt
      have hsz := hT.2.2.2.2 _ (List.getElem_mem hlt)
      have hPs : sizeL (pcs (l.take j) ++ [pieceT l[j]]) ≤ 500000 := by
        rw [sizeL_app, sizeL, sizeL]
        have h1 := pcs_size (l.take j)
        have h2 := (piece_facts l[j]).1
        rw [List.length_take] at h1
        omega
      have HOKR := lies.lay hokr
      clear hokr
      generalize hsj : l[j] = s at *
      have HSJ := lies.lay hsj
      clear hsj
      have v0 := hy.cell 0
      have v1 := hy.cell 1
      have v2 := hy.cell 2
      simp at v0 v1 v2
      go_wp2_with fail
      have hokr := HOKR.out
      have hsj := HSJ.out
      have hS0 : Below wr.heap.size wr wr.drew := (Below.refl _ _).drew
      refine mix.region_D (fun w' => Below wr.heap.size wr w') (fun j => j == 3) (by kernel_rfl) ?_
      generalize wr.drew = wrd at hS0 ⊢
      refine mix.D_takeT (i := 0) (v := ?_) rfl (by kernel_rfl) (by kernel_rfl) (fun _ _ _ h => h) (Or.inl ⟨by rfl, ?_⟩) hS0 ?_
      rotate_left
      · intro w' hSw
        have y0 := (hSw.cell (p := ⟨w.heap.size + 1 + 1 + 1 + 1, 0, none⟩) hy.lt).trans v0
        have y1 := (hSw.cell (p := ⟨w.heap.size + 1 + 1 + 1 + 1, 1, none⟩) hy.lt).trans v1
        have y2 := (hSw.cell (p := ⟨w.heap.size + 1 + 1 + 1 + 1, 2, none⟩) hy.lt).trans v2
        try simp only [List.getElem_toArray, List.getElem_cons_zero, List.getElem_cons_succ]
        go_simp
        exact rfl
      try simp only [Act.put, List.setIfInBounds_toArray, List.set_cons_zero, List.set_cons_succ, List.getElem_toArray, List.getElem_cons_zero, List.getElem_cons_succ]
      refine mix.D_takeT (i := 1) (v := ?_) rfl (by kernel_rfl) (by kernel_rfl) (fun _ _ _ h => h) (Or.inl ⟨by rfl, ?_⟩) hS0 ?_
      rotate_left
      · intro w' hSw
        have y0 := (hSw.cell (p := ⟨w.heap.size + 1 + 1 + 1 + 1, 0, none⟩) hy.lt).trans v0
        have y1 := (hSw.cell (p := ⟨w.heap.size + 1 + 1 + 1 + 1, 1, none⟩) hy.lt).trans v1
        have y2 := (hSw.cell (p := ⟨w.heap.size + 1 + 1 + 1 + 1, 2, none⟩) hy.lt).trans v2
        try simp only [List.getElem_toArray, List.getElem_cons_zero, List.getElem_cons_succ]
        go_simp
        exact rfl
      try simp only [Act.put, List.setIfInBounds_toArray, List.set_cons_zero, List.set_cons_succ, List.getElem_toArray, List.getElem_cons_zero, List.getElem_cons_succ]
      refine mix.D_op (k := 2) rfl rfl (by kernel_rfl) (fun K' hK => ?_)
      simp only [List.getElem_toArray, List.getElem_cons_zero, List.getElem_cons_succ]
      go_wp2_with fail
      refine (read_any s wrd hsz).mono ?_
      rintro e wb1 ⟨hs1, B5, c5, rfl, hT5⟩
      have hb1 : Below wr.heap.size wr wb1 := hS0.trans (hs1.mono hS0.size)
      refine hK.out _ _ (fun _ => hb1) ?_
      clear hK K'
      try simp only [Act.put, List.setIfInBounds_toArray, List.set_cons_zero, List.set_cons_succ]
      refine mix.D_op (k := 3) rfl rfl (by kernel_rfl) (fun K' hK => ?_)
      simp only [List.getElem_toArray, List.getElem_cons_zero, List.getElem_cons_succ]
      go_wp2_with fail
      have hbr : Below wr.heap.size wr wb1 := hb1
      obtain ⟨hl1, hl2, hl3⟩ := hLr.lt
      have hylt := hy.lt
      have hL5 := (hLr.below hbr).more (G := fun g => F g ∨ New wrd wb1 g) (fun g hg => .inl hg) (fun g hg => hg.imp id fun h6 => ⟨h6.2, by have := h6.1; have := hS0.size; omega, by have := h6.1; have := hS0.size; omega, by have := h6.1; have := hS0.size; omega, fun hz => by have := (hLr.z g hz).1; have := h6.1; have := hS0.size; omega⟩)
      refine (add_ok (pieceT s) B5 c5 _ _ _ _ _ (pcs (l.take j) ++ [pieceT s]) _ _ _ _ hL5 (hokr.piece (piece_facts s).2) (TF.mono (fun g hg => .inr hg) _ _ hT5) hPs).mono ?_
      rintro e w7 ⟨rfl, K7, A7, S7, Z7, hok7, hL7, hk7, hZ7⟩
      refine hK.out _ _ (fun h => by simp at h) ?_
      clear hK K'
      refine mix.D_done (by kernel_rfl) ?_ _
      have hs5 := hbr.size
      have hb7 : Below w.heap.size w w7 := (hbw.trans (hbr.mono hbw.size)).trans (hk7.below (fun g hg => by rcases hg with e | e | e | e <;> first | omega | (have := hZw g e; omega)) (by have := hbw.size; omega))
      have hn0 : ¬ Zt (w.heap.size + 1) (w.heap.size + 1 + 1) (w.heap.size + 1 + 1 + 1) Z w.heap.size := fun e => by rcases e with e | e | e | e <;> first | omega | (have := hZw _ e; omega)
      have hn4 : ¬ Zt (w.heap.size + 1) (w.heap.size + 1 + 1) (w.heap.size + 1 + 1 + 1) Z (w.heap.size + 1 + 1 + 1 + 1) := fun e => by rcases e with e | e | e | e <;> first | omega | (have := hZw _ e; omega)
      have hx7 := hk7.blk (hx.below hbr hx.lt) hn0
      have hy7 := hk7.blk (hy.below hbr hy.lt) hn4
      have HOK := lies.lay hok7
      clear hok7 hPs
      have e7 : IntKind.i64.wrap ((j : Int) + 1) = (j : Int) + 1 := IntWalk.i64_in _ (by omega)
      have HF7 : ∀ g, (F g ∨ New wrd wb1 g) → w.heap.size + 5 ≤ g := fun g hg => by
        rcases hg with hg | hg
        · exact hFw g hg
        · have := hg.1; have := hS0.size; omega
      have HZ7 : ∀ g, Z7 g → w.heap.size + 5 ≤ g := fun g hg => by
        rcases hZ7 g hg with hg | hg
        · exact hZw g hg
        · omega
      go_wp2_with fail
      go_roundw
      case rel => exact ⟨j + 1, K7, A7, S7, _, Z7, by omega, by simp, by rw [List.take_add_one, List.getElem?_eq_getElem hlt, hsj]; simpa using HOK.out, hL7, hb7, HF7, HZ7, hx7, hy7⟩
      case measure => simp [intOf]; omega
    · have hje : j = l.length := by omega
      subst hje
      have v0 := hy.cell 0
      have v1 := hy.cell 1
      have v2 := hy.cell 2
      simp at v0 v1 v2
      have r0 := hx.cell 0
      have r1 := hx.cell 1
      have r2 := hx.cell 2
      simp at r0 r1 r2
      have f0 := hx.frozen 0
      have f1 := hx.frozen 1
      have f2 := hx.frozen 2
      have hlw := hx.lt
      rw [List.take_length] at hokr
      have HOKR := lies.lay hokr
      clear hokr
      go_wp2_with fail
      refine bodyPost_ret (v := .agg #[.map (some (w.heap.size + 1)), .map (some (w.heap.size + 1 + 1)), .map (some (w.heap.size + 1 + 1 + 1))]) (by simp [results, Try.results54, go_sem, r0, r1, r2, hlw]) rfl ?_
      have hk3 := keep_three wr w.heap.size (.map (some (w.heap.size + 1))) (.map (some (w.heap.size + 1 + 1))) (.map (some (w.heap.size + 1 + 1 + 1)))
      have hok := HOKR.out
      exact ⟨_, _, _, K, A, S, F, Z, rfl, hbw.trans (hk3.below (fun g hg => by omega) hbw.size), hok.inv.done, hok, hLr.keep hk3 (by omega) (by omega) (by omega) (fun g hg e => by have := hFw g hg; omega) (fun g hg e => by have := hZw g hg; omega)⟩

end Go.Proofs.Ytjlglfjikfpboaa.thiefs

/- thief's Shut, Has. -/

namespace Go.Proofs.Ytjlglfjikfpboaa.thiefs
set_option linter.unusedVariables false
set_option linter.unusedSimpArgs false
open Go.RowKit Go.Proofs.Ytjlglfjikfpboaa.base Go.Proofs.Ytjlglfjikfpboaa.tm Go.Proofs.Ytjlglfjikfpboaa.lies Go.Proofs.Ytjlglfjikfpboaa.copies Go.Proofs.Ytjlglfjikfpboaa.reads Go.Proofs.Ytjlglfjikfpboaa.texts

theorem f_loot (a b c : Value) (u : World) : (Instr.field 110 (.agg #[a, b, c]) 0).run Try.prog u = .ok a u ∧ (Instr.field 110 (.agg #[a, b, c]) 1).run Try.prog u = .ok b u ∧ (Instr.field 110 (.agg #[a, b, c]) 2).run Try.prog u = .ok c u := ⟨by kernel_rfl, by kernel_rfl, by kernel_rfl⟩
/-- how many terms wait under keys that are left -/
def leftN (left : Lit → Bool) (es : List ES) : Nat := ((es.filter fun e => left (.int .u64 e.n)).map fun e => e.l.length).sum
theorem leftN_step {left : Lit → Bool} {es : List ES} (hu : Up ES.n es) {e : ES} (he : e ∈ es) (hl : left (.int .u64 e.n) = true) : leftN left es = e.l.length + leftN (fun z => left z && !z.sameKey (.int .u64 e.n)) es := by
  unfold leftN
  rw [delBy_sum (key := ES.n) (fun e => e.l.length) (List.Pairwise.filter _ hu) (List.mem_filter.2 ⟨he, by simpa using hl⟩)]
  congr 3
  unfold delBy
  rw [List.filter_filter]
  refine List.filter_congr fun x _ => ?_
  dsimp only
  rw [same_u]
  by_cases h : x.n = e.n <;> simp [h, Bool.and_comm]
theorem leftN_none {left : Lit → Bool} (h : ∀ z, left z = false) (es : List ES) : leftN left es = 0 := by
  unfold leftN
  rw [List.filter_eq_nil_iff.2 (fun e _ => by simp [h])]; rfl
theorem leftN_all {es : List ES} : leftN (Maps.has (DB ES.n heldD es)) es = (es.map fun e => e.l.length).sum := by
  unfold leftN
  rw [List.filter_eq_self.2]
  intro e he
  rw [DB_has]
  unfold lkBy
  rw [List.find?_isSome]
  exact ⟨e, he, by simp⟩
theorem up_map {es : List ES} (h : Up p1 (es.map pS)) : Up ES.n es := (List.pairwise_map (R := fun x y => p1 x < p1 y) (f := pS)).1 h
theorem sum_map (es : List ES) : ((es.map pS).map fun p => p.2.length).sum = (es.map fun e => e.l.length).sum := by rw [List.map_map]; rfl
theorem leftN_le (left : Lit → Bool) : ∀ es : List ES, leftN left es ≤ (es.map fun e => e.l.length).sum
  | [] => Nat.le_refl _
  | e :: r => by
    have := leftN_le left r
    unfold leftN at this ⊢
    rw [List.filter_cons, List.map_cons, List.sum_cons]
    split
    · rw [List.map_cons, List.sum_cons]; omega
    · omega
/-- at the loop's head -/
def SHead (w1 : World) (ms N : Nat) (es : List ES) (u : Value) (wr : World) : Prop :=
  ∃ (left : Lit → Bool) (cnt n : Nat), wr.ranges Try.prog 36 RS ms w1.heap.size es.length (DB ES.n heldD es) left cnt ∧ u = .int .i64 (n : Int) ∧ Below w1.heap.size w1 wr ∧ Hid (n + leftN left es = N)

set_option maxRecDepth 100000 in
set_option maxHeartbeats 2000000 in
theorem shut_ok (l : List ByteArray) (A0 : Option Addr) (c0 : Nat) (w : World) (hT : Ts w w.heap.size l A0 c0) (hl : l.length ≤ 125) :
    Calls Try.prog 17 #[.slice A0 l.length c0] w fun e w' => ∃ (K : List Int) (A : List (List UInt8)) (m : Nat), e = .returned (.int .i64 (m : Int)) ∧ m ≤ 500000 ∧ Loot (pcs l) K A m ∧ Below w.heap.size w w' := by
  have hf := f_loot
  go_enter Try.func17, Try.ntmps17
  go_wp2_with fail
  refine (take_ok l A0 c0 w hT hl).mono ?_
  rintro e w1 ⟨mk, ma, ms, K, A, S, F, Z, rfl, hb, hL, hok, hA⟩
  obtain ⟨es, rfl, hS⟩ := hA.s
  have hown := hS.1
  have hf2 := fun u => (f_loot (.map (some mk)) (.map (some ma)) (.map (some ms)) u).2.2
  have hup := up_map hok.upS
  rw [sum_map] at hL
  have hN : (es.map fun e => e.l.length).sum ≤ 500000 := by
    have h1 := hok.cnt
    have h2 := pcs_size l
    have h3 : (es.map fun e => e.l.length).sum ≤ ((es.map pS).map fun p => sizeL p.2).sum := by
      clear hf2 hL hok hA hS hown h1 hup
      induction es with
      | nil => exact Nat.le_refl _
      | cons e r ih =>
        have := len_le_size e.l
        simp only [List.map_cons, List.sum_cons]
        show e.l.length + _ ≤ sizeL e.l + _
        omega
    unfold lots at h1
    omega
  have HOK := lies.lay hok
  have HN := lies.lay hN
  clear hok hN hf
  go_wp2_with (first | (at_range; refine wpList_range_own _ rfl _ 108 rfl 36 25 kU Try.underlying108 RS ms _ (DB ES.n heldD es) rfl hown ?_; intro w0 hrg0 hg0 hs0))
  go_frame
  have hb0 : Below w1.heap.size w1 w0 := ⟨hg0.os, hg0.tape, hg0.output, hg0.size, fun k hk => hg0.block k hk (by simp)⟩
  go_loopw [3] (fun u wr => SHead w1 ms (es.map fun e => e.l.length).sum es u wr) (fun _ wr => wr.rangeLeft ms w1.heap.size)
  case atStart => exact ⟨_, _, 0, hrg0, rfl, hb0, lies.lay (by rw [leftN_all]; omega)⟩
  case round =>
    obtain ⟨left, cnt, n, hrg, rfl, hbr, hH⟩ := hrel
    go_wp2_with (first | (at_next; refine wpList_next_ranges _ rfl _ rfl 36 kU RS (Value.int .u64) (fun v : Value => v) (fun key kl hk => by obtain ⟨x, rfl, _⟩ := Maps.keyOf_int_inv Try.underlying36 hk; exact ⟨x, rfl⟩) (fun v _ _ => ⟨v, rfl⟩) ms w1.heap.size _ _ _ _ rfl hrg ?_ ?_))
    · skip
      intro hc0 hl0
      have hn : n = (es.map fun e => e.l.length).sum := by have := hH.out; rw [leftN_none hl0] at this; omega
      have HNN := lies.lay hn
      clear hn
      go_wp2_with fail
      go_ret
      exact ⟨K, A, n, rfl, by rw [HNN.out]; exact HN.out, by rw [HNN.out]; exact hL, hb.trans (hbr.mono hb.size)⟩
    · skip
      intro x v kl y1 y2 w2 cnt' hkey hlk hv hat hrg2 hlt hg2 hs2 hen
      obtain ⟨x', ex, rfl, _⟩ := Maps.keyOf_int_inv Try.underlying36 hkey
      injection ex with _ ex
      subst ex
      have hat2 := hat (.agg [])
      rw [DB_at] at hat2
      obtain ⟨e, he, hxe, rfl⟩ : ∃ e ∈ es, e.n = x ∧ v = e.v := by
        cases hlb : lkBy ES.n es x with
        | none =>
          rw [hlb] at hat2
          subst hat2
          unfold RS at hv
          split at hv <;> cases hv
        | some e =>
          rw [hlb] at hat2
          subst hat2
          exact ⟨e, (lkBy_some hlb).1, (lkBy_some hlb).2, RS_inv hv⟩
      subst hxe
      have hst := leftN_step hup he hlk
      have hle := leftN_le left es
      have hsum := hH.out
      have hN2 := HN.out
      have e7 : IntKind.i64.wrap ((n : Int) + (e.l.length : Int)) = ((n + e.l.length : Nat) : Int) := by rw [IntWalk.i64_in _ (by omega)]; omega
      have hH2 := lies.lay (show (n + e.l.length) + leftN (fun z => left z && !z.sameKey (.int .u64 e.n)) es = (es.map fun e => e.l.length).sum by omega)
      have HE7 := lies.lay e7
      clear hst hle hsum hN2 hat hat2 hv hkey hs2
      go_wp2_with fail
      have hb2 : Below w1.heap.size w1 w2 := hbr.grown hg2 hbr.size (fun k e => by injection e with e; omega)
      refine ⟨⟨_, cnt', n + e.l.length, hrg2, ?_, hb2, hH2⟩, by rw [hrg2.left_eq, hrg.left_eq]; omega⟩
      have := HE7.out
      first | rfl | (simp only [] at *; congr 1; done) | skip
      all_goals trace_state

set_option maxRecDepth 100000 in
set_option maxHeartbeats 2000000 in
theorem has_ok (s : ByteArray) (l : List ByteArray) (A0 : Option Addr) (c0 : Nat) (w : World) (hT : Ts w w.heap.size l A0 c0) (hl : l.length ≤ 125) (hs : s.size ≤ maxLen) :
    Calls Try.prog 18 #[.string s, .slice A0 l.length c0] w fun e w' => ∃ (K : List Int) (A : List (List UInt8)) (m : Nat), e = .returned (.bool (decide (bn s ∈ A))) ∧ Loot (pcs l) K A m ∧ Below w.heap.size w w' := by
  go_enter Try.func18, Try.ntmps18
  go_wp2_with fail
  refine (take_ok l A0 c0 w hT hl).mono ?_
  rintro e w1 ⟨mk, ma, ms, K, A, S, F, Z, rfl, hb, hL, hok, hA⟩
  have ha1 := hA.a
  have hf1 := fun u => (f_loot (.map (some mk)) (.map (some ma)) (.map (some ms)) u).2.1
  have HOK := lies.lay hok
  clear hok
  generalize hd : decide (bn s ∈ A) = d at *
  have HD := lies.lay hd
  clear hd
  go_wp2_with (first | (at_lookup; refine wp_hasT _ rfl _ _ rfl rfl ha1 rfl hs ?_; rw [HD.out]) | go_in)
  go_ret
  exact ⟨K, A, _, (by show Ending.returned (.bool d) = _; rw [HD.out]), hL, hb.trans (((Below.refl _ _).alloc (Nat.le_refl _) _).mono hb.size)⟩

end Go.Proofs.Ytjlglfjikfpboaa.thiefs
