/- The document's own open. -/
import Derived.Test.YtjlglfjikfpboaaThQ


namespace Go.Proofs.Ytjlglfjikfpboaa.thiefs
set_option linter.unusedVariables false
set_option linter.unusedSimpArgs false
open Go.RowKit Go.Shelf Go.Lib Go.Proofs.Ytjlglfjikfpboaa.base Go.Proofs.Ytjlglfjikfpboaa.tm Go.Proofs.Ytjlglfjikfpboaa.lies Go.Proofs.Ytjlglfjikfpboaa.copies Go.Proofs.Ytjlglfjikfpboaa.reads Go.Proofs.Ytjlglfjikfpboaa.texts

theorem Ok2.opened {P : List T} {K : List Int} {A : List (List UInt8)} {D R : List T} {t x : T} (h : Ok2 P K A (D ++ t :: R)) (hk : t.k = 4) (hn : t.n ∈ K) (hl : t.l = [x]) : Ok2 P K A (D ++ x :: R) ∧ sizeL (D ++ x :: R) < sizeL (D ++ t :: R) := by
  obtain ⟨b1, b2, b3⟩ := bx_mid h.bx
  have hc := h.cnt
  have h1 := h.inv.opened hk hn
  have h2 := (bxT.list b2).2
  have hs : sizeL (D ++ x :: R) < sizeL (D ++ t :: R) := by
    rw [size_mid (t := t), hl]
    simp only [sizeL_app, sizeL]
    omega
  rw [hl] at h1 h2
  exact ⟨⟨h1, h.upK, h.upA, bxL_app.2 ⟨b1, h2.1, b3⟩, by omega⟩, hs⟩
theorem row_onet (w : World) {F : Nat → Prop} {t : T} {B : Option Addr} {c : Nat} (hT : TF w F t (.slice B t.l.length c)) (hF : ∀ g, F g → g < w.heap.size) :
    RdF (w.alloc (.cells #[.int .i64 t.k, .int .u64 t.n, .string t.s, .slice B t.l.length c] 39)) (fun g => g = w.heap.size) (some ⟨w.heap.size, 0, none⟩) (T.cells t (.slice B t.l.length c)) ∧
    TLF (w.alloc (.cells #[.int .i64 t.k, .int .u64 t.n, .string t.s, .slice B t.l.length c] 39)) F [t] (T.cells t (.slice B t.l.length c)) := by
  cases t; exact row_one w hT hF
/-- at the loop's head -/
def OHead (w : World) (F : Nat → Prop) (P : List T) (D : List T) (K0 : List Int) (v0 v1 v2 : Value) (s i : Value) (wr : World) : Prop :=
  ∃ (j : Nat) (K : List Int) (A : List (List UInt8)) (N : List T) (u0 u1 u2 : Value) (sb : Bool), j ≤ D.length ∧ i = .int .i64 (j : Int) ∧ s = .bool sb ∧ RAt wr F K A N u0 u1 u2 ∧ Hid (Ok2 P K A (N ++ D.drop j)) ∧ Bx N ∧ Hid (sb = false → N = D.take j ∧ K = K0 ∧ ∀ b ∈ N, b.n ∉ K0) ∧ Hid (sb = true → sizeL (N ++ D.drop j) < sizeL D) ∧ Hid (sizeL (N ++ D.drop j) ≤ sizeL D) ∧ Below w.heap.size w wr ∧
    (∀ g, ob u2 g → w.heap.size + 2 ≤ g) ∧ (∀ g, (ob u0 g ∨ ob u1 g ∨ ob u2 g) → (ob v0 g ∨ ob v1 g) ∨ w.heap.size + 2 ≤ g) ∧ Blk wr w.heap.size 27 #[u0, u1, u2] ∧ Blk wr (w.heap.size + 1) 27 #[.slice none 0 0, .slice none 0 0, .slice none 0 0]
/-- what open leaves -/
def OpPost (w : World) (F : Nat → Prop) (P D : List T) (v0 v1 v2 : Value) (e : Ending) (w' : World) : Prop :=
  ∃ (K : List Int) (A : List (List UInt8)) (N : List T) (u0 u1 u2 : Value) (sb : Bool), e = .returned (.tuple #[.agg #[u0, u1, u2], .bool sb]) ∧ RAt w' F K A N u0 u1 u2 ∧ Ok2 P K A N ∧ Bx N ∧ (sb = true → sizeL N < sizeL D) ∧ (sb = false → ∀ b ∈ N, b.n ∉ K) ∧ Below w.heap.size w w' ∧ ∀ g, (ob u0 g ∨ ob u1 g ∨ ob u2 g) → (ob v0 g ∨ ob v1 g ∨ ob v2 g) ∨ w.heap.size ≤ g

set_option maxRecDepth 100000 in
set_option maxHeartbeats 1000000 in
theorem refOpen_any (F : Nat → Prop) (P : List T) (K0 : List Int) (A0 : List (List UInt8)) (D : List T) (v0 v1 v2 : Value) (w : World) (hR : RAt w F K0 A0 D v0 v1 v2) (hBx0 : Bx D) (hok : Ok2 P K0 A0 D) (hP : sizeL P ≤ 500000) :
    Calls Try.prog 51 #[.agg #[v0, v1, v2]] w (OpPost w F P D v0 v1 v2) := by
  have hlow := hR.lt
  obtain ⟨Q0, n0, c0, e0⟩ := ints_shape hR.k
  obtain ⟨Q1, n1, c1', e1⟩ := txt_shape hR.a
  obtain ⟨Q2, c2', xs, e2, hdc, hdn, hdr, hdl⟩ := hR.d.rd
  have hv2 := hR.d
  subst e0; subst e1; subst e2
  have hDl : D.length ≤ 1000000 := by have := len_le_size D; have := hok.cnt; omega
  have x0 := (Blk.new w 27 #[(.slice Q0 n0 c0), (.slice Q1 n1 c1'), .slice none 0 0]).alloc (.cells #[.slice none 0 0, .slice none 0 0, .slice none 0 0] 27)
  have x1 := Blk.new (w.alloc (.cells #[(.slice Q0 n0 c0), (.slice Q1 n1 c1'), .slice none 0 0] 27)) 27 #[.slice none 0 0, .slice none 0 0, .slice none 0 0]
  simp only [World.size_alloc] at x1
  have b1 : Below w.heap.size w ((w.alloc (.cells #[(.slice Q0 n0 c0), (.slice Q1 n1 c1'), .slice none 0 0] 27)).alloc (.cells #[.slice none 0 0, .slice none 0 0, .slice none 0 0] 27)) := ((Below.refl _ _).alloc (Nat.le_refl _) _).alloc (by simp) _
  have HOK := lies.lay hok
  clear hok
  go_enter Try.func51, Try.ntmps51
  go_wp2_with fail
  go_loopw [5, 13] (fun s i wr => OHead w F P D K0 (.slice Q0 n0 c0) (.slice Q1 n1 c1') (.slice Q2 D.length c2') s i wr) (fun _ i _ => D.length - (intOf i).toNat)
  case atStart =>
    have hR1 := hR.below b1
    exact ⟨0, K0, A0, [], _, _, _, false, Nat.zero_le _, rfl, rfl, ⟨hR1.k, hR1.a, Trow.nil _ _, (fun g hg => by cases hg), fun g hg => by rcases hg with hg | hg | hg | hg; exact hR1.lt g (.inl hg); exact hR1.lt g (.inr (.inl hg)); cases hg; exact hR1.lt g (.inr (.inr (.inr hg)))⟩, lies.lay HOK.out, (fun x hx => by cases hx), lies.lay (fun _ => ⟨rfl, rfl, fun b hb => by cases hb⟩), lies.lay (fun h => by cases h), lies.lay (Nat.le_refl _), b1, (fun g hg => by cases hg), (fun g hg => by rcases hg with hg | hg | hg; exact .inl (.inl hg); exact .inl (.inr hg); cases hg), x0, x1⟩
  case round =>
    obtain ⟨j, K, A, N, u0, u1, u2, sb, hj, rfl, rfl, hRr, HO, hBx, HF, HT, HLE, hbw, ho2r, hobr, hyr, hzr⟩ := hrel
    obtain ⟨R0, m0, d0, e0⟩ := ints_shape hRr.k
    obtain ⟨R1, m1, d1, e1⟩ := txt_shape hRr.a
    obtain ⟨R2, m2, d2, e2⟩ := trow_shape hRr.d
    subst e0; subst e1; subst e2
    have y0 := hyr.cell 0
    have y1 := hyr.cell 1
    have y2 := hyr.cell 2
    simp at y0 y1 y2
    have fy0 := hyr.frozen 0
    have fy1 := hyr.frozen 1
    have fy2 := hyr.frozen 2
    have ly := hyr.lt
    by_cases hlt : j < D.length
    · have hagF : Agree w wr F := Agree.of_below hbw fun g hg => hlow g (.inr (.inr (.inr hg)))
      have hag2 : Agree w wr (fun g => (Value.slice Q2 D.length c2').ownBlock = some g) := Agree.of_below hbw fun g hg => hlow g (.inr (.inr (.inl hg)))
      have hdrop : D.drop j = D[j] :: D.drop (j + 1) := List.drop_eq_getElem_cons hlt
      have hbk : D[j].k = 4 := hBx0 _ (List.getElem_mem hlt)
      have htake : D.take (j + 1) = D.take j ++ [D[j]] := by rw [List.take_add_one, List.getElem?_eq_getElem hlt]; rfl
      have HT1 := lies.lay htake
      rw [hdrop] at HO HT HLE
      clear hdrop htake
      obtain ⟨bb, bo, B1, c1, rfl, hbb, hTb, z0, z1, z2, z3⟩ := tf_cells (hdr.agree hag2) (TLF.agree hagF _ _ hdl) hlt
      generalize D[j] = b at *
      have HBK := lies.lay hbk
      clear hbk
      have bA := (Below.refl wr.heap.size wr).alloc (Nat.le_refl _) (.cells #[.int .i64 b.k, .int .u64 b.n, .string b.s, .slice B1 b.l.length c1] 39)
      have hRA := hRr.below bA
      have hyA := hyr.below bA hyr.lt
      have hzA := hzr.below bA hzr.lt
      have hcA := Blk.new wr 39 #[.int .i64 b.k, .int .u64 b.n, .string b.s, .slice B1 b.l.length c1]
      have nyw : ¬ ob (.slice R2 m2 d2) w.heap.size := fun e => by have := ho2r _ e; omega
      have nzw : ¬ ob (.slice R2 m2 d2) (w.heap.size + 1) := fun e => by have := ho2r _ e; omega
      have hhk := hasKey_any (.slice R0 m0 d0) K b.n _ hRA.k
      by_cases hin : b.n ∈ K
      · rw [decide_eq_true hin] at hhk
        have hone : b.l.length = 1 := (bxT.list (bx_mid HO.out.bx).2.1).1 HBK.out
        obtain ⟨x, hxl0⟩ : ∃ x, b.l = [x] := List.length_eq_one_iff.1 hone
        obtain ⟨hokx, hszx⟩ := HO.out.opened HBK.out hin hxl0
        obtain ⟨Bq, cq, ys, eq, _, _, _, hlc, _, hrb, hlb⟩ := hTb.open_
        injection eq with eq1 _ eq2
        subst eq1; subst eq2
        rw [hxl0] at hlb
        obtain ⟨xb, xo, B2, c2, rfl, hFx, hTx0, x0', x1', x2', x3'⟩ := tf_cells hrb hlb (j := 0) (by simp)
        simp only [List.getElem_cons_zero, Nat.zero_mul, Nat.add_zero] at hTx0 x0' x1' x2' x3'
        have hxw : xb < wr.heap.size := World.block_lt_of_cell? wr _ x0'
        have hTx := TF.agree (Agree.of_below bA fun g hg => hRr.lt g (.inr (.inr (.inr hg)))) _ _ hTx0
        have HOX := lies.lay (And.intro hokx hszx)
        have HX0 := lies.lay hxl0
        have HONE := lies.lay hone
        clear hone hokx hszx hxl0 hlb HO HF HT hag2 hagF
        go_wp2_with fail
        refine hhk.mono ?_
        rintro e w5 ⟨rfl, hw5⟩
        subst hw5
        have y0 := hyA.cell 0
        have y1 := hyA.cell 1
        have y2 := hyA.cell 2
        simp only [List.getElem?_toArray, List.getElem?_cons_zero, List.getElem?_cons_succ] at y0 y1 y2
        have bc3 := hcA.cell 3
        simp only [List.getElem?_toArray, List.getElem?_cons_zero, List.getElem?_cons_succ] at bc3
        have z0 := (bA.cell (p := ⟨xb, xo, none⟩) hxw).trans x0'
        have z1 := (bA.cell (p := ⟨xb, xo + 1, none⟩) hxw).trans x1'
        have z2 := (bA.cell (p := ⟨xb, xo + 2, none⟩) hxw).trans x2'
        have z3 := (bA.cell (p := ⟨xb, xo + 3, none⟩) hxw).trans x3'
        have hxl := Nat.lt_of_lt_of_le hxw bA.size
        have hpos : 0 < b.l.length := by rw [HONE.out]; omega
        go_wp2_with fail
        obtain ⟨hokx, hszx⟩ := HOX.out
        have hbA := bA
        generalize wr.alloc (.cells #[.int .i64 b.k, .int .u64 b.n, .string b.s, .slice (some ⟨xb, xo, none⟩) b.l.length c1] 39) = W at *
        have hS0 : Below W.heap.size W W.drew := (Below.refl _ _).drew
        refine mix.region_D (fun w' => Below W.heap.size W w') (fun j => j == 5 || j == 6) (by kernel_rfl) ?_
        generalize W.drew = Wd at hS0 ⊢
        refine mix.D_takeT (i := 0) (v := ?_) rfl (by kernel_rfl) (by kernel_rfl) (fun _ _ _ h => h) (Or.inl ⟨by rfl, ?_⟩) hS0 ?_
        rotate_left
        · intro w' hSw
          have y0 := (hSw.cell (p := ⟨w.heap.size, 0, none⟩) hyA.lt).trans y0
          have y1 := (hSw.cell (p := ⟨w.heap.size, 1, none⟩) hyA.lt).trans y1
          have y2 := (hSw.cell (p := ⟨w.heap.size, 2, none⟩) hyA.lt).trans y2
          have y3 := (hSw.cell (p := ⟨wr.heap.size, 3, none⟩) hcA.lt).trans bc3
          have y4 := (hSw.cell (p := ⟨xb, xo, none⟩) hxl).trans z0
          have y5 := (hSw.cell (p := ⟨xb, xo + 1, none⟩) hxl).trans z1
          have y6 := (hSw.cell (p := ⟨xb, xo + 2, none⟩) hxl).trans z2
          have y7 := (hSw.cell (p := ⟨xb, xo + 3, none⟩) hxl).trans z3
          try simp only [List.getElem_toArray, List.getElem_cons_zero, List.getElem_cons_succ]
          go_simp
          exact rfl
        try simp only [Act.put, List.setIfInBounds_toArray, List.set_cons_zero, List.set_cons_succ, List.getElem_toArray, List.getElem_cons_zero, List.getElem_cons_succ]
        refine mix.D_takeT (i := 1) (v := ?_) rfl (by kernel_rfl) (by kernel_rfl) (fun _ _ _ h => h) (Or.inl ⟨by rfl, ?_⟩) hS0 ?_
        rotate_left
        · intro w' hSw
          have y0 := (hSw.cell (p := ⟨w.heap.size, 0, none⟩) hyA.lt).trans y0
          have y1 := (hSw.cell (p := ⟨w.heap.size, 1, none⟩) hyA.lt).trans y1
          have y2 := (hSw.cell (p := ⟨w.heap.size, 2, none⟩) hyA.lt).trans y2
          have y3 := (hSw.cell (p := ⟨wr.heap.size, 3, none⟩) hcA.lt).trans bc3
          have y4 := (hSw.cell (p := ⟨xb, xo, none⟩) hxl).trans z0
          have y5 := (hSw.cell (p := ⟨xb, xo + 1, none⟩) hxl).trans z1
          have y6 := (hSw.cell (p := ⟨xb, xo + 2, none⟩) hxl).trans z2
          have y7 := (hSw.cell (p := ⟨xb, xo + 3, none⟩) hxl).trans z3
          try simp only [List.getElem_toArray, List.getElem_cons_zero, List.getElem_cons_succ]
          go_simp
          exact rfl
        try simp only [Act.put, List.setIfInBounds_toArray, List.set_cons_zero, List.set_cons_succ, List.getElem_toArray, List.getElem_cons_zero, List.getElem_cons_succ]
        refine mix.D_takeT (i := 2) (v := ?_) rfl (by kernel_rfl) (by kernel_rfl) (fun _ _ _ h => h) (Or.inl ⟨by rfl, ?_⟩) hS0 ?_
        rotate_left
        · intro w' hSw
          have y0 := (hSw.cell (p := ⟨w.heap.size, 0, none⟩) hyA.lt).trans y0
          have y1 := (hSw.cell (p := ⟨w.heap.size, 1, none⟩) hyA.lt).trans y1
          have y2 := (hSw.cell (p := ⟨w.heap.size, 2, none⟩) hyA.lt).trans y2
          have y3 := (hSw.cell (p := ⟨wr.heap.size, 3, none⟩) hcA.lt).trans bc3
          have y4 := (hSw.cell (p := ⟨xb, xo, none⟩) hxl).trans z0
          have y5 := (hSw.cell (p := ⟨xb, xo + 1, none⟩) hxl).trans z1
          have y6 := (hSw.cell (p := ⟨xb, xo + 2, none⟩) hxl).trans z2
          have y7 := (hSw.cell (p := ⟨xb, xo + 3, none⟩) hxl).trans z3
          try simp only [List.getElem_toArray, List.getElem_cons_zero, List.getElem_cons_succ]
          go_simp
          exact rfl
        try simp only [Act.put, List.setIfInBounds_toArray, List.set_cons_zero, List.set_cons_succ, List.getElem_toArray, List.getElem_cons_zero, List.getElem_cons_succ]
        refine mix.D_takeT (i := 3) (v := ?_) rfl (by kernel_rfl) (by kernel_rfl) (fun _ _ _ h => h) (Or.inl ⟨by rfl, ?_⟩) hS0 ?_
        rotate_left
        · intro w' hSw
          have y0 := (hSw.cell (p := ⟨w.heap.size, 0, none⟩) hyA.lt).trans y0
          have y1 := (hSw.cell (p := ⟨w.heap.size, 1, none⟩) hyA.lt).trans y1
          have y2 := (hSw.cell (p := ⟨w.heap.size, 2, none⟩) hyA.lt).trans y2
          have y3 := (hSw.cell (p := ⟨wr.heap.size, 3, none⟩) hcA.lt).trans bc3
          have y4 := (hSw.cell (p := ⟨xb, xo, none⟩) hxl).trans z0
          have y5 := (hSw.cell (p := ⟨xb, xo + 1, none⟩) hxl).trans z1
          have y6 := (hSw.cell (p := ⟨xb, xo + 2, none⟩) hxl).trans z2
          have y7 := (hSw.cell (p := ⟨xb, xo + 3, none⟩) hxl).trans z3
          try simp only [List.getElem_toArray, List.getElem_cons_zero, List.getElem_cons_succ]
          go_simp
          exact rfl
        try simp only [Act.put, List.setIfInBounds_toArray, List.set_cons_zero, List.set_cons_succ, List.getElem_toArray, List.getElem_cons_zero, List.getElem_cons_succ]
        refine mix.D_takeT (i := 4) (v := ?_) rfl (by kernel_rfl) (by kernel_rfl) (fun _ _ _ h => h) (Or.inl ⟨by rfl, ?_⟩) hS0 ?_
        rotate_left
        · intro w' hSw
          have y0 := (hSw.cell (p := ⟨w.heap.size, 0, none⟩) hyA.lt).trans y0
          have y1 := (hSw.cell (p := ⟨w.heap.size, 1, none⟩) hyA.lt).trans y1
          have y2 := (hSw.cell (p := ⟨w.heap.size, 2, none⟩) hyA.lt).trans y2
          have y3 := (hSw.cell (p := ⟨wr.heap.size, 3, none⟩) hcA.lt).trans bc3
          have y4 := (hSw.cell (p := ⟨xb, xo, none⟩) hxl).trans z0
          have y5 := (hSw.cell (p := ⟨xb, xo + 1, none⟩) hxl).trans z1
          have y6 := (hSw.cell (p := ⟨xb, xo + 2, none⟩) hxl).trans z2
          have y7 := (hSw.cell (p := ⟨xb, xo + 3, none⟩) hxl).trans z3
          try simp only [List.getElem_toArray, List.getElem_cons_zero, List.getElem_cons_succ]
          go_simp
          exact rfl
        try simp only [Act.put, List.setIfInBounds_toArray, List.set_cons_zero, List.set_cons_succ, List.getElem_toArray, List.getElem_cons_zero, List.getElem_cons_succ]
        refine mix.D_op (k := 5) rfl rfl (by kernel_rfl) (fun K' hK => ?_)
        simp only [List.getElem_toArray, List.getElem_cons_zero, List.getElem_cons_succ]
        go_wp2_with fail
        have hRw := hRA.below hS0
        refine (refTake_any x.size x B2 c2 F P (D.drop (j + 1)) K A N _ _ _ Wd (Nat.le_refl _) hRw hBx hokx hP (TF.agree (Agree.of_below hS0 fun g hg => hRA.lt g (.inr (.inr (.inr hg)))) _ _ hTx)).mono ?_
        rintro e w6 ⟨K6, A6, D6, q0, q1, q2, rfl, hR6, hok6, hBx6, hN6, hk6, ho6, hob6⟩
        obtain ⟨S0, k0, f0, e0⟩ := ints_shape hR6.k
        obtain ⟨S1, k1, f1, e1⟩ := txt_shape hR6.a
        obtain ⟨S2, k2', f2, e2⟩ := trow_shape hR6.d
        subst e0; subst e1; subst e2
        refine hK.out _ _ (fun h => by simp at h) ?_
        clear hK K'
        try simp only [Act.put, List.setIfInBounds_toArray, List.set_cons_zero, List.set_cons_succ]
        refine mix.D_op (k := 6) rfl rfl (by kernel_rfl) (fun K' hK => ?_)
        simp only [List.getElem_toArray, List.getElem_cons_zero, List.getElem_cons_succ]
        have hk5 := (Keep.of_below (S := ob (.slice R2 m2 d2)) hS0).trans hk6 (fun g hg _ => hg)
        have hy6 := hk6.blk (hyA.below hS0 hyA.lt) nyw
        have hz6 := hk6.blk (hzA.below hS0 hzA.lt) nzw
        have y0' := hy6.cell 0
        have y1' := hy6.cell 1
        have y2' := hy6.cell 2
        simp at y0' y1' y2'
        have gy0 := hy6.frozen 0
        have gy1 := hy6.frozen 1
        have gy2 := hy6.frozen 2
        have ly6 := hy6.lt
        go_wp2_with fail
        refine hK.out _ _ (fun h => by simp at h) ?_
        clear hK K'
        refine mix.D_done (by kernel_rfl) ?_ _
        have e7 : IntKind.i64.wrap ((j : Int) + 1) = (j : Int) + 1 := IntWalk.i64_in _ (by omega)
        have hk9 := keep_three w6 w.heap.size (.slice S0 k0 f0) (.slice S1 k1 f1) (.slice S2 k2' f2)
        have hwA := hbA.size
        have hwd := hS0.size
        have hzl := hzA.lt
        have hob9 : ∀ g, (ob (.slice S0 k0 f0) g ∨ ob (.slice S1 k1 f1) g ∨ ob (.slice S2 k2' f2) g) → (ob (.slice Q0 n0 c0) g ∨ ob (.slice Q1 n1 c1') g) ∨ w.heap.size + 2 ≤ g := fun g hg => by
          rcases hob6 g hg with h | h
          · exact hobr g h
          · exact .inr (by omega)
        have hbelow : Below w.heap.size w w6 := (hbw.trans (hbA.mono hbw.size)).trans (hk5.below (fun g hg => by have := ho2r g hg; omega) (by have := hbw.size; omega))
        have HOK := lies.lay hok6
        have HSZ := lies.lay (Nat.lt_of_le_of_lt hN6 hszx)
        clear hok6 hN6 hokx hszx
        go_wp2_with fail
        refine ⟨⟨j + 1, K6, A6, D6, _, _, _, true, hlt, by go_num, rfl, hR6.keep hk9 (fun g hg e => ?_), HOK, hBx6, lies.lay (fun h => by cases h), lies.lay (fun _ => Nat.lt_of_lt_of_le HSZ.out HLE.out), lies.lay (Nat.le_trans (Nat.le_of_lt HSZ.out) HLE.out), hbelow.trans (hk9.below (fun g hg => by omega) hbelow.size), fun g hg => ?_, hob9, blk_three hy6, (Below.heap_setCell _ _ _ _ (by simp)).trans ((Below.heap_setCell _ _ _ _ (by simp)).trans ((Below.heap_setCell _ _ _ _ (by simp)).trans hz6))⟩, by simp [intOf]; omega⟩
        · subst e
          rcases hg with hg | hg | hg | hg
          · rcases hob9 _ (.inl hg) with h | h
            · have := hlow _ (by rcases h with h | h; exact .inl h; exact .inr (.inl h)); omega
            · omega
          · rcases hob9 _ (.inr (.inl hg)) with h | h
            · have := hlow _ (by rcases h with h | h; exact .inl h; exact .inr (.inl h)); omega
            · omega
          · rcases hob9 _ (.inr (.inr hg)) with h | h
            · have := hlow _ (by rcases h with h | h; exact .inl h; exact .inr (.inl h)); omega
            · omega
          · have := hlow _ (.inr (.inr (.inr hg))); omega
        · rcases ho6 g hg with h | h
          · exact ho2r g h
          · omega

      · rw [decide_eq_false hin] at hhk
        have bA4 := (Below.refl (wr.alloc (.cells #[.int .i64 b.k, .int .u64 b.n, .string b.s, .slice B1 b.l.length c1] 39)).heap.size _).alloc (Nat.le_refl _) (.cells #[.int .i64 b.k, .int .u64 b.n, .string b.s, .slice B1 b.l.length c1] 39)
        have hTb4 := TF.agree (Agree.of_below bA fun g hg => hRr.lt g (.inr (.inr (.inr hg)))) _ _ hTb
        obtain ⟨hrow4, ht4⟩ := row_onet _ hTb4 (fun g hg => hRA.lt g (.inr (.inr (.inr hg))))
        have hR4 := hRA.below bA4
        have y9 := hyA.below bA4 hyA.lt
        have r9 := hzA.below bA4 hzA.lt
        have hd4 := hR4.d
        have hF4 : ∀ g, (Value.slice R2 m2 d2).ownBlock = some g → ¬ F g := fun g hg => (hRr.ne g hg).1
        have hFl4 : ∀ g, F g → g < _ := fun g hg => hR4.lt g (.inr (.inr (.inr hg)))
        have hNl : N.length ≤ 500000 := by
          have h1 := len_le_size N
          have h2 := HO.out.cnt
          rw [size_mid] at h2
          omega
        simp only [World.size_alloc] at hrow4
        go_wp2_with fail
        refine hhk.mono ?_
        rintro e w5 ⟨rfl, hw5⟩
        subst hw5
        have HI := lies.lay hin
        clear hin z0 z1 z2 z3
        go_wp2_with (at_builtin; refine wpList_plain rfl fun K' hK' => wp_terms _ _ rfl (F := F) (H := fun g => g = wr.heap.size + 1) (l := N) (m := [b]) hd4 rfl hrow4 ht4 (Nat.le_refl _) rfl (by simp; omega) hF4 hFl4 ?_; intro v9 w9 ho9 hk9 hat9; refine hK' _ _ ?_; obtain ⟨Q9, n9, c9, e9⟩ := trow_shape ho9; subst e9; have hy9 := hk9.blk y9 nyw; have hz9 := hk9.blk r9 nzw; have y0' := hy9.cell 0; have y1' := hy9.cell 1; have y2' := hy9.cell 2; simp at y0' y1' y2'; have gy0 := hy9.frozen 0; have gy1 := hy9.frozen 1; have gy2 := hy9.frozen 2; have ly9 := hy9.lt)
        have hsz9 := hk9.size
        have hsz4 := bA4.size
        have hszA := bA.size
        simp only [World.size_alloc] at hsz9 hsz4 hszA
        have hzl := hzr.lt
        have hne9 : ∀ g, ob (.slice Q9 n9 c9) g → ob (.slice R2 m2 d2) g ∨ wr.heap.size ≤ g := fun g hg => (hat9 g hg).imp id fun h => by have := h.1; simp only [World.size_alloc] at this; omega
        have hR9 : RAt w9 F K A (N ++ [b]) (.slice R0 m0 d0) (.slice R1 m1 d1) (.slice Q9 n9 c9) := by
          refine ⟨hR4.k.block fun g hg => hk9.block g (hR4.lt g (.inl hg)) (fun e => (hRr.ne g e).2.1 hg), txt_block hR4.a fun g hg => hk9.block g (hR4.lt g (.inr (.inl hg))) (fun e => (hRr.ne g e).2.2 hg), ho9, fun g hg => ?_, fun g hg => ?_⟩
          · rcases hne9 g hg with h | h
            · exact hRr.ne g h
            · exact ⟨fun e => by have := hRr.lt g (.inr (.inr (.inr e))); omega, fun e => by have := hRr.lt g (.inl e); omega, fun e => by have := hRr.lt g (.inr (.inl e)); omega⟩
          · rcases hg with hg | hg | hg | hg
            · have := hRr.lt g (.inl hg); omega
            · have := hRr.lt g (.inr (.inl hg)); omega
            · exact ho9.lt g hg
            · have := hRr.lt g (.inr (.inr (.inr hg))); omega
        have hks := keep_set w9 ⟨w.heap.size, 2, none⟩ (.slice Q9 n9 c9)
        have hbw9 : Below w.heap.size w w9 := ((hbw.trans (bA.mono hbw.size)).trans (bA4.mono (Nat.le_trans hbw.size bA.size))).trans (hk9.below (fun g hg => by have := ho2r g hg; omega) (Nat.le_trans (Nat.le_trans hbw.size bA.size) bA4.size))
        have hof : ∀ g, (ob (.slice R0 m0 d0) g ∨ ob (.slice R1 m1 d1) g ∨ ob (.slice Q9 n9 c9) g) → (ob (.slice Q0 n0 c0) g ∨ ob (.slice Q1 n1 c1') g) ∨ w.heap.size + 2 ≤ g := fun g hg => by
          rcases hg with hg | hg | hg
          · exact hobr g (.inl hg)
          · exact hobr g (.inr (.inl hg))
          · rcases hne9 g hg with h | h
            · exact .inr (ho2r g h)
            · exact .inr (by omega)
        refine ⟨⟨j + 1, K, A, N ++ [b], _, _, _, sb, hlt, by go_num, rfl, hR9.keep hks (fun g hg e => ?_), lies.lay HO.out.box, (fun x hx => by rcases List.mem_append.1 hx with h | h; exact hBx x h; (rw [List.mem_singleton] at h; subst h; exact HBK.out)), lies.lay (fun h => ?_), lies.lay (by rw [List.append_assoc]; exact HT.out), lies.lay (by rw [List.append_assoc]; exact HLE.out), hbw9.trans (hks.below (fun g hg => Nat.le_of_eq hg.symm) hbw9.size), fun g hg => ?_, hof, ?_, (Below.heap_setCell _ _ _ _ (by simp)).trans hz9⟩, by simp [intOf]; omega⟩
        · rcases hg with hg | hg | hg | hg
          · rcases hof g (.inl hg) with h | h
            · have := hlow g (by rcases h with h | h; exact .inl h; exact .inr (.inl h)); simp only at e; omega
            · simp only at e; omega
          · rcases hof g (.inr (.inl hg)) with h | h
            · have := hlow g (by rcases h with h | h; exact .inl h; exact .inr (.inl h)); simp only at e; omega
            · simp only at e; omega
          · rcases hof g (.inr (.inr hg)) with h | h
            · have := hlow g (by rcases h with h | h; exact .inl h; exact .inr (.inl h)); simp only at e; omega
            · simp only at e; omega
          · have := hlow g (.inr (.inr (.inr hg))); simp only at e; omega
        · obtain ⟨f1, f2, f3⟩ := HF.out h
          refine ⟨by rw [HT1.out, f1], f2, fun x hx => ?_⟩
          rcases List.mem_append.1 hx with h | h
          · exact f3 x h
          · rw [List.mem_singleton] at h
            subst h
            rw [← f2]; exact HI.out
        · rcases hne9 g hg with h | h
          · exact ho2r g h
          · omega
        · have := hy9.put 2 (.slice Q9 n9 c9)
          simpa using this
    · have hje : j = D.length := by omega
      subst hje
      rw [List.drop_length, List.append_nil] at HO HT
      have r0 := hzr.cell 0
      have r1 := hzr.cell 1
      have r2 := hzr.cell 2
      simp at r0 r1 r2
      have fr0 := hzr.frozen 0
      have fr1 := hzr.frozen 1
      have fr2 := hzr.frozen 2
      have lr := hzr.lt
      go_wp2_with fail
      refine bodyPost_ret (v := .tuple #[.agg #[.slice R0 m0 d0, .slice R1 m1 d1, .slice R2 m2 d2], .bool sb]) (by simp [results, Try.results51, go_sem, r0, r1, r2, y0, y1, y2, ly, lr]) rfl ?_
      have hk9 := keep_three wr (w.heap.size + 1) (.slice R0 m0 d0) (.slice R1 m1 d1) (.slice R2 m2 d2)
      refine ⟨K, A, N, _, _, _, sb, rfl, hRr.keep hk9 (fun g hg e => ?_), HO.out, hBx, HT.out, fun h => ?_, hbw.trans (hk9.below (fun g hg => by omega) hbw.size), fun g hg => ?_⟩
      · subst e
        rcases hg with hg | hg | hg | hg
        · rcases hobr _ (.inl hg) with h | h
          · have := hlow _ (by rcases h with h | h; exact .inl h; exact .inr (.inl h)); omega
          · omega
        · rcases hobr _ (.inr (.inl hg)) with h | h
          · have := hlow _ (by rcases h with h | h; exact .inl h; exact .inr (.inl h)); omega
          · omega
        · rcases hobr _ (.inr (.inr hg)) with h | h
          · have := hlow _ (by rcases h with h | h; exact .inl h; exact .inr (.inl h)); omega
          · omega
        · have := hlow _ (.inr (.inr (.inr hg))); omega
      · obtain ⟨f1, f2, f3⟩ := HF.out h
        rw [f2]; exact f3
      · rcases hobr g hg with h | h
        · rcases h with h | h
          · exact .inl (.inl h)
          · exact .inl (.inr (.inl h))
        · exact .inr (by omega)

end Go.Proofs.Ytjlglfjikfpboaa.thiefs
