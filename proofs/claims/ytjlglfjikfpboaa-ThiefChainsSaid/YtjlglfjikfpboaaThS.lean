/- The document's own From. -/
import Derived.Test.YtjlglfjikfpboaaThGI
import Derived.Test.YtjlglfjikfpboaaThR


namespace Go.Proofs.Ytjlglfjikfpboaa.thiefs
set_option linter.unusedVariables false
set_option linter.unusedSimpArgs false
open Go.RowKit Go.Shelf Go.Lib Go.Proofs.Ytjlglfjikfpboaa.base Go.Proofs.Ytjlglfjikfpboaa.tm Go.Proofs.Ytjlglfjikfpboaa.lies Go.Proofs.Ytjlglfjikfpboaa.copies Go.Proofs.Ytjlglfjikfpboaa.reads Go.Proofs.Ytjlglfjikfpboaa.texts

theorem Ok2.start : Ok2 [] [] [] [] := ⟨Inv.start, List.Pairwise.nil, List.Pairwise.nil, trivial, by simp [sizeL]⟩
theorem Ok2.piece {P : List T} {K : List Int} {A : List (List UInt8)} {D : List T} (h : Ok2 P K A D) {t : T} (hb : bxT t) : Ok2 (P ++ [t]) K A (D ++ [t]) := by
  refine ⟨h.inv.piece t, h.upK, h.upA, bxL_app.2 ⟨h.bx, hb, trivial⟩, ?_⟩
  have := h.cnt
  rw [sizeL_app, sizeL_app]
  omega
theorem RAt.more {w : World} {F G : Nat → Prop} {K : List Int} {A : List (List UInt8)} {D : List T} {v0 v1 v2 : Value} (h : RAt w F K A D v0 v1 v2) (hG : ∀ g, F g → G g) (h1 : ∀ g, G g → F g ∨ (g < w.heap.size ∧ ¬ ob v2 g)) : RAt w G K A D v0 v1 v2 := by
  refine ⟨h.k, h.a, h.d.mono hG, fun g hg => ⟨fun hgg => ?_, (h.ne g hg).2⟩, fun g hg => ?_⟩
  · rcases h1 g hgg with h2 | h2
    · exact (h.ne g hg).1 h2
    · exact h2.2 hg
  · rcases hg with hg | hg | hg | hg
    · exact h.lt g (.inl hg)
    · exact h.lt g (.inr (.inl hg))
    · exact h.lt g (.inr (.inr (.inl hg)))
    · rcases h1 g hg with h2 | h2
      · exact h.lt g (.inr (.inr (.inr h2)))
      · exact h2.1
/-- at the head of the loop over the pieces -/
def FHead (w : World) (l : List ByteArray) (i : Value) (wr : World) : Prop :=
  ∃ (j : Nat) (K : List Int) (A : List (List UInt8)) (D : List T) (u0 u1 u2 : Value) (F : Nat → Prop), j ≤ l.length ∧ i = .int .i64 (j : Int) ∧ Hid (Ok2 (pcs (l.take j)) K A D) ∧ RAt wr F K A D u0 u1 u2 ∧ Bx D ∧ Below w.heap.size w wr ∧ (∀ g, F g → w.heap.size + 2 ≤ g) ∧ (∀ g, (ob u0 g ∨ ob u1 g ∨ ob u2 g) → w.heap.size + 2 ≤ g) ∧
    Blk wr w.heap.size 27 #[.slice none 0 0, .slice none 0 0, .slice none 0 0] ∧ Blk wr (w.heap.size + 1) 27 #[u0, u1, u2]
/-- at the head of the loop that opens -/
def MHead (w : World) (P : List T) (m : Nat) (s : Value) (wr : World) : Prop :=
  ∃ (sb : Bool) (K : List Int) (A : List (List UInt8)) (D : List T) (u0 u1 u2 : Value) (F : Nat → Prop), s = .bool sb ∧ Hid (m = if sb then sizeL D + 1 else 0) ∧ Hid (Ok2 P K A D) ∧ RAt wr F K A D u0 u1 u2 ∧ Bx D ∧ Hid (sb = false → ∀ b ∈ D, b.n ∉ K) ∧ Below w.heap.size w wr ∧ (∀ g, F g → w.heap.size + 2 ≤ g) ∧ (∀ g, (ob u0 g ∨ ob u1 g ∨ ob u2 g) → w.heap.size + 2 ≤ g) ∧
    Blk wr w.heap.size 27 #[.slice none 0 0, .slice none 0 0, .slice none 0 0] ∧ Blk wr (w.heap.size + 1) 27 #[u0, u1, u2]
/-- what From leaves -/
def FrPost (w : World) (l : List ByteArray) (e : Ending) (w' : World) : Prop :=
  ∃ (K : List Int) (A : List (List UInt8)) (D : List T) (u0 u1 u2 : Value) (F : Nat → Prop), e = .returned (.agg #[u0, u1, u2]) ∧ Below w.heap.size w w' ∧ Loot (pcs l) K A D.length ∧ Ok2 (pcs l) K A D ∧ RAt w' F K A D u0 u1 u2

set_option maxRecDepth 100000 in
set_option maxHeartbeats 2000000 in
theorem from_ok (l : List ByteArray) (A0 : Option Addr) (c0 : Nat) (w : World) (hT : Ts w w.heap.size l A0 c0) (hl : l.length ≤ 125) :
    Calls Try.prog 12 #[.slice A0 l.length c0] w (FrPost w l) := by
  have hb0 : Below w.heap.size w ((w.alloc (.cells #[.slice none 0 0, .slice none 0 0, .slice none 0 0] 27)).alloc (.cells #[.slice none 0 0, .slice none 0 0, .slice none 0 0] 27)) := ((Below.refl _ w).alloc (Nat.le_refl _) _).alloc (by simp) _
  have x0 := (Blk.new w 27 #[.slice none 0 0, .slice none 0 0, .slice none 0 0]).alloc (.cells #[.slice none 0 0, .slice none 0 0, .slice none 0 0] 27)
  have x1 := Blk.new (w.alloc (.cells #[.slice none 0 0, .slice none 0 0, .slice none 0 0] 27)) 27 #[.slice none 0 0, .slice none 0 0, .slice none 0 0]
  simp only [World.size_alloc] at x1
  have hlo : l.length ≤ 140737488355328 := by omega
  have hPall : sizeL (pcs l) ≤ 500000 := by have := pcs_size l; omega
  go_enter Try.func12, Try.ntmps12
  go_wp2_with fail
  go_loopw [10] (fun i wr => FHead w l i wr) (fun i _ => l.length - (intOf i).toNat)
  case atStart =>
    exact ⟨0, [], [], [], _, _, _, fun _ => False, Nat.zero_le _, rfl, lies.lay Ok2.start, ⟨⟨none, 0, rfl, by simp, by simp, fun j u hj => by simp at hj⟩, ⟨none, 0, rfl, by simp, fun j hj => by simp at hj⟩, Trow.nil _ _, (fun g hg => by cases hg), fun g hg => by rcases hg with hg | hg | hg | hg <;> cases hg⟩, (fun t ht => by cases ht), hb0, (fun g hg => hg.elim), (fun g hg => by rcases hg with hg | hg | hg <;> cases hg), x0, x1⟩
  case round =>
    obtain ⟨j, K, A, D, u0, u1, u2, F, hj, rfl, HOKR, hRr, hBx, hbw, hFw, hown, hx, hy⟩ := hrel
    obtain ⟨R0, m0, d0, e0⟩ := ints_shape hRr.k
    obtain ⟨R1, m1, d1, e1⟩ := txt_shape hRr.a
    obtain ⟨R2, m2, d2, e2⟩ := trow_shape hRr.d
    subst e0; subst e1; subst e2
    have v0 := hy.cell 0
    have v1 := hy.cell 1
    have v2 := hy.cell 2
    simp at v0 v1 v2
    have fv0 := hy.frozen 0
    have fv1 := hy.frozen 1
    have fv2 := hy.frozen 2
    have ly := hy.lt
    by_cases hlt : j < l.length
    · obtain ⟨b, off, rfl, hbk, e0⟩ := (hT.below hbw).at_ hlt
      have hsz := hT.2.2.2.2 _ (List.getElem_mem hlt)
      have hPs : sizeL (pcs (l.take j) ++ [pieceT l[j]]) ≤ 500000 := by
        rw [sizeL_app, sizeL, sizeL]
        have h1 := pcs_size (l.take j)
        have h2 := (piece_facts l[j]).1
        rw [List.length_take] at h1
        omega
      generalize hsj : l[j] = s at *
      have HSJ := lies.lay hsj
      clear hsj
      go_wp2_with fail
      have hokr := HOKR.out
      have hsj := HSJ.out
      have hS0 : Below wr.heap.size wr wr.drew := (Below.refl _ _).drew
      refine mix.region_D (fun w' => Below wr.heap.size wr w') (fun j => j == 3 || j == 4) (by kernel_rfl) ?_
      generalize wr.drew = wrd at hS0 ⊢
      refine mix.D_takeT (i := 0) (v := ?_) rfl (by kernel_rfl) (by kernel_rfl) (fun _ _ _ h => h) (Or.inl ⟨by rfl, ?_⟩) hS0 ?_
      rotate_left
      · intro w' hSw
        have y0 := (hSw.cell (p := ⟨w.heap.size + 1, 0, none⟩) hy.lt).trans v0
        have y1 := (hSw.cell (p := ⟨w.heap.size + 1, 1, none⟩) hy.lt).trans v1
        have y2 := (hSw.cell (p := ⟨w.heap.size + 1, 2, none⟩) hy.lt).trans v2
        try simp only [List.getElem_toArray, List.getElem_cons_zero, List.getElem_cons_succ]
        go_simp
        exact rfl
      try simp only [Act.put, List.setIfInBounds_toArray, List.set_cons_zero, List.set_cons_succ, List.getElem_toArray, List.getElem_cons_zero, List.getElem_cons_succ]
      refine mix.D_takeT (i := 1) (v := ?_) rfl (by kernel_rfl) (by kernel_rfl) (fun _ _ _ h => h) (Or.inl ⟨by rfl, ?_⟩) hS0 ?_
      rotate_left
      · intro w' hSw
        have y0 := (hSw.cell (p := ⟨w.heap.size + 1, 0, none⟩) hy.lt).trans v0
        have y1 := (hSw.cell (p := ⟨w.heap.size + 1, 1, none⟩) hy.lt).trans v1
        have y2 := (hSw.cell (p := ⟨w.heap.size + 1, 2, none⟩) hy.lt).trans v2
        try simp only [List.getElem_toArray, List.getElem_cons_zero, List.getElem_cons_succ]
        go_simp
        exact rfl
      try simp only [Act.put, List.setIfInBounds_toArray, List.set_cons_zero, List.set_cons_succ, List.getElem_toArray, List.getElem_cons_zero, List.getElem_cons_succ]
      refine mix.D_op (k := 2) rfl rfl (by kernel_rfl) (fun K' hK => ?_)
      simp only [List.getElem_toArray, List.getElem_cons_zero, List.getElem_cons_succ]
      go_wp2_with fail
      refine (refPiece_any s wrd hsz).mono ?_
      rintro e wb1 ⟨hs1, B5, c5, rfl, hT5⟩
      have hb1 : Below wr.heap.size wr wb1 := hS0.trans (hs1.mono hS0.size)
      refine hK.out _ _ (fun _ => hb1) ?_
      clear hK K'
      try simp only [Act.put, List.setIfInBounds_toArray, List.set_cons_zero, List.set_cons_succ]
      refine mix.D_op (k := 3) rfl rfl (by kernel_rfl) (fun K' hK => ?_)
      simp only [List.getElem_toArray, List.getElem_cons_zero, List.getElem_cons_succ]
      go_wp2_with fail
      have hbr : Below wr.heap.size wr wb1 := hb1
      have hylt := hy.lt
      have hsd := hS0.size
      have hR5 := (hRr.below hbr).more (G := fun g => F g ∨ New wrd wb1 g) (fun g hg => .inl hg) (fun g hg => hg.imp id fun h6 => ⟨h6.2, fun e => by have := h6.1; have := hRr.lt g (.inr (.inr (.inl e))); omega⟩)
      refine (refTake_any (pieceT s).size (pieceT s) B5 c5 _ (pcs (l.take j) ++ [pieceT s]) [] K A D _ _ _ _ (Nat.le_refl _) hR5 hBx (hokr.piece (piece_facts s).2) hPs (TF.mono (fun g hg => .inr hg) _ _ hT5)).mono ?_
      rintro e w6 ⟨K6, A6, D6, q0, q1, q2, rfl, hR6, hok6, hBx6, hN6, hk6, ho6, hob6⟩
      rw [List.append_nil] at hok6
      obtain ⟨S0, k0, f0, e0⟩ := ints_shape hR6.k
      obtain ⟨S1, k1, f1, e1⟩ := txt_shape hR6.a
      obtain ⟨S2, k2', f2, e2⟩ := trow_shape hR6.d
      subst e0; subst e1; subst e2
      refine hK.out _ _ (fun h => by simp at h) ?_
      clear hK K'
      try simp only [Act.put, List.setIfInBounds_toArray, List.set_cons_zero, List.set_cons_succ]
      refine mix.D_op (k := 4) rfl rfl (by kernel_rfl) (fun K' hK => ?_)
      simp only [List.getElem_toArray, List.getElem_cons_zero, List.getElem_cons_succ]
      have hs5 := hbr.size
      have hnx : ¬ ob (.slice R2 m2 d2) w.heap.size := fun e => by have := hown _ (.inr (.inr e)); omega
      have hny : ¬ ob (.slice R2 m2 d2) (w.heap.size + 1) := fun e => by have := hown _ (.inr (.inr e)); omega
      have hx6 := hk6.blk (hx.below hbr hx.lt) hnx
      have hy6 := hk6.blk (hy.below hbr hy.lt) hny
      have y0' := hy6.cell 0
      have y1' := hy6.cell 1
      have y2' := hy6.cell 2
      simp at y0' y1' y2'
      have gy0 := hy6.frozen 0
      have gy1 := hy6.frozen 1
      have gy2 := hy6.frozen 2
      have ly6 := hy6.lt
      go_wp2_with fail
      refine hK.out _ _ (fun h => by simp at h) ?_
      clear hK K'
      refine mix.D_done (by kernel_rfl) ?_ _
      have hb6 : Below w.heap.size w w6 := (hbw.trans (hbr.mono hbw.size)).trans (hk6.below (fun g hg => by have := hown g (.inr (.inr hg)); omega) (by have := hbw.size; omega))
      have HOK := lies.lay hok6
      clear hok6 hPs
      have e7 : IntKind.i64.wrap ((j : Int) + 1) = (j : Int) + 1 := IntWalk.i64_in _ (by omega)
      have HF6 : ∀ g, (F g ∨ New wrd wb1 g) → w.heap.size + 2 ≤ g := fun g hg => by
        rcases hg with hg | hg
        · exact hFw g hg
        · have := hg.1; have := hx.lt; have := hy.lt; omega
      have HO6 : ∀ g, (ob (.slice S0 k0 f0) g ∨ ob (.slice S1 k1 f1) g ∨ ob (.slice S2 k2' f2) g) → w.heap.size + 2 ≤ g := fun g hg => by
        rcases hob6 g hg with h | h
        · exact hown g h
        · have := hy.lt; omega
      have hk9 := keep_three w6 (w.heap.size + 1) (.slice S0 k0 f0) (.slice S1 k1 f1) (.slice S2 k2' f2)
      go_wp2_with fail
      go_roundw
      case rel =>
        refine ⟨j + 1, K6, A6, D6, _, _, _, _, by omega, by simp, lies.lay (by rw [List.take_add_one, List.getElem?_eq_getElem hlt, hsj]; simpa using HOK.out), hR6.keep hk9 (fun g hg e => ?_), hBx6, hb6.trans (hk9.below (fun g hg => by omega) hb6.size), HF6, HO6, (Below.heap_setCell _ _ _ _ (by simp)).trans ((Below.heap_setCell _ _ _ _ (by simp)).trans ((Below.heap_setCell _ _ _ _ (by simp)).trans hx6)), blk_three hy6⟩
        rcases hg with hg | hg | hg | hg
        · have := HO6 g (.inl hg); omega
        · have := HO6 g (.inr (.inl hg)); omega
        · have := HO6 g (.inr (.inr hg)); omega
        · have := HF6 g hg; omega
      case measure => simp [intOf]; omega

    · have hje : j = l.length := by omega
      have hokr := HOKR.out
      clear HOKR
      subst hje
      rw [List.take_length] at hokr
      have HOKR := lies.lay hokr
      clear hokr
      have HP := lies.lay hPall
      clear hPall
      go_wp2_with fail
      go_loopg [6] (sizeL D + 1) (fun m s wr => MHead w (pcs l) m s wr)
      case atStart =>
        exact ⟨true, K, A, D, _, _, _, F, rfl, lies.lay rfl, lies.lay HOKR.out, hRr, hBx, lies.lay (fun h => by cases h), hbw, hFw, hown, hx, hy⟩
      case round =>
        clear hRr hBx hbw hFw hown hx hy HOKR v0 v1 v2 fv0 fv1 fv2 ly
        obtain ⟨sb, K, A, D, u0, u1, u2, F, rfl, HM, HO, hRr, hBx, HF, hbw, hFw, hown, hx, hy⟩ := hrel
        obtain ⟨R0, m0, d0, e0⟩ := ints_shape hRr.k
        obtain ⟨R1, m1, d1, e1⟩ := txt_shape hRr.a
        obtain ⟨R2, m2, d2, e2⟩ := trow_shape hRr.d
        subst e0; subst e1; subst e2
        have v0 := hy.cell 0
        have v1 := hy.cell 1
        have v2 := hy.cell 2
        simp at v0 v1 v2
        have fv0 := hy.frozen 0
        have fv1 := hy.frozen 1
        have fv2 := hy.frozen 2
        have ly := hy.lt
        cases sb with
        | true =>
          have hoA := refOpen_any F (pcs l) K A D (.slice R0 m0 d0) (.slice R1 m1 d1) (.slice R2 m2 d2) _ hRr hBx HO.out HP.out
          have HC := lies.lay hoA
          clear hoA
          go_wp2_with fail
          refine HC.out.mono ?_
          rintro e w6 ⟨K6, A6, D6, q0, q1, q2, s6, rfl, hR6, hok6, hBx6, hN6, hF6, hb6, hob6⟩
          obtain ⟨S0, k0, f0, e0⟩ := ints_shape hR6.k
          obtain ⟨S1, k1, f1, e1⟩ := txt_shape hR6.a
          obtain ⟨S2, k2', f2, e2⟩ := trow_shape hR6.d
          subst e0; subst e1; subst e2
          have hx6 := hx.below hb6 hx.lt
          have hy6 := hy.below hb6 hy.lt
          have y0' := hy6.cell 0
          have y1' := hy6.cell 1
          have y2' := hy6.cell 2
          simp at y0' y1' y2'
          have gy0 := hy6.frozen 0
          have gy1 := hy6.frozen 1
          have gy2 := hy6.frozen 2
          have ly6 := hy6.lt
          have HOK := lies.lay hok6
          have HN := lies.lay hN6
          have HFF := lies.lay hF6
          clear hok6 hN6 hF6
          have HO6 : ∀ g, (ob (.slice S0 k0 f0) g ∨ ob (.slice S1 k1 f1) g ∨ ob (.slice S2 k2' f2) g) → w.heap.size + 2 ≤ g := fun g hg => by
            rcases hob6 g hg with h | h
            · exact hown g h
            · have := hy.lt; omega
          have hk9 := keep_three w6 (w.heap.size + 1) (.slice S0 k0 f0) (.slice S1 k1 f1) (.slice S2 k2' f2)
          have hbb : Below w.heap.size w w6 := hbw.trans (hb6.mono hbw.size)
          go_wp2_with fail
          go_roundg (if s6 then sizeL D6 + 1 else 0)
          case rel =>
            refine ⟨s6, K6, A6, D6, _, _, _, F, rfl, lies.lay rfl, lies.lay HOK.out, hR6.keep hk9 (fun g hg e => ?_), hBx6, lies.lay HFF.out, hbb.trans (hk9.below (fun g hg => by omega) hbb.size), hFw, HO6, (Below.heap_setCell _ _ _ _ (by simp)).trans ((Below.heap_setCell _ _ _ _ (by simp)).trans ((Below.heap_setCell _ _ _ _ (by simp)).trans hx6)), blk_three hy6⟩
            rcases hg with hg | hg | hg | hg
            · have := HO6 g (.inl hg); omega
            · have := HO6 g (.inr (.inl hg)); omega
            · have := HO6 g (.inr (.inr hg)); omega
            · have := hFw g hg; omega
          case measure =>
            have h1 := HM.out
            have h2 := HN.out
            cases s6 <;> simp_all <;> omega
        | false =>
          have r0 := hx.cell 0
          have r1 := hx.cell 1
          have r2 := hx.cell 2
          simp at r0 r1 r2
          have fr0 := hx.frozen 0
          have fr1 := hx.frozen 1
          have fr2 := hx.frozen 2
          have lr := hx.lt
          go_wp2_with fail
          refine bodyPost_ret (v := .agg #[.slice R0 m0 d0, .slice R1 m1 d1, .slice R2 m2 d2]) (by simp [results, Try.results12, go_sem, r0, r1, r2, v0, v1, v2, ly, lr]) rfl ?_
          have hk9 := keep_three wr w.heap.size (.slice R0 m0 d0) (.slice R1 m1 d1) (.slice R2 m2 d2)
          have hok := HO.out
          refine ⟨K, A, D, _, _, _, F, rfl, hbw.trans (hk9.below (fun g hg => by omega) hbw.size), hok.inv.left (fun t ht => ⟨hBx t ht, HF.out trivial t ht⟩), hok, hRr.keep hk9 (fun g hg e => ?_)⟩
          rcases hg with hg | hg | hg | hg
          · have := hown g (.inl hg); omega
          · have := hown g (.inr (.inl hg)); omega
          · have := hown g (.inr (.inr hg)); omega
          · have := hFw g hg; omega

end Go.Proofs.Ytjlglfjikfpboaa.thiefs
