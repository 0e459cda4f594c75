/- The document's own take. -/
import Derived.Test.YtjlglfjikfpboaaThP


namespace Go.Proofs.Ytjlglfjikfpboaa.thiefs
set_option linter.unusedVariables false
set_option linter.unusedSimpArgs false
open Go.RowKit Go.Shelf Go.Lib Go.Proofs.Ytjlglfjikfpboaa.base Go.Proofs.Ytjlglfjikfpboaa.tm Go.Proofs.Ytjlglfjikfpboaa.lies Go.Proofs.Ytjlglfjikfpboaa.copies Go.Proofs.Ytjlglfjikfpboaa.reads Go.Proofs.Ytjlglfjikfpboaa.texts

/-! ### in pure words -/
structure Ok2 (P : List T) (K : List Int) (A : List (List UInt8)) (D : List T) : Prop where
  inv : Inv P K A [] D
  upK : Up id K
  upA : A.Pairwise (· < ·)
  bx : bxL D
  cnt : K.length + A.length + sizeL D ≤ sizeL P
def Bx (D : List T) : Prop := ∀ t ∈ D, t.k = 4
section
variable {P : List T} {K : List Int} {A : List (List UInt8)} {D R : List T} {t : T}
theorem bx_mid (h : bxL (D ++ t :: R)) : bxL D ∧ bxT t ∧ bxL R := by
  obtain ⟨h1, h2⟩ := bxL_app.1 h
  exact ⟨h1, h2.1, h2.2⟩
theorem size_mid : sizeL (D ++ t :: R) = sizeL D + (sizeL t.l + 1) + sizeL R := by rw [sizeL_app, sizeL, lies.size_eq]; omega
theorem Ok2.atom (h : Ok2 P K A (D ++ t :: R)) (hk : t.k = 2) : Ok2 P K (insD (bn t.s) A false) (D ++ R) := by
  obtain ⟨q1, q2⟩ := insD_props (bn t.s) A h.upA
  have q3 := insD_len (bn t.s) A false
  obtain ⟨b1, b2, b3⟩ := bx_mid h.bx
  have := h.cnt
  rw [size_mid] at this
  exact ⟨h.inv.atom hk q2, h.upK, q1, bxL_app.2 ⟨b1, b3⟩, by rw [sizeL_app]; omega⟩
theorem Ok2.key (h : Ok2 P K A (D ++ t :: R)) (hk : t.k = 3) : Ok2 P (insI t.n K false) A (D ++ R) := by
  obtain ⟨q1, q2⟩ := insI_props t.n K h.upK
  have q3 := insI_len t.n K false
  obtain ⟨b1, b2, b3⟩ := bx_mid h.bx
  have := h.cnt
  rw [size_mid] at this
  refine ⟨h.inv.key (S' := []) (W := []) hk q2 (fun p hp => by cases hp) (fun C => by rw [gotL, List.append_nil]) (fun C hC => ⟨fun x => ?_, ?_, ?_⟩), q1, h.upA, bxL_app.2 ⟨b1, b3⟩, by rw [sizeL_app]; omega⟩
  · simp [gotL]
  · simp [gotL, BN]
  · rfl
theorem Ok2.row (h : Ok2 P K A (D ++ t :: R)) (hk : t.k = 5) : Ok2 P K A (D ++ (t.l ++ R)) := by
  obtain ⟨b1, b2, b3⟩ := bx_mid h.bx
  have := h.cnt
  rw [size_mid] at this
  exact ⟨h.inv.row hk, h.upK, h.upA, bxL_app.2 ⟨b1, bxL_app.2 ⟨(bxT.list b2).2, b3⟩⟩, by rw [sizeL_app, sizeL_app]; omega⟩
theorem Ok2.num (h : Ok2 P K A (D ++ t :: R)) (h2 : t.k ≠ 2) (h3 : t.k ≠ 3) (h4 : t.k ≠ 4) (h5 : t.k ≠ 5) : Ok2 P K A (D ++ R) := by
  obtain ⟨b1, b2, b3⟩ := bx_mid h.bx
  have := h.cnt
  rw [size_mid] at this
  exact ⟨h.inv.num h2 h3 h4 h5, h.upK, h.upA, bxL_app.2 ⟨b1, b3⟩, by rw [sizeL_app]; omega⟩
theorem Ok2.box (h : Ok2 P K A (D ++ t :: R)) : Ok2 P K A ((D ++ [t]) ++ R) := by rw [List.append_assoc]; exact h
end

/-! ### in memory -/
def ob (v : Value) (g : Nat) : Prop := v.ownBlock = some g
structure RAt (w : World) (F : Nat → Prop) (K : List Int) (A : List (List UInt8)) (D : List T) (v0 v1 v2 : Value) : Prop where
  k : Ints w v0 K
  a : Txt w 0 v1 A
  d : Trow w F D v2
  ne : ∀ g, ob v2 g → ¬ F g ∧ ¬ ob v0 g ∧ ¬ ob v1 g
  lt : ∀ g, (ob v0 g ∨ ob v1 g ∨ ob v2 g ∨ F g) → g < w.heap.size
section
variable {w w' : World} {F S : Nat → Prop} {K : List Int} {A : List (List UInt8)} {D : List T} {v0 v1 v2 : Value}
theorem Ints.block {v : Value} (h : Ints w v K) (hb : ∀ g, ob v g → w'.heap[g]? = w.heap[g]?) : Ints w' v K := by
  obtain ⟨Q, c, rfl, h1, h2, h3⟩ := h
  refine ⟨Q, c, rfl, h1, h2, fun j u hj => ?_⟩
  obtain ⟨b, off, rfl, hb2, hc⟩ := h3 j u hj
  have hc2 := (World.cell?_of_block (w := w) (w' := w') (a := ⟨b, off + j, none⟩) (hb b rfl)).trans hc
  exact ⟨b, off, rfl, World.block_lt_of_cell? w' _ hc2, hc2⟩
theorem txt_block {lo : Nat} {v : Value} {ts : List (List UInt8)} (h : Txt w lo v ts) (hb : ∀ g, ob v g → w'.heap[g]? = w.heap[g]?) : Txt w' lo v ts := by
  obtain ⟨Q, c, rfl, hl, h⟩ := h
  refine ⟨Q, c, rfl, hl, fun j hj => ?_⟩
  obtain ⟨g, rfl, h1, h2, h3⟩ := h j hj
  have hc2 := (World.cell?_of_block (w := w) (w' := w') (a := ⟨g, j, none⟩) (hb g rfl)).trans h3
  exact ⟨g, rfl, h1, World.block_lt_of_cell? w' _ hc2, hc2⟩
theorem RAt.keep (h : RAt w F K A D v0 v1 v2) (hk : Keep S w w') (hS : ∀ g, (ob v0 g ∨ ob v1 g ∨ ob v2 g ∨ F g) → ¬ S g) : RAt w' F K A D v0 v1 v2 :=
  ⟨h.k.block fun g hg => hk.block g (h.lt g (.inl hg)) (hS g (.inl hg)), txt_block h.a fun g hg => hk.block g (h.lt g (.inr (.inl hg))) (hS g (.inr (.inl hg))),
   h.d.agree (hk.agree fun g hg => ⟨h.lt g (.inr (.inr (.inr hg))), hS g (.inr (.inr (.inr hg)))⟩) (fun g hg => hk.block g (h.lt g (.inr (.inr (.inl hg)))) (hS g (.inr (.inr (.inl hg))))), h.ne, fun g hg => Nat.lt_of_lt_of_le (h.lt g hg) hk.size⟩
theorem RAt.below (h : RAt w F K A D v0 v1 v2) (hb : Below w.heap.size w w') : RAt w' F K A D v0 v1 v2 := h.keep (S := fun _ => False) (Keep.of_below hb) (fun _ _ => id)
/-- other atoms, in new memory -/
theorem RAt.atoms {B : Nat} {A' : List (List UInt8)} {u : Value} (h : RAt w F K A D v0 v1 v2) (ha : Txt w B u A') (hA : A' ≠ []) (hB : ∀ g, (ob v2 g) → g < B) : RAt w F K A' D v0 u v2 := by
  have hu : ∀ g, ob u g → B ≤ g ∧ g < w.heap.size := by
    obtain ⟨Q, c, rfl, _, h4⟩ := ha
    obtain ⟨g, rfl, h1, h2, _⟩ := h4 0 (List.length_pos_iff.2 hA)
    intro g' hg
    cases hg
    exact ⟨h1, h2⟩
  refine ⟨h.k, txt_any ha, h.d, fun g hg => ⟨(h.ne g hg).1, (h.ne g hg).2.1, fun e => by have := hB g hg; have := (hu g e).1; omega⟩, fun g hg => ?_⟩
  rcases hg with hg | hg | hg | hg
  · exact h.lt g (.inl hg)
  · exact (hu g hg).2
  · exact h.lt g (.inr (.inr (.inl hg)))
  · exact h.lt g (.inr (.inr (.inr hg)))
theorem RAt.keys {B : Nat} {K' : List Int} {u : Value} (h : RAt w F K A D v0 v1 v2) (hr : Irow w K' u) (hl : K'.length ≤ 1000000) (hu : ∀ g, ob u g → B ≤ g) (hB : ∀ g, (ob v2 g) → g < B) : RAt w F K' A D u v1 v2 := by
  refine ⟨irow_ints hr hl, h.a, h.d, fun g hg => ⟨(h.ne g hg).1, fun e => by have := hB g hg; have := hu g e; omega, (h.ne g hg).2.2⟩, fun g hg => ?_⟩
  rcases hg with hg | hg | hg | hg
  · exact (hr.lt g hg).2
  · exact h.lt g (.inr (.inl hg))
  · exact h.lt g (.inr (.inr (.inl hg)))
  · exact h.lt g (.inr (.inr (.inr hg)))
end
theorem insD_ne (s : List UInt8) : ∀ l : List (List UInt8), insD s l false ≠ []
  | [] => by simp [insD]
  | x :: r => by simp only [insD, Bool.false_eq_true, if_false]; split; simp; split <;> simp
/-- what take leaves -/
def TkPost (w : World) (F : Nat → Prop) (P R : List T) (N : Nat) (v0 v1 v2 : Value) (e : Ending) (w' : World) : Prop :=
  ∃ (K : List Int) (A : List (List UInt8)) (D : List T) (u0 u1 u2 : Value), e = .returned (.agg #[u0, u1, u2]) ∧ RAt w' F K A D u0 u1 u2 ∧ Ok2 P K A (D ++ R) ∧ Bx D ∧ sizeL (D ++ R) ≤ N ∧ Keep (ob v2) w w' ∧
    (∀ g, ob u2 g → ob v2 g ∨ w.heap.size ≤ g) ∧ ∀ g, (ob u0 g ∨ ob u1 g ∨ ob u2 g) → (ob v0 g ∨ ob v1 g ∨ ob v2 g) ∨ w.heap.size ≤ g
theorem ints_shape {w : World} {v : Value} {K : List Int} (h : Ints w v K) : ∃ Q n c, v = .slice Q n c := let ⟨Q, c, e, _⟩ := h; ⟨Q, _, c, e⟩
theorem txt_shape {w : World} {lo : Nat} {v : Value} {K : List (List UInt8)} (h : Txt w lo v K) : ∃ Q n c, v = .slice Q n c := let ⟨Q, c, e, _⟩ := h; ⟨Q, _, c, e⟩
theorem trow_shape {w : World} {F : Nat → Prop} {v : Value} {l : List T} (h : Trow w F l v) : ∃ Q n c, v = .slice Q n c := let ⟨Q, c, _, e, _⟩ := h.rd; ⟨Q, _, c, e⟩
theorem keep_cells3 (w : World) (r : Nat) (a b c : Value) : Keep (fun k => k = r) w (((w.setCell ⟨r, 0, none⟩ a).setCell ⟨r, 1, none⟩ b).setCell ⟨r, 2, none⟩ c) := keep_three w r a b c

/-- at the loop's head -/
def RHead (w : World) (F : Nat → Prop) (P R : List T) (N : Nat) (l : List T) (v0 v1 v2 : Value) (i : Value) (wr : World) : Prop :=
  ∃ (j : Nat) (K : List Int) (A : List (List UInt8)) (D : List T) (u0 u1 u2 : Value), j ≤ l.length ∧ i = .int .i64 (j : Int) ∧ RAt wr F K A D u0 u1 u2 ∧ Ok2 P K A (D ++ (l.drop j ++ R)) ∧ Bx D ∧ sizeL (D ++ (l.drop j ++ R)) ≤ N ∧ Keep (ob v2) w wr ∧
    (∀ g, ob u2 g → ob v2 g ∨ w.heap.size + 3 ≤ g) ∧ (∀ g, (ob u0 g ∨ ob u1 g ∨ ob u2 g) → (ob v0 g ∨ ob v1 g ∨ ob v2 g) ∨ w.heap.size + 3 ≤ g) ∧ Blk wr w.heap.size 27 #[u0, u1, u2] ∧ Blk wr (w.heap.size + 1 + 1) 27 #[.slice none 0 0, .slice none 0 0, .slice none 0 0]
theorem blk_three {w : World} {g : Nat} {t : TypeId} {a b c x y z : Value} (h : Blk w g t #[a, b, c]) : Blk (((w.setCell ⟨g, 0, none⟩ x).setCell ⟨g, 1, none⟩ y).setCell ⟨g, 2, none⟩ z) g t #[x, y, z] := by
  have := ((h.put 0 x).put 1 y).put 2 z
  simpa using this
/-- a term in a block of its own, as a list of one -/
theorem row_one (w : World) {F : Nat → Prop} {k n : Int} {s : ByteArray} {l : List T} {B : Option Addr} {c : Nat} (hT : TF w F (.mk k n s l) (.slice B l.length c)) (hF : ∀ g, F g → g < w.heap.size) :
    RdF (w.alloc (.cells #[.int .i64 k, .int .u64 n, .string s, .slice B l.length c] 39)) (fun g => g = w.heap.size) (some ⟨w.heap.size, 0, none⟩) (T.cells (.mk k n s l) (.slice B l.length c)) ∧
    TLF (w.alloc (.cells #[.int .i64 k, .int .u64 n, .string s, .slice B l.length c] 39)) F [.mk k n s l] (T.cells (.mk k n s l) (.slice B l.length c)) := by
  refine ⟨fun j u hj => ⟨w.heap.size, 0, rfl, rfl, ?_⟩, _, [], by simp, TF.agree (Agree.of_below (B := w.heap.size) ((Below.refl _ _).alloc (Nat.le_refl _) _) hF) _ _ hT, rfl⟩
  rw [(Blk.new w 39 #[.int .i64 k, .int .u64 n, .string s, .slice B l.length c]).cell, Nat.zero_add]
  simpa [T.cells, T.k, T.n, T.s] using hj
theorem keep4 (w : World) (a r k : Nat) (x y z u : Value) : Keep (fun g => g = a ∨ g = r) w ((((w.setCell ⟨a, k, none⟩ x).setCell ⟨r, 0, none⟩ y).setCell ⟨r, 1, none⟩ z).setCell ⟨r, 2, none⟩ u) :=
  ((keep_set w ⟨a, k, none⟩ x).mono (fun g hg _ => .inl hg)).trans (keep_three _ r y z u) (fun g hg _ => .inr hg)
theorem tk_end {w w2 w9 : World} {F : Nat → Prop} {P R D : List T} {N : Nat} {K : List Int} {A : List (List UInt8)} {v0 v1 v2 u0 u1 u2 : Value} (hR : RAt w2 F K A D u0 u1 u2) (hb : Keep (ob v2) w w2) (hk : Keep (fun g => g = w.heap.size ∨ g = w.heap.size + 2) w2 w9) (hok : Ok2 P K A (D ++ R)) (hBx : Bx D) (hN : sizeL (D ++ R) ≤ N)
    (hS : ∀ g, (ob u0 g ∨ ob u1 g ∨ ob u2 g ∨ F g) → g ≠ w.heap.size ∧ g ≠ w.heap.size + 2) (hown : ∀ g, ob u2 g → ob v2 g ∨ w.heap.size ≤ g) (hob : ∀ g, (ob u0 g ∨ ob u1 g ∨ ob u2 g) → (ob v0 g ∨ ob v1 g ∨ ob v2 g) ∨ w.heap.size ≤ g) :
    TkPost w F P R N v0 v1 v2 (.returned (.agg #[u0, u1, u2])) w9 :=
  ⟨K, A, D, u0, u1, u2, rfl, hR.keep hk (fun g hg e => e.elim (hS g hg).1 (hS g hg).2), hok, hBx, hN, hb.trans hk (fun g hg hlt => by rcases hg with hg | hg <;> omega), hown, hob⟩
theorem txt_own {w : World} {lo : Nat} {v : Value} {ts : List (List UInt8)} (h : Txt w lo v ts) (hn : ts ≠ []) : ∀ g, ob v g → lo ≤ g := fun g hg => by
  obtain ⟨Q, c, rfl, _, h4⟩ := h
  obtain ⟨g', rfl, h1, _⟩ := h4 0 (List.length_pos_iff.2 hn)
  cases hg
  exact h1
/-- memory is old or new, and no box of the call's -/
def Far (w : World) (v0 v1 v2 : Value) (u : Value) : Prop := ∀ g, ob u g → (ob v0 g ∨ ob v1 g ∨ ob v2 g) ∨ w.heap.size + 3 ≤ g

set_option maxRecDepth 100000 in
set_option maxHeartbeats 4000000 in
theorem refTake_any (N : Nat) : ∀ (t : T) (B : Option Addr) (c : Nat) (F : Nat → Prop) (P R : List T) (K : List Int) (A : List (List UInt8)) (D : List T) (v0 v1 v2 : Value) (w : World), t.size ≤ N → RAt w F K A D v0 v1 v2 → Bx D → Ok2 P K A (D ++ t :: R) → sizeL P ≤ 500000 → TF w F t (.slice B t.l.length c) →
    Calls Try.prog 49 #[.agg #[v0, v1, v2], .agg #[.int .i64 t.k, .int .u64 t.n, .string t.s, .slice B t.l.length c]] w (TkPost w F P R (sizeL (D ++ t :: R)) v0 v1 v2) := by
  induction N with
  | zero => intro t B c F P R K A D v0 v1 v2 w h; have := size_pos t; omega
  | succ N ih =>
    intro t B c F P R K A D v0 v1 v2 w hN hR hBx hok hP hT
    obtain ⟨k, n, s, l⟩ := t
    simp only [T.k, T.n, T.s, T.l] at hT ⊢
    have hTT := hT
    obtain ⟨B0, c0', xs, e0, _, hn, hs, hlc, hl56, hRd, hLd⟩ := hTT
    injection e0 with e1 _ e2
    subst e1; subst e2
    have hcnt := hok.cnt
    have hsm : sizeL (D ++ T.mk k n s l :: R) = sizeL D + (sizeL l + 1) + sizeL R := size_mid
    by_cases k2 : k = 2
    · subst k2
      have x0 := ((Blk.new w 27 #[v0, v1, v2]).alloc (.cells #[.int .i64 2, .int .u64 n, .string s, .slice B l.length c] 39)).alloc (.cells #[.slice none 0 0, .slice none 0 0, .slice none 0 0] 27)
      have x1 := (Blk.new (w.alloc (.cells #[v0, v1, v2] 27)) 39 #[.int .i64 2, .int .u64 n, .string s, .slice B l.length c]).alloc (.cells #[.slice none 0 0, .slice none 0 0, .slice none 0 0] 27)
      have x2 := Blk.new ((w.alloc (.cells #[v0, v1, v2] 27)).alloc (.cells #[.int .i64 2, .int .u64 n, .string s, .slice B l.length c] 39)) 27 #[.slice none 0 0, .slice none 0 0, .slice none 0 0]
      simp only [World.size_alloc] at x1 x2
      have b1 : Below w.heap.size w (((w.alloc (.cells #[v0, v1, v2] 27)).alloc (.cells #[.int .i64 2, .int .u64 n, .string s, .slice B l.length c] 39)).alloc (.cells #[.slice none 0 0, .slice none 0 0, .slice none 0 0] 27)) := (((Below.refl _ _).alloc (Nat.le_refl _) _).alloc (by simp) _).alloc (by simp; omega) _
      have hR1 := hR.below b1
      have hsz : (((w.alloc (.cells #[v0, v1, v2] 27)).alloc (.cells #[.int .i64 2, .int .u64 n, .string s, .slice B l.length c] 39)).alloc (.cells #[.slice none 0 0, .slice none 0 0, .slice none 0 0] 27)).heap.size = w.heap.size + 3 := by simp
      obtain ⟨Q0, n0, c0, e0⟩ := ints_shape hR.k
      obtain ⟨Q1, n1, c1, e1⟩ := txt_shape hR.a
      obtain ⟨Q2, n2, c2, e2⟩ := trow_shape hR.d
      subst e0; subst e1; subst e2
      have hins := fun W => insert_any (.slice Q1 n1 c1) 0 A (bn s) W
      go_enter Try.func49, Try.ntmps49
      go_wp2_with fail
      refine (hins _ hR1.a (by omega)).mono ?_
      rintro e w2 ⟨v', rfl, hb2, ha2⟩
      obtain ⟨Q1', n1', c1', e1'⟩ := txt_shape ha2
      subst e1'
      simp only [World.size_alloc] at hb2 ha2
      have hz2 := hb2.size
      have hown1 := txt_own ha2 (insD_ne _ _)
      have hR2 := ((hR1.keep (S := fun _ => False) ⟨hb2.os, hb2.tape, hb2.output, by simpa using hz2, fun k hk _ => hb2.block k (by simpa using hk)⟩ (fun _ _ => id)).atoms ha2 (insD_ne _ _) (fun g hg => by have := hR.lt g (.inr (.inr (.inl hg))); omega))
      have hy := x0.below hb2 (by omega)
      have hr := x2.below hb2 (by omega)
      have y0 := hy.cell 0
      have y1 := hy.cell 1
      have y2 := hy.cell 2
      simp at y0 y1 y2
      have fy0 := hy.frozen 0
      have fy1 := hy.frozen 1
      have fy2 := hy.frozen 2
      have r0 := hr.cell 0
      have r1 := hr.cell 1
      have r2 := hr.cell 2
      simp at r0 r1 r2
      have fr0 := hr.frozen 0
      have fr1 := hr.frozen 1
      have fr2 := hr.frozen 2
      have ly := hy.lt
      have lr := hr.lt
      go_wp2_with fail
      refine bodyPost_ret (v := .agg #[(.slice Q0 n0 c0), (.slice Q1' n1' c1'), (.slice Q2 n2 c2)]) (by simp [results, Try.results49, go_sem, r0, r1, r2, y0, y1, y2, ly, lr]) rfl ?_
      exact tk_end hR2 (Keep.of_below (b1.trans (hb2.mono (by omega)))) (keep4 _ _ _ _ _ _ _ _) (hok.atom rfl) hBx (by rw [sizeL_app]; omega) (fun g hg => by rcases hg with hg | hg | hg | hg; (have := hR.lt g (.inl hg); omega); (have := hown1 g hg; omega); (have := hR.lt g (.inr (.inr (.inl hg))); omega); (have := hR.lt g (.inr (.inr (.inr hg))); omega)) (fun g hg => .inl hg) (fun g hg => by rcases hg with hg | hg | hg; exact .inl (.inl hg); (have := hown1 g hg; exact .inr (by omega)); exact .inl (.inr (.inr hg)))
    · by_cases k3 : k = 3
      · subst k3
        have x0 := ((Blk.new w 27 #[v0, v1, v2]).alloc (.cells #[.int .i64 3, .int .u64 n, .string s, .slice B l.length c] 39)).alloc (.cells #[.slice none 0 0, .slice none 0 0, .slice none 0 0] 27)
        have x1 := (Blk.new (w.alloc (.cells #[v0, v1, v2] 27)) 39 #[.int .i64 3, .int .u64 n, .string s, .slice B l.length c]).alloc (.cells #[.slice none 0 0, .slice none 0 0, .slice none 0 0] 27)
        have x2 := Blk.new ((w.alloc (.cells #[v0, v1, v2] 27)).alloc (.cells #[.int .i64 3, .int .u64 n, .string s, .slice B l.length c] 39)) 27 #[.slice none 0 0, .slice none 0 0, .slice none 0 0]
        simp only [World.size_alloc] at x1 x2
        have b1 : Below w.heap.size w (((w.alloc (.cells #[v0, v1, v2] 27)).alloc (.cells #[.int .i64 3, .int .u64 n, .string s, .slice B l.length c] 39)).alloc (.cells #[.slice none 0 0, .slice none 0 0, .slice none 0 0] 27)) := (((Below.refl _ _).alloc (Nat.le_refl _) _).alloc (by simp) _).alloc (by simp; omega) _
        have hR1 := hR.below b1
        have hsz : (((w.alloc (.cells #[v0, v1, v2] 27)).alloc (.cells #[.int .i64 3, .int .u64 n, .string s, .slice B l.length c] 39)).alloc (.cells #[.slice none 0 0, .slice none 0 0, .slice none 0 0] 27)).heap.size = w.heap.size + 3 := by simp
        obtain ⟨Q0, n0, c0, e0⟩ := ints_shape hR.k
        obtain ⟨Q1, n1, c1, e1⟩ := txt_shape hR.a
        obtain ⟨Q2, n2, c2, e2⟩ := trow_shape hR.d
        subst e0; subst e1; subst e2
        have hwk := fun W => withKey_any (.slice Q0 n0 c0) K n W
        have hil := insI_len n K false
        go_enter Try.func49, Try.ntmps49
        go_wp2_with fail
        refine (hwk _ hR1.k).mono ?_
        rintro e w2 ⟨v', rfl, hb2, ha2, hown1⟩
        obtain ⟨Q1', n1', c1', e1'⟩ := ints_shape (irow_ints ha2 (by omega))
        subst e1'
        simp only [World.size_alloc] at hb2 hown1
        have hz2 := hb2.size
        have hR2 := ((hR1.keep (S := fun _ => False) ⟨hb2.os, hb2.tape, hb2.output, by simpa using hz2, fun k hk _ => hb2.block k (by simpa using hk)⟩ (fun _ _ => id)).keys ha2 (by omega) hown1 (fun g hg => by have := hR.lt g (.inr (.inr (.inl hg))); omega))
        have hy := x0.below hb2 (by omega)
        have hr := x2.below hb2 (by omega)
        have y0 := hy.cell 0
        have y1 := hy.cell 1
        have y2 := hy.cell 2
        simp at y0 y1 y2
        have fy0 := hy.frozen 0
        have fy1 := hy.frozen 1
        have fy2 := hy.frozen 2
        have r0 := hr.cell 0
        have r1 := hr.cell 1
        have r2 := hr.cell 2
        simp at r0 r1 r2
        have fr0 := hr.frozen 0
        have fr1 := hr.frozen 1
        have fr2 := hr.frozen 2
        have ly := hy.lt
        have lr := hr.lt
        go_wp2_with fail
        refine bodyPost_ret (v := .agg #[(.slice Q1' n1' c1'), (.slice Q1 n1 c1), (.slice Q2 n2 c2)]) (by simp [results, Try.results49, go_sem, r0, r1, r2, y0, y1, y2, ly, lr]) rfl ?_
        exact tk_end hR2 (Keep.of_below (b1.trans (hb2.mono (by omega)))) (keep4 _ _ _ _ _ _ _ _) (hok.key rfl) hBx (by rw [sizeL_app]; omega) (fun g hg => by rcases hg with hg | hg | hg | hg; (have := hown1 g hg; omega); (have := hR.lt g (.inr (.inl hg)); omega); (have := hR.lt g (.inr (.inr (.inl hg))); omega); (have := hR.lt g (.inr (.inr (.inr hg))); omega)) (fun g hg => .inl hg) (fun g hg => by rcases hg with hg | hg | hg; (have := hown1 g hg; exact .inr (by omega)); exact .inl (.inr (.inl hg)); exact .inl (.inr (.inr hg)))
      · by_cases k4 : k = 4
        · subst k4
          have x0 := ((Blk.new w 27 #[v0, v1, v2]).alloc (.cells #[.int .i64 4, .int .u64 n, .string s, .slice B l.length c] 39)).alloc (.cells #[.slice none 0 0, .slice none 0 0, .slice none 0 0] 27)
          have x1 := (Blk.new (w.alloc (.cells #[v0, v1, v2] 27)) 39 #[.int .i64 4, .int .u64 n, .string s, .slice B l.length c]).alloc (.cells #[.slice none 0 0, .slice none 0 0, .slice none 0 0] 27)
          have x2 := Blk.new ((w.alloc (.cells #[v0, v1, v2] 27)).alloc (.cells #[.int .i64 4, .int .u64 n, .string s, .slice B l.length c] 39)) 27 #[.slice none 0 0, .slice none 0 0, .slice none 0 0]
          simp only [World.size_alloc] at x1 x2
          have b1 : Below w.heap.size w (((w.alloc (.cells #[v0, v1, v2] 27)).alloc (.cells #[.int .i64 4, .int .u64 n, .string s, .slice B l.length c] 39)).alloc (.cells #[.slice none 0 0, .slice none 0 0, .slice none 0 0] 27)) := (((Below.refl _ _).alloc (Nat.le_refl _) _).alloc (by simp) _).alloc (by simp; omega) _
          have hR1 := hR.below b1
          have hsz : (((w.alloc (.cells #[v0, v1, v2] 27)).alloc (.cells #[.int .i64 4, .int .u64 n, .string s, .slice B l.length c] 39)).alloc (.cells #[.slice none 0 0, .slice none 0 0, .slice none 0 0] 27)).heap.size = w.heap.size + 3 := by simp
          obtain ⟨Q0, n0, c0, e0⟩ := ints_shape hR.k
          obtain ⟨Q1, n1, c1, e1⟩ := txt_shape hR.a
          obtain ⟨Q2, n2, c2, e2⟩ := trow_shape hR.d
          subst e0; subst e1; subst e2
          have hT1 := TF.agree (Agree.of_below b1 fun g hg => hR.lt g (.inr (.inr (.inr hg)))) _ _ hT
          have bA := (Below.refl (((w.alloc (.cells #[((.slice Q0 n0 c0)), ((.slice Q1 n1 c1)), ((.slice Q2 n2 c2))] 27)).alloc (.cells #[.int .i64 4, .int .u64 n, .string s, .slice B l.length c] 39)).alloc (.cells #[.slice none 0 0, .slice none 0 0, .slice none 0 0] 27)).heap.size _).alloc (Nat.le_refl _) (.cells #[.int .i64 4, .int .u64 n, .string s, .slice B l.length c] 39)
          have hR4 := hR1.below bA
          obtain ⟨hrow4, ht4⟩ := row_one _ hT1 (fun g hg => hR1.lt g (.inr (.inr (.inr hg))))
          have y9 := x0.below bA x0.lt
          have r9 := x2.below bA x2.lt
          have hDl := len_le_size D
          have hd4 := hR4.d
          have hF4 : ∀ g, ob (.slice Q2 n2 c2) g → ¬ F g := fun g hg => (hR.ne g hg).1
          have hFl4 : ∀ g, F g → g < _ := fun g hg => hR4.lt g (.inr (.inr (.inr hg)))
          have n0w : ¬ ob (.slice Q2 n2 c2) w.heap.size := fun e => by have := hR.lt _ (.inr (.inr (.inl e))); omega
          have n2w : ¬ ob (.slice Q2 n2 c2) (w.heap.size + 1 + 1) := fun e => by have := hR.lt _ (.inr (.inr (.inl e))); omega
          simp only [World.size_alloc] at hrow4
          go_enter Try.func49, Try.ntmps49
          go_wp2_with (at_builtin; refine wpList_plain rfl fun K' hK' => wp_terms _ _ rfl (F := F) (H := fun g => g = w.heap.size + 1 + 1 + 1) (l := D) (m := [T.mk 4 n s l]) hd4 rfl hrow4 ht4 (Nat.le_refl _) rfl (by simp; omega) hF4 hFl4 ?_; intro v9 w9 ho9 hk9 hat9; refine hK' _ _ ?_; obtain ⟨Q9, n9, c9, e9⟩ := trow_shape ho9; subst e9; have hy := hk9.blk y9 n0w; have hr := hk9.blk r9 n2w; have y0 := hy.cell 0; have y1 := hy.cell 1; have y2 := hy.cell 2; simp at y0 y1 y2; have fy0 := hy.frozen 0; have fy1 := hy.frozen 1; have fy2 := hy.frozen 2; have r0 := hr.cell 0; have r1 := hr.cell 1; have r2 := hr.cell 2; simp at r0 r1 r2; have fr0 := hr.frozen 0; have fr1 := hr.frozen 1; have fr2 := hr.frozen 2; have ly := hy.lt; have lr := hr.lt)
          refine bodyPost_ret (v := .agg #[(.slice Q0 n0 c0), (.slice Q1 n1 c1), (.slice Q9 n9 c9)]) (by simp [results, Try.results49, go_sem, r0, r1, r2, y0, y1, y2, ly, lr]) rfl ?_
          have hz9 := hk9.size
          have hz4 := bA.size
          simp only [World.size_alloc] at hz9 hz4
          have hne9 : ∀ g, ob (.slice Q9 n9 c9) g → ob (.slice Q2 n2 c2) g ∨ w.heap.size + 4 ≤ g := fun g hg => (hat9 g hg).imp id fun h => by have := h.1; simp only [World.size_alloc] at this; omega
          have hR9 : RAt w9 F K A (D ++ [T.mk 4 n s l]) (.slice Q0 n0 c0) (.slice Q1 n1 c1) (.slice Q9 n9 c9) := by
            refine ⟨hR4.k.block fun g hg => hk9.block g (hR4.lt g (.inl hg)) (fun e => (hR.ne g e).2.1 hg), txt_block hR4.a fun g hg => hk9.block g (hR4.lt g (.inr (.inl hg))) (fun e => (hR.ne g e).2.2 hg), ho9, fun g hg => ?_, fun g hg => ?_⟩
            · rcases hne9 g hg with h | h
              · exact hR.ne g h
              · exact ⟨fun e => by have := hR.lt g (.inr (.inr (.inr e))); omega, fun e => by have := hR.lt g (.inl e); omega, fun e => by have := hR.lt g (.inr (.inl e)); omega⟩
            · rcases hg with hg | hg | hg | hg
              · have := hR.lt g (.inl hg); omega
              · have := hR.lt g (.inr (.inl hg)); omega
              · exact ho9.lt g hg
              · have := hR.lt g (.inr (.inr (.inr hg))); omega
          exact tk_end hR9 ((Keep.of_below (b1.trans (bA.mono b1.size))).trans hk9 (fun g hg _ => hg)) (keep4 _ _ _ _ _ _ _ _) hok.box (fun x hx => by rcases List.mem_append.1 hx with h | h; exact hBx x h; (rw [List.mem_singleton] at h; subst h; rfl)) (by rw [List.append_assoc]; show sizeL (D ++ T.mk 4 n s l :: R) ≤ _; omega) (fun g hg => by rcases hg with hg | hg | hg | hg; (have := hR.lt g (.inl hg); omega); (have := hR.lt g (.inr (.inl hg)); omega); (rcases hne9 g hg with h | h; (have := hR.lt g (.inr (.inr (.inl h))); omega); omega); (have := hR.lt g (.inr (.inr (.inr hg))); omega)) (fun g hg => (hne9 g hg).imp id fun h => by omega) (fun g hg => by rcases hg with hg | hg | hg; exact .inl (.inl hg); exact .inl (.inr (.inl hg)); (rcases hne9 g hg with h | h; exact .inl (.inr (.inr h)); exact .inr (by omega)))
        · by_cases k5 : k = 5
          · subst k5
            have x0 := ((Blk.new w 27 #[v0, v1, v2]).alloc (.cells #[.int .i64 5, .int .u64 n, .string s, .slice B l.length c] 39)).alloc (.cells #[.slice none 0 0, .slice none 0 0, .slice none 0 0] 27)
            have x1 := (Blk.new (w.alloc (.cells #[v0, v1, v2] 27)) 39 #[.int .i64 5, .int .u64 n, .string s, .slice B l.length c]).alloc (.cells #[.slice none 0 0, .slice none 0 0, .slice none 0 0] 27)
            have x2 := Blk.new ((w.alloc (.cells #[v0, v1, v2] 27)).alloc (.cells #[.int .i64 5, .int .u64 n, .string s, .slice B l.length c] 39)) 27 #[.slice none 0 0, .slice none 0 0, .slice none 0 0]
            simp only [World.size_alloc] at x1 x2
            have b1 : Below w.heap.size w (((w.alloc (.cells #[v0, v1, v2] 27)).alloc (.cells #[.int .i64 5, .int .u64 n, .string s, .slice B l.length c] 39)).alloc (.cells #[.slice none 0 0, .slice none 0 0, .slice none 0 0] 27)) := (((Below.refl _ _).alloc (Nat.le_refl _) _).alloc (by simp) _).alloc (by simp; omega) _
            have hR1 := hR.below b1
            have hsz : (((w.alloc (.cells #[v0, v1, v2] 27)).alloc (.cells #[.int .i64 5, .int .u64 n, .string s, .slice B l.length c] 39)).alloc (.cells #[.slice none 0 0, .slice none 0 0, .slice none 0 0] 27)).heap.size = w.heap.size + 3 := by simp
            obtain ⟨Q0, n0, c0, e0⟩ := ints_shape hR.k
            obtain ⟨Q1, n1, c1, e1⟩ := txt_shape hR.a
            obtain ⟨Q2, n2, c2, e2⟩ := trow_shape hR.d
            subst e0; subst e1; subst e2
            have hlow : ∀ g, (ob (.slice Q0 n0 c0) g ∨ ob (.slice Q1 n1 c1) g ∨ ob (.slice Q2 n2 c2) g ∨ F g) → g < w.heap.size := hR.lt
            have hFv : ∀ g, F g → ¬ ob (.slice Q2 n2 c2) g := fun g hg e => (hR.ne g e).1 hg
            have hll : l.length ≤ 1000000 := by have := len_le_size l; omega
            have hok0 := hok.row rfl
            have HOK := lies.lay hok0
            have hx00 := x0
            have hrr := x2
            clear hok
            go_enter Try.func49, Try.ntmps49
            go_wp2_with fail
            go_loopw [38] (fun i wr => RHead w F P R (sizeL D + (sizeL l + 1) + sizeL R) l (.slice Q0 n0 c0) (.slice Q1 n1 c1) (.slice Q2 n2 c2) i wr) (fun i _ => l.length - (intOf i).toNat)
            case atStart => exact ⟨0, K, A, D, _, _, _, Nat.zero_le _, rfl, hR1, HOK.out, hBx, (by rw [List.drop_zero, sizeL_app, sizeL_app]; omega), Keep.of_below b1, fun g hg => .inl hg, fun g hg => .inl hg, x0, x2⟩
            case round =>
              obtain ⟨j, K1, A1, D1, u0, u1, u2, hj, rfl, hRr, hokr, hBxr, hNr, hkr, ho2r, hobr, hyr, hzr⟩ := hrel
              obtain ⟨R0, m0, d0, e0⟩ := ints_shape hRr.k
              obtain ⟨R1, m1, d1, e1⟩ := txt_shape hRr.a
              obtain ⟨R2, m2, d2, e2⟩ := trow_shape hRr.d
              subst e0; subst e1; subst e2
              have y0 := hyr.cell 0
              have y1 := hyr.cell 1
              have y2 := hyr.cell 2
              simp at y0 y1 y2
              have fy0 := hyr.frozen 0
              have fy1 := hyr.frozen 1
              have fy2 := hyr.frozen 2
              have ly := hyr.lt
              by_cases hlt : j < l.length
              · have hag : Agree w wr F := hkr.agree fun g hg => ⟨hlow g (.inr (.inr (.inr hg))), hFv g hg⟩
                have hdr : l.drop j = l[j] :: l.drop (j + 1) := List.drop_eq_getElem_cons hlt
                rw [hdr] at hokr hNr
                have hjs : l[j].size ≤ N := by
                  have h1 := size_get l j hlt
                  simp only [T.size] at hN
                  omega
                obtain ⟨b, off, A', c', rfl, hFb, hTx, z0, z1, z2, z3⟩ := tf_cells (hRd.agree hag) (TLF.agree hag _ _ hLd) hlt
                generalize l[j] = x at *
                have bA := (Below.refl wr.heap.size wr).alloc (Nat.le_refl _) (.cells #[.int .i64 x.k, .int .u64 x.n, .string x.s, .slice A' x.l.length c'] 39)
                have hcall := ih x A' c' F P (l.drop (j + 1) ++ R) K1 A1 D1 _ _ _ _ hjs (hRr.below bA) hBxr (by simpa using hokr) hP (TF.agree (Agree.of_below bA fun g hg => hRr.lt g (.inr (.inr (.inr hg)))) _ _ hTx)
                have hy5 := hyr.below bA hyr.lt
                have hz5 := hzr.below bA hzr.lt
                have HC := lies.lay hcall
                have HN := lies.lay hNr
                clear hcall hokr hNr hdr hag HOK hx00 hrr x0 x1 x2 hR1 b1 hok0 hTx hjs
                go_wp2_with fail
                refine HC.out.mono ?_
                rintro e w6 ⟨K6, A6, D6, q0, q1, q2, rfl, hR6, hok6, hBx6, hN6, hk6, ho6, hob6⟩
                obtain ⟨S0, k0, f0, e0⟩ := ints_shape hR6.k
                obtain ⟨S1, k1, f1, e1⟩ := txt_shape hR6.a
                obtain ⟨S2, k2', f2, e2⟩ := trow_shape hR6.d
                subst e0; subst e1; subst e2
                have nyw : ¬ ob (.slice R2 m2 d2) w.heap.size := fun e => by rcases ho2r _ e with h | h; (have := hlow _ (.inr (.inr (.inl h))); omega); omega
                have nzw : ¬ ob (.slice R2 m2 d2) (w.heap.size + 1 + 1) := fun e => by rcases ho2r _ e with h | h; (have := hlow _ (.inr (.inr (.inl h))); omega); omega
                have hy6 := hk6.blk hy5 nyw
                have hz6 := hk6.blk hz5 nzw
                have y0' := hy6.cell 0
                have y1' := hy6.cell 1
                have y2' := hy6.cell 2
                simp at y0' y1' y2'
                have gy0 := hy6.frozen 0
                have gy1 := hy6.frozen 1
                have gy2 := hy6.frozen 2
                have ly6 := hy6.lt
                have e7 : IntKind.i64.wrap ((j : Int) + 1) = (j : Int) + 1 := IntWalk.i64_in _ (by omega)
                clear y0 y1 y2 fy0 fy1 fy2 z0 z1 z2 z3
                go_wp2_with fail
                have hwz := hkr.size
                have hwr := bA.size
                have hb6 : ∀ g, (ob (.slice S0 k0 f0) g ∨ ob (.slice S1 k1 f1) g ∨ ob (.slice S2 k2' f2) g) → (ob (.slice Q0 n0 c0) g ∨ ob (.slice Q1 n1 c1) g ∨ ob (.slice Q2 n2 c2) g) ∨ w.heap.size + 3 ≤ g := fun g hg => by
                  rcases hob6 g hg with h | h
                  · exact hobr g h
                  · have := hzr.lt; exact .inr (by omega)
                have hk9 := keep_three w6 w.heap.size (.slice S0 k0 f0) (.slice S1 k1 f1) (.slice S2 k2' f2)
                have hkn := ((hkr.trans (Keep.of_below (S := ob (.slice Q2 n2 c2)) bA) (fun g hg _ => hg)).trans hk6 (fun g hg hlt2 => (ho2r g hg).elim id (fun h => by omega))).trans hk9 (fun g hg hlt2 => by omega)
                refine ⟨⟨j + 1, K6, A6, D6, _, _, _, hlt, by go_num, hR6.keep hk9 (fun g hg e => ?_), hok6, hBx6, Nat.le_trans hN6 HN.out, hkn, fun g hg => ?_, hb6, blk_three hy6, (Below.heap_setCell _ _ _ _ (by simp; omega)).trans ((Below.heap_setCell _ _ _ _ (by simp; omega)).trans ((Below.heap_setCell _ _ _ _ (by simp; omega)).trans hz6))⟩, by simp [intOf]; omega⟩
                · subst e
                  rcases hg with hg | hg | hg | hg
                  · rcases hb6 _ (.inl hg) with h | h
                    · have := hlow _ (by rcases h with h | h | h; exact .inl h; exact .inr (.inl h); exact .inr (.inr (.inl h))); omega
                    · omega
                  · rcases hb6 _ (.inr (.inl hg)) with h | h
                    · have := hlow _ (by rcases h with h | h | h; exact .inl h; exact .inr (.inl h); exact .inr (.inr (.inl h))); omega
                    · omega
                  · rcases hb6 _ (.inr (.inr hg)) with h | h
                    · have := hlow _ (by rcases h with h | h | h; exact .inl h; exact .inr (.inl h); exact .inr (.inr (.inl h))); omega
                    · omega
                  · have := hlow _ (.inr (.inr (.inr hg))); omega
                · rcases ho6 g hg with h | h
                  · exact ho2r g h
                  · have := hzr.lt; exact .inr (by omega)
              · have hje : j = l.length := by omega
                subst hje
                rw [List.drop_length, List.nil_append] at hokr hNr
                have r0 := hzr.cell 0
                have r1 := hzr.cell 1
                have r2 := hzr.cell 2
                simp at r0 r1 r2
                have fr0 := hzr.frozen 0
                have fr1 := hzr.frozen 1
                have fr2 := hzr.frozen 2
                have lr := hzr.lt
                have HK := lies.lay hokr
                have HN := lies.lay hNr
                clear hokr hNr HOK hx00 hrr x0 x1 x2 hR1 b1 hok0
                go_wp2_with fail
                refine bodyPost_ret (v := .agg #[.slice R0 m0 d0, .slice R1 m1 d1, .slice R2 m2 d2]) (by simp [results, Try.results49, go_sem, r0, r1, r2, y0, y1, y2, ly, lr]) rfl ?_
                exact tk_end hRr hkr ((keep_three wr (w.heap.size + 1 + 1) (.slice R0 m0 d0) (.slice R1 m1 d1) (.slice R2 m2 d2)).mono fun g hg _ => .inr hg) HK.out hBxr (by rw [hsm]; exact HN.out) (fun g hg => by rcases hg with hg | hg | hg | hg; (rcases hobr g (.inl hg) with h | h; (have := hlow _ (by rcases h with h | h | h; exact .inl h; exact .inr (.inl h); exact .inr (.inr (.inl h))); omega); omega); (rcases hobr g (.inr (.inl hg)) with h | h; (have := hlow _ (by rcases h with h | h | h; exact .inl h; exact .inr (.inl h); exact .inr (.inr (.inl h))); omega); omega); (rcases hobr g (.inr (.inr hg)) with h | h; (have := hlow _ (by rcases h with h | h | h; exact .inl h; exact .inr (.inl h); exact .inr (.inr (.inl h))); omega); omega); (have := hlow _ (.inr (.inr (.inr hg))); omega)) (fun g hg => (ho2r g hg).imp id fun h => by omega) (fun g hg => (hobr g hg).imp id fun h => by omega)
          · skip
            have x0 := ((Blk.new w 27 #[v0, v1, v2]).alloc (.cells #[.int .i64 k, .int .u64 n, .string s, .slice B l.length c] 39)).alloc (.cells #[.slice none 0 0, .slice none 0 0, .slice none 0 0] 27)
            have x1 := (Blk.new (w.alloc (.cells #[v0, v1, v2] 27)) 39 #[.int .i64 k, .int .u64 n, .string s, .slice B l.length c]).alloc (.cells #[.slice none 0 0, .slice none 0 0, .slice none 0 0] 27)
            have x2 := Blk.new ((w.alloc (.cells #[v0, v1, v2] 27)).alloc (.cells #[.int .i64 k, .int .u64 n, .string s, .slice B l.length c] 39)) 27 #[.slice none 0 0, .slice none 0 0, .slice none 0 0]
            simp only [World.size_alloc] at x1 x2
            have b1 : Below w.heap.size w (((w.alloc (.cells #[v0, v1, v2] 27)).alloc (.cells #[.int .i64 k, .int .u64 n, .string s, .slice B l.length c] 39)).alloc (.cells #[.slice none 0 0, .slice none 0 0, .slice none 0 0] 27)) := (((Below.refl _ _).alloc (Nat.le_refl _) _).alloc (by simp) _).alloc (by simp; omega) _
            have hR1 := hR.below b1
            have hsz : (((w.alloc (.cells #[v0, v1, v2] 27)).alloc (.cells #[.int .i64 k, .int .u64 n, .string s, .slice B l.length c] 39)).alloc (.cells #[.slice none 0 0, .slice none 0 0, .slice none 0 0] 27)).heap.size = w.heap.size + 3 := by simp
            obtain ⟨Q0, n0, c0, e0⟩ := ints_shape hR.k
            obtain ⟨Q1, n1, c1, e1⟩ := txt_shape hR.a
            obtain ⟨Q2, n2, c2, e2⟩ := trow_shape hR.d
            subst e0; subst e1; subst e2
            have d2 := b_ne k2
            have d3 := b_ne k3
            have d4 := b_ne k4
            have d5 := b_ne k5
            have H2 := lies.lay (And.intro k2 (And.intro k3 (And.intro k4 k5)))
            clear k2 k3 k4 k5
            have hr := x2
            have r0 := hr.cell 0
            have r1 := hr.cell 1
            have r2 := hr.cell 2
            simp at r0 r1 r2
            have fr0 := hr.frozen 0
            have fr1 := hr.frozen 1
            have fr2 := hr.frozen 2
            have lr := hr.lt
            go_enter Try.func49, Try.ntmps49
            go_wp2_with fail
            refine bodyPost_ret (v := .agg #[(.slice Q0 n0 c0), (.slice Q1 n1 c1), (.slice Q2 n2 c2)]) (by simp [results, Try.results49, go_sem, r0, r1, r2, lr]) rfl ?_
            have b9 : Below w.heap.size w (((w.alloc (.cells #[(.slice Q0 n0 c0), (.slice Q1 n1 c1), (.slice Q2 n2 c2)] 27)).alloc (.cells #[.int .i64 k, .int .u64 n, .string s, .slice B l.length c] 39)).alloc (.cells #[(.slice Q0 n0 c0), (.slice Q1 n1 c1), (.slice Q2 n2 c2)] 27)) := (((Below.refl _ _).alloc (Nat.le_refl _) _).alloc (by simp) _).alloc (by simp; omega) _
            obtain ⟨k2, k3, k4, k5⟩ := H2.out
            exact ⟨K, A, D, _, _, _, rfl, hR.below b9, hok.num k2 k3 k4 k5, hBx, by rw [sizeL_app]; omega, Keep.of_below b9, fun g hg => .inl hg, fun g hg => .inl hg⟩

end Go.Proofs.Ytjlglfjikfpboaa.thiefs
