/- The program's own count of a term: count.add; and Right. -/
import Derived.Test.YtoenkkbcpafanaaA30


namespace Go.Proofs.Ytoenkkbcpafanaa.adds
set_option linter.unusedVariables false
set_option linter.unusedSimpArgs false
open Go.RowKit Go.Proofs.Ytoenkkbcpafanaa.base Go.Proofs.Ytoenkkbcpafanaa.tm Go.Proofs.Ytoenkkbcpafanaa.lies Go.Proofs.Ytoenkkbcpafanaa.counts Go.Proofs.Ytoenkkbcpafanaa.rights

/-- the count at block g -/
def Cnt (w : World) (g : Nat) (k d : Nat) (b : Bool) : Prop := Blk w g 353 #[.int .i64 k, .int .i64 d, .bool b]

/-- what the count is behind a term -/
def Done (W : World) (g : Nat) (sz dp k d D : Nat) (bad b : Bool) (w' : World) : Prop :=
  ∃ k' d' b', Cnt w' g k' d' b' ∧ W.grownBy w' (some g) ∧ (k + sz ≤ 4000 → k' = k + sz ∧ d' = max d (D + dp - 1) ∧ b' = (b || bad)) ∧ (4000 < k + sz → k' = 4001)

/-- at a loop's head -/
def CHead (W : World) (g : Nat) (t : T) (k d D : Nat) (b : Bool) (i : Value) (wr : World) : Prop :=
  ∃ j : Nat, j ≤ t.l.length ∧ i = .int .i64 j ∧ Done W g (sizeL (t.l.take j) + 1) (deepL (t.l.take j) + 1) k d D (!t.one || !shapedL (t.l.take j)) b wr

theorem grown_alloc {a b : World} {row : Option Nat} (h : a.grownBy b row) (o : Obj) : a.grownBy (b.alloc o) row := grown_below h ((Below.refl _ _).alloc (Nat.le_refl _) o)
theorem Cnt.later {w w' : World} {g k d : Nat} {b : Bool} (h : Cnt w g k d b) (hb : Below w.heap.size w w') : Cnt w' g k d b := Blk.below h hb h.lt
/-- the count behind its own three stores -/
theorem start1 {w : World} {g k d : Nat} {b : Bool} (hC : Cnt w g k d b) (k' d' : Nat) (b' : Bool) (o : Obj) :
    Cnt ((((w.setCell ⟨g, 0, none⟩ (.int .i64 k')).setCell ⟨g, 1, none⟩ (.int .i64 d')).setCell ⟨g, 2, none⟩ (.bool b')).alloc o) g k' d' b' ∧
      w.grownBy ((((w.setCell ⟨g, 0, none⟩ (.int .i64 k')).setCell ⟨g, 1, none⟩ (.int .i64 d')).setCell ⟨g, 2, none⟩ (.bool b')).alloc o) (some g) := by
  refine ⟨?_, grown_alloc (grown_trans (grown_trans (grown_set _ _ _ _) (grown_set _ _ _ _)) (grown_set _ _ _ _)) _⟩
  have h := ((Blk.put hC 0 (.int .i64 k')).put 1 (.int .i64 d')).put 2 (.bool b')
  exact Blk.alloc h o
theorem start2 {w w1 : World} {g k d : Nat} {b : Bool} (hC : Cnt w g k d b) (k' d' : Nat) (b' : Bool) (o : Obj)
    (hb : Below (((w.setCell ⟨g, 0, none⟩ (.int .i64 k')).setCell ⟨g, 1, none⟩ (.int .i64 d')).alloc o).heap.size (((w.setCell ⟨g, 0, none⟩ (.int .i64 k')).setCell ⟨g, 1, none⟩ (.int .i64 d')).alloc o) w1) :
    Cnt (w1.setCell ⟨g, 2, none⟩ (.bool b')) g k' d' b' ∧ w.grownBy (w1.setCell ⟨g, 2, none⟩ (.bool b')) (some g) := by
  have h := (Blk.put hC 0 (.int .i64 k')).put 1 (.int .i64 d')
  have h1 := (Blk.alloc h o).below hb (Blk.alloc h o).lt
  exact ⟨h1.put 2 (.bool b'), grown_trans (grown_below (grown_alloc (grown_trans (grown_set _ _ _ _) (grown_set _ _ _ _)) _) hb) (grown_set _ _ _ _)⟩
theorem head_start {W wr : World} {g k d D d' : Nat} {t : T} {b b' : Bool} (hC : Cnt wr g (k + 1) d' b') (hG : W.grownBy wr (some g)) (hk : k ≤ 4000) (hd : d' = max d D) (hb : b' = (b || !t.one)) : CHead W g t k d D b (.int .i64 ((0 : Nat) : Int)) wr :=
  ⟨0, Nat.zero_le _, rfl, k + 1, d', b', hC, hG, fun _ => ⟨by simp [sizeL], by simp [deepL]; omega, by simp [shapedL, hb]⟩, fun h => by simp [sizeL] at h; omega⟩
theorem Done.next {W wr w' : World} {g k d D : Nat} {t : T} {b : Bool} {j k' d' : Nat} {b' : Bool} (hj : j < t.l.length) (hG : W.grownBy wr (some g))
    (h1 : k + (sizeL (t.l.take j) + 1) ≤ 4000 → k' = k + (sizeL (t.l.take j) + 1) ∧ d' = max d (D + (deepL (t.l.take j) + 1) - 1) ∧ b' = (b || (!t.one || !shapedL (t.l.take j))))
    (hle : k + (sizeL (t.l.take j) + 1) ≤ 4000) (o : Obj) (hD : Done (wr.alloc o) g t.l[j].size t.l[j].deep k' d' (D + 1) (!t.l[j].shaped) b' w') :
    CHead W g t k d D b (.int .i64 ((j + 1 : Nat) : Int)) w' := by
  obtain ⟨rfl, rfl, rfl⟩ := h1 hle
  obtain ⟨k2, d2, b2, hC2, hG2, ha, hb⟩ := hD
  refine ⟨j + 1, hj, rfl, k2, d2, b2, hC2, grown_trans (grown_alloc hG o) hG2, fun h => ?_, fun h => ?_⟩
  · rw [sizeL_take _ _ hj] at h ⊢
    obtain ⟨e1, e2, e3⟩ := ha (by omega)
    refine ⟨by omega, ?_, ?_⟩
    · rw [e2, deepL_take _ _ hj]; omega
    · rw [e3, shapedL_take _ _ hj, Bool.not_and, Bool.or_assoc, Bool.or_assoc]
  · rw [sizeL_take _ _ hj] at h
    exact hb (by omega)

set_option maxRecDepth 100000 in
set_option maxHeartbeats 400000 in
theorem add_any (N : Nat) : ∀ (t : T) (v : Value) (g k d D B : Nat) (b : Bool) (x : Int) (w : World), t.size ≤ N → Lies w B t v → B ≤ g → x = (D : Int) → Cnt w g k d b → D ≤ k + 1 → k ≤ 4000 →
    Calls Try.prog 267 #[.pointer (some ⟨g, 0, none⟩), T.val t v, .int .i64 x] w fun e w' => e = .returned (.tuple #[]) ∧ Done w g t.size t.deep k d D (!t.shaped) b w' := by
  induction N with
  | zero => intro t v g k d D B b x w h; have := size_pos t; omega
  | succ N ih =>
    intro t v g k d D B b x w hN hL hBg hx hC hD hk4
    subst hx
    obtain ⟨A, c, xs, rfl, hk, hn, hs, hlc, hc, hr, hl⟩ := hL.open_
    have HS := lay (size_eq t)
    have HD := lay (deep_eq t)
    have HP := lay (shaped_eq t)
    have hone := fun wx => formed_any t A c wx hs (by omega)
    have hgl := hC.lt
    have x0 := hC.cell 0
    have x1 := hC.cell 1
    have x2 := hC.cell 2
    have f0 := hC.frozen 0
    have f1 := hC.frozen 1
    have f2 := hC.frozen 2
    simp at x0 x1 x2
    cases b with
    | true =>
      by_cases hd : d < D
      · have hS := start1 hC (k + 1) D true (.cells #[.int .i64 t.k, .int .u64 t.n, .string t.s, .slice A t.l.length c] 273)
        go_enter Try.func267, Try.ntmps267
        go_wp2_with fail
        go_loopw [39] (fun i wr => CHead w g t k d D true i wr) (fun i _ => t.l.length - (intOf i).toNat)
        case atStart => exact head_start hS.1 hS.2 hk4 (by omega) (by simp)
        case round =>
          obtain ⟨j, hj, rfl, k', d', b', hC', hG, h1, h2⟩ := hrel
          have H1 := Lib.hid h1
          have H2 := Lib.hid h2
          clear h1 h2
          have hgl' := hC'.lt
          have hsz := hG.size
          have y0 := hC'.cell 0
          simp at y0
          by_cases hlt : j < t.l.length
          · have hkeep : ∀ p : Addr, p.block < B → wr.cell? p = w.cell? p := fun p hp => World.cell?_of_block (hG.block p.block (by omega) (by simp; omega))
            obtain ⟨b0, off, A', c', rfl, hbl, hv, c0, c1, c2, c3⟩ := at_cells (hr.keep hkeep) (LiesL.keep hkeep _ _ hl) hlt
            clear hkeep
            have hg := size_get t.l j hlt
            by_cases hbig : 4000 < k + (sizeL (t.l.take j) + 1)
            · obtain rfl : k' = 4001 := H2.out hbig
              go_wp2_with fail
              refine bodyPost_ret (results_none rfl _ _ _) rfl ⟨rfl, 4001, d', b', Blk.alloc hC' _, grown_alloc hG _, fun h => ?_, fun _ => rfl⟩
              have := HS.out; omega
            · have hk4' : k' ≤ 4000 := by have := (H1.out (by omega)).1; omega
              have hD' : D + 1 ≤ k' + 1 := by have := (H1.out (by omega)).1; omega
              go_wp2_with (go_at_call 267; refine (ih t.l[j] _ g k' d' (D + 1) B b' _ _ (by have := HS.out; omega) (hv.alloc (by omega) _) hBg (by omega) (Blk.alloc hC' _) hD' hk4').mono ?_; rintro e w2 ⟨rfl, hdone⟩)
              exact ⟨Done.next hlt hG H1.out (by omega) _ hdone, by simp [intOf]; omega⟩
          · have hjl : t.l.take j = t.l := List.take_of_length_le (by omega)
            rw [hjl] at H1 H2
            go_wp2_with fail
            refine bodyPost_end (results_none rfl _ _ _) rfl ⟨rfl, k', d', b', hC', hG, fun h => ?_, fun h => ?_⟩
            · rw [HS.out] at h ⊢
              rw [HD.out, HP.out, Bool.not_and]
              exact H1.out h
            · rw [HS.out] at h
              exact H2.out h
      · have hS := start1 hC (k + 1) d true (.cells #[.int .i64 t.k, .int .u64 t.n, .string t.s, .slice A t.l.length c] 273)
        go_enter Try.func267, Try.ntmps267
        go_wp2_with fail
        go_loopw [39] (fun i wr => CHead w g t k d D true i wr) (fun i _ => t.l.length - (intOf i).toNat)
        case atStart => exact head_start hS.1 hS.2 hk4 (by omega) (by simp)
        case round =>
          obtain ⟨j, hj, rfl, k', d', b', hC', hG, h1, h2⟩ := hrel
          have H1 := Lib.hid h1
          have H2 := Lib.hid h2
          clear h1 h2
          have hgl' := hC'.lt
          have hsz := hG.size
          have y0 := hC'.cell 0
          simp at y0
          by_cases hlt : j < t.l.length
          · have hkeep : ∀ p : Addr, p.block < B → wr.cell? p = w.cell? p := fun p hp => World.cell?_of_block (hG.block p.block (by omega) (by simp; omega))
            obtain ⟨b0, off, A', c', rfl, hbl, hv, c0, c1, c2, c3⟩ := at_cells (hr.keep hkeep) (LiesL.keep hkeep _ _ hl) hlt
            clear hkeep
            have hg := size_get t.l j hlt
            by_cases hbig : 4000 < k + (sizeL (t.l.take j) + 1)
            · obtain rfl : k' = 4001 := H2.out hbig
              go_wp2_with fail
              refine bodyPost_ret (results_none rfl _ _ _) rfl ⟨rfl, 4001, d', b', Blk.alloc hC' _, grown_alloc hG _, fun h => ?_, fun _ => rfl⟩
              have := HS.out; omega
            · have hk4' : k' ≤ 4000 := by have := (H1.out (by omega)).1; omega
              have hD' : D + 1 ≤ k' + 1 := by have := (H1.out (by omega)).1; omega
              go_wp2_with (go_at_call 267; refine (ih t.l[j] _ g k' d' (D + 1) B b' _ _ (by have := HS.out; omega) (hv.alloc (by omega) _) hBg (by omega) (Blk.alloc hC' _) hD' hk4').mono ?_; rintro e w2 ⟨rfl, hdone⟩)
              exact ⟨Done.next hlt hG H1.out (by omega) _ hdone, by simp [intOf]; omega⟩
          · have hjl : t.l.take j = t.l := List.take_of_length_le (by omega)
            rw [hjl] at H1 H2
            go_wp2_with fail
            refine bodyPost_end (results_none rfl _ _ _) rfl ⟨rfl, k', d', b', hC', hG, fun h => ?_, fun h => ?_⟩
            · rw [HS.out] at h ⊢
              rw [HD.out, HP.out, Bool.not_and]
              exact H1.out h
            · rw [HS.out] at h
              exact H2.out h
    | false =>
      by_cases hd : d < D
      · have hSS := fun w1 => start2 (w1 := w1) hC (k + 1) D (!t.one) (.cells #[.int .i64 t.k, .int .u64 t.n, .string t.s, .slice A t.l.length c] 273)
        go_enter Try.func267, Try.ntmps267
        go_wp2_with (go_at_call 279; refine (hone _).mono ?_; rintro e w1 ⟨rfl, hb1⟩; have hS := hSS w1 hb1; obtain ⟨hc1, hf1⟩ := bcell hb1)
        clear hc1 hf1 hb1
        go_loopw [39] (fun i wr => CHead w g t k d D false i wr) (fun i _ => t.l.length - (intOf i).toNat)
        case atStart => exact head_start hS.1 hS.2 hk4 (by omega) (by simp)
        case round =>
          obtain ⟨j, hj, rfl, k', d', b', hC', hG, h1, h2⟩ := hrel
          have H1 := Lib.hid h1
          have H2 := Lib.hid h2
          clear h1 h2
          have hgl' := hC'.lt
          have hsz := hG.size
          have y0 := hC'.cell 0
          simp at y0
          by_cases hlt : j < t.l.length
          · have hkeep : ∀ p : Addr, p.block < B → wr.cell? p = w.cell? p := fun p hp => World.cell?_of_block (hG.block p.block (by omega) (by simp; omega))
            obtain ⟨b0, off, A', c', rfl, hbl, hv, c0, c1, c2, c3⟩ := at_cells (hr.keep hkeep) (LiesL.keep hkeep _ _ hl) hlt
            clear hkeep
            have hg := size_get t.l j hlt
            by_cases hbig : 4000 < k + (sizeL (t.l.take j) + 1)
            · obtain rfl : k' = 4001 := H2.out hbig
              go_wp2_with fail
              refine bodyPost_ret (results_none rfl _ _ _) rfl ⟨rfl, 4001, d', b', Blk.alloc hC' _, grown_alloc hG _, fun h => ?_, fun _ => rfl⟩
              have := HS.out; omega
            · have hk4' : k' ≤ 4000 := by have := (H1.out (by omega)).1; omega
              have hD' : D + 1 ≤ k' + 1 := by have := (H1.out (by omega)).1; omega
              go_wp2_with (go_at_call 267; refine (ih t.l[j] _ g k' d' (D + 1) B b' _ _ (by have := HS.out; omega) (hv.alloc (by omega) _) hBg (by omega) (Blk.alloc hC' _) hD' hk4').mono ?_; rintro e w2 ⟨rfl, hdone⟩)
              exact ⟨Done.next hlt hG H1.out (by omega) _ hdone, by simp [intOf]; omega⟩
          · have hjl : t.l.take j = t.l := List.take_of_length_le (by omega)
            rw [hjl] at H1 H2
            go_wp2_with fail
            refine bodyPost_end (results_none rfl _ _ _) rfl ⟨rfl, k', d', b', hC', hG, fun h => ?_, fun h => ?_⟩
            · rw [HS.out] at h ⊢
              rw [HD.out, HP.out, Bool.not_and]
              exact H1.out h
            · rw [HS.out] at h
              exact H2.out h
      · have hSS := fun w1 => start2 (w1 := w1) hC (k + 1) d (!t.one) (.cells #[.int .i64 t.k, .int .u64 t.n, .string t.s, .slice A t.l.length c] 273)
        go_enter Try.func267, Try.ntmps267
        go_wp2_with (go_at_call 279; refine (hone _).mono ?_; rintro e w1 ⟨rfl, hb1⟩; have hS := hSS w1 hb1; obtain ⟨hc1, hf1⟩ := bcell hb1)
        clear hc1 hf1 hb1
        go_loopw [39] (fun i wr => CHead w g t k d D false i wr) (fun i _ => t.l.length - (intOf i).toNat)
        case atStart => exact head_start hS.1 hS.2 hk4 (by omega) (by simp)
        case round =>
          obtain ⟨j, hj, rfl, k', d', b', hC', hG, h1, h2⟩ := hrel
          have H1 := Lib.hid h1
          have H2 := Lib.hid h2
          clear h1 h2
          have hgl' := hC'.lt
          have hsz := hG.size
          have y0 := hC'.cell 0
          simp at y0
          by_cases hlt : j < t.l.length
          · have hkeep : ∀ p : Addr, p.block < B → wr.cell? p = w.cell? p := fun p hp => World.cell?_of_block (hG.block p.block (by omega) (by simp; omega))
            obtain ⟨b0, off, A', c', rfl, hbl, hv, c0, c1, c2, c3⟩ := at_cells (hr.keep hkeep) (LiesL.keep hkeep _ _ hl) hlt
            clear hkeep
            have hg := size_get t.l j hlt
            by_cases hbig : 4000 < k + (sizeL (t.l.take j) + 1)
            · obtain rfl : k' = 4001 := H2.out hbig
              go_wp2_with fail
              refine bodyPost_ret (results_none rfl _ _ _) rfl ⟨rfl, 4001, d', b', Blk.alloc hC' _, grown_alloc hG _, fun h => ?_, fun _ => rfl⟩
              have := HS.out; omega
            · have hk4' : k' ≤ 4000 := by have := (H1.out (by omega)).1; omega
              have hD' : D + 1 ≤ k' + 1 := by have := (H1.out (by omega)).1; omega
              go_wp2_with (go_at_call 267; refine (ih t.l[j] _ g k' d' (D + 1) B b' _ _ (by have := HS.out; omega) (hv.alloc (by omega) _) hBg (by omega) (Blk.alloc hC' _) hD' hk4').mono ?_; rintro e w2 ⟨rfl, hdone⟩)
              exact ⟨Done.next hlt hG H1.out (by omega) _ hdone, by simp [intOf]; omega⟩
          · have hjl : t.l.take j = t.l := List.take_of_length_le (by omega)
            rw [hjl] at H1 H2
            go_wp2_with fail
            refine bodyPost_end (results_none rfl _ _ _) rfl ⟨rfl, k', d', b', hC', hG, fun h => ?_, fun h => ?_⟩
            · rw [HS.out] at h ⊢
              rw [HD.out, HP.out, Bool.not_and]
              exact H1.out h
            · rw [HS.out] at h
              exact H2.out h

theorem right_of {t : T} {k' d' : Nat} {b' : Bool} (h1 : 0 + t.size ≤ 4000 → k' = 0 + t.size ∧ d' = max 0 (1 + t.deep - 1) ∧ b' = (false || !t.shaped)) (h2 : 4000 < 0 + t.size → k' = 4001) :
    (4000 < k' → t.right = 23) ∧ (k' ≤ 4000 → 12 < d' → t.right = 22) ∧ (k' ≤ 4000 → d' ≤ 12 → b' = true → t.right = 25) ∧ (k' ≤ 4000 → d' ≤ 12 → b' = false → t.right = 0) := by
  unfold T.right
  by_cases h : 4000 < t.size
  · have := h2 (by omega)
    rw [if_pos h]
    exact ⟨fun _ => rfl, fun _ => by omega, fun _ => by omega, fun _ => by omega⟩
  · obtain ⟨rfl, rfl, rfl⟩ := h1 (by omega)
    rw [if_neg h]
    refine ⟨fun _ => by omega, fun _ hd => by rw [if_pos (by omega)], fun _ hd hb => ?_, fun _ hd hb => ?_⟩
    · rw [if_neg (by omega), if_neg (by simpa using hb)]
    · rw [if_neg (by omega), if_pos (by simpa using hb)]
theorem below_two {w w' : World} {o o' : Obj} (h : ((w.alloc o).alloc o').grownBy w' (some (w.heap.size + 1))) : Below w.heap.size w w' :=
  (((Below.refl _ _).alloc (Nat.le_refl _) o).alloc (by simp) o').grown h (by simp; omega) (fun k hk => by simp at hk; omega)

set_option maxRecDepth 100000 in
set_option maxHeartbeats 400000 in
theorem right_any (t : T) (v : Value) (w : World) (hL : Lies w w.heap.size t v) :
    Calls Try.prog 255 #[T.val t v] w fun e w' => e = .returned (.int .i64 t.right) ∧ Below w.heap.size w w' := by
  obtain ⟨A, c, xs, rfl, hk, hn, hs, hlc, hc, hr, hl⟩ := hL.open_
  have hL1 := (hL.alloc (Nat.le_refl _) (.cells #[.int .i64 t.k, .int .u64 t.n, .string t.s, .slice A t.l.length c] 273)).alloc (by simp) (.cells #[.int .i64 0, .int .i64 0, .bool false] 353)
  have hC : Cnt ((w.alloc (.cells #[.int .i64 t.k, .int .u64 t.n, .string t.s, .slice A t.l.length c] 273)).alloc (.cells #[.int .i64 0, .int .i64 0, .bool false] 353)) (w.heap.size + 1) 0 0 false := by
    have := Blk.new (w.alloc (.cells #[.int .i64 t.k, .int .u64 t.n, .string t.s, .slice A t.l.length c] 273)) 353 #[.int .i64 0, .int .i64 0, .bool false]
    simpa [Cnt] using this
  have hadd := add_any t.size t _ (w.heap.size + 1) 0 0 1 w.heap.size false 1 _ (Nat.le_refl _) hL1 (by omega) rfl hC (by omega) (by omega)
  go_enter Try.func255, Try.ntmps255
  go_wp2_with (go_at_call 267; refine hadd.mono ?_; rintro e w2 ⟨rfl, k', d', b', hC2, hG, h1, h2⟩; have H1 := Lib.hid h1; have H2 := Lib.hid h2; clear h1 h2; have z0 := hC2.cell 0; have z1 := hC2.cell 1; have z2 := hC2.cell 2; simp at z0 z1 z2)
  · go_ret
    exact ⟨ret_int ((right_of H1.out H2.out).1 (by omega)).symm, below_two hG⟩
  · go_ret
    exact ⟨ret_int ((right_of H1.out H2.out).2.1 (by omega) (by omega)).symm, below_two hG⟩
  · go_ret
    exact ⟨ret_int ((right_of H1.out H2.out).2.2.1 (by omega) (by omega) (by assumption)).symm, below_two hG⟩
  · go_ret
    exact ⟨ret_int ((right_of H1.out H2.out).2.2.2 (by omega) (by omega) (by assumption)).symm, below_two hG⟩
end Go.Proofs.Ytoenkkbcpafanaa.adds
