/- The walk of BookOwn. -/
import Derived.Test.YtnhfpbllgjhcdaaBkU


namespace Go.Proofs.Ytnhfpbllgjhcdaa.books
set_option linter.unusedVariables false
set_option linter.unusedSimpArgs false
open Go.RowKit Go.Shelf Go.Proofs.Ytnhfpbllgjhcdaa.base Go.Proofs.Ytnhfpbllgjhcdaa.quotas Go.Proofs.Ytnhfpbllgjhcdaa.vers Go.Proofs.Ytnhfpbllgjhcdaa.nodes Go.Proofs.Ytnhfpbllgjhcdaa.trees Go.Proofs.Ytnhfpbllgjhcdaa.texts

/-! ### rows that are written over stay rows -/
def RowB (w : World) (t : TypeId) (k : Nat) (A : Option Addr) (n : Nat) (B : Nat) : Prop := n = 0 ∨ ∃ g cs, A = some ⟨g, 0, none⟩ ∧ B ≤ g ∧ Blk w g t cs ∧ n * k ≤ cs.size
theorem blkb_set {w : World} {g : Nat} {t : TypeId} {cs : Array Value} (h : Blk w g t cs) (b o : Nat) (u : Value) : ∃ cs', Blk (w.setCell ⟨b, o, none⟩ u) g t cs' ∧ cs'.size = cs.size := by
  by_cases e : g = b
  · subst e; exact ⟨_, h.put o u, by simp⟩
  · exact ⟨cs, h.far (p := ⟨b, o, none⟩) e u, rfl⟩
theorem RowB.set {w : World} {t : TypeId} {k : Nat} {A : Option Addr} {n B : Nat} (h : RowB w t k A n B) (b o : Nat) (u : Value) : RowB (w.setCell ⟨b, o, none⟩ u) t k A n B := by
  rcases h with h | ⟨g, cs, e, hp, hb, hs⟩
  · exact .inl h
  · obtain ⟨cs', h1, h2⟩ := blkb_set hb b o u
    exact .inr ⟨g, cs', e, hp, h1, by omega⟩
theorem RowB.next {w w' : World} {t : TypeId} {k : Nat} {A : Option Addr} {n B : Nat} (h : RowB w t k A n B) (hb : Below w.heap.size w w') : RowB w' t k A n B := by
  rcases h with h | ⟨g, cs, e, hp, hB, hs⟩
  · exact .inl h
  · exact .inr ⟨g, cs, e, hp, hB.below hb hB.lt, hs⟩
theorem RowB.of {w : World} {t : TypeId} {k lo n B : Nat} {A : Option Addr} {c : Nat} {xs : List Value} (h : w.ownsRow lo t k (.slice A n c) n xs) (hp : ∀ g, (Value.slice A n c).ownBlock = some g → B ≤ g) : RowB w t k A n B := by
  obtain ⟨hx, h1⟩ := h
  rcases h1 with ⟨e, hn⟩ | ⟨g, cap, cur, e, hg, hb, hc, h2, hs, ht⟩
  · exact .inl hn
  · injection e with e1 e2 e3
    subst e1 e3
    exact .inr ⟨g, cur, rfl, hp g rfl, hb, by rw [hs]; exact Nat.mul_le_mul_right _ hc⟩
theorem blkb_ne {w : World} {g g' : Nat} {t t' : TypeId} {cs cs' : Array Value} (h : Blk w g t cs) (h' : Blk w g' t' cs') (ht : t ≠ t') : g ≠ g' := fun e => by
  subst e
  unfold Blk at h h'
  rw [h] at h'
  injection h' with h'
  injection h' with _ h'
  exact ht h'
theorem belowb_set {B : Nat} {w0 wr : World} (h : Below B w0 wr) {b : Nat} (hb : B ≤ b) (o : Nat) (u : Value) : Below B w0 (wr.setCell ⟨b, o, none⟩ u) :=
  ⟨h.os, h.tape, h.output, by simpa using h.size, fun k hk => by
    rw [Below.heap_setCell _ _ _ _ (by simp; omega)]
    exact h.block k hk⟩
/-- answered secrets that are written over -/
structure SW (B : Nat) (w0 : World) (le : List E) (A : Option Addr) (wr : World) : Prop where
  bel : Below B w0 wr
  row : le.length = 0 ∨ ∃ g cs, A = some ⟨g, 0, none⟩ ∧ B ≤ g ∧ Blk wr g 45 cs ∧ ∀ i (h : i < le.length), cs[i * 2]? = some (.string le[i].s) ∧ cs[i * 2 + 1]? = some (.slice le[i].A le[i].l.length le[i].c)
  vers : ∀ y ∈ le, RowB wr 68 3 y.A y.l.length B
theorem SW.set {B : Nat} {w0 wr : World} {le : List E} {A : Option Addr} (h : SW B w0 le A wr) {b : Nat} {cs : Array Value} (hb : Blk wr b 68 cs) (hp : B ≤ b) (o : Nat) (u : Value) : SW B w0 le A (wr.setCell ⟨b, o, none⟩ u) := by
  obtain ⟨h1, h2, h3⟩ := h
  refine ⟨belowb_set h1 hp o u, ?_, fun y hy => (h3 y hy).set b o u⟩
  rcases h2 with h2 | ⟨g, cs2, e, hpg, hbg, hs⟩
  · exact .inl h2
  · exact .inr ⟨g, cs2, e, hpg, hbg.far (p := ⟨b, o, none⟩) (blkb_ne hbg hb (by decide)) u, hs⟩
theorem SW.next {B : Nat} {w0 wr w' : World} {le : List E} {A : Option Addr} (h : SW B w0 le A wr) (hB : B ≤ w0.heap.size) (hb : Below wr.heap.size wr w') : SW B w0 le A w' := by
  obtain ⟨h1, h2, h3⟩ := h
  refine ⟨h1.trans (hb.mono (Nat.le_trans hB h1.size)), ?_, fun y hy => (h3 y hy).next hb⟩
  rcases h2 with h2 | ⟨g, cs2, e, hpg, hbg, hs⟩
  · exact .inl h2
  · exact .inr ⟨g, cs2, e, hpg, hbg.below hb hbg.lt, hs⟩
theorem SW.of {B C c : Nat} {w0 w : World} {le : List E} {A : Option Addr} (h : OwnEF w (fun g => B ≤ g ∧ g < C) le (.slice A le.length c)) (hb : Below B w0 w) : SW B w0 le A w := by
  refine ⟨hb, ?_, fun y hy => RowB.of (h.2.2.2 y hy).1.1 (fun g hg => ((h.2.2.2 y hy).1.2.2.2 g hg).1.1)⟩
  obtain ⟨hx, h1⟩ := h.1
  rcases h1 with ⟨_, hn⟩ | ⟨g, cap, cur, e, hg, hb, hc, h2, hs, ht⟩
  · exact .inl hn
  · injection e with e1 e2 e3
    subst e1 e3
    refine .inr ⟨g, cur, rfl, (h.2.2.1 g rfl).1, hb, fun i hi => ?_⟩
    have h5 := cellsE_at le hi
    constructor
    · have h6 := h5.1
      rw [← ht, List.getElem?_take] at h6
      split at h6
      · rw [show i * 2 = 2 * i by omega]; simpa using h6
      · cases h6
    · have h6 := h5.2
      rw [← ht, List.getElem?_take] at h6
      split at h6
      · rw [show i * 2 + 1 = 2 * i + 1 by omega]; simpa using h6
      · cases h6

set_option maxRecDepth 100000 in
set_option maxHeartbeats 4000000 in
theorem own_no (q : Qt) (bs : List BL) (A : Option Addr) (c : Nat) (ops : List O) (A2 : Option Addr) (c2 : Nat) (w : World) (hk : ¬ q.ok) :
    Calls Try.prog 8 #[.agg #[.int .i64 q.a, .int .i64 q.b, .int .i64 q.c, .int .i64 q.d, .int .i64 q.e, .int .i64 q.f, .int .i64 q.h], .slice A bs.length c, .slice A2 ops.length c2] w fun e w' => e = .returned (.bool true) ∧ Below w.heap.size w w' := by
  have hm := fun w' => made_no q bs A c w' hk
  have hr := fun w' => quotas.refRight_no q.a q.b q.c q.d q.e q.f q.h w' hk
  obtain ⟨kq, b0, z0⟩ := boxesQ q w
  go_enter Try.func8, Try.ntmps8
  go_wp2_with fail
  generalize (w.alloc (.cells #[.int .i64 q.a, .int .i64 q.b, .int .i64 q.c, .int .i64 q.d, .int .i64 q.e, .int .i64 q.f, .int .i64 q.h] 23)) = W at *
  refine (hm _).mono ?_
  rintro e1 w1 ⟨rfl, hb1⟩
  have b1 := b0.trans (hb1.mono b0.size)
  have kq1 := kq.below hb1 kq.lt
  obtain ⟨c0, c1, c2, c3, c4, c5, c6⟩ := qcells kq1
  go_wp2_with fail
  refine (hr _).mono ?_
  rintro e2 w2 ⟨rfl, hb2⟩
  have b2 := b1.trans (hb2.mono b1.size)
  go_wp2_with fail
  go_ret
  exact ⟨rfl, b2⟩

set_option maxRecDepth 100000 in
set_option maxHeartbeats 4000000 in
theorem own_ok (q : Qt) (bs : List BL) (A : Option Addr) (c : Nat) (ops : List O) (A2 : Option Addr) (c2 : Nat) (w : World) (hk : q.ok) (hB : Bs w w.heap.size bs A c) (hO : Os w w.heap.size ops A2 c2) :
    Calls Try.prog 8 #[.agg #[.int .i64 q.a, .int .i64 q.b, .int .i64 q.c, .int .i64 q.d, .int .i64 q.e, .int .i64 q.f, .int .i64 q.h], .slice A bs.length c, .slice A2 ops.length c2] w fun e w' => e = .returned (.bool true) ∧ Below w.heap.size w w' := by
  have hm := fun w' (h : Bs w' w'.heap.size bs A c) => made_ok q bs A c w' hk h
  have hI := made_inv hk bs
  generalize madeP q bs = b at hm hI
  have hLl := hI.inv.le hk
  have i1 := hI.play hk ops
  have hp := fun (W : World) (P1 m1 P2 m2 : Nat) (b2 : Bk) (wr : World) (h : Two W q P1 m1 b P2 m2 b2 wr) (A : Option Addr) (c : Nat) (hO : Os wr wr.heap.size ops A c) hA => h.play hk hI (by omega) hO hA
  have all0 := fun (W : World) (P m : Nat) (wr : World) (h : MdHead W q P m b wr) => h.all hk hI
  generalize playP q b ops = r at hp i1
  obtain ⟨b', er, at'⟩ := r
  simp only [] at hp i1
  have all1 := fun (W : World) (P m : Nat) (wr : World) (h : MdHead W q P m b' wr) => h.all hk i1
  have hr := fun w' => quotas.refRight_ok q.a q.b q.c q.d q.e q.f q.h w' hk
  obtain ⟨kq, b0, z0⟩ := boxesQ q w
  go_enter Try.func8, Try.ntmps8
  go_wp2_with fail
  generalize (w.alloc (.cells #[.int .i64 q.a, .int .i64 q.b, .int .i64 q.c, .int .i64 q.d, .int .i64 q.e, .int .i64 q.f, .int .i64 q.h] 23)) = W at *
  refine (hm _ (hB.at_world b0)).mono ?_
  rintro e1 w1 ⟨P1, m1, rfl, M1⟩
  have kq1 := kq.below M1.1 kq.lt
  obtain ⟨c0, c1, c2', c3, c4, c5, c6⟩ := qcells kq1
  clear hm
  go_wp2_with fail
  refine (hr _).mono ?_
  rintro e2 w2 ⟨rfl, hb2⟩
  have M2 := M1.below hb2
  clear hr M1 hb2 c0 c1 c2' c3 c4 c5 c6 kq1
  go_wp2_with fail
  refine (Two.of_copy M2).mono ?_
  rintro e3 w3 ⟨P2, m2, rfl, hb3, T3, hP2, hm2⟩
  have l3 := T3.symm.md.lt
  go_wp2_with fail
  refine (all0 _ _ _ _ T3.md).mono ?_
  rintro e4 w4 ⟨hb4, v4, le4, rfl, hle4, hO4⟩
  have T4 := T3.below hb4
  have z4 := hb4.size
  clear T3 hb3 M2
  go_wp2_with fail
  refine (all0 _ _ _ _ T4.md).mono ?_
  rintro e5 w5 ⟨hb5, v5, le5, rfl, hle5, hO5⟩
  have hl64 : le5.length ≤ 64 := by rw [← List.length_map (f := pe), hle5]; exact hLl
  obtain ⟨A5, c5, rfl, E5⟩ := hO5.es
  have S5 := SW.of hO5 hb5
  have hfy := vers.lay (fun y hy => (⟨(hO5.2.2.2 y hy).2, by have := (hO5.2.2.2 y hy).1.2.1; omega⟩ : y.s.size ≤ maxLen ∧ y.l.length ≤ 140737488355328))
  clear hO5 E5 hle5
  have hle4 := vers.lay hle4
  go_wp2_with fail
  go_loopw [40] (fun x wx => ∃ j : Nat, j ≤ le5.length ∧ x = .int .i64 (j : Int) ∧ SW w4.heap.size w4 le5 A5 wx) (fun x _ => le5.length - (intOf x).toNat)
  case atStart => exact ⟨0, Nat.zero_le _, rfl, S5⟩
  case round =>
    clear S5
    obtain ⟨i, hi, rfl, hW⟩ := hrel
    by_cases hil : i < le5.length
    · obtain ⟨gE, csE, rfl, hgE, hBE, hslE⟩ := (by
        rcases hW.row with h0 | h0
        · omega
        · exact h0 : ∃ g cs, A5 = some ⟨g, 0, none⟩ ∧ w4.heap.size ≤ g ∧ Blk wr g 45 cs ∧ ∀ i (h : i < le5.length), cs[i * 2]? = some (.string le5[i].s) ∧ cs[i * 2 + 1]? = some (.slice le5[i].A le5[i].l.length le5[i].c))
      have u1 := (hBE.cell (i * 2 + 1)).trans (hslE i hil).2
      have lE := hBE.lt
      have hys := hfy.out _ (List.getElem_mem hil)
      clear hslE hBE
      generalize hx : le5[i] = y at *
      have HX := vers.lay hx
      clear hx
      obtain ⟨ys, yl, yA, yc⟩ := y
      simp only at u1 hys
      obtain ⟨hys1, hys2⟩ := hys
      go_wp2_with fail
      go_loopw [49] (fun z wx => ∃ k : Nat, k ≤ yl.length ∧ z = .int .i64 (k : Int) ∧ SW w4.heap.size w4 le5 (some ⟨gE, 0, none⟩) wx) (fun z _ => yl.length - (intOf z).toNat)
      case atStart => exact ⟨0, Nat.zero_le _, rfl, hW⟩
      case round =>
        clear hW u1 lE
        obtain ⟨k, hkk, rfl, hW⟩ := hrel
        obtain ⟨csE, hBE, hsl0, hslE⟩ : ∃ cs, Blk wr gE 45 cs ∧ cs[i * 2]? = some (.string ys) ∧ cs[i * 2 + 1]? = some (.slice yA yl.length yc) := by
          rcases hW.row with h0 | ⟨g, cs, e, _, hB, hsl⟩
          · omega
          · cases e
            have := hsl i hil
            rw [HX.out] at this
            exact ⟨cs, hB, this.1, this.2⟩
        have u0 := (hBE.cell (i * 2)).trans hsl0
        have u1 := (hBE.cell (i * 2 + 1)).trans hslE
        have lE := hBE.lt
        by_cases hkl : k < yl.length
        · rcases hW.vers _ (HX.out ▸ List.getElem_mem hil) with h0 | ⟨gv, csv, hA, hgv, hBv, hsv⟩
          · simp only at h0; omega
          · simp only at hA hsv
            subst hA
            obtain ⟨x0, p0⟩ : ∃ v, wr.cell? ⟨gv, k * 3 + 1, none⟩ = some v := by
              rw [hBv.cell]
              exact ⟨_, Array.getElem?_eq_getElem (by omega)⟩
            have f0 := hBv.frozen (k * 3 + 1)
            have lv := hBv.lt
            have HW := vers.lay (fun u => hW.set hBv hgv (k * 3 + 1) u)
            clear hW hBE hsl0 hslE hBv hsv
            go_wp2_with fail
            exact ⟨⟨k + 1, hkl, by go_num, HW.out _⟩, by simp [intOf]; omega⟩
        · have hn9 : ¬ (k : Int) < (yl.length : Int) := by omega
          have hg := MdHead.get (T4.below hW.bel).md hys1
          clear hBE hsl0 hslE
          go_wp2_with fail
          refine hg.mono ?_
          rintro e6 w6 ⟨hb6, A6, c6, rfl, hX6⟩
          have S6 := hW.next (Nat.le_refl _) hb6
          have zw := hW.bel.size
          clear hg hW
          generalize getP b.L ys = r6 at *
          obtain ⟨s6, l6, h6⟩ := r6
          simp only [] at hX6
          have bZ : Below w6.heap.size w6 (w6.alloc (.cells #[.string s6, .slice A6 l6.length c6] 45)) := (Below.refl _ _).alloc (Nat.le_refl _) _
          have k6 := Blk.new w6 45 #[.string s6, .slice A6 l6.length c6]
          have S7 := S6.next (Nat.le_refl _) bZ
          have R6 := (RowB.of (B := w4.heap.size) hX6.1 (fun g hg => by have := (hX6.2.2.2 g hg).1; omega)).next bZ
          simp only [] at R6
          have hl6 : l6.length ≤ 140737488355328 := by have := hX6.2.1; simp only [] at this; omega
          clear S6 hX6 bZ hb6
          generalize hWY : w6.alloc (.cells #[.string s6, .slice A6 l6.length c6] 45) = WY at *
          have x6 := k6.cell 1
          simp only [List.getElem?_toArray, List.getElem?_cons_zero, List.getElem?_cons_succ] at x6
          have l6k := k6.lt
          go_wp2_with fail
          go_loopw [74] (fun z wx => ∃ k : Nat, k ≤ l6.length ∧ z = .int .i64 (k : Int) ∧ SW w4.heap.size w4 le5 (some ⟨gE, 0, none⟩) wx ∧ RowB wx 68 3 A6 l6.length w4.heap.size ∧ Blk wx w6.heap.size 45 #[.string s6, .slice A6 l6.length c6]) (fun z _ => l6.length - (intOf z).toNat)
          case atStart => exact ⟨0, Nat.zero_le _, rfl, S7, R6, k6⟩
          case round =>
            clear S7 R6 k6 x6 l6k u0 u1 lE
            obtain ⟨k, hkk, rfl, hW, hR, hk6⟩ := hrel
            have x6 := hk6.cell 1
            simp only [List.getElem?_toArray, List.getElem?_cons_zero, List.getElem?_cons_succ] at x6
            have l6k := hk6.lt
            by_cases hkl : k < l6.length
            · rcases id hR with h0 | ⟨gv, csv, hA, hgv, hBv, hsv⟩
              · omega
              · subst hA
                obtain ⟨x0, p0⟩ : ∃ v, wr.cell? ⟨gv, k * 3, none⟩ = some v := by
                  rw [hBv.cell]
                  exact ⟨_, Array.getElem?_eq_getElem (by omega)⟩
                have f0 := hBv.frozen (k * 3)
                have lv := hBv.lt
                have HW := vers.lay (fun u => (⟨hW.set hBv hgv (k * 3) u, hR.set gv (k * 3) u, hk6.far (p := ⟨gv, k * 3, none⟩) (blkb_ne hk6 hBv (by decide)) u⟩ : SW w4.heap.size w4 le5 (some ⟨gE, 0, none⟩) (wr.setCell ⟨gv, k * 3, none⟩ u) ∧ RowB (wr.setCell ⟨gv, k * 3, none⟩ u) 68 3 (some ⟨gv, 0, none⟩) l6.length w4.heap.size ∧ Blk (wr.setCell ⟨gv, k * 3, none⟩ u) w6.heap.size 45 #[.string s6, .slice (some ⟨gv, 0, none⟩) l6.length c6]))
                clear hW hR hk6 hBv hsv
                go_wp2_with fail
                exact ⟨⟨k + 1, hkl, by go_num, HW.out _⟩, by simp [intOf]; omega⟩
            · have hn9 : ¬ (k : Int) < (l6.length : Int) := by omega
              clear hR hk6
              go_wp2_with fail
              exact ⟨⟨i + 1, hil, by go_num, hW⟩, by simp [intOf]; omega⟩
    · have hn9 : ¬ (i : Int) < (le5.length : Int) := by omega
      have T := T4.below hW.bel
      have bT := b0.trans (T.1.mono b0.size)
      have hOs := hO.at_world bT
      have hOw := bc_below hO4 (Nat.le_refl _) hW.bel
      have zW := hW.bel.size
      clear hW T4 hb4 hb5 hO4
      go_wp2_with fail
      refine (hp _ _ _ _ _ _ _ T.symm _ _ hOs (fun hn g off e => by have := os_lt hO hn g off e; omega)).mono ?_
      rintro e7 w7 ⟨rfl, T7, hK7⟩
      have z7 := hK7.size
      have hO7 := bc_keep hOw (by omega) hK7 (fun g hg => by rcases hg with rfl | rfl <;> omega)
      clear hOs hOw T
      go_wp2_with fail
      refine (all0 _ _ _ _ T7.symm.md).mono ?_
      rintro e8 w8 ⟨hb8, v8, le8, rfl, hle8, hO8⟩
      obtain ⟨A8, c8, rfl, E8⟩ := hO8.es
      have z8 := hb8.size
      obtain ⟨A4, c4, rfl, E4⟩ := (bc_below hO7 (by omega) hb8).es
      have hlk := likeAll_any le8 le4 A8 A4 c8 c4 w8 E8.es E4.es
      rw [hle8, hle4.out, decide_eq_true rfl] at hlk
      have T8 := T7.below hb8
      clear E8 E4 hO7 hO8 T7
      go_wp2_with fail
      refine hlk.mono ?_
      rintro e9 w9 ⟨rfl, hb9⟩
      have T9 := T8.below hb9
      have bT9 := b0.trans (T9.1.mono b0.size)
      have hOs := hO.at_world bT9
      clear hlk T8
      go_wp2_with fail
      refine (hp _ _ _ _ _ _ _ T9.symm _ _ hOs (fun hn g off e => by have := os_lt hO hn g off e; omega)).mono ?_
      rintro e10 w10 ⟨rfl, T10, hK10⟩
      have ge := eq_yes (rfl : er = er)
      clear hOs T9
      go_wp2_with fail
      refine (all1 _ _ _ _ T10.md).mono ?_
      rintro e11 w11 ⟨hb11, v11, le11, rfl, hle11, hO11⟩
      have T11 := T10.below hb11
      go_wp2_with fail
      refine (all1 _ _ _ _ T11.symm.md).mono ?_
      rintro e12 w12 ⟨hb12, v12, le12, rfl, hle12, hO12⟩
      obtain ⟨A11, c11, rfl, E11⟩ := (ownEF_below hO11 hb12).es
      obtain ⟨A12, c12, rfl, E12⟩ := hO12.es
      have hlk := likeAll_any le11 le12 A11 A12 c11 c12 w12 E11.es E12.es
      rw [hle11, hle12, decide_eq_true rfl] at hlk
      have T12 := T11.below hb12
      go_wp2_with fail
      refine hlk.mono ?_
      rintro e13 w13 ⟨rfl, hb13⟩
      have T13 := T12.below hb13
      go_wp2_with fail
      go_ret
      exact ⟨rfl, b0.trans (T13.1.mono b0.size)⟩

theorem law_own (q : Qt) (bs : List BL) (A : Option Addr) (c : Nat) (ops : List O) (A2 : Option Addr) (c2 : Nat) (w : World) (hB : Bs w w.heap.size bs A c) (hO : Os w w.heap.size ops A2 c2) :
    Calls Try.prog 8 #[.agg #[.int .i64 q.a, .int .i64 q.b, .int .i64 q.c, .int .i64 q.d, .int .i64 q.e, .int .i64 q.f, .int .i64 q.h], .slice A bs.length c, .slice A2 ops.length c2] w fun e w' => e = .returned (.bool true) ∧ Below w.heap.size w w' := by
  by_cases hk : q.ok
  · exact own_ok q bs A c ops A2 c2 w hk hB hO
  · exact own_no q bs A c ops A2 c2 w hk

end Go.Proofs.Ytnhfpbllgjhcdaa.books
