/- A term that Of makes lies in rows of its own: its list's block, and its parts' lists' blocks behind that. -/
import Derived.Test.YtnkfboplafckoaaNdP


namespace Go.Proofs.Ytnkfboplafckoaa.copies
set_option linter.unusedVariables false
set_option linter.unusedSimpArgs false
open Go.RowKit Go.Proofs.Ytnkfboplafckoaa.base Go.Proofs.Ytnkfboplafckoaa.tm Go.Proofs.Ytnkfboplafckoaa.lies Go.Proofs.Ytnkfboplafckoaa.rights

/-- the slice is a whole block's row of n terms -/
def Row1 (w : World) (lo hi : Nat) (A : Option Addr) (n : Nat) : Prop := n = 0 ∨ ∃ g cs, A = some ⟨g, 0, none⟩ ∧ lo ≤ g ∧ g < hi ∧ Blk w g 31 cs ∧ cs.size = n * 4
/-- so are the lists of the first m of its terms, in blocks behind its own -/
def Subs (w : World) (lo hi : Nat) (cs : Array Value) (m : Nat) : Prop := ∀ i, i < m → ∃ A n c, cs[i * 4 + 3]? = some (.slice A n c) ∧ Row1 w lo hi A n
def Row2 (w : World) (lo hi : Nat) (A : Option Addr) (n : Nat) : Prop := n = 0 ∨ ∃ g cs, A = some ⟨g, 0, none⟩ ∧ lo ≤ g ∧ g < hi ∧ Blk w g 31 cs ∧ cs.size = n * 4 ∧ Subs w (g + 1) hi cs n
theorem Row1.move {w w' : World} {lo hi lo' hi' : Nat} {A : Option Addr} {n : Nat} (h : Row1 w lo hi A n) (h1 : lo' ≤ lo) (h2 : hi ≤ hi') (hk : ∀ g, lo ≤ g → g < hi → w'.heap[g]? = w.heap[g]?) : Row1 w' lo' hi' A n := by
  rcases h with h | ⟨g, cs, e, g1, g2, hb, hs⟩
  · exact .inl h
  · exact .inr ⟨g, cs, e, by omega, by omega, (hk g g1 g2).trans hb, hs⟩
theorem Subs.move {w w' : World} {lo hi lo' hi' : Nat} {cs : Array Value} {m : Nat} (h : Subs w lo hi cs m) (h1 : lo' ≤ lo) (h2 : hi ≤ hi') (hk : ∀ g, lo ≤ g → g < hi → w'.heap[g]? = w.heap[g]?) : Subs w' lo' hi' cs m := fun i hi => by
  obtain ⟨A, n, c, e, hr⟩ := h i hi
  exact ⟨A, n, c, e, hr.move h1 h2 hk⟩
theorem Row2.move {w w' : World} {lo hi lo' hi' : Nat} {A : Option Addr} {n : Nat} (h : Row2 w lo hi A n) (h1 : lo' ≤ lo) (h2 : hi ≤ hi') (hk : ∀ g, lo ≤ g → g < hi → w'.heap[g]? = w.heap[g]?) : Row2 w' lo' hi' A n := by
  rcases h with h | ⟨g, cs, e, g1, g2, hb, hs, hu⟩
  · exact .inl h
  · exact .inr ⟨g, cs, e, by omega, by omega, (hk g g1 g2).trans hb, hs, hu.move (Nat.le_refl _) h2 fun k k1 k2 => hk k (by omega) k2⟩
theorem four_heap (w : World) (g o : Nat) (a b c d : Value) (k : Nat) (h : k ≠ g) : (four w g o a b c d).heap[k]? = w.heap[k]? := by
  unfold four
  rw [Below.heap_setCell _ _ _ _ (by simpa using h), Below.heap_setCell _ _ _ _ (by simpa using h), Below.heap_setCell _ _ _ _ (by simpa using h), Below.heap_setCell _ _ _ _ (by simpa using h)]

set_option maxRecDepth 100000 in
set_option maxHeartbeats 400000 in
theorem copied1_any (N : Nat) : ∀ (l : List T) (A : Option Addr) (c : Nat) (xs : List Value) (B : Nat) (w : World), sizeL l ≤ N → l.length ≤ c → l.length * 56 ≤ 140737488355328 → Rd w B A xs → LiesL w B l xs → B ≤ w.heap.size →
    Calls Try.prog 64 #[.slice A l.length c] w fun e w' => ∃ v, e = .returned v ∧ Held w' w.heap.size w'.heap.size l v ∧ Below w.heap.size w w' ∧ ∃ A' c', v = .slice A' l.length c' ∧ Row1 w' w.heap.size w'.heap.size A' l.length := by
  obtain ⟨i0, hi, hz0, hz1, hz2⟩ := info_parts info30
  induction N with
  | zero =>
    intro l A c xs B w hN hlc hc hr hl hB
    have hl0 : l = [] := by
      cases l with
      | nil => rfl
      | cons t l => have := size_pos t; simp [sizeL] at hN; omega
    subst hl0
    go_enter Try.func64, Try.ntmps64
    go_wp2_with fail
    go_ret
    exact ⟨_, rfl, Held.nil _ _ _, Below.refl _ _, none, 0, rfl, .inl rfl⟩
  | succ N ih =>
    intro l A c xs B w hN hlc hc hr hl hB
    by_cases hl0 : l = []
    · subst hl0
      go_enter Try.func64, Try.ntmps64
      go_wp2_with fail
      go_ret
      exact ⟨_, rfl, Held.nil _ _ _, Below.refl _ _, none, 0, rfl, .inl rfl⟩
    · have hpos : 0 < l.length := List.length_pos_iff.2 hl0
      have d0 : ((l.length : Int) == 0) = false := by simp; omega
      clear hl0
      have hmk : ∀ u : World, (Instr.makeSlice 29 (.int .i64 (l.length : Int)) (.int .i64 (l.length : Int))).run Try.prog u =
          .ok (.slice (some ⟨u.heap.size, 0, none⟩) l.length l.length) (u.alloc (.cells (madeCells #[.int .i64 0, .int .u64 0, .string ⟨#[]⟩, .slice none 0 0] (l.length * 4)) 31)) := fun u => by
        have h := run_make (P := Try.prog) u 29 31 i0 _ Try.underlying29 hi hz0 .i64 .i64 (l.length : Int) (l.length : Int) (by omega) (Int.le_refl _) (by rw [hz2]; omega) (by omega)
        rw [hz1] at h
        exact h
      have hbk0 := Blk.new w 31 (madeCells #[.int .i64 0, .int .u64 0, .string ⟨#[]⟩, .slice none 0 0] (l.length * 4))
      go_enter Try.func64, Try.ntmps64
      go_wp2_with fail
      go_loopw [14] (fun i wr => KHead w w.heap.size l i wr) (fun i _ => l.length - (intOf i).toNat)
      case atStart => exact ⟨0, _, Nat.zero_le _, rfl, hbk0, size_madeCells _ _, fun _ _ _ _ => by simp [LiesL], (Below.refl _ _).alloc (Nat.le_refl _) _⟩
      case round =>
        obtain ⟨j, cs, hj, rfl, hbk, hcs, hheld, hb⟩ := hrel
        by_cases hlt : j < l.length
        · obtain ⟨b0, off, A', c', rfl, hbl, hv, c0, c1, c2, c3⟩ := at_cells (hr.below (hb.mono hB)) (hl.below (hb.mono hB)) hlt
          have hg := size_get l j hlt
          have hgl := hbk.lt
          have z0 := hbk.cell (j * 4)
          have z1 := hbk.cell (j * 4 + 1)
          have z2 := hbk.cell (j * 4 + 2)
          have z3 := hbk.cell (j * 4 + 3)
          rw [Array.getElem?_eq_getElem (by omega)] at z0 z1 z2 z3
          have f0 := hbk.frozen (j * 4)
          have f1 := hbk.frozen (j * 4 + 1)
          have f2 := hbk.frozen (j * 4 + 2)
          have f3 := hbk.frozen (j * 4 + 3)
          obtain ⟨A1, c1', xs1, e1, k1, n1, s1, l1, m1, r1, ll1⟩ := hv.open_
          injection e1 with e1 _ e2
          subst e1 e2
          have hkeep : ∀ p : Addr, p.block < B → ((four wr w.heap.size (j * 4) (.int .i64 l[j].k) (.int .u64 l[j].n) (.string l[j].s) (.slice A' l[j].l.length c')).alloc (.cells #[.int .i64 l[j].k, .int .u64 l[j].n, .string l[j].s, .slice A' l[j].l.length c'] 31)).cell? p = wr.cell? p := fun p hp => by
            rw [World.cell?_alloc_lt _ _ _ (by rw [four_size]; omega), four_cell _ _ _ _ _ _ _ _ (by omega)]
          have hcall := ih l[j].l A' c' xs1 B ((four wr w.heap.size (j * 4) (.int .i64 l[j].k) (.int .u64 l[j].n) (.string l[j].s) (.slice A' l[j].l.length c')).alloc (.cells #[.int .i64 l[j].k, .int .u64 l[j].n, .string l[j].s, .slice A' l[j].l.length c'] 31)) (by rw [size_eq] at hg; omega) l1 m1 (r1.keep hkeep) (LiesL.keep hkeep _ _ ll1) (by rw [World.size_alloc, four_size]; omega)
          clear hkeep
          have hBk := ((four_blk (o := j * 4) hbk (.int .i64 l[j].k) (.int .u64 l[j].n) (.string l[j].s) (.slice A' l[j].l.length c')).alloc (.cells #[.int .i64 l[j].k, .int .u64 l[j].n, .string l[j].s, .slice A' l[j].l.length c'] 31))
          go_wp2_with fail
          refine hcall.mono ?_
          rintro e w2 ⟨v', rfl, hheld', hb2, _⟩
          have hh := hheld'
          obtain ⟨A2, cc2, rfl, _⟩ := hheld'
          have hBk2 := hBk.below hb2 (by rw [World.size_alloc, four_size]; omega)
          have y3 := hBk2.cell (j * 4 + 3)
          have g3 := hBk2.frozen (j * 4 + 3)
          rw [Array.getElem?_eq_getElem (by simp; omega)] at y3
          go_wp2_with fail
          exact ⟨khead_next hlt hbk hcs hheld hb hb2 hh k1 n1 s1, by simp [intOf]; omega⟩
        · have hjl : l.take j = l := List.take_of_length_le (by omega)
          rw [hjl] at hheld
          go_wp2_with fail
          go_ret
          have hjn : j = l.length := by omega
          subst hjn
          exact ⟨_, rfl, khead_end hbk hcs (by omega) hheld, hb, _, _, rfl, .inr ⟨_, cs, rfl, Nat.le_refl _, hbk.lt, hbk, hcs⟩⟩
/-- at the loop's head: the parts' lists lie in rows of their own, too -/
def KHead2 (W : World) (g : Nat) (l : List T) (i : Value) (wr : World) : Prop :=
  ∃ (j : Nat) (cs : Array Value), j ≤ l.length ∧ i = .int .i64 j ∧ Blk wr g 31 cs ∧ cs.size = l.length * 4 ∧ HeldL wr (g + 1) wr.heap.size (l.take j) (cs.toList.take (j * 4)) ∧ Below W.heap.size W wr ∧ Subs wr (g + 1) wr.heap.size cs j
theorem set_other (cs : Array Value) (j k : Nat) (a b c d : Value) (h : k < j * 4) : ((((cs.setIfInBounds (j * 4) a).setIfInBounds (j * 4 + 1) b).setIfInBounds (j * 4 + 2) c).setIfInBounds (j * 4 + 3) d)[k]? = cs[k]? := by
  simp only [Array.getElem?_setIfInBounds]
  rw [if_neg (by omega), if_neg (by omega), if_neg (by omega), if_neg (by omega)]
theorem set_here (cs : Array Value) (j : Nat) (a b c d : Value) (h : j * 4 + 4 ≤ cs.size) : ((((cs.setIfInBounds (j * 4) a).setIfInBounds (j * 4 + 1) b).setIfInBounds (j * 4 + 2) c).setIfInBounds (j * 4 + 3) d)[j * 4 + 3]? = some d := by
  simp only [Array.getElem?_setIfInBounds]
  rw [if_pos trivial, if_pos (by simp; omega)]
theorem khead_next2 {W wr w2 : World} {l : List T} {j : Nat} {cs : Array Value} {d v : Value} {o : Obj} (hlt : j < l.length) (hbk : Blk wr W.heap.size 31 cs) (hcs : cs.size = l.length * 4)
    (hheld : HeldL wr (W.heap.size + 1) wr.heap.size (l.take j) (cs.toList.take (j * 4))) (hb : Below W.heap.size W wr) (hu : Subs wr (W.heap.size + 1) wr.heap.size cs j) {A2 : Option Addr} {n2 c2 : Nat} (hv2 : v = .slice A2 n2 c2)
    (hb2 : Below ((four wr W.heap.size (j * 4) (.int .i64 l[j].k) (.int .u64 l[j].n) (.string l[j].s) d).alloc o).heap.size ((four wr W.heap.size (j * 4) (.int .i64 l[j].k) (.int .u64 l[j].n) (.string l[j].s) d).alloc o) w2)
    (hv : Held w2 ((four wr W.heap.size (j * 4) (.int .i64 l[j].k) (.int .u64 l[j].n) (.string l[j].s) d).alloc o).heap.size w2.heap.size l[j].l v)
    (hr2 : Row1 w2 ((four wr W.heap.size (j * 4) (.int .i64 l[j].k) (.int .u64 l[j].n) (.string l[j].s) d).alloc o).heap.size w2.heap.size A2 n2)
    (h1 : -9223372036854775808 ≤ l[j].k ∧ l[j].k ≤ 9223372036854775807) (h2 : 0 ≤ l[j].n ∧ l[j].n < 18446744073709551616) (h3 : l[j].s.size ≤ maxLen) :
    KHead2 W W.heap.size l (.int .i64 ((j : Int) + 1)) (w2.setCell ⟨W.heap.size, j * 4 + 3, none⟩ v) := by
  have hgl := hbk.lt
  have hsz : ((four wr W.heap.size (j * 4) (.int .i64 l[j].k) (.int .u64 l[j].n) (.string l[j].s) d).alloc o).heap.size = wr.heap.size + 1 := by rw [World.size_alloc, four_size]
  have hz2 : wr.heap.size + 1 ≤ w2.heap.size := by rw [← hsz]; exact hb2.size
  have hk1 := (((four_blk (o := j * 4) hbk (.int .i64 l[j].k) (.int .u64 l[j].n) (.string l[j].s) d).alloc o).below hb2 (by rw [hsz]; omega)).put (j * 4 + 3) v
  have hother : ∀ p : Addr, p.block ≠ W.heap.size → (w2.setCell ⟨W.heap.size, j * 4 + 3, none⟩ v).cell? p = w2.cell? p := fun p hp => World.cell?_setCell_other _ _ _ _ (by rintro rfl; exact hp rfl)
  have hold : ∀ p : Addr, p.block ≠ W.heap.size → p.block < wr.heap.size → w2.cell? p = wr.cell? p := fun p hp hlt => by
    rw [hb2.cell (by rw [hsz]; omega), World.cell?_alloc_lt _ _ _ (by rw [four_size]; exact hlt), four_cell _ _ _ _ _ _ _ _ hp]
  refine ⟨j + 1, _, hlt, by go_num, hk1, by simp [hcs], ?_, ?_, ?_⟩
  · rw [Array.setIfInBounds_setIfInBounds, Nat.add_mul, Nat.one_mul, take_set3 _ _ _ _ _ _ (by omega), List.take_succ_eq_append_getElem hlt]
    refine HeldL.snoc (hheld.move (Nat.le_refl _) (by simp; omega) fun p p1 p2 => ?_) (hv.move (by rw [hsz]; omega) (by simp) fun p p1 p2 => ?_) h1 h2 h3
    · rw [hother p (by omega), hold p (by omega) p2]
    · rw [hsz] at p1
      exact hother p (by omega)
  · exact (((four_below hb (Nat.le_refl _) _ _ _ _).alloc (by rw [four_size]; exact hb.size) o).trans (hb2.mono (by rw [hsz]; omega))).setCell (p := ⟨W.heap.size, j * 4 + 3, none⟩) (Nat.le_refl _) v
  · have hblk : ∀ k, W.heap.size < k → k < wr.heap.size → (w2.setCell ⟨W.heap.size, j * 4 + 3, none⟩ v).heap[k]? = wr.heap[k]? := fun k k1 k2 => by
      rw [Below.heap_setCell _ _ _ _ (by simp; omega), hb2.block k (by rw [hsz]; omega), Below.heap_alloc _ _ _ (by rw [four_size]; exact k2), four_heap _ _ _ _ _ _ _ _ (by omega)]
    intro i hi
    rw [Array.setIfInBounds_setIfInBounds]
    rcases Nat.lt_or_ge i j with hij | hij
    · obtain ⟨A, n, c, e, hr⟩ := hu i hij
      exact ⟨A, n, c, by rw [set_other _ _ _ _ _ _ _ (by omega)]; exact e, hr.move (Nat.le_refl _) (by simp; omega) fun k k1 k2 => hblk k (by omega) k2⟩
    · have hij2 : i = j := by omega
      subst hij2
      refine ⟨A2, n2, c2, by rw [set_here _ _ _ _ _ _ (by omega), hv2], hr2.move (by rw [hsz]; omega) (by simp) fun k k1 k2 => ?_⟩
      rw [hsz] at k1
      exact Below.heap_setCell _ _ _ _ (by simp; omega)

set_option maxRecDepth 100000 in
set_option maxHeartbeats 400000 in
theorem copied2_any (l : List T) (A : Option Addr) (c : Nat) (xs : List Value) (B : Nat) (w : World) (hlc : l.length ≤ c) (hc : l.length * 56 ≤ 140737488355328) (hr : Rd w B A xs) (hl : LiesL w B l xs) (hB : B ≤ w.heap.size) :
    Calls Try.prog 64 #[.slice A l.length c] w fun e w' => ∃ v, e = .returned v ∧ Held w' w.heap.size w'.heap.size l v ∧ Below w.heap.size w w' ∧ ∃ A' c', v = .slice A' l.length c' ∧ Row2 w' w.heap.size w'.heap.size A' l.length := by
  obtain ⟨i0, hi, hz0, hz1, hz2⟩ := info_parts info30
  by_cases hl0 : l = []
  · subst hl0
    go_enter Try.func64, Try.ntmps64
    go_wp2_with fail
    go_ret
    exact ⟨_, rfl, Held.nil _ _ _, Below.refl _ _, none, 0, rfl, .inl rfl⟩
  · have hpos : 0 < l.length := List.length_pos_iff.2 hl0
    have d0 : ((l.length : Int) == 0) = false := by simp; omega
    clear hl0
    have hmk : ∀ u : World, (Instr.makeSlice 29 (.int .i64 (l.length : Int)) (.int .i64 (l.length : Int))).run Try.prog u =
        .ok (.slice (some ⟨u.heap.size, 0, none⟩) l.length l.length) (u.alloc (.cells (madeCells #[.int .i64 0, .int .u64 0, .string ⟨#[]⟩, .slice none 0 0] (l.length * 4)) 31)) := fun u => by
      have h := run_make (P := Try.prog) u 29 31 i0 _ Try.underlying29 hi hz0 .i64 .i64 (l.length : Int) (l.length : Int) (by omega) (Int.le_refl _) (by rw [hz2]; omega) (by omega)
      rw [hz1] at h
      exact h
    have hbk0 := Blk.new w 31 (madeCells #[.int .i64 0, .int .u64 0, .string ⟨#[]⟩, .slice none 0 0] (l.length * 4))
    go_enter Try.func64, Try.ntmps64
    go_wp2_with fail
    go_loopw [14] (fun i wr => KHead2 w w.heap.size l i wr) (fun i _ => l.length - (intOf i).toNat)
    case atStart => exact ⟨0, _, Nat.zero_le _, rfl, hbk0, size_madeCells _ _, fun _ _ _ _ => by simp [LiesL], (Below.refl _ _).alloc (Nat.le_refl _) _, fun i hi => absurd hi (Nat.not_lt_zero _)⟩
    case round =>
      obtain ⟨j, cs, hj, rfl, hbk, hcs, hheld, hb, hu⟩ := hrel
      by_cases hlt : j < l.length
      · obtain ⟨b0, off, A', c', rfl, hbl, hv, c0, c1, c2, c3⟩ := at_cells (hr.below (hb.mono hB)) (hl.below (hb.mono hB)) hlt
        have hg := size_get l j hlt
        have hgl := hbk.lt
        have z0 := hbk.cell (j * 4)
        have z1 := hbk.cell (j * 4 + 1)
        have z2 := hbk.cell (j * 4 + 2)
        have z3 := hbk.cell (j * 4 + 3)
        rw [Array.getElem?_eq_getElem (by omega)] at z0 z1 z2 z3
        have f0 := hbk.frozen (j * 4)
        have f1 := hbk.frozen (j * 4 + 1)
        have f2 := hbk.frozen (j * 4 + 2)
        have f3 := hbk.frozen (j * 4 + 3)
        obtain ⟨A1, c1', xs1, e1, k1, n1, s1, l1, m1, r1, ll1⟩ := hv.open_
        injection e1 with e1 _ e2
        subst e1 e2
        have hkeep : ∀ p : Addr, p.block < B → ((four wr w.heap.size (j * 4) (.int .i64 l[j].k) (.int .u64 l[j].n) (.string l[j].s) (.slice A' l[j].l.length c')).alloc (.cells #[.int .i64 l[j].k, .int .u64 l[j].n, .string l[j].s, .slice A' l[j].l.length c'] 31)).cell? p = wr.cell? p := fun p hp => by
          rw [World.cell?_alloc_lt _ _ _ (by rw [four_size]; omega), four_cell _ _ _ _ _ _ _ _ (by omega)]
        have hcall := copied1_any (sizeL l[j].l) l[j].l A' c' xs1 B ((four wr w.heap.size (j * 4) (.int .i64 l[j].k) (.int .u64 l[j].n) (.string l[j].s) (.slice A' l[j].l.length c')).alloc (.cells #[.int .i64 l[j].k, .int .u64 l[j].n, .string l[j].s, .slice A' l[j].l.length c'] 31)) (Nat.le_refl _) l1 m1 (r1.keep hkeep) (LiesL.keep hkeep _ _ ll1) (by rw [World.size_alloc, four_size]; omega)
        clear hkeep
        have hBk := ((four_blk (o := j * 4) hbk (.int .i64 l[j].k) (.int .u64 l[j].n) (.string l[j].s) (.slice A' l[j].l.length c')).alloc (.cells #[.int .i64 l[j].k, .int .u64 l[j].n, .string l[j].s, .slice A' l[j].l.length c'] 31))
        go_wp2_with fail
        refine hcall.mono ?_
        rintro e w2 ⟨v', rfl, hheld', hb2, A9, c9, e9, hr9⟩
        have hh := hheld'
        obtain ⟨A2, cc2, rfl, _⟩ := hheld'
        injection e9 with e91 e92 e93
        subst e91 e93
        have HR9 := lay hr9
        clear hr9 e92
        have hBk2 := hBk.below hb2 (by rw [World.size_alloc, four_size]; omega)
        have y3 := hBk2.cell (j * 4 + 3)
        have g3 := hBk2.frozen (j * 4 + 3)
        rw [Array.getElem?_eq_getElem (by simp; omega)] at y3
        go_wp2_with fail
        exact ⟨khead_next2 hlt hbk hcs hheld hb hu rfl hb2 hh HR9.out k1 n1 s1, by simp [intOf]; omega⟩
      · have hjl : l.take j = l := List.take_of_length_le (by omega)
        rw [hjl] at hheld
        go_wp2_with fail
        go_ret
        have hjn : j = l.length := by omega
        subst hjn
        exact ⟨_, rfl, khead_end hbk hcs (by omega) hheld, hb, _, _, rfl, .inr ⟨_, cs, rfl, Nat.le_refl _, hbk.lt, hbk, hcs, hu⟩⟩
end Go.Proofs.Ytnkfboplafckoaa.copies
namespace Go.Proofs.Ytnkfboplafckoaa.makes
open Go.RowKit Go.Proofs.Ytnkfboplafckoaa.base Go.Proofs.Ytnkfboplafckoaa.tm Go.Proofs.Ytnkfboplafckoaa.lies Go.Proofs.Ytnkfboplafckoaa.rights Go.Proofs.Ytnkfboplafckoaa.copies

set_option maxRecDepth 100000 in
theorem of2_any (l : List T) (A : Option Addr) (c B : Nat) (w : World) (h : LiesS w B l A c) (hB : B ≤ w.heap.size) :
    Calls Try.prog 40 #[.slice A l.length c] w fun e w' => ∃ A' c', e = .returned (.agg #[.int .i64 5, .int .u64 0, .string ⟨#[]⟩, .slice A' l.length c']) ∧ Held w' w.heap.size w'.heap.size l (.slice A' l.length c') ∧ Below w.heap.size w w' ∧ Row2 w' w.heap.size w'.heap.size A' l.length := by
  obtain ⟨xs, h1, h2, h3, h4⟩ := h
  have hcall := copied2_any l A c xs B (w.alloc (.cells #[.int .i64 0, .int .u64 0, .string ⟨#[]⟩, .slice none 0 0] 31)) h1 h2 (h3.alloc hB _) (LiesL.keep (fun p hp => World.cell?_alloc_lt w _ p (by omega)) _ _ h4) (by simp; omega)
  have hbk := Blk.new w 31 #[.int .i64 0, .int .u64 0, .string ⟨#[]⟩, .slice none 0 0]
  go_enter Try.func40, Try.ntmps40
  go_wp2_with (go_at_call 64; refine hcall.mono ?_; rintro e w1 ⟨v, rfl, hh0, hb, A9, c9, e9, hr9⟩; have hh := hh0; obtain ⟨A2, c2, rfl, _⟩ := hh0; injection e9 with e91 e92 e93; subst e91 e93; have HR9 := lay hr9; clear hr9 e92; have hk := hbk.below hb (by simp); have z0 := hk.cell 0; have z1 := hk.cell 1; have z2 := hk.cell 2; have z3 := hk.cell 3; simp at z0 z1 z2 z3; have f0 := hk.frozen 0; have f1 := hk.frozen 1; have f2 := hk.frozen 2; have f3 := hk.frozen 3)
  refine bodyPost_ret (v := .agg #[.int .i64 5, .int .u64 0, .string ⟨#[]⟩, .slice A2 l.length c2]) (by simp [results, Try.results40, go_sem, z0, z1, z2, z3]) rfl ⟨A2, c2, rfl, ?_, ?_, ?_⟩
  · refine hh.move (by simp) (by simp) fun p p1 p2 => ?_
    rw [World.size_alloc] at p1
    exact four_cell w1 w.heap.size 0 _ _ _ _ p (by omega)
  · exact four_below ((below_call (Below.refl _ _) hb)) (Nat.le_refl _) _ _ _ _
  · refine HR9.out.move (by simp) (by simp) fun k k1 k2 => four_heap w1 w.heap.size 0 _ _ _ _ k (by simp at k1; omega)
end Go.Proofs.Ytnkfboplafckoaa.makes
