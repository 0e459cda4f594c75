/- copied, Of, Num, Key, Atom: what is put together is new memory that reads as what was handed in. -/
import Derived.Test.YtgdmhfdlijeogaaLike
namespace Go.Proofs.Ytgdmhfdlijeogaa.copies
set_option linter.unusedVariables false
set_option linter.unusedSimpArgs false
open Go.RowKit Go.Proofs.Ytgdmhfdlijeogaa.base Go.Proofs.Ytgdmhfdlijeogaa.tm Go.Proofs.Ytgdmhfdlijeogaa.lies Go.Proofs.Ytgdmhfdlijeogaa.rights

/-- the cells xs are the terms l, whatever becomes of blocks outside lo .. hi -/
def HeldL (w : World) (lo hi : Nat) (l : List T) (xs : List Value) : Prop :=
  ∀ w2 B2, hi ≤ B2 → (∀ p : Addr, lo ≤ p.block → p.block < hi → w2.cell? p = w.cell? p) → LiesL w2 B2 l xs
/-- the slice v is the terms l, likewise -/
def Held (w : World) (lo hi : Nat) (l : List T) (v : Value) : Prop :=
  ∃ A c, v = .slice A l.length c ∧ l.length ≤ c ∧ l.length * 56 ≤ 140737488355328 ∧ ∀ w2 B2, hi ≤ B2 → (∀ p : Addr, lo ≤ p.block → p.block < hi → w2.cell? p = w.cell? p) → ∃ xs, Rd w2 B2 A xs ∧ LiesL w2 B2 l xs

theorem HeldL.move {w w' : World} {lo hi lo' hi' : Nat} {l : List T} {xs : List Value} (h : HeldL w lo hi l xs) (h1 : lo' ≤ lo) (h2 : hi ≤ hi') (hk : ∀ p : Addr, lo ≤ p.block → p.block < hi → w'.cell? p = w.cell? p) : HeldL w' lo' hi' l xs :=
  fun w2 B2 hB ha => h w2 B2 (by omega) (fun p p1 p2 => (ha p (by omega) (by omega)).trans (hk p p1 p2))
theorem Held.move {w w' : World} {lo hi lo' hi' : Nat} {l : List T} {v : Value} (h : Held w lo hi l v) (h1 : lo' ≤ lo) (h2 : hi ≤ hi') (hk : ∀ p : Addr, lo ≤ p.block → p.block < hi → w'.cell? p = w.cell? p) : Held w' lo' hi' l v := by
  obtain ⟨A, c, e, hl, hc, h⟩ := h
  exact ⟨A, c, e, hl, hc, fun w2 B2 hB ha => h w2 B2 (by omega) (fun p p1 p2 => (ha p (by omega) (by omega)).trans (hk p p1 p2))⟩
theorem Held.nil (w : World) (lo hi : Nat) : Held w lo hi [] (.slice none 0 0) := ⟨none, 0, rfl, Nat.le_refl _, by simp, fun _ _ _ _ => ⟨[], Rd.nil _ _ _, rfl⟩⟩
/-- a term whose list is so held -/
theorem Held.lies {w : World} {lo hi : Nat} {t : T} {v : Value} (h : Held w lo hi t.l v) (h1 : -9223372036854775808 ≤ t.k ∧ t.k ≤ 9223372036854775807) (h2 : 0 ≤ t.n ∧ t.n < 18446744073709551616) (h3 : t.s.size ≤ maxLen) (hB : hi ≤ w.heap.size) : Lies w w.heap.size t v := by
  obtain ⟨A, c, e, hl, hc, h⟩ := h
  obtain ⟨xs, hr, hL⟩ := h w w.heap.size hB (fun _ _ _ => rfl)
  subst e
  exact Lies.mk h1 h2 h3 hl hc hr hL
theorem HeldL.snoc {w : World} {lo hi : Nat} {l : List T} {xs : List Value} {t : T} {v : Value} (h : HeldL w lo hi l xs) (ht : Held w lo hi t.l v) (h1 : -9223372036854775808 ≤ t.k ∧ t.k ≤ 9223372036854775807) (h2 : 0 ≤ t.n ∧ t.n < 18446744073709551616) (h3 : t.s.size ≤ maxLen) : HeldL w lo hi (l ++ [t]) (xs ++ T.cells t v) :=
  fun w2 B2 hB ha => by
    obtain ⟨A, c, e, hl, hc, hh⟩ := ht
    obtain ⟨ys, hr, hL⟩ := hh w2 B2 hB ha
    subst e
    exact (h w2 B2 hB ha).snoc (Lies.mk h1 h2 h3 hl hc hr hL)

theorem take_set3 (cs : Array Value) (j : Nat) (a b c d : Value) (h : j * 4 + 4 ≤ cs.size) :
    ((((cs.setIfInBounds (j * 4) a).setIfInBounds (j * 4 + 1) b).setIfInBounds (j * 4 + 2) c).setIfInBounds (j * 4 + 3) d).toList.take (j * 4 + 4) = cs.toList.take (j * 4) ++ [a, b, c, d] := by
  apply List.ext_getElem?
  intro i
  rw [List.getElem?_take, List.getElem?_append]
  simp only [Array.getElem?_toList, Array.getElem?_setIfInBounds, List.length_take, Array.length_toList, List.getElem?_take, Array.size_setIfInBounds]
  rw [Nat.min_eq_left (by omega)]
  by_cases h0 : i < j * 4
  · rw [if_pos (by omega), if_pos h0, if_pos h0, if_neg (by omega), if_neg (by omega), if_neg (by omega), if_neg (by omega)]
  · rw [if_neg h0]
    obtain ⟨r, rfl⟩ : ∃ r, i = j * 4 + r := ⟨i - j * 4, by omega⟩
    rw [show j * 4 + r - j * 4 = r by omega]
    match r with
    | 0 => rw [if_pos (by omega), if_neg (by omega), if_neg (by omega), if_neg (by omega), if_pos (by omega), if_pos (by omega)]; rfl
    | 1 => rw [if_pos (by omega), if_neg (by omega), if_neg (by omega), if_pos (by omega), if_pos (by omega)]; rfl
    | 2 => rw [if_pos (by omega), if_neg (by omega), if_pos (by omega), if_pos (by omega)]; rfl
    | 3 => rw [if_pos (by omega), if_pos (by omega), if_pos (by omega)]; rfl
    | r + 4 => rw [if_neg (by omega)]; simp

theorem info30 : (Try.prog.info? 25).map (fun i => (i.zero, i.size, i.bytes)) = some (some (.agg #[.int .i64 0, .int .u64 0, .string ⟨#[]⟩, .slice none 0 0]), 4, 56) := by kernel_rfl

/-- copied, at the loop's head: block g is being filled -/
def KHead (W : World) (g : Nat) (l : List T) (i : Value) (wr : World) : Prop :=
  ∃ (j : Nat) (cs : Array Value), j ≤ l.length ∧ i = .int .i64 j ∧ Blk wr g 25 cs ∧ cs.size = l.length * 4 ∧ HeldL wr (g + 1) wr.heap.size (l.take j) (cs.toList.take (j * 4)) ∧ Below W.heap.size W wr

def four (w : World) (g o : Nat) (a b c d : Value) : World := (((w.setCell ⟨g, o, none⟩ a).setCell ⟨g, o + 1, none⟩ b).setCell ⟨g, o + 2, none⟩ c).setCell ⟨g, o + 3, none⟩ d
theorem four_cell (w : World) (g o : Nat) (a b c d : Value) (p : Addr) (h : p.block ≠ g) : (four w g o a b c d).cell? p = w.cell? p := by
  unfold four
  rw [World.cell?_setCell_other, World.cell?_setCell_other, World.cell?_setCell_other, World.cell?_setCell_other] <;> (rintro rfl; exact h rfl)
theorem four_size (w : World) (g o : Nat) (a b c d : Value) : (four w g o a b c d).heap.size = w.heap.size := by simp [four]
theorem four_blk {w : World} {g o : Nat} {T : TypeId} {cs : Array Value} (h : Blk w g T cs) (a b c d : Value) : Blk (four w g o a b c d) g T ((((cs.setIfInBounds o a).setIfInBounds (o + 1) b).setIfInBounds (o + 2) c).setIfInBounds (o + 3) d) :=
  (((h.put o a).put (o + 1) b).put (o + 2) c).put (o + 3) d
theorem four_below {B : Nat} {W w : World} (h : Below B W w) {g o : Nat} (hg : B ≤ g) (a b c d : Value) : Below B W (four w g o a b c d) :=
  (((h.setCell (p := ⟨g, o, none⟩) hg a).setCell (p := ⟨g, o + 1, none⟩) hg b).setCell (p := ⟨g, o + 2, none⟩) hg c).setCell (p := ⟨g, o + 3, none⟩) hg d

theorem khead_next {W wr w2 : World} {l : List T} {j : Nat} {cs : Array Value} {d v : Value} {o : Obj} (hlt : j < l.length) (hbk : Blk wr W.heap.size 25 cs) (hcs : cs.size = l.length * 4)
    (hheld : HeldL wr (W.heap.size + 1) wr.heap.size (l.take j) (cs.toList.take (j * 4))) (hb : Below W.heap.size W wr)
    (hb2 : Below ((four wr W.heap.size (j * 4) (.int .i64 l[j].k) (.int .u64 l[j].n) (.string l[j].s) d).alloc o).heap.size ((four wr W.heap.size (j * 4) (.int .i64 l[j].k) (.int .u64 l[j].n) (.string l[j].s) d).alloc o) w2)
    (hv : Held w2 ((four wr W.heap.size (j * 4) (.int .i64 l[j].k) (.int .u64 l[j].n) (.string l[j].s) d).alloc o).heap.size w2.heap.size l[j].l v)
    (h1 : -9223372036854775808 ≤ l[j].k ∧ l[j].k ≤ 9223372036854775807) (h2 : 0 ≤ l[j].n ∧ l[j].n < 18446744073709551616) (h3 : l[j].s.size ≤ maxLen) :
    KHead W W.heap.size l (.int .i64 ((j : Int) + 1)) (w2.setCell ⟨W.heap.size, j * 4 + 3, none⟩ v) := by
  have hgl := hbk.lt
  have hsz : ((four wr W.heap.size (j * 4) (.int .i64 l[j].k) (.int .u64 l[j].n) (.string l[j].s) d).alloc o).heap.size = wr.heap.size + 1 := by rw [World.size_alloc, four_size]
  have hz2 : wr.heap.size + 1 ≤ w2.heap.size := by rw [← hsz]; exact hb2.size
  have hk1 := (((four_blk (o := j * 4) hbk (.int .i64 l[j].k) (.int .u64 l[j].n) (.string l[j].s) d).alloc o).below hb2 (by rw [hsz]; omega)).put (j * 4 + 3) v
  have hother : ∀ p : Addr, p.block ≠ W.heap.size → (w2.setCell ⟨W.heap.size, j * 4 + 3, none⟩ v).cell? p = w2.cell? p := fun p hp => World.cell?_setCell_other _ _ _ _ (by rintro rfl; exact hp rfl)
  have hold : ∀ p : Addr, p.block ≠ W.heap.size → p.block < wr.heap.size → w2.cell? p = wr.cell? p := fun p hp hlt => by
    rw [hb2.cell (by rw [hsz]; omega), World.cell?_alloc_lt _ _ _ (by rw [four_size]; exact hlt), four_cell _ _ _ _ _ _ _ _ hp]
  refine ⟨j + 1, _, hlt, by go_num, hk1, by simp [hcs], ?_, ?_⟩
  · rw [Array.setIfInBounds_setIfInBounds, Nat.add_mul, Nat.one_mul, take_set3 _ _ _ _ _ _ (by omega), List.take_succ_eq_append_getElem hlt]
    refine HeldL.snoc (hheld.move (Nat.le_refl _) (by simp; omega) fun p p1 p2 => ?_) (hv.move (by rw [hsz]; omega) (by simp) fun p p1 p2 => ?_) h1 h2 h3
    · rw [hother p (by omega), hold p (by omega) p2]
    · rw [hsz] at p1
      exact hother p (by omega)
  · exact (((four_below hb (Nat.le_refl _) _ _ _ _).alloc (by rw [four_size]; exact hb.size) o).trans (hb2.mono (by rw [hsz]; omega))).setCell (p := ⟨W.heap.size, j * 4 + 3, none⟩) (Nat.le_refl _) v

theorem khead_end {W wr : World} {l : List T} {cs : Array Value} (hbk : Blk wr W.heap.size 25 cs) (hcs : cs.size = l.length * 4) (hl : l.length * 56 ≤ 140737488355328)
    (hheld : HeldL wr (W.heap.size + 1) wr.heap.size l (cs.toList.take (l.length * 4))) : Held wr W.heap.size wr.heap.size l (.slice (some ⟨W.heap.size, 0, none⟩) l.length l.length) := by
  refine ⟨_, _, rfl, Nat.le_refl _, hl, fun w2 B2 hB ha => ⟨cs.toList, fun j u hj => ⟨_, 0, rfl, by have := hbk.lt; omega, ?_⟩, ?_⟩⟩
  · rw [ha ⟨W.heap.size, 0 + j, none⟩ (Nat.le_refl _) hbk.lt, Nat.zero_add, hbk.cell]
    simpa using hj
  · have := hheld w2 B2 hB (fun p p1 p2 => ha p (by omega) p2)
    rwa [List.take_of_length_le (by simp [hcs])] at this

set_option maxRecDepth 100000 in
set_option maxHeartbeats 400000 in
theorem copied_any (N : Nat) : ∀ (l : List T) (A : Option Addr) (c : Nat) (xs : List Value) (B : Nat) (w : World), sizeL l ≤ N → l.length ≤ c → l.length * 56 ≤ 140737488355328 → Rd w B A xs → LiesL w B l xs → B ≤ w.heap.size →
    Calls Try.prog 33 #[.slice A l.length c] w fun e w' => ∃ v, e = .returned v ∧ Held w' w.heap.size w'.heap.size l v ∧ Below w.heap.size w w' := by
  obtain ⟨i0, hi, hz0, hz1, hz2⟩ := info_parts info30
  induction N with
  | zero =>
    intro l A c xs B w hN hlc hc hr hl hB
    have hl0 : l = [] := by
      cases l with
      | nil => rfl
      | cons t l => have := size_pos t; simp [sizeL] at hN; omega
    subst hl0
    go_enter Try.func33, Try.ntmps33
    go_wp2_with fail
    go_ret
    exact ⟨_, rfl, Held.nil _ _ _, Below.refl _ _⟩
  | succ N ih =>
    intro l A c xs B w hN hlc hc hr hl hB
    by_cases hl0 : l = []
    · subst hl0
      go_enter Try.func33, Try.ntmps33
      go_wp2_with fail
      go_ret
      exact ⟨_, rfl, Held.nil _ _ _, Below.refl _ _⟩
    · have hpos : 0 < l.length := List.length_pos_iff.2 hl0
      have d0 : ((l.length : Int) == 0) = false := by simp; omega
      clear hl0
      have hmk : ∀ u : World, (Instr.makeSlice 23 (.int .i64 (l.length : Int)) (.int .i64 (l.length : Int))).run Try.prog u =
          .ok (.slice (some ⟨u.heap.size, 0, none⟩) l.length l.length) (u.alloc (.cells (madeCells #[.int .i64 0, .int .u64 0, .string ⟨#[]⟩, .slice none 0 0] (l.length * 4)) 25)) := fun u => by
        have h := run_make (P := Try.prog) u 23 25 i0 _ Try.underlying23 hi hz0 .i64 .i64 (l.length : Int) (l.length : Int) (by omega) (Int.le_refl _) (by rw [hz2]; omega) (by omega)
        rw [hz1] at h
        exact h
      have hbk0 := Blk.new w 25 (madeCells #[.int .i64 0, .int .u64 0, .string ⟨#[]⟩, .slice none 0 0] (l.length * 4))
      go_enter Try.func33, Try.ntmps33
      go_wp2_with fail
      go_loopw [14] (fun i wr => KHead w w.heap.size l i wr) (fun i _ => l.length - (intOf i).toNat)
      case atStart => exact ⟨0, _, Nat.zero_le _, rfl, hbk0, size_madeCells _ _, fun _ _ _ _ => by simp [LiesL], (Below.refl _ _).alloc (Nat.le_refl _) _⟩
      case round =>
        obtain ⟨j, cs, hj, rfl, hbk, hcs, hheld, hb⟩ := hrel
        by_cases hlt : j < l.length
        · obtain ⟨b0, off, A', c', rfl, hbl, hv, c0, c1, c2, c3⟩ := at_cells (hr.below (hb.mono hB)) (hl.below (hb.mono hB)) hlt
          have hg := size_get l j hlt
          have hgl := hbk.lt
          have z0 := hbk.cell (j * 4)
          have z1 := hbk.cell (j * 4 + 1)
          have z2 := hbk.cell (j * 4 + 2)
          have z3 := hbk.cell (j * 4 + 3)
          rw [Array.getElem?_eq_getElem (by omega)] at z0 z1 z2 z3
          have f0 := hbk.frozen (j * 4)
          have f1 := hbk.frozen (j * 4 + 1)
          have f2 := hbk.frozen (j * 4 + 2)
          have f3 := hbk.frozen (j * 4 + 3)
          obtain ⟨A1, c1', xs1, e1, k1, n1, s1, l1, m1, r1, ll1⟩ := hv.open_
          injection e1 with e1 _ e2
          subst e1 e2
          have hkeep : ∀ p : Addr, p.block < B → ((four wr w.heap.size (j * 4) (.int .i64 l[j].k) (.int .u64 l[j].n) (.string l[j].s) (.slice A' l[j].l.length c')).alloc (.cells #[.int .i64 l[j].k, .int .u64 l[j].n, .string l[j].s, .slice A' l[j].l.length c'] 25)).cell? p = wr.cell? p := fun p hp => by
            rw [World.cell?_alloc_lt _ _ _ (by rw [four_size]; omega), four_cell _ _ _ _ _ _ _ _ (by omega)]
          have hcall := ih l[j].l A' c' xs1 B ((four wr w.heap.size (j * 4) (.int .i64 l[j].k) (.int .u64 l[j].n) (.string l[j].s) (.slice A' l[j].l.length c')).alloc (.cells #[.int .i64 l[j].k, .int .u64 l[j].n, .string l[j].s, .slice A' l[j].l.length c'] 25)) (by rw [size_eq] at hg; omega) l1 m1 (r1.keep hkeep) (LiesL.keep hkeep _ _ ll1) (by rw [World.size_alloc, four_size]; omega)
          clear hkeep
          have hBk := ((four_blk (o := j * 4) hbk (.int .i64 l[j].k) (.int .u64 l[j].n) (.string l[j].s) (.slice A' l[j].l.length c')).alloc (.cells #[.int .i64 l[j].k, .int .u64 l[j].n, .string l[j].s, .slice A' l[j].l.length c'] 25))
          go_wp2_with fail
          refine hcall.mono ?_
          rintro e w2 ⟨v', rfl, hheld', hb2⟩
          have hh := hheld'
          obtain ⟨A2, cc2, rfl, _⟩ := hheld'
          have hBk2 := hBk.below hb2 (by rw [World.size_alloc, four_size]; omega)
          have y3 := hBk2.cell (j * 4 + 3)
          have g3 := hBk2.frozen (j * 4 + 3)
          rw [Array.getElem?_eq_getElem (by simp; omega)] at y3
          go_wp2_with fail
          exact ⟨khead_next hlt hbk hcs hheld hb hb2 hh k1 n1 s1, by simp [intOf]; omega⟩
        · have hjl : l.take j = l := List.take_of_length_le (by omega)
          rw [hjl] at hheld
          go_wp2_with fail
          go_ret
          have hjn : j = l.length := by omega
          subst hjn
          exact ⟨_, rfl, khead_end hbk hcs (by omega) hheld, hb⟩
end Go.Proofs.Ytgdmhfdlijeogaa.copies
