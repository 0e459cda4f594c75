/- The document's own reader of terms: wrong, atom. -/
import Derived.Test.YtnkfboplafckoaaTermD
import Derived.WalkSpells
import Derived.Test.YtnkfboplafckoaaTermE
import Derived.Test.YtnkfboplafckoaaTermB


namespace Go.Proofs.Ytnkfboplafckoaa.refReads
set_option linter.unusedVariables false
set_option linter.unusedSimpArgs false
open Go.RowKit Go.Proofs.Ytnkfboplafckoaa.base Go.Proofs.Ytnkfboplafckoaa.tm Go.Proofs.Ytnkfboplafckoaa.lies Go.Proofs.Ytnkfboplafckoaa.rights Go.Proofs.Ytnkfboplafckoaa.copies Go.Proofs.Ytnkfboplafckoaa.built Go.Proofs.Ytnkfboplafckoaa.reads

theorem below_own {w w2 : World} {o o' : Obj} (hb : Below ((w.alloc o).alloc o').heap.size ((w.alloc o).alloc o') w2) : Below w.heap.size w w2 :=
  (((Below.refl _ _).alloc (Nat.le_refl _) o).alloc (by simp) o').trans (hb.mono (by simp; omega))
def seven (w : World) (g : Nat) (a b c d e f i : Value) : World := ((((((w.setCell ⟨g, 0, none⟩ a).setCell ⟨g, 1, none⟩ b).setCell ⟨g, 2, none⟩ c).setCell ⟨g, 3, none⟩ d).setCell ⟨g, 4, none⟩ e).setCell ⟨g, 5, none⟩ f).setCell ⟨g, 6, none⟩ i
theorem seven_below {w w1 : World} (h : Below w.heap.size w w1) (a b c d e f i : Value) : Below w.heap.size w (seven w1 (w.heap.size + 1) a b c d e f i) :=
  ((((((h.setCell (p := ⟨w.heap.size + 1, 0, none⟩) (Nat.le_succ _) a).setCell (p := ⟨w.heap.size + 1, 1, none⟩) (Nat.le_succ _) b).setCell (p := ⟨w.heap.size + 1, 2, none⟩) (Nat.le_succ _) c).setCell (p := ⟨w.heap.size + 1, 3, none⟩) (Nat.le_succ _) d).setCell (p := ⟨w.heap.size + 1, 4, none⟩) (Nat.le_succ _) e).setCell (p := ⟨w.heap.size + 1, 5, none⟩) (Nat.le_succ _) f).setCell (p := ⟨w.heap.size + 1, 6, none⟩) (Nat.le_succ _) i

/-- what was read, as a value -/
abbrev got (k n : Int) (z : ByteArray) (v : Value) (a b e : Int) : Value := .agg #[.int .i64 k, .int .u64 n, .string z, v, .int .i64 a, .int .i64 b, .int .i64 e]

end Go.Proofs.Ytnkfboplafckoaa.refReads

/- The document's own reader of terms: more, given what read does. -/

namespace Go.Proofs.Ytnkfboplafckoaa.refReads
set_option linter.unusedVariables false
set_option linter.unusedSimpArgs false
open Go.RowKit Go.Proofs.Ytnkfboplafckoaa.base Go.Proofs.Ytnkfboplafckoaa.tm Go.Proofs.Ytnkfboplafckoaa.lies Go.Proofs.Ytnkfboplafckoaa.rights Go.Proofs.Ytnkfboplafckoaa.copies Go.Proofs.Ytnkfboplafckoaa.built Go.Proofs.Ytnkfboplafckoaa.reads

/-- what read leaves -/
def GPost (W : World) (s : ByteArray) (b : Nat) (r : Res T) (e : Ending) (w' : World) : Prop :=
  Below W.heap.size W w' ∧ match r with
  | .bad err => err ≠ 0 ∧ e = .returned (got 0 0 ⟨#[]⟩ (.slice none 0 0) 0 0 err)
  | .ok t r b' => ∃ (A : Option Addr) (c a' : Nat), e = .returned (got t.k t.n t.s (.slice A t.l.length c) (a' : Nat) (b' : Nat) 0) ∧ a' ≤ s.size ∧ s.data.toList.drop a' = r ∧ b < b' ∧ b' ≤ 4000 ∧ Held w' W.heap.size w'.heap.size t.l (.slice A t.l.length c) ∧ Fits t
/-- what more leaves -/
def NPost (W : World) (s : ByteArray) (k n : Int) (b : Nat) (r : Res (List T)) (e : Ending) (w' : World) : Prop :=
  Below W.heap.size W w' ∧ match r with
  | .bad err => err ≠ 0 ∧ e = .returned (got 0 0 ⟨#[]⟩ (.slice none 0 0) 0 0 err)
  | .ok l r b' => ∃ (A : Option Addr) (c a' : Nat), e = .returned (got k n ⟨#[]⟩ (.slice A l.length c) (a' : Nat) (b' : Nat) 0) ∧ a' ≤ s.size ∧ s.data.toList.drop a' = r ∧ b ≤ b' ∧ b' ≤ 4000 ∧ Held w' W.heap.size w'.heap.size l (.slice A l.length c)

theorem seven_cell (w : World) (g : Nat) (a b c d e f i : Value) (p : Addr) (h : p.block ≠ g) : (seven w g a b c d e f i).cell? p = w.cell? p := by
  unfold seven
  rw [World.cell?_setCell_other, World.cell?_setCell_other, World.cell?_setCell_other, World.cell?_setCell_other, World.cell?_setCell_other, World.cell?_setCell_other, World.cell?_setCell_other] <;> (rintro rfl; exact h rfl)

end Go.Proofs.Ytnkfboplafckoaa.refReads

/- The document's own reader of terms: read, by how deep it may go. -/

namespace Go.Proofs.Ytnkfboplafckoaa.refReads
set_option linter.unusedVariables false
set_option linter.unusedSimpArgs false
open Go.RowKit Go.Proofs.Ytnkfboplafckoaa.base Go.Proofs.Ytnkfboplafckoaa.tm Go.Proofs.Ytnkfboplafckoaa.lies Go.Proofs.Ytnkfboplafckoaa.rights Go.Proofs.Ytnkfboplafckoaa.copies Go.Proofs.Ytnkfboplafckoaa.built Go.Proofs.Ytnkfboplafckoaa.reads Go.Proofs.Ytnkfboplafckoaa.numLaws

theorem seven_below' {w w1 : World} (h : Below w.heap.size w w1) (a b c d e f i : Value) : Below w.heap.size w (seven w1 w.heap.size a b c d e f i) :=
  ((((((h.setCell (p := ⟨w.heap.size, 0, none⟩) (Nat.le_refl _) a).setCell (p := ⟨w.heap.size, 1, none⟩) (Nat.le_refl _) b).setCell (p := ⟨w.heap.size, 2, none⟩) (Nat.le_refl _) c).setCell (p := ⟨w.heap.size, 3, none⟩) (Nat.le_refl _) d).setCell (p := ⟨w.heap.size, 4, none⟩) (Nat.le_refl _) e).setCell (p := ⟨w.heap.size, 5, none⟩) (Nat.le_refl _) f).setCell (p := ⟨w.heap.size, 6, none⟩) (Nat.le_refl _) i

theorem hd_at (s : ByteArray) (a : Nat) (h : a < s.size) : hd (s.data.toList.drop a) = if s[a].toNat < 1 ∨ 5 < s[a].toNat then .bad 21 else match getL (s.extract (a + 1) s.size).data.toList with
    | .bad e => .bad e
    | .ok n m => .ok s[a].toNat n (s.data.toList.drop (a + 1 + m)) := by
  rw [sevens.drop_cons s a h, hd, tail_list]
  cases getL (s.data.toList.drop (a + 1)) <;> simp [Nat.add_comm, Nat.add_left_comm]

end Go.Proofs.Ytnkfboplafckoaa.refReads

/- The document's own reader of terms: read at a number, at an atom. -/

namespace Go.Proofs.Ytnkfboplafckoaa.refReads
set_option linter.unusedVariables false
set_option linter.unusedSimpArgs false
open Go.RowKit Go.Proofs.Ytnkfboplafckoaa.base Go.Proofs.Ytnkfboplafckoaa.tm Go.Proofs.Ytnkfboplafckoaa.lies Go.Proofs.Ytnkfboplafckoaa.rights Go.Proofs.Ytnkfboplafckoaa.copies Go.Proofs.Ytnkfboplafckoaa.built Go.Proofs.Ytnkfboplafckoaa.reads Go.Proofs.Ytnkfboplafckoaa.numLaws

end Go.Proofs.Ytnkfboplafckoaa.refReads

/- The document's own reader of terms: read at a box, at a row. -/

namespace Go.Proofs.Ytnkfboplafckoaa.refReads
set_option linter.unusedVariables false
set_option linter.unusedSimpArgs false
open Go.RowKit Go.Proofs.Ytnkfboplafckoaa.base Go.Proofs.Ytnkfboplafckoaa.tm Go.Proofs.Ytnkfboplafckoaa.lies Go.Proofs.Ytnkfboplafckoaa.rights Go.Proofs.Ytnkfboplafckoaa.copies Go.Proofs.Ytnkfboplafckoaa.built Go.Proofs.Ytnkfboplafckoaa.reads Go.Proofs.Ytnkfboplafckoaa.numLaws

/-- what more leaves, by what it says -/
def NVal (s : ByteArray) (k n : Int) (b : Nat) (r : Res (List T)) (W w' : World) (v : Value) : Prop :=
  match r with
  | .bad err => err ≠ 0 ∧ v = got 0 0 ⟨#[]⟩ (.slice none 0 0) 0 0 err
  | .ok l r b' => ∃ (A : Option Addr) (c a' : Nat), v = got k n ⟨#[]⟩ (.slice A l.length c) (a' : Nat) (b' : Nat) 0 ∧ a' ≤ s.size ∧ s.data.toList.drop a' = r ∧ b ≤ b' ∧ b' ≤ 4000 ∧ Held w' W.heap.size w'.heap.size l (.slice A l.length c)
theorem nval {s : ByteArray} {k n : Int} {b : Nat} {r : Res (List T)} {W w' : World} {e : Ending} (h : NPost W s k n b r e w') :
    ∃ k2 n2 s2 A2 l2 c2 a2 b2 e2, e = .returned (got k2 n2 s2 (.slice A2 l2 c2) a2 b2 e2) ∧ Below W.heap.size W w' ∧ NVal s k n b r W w' (got k2 n2 s2 (.slice A2 l2 c2) a2 b2 e2) := by
  cases r with
  | bad err => obtain ⟨h1, h2, rfl⟩ := h; exact ⟨_, _, _, _, _, _, _, _, _, rfl, h1, h2, rfl⟩
  | ok l r b' => obtain ⟨h1, A, c, a', rfl, h2, h3, h4, h5, h6⟩ := h; exact ⟨_, _, _, _, _, _, _, _, _, rfl, h1, A, c, a', rfl, h2, h3, h4, h5, h6⟩

end Go.Proofs.Ytnkfboplafckoaa.refReads

/- The document's own reader of terms: read at any place. -/

namespace Go.Proofs.Ytnkfboplafckoaa.refReads
set_option linter.unusedVariables false
set_option linter.unusedSimpArgs false
open Go.RowKit Go.Proofs.Ytnkfboplafckoaa.base Go.Proofs.Ytnkfboplafckoaa.tm Go.Proofs.Ytnkfboplafckoaa.lies Go.Proofs.Ytnkfboplafckoaa.rights Go.Proofs.Ytnkfboplafckoaa.copies Go.Proofs.Ytnkfboplafckoaa.built Go.Proofs.Ytnkfboplafckoaa.reads Go.Proofs.Ytnkfboplafckoaa.numLaws

theorem read_list (s : ByteArray) (a b k n m cnt d : Nat) (kk nn : Int) (w : World) (e : Ending) (w' : World) (hkk : kk = (k : Int)) (hnn : nn = (n : Int)) (hk : k ≤ 5) (hn : n < 18446744073709551616)
    (h : ∃ v W w1 c0 c1 c2 c3 c4 c5 c6, e = .returned v ∧ Below w.heap.size w w' ∧ NVal s kk nn (b + 1) (many (readT d) cnt (s.data.toList.drop (a + 1 + m)) (b + 1)) W w1 v ∧ w' = seven w1 w.heap.size c0 c1 c2 c3 c4 c5 c6 ∧ w.heap.size < W.heap.size) :
    GPost w s b (match many (readT d) cnt (s.data.toList.drop (a + 1 + m)) (b + 1) with | .bad e => .bad e | .ok l r b' => .ok (.mk k n ⟨#[]⟩ l) r b') e w' := by
  obtain ⟨v, W, w1, c0, c1, c2, c3, c4, c5, c6, rfl, hb, hv, rfl, hW⟩ := h
  subst hkk hnn
  cases hm : many (readT d) cnt (s.data.toList.drop (a + 1 + m)) (b + 1) with
  | bad err =>
    rw [hm] at hv
    obtain ⟨h1, rfl⟩ := hv
    exact ⟨hb, h1, rfl⟩
  | ok l r b' =>
    rw [hm] at hv
    obtain ⟨A, c, a', rfl, h1, h2, h3, h4, h5⟩ := hv
    refine ⟨hb, A, c, a', rfl, h1, h2, by omega, h4, ?_, ?_⟩
    · exact h5.move (by omega) (by simp [seven]) fun p p1 p2 => seven_cell _ _ _ _ _ _ _ _ _ _ (by omega)
    · exact ⟨by show (-9223372036854775808 : Int) ≤ (k : Int) ∧ (k : Int) ≤ 9223372036854775807; omega, by show (0 : Int) ≤ (n : Int) ∧ (n : Int) < 18446744073709551616; omega, Nat.zero_le _⟩

theorem dec1_below {w w2 : World} {o : Obj} (hG : Below (w.alloc o).heap.size (w.alloc o) w2) (a b c d : Value) (q : Obj) : Below w.heap.size w ((four w2 w.heap.size 0 a b c d).alloc q) := by
  have h : Below w.heap.size w w2 := ((Below.refl _ _).alloc (Nat.le_refl _) o).trans (hG.mono (by simp))
  exact (four_below h (Nat.le_refl _) a b c d).alloc (by rw [four_size]; exact h.size) q
theorem dec1_lies {w w2 : World} {o : Obj} {t : T} {v : Value} (hH : Held w2 (w.alloc o).heap.size w2.heap.size t.l v) (hF : Fits t) (a b c d : Value) (q : Obj) :
    Lies ((four w2 w.heap.size 0 a b c d).alloc q) ((four w2 w.heap.size 0 a b c d).alloc q).heap.size t v := by
  refine Held.lies (lo := (w.alloc o).heap.size) (hi := w2.heap.size) (hH.move (Nat.le_refl _) (Nat.le_refl _) fun p p1 p2 => ?_) hF.1 hF.2.1 hF.2.2 (by rw [World.size_alloc, four_size]; omega)
  simp only [World.size_alloc] at p1
  rw [World.cell?_alloc_lt _ _ _ (by rw [four_size]; exact p2), four_cell _ _ _ _ _ _ _ _ (by omega)]

end Go.Proofs.Ytnkfboplafckoaa.refReads

/- The walks of the laws TermDecodes and TermReads: they answer true and write nothing that was there. -/

namespace Go.Proofs.Ytnkfboplafckoaa.decs
set_option linter.unusedVariables false
set_option linter.unusedSimpArgs false
open Go.RowKit Go.Proofs.Ytnkfboplafckoaa.base Go.Proofs.Ytnkfboplafckoaa.tm Go.Proofs.Ytnkfboplafckoaa.lies Go.Proofs.Ytnkfboplafckoaa.rights Go.Proofs.Ytnkfboplafckoaa.encs Go.Proofs.Ytnkfboplafckoaa.refEncs Go.Proofs.Ytnkfboplafckoaa.cuts Go.Proofs.Ytnkfboplafckoaa.refReads

end Go.Proofs.Ytnkfboplafckoaa.decs

/- The document's own Copy. -/

namespace Go.Proofs.Ytnkfboplafckoaa.copyT
set_option linter.unusedVariables false
set_option linter.unusedSimpArgs false
open Go.RowKit Go.Proofs.Ytnkfboplafckoaa.base Go.Proofs.Ytnkfboplafckoaa.tm Go.Proofs.Ytnkfboplafckoaa.lies Go.Proofs.Ytnkfboplafckoaa.rights Go.Proofs.Ytnkfboplafckoaa.copies Go.Proofs.Ytnkfboplafckoaa.built Go.Proofs.Ytnkfboplafckoaa.refReads

/-- what Copy leaves -/
def CPost (W : World) (t : T) (e : Ending) (w' : World) : Prop :=
  Below W.heap.size W w' ∧ ∃ (A : Option Addr) (c : Nat), e = .returned (T.val t (.slice A t.l.length c)) ∧ Held w' W.heap.size w'.heap.size t.l (.slice A t.l.length c)

/-- at the loop's head -/
def CHead (W : World) (t : T) (i : Value) (wr : World) : Prop :=
  ∃ (j : Nat) (l : List T) (A : Option Addr) (c : Nat), i = .int .i64 j ∧ j ≤ t.l.length ∧ l = t.l.take j ∧ l.length = j ∧ Blk wr (W.heap.size + 1 + 1) 31 #[.int .i64 t.k, .int .u64 t.n, .string t.s, .slice A l.length c] ∧
    Blk wr (W.heap.size + 1) 31 #[.int .i64 0, .int .u64 0, .string ⟨#[]⟩, .slice none 0 0] ∧ Built (W.heap.size + 3) wr l (.slice A l.length c) ∧ Below W.heap.size W wr ∧ W.heap.size + 3 ≤ wr.heap.size

set_option maxRecDepth 100000 in
set_option maxHeartbeats 800000 in
theorem copy_any (N : Nat) : ∀ (t : T) (v : Value) (w : World), t.size ≤ N → Lies w w.heap.size t v → Calls Try.prog 106 #[T.val t v] w (CPost w t) := by
  induction N with
  | zero => intro t v w h; have := size_pos t; omega
  | succ N ih =>
    intro t v w hN hL
    obtain ⟨A, c, xs, rfl, hk, hn, hs, hlc, hc, hr, hl⟩ := hL.open_
    have HS := lay (size_eq t)
    have hN' : sizeL t.l ≤ N := by rw [size_eq] at hN; omega
    clear hN hL
    have hb0 := ((Blk.new w 31 #[.int .i64 t.k, .int .u64 t.n, .string t.s, .slice A t.l.length c]).alloc (.cells #[.int .i64 0, .int .u64 0, .string ⟨#[]⟩, .slice none 0 0] 31)).alloc (.cells #[.int .i64 t.k, .int .u64 t.n, .string t.s, .slice none 0 0] 31)
    have hb1 := (Blk.new (w.alloc (.cells #[.int .i64 t.k, .int .u64 t.n, .string t.s, .slice A t.l.length c] 31)) 31 #[.int .i64 0, .int .u64 0, .string ⟨#[]⟩, .slice none 0 0]).alloc (.cells #[.int .i64 t.k, .int .u64 t.n, .string t.s, .slice none 0 0] 31)
    have hb2 := Blk.new ((w.alloc (.cells #[.int .i64 t.k, .int .u64 t.n, .string t.s, .slice A t.l.length c] 31)).alloc (.cells #[.int .i64 0, .int .u64 0, .string ⟨#[]⟩, .slice none 0 0] 31)) 31 #[.int .i64 t.k, .int .u64 t.n, .string t.s, .slice none 0 0]
    simp only [World.size_alloc] at hb1 hb2
    go_enter Try.func106, Try.ntmps106
    go_wp2_with fail
    go_loopw [17] (fun i wr => CHead w t i wr) (fun i _ => t.l.length - (intOf i).toNat)
    case atStart => exact ⟨0, [], none, 0, rfl, Nat.zero_le _, rfl, rfl, hb2, hb1, Built.nil _ _, (((Below.refl _ _).alloc (Nat.le_refl _) _).alloc (by simp) _).alloc (by simp; omega) _, by simp⟩
    case round =>
      clear hb0 hb1 hb2
      obtain ⟨j, l, A1, c1, rfl, hj, hlj', hll', hk0, hk1, hB, hbw, hzr⟩ := hrel
      have z0 := hk0.cell 0
      have z1 := hk0.cell 1
      have z2 := hk0.cell 2
      have z3 := hk0.cell 3
      simp at z0 z1 z2 z3
      have f3 := hk0.frozen 3
      by_cases hlt : j < t.l.length
      · obtain ⟨b0, off, A', c', rfl, hbl, hv, c0, c1', c2, c3⟩ := at_cells (hr.below hbw) (hl.below hbw) hlt
        obtain ⟨_, _, _, hvv, hk', hn', hs', _⟩ := hv.open_
        have HLJ := lay hlj'
        have HLL := lay hll'
        have hle56 : (l.length + 1) * 56 ≤ 140737488355328 := by omega
        clear hlj' hll'
        have hg := size_get t.l j hlt
        have hv1 := (hv.now (by omega)).later (Nat.le_refl _) (.cells #[.int .i64 t.l[j].k, .int .u64 t.l[j].n, .string t.l[j].s, .slice A' t.l[j].l.length c'] 31)
        have hcall := ih t.l[j] _ _ (by omega) hv1
        go_wp2_with fail
        refine hcall.mono ?_
        rintro e w2 ⟨hG, A2, c2', rfl, hH⟩
        have hown := fun k hk => (hB.own k hk).2
        have hzw2 := hG.size
        simp only [World.size_alloc] at hzw2
        have hk2 := (hk0.alloc (.cells #[.int .i64 t.l[j].k, .int .u64 t.l[j].n, .string t.l[j].s, .slice A' t.l[j].l.length c'] 31)).below hG (by simp; omega)
        have q3 := hk2.cell 3
        simp at q3
        have hbx := (Below.refl wr.heap.size wr).alloc (Nat.le_refl _) (.cells #[.int .i64 t.l[j].k, .int .u64 t.l[j].n, .string t.l[j].s, .slice A' t.l[j].l.length c'] 31)
        have hw2 : w.heap.size + 1 + 1 < w2.heap.size := by omega
        have hG' := hbx.trans (hG.mono (by simp))
        have hB2 := (hB.below hG').below ((Below.refl _ _).alloc (Nat.le_refl _) (.cells #[.int .i64 t.l[j].k, .int .u64 t.l[j].n, .string t.l[j].s, .slice A2 t.l[j].l.length c2'] 31))
        have hH2 := hH.move (Nat.le_refl _) (Nat.le_refl _) (fun p _ p2 => World.cell?_alloc_lt w2 (.cells #[.int .i64 t.l[j].k, .int .u64 t.l[j].n, .string t.l[j].s, .slice A2 t.l[j].l.length c2'] 31) p p2)
        have hk3 := hk2.alloc (.cells #[.int .i64 t.l[j].k, .int .u64 t.l[j].n, .string t.l[j].s, .slice A2 t.l[j].l.length c2'] 31)
        have hk1' := ((hk1.alloc (.cells #[.int .i64 t.l[j].k, .int .u64 t.l[j].n, .string t.l[j].s, .slice A' t.l[j].l.length c'] 31)).below hG (by simp; omega)).alloc (.cells #[.int .i64 t.l[j].k, .int .u64 t.l[j].n, .string t.l[j].s, .slice A2 t.l[j].l.length c2'] 31)
        go_wp2_with (at_builtin; refine wpList_append_term rfl _ _ rfl (t := t.l[j]) rfl hB2 rfl (by simp; omega) hH2 (by simp) (by simp; omega) (fun k hk => by have := hown k hk; simp; omega) hk' hn' hs' rfl (by simp) hle56 ?next)
        case next =>
          intro v3 w3 hB3 hbe3 hz3 hkeep3
          obtain ⟨A3, c3, rfl, hc3⟩ := hB3.form
          have hk4 := Blk.below hk3 hbe3 (by omega)
          have hk5 := Blk.below hk1' hbe3 (by omega)
          clear hkeep3 q3 z0 z1 z2 z3
          have f3' := hk4.frozen 3
          have hzz := hk4.lt
          have q3 := hk4.cell 3
          simp at q3
          go_wp2_with fail
          have hBw3 := (hbw.trans ((hG'.mono hbw.size))).alloc (by have := hbw.size; omega) (.cells #[.int .i64 t.l[j].k, .int .u64 t.l[j].n, .string t.l[j].s, .slice A2 t.l[j].l.length c2'] 31)
          have hBw4 := hBw3.trans (hbe3.mono (Nat.le_add_right _ 3))
          have hbox := hk4.put 3 (.slice A3 (l ++ [t.l[j]]).length c3)
          have hlen1 : (l ++ [t.l[j]]).length = j + 1 := by have := HLL.out; simp [this]
          have htk : t.l.take (j + 1) = l ++ [t.l[j]] := by rw [List.take_succ_eq_append_getElem hlt, ← HLJ.out]
          refine ⟨⟨j + 1, l ++ [t.l[j]], A3, c3, by go_num, hlt, htk.symm, hlen1, ?_, ?_, ?_, ?_, ?_⟩, by simp [intOf]; omega⟩
          · simpa using hbox
          · exact hk5.far (p := ⟨w.heap.size + 1 + 1, 3, none⟩) (by show w.heap.size + 1 ≠ w.heap.size + 1 + 1; omega) _
          · exact hB3.kept (grown_set _ (w.heap.size + 1 + 1) 3 _) (fun g e => by injection e with e; omega)
          · exact hBw4.setCell (p := ⟨w.heap.size + 1 + 1, 3, none⟩) (by show w.heap.size ≤ w.heap.size + 1 + 1; omega) _
          · have := hk5.lt; simp only [World.size_setCell]; omega
      · have hlt' : j = t.l.length := by omega
        subst hlt'
        have hlt2 : l = t.l := by rw [hlj', List.take_length]
        clear hlj' hll'
        subst hlt2
        have hHl := hB.held (by omega)
        have q0 := hk1.cell 0
        have q1 := hk1.cell 1
        have q2 := hk1.cell 2
        have q3 := hk1.cell 3
        simp at q0 q1 q2 q3
        have g0 := hk1.frozen 0
        have g1 := hk1.frozen 1
        have g2 := hk1.frozen 2
        have g3 := hk1.frozen 3
        have hw1 : w.heap.size + 1 < wr.heap.size := by omega
        go_wp2_with fail
        refine bodyPost_ret (v := .agg #[.int .i64 t.k, .int .u64 t.n, .string t.s, .slice A1 t.l.length c1]) (by simp [results, Try.results106, go_sem, hw1, q0, q1, q2, q3]) rfl ⟨?_, A1, c1, rfl, ?_⟩
        · exact four_below hbw (o := 0) (g := w.heap.size + 1) (by omega) _ _ _ _
        · exact hHl.move (by omega) (by rw [show ∀ a b c d : Value, ((((wr.setCell ⟨w.heap.size + 1, 0, none⟩ a).setCell ⟨w.heap.size + 1, 1, none⟩ b).setCell ⟨w.heap.size + 1, 2, none⟩ c).setCell ⟨w.heap.size + 1, 3, none⟩ d).heap.size = wr.heap.size from fun a b c d => by simp only [World.size_setCell]]; exact Nat.le_refl _) fun p p1 p2 => four_cell wr (w.heap.size + 1) 0 _ _ _ _ p (by omega)
end Go.Proofs.Ytnkfboplafckoaa.copyT
