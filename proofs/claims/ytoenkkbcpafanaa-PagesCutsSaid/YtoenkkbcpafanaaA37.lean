/- box.Open: what it answers. -/
import Derived.Test.YtoenkkbcpafanaaA36
import Derived.Test.YtoenkkbcpafanaaA34
import Derived.Test.YtoenkkbcpafanaaA30
import Derived.Test.YtoenkkbcpafanaaA48


namespace Go.Proofs.Ytoenkkbcpafanaa.boxes
set_option linter.unusedVariables false
set_option linter.unusedSimpArgs false
open Go.RowKit Go.Proofs.Ytoenkkbcpafanaa.base Go.Proofs.Ytoenkkbcpafanaa.tm Go.Proofs.Ytoenkkbcpafanaa.lies Go.Proofs.Ytoenkkbcpafanaa.rights Go.Proofs.Ytoenkkbcpafanaa.encs Go.Proofs.Ytoenkkbcpafanaa.copies Go.Proofs.Ytoenkkbcpafanaa.makes Go.Proofs.Ytoenkkbcpafanaa.reads

theorem head_get {l : List T} (h : 0 < l.length) : l.headD zT = l[0] := by
  cases l with
  | nil => simp at h
  | cons t l => rfl

set_option maxRecDepth 100000 in
set_option maxHeartbeats 400000 in
theorem open_bad (k : Int) (t : T) (v : Value) (w : World) (hL : Lies w w.heap.size t v) (hR : t.right ≠ 0) :
    Calls Try.prog 311 #[.int .u64 k, T.val t v] w (Ans w (zT, t.right)) := by
  obtain ⟨A, c, xs, rfl, hk, hn, hs, hlc, hc, hr, hl⟩ := hL.open_
  have hL2 := (hL.later (Nat.le_refl _) (.cells #[.int .i64 t.k, .int .u64 t.n, .string t.s, .slice A t.l.length c] 273)).later (Nat.le_refl _) (.cells #[.int .i64 0, .int .u64 0, .string ⟨#[]⟩, .slice none 0 0] 273)
  have d1 : (t.right != 0) = true := by simpa using hR
  have h1 := adds.right_any t _ _ hL2
  simp only [World.size_alloc] at h1
  clear hR
  go_enter Try.func311, Try.ntmps311
  go_wp2_with fail
  refine h1.mono ?_
  rintro e w1 ⟨rfl, hb1⟩
  have hB := (Blk.new (w.alloc (.cells #[.int .i64 t.k, .int .u64 t.n, .string t.s, .slice A t.l.length c] 273)) 273 #[.int .i64 0, .int .u64 0, .string ⟨#[]⟩, .slice none 0 0]).below hb1 (by simp)
  simp only [World.size_alloc] at hB
  have z0 := hB.cell 0
  have z1 := hB.cell 1
  have z2 := hB.cell 2
  have z3 := hB.cell 3
  simp at z0 z1 z2 z3
  have f0 := hB.frozen 0
  have f1 := hB.frozen 1
  have f2 := hB.frozen 2
  have f3 := hB.frozen 3
  go_wp2_with fail
  refine bodyPost_ret (v := .tuple #[T.val zT (.slice none 0 0), .int .i64 t.right]) (by simp [results, Try.results311, go_sem, z0, z1, z2, z3, show zT.k = 0 from rfl, show zT.n = 0 from rfl, show zT.s = ⟨#[]⟩ from rfl]) rfl ⟨?_, none, 0, rfl, Held.nil _ _ _, fits_z⟩
  exact four_below (o := 0) (below2 hb1) (by omega) _ _ _ _

set_option maxRecDepth 100000 in
set_option maxHeartbeats 400000 in
theorem open_kind (k : Int) (t : T) (v : Value) (w : World) (hL : Lies w w.heap.size t v) (hR : t.right = 0) (hK : t.k ≠ 4) :
    Calls Try.prog 311 #[.int .u64 k, T.val t v] w (Ans w (zT, 30)) := by
  obtain ⟨A, c, xs, rfl, hk, hn, hs, hlc, hc, hr, hl⟩ := hL.open_
  have hL2 := (hL.later (Nat.le_refl _) (.cells #[.int .i64 t.k, .int .u64 t.n, .string t.s, .slice A t.l.length c] 273)).later (Nat.le_refl _) (.cells #[.int .i64 0, .int .u64 0, .string ⟨#[]⟩, .slice none 0 0] 273)
  have d1 : (t.k != 4) = true := by simpa using hK
  have h1 := adds.right_any t _ _ hL2
  rw [hR] at h1
  simp only [World.size_alloc] at h1
  clear hR hK
  go_enter Try.func311, Try.ntmps311
  go_wp2_with fail
  refine h1.mono ?_
  rintro e w1 ⟨rfl, hb1⟩
  have hB := (Blk.new (w.alloc (.cells #[.int .i64 t.k, .int .u64 t.n, .string t.s, .slice A t.l.length c] 273)) 273 #[.int .i64 0, .int .u64 0, .string ⟨#[]⟩, .slice none 0 0]).below hb1 (by simp)
  have hC := ((Blk.new w 273 #[.int .i64 t.k, .int .u64 t.n, .string t.s, .slice A t.l.length c]).alloc (.cells #[.int .i64 0, .int .u64 0, .string ⟨#[]⟩, .slice none 0 0] 273)).below hb1 (by omega)
  simp only [World.size_alloc] at hB
  have z0 := hB.cell 0
  have z1 := hB.cell 1
  have z2 := hB.cell 2
  have z3 := hB.cell 3
  have y0 := hC.cell 0
  simp at z0 z1 z2 z3 y0
  have f0 := hB.frozen 0
  have f1 := hB.frozen 1
  have f2 := hB.frozen 2
  have f3 := hB.frozen 3
  go_wp2_with fail
  refine bodyPost_ret (v := .tuple #[T.val zT (.slice none 0 0), .int .i64 30]) (by simp [results, Try.results311, go_sem, z0, z1, z2, z3, show zT.k = 0 from rfl, show zT.n = 0 from rfl, show zT.s = ⟨#[]⟩ from rfl]) rfl ⟨?_, none, 0, rfl, Held.nil _ _ _, fits_z⟩
  exact four_below (o := 0) (below2 hb1) (by omega) _ _ _ _

set_option maxRecDepth 100000 in
set_option maxHeartbeats 400000 in
theorem open_key (k : Int) (t : T) (v : Value) (w : World) (hL : Lies w w.heap.size t v) (hR : t.right = 0) (hK : t.k = 4) (hN : t.n ≠ k) :
    Calls Try.prog 311 #[.int .u64 k, T.val t v] w (Ans w (zT, 31)) := by
  obtain ⟨A, c, xs, rfl, hk, hn, hs, hlc, hc, hr, hl⟩ := hL.open_
  have hL2 := (hL.later (Nat.le_refl _) (.cells #[.int .i64 t.k, .int .u64 t.n, .string t.s, .slice A t.l.length c] 273)).later (Nat.le_refl _) (.cells #[.int .i64 0, .int .u64 0, .string ⟨#[]⟩, .slice none 0 0] 273)
  have d1 : (t.k != 4) = false := by simpa using hK
  have d2 : (t.n != k) = true := by simpa using hN
  have h1 := adds.right_any t _ _ hL2
  rw [hR] at h1
  simp only [World.size_alloc] at h1
  clear hR hK hN
  go_enter Try.func311, Try.ntmps311
  go_wp2_with fail
  refine h1.mono ?_
  rintro e w1 ⟨rfl, hb1⟩
  have hB := (Blk.new (w.alloc (.cells #[.int .i64 t.k, .int .u64 t.n, .string t.s, .slice A t.l.length c] 273)) 273 #[.int .i64 0, .int .u64 0, .string ⟨#[]⟩, .slice none 0 0]).below hb1 (by simp)
  have hC := ((Blk.new w 273 #[.int .i64 t.k, .int .u64 t.n, .string t.s, .slice A t.l.length c]).alloc (.cells #[.int .i64 0, .int .u64 0, .string ⟨#[]⟩, .slice none 0 0] 273)).below hb1 (by omega)
  simp only [World.size_alloc] at hB
  have z0 := hB.cell 0
  have z1 := hB.cell 1
  have z2 := hB.cell 2
  have z3 := hB.cell 3
  have y0 := hC.cell 0
  have y1 := hC.cell 1
  simp at z0 z1 z2 z3 y0 y1
  have f0 := hB.frozen 0
  have f1 := hB.frozen 1
  have f2 := hB.frozen 2
  have f3 := hB.frozen 3
  go_wp2_with fail
  refine bodyPost_ret (v := .tuple #[T.val zT (.slice none 0 0), .int .i64 31]) (by simp [results, Try.results311, go_sem, z0, z1, z2, z3, show zT.k = 0 from rfl, show zT.n = 0 from rfl, show zT.s = ⟨#[]⟩ from rfl]) rfl ⟨?_, none, 0, rfl, Held.nil _ _ _, fits_z⟩
  exact four_below (o := 0) (below2 hb1) (by omega) _ _ _ _

set_option maxRecDepth 100000 in
set_option maxHeartbeats 400000 in
theorem open_ok (k : Int) (t : T) (v : Value) (w : World) (hL : Lies w w.heap.size t v) (hR : t.right = 0) (hK : t.k = 4) (hN : t.n = k) (h0 : 0 < t.l.length) :
    Calls Try.prog 311 #[.int .u64 k, T.val t v] w (Ans w (t.l[0], 0)) := by
  obtain ⟨A, c, xs, rfl, hk, hn, hs, hlc, hc, hr, hl⟩ := hL.open_
  have hL2 := (hL.later (Nat.le_refl _) (.cells #[.int .i64 t.k, .int .u64 t.n, .string t.s, .slice A t.l.length c] 273)).later (Nat.le_refl _) (.cells #[.int .i64 0, .int .u64 0, .string ⟨#[]⟩, .slice none 0 0] 273)
  have d1 : (t.k != 4) = false := by simpa using hK
  have d2 : (t.n != k) = false := by simpa using hN
  have h1 := adds.right_any t _ _ hL2
  rw [hR] at h1
  simp only [World.size_alloc] at h1
  clear hR hK hN
  go_enter Try.func311, Try.ntmps311
  go_wp2_with fail
  refine h1.mono ?_
  rintro e w1 ⟨rfl, hb1⟩
  have hz1 := hb1.size
  simp only [World.size_alloc] at hz1
  have hBel1 := below2 hb1
  have hB := (Blk.new (w.alloc (.cells #[.int .i64 t.k, .int .u64 t.n, .string t.s, .slice A t.l.length c] 273)) 273 #[.int .i64 0, .int .u64 0, .string ⟨#[]⟩, .slice none 0 0]).below hb1 (by simp)
  have hC := ((Blk.new w 273 #[.int .i64 t.k, .int .u64 t.n, .string t.s, .slice A t.l.length c]).alloc (.cells #[.int .i64 0, .int .u64 0, .string ⟨#[]⟩, .slice none 0 0] 273)).below hb1 (by omega)
  simp only [World.size_alloc] at hB
  have y0 := hC.cell 0
  have y1 := hC.cell 1
  have y3 := hC.cell 3
  obtain ⟨b, off, A', c', rfl, hbl, hv, q0, q1, q2, q3⟩ := at_cells (hr.below hBel1) (hl.below hBel1) h0
  simp at y0 y1 y3 q0 q1 q2 q3
  have h2 := copied_one _ _ _ (Lies.now hv (by omega))
  go_wp2_with fail
  refine h2.mono ?_
  rintro e w2 ⟨hb2, A2, c2, rfl, hh⟩
  have hz2 := hb2.size
  have hB2 := hB.below hb2 (by omega)
  have z0 := hB2.cell 0
  have z1 := hB2.cell 1
  have z2 := hB2.cell 2
  have z3 := hB2.cell 3
  simp at z0 z1 z2 z3
  have f0 := hB2.frozen 0
  have f1 := hB2.frozen 1
  have f2 := hB2.frozen 2
  have f3 := hB2.frozen 3
  go_wp2_with fail
  have hw2 : w.heap.size + 1 < w2.heap.size := by omega
  refine bodyPost_ret (v := .tuple #[T.val t.l[0] (.slice A2 t.l[0].l.length c2), .int .i64 0]) (by simp [results, Try.results311, go_sem, z0, z1, z2, z3, hw2]) rfl ⟨?_, A2, c2, rfl, ?_, hv.fits⟩
  · exact four_below (o := 0) (hBel1.trans (hb2.mono (by omega))) (by omega) _ _ _ _
  · exact hh.move (by omega) (by simp) fun p p1 p2 => four_cell w2 (w.heap.size + 1) 0 _ _ _ _ p (by omega)

theorem box_len {t : T} (hR : t.right = 0) (hK : t.k = 4) : t.l.length = 1 := by
  obtain ⟨_, _, h3⟩ := right_ok hR
  rw [shaped_eq, Bool.and_eq_true] at h3
  exact (one_kind h3.1).2.2.2.2.2.2.2 hK

theorem open_any (k : Int) (t : T) (v : Value) (w : World) (hL : Lies w w.heap.size t v) :
    Calls Try.prog 311 #[.int .u64 k, T.val t v] w (Ans w (openT k t)) := by
  unfold openT
  by_cases h1 : t.right = 0
  · rw [if_neg (by simpa using h1)]
    by_cases h2 : t.k = 4
    · rw [if_neg (by simpa using h2)]
      by_cases h3 : t.n = k
      · rw [if_neg (by simpa using h3)]
        have h0 : 0 < t.l.length := by rw [box_len h1 h2]; omega
        rw [head_get h0]
        exact open_ok k t v w hL h1 h2 h3 h0
      · rw [if_pos h3]; exact open_key k t v w hL h1 h2 h3
    · rw [if_pos h2]; exact open_kind k t v w hL h1 h2
  · rw [if_pos h1]; exact open_bad k t v w hL h1
end Go.Proofs.Ytoenkkbcpafanaa.boxes

/- The document's own Box, Seal, Open. -/

namespace Go.Proofs.Ytoenkkbcpafanaa.boxes
set_option linter.unusedVariables false
set_option linter.unusedSimpArgs false
open Go.RowKit Go.Proofs.Ytoenkkbcpafanaa.base Go.Proofs.Ytoenkkbcpafanaa.tm Go.Proofs.Ytoenkkbcpafanaa.lies Go.Proofs.Ytoenkkbcpafanaa.rights Go.Proofs.Ytoenkkbcpafanaa.encs Go.Proofs.Ytoenkkbcpafanaa.copies Go.Proofs.Ytoenkkbcpafanaa.makes Go.Proofs.Ytoenkkbcpafanaa.reads Go.Proofs.Ytoenkkbcpafanaa.copyT

end Go.Proofs.Ytoenkkbcpafanaa.boxes

/- The document's own Open. -/

namespace Go.Proofs.Ytoenkkbcpafanaa.boxes
set_option linter.unusedVariables false
set_option linter.unusedSimpArgs false
open Go.RowKit Go.Proofs.Ytoenkkbcpafanaa.base Go.Proofs.Ytoenkkbcpafanaa.tm Go.Proofs.Ytoenkkbcpafanaa.lies Go.Proofs.Ytoenkkbcpafanaa.rights Go.Proofs.Ytoenkkbcpafanaa.encs Go.Proofs.Ytoenkkbcpafanaa.copies Go.Proofs.Ytoenkkbcpafanaa.makes Go.Proofs.Ytoenkkbcpafanaa.reads Go.Proofs.Ytoenkkbcpafanaa.copyT

end Go.Proofs.Ytoenkkbcpafanaa.boxes

/- The walk of the law BoxSeals: it answers true and writes nothing that was there. -/

namespace Go.Proofs.Ytoenkkbcpafanaa.boxes
set_option linter.unusedVariables false
set_option linter.unusedSimpArgs false
open Go.RowKit Go.Proofs.Ytoenkkbcpafanaa.base Go.Proofs.Ytoenkkbcpafanaa.tm Go.Proofs.Ytoenkkbcpafanaa.lies Go.Proofs.Ytoenkkbcpafanaa.rights Go.Proofs.Ytoenkkbcpafanaa.encs Go.Proofs.Ytoenkkbcpafanaa.copies Go.Proofs.Ytoenkkbcpafanaa.makes Go.Proofs.Ytoenkkbcpafanaa.reads Go.Proofs.Ytoenkkbcpafanaa.likes

/-- the cells of a term's variable -/
abbrev cs (t : T) (A : Option Addr) (c : Nat) : Obj := .cells #[.int .i64 t.k, .int .u64 t.n, .string t.s, .slice A t.l.length c] 273
theorem one_step {w w1 w2 : World} (hb : Below w.heap.size w w1) (o : Obj) (h2 : Below (w1.heap.size + 1) (w1.alloc o) w2) : Below w.heap.size w w2 :=
  (hb.alloc hb.size o).trans (h2.mono (by have := hb.size; omega))

end Go.Proofs.Ytoenkkbcpafanaa.boxes

/- The document's own reader of terms: read, by how deep it may go. -/

namespace Go.Proofs.Ytoenkkbcpafanaa.refReads
set_option linter.unusedVariables false
set_option linter.unusedSimpArgs false
open Go.RowKit Go.Proofs.Ytoenkkbcpafanaa.base Go.Proofs.Ytoenkkbcpafanaa.tm Go.Proofs.Ytoenkkbcpafanaa.lies Go.Proofs.Ytoenkkbcpafanaa.rights Go.Proofs.Ytoenkkbcpafanaa.copies Go.Proofs.Ytoenkkbcpafanaa.built Go.Proofs.Ytoenkkbcpafanaa.reads Go.Proofs.Ytoenkkbcpafanaa.numLaws

theorem seven_below' {w w1 : World} (h : Below w.heap.size w w1) (a b c d e f i : Value) : Below w.heap.size w (seven w1 w.heap.size a b c d e f i) :=
  ((((((h.setCell (p := ⟨w.heap.size, 0, none⟩) (Nat.le_refl _) a).setCell (p := ⟨w.heap.size, 1, none⟩) (Nat.le_refl _) b).setCell (p := ⟨w.heap.size, 2, none⟩) (Nat.le_refl _) c).setCell (p := ⟨w.heap.size, 3, none⟩) (Nat.le_refl _) d).setCell (p := ⟨w.heap.size, 4, none⟩) (Nat.le_refl _) e).setCell (p := ⟨w.heap.size, 5, none⟩) (Nat.le_refl _) f).setCell (p := ⟨w.heap.size, 6, none⟩) (Nat.le_refl _) i

theorem hd_at (s : ByteArray) (a : Nat) (h : a < s.size) : hd (s.data.toList.drop a) = if s[a].toNat < 1 ∨ 5 < s[a].toNat then .bad 21 else match getL (s.extract (a + 1) s.size).data.toList with
    | .bad e => .bad e
    | .ok n m => .ok s[a].toNat n (s.data.toList.drop (a + 1 + m)) := by
  rw [sevens.drop_cons s a h, hd, tail_list]
  cases getL (s.data.toList.drop (a + 1)) <;> simp [Nat.add_comm, Nat.add_left_comm]

end Go.Proofs.Ytoenkkbcpafanaa.refReads

/- The document's own reader of terms: read at a number, at an atom. -/

namespace Go.Proofs.Ytoenkkbcpafanaa.refReads
set_option linter.unusedVariables false
set_option linter.unusedSimpArgs false
open Go.RowKit Go.Proofs.Ytoenkkbcpafanaa.base Go.Proofs.Ytoenkkbcpafanaa.tm Go.Proofs.Ytoenkkbcpafanaa.lies Go.Proofs.Ytoenkkbcpafanaa.rights Go.Proofs.Ytoenkkbcpafanaa.copies Go.Proofs.Ytoenkkbcpafanaa.built Go.Proofs.Ytoenkkbcpafanaa.reads Go.Proofs.Ytoenkkbcpafanaa.numLaws

end Go.Proofs.Ytoenkkbcpafanaa.refReads

/- The document's own reader of terms: read at a box, at a row. -/

namespace Go.Proofs.Ytoenkkbcpafanaa.refReads
set_option linter.unusedVariables false
set_option linter.unusedSimpArgs false
open Go.RowKit Go.Proofs.Ytoenkkbcpafanaa.base Go.Proofs.Ytoenkkbcpafanaa.tm Go.Proofs.Ytoenkkbcpafanaa.lies Go.Proofs.Ytoenkkbcpafanaa.rights Go.Proofs.Ytoenkkbcpafanaa.copies Go.Proofs.Ytoenkkbcpafanaa.built Go.Proofs.Ytoenkkbcpafanaa.reads Go.Proofs.Ytoenkkbcpafanaa.numLaws

/-- what more leaves, by what it says -/
def NVal (s : ByteArray) (k n : Int) (b : Nat) (r : Res (List T)) (W w' : World) (v : Value) : Prop :=
  match r with
  | .bad err => err ≠ 0 ∧ v = got 0 0 ⟨#[]⟩ (.slice none 0 0) 0 0 err
  | .ok l r b' => ∃ (A : Option Addr) (c a' : Nat), v = got k n ⟨#[]⟩ (.slice A l.length c) (a' : Nat) (b' : Nat) 0 ∧ a' ≤ s.size ∧ s.data.toList.drop a' = r ∧ b ≤ b' ∧ b' ≤ 4000 ∧ Held w' W.heap.size w'.heap.size l (.slice A l.length c)
theorem nval {s : ByteArray} {k n : Int} {b : Nat} {r : Res (List T)} {W w' : World} {e : Ending} (h : NPost W s k n b r e w') :
    ∃ k2 n2 s2 A2 l2 c2 a2 b2 e2, e = .returned (got k2 n2 s2 (.slice A2 l2 c2) a2 b2 e2) ∧ Below W.heap.size W w' ∧ NVal s k n b r W w' (got k2 n2 s2 (.slice A2 l2 c2) a2 b2 e2) := by
  cases r with
  | bad err => obtain ⟨h1, h2, rfl⟩ := h; exact ⟨_, _, _, _, _, _, _, _, _, rfl, h1, h2, rfl⟩
  | ok l r b' => obtain ⟨h1, A, c, a', rfl, h2, h3, h4, h5, h6⟩ := h; exact ⟨_, _, _, _, _, _, _, _, _, rfl, h1, A, c, a', rfl, h2, h3, h4, h5, h6⟩

end Go.Proofs.Ytoenkkbcpafanaa.refReads

/- The document's own reader of terms: read at any place. -/

namespace Go.Proofs.Ytoenkkbcpafanaa.refReads
set_option linter.unusedVariables false
set_option linter.unusedSimpArgs false
open Go.RowKit Go.Proofs.Ytoenkkbcpafanaa.base Go.Proofs.Ytoenkkbcpafanaa.tm Go.Proofs.Ytoenkkbcpafanaa.lies Go.Proofs.Ytoenkkbcpafanaa.rights Go.Proofs.Ytoenkkbcpafanaa.copies Go.Proofs.Ytoenkkbcpafanaa.built Go.Proofs.Ytoenkkbcpafanaa.reads Go.Proofs.Ytoenkkbcpafanaa.numLaws

theorem read_list (s : ByteArray) (a b k n m cnt d : Nat) (kk nn : Int) (w : World) (e : Ending) (w' : World) (hkk : kk = (k : Int)) (hnn : nn = (n : Int)) (hk : k ≤ 5) (hn : n < 18446744073709551616)
    (h : ∃ v W w1 c0 c1 c2 c3 c4 c5 c6, e = .returned v ∧ Below w.heap.size w w' ∧ NVal s kk nn (b + 1) (many (readT d) cnt (s.data.toList.drop (a + 1 + m)) (b + 1)) W w1 v ∧ w' = seven w1 w.heap.size c0 c1 c2 c3 c4 c5 c6 ∧ w.heap.size < W.heap.size) :
    GPost w s b (match many (readT d) cnt (s.data.toList.drop (a + 1 + m)) (b + 1) with | .bad e => .bad e | .ok l r b' => .ok (.mk k n ⟨#[]⟩ l) r b') e w' := by
  obtain ⟨v, W, w1, c0, c1, c2, c3, c4, c5, c6, rfl, hb, hv, rfl, hW⟩ := h
  subst hkk hnn
  cases hm : many (readT d) cnt (s.data.toList.drop (a + 1 + m)) (b + 1) with
  | bad err =>
    rw [hm] at hv
    obtain ⟨h1, rfl⟩ := hv
    exact ⟨hb, h1, rfl⟩
  | ok l r b' =>
    rw [hm] at hv
    obtain ⟨A, c, a', rfl, h1, h2, h3, h4, h5⟩ := hv
    refine ⟨hb, A, c, a', rfl, h1, h2, by omega, h4, ?_, ?_⟩
    · exact h5.move (by omega) (by simp [seven]) fun p p1 p2 => seven_cell _ _ _ _ _ _ _ _ _ _ (by omega)
    · exact ⟨by show (-9223372036854775808 : Int) ≤ (k : Int) ∧ (k : Int) ≤ 9223372036854775807; omega, by show (0 : Int) ≤ (n : Int) ∧ (n : Int) < 18446744073709551616; omega, Nat.zero_le _⟩

theorem dec1_below {w w2 : World} {o : Obj} (hG : Below (w.alloc o).heap.size (w.alloc o) w2) (a b c d : Value) (q : Obj) : Below w.heap.size w ((four w2 w.heap.size 0 a b c d).alloc q) := by
  have h : Below w.heap.size w w2 := ((Below.refl _ _).alloc (Nat.le_refl _) o).trans (hG.mono (by simp))
  exact (four_below h (Nat.le_refl _) a b c d).alloc (by rw [four_size]; exact h.size) q
theorem dec1_lies {w w2 : World} {o : Obj} {t : T} {v : Value} (hH : Held w2 (w.alloc o).heap.size w2.heap.size t.l v) (hF : Fits t) (a b c d : Value) (q : Obj) :
    Lies ((four w2 w.heap.size 0 a b c d).alloc q) ((four w2 w.heap.size 0 a b c d).alloc q).heap.size t v := by
  refine Held.lies (lo := (w.alloc o).heap.size) (hi := w2.heap.size) (hH.move (Nat.le_refl _) (Nat.le_refl _) fun p p1 p2 => ?_) hF.1 hF.2.1 hF.2.2 (by rw [World.size_alloc, four_size]; omega)
  simp only [World.size_alloc] at p1
  rw [World.cell?_alloc_lt _ _ _ (by rw [four_size]; exact p2), four_cell _ _ _ _ _ _ _ _ (by omega)]

end Go.Proofs.Ytoenkkbcpafanaa.refReads

/- Plain laws of reading: a right term is read back; what is read is right and is written just so; a beginning is too short. -/

namespace Go.Proofs.Ytoenkkbcpafanaa.tm
set_option linter.unusedVariables false
set_option linter.unusedSimpArgs false
open Go.Proofs.Ytoenkkbcpafanaa.lies Go.Proofs.Ytoenkkbcpafanaa.encs

theorem kind_byte {k : Int} (h1 : 1 ≤ k) (h5 : k ≤ 5) : (UInt8.ofNat k.toNat).toNat = k.toNat := ofNat_to (by omega)
theorem hd_enc {k : Int} {n : Nat} (h1 : 1 ≤ k) (h5 : k ≤ 5) (hn : n < 18446744073709551616) (rest : List UInt8) : hd (UInt8.ofNat k.toNat :: (putL n ++ rest)) = .ok k.toNat n rest := by
  simp only [hd]
  rw [kind_byte h1 h5, if_neg (by omega), getL_put hn]
  simp
theorem list_len_size (l : List T) : l.length ≤ sizeL l := by
  induction l with
  | nil => simp
  | cons t l ih => have := size_pos t; simp only [List.length_cons, sizeL]; omega
theorem head_word {t : T} (h : t.one = true) (hw : t.word) (hz : t.size ≤ 4000) : t.head < 18446744073709551616 := by
  have h1 : 0 ≤ t.n ∧ t.n < 18446744073709551616 := by cases t; exact hw.1.1
  have := list_len_size t.l
  rw [size_eq] at hz
  exact headlt h h1 (by omega)
theorem bytes_eq (s : ByteArray) : (⟨s.data.toList.toArray⟩ : ByteArray) = s := rfl
theorem empty_of {s : ByteArray} (h : s.data.toList = []) : s = ⟨#[]⟩ := by
  rw [← bytes_eq s, h]

/-- a term by its kind -/
theorem by_kind (t : T) (h : t.one = true) : (t.k = 2 ∧ t = .mk 2 0 t.s [] ∧ t.s.size ≤ 4000) ∨ (t.k = 5 ∧ t = .mk 5 0 ⟨#[]⟩ t.l) ∨ (t.k = 4 ∧ t = .mk 4 t.n ⟨#[]⟩ t.l ∧ t.l.length = 1) ∨ (t.k ≠ 2 ∧ t.k ≠ 5 ∧ t.k ≠ 4 ∧ t = .mk t.k t.n ⟨#[]⟩ []) := by
  obtain ⟨h1, h5, hs, hsn, h2n, h5n, hl, h4⟩ := one_kind h
  by_cases k2 : t.k = 2
  · refine .inl ⟨k2, ?_, hs⟩
    conv => lhs; rw [T.eta t, k2, h2n k2, hl (by omega) (by omega)]
  · have hse := empty_of (hsn k2)
    by_cases k5 : t.k = 5
    · refine .inr (.inl ⟨k5, ?_⟩)
      conv => lhs; rw [T.eta t, k5, h5n k5, hse]
    · by_cases k4 : t.k = 4
      · refine .inr (.inr (.inl ⟨k4, ?_, h4 k4⟩))
        conv => lhs; rw [T.eta t, k4, hse]
      · refine .inr (.inr (.inr ⟨k2, k5, k4, ?_⟩))
        conv => lhs; rw [T.eta t, hse, hl k4 k5]

theorem readT_succ (d : Nat) (s : List UInt8) (b : Nat) : readT (d + 1) s b = if 4000 ≤ b then .bad 23 else match hd s with | .bad e => .bad e | .ok k n r => body (readT d) k n r (b + 1) := rfl

theorem read_enc (N : Nat) : (∀ (t : T) (d b : Nat) (more : List UInt8), t.size ≤ N → t.shaped = true → t.word → t.deep ≤ d → b + t.size ≤ 4000 → readT d (t.enc ++ more) b = .ok t more (b + t.size)) ∧
    (∀ (l : List T) (d b : Nat) (more : List UInt8), sizeL l ≤ N → shapedL l = true → wordL l → deepL l ≤ d → b + sizeL l ≤ 4000 → many (readT d) l.length (encL l ++ more) b = .ok l more (b + sizeL l)) := by
  induction N with
  | zero =>
    refine ⟨fun t d b more h => by have := size_pos t; omega, fun l d b more h _ _ _ _ => ?_⟩
    cases l with
    | nil => rfl
    | cons t l => have := size_pos t; simp only [sizeL] at h; omega
  | succ N ih =>
    have hT : ∀ (t : T) (d b : Nat) (more : List UInt8), t.size ≤ N + 1 → t.shaped = true → t.word → t.deep ≤ d → b + t.size ≤ 4000 → readT d (t.enc ++ more) b = .ok t more (b + t.size) := by
      intro t d b more hN hsh hw hd hb
      rw [shaped_eq, Bool.and_eq_true] at hsh
      obtain ⟨hone, hsl⟩ := hsh
      have hz := size_eq t
      have hdp := deep_eq t
      have hhead := head_word hone hw (by omega)
      have hk := one_kind hone
      have hwl : wordL t.l := by cases t; exact hw.2
      have hwn : 0 ≤ t.n := by cases t; exact hw.1.1.1
      obtain ⟨d, rfl⟩ : ∃ d', d = d' + 1 := ⟨d - 1, by omega⟩
      rw [readT_succ, if_neg (by omega), enc_eq, List.cons_append, List.append_assoc, hd_enc hk.1 hk.2.1 hhead]
      have he := head_eq t
      show body (readT d) t.k.toNat t.head (t.s.data.toList ++ encL t.l ++ more) (b + 1) = _
      unfold body
      rcases by_kind t hone with ⟨k2, ht, hs4⟩ | ⟨k5, ht⟩ | ⟨k4, ht, h41⟩ | ⟨n2, n5, n4, ht⟩
      · rw [if_pos (by omega)]
        rw [if_pos k2] at he
        have hl : t.l = [] := by rw [ht]; rfl
        have hs' : t.s.data.toList.length = t.s.size := by simp
        rw [he, if_neg (by omega), if_neg (by simp), hl]
        simp only [encL, List.append_nil, List.take_left, List.drop_left]
        rw [hz, hl, bytes_eq]
        conv => rhs; rw [ht]
        rfl
      · have hs0 : t.s.data.toList = [] := by rw [ht]; rfl
        rw [if_neg (by omega), if_pos (by omega)]
        rw [if_neg (by omega), if_pos k5] at he
        rw [he, hs0, List.nil_append, ih.2 t.l d (b + 1) more (by omega) hsl hwl (by omega) (by omega)]
        show Res.ok (T.mk 5 0 ⟨#[]⟩ t.l) more (b + 1 + sizeL t.l) = _
        rw [← ht, hz, show b + 1 + sizeL t.l = b + (sizeL t.l + 1) by omega]
      · have hs0 : t.s.data.toList = [] := by rw [ht]; rfl
        rw [if_neg (by omega), if_neg (by omega), if_pos (by omega)]
        rw [if_neg (by omega), if_neg (by omega)] at he
        have := ih.2 t.l d (b + 1) more (by omega) hsl hwl (by omega) (by omega)
        rw [h41] at this
        rw [hs0, List.nil_append, this]
        show Res.ok (T.mk 4 (t.head : Int) ⟨#[]⟩ t.l) more (b + 1 + sizeL t.l) = _
        rw [he, Int.toNat_of_nonneg hwn, ← ht, hz, show b + 1 + sizeL t.l = b + (sizeL t.l + 1) by omega]
      · have hs0 : t.s.data.toList = [] := by rw [ht]; rfl
        have hl : t.l = [] := by rw [ht]; rfl
        rw [if_neg (by omega), if_neg (by omega), if_neg (by omega)]
        rw [if_neg n2, if_neg n5] at he
        rw [hs0, hl]
        show Res.ok (T.mk ((t.k.toNat : Nat) : Int) (t.head : Int) ⟨#[]⟩ []) ([] ++ encL [] ++ more) (b + 1) = _
        rw [he, Int.toNat_of_nonneg hwn, Int.toNat_of_nonneg (by omega), ← ht, hz, hl]
        rfl
    refine ⟨hT, fun l d b more h hsl hwl hd hb => ?_⟩
    cases l with
    | nil => rfl
    | cons t l =>
      simp only [sizeL] at h hb
      simp only [shapedL, Bool.and_eq_true] at hsl
      simp only [deepL] at hd
      have hp := size_pos t
      simp only [encL, List.length_cons, many, List.append_assoc]
      rw [hT t d b _ (by omega) hsl.1 hwl.1 (by omega) (by omega)]
      simp only []
      rw [ih.2 l d (b + t.size) more (by omega) hsl.2 hwl.2 (by omega) (by omega)]
      simp only [sizeL, Nat.add_assoc]
end Go.Proofs.Ytoenkkbcpafanaa.tm

/- Plain laws of reading, the other way: what is read is right and is written just so; a beginning of a right term's bytes is too short. -/

namespace Go.Proofs.Ytoenkkbcpafanaa.tm
set_option linter.unusedVariables false
set_option linter.unusedSimpArgs false
open Go.Proofs.Ytoenkkbcpafanaa.lies Go.Proofs.Ytoenkkbcpafanaa.encs

theorem hd_back {s r : List UInt8} {k n : Nat} (h : hd s = .ok k n r) : 1 ≤ k ∧ k ≤ 5 ∧ n < 18446744073709551616 ∧ s = UInt8.ofNat k :: (putL n ++ r) := by
  cases s with
  | nil => simp [hd] at h
  | cons c q =>
    simp only [hd] at h
    split at h
    · cases h
    · split at h
      · cases h
      · rename_i m hq
        injection h with e1 e2 e3
        subst e1 e2 e3
        obtain ⟨b1, b2, b3⟩ := getL_back hq
        refine ⟨by omega, by omega, b1, ?_⟩
        rw [UInt8.ofNat_toNat, ← b3, List.take_append_drop]

theorem one_atom {s : ByteArray} (h : s.size ≤ 4000) : (T.mk 2 0 s []).one = true := by simp [T.one, h]
theorem one_box (n : Int) {l : List T} (h : l.length = 1) : (T.mk 4 n ⟨#[]⟩ l).one = true := by simp [T.one, h]
theorem one_num {k : Int} (n : Int) (h : k = 1 ∨ k = 3) : (T.mk k n ⟨#[]⟩ []).one = true := by simp [T.one, h]

/-- what is read -/
structure Back (d b : Nat) (s : List UInt8) (t : T) (r : List UInt8) (b' : Nat) : Prop where
  bytes : s = t.enc ++ r
  shaped : t.shaped = true
  word : t.word
  deep : t.deep ≤ d
  count : b' = b + t.size
  most : b' ≤ 4000
structure BackL (d b : Nat) (s : List UInt8) (l : List T) (n : Nat) (r : List UInt8) (b' : Nat) : Prop where
  bytes : s = encL l ++ r
  len : l.length = n
  shaped : shapedL l = true
  word : wordL l
  deep : deepL l ≤ d
  count : b' = b + sizeL l
  most : b' ≤ 4000

theorem many_back (d : Nat) (ih : ∀ s b t r b', b ≤ 4000 → readT d s b = .ok t r b' → Back d b s t r b') (n : Nat) : ∀ s b l r b', b ≤ 4000 → many (readT d) n s b = .ok l r b' → BackL d b s l n r b' := by
  induction n with
  | zero =>
    intro s b l r b' hb h
    simp only [many] at h
    injection h with e1 e2 e3
    subst e1 e2 e3
    exact ⟨rfl, rfl, rfl, trivial, Nat.zero_le _, rfl, hb⟩
  | succ n ihn =>
    intro s b l r b' hb h
    simp only [many] at h
    cases hq : readT d s b with
    | bad e => rw [hq] at h; cases h
    | ok t s1 b1 =>
      rw [hq] at h
      simp only [] at h
      have h1 := ih _ _ _ _ _ hb hq
      cases hm : many (readT d) n s1 b1 with
      | bad e => rw [hm] at h; cases h
      | ok l2 s2 b2 =>
        rw [hm] at h
        simp only [] at h
        injection h with e1 e2 e3
        subst e1 e2 e3
        have h2 := ihn _ _ _ _ _ h1.most hm
        refine ⟨?_, by simp [h2.len], by simp [shapedL, h1.shaped, h2.shaped], ⟨h1.word, h2.word⟩, ?_, ?_, h2.most⟩
        · rw [h1.bytes, h2.bytes]; simp only [encL, List.append_assoc]
        · have a := h1.deep; have b := h2.deep; simp only [deepL]; omega
        · have a := h1.count; have b := h2.count; simp only [sizeL]; omega

theorem read_back (d : Nat) : ∀ s b t r b', b ≤ 4000 → readT d s b = .ok t r b' → Back d b s t r b' := by
  induction d with
  | zero =>
    intro s b t r b' hb h
    unfold readT at h
    split at h <;> cases h
  | succ d ih =>
    intro s b t r b' hb h
    rw [readT_succ] at h
    split at h
    · cases h
    · rename_i hb4
      cases hh : hd s with
      | bad e => rw [hh] at h; cases h
      | ok k n q =>
        rw [hh] at h
        simp only [] at h
        obtain ⟨k1, k5, hn, hs⟩ := hd_back hh
        unfold body at h
        by_cases c2 : k = 2
        · subst c2
          rw [if_pos rfl] at h
          split at h
          · cases h
          · split at h
            · cases h
            · rename_i c3 c4
              injection h with e1 e2 e3
              subst e1 e2 e3
              have hl : (q.take n).length = n := by rw [List.length_take]; omega
              refine ⟨?_, ?_, ⟨⟨⟨Int.le_refl 0, by show (0 : Int) < 18446744073709551616; omega⟩, by show 0 < 18446744073709551616; omega⟩, trivial⟩, by show 0 + 1 ≤ d + 1; omega, by show b + 1 = b + (0 + 1); omega, by omega⟩
              · rw [hs, enc_eq, head_eq, if_pos (show (T.mk 2 0 ⟨(q.take n).toArray⟩ []).k = 2 from rfl)]
                show _ = UInt8.ofNat 2 :: (putL (q.take n).length ++ (q.take n ++ [])) ++ q.drop n
                rw [hl]
                simp
              · have hsz : (⟨(q.take n).toArray⟩ : ByteArray).size ≤ 4000 := by show (q.take n).toArray.size ≤ 4000; simp; omega
                rw [shaped_eq, Bool.and_eq_true]
                refine ⟨?_, rfl⟩
                exact one_atom hsz
        · rw [if_neg c2] at h
          by_cases c5 : k = 5
          · subst c5
            rw [if_pos rfl] at h
            cases hm : many (readT d) n q (b + 1) with
            | bad e => rw [hm] at h; cases h
            | ok l q2 b2 =>
              rw [hm] at h
              simp only [] at h
              injection h with e1 e2 e3
              subst e1 e2 e3
              have hB := many_back d ih n _ _ _ _ _ (by omega) hm
              refine ⟨?_, ?_, ⟨⟨⟨Int.le_refl 0, by show (0 : Int) < 18446744073709551616; omega⟩, by show l.length < _; rw [hB.len]; exact hn⟩, hB.word⟩, by have := hB.deep; show deepL l + 1 ≤ d + 1; omega, by have := hB.count; show b2 = b + (sizeL l + 1); omega, hB.most⟩
              · rw [hs, hB.bytes, enc_eq, head_eq, if_neg (show ¬ (T.mk 5 0 ⟨#[]⟩ l).k = 2 from (by show ¬ (5 : Int) = 2; omega)), if_pos (show (T.mk 5 0 ⟨#[]⟩ l).k = 5 from rfl)]
                show _ = UInt8.ofNat 5 :: (putL l.length ++ ([] ++ encL l)) ++ q2
                rw [hB.len]
                simp
              · rw [shaped_eq, Bool.and_eq_true]
                exact ⟨rfl, hB.shaped⟩
          · rw [if_neg c5] at h
            by_cases c4 : k = 4
            · subst c4
              rw [if_pos rfl] at h
              cases hm : many (readT d) 1 q (b + 1) with
              | bad e => rw [hm] at h; cases h
              | ok l q2 b2 =>
                rw [hm] at h
                simp only [] at h
                injection h with e1 e2 e3
                subst e1 e2 e3
                have hB := many_back d ih 1 _ _ _ _ _ (by omega) hm
                refine ⟨?_, ?_, ⟨⟨⟨by show (0 : Int) ≤ (n : Int); omega, by show (n : Int) < 18446744073709551616; omega⟩, by show l.length < _; rw [hB.len]; omega⟩, hB.word⟩, by have := hB.deep; show deepL l + 1 ≤ d + 1; omega, by have := hB.count; show b2 = b + (sizeL l + 1); omega, hB.most⟩
                · rw [hs, hB.bytes, enc_eq, head_eq, if_neg (show ¬ (T.mk 4 n ⟨#[]⟩ l).k = 2 from (by show ¬ (4 : Int) = 2; omega)), if_neg (show ¬ (T.mk 4 n ⟨#[]⟩ l).k = 5 from (by show ¬ (4 : Int) = 5; omega))]
                  show _ = UInt8.ofNat 4 :: (putL n ++ ([] ++ encL l)) ++ q2
                  simp
                · rw [shaped_eq, Bool.and_eq_true]
                  refine ⟨?_, hB.shaped⟩
                  exact one_box _ hB.len
            · rw [if_neg c4] at h
              injection h with e1 e2 e3
              subst e1 e2 e3
              have hk : k = 1 ∨ k = 3 := by omega
              have hk2 : ¬ ((k : Int) = 2) := by omega
              have hk5 : ¬ ((k : Int) = 5) := by omega
              refine ⟨?_, ?_, ⟨⟨⟨by show (0 : Int) ≤ (n : Int); omega, by show (n : Int) < 18446744073709551616; omega⟩, by show 0 < 18446744073709551616; omega⟩, trivial⟩, by show 0 + 1 ≤ d + 1; omega, by show b + 1 = b + (0 + 1); omega, by omega⟩
              · rw [hs, enc_eq, head_eq, if_neg (show ¬ (T.mk k n ⟨#[]⟩ []).k = 2 from hk2), if_neg (show ¬ (T.mk k n ⟨#[]⟩ []).k = 5 from hk5)]
                show _ = UInt8.ofNat k :: (putL n ++ ([] ++ [])) ++ q
                simp
              · rw [shaped_eq, Bool.and_eq_true]
                refine ⟨?_, rfl⟩
                exact one_num _ (by omega)

theorem decode_back {s : List UInt8} {t : T} (h : tm.decode s = .ok t) : s = t.enc ∧ t.right = 0 ∧ t.word := by
  unfold tm.decode at h
  cases hq : readT 12 s 0 with
  | bad e => rw [hq] at h; cases h
  | ok t' r b =>
    rw [hq] at h
    simp only [] at h
    split at h
    · rename_i hr
      injection h with h
      subst h
      subst hr
      have hB := read_back 12 _ _ _ _ _ (by omega) hq
      refine ⟨by simpa using hB.bytes, ok_right (by have := hB.count; have := hB.most; omega) hB.deep hB.shaped, hB.word⟩
    · cases h
theorem decode_enc {t : T} (h : t.right = 0) (hw : t.word) (more : List UInt8) : tm.decode (t.enc ++ more) = if more = [] then .ok t else .bad 24 := by
  obtain ⟨h1, h2, h3⟩ := right_ok h
  unfold tm.decode
  rw [(read_enc t.size).1 t 12 0 more (Nat.le_refl _) h3 hw h2 (by omega)]
theorem enc_inj {a b : T} (ha : a.right = 0) (hb : b.right = 0) (wa : a.word) (wb : b.word) {x : List UInt8} (h : a.enc ++ x = b.enc) : a = b ∧ x = [] := by
  have h1 := decode_enc ha wa x
  have h2 := decode_enc hb wb []
  rw [List.append_nil, ← h, h1, if_pos rfl] at h2
  split at h2
  · injection h2 with h2
    exact ⟨h2, by assumption⟩
  · cases h2
end Go.Proofs.Ytoenkkbcpafanaa.tm
