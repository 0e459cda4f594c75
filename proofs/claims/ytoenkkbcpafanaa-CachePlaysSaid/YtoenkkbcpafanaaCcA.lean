/- Opened nodes in memory: rows of what is kept; a cache's state. -/
import Derived.Test.YtoenkkbcpafanaaTrRef
import Derived.Test.YtoenkkbcpafanaaTrG


namespace Go.Proofs.Ytoenkkbcpafanaa.caches
set_option linter.unusedVariables false
set_option linter.unusedSimpArgs false
open Go.RowKit Go.Proofs.Ytoenkkbcpafanaa.base Go.Proofs.Ytoenkkbcpafanaa.vers Go.Proofs.Ytoenkkbcpafanaa.nodes Go.Proofs.Ytoenkkbcpafanaa.trees

/-- what is kept: reference, node, pins -/
abbrev PH := R × P3 × Nat
structure H where
  r : R
  n : N
  p : Nat
  F : Nat → Prop
def H.cells (x : H) : List Value := [.int .u64 (x.r.k : Int), .int .i64 x.r.g, .int .i64 x.r.o, .int .i64 x.r.n, .bool x.n.lf, .slice x.n.A x.n.es.length x.n.c, .slice x.n.Q x.n.ks.length x.n.m, .int .i64 (x.p : Int)]
abbrev H.val (x : H) : Value := .agg #[.int .u64 (x.r.k : Int), .int .i64 x.r.g, .int .i64 x.r.o, .int .i64 x.r.n, .bool x.n.lf, .slice x.n.A x.n.es.length x.n.c, .slice x.n.Q x.n.ks.length x.n.m, .int .i64 (x.p : Int)]
def H.ph (x : H) : PH := (x.r, x.n.p, x.p)
def cellsH : List H → List Value
  | [] => []
  | x :: l => x.cells ++ cellsH l
theorem cellsH_len : ∀ l : List H, (cellsH l).length = l.length * 8
  | [] => rfl
  | x :: l => by rw [cellsH, List.length_append, cellsH_len l]; simp [H.cells]; omega
theorem cellsH_app : ∀ l m : List H, cellsH (l ++ m) = cellsH l ++ cellsH m
  | [], m => rfl
  | x :: l, m => by rw [List.cons_append, cellsH, cellsH_app l m, cellsH, List.append_assoc]
theorem cellsH_one (l : List H) : ∀ u ∈ cellsH l, u.oneCell' = true := by
  induction l with
  | nil => intro u h; cases h
  | cons x l ih =>
    intro u h
    rcases List.mem_append.1 h with h | h
    · simp [H.cells] at h
      rcases h with rfl | rfl | rfl | rfl | rfl | rfl | rfl | rfl <;> rfl
    · exact ih u h
theorem cellsH_at : ∀ (l : List H) {j : Nat} (hj : j < l.length), (cellsH l)[j * 8]? = some (.int .u64 (l[j].r.k : Int)) ∧ (cellsH l)[j * 8 + 1]? = some (.int .i64 l[j].r.g) ∧ (cellsH l)[j * 8 + 2]? = some (.int .i64 l[j].r.o) ∧ (cellsH l)[j * 8 + 3]? = some (.int .i64 l[j].r.n) ∧ (cellsH l)[j * 8 + 4]? = some (.bool l[j].n.lf) ∧ (cellsH l)[j * 8 + 5]? = some (.slice l[j].n.A l[j].n.es.length l[j].n.c) ∧ (cellsH l)[j * 8 + 6]? = some (.slice l[j].n.Q l[j].n.ks.length l[j].n.m) ∧ (cellsH l)[j * 8 + 7]? = some (.int .i64 (l[j].p : Int))
  | x :: l, 0, _ => ⟨rfl, rfl, rfl, rfl, rfl, rfl, rfl, rfl⟩
  | x :: l, j + 1, hj => by
    have ih := cellsH_at l (j := j) (by simpa using hj)
    have hl : x.cells.length = 8 := rfl
    have e : ∀ r, r < 8 → (cellsH (x :: l))[(j + 1) * 8 + r]? = (cellsH l)[j * 8 + r]? := fun r _ => by
      rw [cellsH, List.getElem?_append_right (by rw [hl]; omega), hl, show (j + 1) * 8 + r - 8 = j * 8 + r by omega]
    exact ⟨(e 0 (by omega)).trans ih.1, (e 1 (by omega)).trans ih.2.1, (e 2 (by omega)).trans ih.2.2.1, (e 3 (by omega)).trans ih.2.2.2.1, (e 4 (by omega)).trans ih.2.2.2.2.1, (e 5 (by omega)).trans ih.2.2.2.2.2.1, (e 6 (by omega)).trans ih.2.2.2.2.2.2.1, (e 7 (by omega)).trans ih.2.2.2.2.2.2.2⟩
theorem infoH : (Try.prog.info? 110).map (fun i => (i.zero, i.size, i.bytes)) = some (some (.agg #[.int .u64 0, .int .i64 0, .int .i64 0, .int .i64 0, .bool false, .slice none 0 0, .slice none 0 0, .int .i64 0]), 8, 96) := by kernel_rfl

/-- a cache in block p, its row in block g, all that it keeps in blocks Z -/
structure Ca (w : World) (p g : Nat) (Z : Nat → Prop) (room f m : Nat) (l : List H) : Prop where
  blk : Blk w p 212 #[.slice (some ⟨g, 0, none⟩) l.length room, .int .i64 (room : Int), .int .i64 (f : Int), .int .i64 (m : Int)]
  row : w.ownsRow 0 110 8 (.slice (some ⟨g, 0, none⟩) l.length room) l.length (cellsH l)
  cap : room ≤ 32
  ne : g ≠ p
  zlt : ∀ b, Z b → b < w.heap.size
  zp : Z p
  zg : Z g
  node : ∀ x ∈ l, OwnNF w x.F x.n ∧ ∀ b, x.F b → Z b ∧ b ≠ p ∧ b ≠ g
  apart : l.Pairwise (fun x y => ∀ b, x.F b → ¬ y.F b)
  fits : ∀ x ∈ l, x.r.fits
section
variable {w w' : World} {p g room f m : Nat} {Z : Nat → Prop} {l : List H}
theorem Ca.agree (h : Ca w p g Z room f m l) (hk : Agree w w' Z) (hs : w.heap.size ≤ w'.heap.size) : Ca w' p g Z room f m l :=
  ⟨(hk p h.zp).trans h.blk, ownsRow_agree h.row fun b hb => (by cases hb; exact hk g h.zg), h.cap, h.ne, fun b hb => Nat.lt_of_lt_of_le (h.zlt b hb) hs, h.zp, h.zg, fun x hx => ⟨(h.node x hx).1.agree (hk.mono fun b hb => ((h.node x hx).2 b hb).1), (h.node x hx).2⟩, h.apart, h.fits⟩
theorem Ca.below (h : Ca w p g Z room f m l) (hb : Below w.heap.size w w') : Ca w' p g Z room f m l := h.agree (Agree.of_below hb h.zlt) hb.size
theorem Ca.keep {S : Nat → Prop} (h : Ca w p g Z room f m l) (hk : Keep S w w') (hS : ∀ b, Z b → ¬ S b) : Ca w' p g Z room f m l := h.agree (hk.agree fun b hb => ⟨h.zlt b hb, hS b hb⟩) hk.size
theorem Ca.head (h : Ca w p g Z room f m l) : p < w.heap.size ∧ g < w.heap.size ∧ w.cell? ⟨p, 0, none⟩ = some (.slice (some ⟨g, 0, none⟩) l.length room) ∧ w.cell? ⟨p, 1, none⟩ = some (.int .i64 (room : Int)) ∧ w.cell? ⟨p, 2, none⟩ = some (.int .i64 (f : Int)) ∧ w.cell? ⟨p, 3, none⟩ = some (.int .i64 (m : Int)) :=
  ⟨h.blk.lt, (h.row.lt g rfl).2, h.blk.cell 0, h.blk.cell 1, h.blk.cell 2, h.blk.cell 3⟩
theorem Ca.frz (h : Ca w p g Z room f m l) : w.frozen? ⟨p, 0, none⟩ = false ∧ w.frozen? ⟨p, 1, none⟩ = false ∧ w.frozen? ⟨p, 2, none⟩ = false ∧ w.frozen? ⟨p, 3, none⟩ = false := ⟨h.blk.frozen 0, h.blk.frozen 1, h.blk.frozen 2, h.blk.frozen 3⟩
theorem Ca.len (h : Ca w p g Z room f m l) : l.length ≤ room := by
  rcases h.row.2 with ⟨e, _⟩ | ⟨g', cap, cur, e, _, _, hn, _⟩
  · cases e
  · injection e with _ _ e; omega
theorem Ca.at_ (h : Ca w p g Z room f m l) {j : Nat} (hj : j < l.length) : w.cell? ⟨g, j * 8, none⟩ = some (.int .u64 (l[j].r.k : Int)) ∧ w.cell? ⟨g, j * 8 + 1, none⟩ = some (.int .i64 l[j].r.g) ∧ w.cell? ⟨g, j * 8 + 2, none⟩ = some (.int .i64 l[j].r.o) ∧ w.cell? ⟨g, j * 8 + 3, none⟩ = some (.int .i64 l[j].r.n) ∧ w.cell? ⟨g, j * 8 + 4, none⟩ = some (.bool l[j].n.lf) ∧ w.cell? ⟨g, j * 8 + 5, none⟩ = some (.slice l[j].n.A l[j].n.es.length l[j].n.c) ∧ w.cell? ⟨g, j * 8 + 6, none⟩ = some (.slice l[j].n.Q l[j].n.ks.length l[j].n.m) ∧ w.cell? ⟨g, j * 8 + 7, none⟩ = some (.int .i64 (l[j].p : Int)) := by
  have hc := cellsH_at l hj
  have e := fun k (hk : k < 8) => h.row.cellAt (j * 8 + k) (by omega)
  exact ⟨(e 0 (by omega)).trans hc.1, (e 1 (by omega)).trans hc.2.1, (e 2 (by omega)).trans hc.2.2.1, (e 3 (by omega)).trans hc.2.2.2.1, (e 4 (by omega)).trans hc.2.2.2.2.1, (e 5 (by omega)).trans hc.2.2.2.2.2.1, (e 6 (by omega)).trans hc.2.2.2.2.2.2.1, (e 7 (by omega)).trans hc.2.2.2.2.2.2.2⟩
end
/-- a row that is read: each held node's cells -/
theorem RdF.h_at {w : World} {F : Nat → Prop} {A : Option Addr} {l : List H} (h : RdF w F A (cellsH l)) {j : Nat} (hj : j < l.length) : ∃ b off, A = some ⟨b, off, none⟩ ∧ F b ∧ w.cell? ⟨b, off + j * 8, none⟩ = some (.int .u64 (l[j].r.k : Int)) ∧ w.cell? ⟨b, off + j * 8 + 1, none⟩ = some (.int .i64 l[j].r.g) ∧ w.cell? ⟨b, off + j * 8 + 2, none⟩ = some (.int .i64 l[j].r.o) ∧ w.cell? ⟨b, off + j * 8 + 3, none⟩ = some (.int .i64 l[j].r.n) ∧ w.cell? ⟨b, off + j * 8 + 4, none⟩ = some (.bool l[j].n.lf) ∧ w.cell? ⟨b, off + j * 8 + 5, none⟩ = some (.slice l[j].n.A l[j].n.es.length l[j].n.c) ∧ w.cell? ⟨b, off + j * 8 + 6, none⟩ = some (.slice l[j].n.Q l[j].n.ks.length l[j].n.m) ∧ w.cell? ⟨b, off + j * 8 + 7, none⟩ = some (.int .i64 (l[j].p : Int)) := by
  have hc := cellsH_at l hj
  obtain ⟨b, off, e, hb, c0⟩ := h _ _ hc.1
  have g : ∀ k u, (cellsH l)[j * 8 + k]? = some u → w.cell? ⟨b, off + j * 8 + k, none⟩ = some u := fun k u hk => by
    obtain ⟨b', off', e', _, c⟩ := h _ _ hk
    rw [e] at e'
    cases e'
    rw [show off + j * 8 + k = off + (j * 8 + k) by omega]
    exact c
  exact ⟨b, off, e, hb, c0, g 1 _ hc.2.1, g 2 _ hc.2.2.1, g 3 _ hc.2.2.2.1, g 4 _ hc.2.2.2.2.1, g 5 _ hc.2.2.2.2.2.1, g 6 _ hc.2.2.2.2.2.2.1, g 7 _ hc.2.2.2.2.2.2.2⟩
end Go.Proofs.Ytoenkkbcpafanaa.caches
