/- Opened nodes in memory: rows of what is kept; a cache's state. -/
import Derived.Test.YtoenkkbcpafanaaA16
import Derived.Test.YtoenkkbcpafanaaA08
import Derived.Test.YtoenkkbcpafanaaA06
import Derived.WalkSpells
import Derived.Lib.SliceRun


namespace Go.Proofs.Ytoenkkbcpafanaa.caches
set_option linter.unusedVariables false
set_option linter.unusedSimpArgs false
open Go.RowKit Go.Proofs.Ytoenkkbcpafanaa.base Go.Proofs.Ytoenkkbcpafanaa.vers Go.Proofs.Ytoenkkbcpafanaa.nodes Go.Proofs.Ytoenkkbcpafanaa.trees

/-- what is kept: reference, node, pins -/
abbrev PH := R × P3 × Nat
structure H where
  r : R
  n : N
  p : Nat
  F : Nat → Prop
def H.cells (x : H) : List Value := [.int .u64 (x.r.k : Int), .int .i64 x.r.g, .int .i64 x.r.o, .int .i64 x.r.n, .bool x.n.lf, .slice x.n.A x.n.es.length x.n.c, .slice x.n.Q x.n.ks.length x.n.m, .int .i64 (x.p : Int)]
abbrev H.val (x : H) : Value := .agg #[.int .u64 (x.r.k : Int), .int .i64 x.r.g, .int .i64 x.r.o, .int .i64 x.r.n, .bool x.n.lf, .slice x.n.A x.n.es.length x.n.c, .slice x.n.Q x.n.ks.length x.n.m, .int .i64 (x.p : Int)]
def H.ph (x : H) : PH := (x.r, x.n.p, x.p)
def cellsH : List H → List Value
  | [] => []
  | x :: l => x.cells ++ cellsH l
theorem cellsH_len : ∀ l : List H, (cellsH l).length = l.length * 8
  | [] => rfl
  | x :: l => by rw [cellsH, List.length_append, cellsH_len l]; simp [H.cells]; omega
theorem cellsH_app : ∀ l m : List H, cellsH (l ++ m) = cellsH l ++ cellsH m
  | [], m => rfl
  | x :: l, m => by rw [List.cons_append, cellsH, cellsH_app l m, cellsH, List.append_assoc]
theorem cellsH_one (l : List H) : ∀ u ∈ cellsH l, u.oneCell' = true := by
  induction l with
  | nil => intro u h; cases h
  | cons x l ih =>
    intro u h
    rcases List.mem_append.1 h with h | h
    · simp [H.cells] at h
      rcases h with rfl | rfl | rfl | rfl | rfl | rfl | rfl | rfl <;> rfl
    · exact ih u h
theorem cellsH_at : ∀ (l : List H) {j : Nat} (hj : j < l.length), (cellsH l)[j * 8]? = some (.int .u64 (l[j].r.k : Int)) ∧ (cellsH l)[j * 8 + 1]? = some (.int .i64 l[j].r.g) ∧ (cellsH l)[j * 8 + 2]? = some (.int .i64 l[j].r.o) ∧ (cellsH l)[j * 8 + 3]? = some (.int .i64 l[j].r.n) ∧ (cellsH l)[j * 8 + 4]? = some (.bool l[j].n.lf) ∧ (cellsH l)[j * 8 + 5]? = some (.slice l[j].n.A l[j].n.es.length l[j].n.c) ∧ (cellsH l)[j * 8 + 6]? = some (.slice l[j].n.Q l[j].n.ks.length l[j].n.m) ∧ (cellsH l)[j * 8 + 7]? = some (.int .i64 (l[j].p : Int))
  | x :: l, 0, _ => ⟨rfl, rfl, rfl, rfl, rfl, rfl, rfl, rfl⟩
  | x :: l, j + 1, hj => by
    have ih := cellsH_at l (j := j) (by simpa using hj)
    have hl : x.cells.length = 8 := rfl
    have e : ∀ r, r < 8 → (cellsH (x :: l))[(j + 1) * 8 + r]? = (cellsH l)[j * 8 + r]? := fun r _ => by
      rw [cellsH, List.getElem?_append_right (by rw [hl]; omega), hl, show (j + 1) * 8 + r - 8 = j * 8 + r by omega]
    exact ⟨(e 0 (by omega)).trans ih.1, (e 1 (by omega)).trans ih.2.1, (e 2 (by omega)).trans ih.2.2.1, (e 3 (by omega)).trans ih.2.2.2.1, (e 4 (by omega)).trans ih.2.2.2.2.1, (e 5 (by omega)).trans ih.2.2.2.2.2.1, (e 6 (by omega)).trans ih.2.2.2.2.2.2.1, (e 7 (by omega)).trans ih.2.2.2.2.2.2.2⟩
theorem infoH : (Try.prog.info? 110).map (fun i => (i.zero, i.size, i.bytes)) = some (some (.agg #[.int .u64 0, .int .i64 0, .int .i64 0, .int .i64 0, .bool false, .slice none 0 0, .slice none 0 0, .int .i64 0]), 8, 96) := by kernel_rfl

/-- a cache in block p, its row in block g, all that it keeps in blocks Z -/
structure Ca (w : World) (p g : Nat) (Z : Nat → Prop) (room f m : Nat) (l : List H) : Prop where
  blk : Blk w p 212 #[.slice (some ⟨g, 0, none⟩) l.length room, .int .i64 (room : Int), .int .i64 (f : Int), .int .i64 (m : Int)]
  row : w.ownsRow 0 110 8 (.slice (some ⟨g, 0, none⟩) l.length room) l.length (cellsH l)
  cap : room ≤ 32
  ne : g ≠ p
  zlt : ∀ b, Z b → b < w.heap.size
  zp : Z p
  zg : Z g
  node : ∀ x ∈ l, OwnNF w x.F x.n ∧ ∀ b, x.F b → Z b ∧ b ≠ p ∧ b ≠ g
  apart : l.Pairwise (fun x y => ∀ b, x.F b → ¬ y.F b)
  fits : ∀ x ∈ l, x.r.fits
section
variable {w w' : World} {p g room f m : Nat} {Z : Nat → Prop} {l : List H}
theorem Ca.agree (h : Ca w p g Z room f m l) (hk : Agree w w' Z) (hs : w.heap.size ≤ w'.heap.size) : Ca w' p g Z room f m l :=
  ⟨(hk p h.zp).trans h.blk, ownsRow_agree h.row fun b hb => (by cases hb; exact hk g h.zg), h.cap, h.ne, fun b hb => Nat.lt_of_lt_of_le (h.zlt b hb) hs, h.zp, h.zg, fun x hx => ⟨(h.node x hx).1.agree (hk.mono fun b hb => ((h.node x hx).2 b hb).1), (h.node x hx).2⟩, h.apart, h.fits⟩
theorem Ca.below (h : Ca w p g Z room f m l) (hb : Below w.heap.size w w') : Ca w' p g Z room f m l := h.agree (Agree.of_below hb h.zlt) hb.size
theorem Ca.keep {S : Nat → Prop} (h : Ca w p g Z room f m l) (hk : Keep S w w') (hS : ∀ b, Z b → ¬ S b) : Ca w' p g Z room f m l := h.agree (hk.agree fun b hb => ⟨h.zlt b hb, hS b hb⟩) hk.size
theorem Ca.head (h : Ca w p g Z room f m l) : p < w.heap.size ∧ g < w.heap.size ∧ w.cell? ⟨p, 0, none⟩ = some (.slice (some ⟨g, 0, none⟩) l.length room) ∧ w.cell? ⟨p, 1, none⟩ = some (.int .i64 (room : Int)) ∧ w.cell? ⟨p, 2, none⟩ = some (.int .i64 (f : Int)) ∧ w.cell? ⟨p, 3, none⟩ = some (.int .i64 (m : Int)) :=
  ⟨h.blk.lt, (h.row.lt g rfl).2, h.blk.cell 0, h.blk.cell 1, h.blk.cell 2, h.blk.cell 3⟩
theorem Ca.frz (h : Ca w p g Z room f m l) : w.frozen? ⟨p, 0, none⟩ = false ∧ w.frozen? ⟨p, 1, none⟩ = false ∧ w.frozen? ⟨p, 2, none⟩ = false ∧ w.frozen? ⟨p, 3, none⟩ = false := ⟨h.blk.frozen 0, h.blk.frozen 1, h.blk.frozen 2, h.blk.frozen 3⟩
theorem Ca.len (h : Ca w p g Z room f m l) : l.length ≤ room := by
  rcases h.row.2 with ⟨e, _⟩ | ⟨g', cap, cur, e, _, _, hn, _⟩
  · cases e
  · injection e with _ _ e; omega
theorem Ca.at_ (h : Ca w p g Z room f m l) {j : Nat} (hj : j < l.length) : w.cell? ⟨g, j * 8, none⟩ = some (.int .u64 (l[j].r.k : Int)) ∧ w.cell? ⟨g, j * 8 + 1, none⟩ = some (.int .i64 l[j].r.g) ∧ w.cell? ⟨g, j * 8 + 2, none⟩ = some (.int .i64 l[j].r.o) ∧ w.cell? ⟨g, j * 8 + 3, none⟩ = some (.int .i64 l[j].r.n) ∧ w.cell? ⟨g, j * 8 + 4, none⟩ = some (.bool l[j].n.lf) ∧ w.cell? ⟨g, j * 8 + 5, none⟩ = some (.slice l[j].n.A l[j].n.es.length l[j].n.c) ∧ w.cell? ⟨g, j * 8 + 6, none⟩ = some (.slice l[j].n.Q l[j].n.ks.length l[j].n.m) ∧ w.cell? ⟨g, j * 8 + 7, none⟩ = some (.int .i64 (l[j].p : Int)) := by
  have hc := cellsH_at l hj
  have e := fun k (hk : k < 8) => h.row.cellAt (j * 8 + k) (by omega)
  exact ⟨(e 0 (by omega)).trans hc.1, (e 1 (by omega)).trans hc.2.1, (e 2 (by omega)).trans hc.2.2.1, (e 3 (by omega)).trans hc.2.2.2.1, (e 4 (by omega)).trans hc.2.2.2.2.1, (e 5 (by omega)).trans hc.2.2.2.2.2.1, (e 6 (by omega)).trans hc.2.2.2.2.2.2.1, (e 7 (by omega)).trans hc.2.2.2.2.2.2.2⟩
end
/-- a row that is read: each held node's cells -/
theorem RdF.h_at {w : World} {F : Nat → Prop} {A : Option Addr} {l : List H} (h : RdF w F A (cellsH l)) {j : Nat} (hj : j < l.length) : ∃ b off, A = some ⟨b, off, none⟩ ∧ F b ∧ w.cell? ⟨b, off + j * 8, none⟩ = some (.int .u64 (l[j].r.k : Int)) ∧ w.cell? ⟨b, off + j * 8 + 1, none⟩ = some (.int .i64 l[j].r.g) ∧ w.cell? ⟨b, off + j * 8 + 2, none⟩ = some (.int .i64 l[j].r.o) ∧ w.cell? ⟨b, off + j * 8 + 3, none⟩ = some (.int .i64 l[j].r.n) ∧ w.cell? ⟨b, off + j * 8 + 4, none⟩ = some (.bool l[j].n.lf) ∧ w.cell? ⟨b, off + j * 8 + 5, none⟩ = some (.slice l[j].n.A l[j].n.es.length l[j].n.c) ∧ w.cell? ⟨b, off + j * 8 + 6, none⟩ = some (.slice l[j].n.Q l[j].n.ks.length l[j].n.m) ∧ w.cell? ⟨b, off + j * 8 + 7, none⟩ = some (.int .i64 (l[j].p : Int)) := by
  have hc := cellsH_at l hj
  obtain ⟨b, off, e, hb, c0⟩ := h _ _ hc.1
  have g : ∀ k u, (cellsH l)[j * 8 + k]? = some u → w.cell? ⟨b, off + j * 8 + k, none⟩ = some u := fun k u hk => by
    obtain ⟨b', off', e', _, c⟩ := h _ _ hk
    rw [e] at e'
    cases e'
    rw [show off + j * 8 + k = off + (j * 8 + k) by omega]
    exact c
  exact ⟨b, off, e, hb, c0, g 1 _ hc.2.1, g 2 _ hc.2.2.1, g 3 _ hc.2.2.2.1, g 4 _ hc.2.2.2.2.1, g 5 _ hc.2.2.2.2.2.1, g 6 _ hc.2.2.2.2.2.2.1, g 7 _ hc.2.2.2.2.2.2.2⟩
end Go.Proofs.Ytoenkkbcpafanaa.caches

/- slices.Clone of versions, secrets, kids: a row of the call's own. -/

namespace Go.Proofs.Ytoenkkbcpafanaa.trees
set_option linter.unusedVariables false
set_option linter.unusedSimpArgs false
open Go.RowKit Go.Proofs.Ytoenkkbcpafanaa.base Go.Proofs.Ytoenkkbcpafanaa.vers Go.Proofs.Ytoenkkbcpafanaa.nodes

theorem infoV : (Try.prog.info? 180).map (fun i => (i.zero, i.size, i.bytes)) = some (some (.agg #[.int .i64 0, .string ⟨#[]⟩, .string ⟨#[]⟩]), 3, 40) := by kernel_rfl
set_option maxRecDepth 100000 in
set_option maxHeartbeats 400000 in
theorem cloneV_any (A : Option Addr) (n c : Nat) (xs : List Value) (F : Nat → Prop) (w : World) (hx : xs.length = n * 3) (hr : RdF w F A xs) (hA : A = none → n = 0) (h1 : ∀ u ∈ xs, u.oneCell' = true) (hn : n * 40 ≤ 140737488355328) :
    Calls Try.prog 200 #[.slice A n c] w fun e w' => ∃ v', e = .returned v' ∧ w'.ownsRow w.heap.size 180 3 v' n xs ∧ Below w.heap.size w w' := by
  obtain ⟨i0, hi, hz0, hz1, hz2⟩ := info_parts infoV
  have q : ∀ (w : World) (a : Option Addr) (n c n' c' : Nat), (binOp .eql 45 (.slice a n c) (.slice none n' c')).run Try.prog w = .ok (.bool a.isNone) w := fun w a n c n' c' => Lib.run_eql_slice_nil w _ _ a n c n' c' Try.underlying45
  cases A with
  | none =>
    obtain rfl := hA rfl
    obtain rfl : xs = [] := List.eq_nil_of_length_eq_zero (by omega)
    clear hx hr hA h1 hn hi hz0 hz1 hz2
    go_enter Try.func200, Try.ntmps200
    go_wp2
    go_ret
    exact ⟨_, rfl, ⟨rfl, .inl ⟨rfl, rfl⟩⟩, Below.refl _ _⟩
  | some ad =>
    have hnews : ∀ j u, xs[j]? = some u → (w.alloc (.cells #[] 180)).cell? (ad.add j) = some u := fun j u hj => by
      obtain ⟨b, off, e, _, hc⟩ := hr j u hj
      cases e
      rw [add_plain, World.cell?_alloc_lt _ _ _ (World.block_lt_of_cell? w _ hc)]
      exact hc
    have HN := vers.lay hnews
    have HX := vers.lay hx
    have H1 := vers.lay h1
    clear hr hA hnews hx h1
    go_enter Try.func200, Try.ntmps200
    go_wp2_with (at_builtin; refine wpList_append_own _ rfl _ _ 45 rfl w.heap.size 180 i0 _ 3 40 Try.underlying45 hi hz0 hz1 hz2 rfl (by decide) _ _ _ rfl (World.ownsRow_made w #[] 0 (Nat.le_refl _) (Nat.zero_le _) rfl) ad n c xs rfl ?qc1 ?qc2 ?qc3 ?qc4 ?qc5 ?qc6 ?_)
    case qc1 => exact HX.out
    case qc2 => exact HN.out
    case qc3 => exact H1.out
    case qc4 => unfold maxLen; omega
    case qc5 => omega
    case qc6 => simp
    intro v' w1 hown hgrow _
    go_wp2
    go_ret
    exact ⟨v', rfl, by simpa using hown, ((Below.refl _ w).alloc (Nat.le_refl _) _).grown hgrow (by simp) (by intro k hk; simp [Value.ownBlock] at hk; omega)⟩

theorem infoE : (Try.prog.info? 47).map (fun i => (i.zero, i.size, i.bytes)) = some (some (.agg #[.string ⟨#[]⟩, .slice none 0 0]), 2, 40) := by kernel_rfl
set_option maxRecDepth 100000 in
set_option maxHeartbeats 400000 in
theorem cloneE_any (A : Option Addr) (n c : Nat) (xs : List Value) (F : Nat → Prop) (w : World) (hx : xs.length = n * 2) (hr : RdF w F A xs) (hA : A = none → n = 0) (h1 : ∀ u ∈ xs, u.oneCell' = true) (hn : n * 40 ≤ 140737488355328) :
    Calls Try.prog 220 #[.slice A n c] w fun e w' => ∃ v', e = .returned v' ∧ w'.ownsRow w.heap.size 47 2 v' n xs ∧ Below w.heap.size w w' := by
  obtain ⟨i0, hi, hz0, hz1, hz2⟩ := info_parts infoE
  have q : ∀ (w : World) (a : Option Addr) (n c n' c' : Nat), (binOp .eql 84 (.slice a n c) (.slice none n' c')).run Try.prog w = .ok (.bool a.isNone) w := fun w a n c n' c' => Lib.run_eql_slice_nil w _ _ a n c n' c' Try.underlying84
  cases A with
  | none =>
    obtain rfl := hA rfl
    obtain rfl : xs = [] := List.eq_nil_of_length_eq_zero (by omega)
    clear hx hr hA h1 hn hi hz0 hz1 hz2
    go_enter Try.func220, Try.ntmps220
    go_wp2
    go_ret
    exact ⟨_, rfl, ⟨rfl, .inl ⟨rfl, rfl⟩⟩, Below.refl _ _⟩
  | some ad =>
    have hnews : ∀ j u, xs[j]? = some u → (w.alloc (.cells #[] 47)).cell? (ad.add j) = some u := fun j u hj => by
      obtain ⟨b, off, e, _, hc⟩ := hr j u hj
      cases e
      rw [add_plain, World.cell?_alloc_lt _ _ _ (World.block_lt_of_cell? w _ hc)]
      exact hc
    have HN := vers.lay hnews
    have HX := vers.lay hx
    have H1 := vers.lay h1
    clear hr hA hnews hx h1
    go_enter Try.func220, Try.ntmps220
    go_wp2_with (at_builtin; refine wpList_append_own _ rfl _ _ 84 rfl w.heap.size 47 i0 _ 2 40 Try.underlying84 hi hz0 hz1 hz2 rfl (by decide) _ _ _ rfl (World.ownsRow_made w #[] 0 (Nat.le_refl _) (Nat.zero_le _) rfl) ad n c xs rfl ?qc1 ?qc2 ?qc3 ?qc4 ?qc5 ?qc6 ?_)
    case qc1 => exact HX.out
    case qc2 => exact HN.out
    case qc3 => exact H1.out
    case qc4 => unfold maxLen; omega
    case qc5 => omega
    case qc6 => simp
    intro v' w1 hown hgrow _
    go_wp2
    go_ret
    exact ⟨v', rfl, by simpa using hown, ((Below.refl _ w).alloc (Nat.le_refl _) _).grown hgrow (by simp) (by intro k hk; simp [Value.ownBlock] at hk; omega)⟩

theorem infoK : (Try.prog.info? 162).map (fun i => (i.zero, i.size, i.bytes)) = some (some (.agg #[.string ⟨#[]⟩, .int .u64 0, .int .i64 0, .int .i64 0, .int .i64 0]), 5, 48) := by kernel_rfl
set_option maxRecDepth 100000 in
set_option maxHeartbeats 400000 in
theorem cloneK_any (A : Option Addr) (n c : Nat) (xs : List Value) (F : Nat → Prop) (w : World) (hx : xs.length = n * 5) (hr : RdF w F A xs) (hA : A = none → n = 0) (h1 : ∀ u ∈ xs, u.oneCell' = true) (hn : n * 48 ≤ 140737488355328) :
    Calls Try.prog 221 #[.slice A n c] w fun e w' => ∃ v', e = .returned v' ∧ w'.ownsRow w.heap.size 162 5 v' n xs ∧ Below w.heap.size w w' := by
  obtain ⟨i0, hi, hz0, hz1, hz2⟩ := info_parts infoK
  have q : ∀ (w : World) (a : Option Addr) (n c n' c' : Nat), (binOp .eql 85 (.slice a n c) (.slice none n' c')).run Try.prog w = .ok (.bool a.isNone) w := fun w a n c n' c' => Lib.run_eql_slice_nil w _ _ a n c n' c' Try.underlying85
  cases A with
  | none =>
    obtain rfl := hA rfl
    obtain rfl : xs = [] := List.eq_nil_of_length_eq_zero (by omega)
    clear hx hr hA h1 hn hi hz0 hz1 hz2
    go_enter Try.func221, Try.ntmps221
    go_wp2
    go_ret
    exact ⟨_, rfl, ⟨rfl, .inl ⟨rfl, rfl⟩⟩, Below.refl _ _⟩
  | some ad =>
    have hnews : ∀ j u, xs[j]? = some u → (w.alloc (.cells #[] 162)).cell? (ad.add j) = some u := fun j u hj => by
      obtain ⟨b, off, e, _, hc⟩ := hr j u hj
      cases e
      rw [add_plain, World.cell?_alloc_lt _ _ _ (World.block_lt_of_cell? w _ hc)]
      exact hc
    have HN := vers.lay hnews
    have HX := vers.lay hx
    have H1 := vers.lay h1
    clear hr hA hnews hx h1
    go_enter Try.func221, Try.ntmps221
    go_wp2_with (at_builtin; refine wpList_append_own _ rfl _ _ 85 rfl w.heap.size 162 i0 _ 5 48 Try.underlying85 hi hz0 hz1 hz2 rfl (by decide) _ _ _ rfl (World.ownsRow_made w #[] 0 (Nat.le_refl _) (Nat.zero_le _) rfl) ad n c xs rfl ?qc1 ?qc2 ?qc3 ?qc4 ?qc5 ?qc6 ?_)
    case qc1 => exact HX.out
    case qc2 => exact HN.out
    case qc3 => exact H1.out
    case qc4 => unfold maxLen; omega
    case qc5 => omega
    case qc6 => simp
    intro v' w1 hown hgrow _
    go_wp2
    go_ret
    exact ⟨v', rfl, by simpa using hown, ((Below.refl _ w).alloc (Nat.le_refl _) _).grown hgrow (by simp) (by intro k hk; simp [Value.ownBlock] at hk; omega)⟩

end Go.Proofs.Ytoenkkbcpafanaa.trees

/- Cache's newList of versions, secrets, kids: a row of the call's own. -/

namespace Go.Proofs.Ytoenkkbcpafanaa.caches
set_option linter.unusedVariables false
set_option linter.unusedSimpArgs false
open Go.RowKit Go.Proofs.Ytoenkkbcpafanaa.base Go.Proofs.Ytoenkkbcpafanaa.vers Go.Proofs.Ytoenkkbcpafanaa.nodes Go.Proofs.Ytoenkkbcpafanaa.trees

set_option maxRecDepth 100000 in
set_option maxHeartbeats 400000 in
theorem newV_any (A : Option Addr) (n c : Nat) (xs : List Value) (F : Nat → Prop) (w : World) (hx : xs.length = n * 3) (hr : RdF w F A xs) (hA : A = none → n = 0 ∧ c = 0) (h1 : ∀ u ∈ xs, u.oneCell' = true) (hn : n * 40 ≤ 140737488355328) :
    Calls Try.prog 169 #[.slice A n c] w fun e w' => ∃ v', e = .returned v' ∧ w'.ownsRow w.heap.size 180 3 v' n xs ∧ Below w.heap.size w w' := by
  obtain ⟨i0, hi, hz0, hz1, hz2⟩ := info_parts trees.infoV
  cases A with
  | none =>
    obtain ⟨rfl, rfl⟩ := hA rfl
    obtain rfl : xs = [] := List.eq_nil_of_length_eq_zero (by omega)
    have hap : ∀ u : World, (Builtin.append_ #[45, 45] 45 #[.slice none 0 0, .slice none 0 0]).run Try.prog u = .ok (.slice none 0 0) u := fun u => run_append_owned_none u 0 45 45 180 i0 3 Try.underlying45 hi (.slice none 0 0) 0 [] ⟨rfl, .inl ⟨rfl, rfl⟩⟩
    clear hx hr hA h1 hn hi hz0 hz1 hz2
    go_enter Try.func169, Try.ntmps169
    go_wp2
    go_ret
    exact ⟨_, rfl, ⟨rfl, .inl ⟨rfl, rfl⟩⟩, Below.refl _ _⟩
  | some ad =>
    have hnews : ∀ j u, xs[j]? = some u → w.cell? (ad.add j) = some u := fun j u hj => by
      obtain ⟨b, off, e, _, hc⟩ := hr j u hj
      cases e
      rw [add_plain]
      exact hc
    have HN := vers.lay hnews
    have HX := vers.lay hx
    have H1 := vers.lay h1
    clear hr hA hnews hx h1
    go_enter Try.func169, Try.ntmps169
    go_wp2_with (at_builtin; refine wpList_append_own _ rfl _ _ 45 rfl w.heap.size 180 i0 _ 3 40 Try.underlying45 hi hz0 hz1 hz2 rfl (by decide) (.slice none 0 0) 0 [] rfl ⟨rfl, .inl ⟨rfl, rfl⟩⟩ ad n c xs rfl ?qc1 ?qc2 ?qc3 ?qc4 ?qc5 ?qc6 ?_)
    case qc1 => exact HX.out
    case qc2 => exact HN.out
    case qc3 => exact H1.out
    case qc4 => unfold maxLen; omega
    case qc5 => omega
    case qc6 => simp
    intro v' w1 hown hgrow _
    go_wp2
    go_ret
    exact ⟨v', rfl, by simpa using hown, (Below.refl _ w).grown hgrow (by simp) (by intro k hk; simp [Value.ownBlock] at hk)⟩

set_option maxRecDepth 100000 in
set_option maxHeartbeats 400000 in
theorem newE_any (A : Option Addr) (n c : Nat) (xs : List Value) (F : Nat → Prop) (w : World) (hx : xs.length = n * 2) (hr : RdF w F A xs) (hA : A = none → n = 0 ∧ c = 0) (h1 : ∀ u ∈ xs, u.oneCell' = true) (hn : n * 40 ≤ 140737488355328) :
    Calls Try.prog 167 #[.slice A n c] w fun e w' => ∃ v', e = .returned v' ∧ w'.ownsRow w.heap.size 47 2 v' n xs ∧ Below w.heap.size w w' := by
  obtain ⟨i0, hi, hz0, hz1, hz2⟩ := info_parts trees.infoE
  cases A with
  | none =>
    obtain ⟨rfl, rfl⟩ := hA rfl
    obtain rfl : xs = [] := List.eq_nil_of_length_eq_zero (by omega)
    have hap : ∀ u : World, (Builtin.append_ #[84, 84] 84 #[.slice none 0 0, .slice none 0 0]).run Try.prog u = .ok (.slice none 0 0) u := fun u => run_append_owned_none u 0 84 84 47 i0 2 Try.underlying84 hi (.slice none 0 0) 0 [] ⟨rfl, .inl ⟨rfl, rfl⟩⟩
    clear hx hr hA h1 hn hi hz0 hz1 hz2
    go_enter Try.func167, Try.ntmps167
    go_wp2
    go_ret
    exact ⟨_, rfl, ⟨rfl, .inl ⟨rfl, rfl⟩⟩, Below.refl _ _⟩
  | some ad =>
    have hnews : ∀ j u, xs[j]? = some u → w.cell? (ad.add j) = some u := fun j u hj => by
      obtain ⟨b, off, e, _, hc⟩ := hr j u hj
      cases e
      rw [add_plain]
      exact hc
    have HN := vers.lay hnews
    have HX := vers.lay hx
    have H1 := vers.lay h1
    clear hr hA hnews hx h1
    go_enter Try.func167, Try.ntmps167
    go_wp2_with (at_builtin; refine wpList_append_own _ rfl _ _ 84 rfl w.heap.size 47 i0 _ 2 40 Try.underlying84 hi hz0 hz1 hz2 rfl (by decide) (.slice none 0 0) 0 [] rfl ⟨rfl, .inl ⟨rfl, rfl⟩⟩ ad n c xs rfl ?qc1 ?qc2 ?qc3 ?qc4 ?qc5 ?qc6 ?_)
    case qc1 => exact HX.out
    case qc2 => exact HN.out
    case qc3 => exact H1.out
    case qc4 => unfold maxLen; omega
    case qc5 => omega
    case qc6 => simp
    intro v' w1 hown hgrow _
    go_wp2
    go_ret
    exact ⟨v', rfl, by simpa using hown, (Below.refl _ w).grown hgrow (by simp) (by intro k hk; simp [Value.ownBlock] at hk)⟩

set_option maxRecDepth 100000 in
set_option maxHeartbeats 400000 in
theorem newK_any (A : Option Addr) (n c : Nat) (xs : List Value) (F : Nat → Prop) (w : World) (hx : xs.length = n * 5) (hr : RdF w F A xs) (hA : A = none → n = 0 ∧ c = 0) (h1 : ∀ u ∈ xs, u.oneCell' = true) (hn : n * 48 ≤ 140737488355328) :
    Calls Try.prog 168 #[.slice A n c] w fun e w' => ∃ v', e = .returned v' ∧ w'.ownsRow w.heap.size 162 5 v' n xs ∧ Below w.heap.size w w' := by
  obtain ⟨i0, hi, hz0, hz1, hz2⟩ := info_parts trees.infoK
  cases A with
  | none =>
    obtain ⟨rfl, rfl⟩ := hA rfl
    obtain rfl : xs = [] := List.eq_nil_of_length_eq_zero (by omega)
    have hap : ∀ u : World, (Builtin.append_ #[85, 85] 85 #[.slice none 0 0, .slice none 0 0]).run Try.prog u = .ok (.slice none 0 0) u := fun u => run_append_owned_none u 0 85 85 162 i0 5 Try.underlying85 hi (.slice none 0 0) 0 [] ⟨rfl, .inl ⟨rfl, rfl⟩⟩
    clear hx hr hA h1 hn hi hz0 hz1 hz2
    go_enter Try.func168, Try.ntmps168
    go_wp2
    go_ret
    exact ⟨_, rfl, ⟨rfl, .inl ⟨rfl, rfl⟩⟩, Below.refl _ _⟩
  | some ad =>
    have hnews : ∀ j u, xs[j]? = some u → w.cell? (ad.add j) = some u := fun j u hj => by
      obtain ⟨b, off, e, _, hc⟩ := hr j u hj
      cases e
      rw [add_plain]
      exact hc
    have HN := vers.lay hnews
    have HX := vers.lay hx
    have H1 := vers.lay h1
    clear hr hA hnews hx h1
    go_enter Try.func168, Try.ntmps168
    go_wp2_with (at_builtin; refine wpList_append_own _ rfl _ _ 85 rfl w.heap.size 162 i0 _ 5 48 Try.underlying85 hi hz0 hz1 hz2 rfl (by decide) (.slice none 0 0) 0 [] rfl ⟨rfl, .inl ⟨rfl, rfl⟩⟩ ad n c xs rfl ?qc1 ?qc2 ?qc3 ?qc4 ?qc5 ?qc6 ?_)
    case qc1 => exact HX.out
    case qc2 => exact HN.out
    case qc3 => exact H1.out
    case qc4 => unfold maxLen; omega
    case qc5 => omega
    case qc6 => simp
    intro v' w1 hown hgrow _
    go_wp2
    go_ret
    exact ⟨v', rfl, by simpa using hown, (Below.refl _ w).grown hgrow (by simp) (by intro k hk; simp [Value.ownBlock] at hk)⟩

end Go.Proofs.Ytoenkkbcpafanaa.caches

/- Tree's copiedEntry and copied: a secret, a node in memory of the call's own. -/

namespace Go.Proofs.Ytoenkkbcpafanaa.trees
set_option linter.unusedVariables false
set_option linter.unusedSimpArgs false
open Go.RowKit Go.Proofs.Ytoenkkbcpafanaa.base Go.Proofs.Ytoenkkbcpafanaa.vers Go.Proofs.Ytoenkkbcpafanaa.nodes

set_option maxRecDepth 100000 in
set_option maxHeartbeats 1000000 in
theorem copiedEntry_any (s : ByteArray) (l : List V) (A : Option Addr) (c : Nat) (w : World) (hv : Vs w w.heap.size l A c) :
    Calls Try.prog 149 #[.agg #[.string s, .slice A l.length c]] w fun e w' => ∃ A' c', e = .returned (.agg #[.string s, .slice A' l.length c']) ∧ OwnVF w' (fun g => w.heap.size ≤ g ∧ g < w'.heap.size) ⟨s, l, A', c'⟩ ∧ Below w.heap.size w w' := by
  have k1 := (Blk.new w 47 #[.string s, .slice A l.length c]).alloc (.cells #[.string ⟨#[]⟩, .slice none 0 0] 47)
  have k2 := Blk.new (w.alloc (.cells #[.string s, .slice A l.length c] 47)) 47 #[.string ⟨#[]⟩, .slice none 0 0]
  have bW : Below w.heap.size w ((w.alloc (.cells #[.string s, .slice A l.length c] 47)).alloc (.cells #[.string ⟨#[]⟩, .slice none 0 0] 47)) := ((Below.refl _ _).alloc (Nat.le_refl _) _).alloc (by simp) _
  rw [World.size_alloc] at k2
  go_enter Try.func149, Try.ntmps149
  go_wp2_with fail
  generalize (w.alloc (.cells #[.string s, .slice A l.length c] 47)).alloc (.cells #[.string ⟨#[]⟩, .slice none 0 0] 47) = W at *
  have x0 := k1.cell 0
  have x1 := k1.cell 1
  have l0 := k1.lt
  clear k1
  simp at x0 x1
  have hS0 : Below W.heap.size W W.drew := (Below.refl _ _).drew
  refine mix.region_D (fun w' => Below W.heap.size W w') (fun j => j == 6) (by kernel_rfl) ?_
  refine mix.D_take (i := 0) (v := ?_) rfl (by kernel_rfl) (by kernel_rfl) (fun _ _ _ h => h) (Or.inl ⟨by rfl, ?_⟩) hS0 ?_
  rotate_left
  · intro w' hSw
    have y0 := (hSw.cell (p := ⟨w.heap.size, 0, none⟩) l0).trans x0
    have y1 := (hSw.cell (p := ⟨w.heap.size, 1, none⟩) l0).trans x1
    try simp only [List.getElem_toArray, List.getElem_cons_zero, List.getElem_cons_succ]
    go_simp
    exact rfl
  try simp only [Act.put, List.setIfInBounds_toArray, List.set_cons_zero, List.set_cons_succ, List.getElem_toArray, List.getElem_cons_zero, List.getElem_cons_succ]
  refine mix.D_take (i := 1) (v := ?_) rfl (by kernel_rfl) (by kernel_rfl) (fun _ _ _ h => h) (Or.inl ⟨by rfl, ?_⟩) hS0 ?_
  rotate_left
  · intro w' hSw
    have y0 := (hSw.cell (p := ⟨w.heap.size, 0, none⟩) l0).trans x0
    have y1 := (hSw.cell (p := ⟨w.heap.size, 1, none⟩) l0).trans x1
    try simp only [List.getElem_toArray, List.getElem_cons_zero, List.getElem_cons_succ]
    go_simp
    exact rfl
  try simp only [Act.put, List.setIfInBounds_toArray, List.set_cons_zero, List.set_cons_succ, List.getElem_toArray, List.getElem_cons_zero, List.getElem_cons_succ]
  refine mix.D_take (i := 2) (v := ?_) rfl (by kernel_rfl) (by kernel_rfl) (fun _ _ _ h => h) (Or.inl ⟨by rfl, ?_⟩) hS0 ?_
  rotate_left
  · intro w' hSw
    have y0 := (hSw.cell (p := ⟨w.heap.size, 0, none⟩) l0).trans x0
    have y1 := (hSw.cell (p := ⟨w.heap.size, 1, none⟩) l0).trans x1
    try simp only [List.getElem_toArray, List.getElem_cons_zero, List.getElem_cons_succ]
    go_simp
    exact rfl
  try simp only [Act.put, List.setIfInBounds_toArray, List.set_cons_zero, List.set_cons_succ, List.getElem_toArray, List.getElem_cons_zero, List.getElem_cons_succ]
  refine mix.D_take (i := 3) (v := ?_) rfl (by kernel_rfl) (by kernel_rfl) (fun _ _ _ h => h) (Or.inl ⟨by rfl, ?_⟩) hS0 ?_
  rotate_left
  · intro w' hSw
    have y0 := (hSw.cell (p := ⟨w.heap.size, 0, none⟩) l0).trans x0
    have y1 := (hSw.cell (p := ⟨w.heap.size, 1, none⟩) l0).trans x1
    try simp only [List.getElem_toArray, List.getElem_cons_zero, List.getElem_cons_succ]
    go_simp
    exact rfl
  try simp only [Act.put, List.setIfInBounds_toArray, List.set_cons_zero, List.set_cons_succ, List.getElem_toArray, List.getElem_cons_zero, List.getElem_cons_succ]
  refine mix.D_op (k := 4) rfl rfl (by kernel_rfl) (fun K' hK => ?_)
  simp only [List.getElem_toArray, List.getElem_cons_zero, List.getElem_cons_succ]
  have hb0 := bW.trans (hS0.mono bW.size)
  have hr : RdF W.drew (fun g => g < w.heap.size) A (cellsV l) := RdF.of_rd (hv.2.2.2.1.keep fun _ hp => hb0.cell hp)
  go_wp2_with fail
  refine (cloneV_any A l.length c (cellsV l) _ W.drew (by rw [cellsV_len]; omega) hr (fun h => by have h1 := hv.1; have h2 := hv.2.2.1 h; omega) (cellsV_one l) hv.2.1).mono ?_
  rintro e w1 ⟨v', rfl, hown, hb1⟩
  obtain ⟨A9, c9, rfl, hn9, _, _⟩ := row_rdF hown
  have hb2 : Below W.heap.size W w1 := hS0.trans hb1
  have hb3 := bW.trans (hb2.mono bW.size)
  have hz2 := hb2.size
  have k3 := k2.below hb2 k2.lt
  refine hK.out _ _ (fun _ => hb2) ?_
  clear hK K'
  try simp only [Act.put, List.setIfInBounds_toArray, List.set_cons_zero, List.set_cons_succ]
  refine mix.D_op (k := 5) rfl rfl (by kernel_rfl) (fun K' hK => ?_)
  simp only [List.getElem_toArray, List.getElem_cons_zero, List.getElem_cons_succ]
  go_wp2_with fail
  refine hK.out _ _ (fun _ => hb2) ?_
  clear hK K'
  try simp only [Act.put, List.setIfInBounds_toArray, List.set_cons_zero, List.set_cons_succ]
  refine mix.D_op (k := 6) rfl rfl (by kernel_rfl) (fun K' hK => ?_)
  simp only [List.getElem_toArray, List.getElem_cons_zero, List.getElem_cons_succ]
  have z0 := k3.cell 0
  have z1 := k3.cell 1
  simp at z0 z1
  have g0 := k3.frozen 0
  have g1 := k3.frozen 1
  have g2 := k3.lt
  go_wp2_with fail
  refine hK.out _ _ (fun h => by simp at h) ?_
  clear hK K'
  refine mix.D_done (by kernel_rfl) ?_ _
  go_wp2_with fail
  refine bodyPost_ret (v := .agg #[.string s, .slice A9 l.length c9]) (by simp [results, Try.results149, go_sem, z0, z1]) rfl ⟨A9, c9, rfl, ?_, (hb3.setCell (by simp) _).setCell (by simp) _⟩
  have hlt := hown.lt
  have l2 := k2.lt
  simp only [World.size_drew] at hlt hown
  have hne : ∀ g, (Value.slice A9 l.length c9).ownBlock = some g → g ≠ w.heap.size + 1 := fun g hg => by have := hlt g hg; omega
  refine ⟨ownsRow_base (lo' := 0) (ownsRow_agree hown fun g hg => ?_) (fun _ _ => Nat.zero_le _), hv.2.1, hv.2.2.2.2, fun g hg => ?_⟩
  · have := hne g hg
    rw [Below.heap_setCell _ _ _ _ (by simpa using this), Below.heap_setCell _ _ _ _ (by simpa using this)]
  · have := hlt g hg
    simp
    omega

end Go.Proofs.Ytoenkkbcpafanaa.trees
