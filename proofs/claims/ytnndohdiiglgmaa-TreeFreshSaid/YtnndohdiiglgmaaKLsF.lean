/- A tree of some secrets, as the laws of lists make it. -/
import Derived.Test.YtnndohdiiglgmaaKLsC
import Derived.Sort.Walk0
import Derived.Test.YtnndohdiiglgmaaKMix


namespace Go.Proofs.Ytnndohdiiglgmaa.trees
set_option linter.unusedVariables false
set_option linter.unusedSimpArgs false
open Go.RowKit Go.Shelf Go.Proofs.Ytnndohdiiglgmaa.base Go.Proofs.Ytnndohdiiglgmaa.quotas Go.Proofs.Ytnndohdiiglgmaa.vers Go.Proofs.Ytnndohdiiglgmaa.nodes

theorem infoEn : (Try.prog.info? 47).map (fun i => (i.zero, i.size, i.bytes)) = some (some (.agg #[.string ⟨#[]⟩, .slice none 0 0]), 2, 40) := by kernel_rfl
/-- append of one secret -/
theorem wp_secret {ops : Array Oper} {rest : List Oper} {o : Oper} {a : Act} {Q : Exit → Act → World → Prop} (hgd : o.guard = none) (s x : Operand) (ho : o.op = .call { callee := .builtin .append, args := #[s, x], argTypes := #[57, 57] })
    {w : World} {v : Value} {l : List E} {e : E} (hown : w.ownsRow 0 47 2 v l.length (cellsE l)) (hs : a.eval s = v) {q : Nat} (hx : a.eval x = .slice (some ⟨q, 0, none⟩) 1 1) (hqz : q = w.heap.size) (hlen : l.length ≤ 1000000)
    (h : ∀ v' w', w'.ownsRow 0 47 2 v' (l ++ [e]).length (cellsE (l ++ [e])) → Keep (fun g => v.ownBlock = some g) w w' → (∀ g, v'.ownBlock = some g → v.ownBlock = some g ∨ (w.heap.size ≤ g ∧ g < w'.heap.size)) → w.heap.size + 1 ≤ w'.heap.size → wpList Try.prog ops Q rest (a.put o.dst v') w') :
    wpList Try.prog ops Q (o :: rest) a (w.alloc (.cells #[.string e.s, .slice e.A e.l.length e.c] 47)) := by
  obtain ⟨i0, hi0, hz0, hz1, hz2⟩ := info_parts infoEn
  refine wpList_put1 Try.underlying57 hi0 hz0 hz1 hz2 rfl (by decide) hgd s x ho hown hs rfl (by intro u hu; simp at hu; rcases hu with rfl | rfl <;> rfl) hx hqz (by omega) (by unfold maxLen; omega) ?_
  intro v' w' h1 h2 h3 h4
  refine h v' w' ?_ h2 h3 h4
  rw [List.length_append, cellsE_app]
  exact h1

theorem clt {a b : ByteArray} (h : ltS a b = true) : Op.bytesLess a.toList b.toList = true ∧ Op.bytesLess b.toList a.toList = false ∧ (a.toList == b.toList) = false ∧ (b.toList == a.toList) = false := by
  have h2 := ltS_iff.1 h
  have h3 := ltS_asymm h
  have h1 : a.data.toList ≠ b.data.toList := fun e => by rw [name_ext e, ltS_irrefl] at h; cases h
  rw [Go.Proofs.bytesLess_eq, Go.Proofs.bytesLess_eq, Lib.toList_data, Lib.toList_data]
  exact ⟨h, h3, beq_eq_false_iff_ne.2 h1, beq_eq_false_iff_ne.2 (fun e => h1 e.symm)⟩
theorem ceq (a : ByteArray) : Op.bytesLess a.toList a.toList = false ∧ (a.toList == a.toList) = true := by
  rw [Go.Proofs.bytesLess_eq, Lib.toList_data]
  exact ⟨ltS_irrefl a, by simp⟩
theorem row_at {w : World} {v : Value} {le : List E} (h : w.ownsRow 0 47 2 v le.length (cellsE le)) : ∃ A c, v = .slice A le.length c ∧ ∀ j (hj : j < le.length), ∃ b, A = some ⟨b, 0, none⟩ ∧ v.ownBlock = some b ∧ b < w.heap.size ∧ w.cell? ⟨b, j * 2, none⟩ = some (.string le[j].s) ∧ w.cell? ⟨b, j * 2 + 1, none⟩ = some (.slice le[j].A le[j].l.length le[j].c) := by
  obtain ⟨hx, h1⟩ := h
  rcases h1 with ⟨rfl, hn⟩ | ⟨g, cap, cur, rfl, hg, hb, hc, _, hs, ht⟩
  · exact ⟨none, 0, by rw [hn], fun j hj => by omega⟩
  · refine ⟨_, cap, rfl, fun j hj => ⟨g, rfl, rfl, Blk.lt (t := 47) (cs := cur) hb, ?_⟩⟩
    have c0 := (cellsE_at le hj).1
    have c1 := (cellsE_at le hj).2
    rw [← ht, List.getElem?_take] at c0 c1
    rw [Nat.mul_comm j 2]
    refine ⟨?_, ?_⟩
    · rw [Blk.cell (t := 47) (cs := cur) hb]
      split at c0
      · simpa using c0
      · cases c0
    · rw [Blk.cell (t := 47) (cs := cur) hb]
      split at c1
      · simpa using c1
      · cases c1
theorem four4_own {S : Nat → Prop} {w w' : World} (h : Keep S w w') {g : Nat} (hg : S g) (a b c d : Value) : Keep S w (four4 w' g a b c d) := by
  have q := four4_below (Below.refl 0 w') (g := g) (Nat.zero_le _) a b c d
  exact ⟨q.os.trans h.os, q.tape.trans h.tape, q.output.trans h.output, by rw [four4_size]; exact h.size, fun k hk hn => (four4_heap _ _ _ _ _ _ _ (fun e => hn (by rw [e]; exact hg))).trans (h.block k hk hn)⟩
theorem refOf_fits2 {j : Nat} (h : j < 1000000) : (refOf j).fits := by
  unfold R.fits i64
  simp only [refOf]
  omega
structure GI (w : World) (l : List E) (h rb j : Nat) (S : Nat → Prop) (ns : List P3) (r : R) (ht : Nat) (v : Value) (wr : World) : Prop where
  below : Below w.heap.size w wr
  hp : Hp wr h S ns
  lo : ∀ g, S g → w.heap.size < g
  rbn : ¬ S rb
  kb : Blk wr rb 27 #[.int .u64 (r.k : Int), .int .i64 r.g, .int .i64 r.o, .int .i64 r.n]
  kz : Blk wr w.heap.size 27 #[.int .u64 0, .int .i64 0, .int .i64 0, .int .i64 0]
  lrb : w.heap.size < rb
  row : wr.ownsRow 0 47 2 v (growE l j).length (cellsE (growE l j))
  own : ∀ g, v.ownBlock = some g → w.heap.size < g ∧ ¬ S g ∧ g ≠ rb
  root : Root ns r ht ((growE l j).map pe)
  nlen : ns.length ≤ 1 + 17 * j
  ref : ∃ k, r = refOf k ∧ k < ns.length
theorem GI.next {w : World} {l : List E} {h rb j : Nat} {S : Nat → Prop} {ns : List P3} {r : R} {ht : Nat} {v : Value} {wr wr' : World} (I : GI w l h rb j S ns r ht v wr) (hb : Below wr.heap.size wr wr') : GI w l h rb j S ns r ht v wr' :=
  ⟨I.below.trans (hb.mono I.below.size), I.hp.below hb, I.lo, I.rbn, I.kb.below hb I.kb.lt, I.kz.below hb I.kz.lt, I.lrb, row_below I.row hb, I.own, I.root, I.nlen, I.ref⟩
/-- at the loop's head -/
def GH (w : World) (l : List E) (h rb : Nat) (i v : Value) (wr : World) : Prop :=
  ∃ (j : Nat) (S : Nat → Prop) (ns : List P3) (r : R) (ht : Nat), j ≤ l.length ∧ j ≤ 50 ∧ i = .int .i64 (j : Int) ∧ GI w l h rb j S ns r ht v wr
/-- at the inner loop's head -/
def IH (le : List E) (x : E) (W : World) (i u d : Value) (wi : World) : Prop :=
  ∃ (k : Nat) (bb : Bool), k ≤ le.length ∧ i = .int .i64 (k : Int) ∧ d = .bool bb ∧ Below W.heap.size W wi ∧ wi.ownsRow 0 47 2 u (inn le x k).length (cellsE (inn le x k)) ∧ Hid (bb = decide (innK le x < k) ∧ ∀ g, u.ownBlock = some g → W.heap.size ≤ g)
/-- what grown answers: a heap, a root, the secrets in order -/
def GPost (w : World) (l : List E) (le : List E) (e : Ending) (w' : World) : Prop :=
  ∃ (h : Nat) (S : Nat → Prop) (ns : List P3) (r : R) (ht : Nat) (v : Value), e = .returned (.tuple #[.pointer (some ⟨h, 0, none⟩), r.val, v]) ∧ Below w.heap.size w w' ∧ Hp w' h S ns ∧ (∀ g, S g → w.heap.size < g) ∧ Root ns r ht (le.map pe) ∧ ht ≤ 4 ∧ r.fits ∧
    w'.ownsRow 0 47 2 v le.length (cellsE le) ∧ (∀ g, v.ownBlock = some g → w.heap.size < g ∧ ¬ S g) ∧ le.length ≤ 50 ∧ Inc (le.map (·.s)) ∧ ∀ x ∈ le, x ∈ l
theorem root_h {ns : List P3} {r : R} {ht : Nat} {L : List PE} (t : Root ns r ht L) (hL : L.length ≤ 50) : ht ≤ 4 := by
  rcases Nat.lt_or_ge 4 ht with h | h
  · have h1 := t.len (by omega)
    have h2 : 2 ^ 6 ≤ 2 ^ (ht + 1) := Nat.pow_le_pow_right (by omega) (by omega)
    have : (2 : Nat) ^ 6 = 64 := rfl
    omega
  · exact h

end Go.Proofs.Ytnndohdiiglgmaa.trees
