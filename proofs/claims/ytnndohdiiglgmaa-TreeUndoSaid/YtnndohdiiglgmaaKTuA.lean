/- A guarded operation in a region that draws. -/
import Derived.Test.YtnndohdiiglgmaaKMix
import Derived.Test.YtnndohdiiglgmaaKDlR
import Derived.Test.YtnndohdiiglgmaaKTmE
import Derived.Lib.SmallJoins


namespace Go.Proofs.Ytnndohdiiglgmaa.mix
set_option linter.unusedVariables false
set_option linter.unusedSimpArgs false
open Go.RowKit
section
variable {P : Program} {ops : Array Oper} {md : Region.Mode} {S : World → Prop} {D : Nat → Bool} {Q : Exit → Act → World → Prop}
theorem D_opW {k : Nat} {o : Oper} {fuel : Nat} {listed : Array Bool} {a : Act} {w : World} (ho : ops[k]? = some o) (hr : (Region.ready md ops listed == [k]) = true) (hw : Region.wanted o (yielded ops a.tmps) = true)
    (h : ∀ K' : Act → World → Prop, Shut (∀ a' w', (D k = false → S w') → wpAnyD P md ops Q S D fuel (listed.setIfInBounds k true) a' w' → K' a' w') → Oper.wp P o a w K' Q) : wpAnyD P md ops Q S D (fuel + 1) listed a w :=
  D_one ho hr (fun K' hK => by rw [if_pos hw]; exact h K' hK)
end
end Go.Proofs.Ytnndohdiiglgmaa.mix

/- Put and Delete over a tree, as the laws of tree use them; an argument that is one call. -/

namespace Go.Proofs.Ytnndohdiiglgmaa.trees
set_option linter.unusedVariables false
set_option linter.unusedSimpArgs false
open Go.RowKit Go.ChangeShapes Go.WideShapes Go.Proofs.Ytnndohdiiglgmaa.base Go.Proofs.Ytnndohdiiglgmaa.vers Go.Proofs.Ytnndohdiiglgmaa.nodes Go.Proofs.Ytnndohdiiglgmaa.quotas

theorem outP_mem {L : List PE} {s : ByteArray} {y : PE} : y ∈ outP L s ↔ y ∈ L ∧ y.1 ≠ s := by unfold outP; rw [List.mem_filter]; simp
theorem outP_inc {L : List PE} {s : ByteArray} (h : Inc (nm L)) : Inc (nm (outP L s)) := by
  unfold Inc nm at *
  exact h.sublist (List.filter_sublist.map _)
theorem Mp.del {L : List PE} {l : List TO} (m : Mp L l) (s : ByteArray) : Mp (outP L s) (woT l s) := by
  refine Mp.of (outP_inc m.inc) (fun y hy => ?_) (fun o' ho' => ?_) (woT_nodup m.uni)
  · obtain ⟨h1, h2⟩ := outP_mem.1 hy
    obtain ⟨o', h3, h4, h5⟩ := m.one y h1
    exact ⟨o', woT_mem.2 ⟨h3, by rw [h4]; exact h2⟩, h4, h5⟩
  · obtain ⟨h1, h2⟩ := woT_mem.1 ho'
    exact outP_mem.2 ⟨m.all o' h1, h2⟩
theorem woT_all {l : List TO} {s : ByteArray} (h : ∀ x ∈ l, x.n ≠ s) : woT l s = l := List.filter_eq_self.2 fun x hx => by simpa using h x hx
theorem woT_last {l : List TO} {o : TO} (h : ∀ x ∈ l, x.n ≠ o.n) : woT (l ++ [o]) o.n = l := by
  have h0 := woT_all h
  unfold woT at h0 ⊢
  rw [List.filter_append, h0]
  simp
theorem Mp.has {L : List PE} {l : List TO} (m : Mp L l) (s : ByteArray) : s ∈ nm L ↔ (hasT l s).2 = true := by
  constructor
  · intro hs
    obtain ⟨y, hy, rfl⟩ := List.mem_map.1 hs
    obtain ⟨o, ho, h1, _⟩ := m.one y hy
    rw [← h1, hasT_mem m.uni ho]
  · intro h
    cases hc : decide (∃ o ∈ l, o.n = s) with
    | true =>
      obtain ⟨o, ho, rfl⟩ := of_decide_eq_true hc
      exact List.mem_map.2 ⟨_, m.all o ho, rfl⟩
    | false =>
      have hn := of_decide_eq_false hc
      rw [hasT_none (fun o ho e => hn ⟨o, ho, e⟩)] at h
      cases h
/-- Put over a tree -/
theorem put_tree {ns : List P3} {r : R} {ht : Nat} {L : List PE} (h : Nat) (S : Nat → Prop) (t : Root ns r ht L) (s : ByteArray) (vl : List V) (hI : Inc (nm L)) (hh : ht ≤ 5) (hr : r.fits) (hs : s.size ≤ maxLen) (hn : ns.length ≤ 19000) :
    ∃ m r' h', Root (ns ++ m) r' h' (withP L (s, vl)) ∧ (ht ≤ h' ∧ h' ≤ ht + 1) ∧ m.length ≤ 2 * ht + 3 ∧ (∃ j, r' = refOf j ∧ j < (ns ++ m).length) ∧
      ∀ w A c, Hp w h S ns → Vs w w.heap.size vl A c → Calls Try.prog 18 #[pv h, r.val, .agg #[.string s, .slice A vl.length c]] w (RootPost w h S (ns ++ m, r')) := by
  obtain ⟨way, leaf, m, r', h', hd, hwl, hIl, hat, hll, hput, hroot, hh', hml, href⟩ := put_root t (s, vl) hI (by omega)
  refine ⟨m, r', h', hroot, hh', hml, href, fun w A c hp hv => ?_⟩
  have := put_ok h S ns r s vl A c way leaf w hp hr hv hs hd hIl (by omega) hat hll (by omega)
  rw [hput] at this
  exact this
section
variable {H : Type} {enc : TypeId × Value → H} {W : World}
set_option maxRecDepth 100000 in
theorem open_top_arg {r : Reach} {b0 : Nat} {v : Value} {d : DataW H} {p : List MemPlace} (hv : Value.okWide Try.prog W r b0 36 v) (h : DataW.Trod enc Try.prog W 0 (fun _ => true) true 36 v d p) :
    ∃ y : TO, v = .agg #[.int .i64 y.k, .string y.n, .string y.v, .slice y.A y.m y.c, .int .i64 y.b] ∧ y.fits := by
  obtain ⟨cs, rfl, hsz⟩ := okWide_struct Try.underlying36 hv
  obtain ⟨m, hm⟩ := h
  obtain ⟨y, e, hy⟩ := open_op hm
  refine ⟨y, ?_, hy⟩
  have : cs.toList = y.cells := by simpa [Value.cells] using e
  rw [← Array.toArray_toList (xs := cs), this]
  rfl
end
end Go.Proofs.Ytnndohdiiglgmaa.trees

/- A region that draws: an operation that yields the same in every world is taken first, whatever the others do. -/

namespace Go.Proofs.Ytnndohdiiglgmaa.mix
set_option linter.unusedVariables false
set_option linter.unusedSimpArgs false
open Go.RowKit Go.Proofs.Ytnndohdiiglgmaa.base
section
variable {P : Program} {ops : Array Oper} {md : Region.Mode} {S : World → Prop} {D : Nat → Bool} {Q : Exit → Act → World → Prop}
theorem D_firstF {i : Nat} {oi : Oper} {v : Value} (hi : ops[i]? = some oi) (hsel : ∀ (j : Nat) (o : Oper) cs b, ops[j]? = some o → o.op ≠ .select cs b)
    (hQ : ∀ c a w, Q (.panic c) (a.put oi.dst v) w → Q (.panic c) a w) (hDi : D i = true) :
    ∀ (fuel : Nat) (listed : Array Bool) (a : Act) (w : World),
      (∀ j oj, ops[j]? = some oj → j ≠ i → listed.getD j true = false → (∀ e ∈ oj.after, Region.binds md e = true → e.on ≠ i) → oi.apart ops oj = true) →
      i ∈ Region.ready md ops listed → YieldsIf P ops (fun _ => True) oi v a →
      wpAnyD P md ops Q S D fuel (listed.setIfInBounds i true) (a.put oi.dst v) w → wpAnyD P md ops Q S D (fuel + 1) listed a w := by
  intro fuel
  induction fuel with
  | zero =>
    intro listed a w _ hr hy H
    refine ⟨fun h => (by rw [h] at hr; cases hr), fun j hj => ?_⟩
    by_cases hji : j = i
    · subst hji; exact hy.wpOp hi trivial ⟨fun h => (by rw [hDi] at h; cases h), H⟩
    · have := ready_mono hj hji
      rw [H.1] at this
      cases this
  | succ fuel ih =>
    intro listed a w hfree hr hy H
    refine ⟨fun h => (by rw [h] at hr; cases hr), fun j hj => ?_⟩
    by_cases hji : j = i
    · subst hji; exact hy.wpOp hi trivial ⟨fun h => (by rw [hDi] at h; cases h), H⟩
    · have h1 := H.2 j (ready_mono hj hji)
      obtain ⟨hjun, oj, hoj, hall⟩ := mem_ready.1 hj
      have hnot : ∀ e ∈ oj.after, Region.binds md e = true → e.on ≠ i := fun e he hb heq => by
        have h1 := hall e he hb
        have h0 := (mem_ready.1 hr).1
        rw [heq] at h1
        rcases Nat.lt_or_ge i listed.size with h' | h'
        · simp [h'] at h0 h1; rw [h0] at h1; cases h1
        · simp [Array.getElem?_eq_none h'] at h1
      have h2 := wpOp_putIf hoj (hfree j oj hoj hji hjun hnot) (fun cs b => hsel i oi cs b hi) (fun cs b => hsel j oj cs b hoj) hQ hy h1
      have hfree' : ∀ k ok, ops[k]? = some ok → k ≠ i → (listed.setIfInBounds j true).getD k true = false →
          (∀ e ∈ ok.after, Region.binds md e = true → e.on ≠ i) → oi.apart ops ok = true := fun k ok hk hki hun hno => by
        refine hfree k ok hk hki ?_ hno
        by_cases hjk : j = k
        · subst hjk; exact hjun
        · rw [getD_set_ne true hjk] at hun; exact hun
      refine wpOp_mono (fun a' w' h3 => ⟨h3.2.1, ih (listed.setIfInBounds j true) a' w' hfree' (ready_mono hr (Ne.symm hji)) h3.1 ?_⟩) h2
      rw [Array.setIfInBounds_comm _ _ hji]
      exact h3.2.2
/-- take number i first: it yields the same in every world -/
theorem D_takeF {i : Nat} {oi : Oper} {v : Value} {fuel : Nat} {listed : Array Bool} {a : Act} {w : World} (hi : ops[i]? = some oi)
    (hs : Region.noSelect ops = true) (hf : (Region.free md ops listed i && (Region.ready md ops listed).contains i && D i) = true)
    (hQ : ∀ c a w, Q (.panic c) (a.put oi.dst v) w → Q (.panic c) a w) (hy : YieldsIf P ops (fun _ => True) oi v a)
    (h : wpAnyD P md ops Q S D fuel (listed.setIfInBounds i true) (a.put oi.dst v) w) : wpAnyD P md ops Q S D (fuel + 1) listed a w := by
  simp only [Bool.and_eq_true] at hf
  exact D_firstF hi (Region.noSelect_spec hs) hQ hf.2 fuel listed a w (Region.free_spec hi hf.1.1) (by simpa using hf.1.2) hy h
end
end Go.Proofs.Ytnndohdiiglgmaa.mix

/- A box of a Ref that nothing writes. -/

namespace Go.Proofs.Ytnndohdiiglgmaa.trees
set_option linter.unusedVariables false
set_option linter.unusedSimpArgs false
open Go.RowKit Go.Proofs.Ytnndohdiiglgmaa.base Go.Proofs.Ytnndohdiiglgmaa.vers Go.Proofs.Ytnndohdiiglgmaa.nodes Go.Proofs.Ytnndohdiiglgmaa.quotas

/-- a box of a Ref that nothing writes -/
def UB (wx : World) (S : Nat → Prop) (g : Nat) (r : R) : Prop := Blk wx g 27 #[.int .u64 (r.k : Int), .int .i64 r.g, .int .i64 r.o, .int .i64 r.n] ∧ ¬ S g
theorem UB.keep {S S' : Nat → Prop} {g : Nat} {r : R} {wr w' : World} (b : UB wr S g r) (hk : Keep S wr w') (hs : ∀ g, S' g → S g ∨ wr.heap.size ≤ g) : UB w' S' g r :=
  ⟨hk.blk b.1 b.2, fun h9 => (hs _ h9).elim b.2 (fun h9 => by have := b.1.lt; omega)⟩
theorem UB.next {S : Nat → Prop} {g : Nat} {r : R} {wr w' : World} (b : UB wr S g r) (hb : Below wr.heap.size wr w') : UB w' S g r := ⟨b.1.below hb b.1.lt, b.2⟩
end Go.Proofs.Ytnndohdiiglgmaa.trees
