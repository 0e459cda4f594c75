/- What TreeFresh holds on to. -/
import Derived.Test.YtnndohdiiglgmaaKTfA
import Derived.Test.YtnndohdiiglgmaaKTuA
import Derived.Test.YtnndohdiiglgmaaKDlR


namespace Go.Proofs.Ytnndohdiiglgmaa.trees
set_option linter.unusedVariables false
set_option linter.unusedSimpArgs false
open Go.RowKit Go.Proofs.Ytnndohdiiglgmaa.base Go.Proofs.Ytnndohdiiglgmaa.vers Go.Proofs.Ytnndohdiiglgmaa.nodes Go.Proofs.Ytnndohdiiglgmaa.quotas

/-- a root and its page -/
structure Rt (ns : List P3) (r : R) (h : Nat) (L : List PE) (x : P3) : Prop where
  page : pageAt ns r = some x
  tree : Tree ns h x L
  p4 : partsP x ≤ 4
  p2 : 0 < h → 2 ≤ partsP x
  inc : Inc (nm L)
  ref : ∃ k, r = refOf k ∧ k < ns.length
theorem Rt.root {ns : List P3} {r : R} {h : Nat} {L : List PE} {x : P3} (t : Rt ns r h L x) : Root ns r h L := ⟨x, t.page, t.tree, t.p4, t.p2⟩
theorem Rt.app {ns : List P3} {r : R} {h : Nat} {L : List PE} {x : P3} (t : Rt ns r h L x) (m : List P3) : Rt (ns ++ m) r h L x :=
  ⟨pageAt_app m _ _ t.page, t.tree.app m, t.p4, t.p2, t.inc, by obtain ⟨k, e, hk⟩ := t.ref; exact ⟨k, e, by rw [List.length_append]; omega⟩⟩
theorem Rt.fits {ns : List P3} {r : R} {h : Nat} {L : List PE} {x : P3} (t : Rt ns r h L x) (hn : ns.length ≤ 20000) : r.fits := by
  obtain ⟨k, e, hk⟩ := t.ref
  rw [e]
  exact refOf_fits2 (by omega)
theorem Rt.low {ns : List P3} {r : R} {ht : Nat} {L : List PE} {x : P3} (t : Rt ns r ht L x) (hL : L.length ≤ 61) : ht ≤ 4 := by
  rcases Nat.lt_or_ge 4 ht with h | h
  · have h1 := t.root.len (by omega)
    have h2 : 2 ^ 6 ≤ 2 ^ (ht + 1) := Nat.pow_le_pow_right (by omega) (by omega)
    have : (2 : Nat) ^ 6 = 64 := rfl
    omega
  · exact h
theorem Rt.seen {ns : List P3} {r : R} {h : Nat} {L : List PE} {x : P3} (t : Rt ns r h L x) : (seenP ns h r 1 x).map (·.2.1) = r :: refsP ns h x := seen_refs h r 1 x L t.tree
theorem Rt.old {ns : List P3} {r : R} {h : Nat} {L : List PE} {x : P3} (t : Rt ns r h L x) : ∀ q ∈ r :: refsP ns h x, isNew ns.length q = false := fun q hq => by
  rcases List.mem_cons.1 hq with rfl | hq
  · exact pageAt_le t.page
  · exact (old_refs h x L t.tree).2 q hq
/-- counted by All's two answers -/
def there (O : List R) (q : R) : Bool := O.any fun y => decide (y = q)
theorem FrOk.count {n c : Nat} {O l : List R} (f : FrOk n O l c) (hO : ∀ q ∈ O, isNew n q = false) : l.countP (fun q => !there O q) = c := by
  rw [← f.1]
  refine List.countP_congr fun q hq => ?_
  unfold there
  cases hn : isNew n q with
  | true =>
    have : (O.any fun y => decide (y = q)) = false := by
      rw [List.any_eq_false]
      intro y hy hy2
      have e := of_decide_eq_true hy2
      subst e
      rw [hO y hy] at hn
      cases hn
    rw [this]
    simp
  | false =>
    have : (O.any fun y => decide (y = q)) = true := List.any_eq_true.2 ⟨q, f.2 q hq hn, by simp⟩
    rw [this]
    simp
/-- Put over a tree, and what of it is new -/
theorem put_new {ns : List P3} {r : R} {ht : Nat} {L : List PE} {x : P3} (h : Nat) (S : Nat → Prop) (t : Rt ns r ht L x) (s : ByteArray) (vl : List V) (hh : ht ≤ 5) (hs : s.size ≤ maxLen) (hn : ns.length ≤ 19000) :
    ∃ m r' h' x', Rt (ns ++ m) r' h' (withP L (s, vl)) x' ∧ m.length ≤ 2 * ht + 3 ∧ FrOk ns.length (r :: refsP ns ht x) (r' :: refsP (ns ++ m) h' x') m.length ∧
      ∀ w A c, Hp w h S ns → Vs w w.heap.size vl A c → Calls Try.prog 18 #[pv h, r.val, .agg #[.string s, .slice A vl.length c]] w (RootPost w h S (ns ++ m, r')) := by
  obtain ⟨way, leaf, m, r', h', x', hd, hwl, hIl, hat, hll, hput, k1, k2, k3, k4, hh', hml, href, hfr⟩ := put_fresh t.page t.tree t.p4 t.p2 (s, vl) t.inc (by omega)
  refine ⟨m, r', h', x', ⟨k1, k2, k3, k4, withP_inc t.inc, href⟩, hml, hfr, fun w A c hp hv => ?_⟩
  have := put_ok h S ns r s vl A c way leaf w hp (t.fits (by omega)) hv hs hd hIl (by omega) hat hll (by omega)
  rw [hput] at this
  exact this
/-- Delete over a tree, and what of it is new: found or not -/
theorem del_new {ns : List P3} {r : R} {ht : Nat} {L : List PE} {x : P3} (h : Nat) (S : Nat → Prop) (t : Rt ns r ht L x) (s : ByteArray) (hh : ht ≤ 5) (hn : ns.length ≤ 19000) (w : World) (hp : Hp w h S ns) :
    ∃ m r' h' L' x' b, Rt (ns ++ m) r' h' L' x' ∧ L'.length ≤ L.length ∧ m.length ≤ 2 * ht + 3 ∧ FrOk ns.length (r :: refsP ns ht x) (r' :: refsP (ns ++ m) h' x') m.length ∧
      Calls Try.prog 14 #[pv h, r.val, .string s] w fun e w' => ∃ S' : Nat → Prop, e = .returned (.tuple #[r'.val, .bool b, .int .i64 0]) ∧ Hp w' h S' (ns ++ m) ∧ (∀ g, S' g → S g ∨ w.heap.size ≤ g) ∧ Keep S w w' := by
  have hr := t.fits (show ns.length ≤ 20000 by omega)
  by_cases hs : s ∈ nm L
  · obtain ⟨way, leaf, sts, lf, n, m, r', h', x', d1, d2, d3, d4, d5, d6, d7, d8, d9, k1, k2, k3, k4, d11, d12, d13, hfr⟩ := del_fresh t.page t.tree t.p4 t.p2 s t.inc hs (by omega)
    obtain ⟨w1, w2, w3⟩ := root_way t.root s t.inc (by omega) d1
    have hlk : leaf.2.2.length ≤ 1000 := by rw [w3]; exact Nat.zero_le _
    refine ⟨m, r', h', outP L s, x', true, ⟨k1, k2, k3, k4, outP_inc t.inc, d13⟩, List.length_filter_le _ _, by omega, hfr, ?_⟩
    have := del_ok h S ns r s way leaf sts lf n w hp hr d1 d3 d4 d5 (by omega) w1 w2 ⟨by omega, hlk⟩ (by rw [d2]; exact d8) (by omega)
    rw [d9] at this
    exact this
  · have e : ns ++ [] = ns := List.append_nil ns
    refine ⟨[], r, ht, L, x, false, by rw [e]; exact t, Nat.le_refl _, by simp, ⟨?_, fun q hq _ => by rw [e] at hq; exact hq⟩, ?_⟩
    · rw [e]
      exact List.countP_eq_zero.2 fun q hq => by rw [t.old q hq]; simp
    · refine (del_none h S ns r ht L s w hp hr t.root t.inc hs (by omega)).mono ?_
      rintro e9 w' ⟨rfl, hb⟩
      exact ⟨S, rfl, by rw [e]; exact hp.below hb, fun g hg => .inl hg, Keep.of_below hb⟩
/-- where the law stands -/
structure FI (w : World) (h rb : Nat) (S : Nat → Prop) (ns : List P3) (r : R) (ht : Nat) (L : List PE) (x : P3) (wr : World) : Prop where
  below : Below w.heap.size w wr
  hp : Hp wr h S ns
  lo : ∀ g, S g → w.heap.size ≤ g
  rbn : ¬ S rb
  kb : Blk wr rb 27 #[.int .u64 (r.k : Int), .int .i64 r.g, .int .i64 r.o, .int .i64 r.n]
  lrb : w.heap.size ≤ rb
  rt : Rt ns r ht L x
theorem FI.next {w : World} {h rb : Nat} {S : Nat → Prop} {ns : List P3} {r : R} {ht : Nat} {L : List PE} {x : P3} {wr w' : World} (I : FI w h rb S ns r ht L x wr) (hb : Below wr.heap.size wr w') : FI w h rb S ns r ht L x w' :=
  ⟨I.below.trans (hb.mono I.below.size), I.hp.below hb, I.lo, I.rbn, I.kb.below hb I.kb.lt, I.lrb, I.rt⟩
theorem FI.keep {w : World} {h rb : Nat} {S S' : Nat → Prop} {ns m : List P3} {r : R} {ht : Nat} {L : List PE} {x : P3} {wr w' : World} (I : FI w h rb S ns r ht L x wr) (hk : Keep S wr w') (hp : Hp w' h S' (ns ++ m)) (hs : ∀ g, S' g → S g ∨ wr.heap.size ≤ g) : FI w h rb S' (ns ++ m) r ht L x w' :=
  ⟨I.below.trans (hk.below (fun g hg => I.lo g hg) I.below.size), hp, fun g hg => (hs g hg).elim (I.lo g) (fun h9 => by have := I.below.size; omega), fun h9 => (hs _ h9).elim I.rbn (fun h9 => by have := I.kb.lt; omega), hk.blk I.kb I.rbn, I.lrb, I.rt.app m⟩
/-- a row of All's answer that nothing writes -/
def SRow (wx : World) (S : Nat → Prop) (v : Value) (l : List SN) : Prop := wx.ownsRow 0 62 8 v l.length (cellsSn l) ∧ ∀ g, v.ownBlock = some g → ¬ S g
theorem SRow.keep {S S' : Nat → Prop} {v : Value} {l : List SN} {wr w' : World} (b : SRow wr S v l) (hk : Keep S wr w') (hs : ∀ g, S' g → S g ∨ wr.heap.size ≤ g) : SRow w' S' v l :=
  ⟨ownsRow_agree b.1 (fun g hg => hk.block g (b.1.lt g hg).2 (b.2 g hg)), fun g hg h9 => (hs _ h9).elim (b.2 g hg) (fun h9 => by have := (b.1.lt g hg).2; omega)⟩
theorem SRow.next {S : Nat → Prop} {v : Value} {l : List SN} {wr w' : World} (b : SRow wr S v l) (hb : Below wr.heap.size wr w') : SRow w' S v l := ⟨row_below b.1 hb, b.2⟩
end Go.Proofs.Ytnndohdiiglgmaa.trees
