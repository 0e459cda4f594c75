/- The law TreeOwn. -/
import Derived.Test.YtnndohdiiglgmaaKTmD
import Derived.Test.YtnndohdiiglgmaaKMix


namespace Go.Proofs.Ytnndohdiiglgmaa.trees
set_option linter.unusedVariables false
set_option linter.unusedSimpArgs false
open Go.RowKit Go.Proofs.Ytnndohdiiglgmaa.base Go.Proofs.Ytnndohdiiglgmaa.vers Go.Proofs.Ytnndohdiiglgmaa.nodes Go.Proofs.Ytnndohdiiglgmaa.quotas

theorem vs_of_blk {w : World} {q : Nat} {v : ByteArray} (h : Blk w q 137 #[.int .i64 1, .string v, .string ⟨#[]⟩]) (hv : v.size ≤ maxLen) : Vs w w.heap.size [vOf v] (some ⟨q, 0, none⟩) 1 :=
  ⟨Nat.le_refl _, by simp, (fun e => by cases e), Blk.rd (xs := cellsV [vOf v]) h h.lt, fun x hx => by rw [List.mem_singleton.1 hx]; exact ⟨⟨by show (-9223372036854775808 : Int) ≤ 1; decide, by show (1 : Int) ≤ 9223372036854775807; decide⟩, hv, by simp [vOf, ByteArray.size]⟩⟩
/-- where the law stands: a heap, a root in a box, the list -/
structure OI (w : World) (h rb : Nat) (S : Nat → Prop) (ns : List P3) (r : R) (ht : Nat) (L : List PE) (lt : List TO) (v : Value) (wr : World) : Prop where
  below : Below w.heap.size w wr
  hp : Hp wr h S ns
  lo : ∀ g, S g → w.heap.size ≤ g
  rbn : ¬ S rb
  kb : Blk wr rb 27 #[.int .u64 (r.k : Int), .int .i64 r.g, .int .i64 r.o, .int .i64 r.n]
  lrb : w.heap.size ≤ rb
  row : wr.ownsRow 0 36 5 v lt.length (cellsT lt)
  own : ∀ g, v.ownBlock = some g → w.heap.size ≤ g ∧ ¬ S g ∧ g ≠ rb
  fits : ∀ x ∈ lt, x.fits
  root : Root ns r ht L
  mp : Mp L lt
  ref : ∃ k, r = refOf k ∧ k < ns.length
/-- at the loop's head -/
def OH (w : World) (m h rb : Nat) (i v : Value) (wr : World) : Prop :=
  ∃ (j : Nat) (S : Nat → Prop) (ns : List P3) (r : R) (ht : Nat) (L : List PE) (lt : List TO), j ≤ m ∧ i = .int .i64 (j : Int) ∧ OI w h rb S ns r ht L lt v wr ∧ lt.length ≤ j ∧ ns.length ≤ 1 + 17 * j
theorem OI.shown {w : World} {h rb : Nat} {S : Nat → Prop} {ns : List P3} {r : R} {ht : Nat} {L : List PE} {lt : List TO} {v : Value} {wr : World} (I : OI w h rb S ns r ht L lt v wr) (hl : lt.length ≤ 50) (hn : ns.length ≤ 100000) : Shown wr h S ns r ht L :=
  ⟨I.hp, I.root, root_h I.root (by rw [← I.mp.len]; exact hl), by obtain ⟨k, rfl, hk⟩ := I.ref; exact refOf_fits2 (by omega), by rw [← I.mp.len]; exact hl⟩

end Go.Proofs.Ytnndohdiiglgmaa.trees
