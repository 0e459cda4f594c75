/- Both caches side by side. -/
import Derived.Test.YtoenkkbcpafanaaCcAE
import Derived.Test.YtoenkkbcpafanaaCcP


namespace Go.Proofs.Ytoenkkbcpafanaa.caches
set_option linter.unusedVariables false
set_option linter.unusedSimpArgs false
open Go.RowKit Go.Proofs.Ytoenkkbcpafanaa.base Go.Proofs.Ytoenkkbcpafanaa.vers Go.Proofs.Ytoenkkbcpafanaa.nodes Go.Proofs.Ytoenkkbcpafanaa.trees

set_option maxRecDepth 100000 in
set_option maxHeartbeats 16000000 in
theorem newR_no (a : Int) (hn : a < 0 ∨ 32 < a) (w : World) :
    Calls Try.prog 32 #[.int .i64 a] w fun e w' => ∃ rp, e = .returned (.tuple #[.pointer (some ⟨rp, 0, none⟩), .bool false]) ∧ Below w.heap.size w w' := by
  have HB := vers.lay (show Below w.heap.size w (w.alloc (.cells #[.int .i64 a, .slice none 0 0, .int .i64 0, .int .i64 0] 100)) from (Below.refl _ _).alloc (Nat.le_refl _) _)
  rcases hn with h | h
  · have d1 : decide (0 ≤ a) = false := decide_eq_false (by omega)
    clear h
    go_enter Try.func32, Try.ntmps32
    go_wp2_with fail
    refine bodyPost_ret (v := .tuple #[.pointer (some ⟨w.heap.size, 0, none⟩), .bool false]) (by simp [results, Try.results32, go_sem]) rfl ⟨_, rfl, HB.out⟩
  · have d1 : decide (0 ≤ a) = true := decide_eq_true (by omega)
    have d2 : decide (a ≤ 32) = false := decide_eq_false (by omega)
    clear h
    go_enter Try.func32, Try.ntmps32
    go_wp2_with fail
    refine bodyPost_ret (v := .tuple #[.pointer (some ⟨w.heap.size, 0, none⟩), .bool false]) (by simp [results, Try.results32, go_sem]) rfl ⟨_, rfl, HB.out⟩
/-- where CachePlays stands: cache's and the document's, apart from each other, with the same in them -/
structure TI (w : World) (n : Nat) (wr : World) (p g : Nat) (Z : Nat → Prop) (rp : Nat) (F : Nat → Prop) (room f m : Nat) (l : List H) (v : Value) (l2 : List H) : Prop where
  ri : RI w n wr p g Z room f m l
  rf : Rf wr rp F room f m v l2
  eq : l2.map H.ph = l.map H.ph
  apart : ∀ b, Z b → ¬ F b
  ge : ∀ b, F b → w.heap.size ≤ b
section
variable {w wr w' w1 w2 : World} {n k p g rp room f m f' m' : Nat} {Z Z' F F' : Nat → Prop} {v v' : Value} {l l' l2 l2' : List H}
theorem RI.far (h : RI w n wr p g Z room f m l) (hk : Keep F wr w') (hF : ∀ b, F b → w.heap.size ≤ b) (hZ : ∀ b, Z b → ¬ F b) : RI w n w' p g Z room f m l :=
  ⟨h.below.trans (hk.below hF h.below.size), h.ca.keep hk hZ, h.z, h.bf, h.bm, h.bp⟩
theorem TI.next (h : TI w n wr p g Z rp F room f m l v l2) (hb : Below wr.heap.size wr w') : TI w n w' p g Z rp F room f m l v l2 := ⟨h.ri.next hb, h.rf.below hb, h.eq, h.apart, h.ge⟩
theorem TI.more (h : TI w n wr p g Z rp F room f m l v l2) (hk : n ≤ k) : TI w k wr p g Z rp F room f m l v l2 := ⟨h.ri.more hk, h.rf, h.eq, h.apart, h.ge⟩
theorem TI.left (h : TI w n wr p g Z rp F room f m l v l2) (hk : Keep Z wr w1) : Rf w1 rp F room f m v l2 := h.rf.keep hk fun b hb hz => h.apart b hz hb
/-- cache's call, then what reads alone or is new, then the document's call -/
theorem TI.both (h : TI w n wr p g Z rp F room f m l v l2) (hc : Ca w1 p g Z' room f' m' l') (hk : Keep Z wr w1) (hz : ∀ b, Z' b → Z b ∨ (wr.heap.size ≤ b ∧ b < w1.heap.size)) (hf : f' ≤ k) (hm : m' ≤ k) (hp : BP (l'.map H.ph) k)
    (hb : Below w1.heap.size w1 w2) (hr : Rf w' rp F' room f' m' v' l2') (hk2 : Keep F w2 w') (hn : ∀ b, F' b → F b ∨ w2.heap.size ≤ b) (he : l2'.map H.ph = l'.map H.ph) : TI w k w' p g Z' rp F' room f' m' l' v' l2' := by
  have r1 := h.ri.step hc hk hz hf hm hp
  have s1 := hk.size
  have s2 := hb.size
  have hZ : ∀ b, Z' b → ¬ F b := fun b hb hF => by
    rcases hz b hb with e | e
    · exact h.apart b e hF
    · have := h.rf.flt b hF; omega
  refine ⟨(r1.next hb).far hk2 h.ge hZ, hr, he, fun b hb1 hF => ?_, fun b hF => ?_⟩
  · rcases hn b hF with e | e
    · exact hZ b hb1 e
    · have := hc.zlt b hb1; omega
  · rcases hn b hF with e | e
    · exact h.ge b e
    · have := r1.below.size; omega
end
end Go.Proofs.Ytoenkkbcpafanaa.caches
