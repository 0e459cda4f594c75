/- MediumCuts. -/
import Derived.Test.YtoenkkbcpafanaaMdE


namespace Go.Proofs.Ytoenkkbcpafanaa.mediums
set_option linter.unusedVariables false
set_option linter.unusedSimpArgs false
open Go.RowKit Go.Proofs.Ytoenkkbcpafanaa.base Go.Proofs.Ytoenkkbcpafanaa.trees Go.Proofs.Ytoenkkbcpafanaa.powers Go.Lib

def lW (m : MS) (L sg o : Int) (b : ByteArray) : Int := if refE m sg o b = 0 then spL L else L
def wW (m : MS) (L W sg o : Int) (b : ByteArray) : Int := if refE m sg o b = 0 then wSp L W else W
def mW (m : MS) (L sg o : Int) (b : ByteArray) : MS := if refE m sg o b = 0 ∧ L ≠ 0 then putM m sg.toNat o.toNat b else m
/-- two media, apart, each with a power of its own -/
structure Two (B : Nat) (w0 w : World) (Sa Sb : Nat → Prop) (pa ga pb gb : Nat) (ma mb : MS) (La Wa Lb Wb : Int) : Prop where
  a : Md w Sa pa ga ma
  b : Md w Sb pb gb mb
  ka : Blk w pa 219 (PC La Wa)
  kb : Blk w pb 219 (PC Lb Wb)
  dis : ∀ k, Sa k → ¬ Sb k
  apb : ¬ Sa pb
  bpa : ¬ Sb pa
  ne : pa ≠ pb
  lo : ∀ k, Sa k ∨ Sb k ∨ k = pa ∨ k = pb → B ≤ k
  hb : Below B w0 w
  le : B ≤ w0.heap.size
section
variable {B : Nat} {w0 w w' : World} {Sa Sb : Nat → Prop} {pa ga pb gb : Nat} {ma mb : MS} {La Wa Lb Wb : Int}
theorem Two.symm (h : Two B w0 w Sa Sb pa ga pb gb ma mb La Wa Lb Wb) : Two B w0 w Sb Sa pb gb pa ga mb ma Lb Wb La Wa :=
  ⟨h.b, h.a, h.kb, h.ka, fun k h1 h2 => h.dis k h2 h1, h.bpa, h.apb, fun e => h.ne e.symm, fun k hk => h.lo k (by rcases hk with h | h | h | h; exact .inr (.inl h); exact .inl h; exact .inr (.inr (.inr h)); exact .inr (.inr (.inl h))), h.hb, h.le⟩
theorem Two.below (h : Two B w0 w Sa Sb pa ga pb gb ma mb La Wa Lb Wb) (hb : Below w.heap.size w w') : Two B w0 w' Sa Sb pa ga pb gb ma mb La Wa Lb Wb :=
  ⟨h.a.below hb, h.b.below hb, h.ka.below hb h.ka.lt, h.kb.below hb h.kb.lt, h.dis, h.apb, h.bpa, h.ne, h.lo, h.hb.trans (hb.mono (Nat.le_trans h.le h.hb.size)), h.le⟩
theorem Two.write (h : Two B w0 w Sa Sb pa ga pb gb ma mb La Wa Lb Wb) {sg o : Int} {b : ByteArray} {e : Ending} (hw : WrPost Sa pa ga ma La Wa sg o b w e w') :
    e = .returned (.int .i64 (wrE ma La sg o b)) ∧ ∃ Sa', Two B w0 w' Sa' Sb pa ga pb gb (mW ma La sg o b) mb (lW ma La sg o b) (wW ma La Wa sg o b) Lb Wb := by
  obtain ⟨he, S', hs, hm, hp, hk⟩ := hw
  have lp := h.kb.lt
  have hbs := h.hb.size
  have hle := h.le
  refine ⟨he, S', ⟨hm, h.b.keep hk (fun k hb hx => ?_), ?_, hk.blk h.kb (fun hx => ?_), fun k h1 h2 => ?_, fun h1 => ?_, h.bpa, h.ne, fun k hx => ?_, h.hb.trans (hk.below (fun k hx => ?_) (by omega)), h.le⟩⟩
  · rcases hx with hx | hx
    · exact h.dis k hx hb
    · exact h.bpa (hx ▸ hb)
  · unfold lW wW
    by_cases hr : refE ma sg o b = 0
    · rw [if_pos hr] at hp; rw [if_pos hr, if_pos hr]; exact hp
    · rw [if_neg hr] at hp; rw [if_neg hr, if_neg hr]; exact hp
  · rcases hx with hx | hx
    · exact h.apb hx
    · exact h.ne hx.symm
  · rcases hs k h1 with h3 | h3
    · exact h.dis k h3 h2
    · have := h.b.lt k h2; omega
  · rcases hs pb h1 with h3 | h3
    · exact h.apb h3
    · omega
  · rcases hx with hx | hx | hx | hx
    · rcases hs k hx with h3 | h3
      · exact h.lo k (.inl h3)
      · omega
    · exact h.lo k (.inr (.inl hx))
    · exact h.lo k (.inr (.inr (.inl hx)))
    · exact h.lo k (.inr (.inr (.inr hx)))
  · rcases hx with hx | hx
    · exact h.lo k (.inl hx)
    · exact h.lo k (.inr (.inr (.inl hx)))
theorem Two.keepS (h : Two B w0 w Sa Sb pa ga pb gb ma mb La Wa Lb Wb) {e : Ending} {sg o : Int} {b : ByteArray} (hw : WrPost Sa pa ga ma La Wa sg o b w e w') {g : Nat} {t : TypeId} {cs : Array Value} (hk : Blk w g t cs) (hg : ¬ Sa g) (hgp : g ≠ pa) : Blk w' g t cs := by
  obtain ⟨he, S', hs, hm, hp, hkk⟩ := hw
  exact hkk.blk hk (fun hx => hx.elim hg hgp)
end
theorem putM_len (m : MS) (g o : Nat) (b : ByteArray) : (putM m g o b).segs.length = m.segs.length := by simp [putM]
theorem putM_past (m : MS) (g o : Nat) (b : ByteArray) : (putM m g o b).past.length = m.past.length + 1 := by simp [putM]
theorem wr_on (m : MS) (L sg o : Int) (b : ByteArray) (hL : L ≠ 0) : wrE m L sg o b = refE m sg o b := by
  unfold wrE eSp
  by_cases h : refE m sg o b = 0 <;> simp [h, hL]
theorem wr_off (m : MS) (sg o : Int) (b : ByteArray) : wrE m 0 sg o b ≠ 0 := by
  unfold wrE eSp
  split
  · decide
  · assumption
theorem mW_on (m : MS) (L sg o : Int) (b : ByteArray) (hL : L ≠ 0) : mW m L sg o b = if refE m sg o b = 0 then putM m sg.toNat o.toNat b else m := by
  unfold mW
  by_cases h : refE m sg o b = 0 <;> simp [h, hL]
theorem mW_off (m : MS) (sg o : Int) (b : ByteArray) : mW m 0 sg o b = m := by unfold mW; simp
theorem lW_off (m : MS) (sg o : Int) (b : ByteArray) : lW m 0 sg o b = 0 := by unfold lW spL; split <;> simp
theorem lW_neg (m : MS) (sg o : Int) (b : ByteArray) : lW m (-1) sg o b = -1 := by unfold lW spL; split <;> simp
theorem cut_yes (n : Nat) (hn : n ≤ 3000) : cutL (-1) (n : Int) = (n : Int) := by unfold cutL; rw [if_neg (by omega)]; omega
/-- what holds between two calls: the same in both; of n so many are left as were not done -/
def Rel (n sgN : Nat) (m : MS) (Lb : Int) : Prop := m.past.length ≤ n ∧ m.segs.length = sgN ∧ Lb = (n : Int) - (m.past.length : Int)
theorem Rel.on {n sgN : Nat} {m : MS} {Lb : Int} (h : Rel n sgN m Lb) (hL : Lb ≠ 0) (sg o : Int) (b : ByteArray) : Rel n sgN (mW m Lb sg o b) (lW m Lb sg o b) := by
  obtain ⟨h1, h2, h3⟩ := h
  rw [mW_on _ _ _ _ _ hL]
  unfold lW
  split
  · refine ⟨by rw [putM_past]; omega, by rw [putM_len]; exact h2, ?_⟩
    rw [putM_past]
    unfold spL
    rw [if_neg (by omega)]
    omega
  · exact ⟨h1, h2, h3⟩

end Go.Proofs.Ytoenkkbcpafanaa.mediums
