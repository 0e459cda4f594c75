/- A row of bytes that the calls build by append: what it holds, what an append leaves; appendNum and PutNum, the program's and the document's own. -/
import Derived.Test.YtgdmhfdlijeogaaSevens
import Derived.Lib.AppendStr
import Derived.Laws.IdiomStrings
import Derived.Lib.BufferRead
namespace Go.Proofs.Ytgdmhfdlijeogaa.bytes
set_option linter.unusedVariables false
set_option linter.unusedSimpArgs false
open Go.RowKit Go.Proofs.Ytgdmhfdlijeogaa.base Go.Proofs.Ytgdmhfdlijeogaa.tm Go.Proofs.Ytgdmhfdlijeogaa.sevens

/-- bytes as cells -/
def bys (l : List UInt8) : List Value := l.map fun b => .int .u8 (b.toNat : Int)
theorem bys_append (l m : List UInt8) : bys (l ++ m) = bys l ++ bys m := by simp [bys]
theorem bys_one (l : List UInt8) : ∀ u ∈ bys l, u.oneCell' = true := by
  intro u hu
  obtain ⟨z, _, rfl⟩ := List.mem_map.1 hu
  rfl
theorem info5 : (Try.prog.info? 5).map (fun i => (i.zero, i.size, i.bytes)) = some (some (.int .u8 0), 1, 1) := by kernel_rfl

/-- from w to w' only rows of bytes from block B on, and what is new, have turned; v' is such a row, of the bytes l' -/
structure Ext (B : Nat) (w w' : World) (v' : Value) (l' : List UInt8) : Prop where
  own : w'.ownsRow B 5 1 v' l'.length (bys l')
  below : Below B w w'
  kept : ∀ g T cs, T ≠ 5 → Blk w g T cs → Blk w' g T cs

section
variable {B : Nat} {w w' w'' : World} {v v' v'' : Value} {l l' l'' : List UInt8}
theorem Ext.nil (w : World) (B : Nat) : Ext B w w (.slice none 0 0) [] := ⟨⟨by simp [bys], .inl ⟨rfl, rfl⟩⟩, Below.refl _ _, fun _ _ _ _ h => h⟩
theorem Ext.refl (h : Ext B w w' v' l') : Ext B w' w' v' l' := ⟨h.own, Below.refl _ _, fun _ _ _ _ h => h⟩
theorem Ext.trans (h : Ext B w w' v' l') (k : Ext B w' w'' v'' l'') : Ext B w w'' v'' l'' := ⟨k.own, h.below.trans k.below, fun g T cs ht hb => k.kept g T cs ht (h.kept g T cs ht hb)⟩
theorem Ext.alloc (h : Ext B w w' v' l') (hB : B ≤ w'.heap.size) (o : Obj) : Ext B w (w'.alloc o) v' l' := ⟨h.own.alloc o, h.below.alloc hB o, fun g T cs ht hb => (h.kept g T cs ht hb).alloc o⟩
theorem Ext.drewN (h : Ext B w w' v' l') (n : Nat) : Ext B w (w'.drewN n) v' l' := ⟨h.own, ⟨h.below.os, h.below.tape, h.below.output, h.below.size, h.below.block⟩, h.kept⟩
theorem Ext.size (h : Ext B w w' v' l') : w.heap.size ≤ w'.heap.size := h.below.size
theorem Ext.step (h : Ext B w w' v l) (hB : B ≤ w'.heap.size) (ho : w''.ownsRow B 5 1 v' l'.length (bys l')) (hg : w'.grownBy w'' v.ownBlock) : Ext B w w'' v' l' := by
  refine ⟨ho, h.below.grown hg hB ?_, fun g T cs ht hb => ?_⟩
  · intro k hk
    rcases h.own.2 with ⟨rfl, _⟩ | ⟨g, cap, cur, rfl, hb, _⟩
    · simp [Value.ownBlock] at hk
    · simp [Value.ownBlock] at hk; omega
  · have h1 := h.kept g T cs ht hb
    refine (hg.block g h1.lt fun e => ?_).trans h1
    rcases h.own.2 with ⟨rfl, _⟩ | ⟨g', cap, cur, rfl, _, hh, _⟩
    · simp [Value.ownBlock] at e
    · simp [Value.ownBlock] at e
      subst e
      unfold Blk at h1
      rw [hh] at h1
      injection h1 with h1
      injection h1 with _ h1
      exact ht h1.symm
theorem Ext.string (h : Ext B w w' v l) : (Go.convert 54 9 v).run Try.prog w' = .ok (.string ⟨l.toArray⟩) w' := by
  rcases h.own.2 with ⟨rfl, hn⟩ | ⟨g, cap, cur, rfl, _, hg, _, _, _, ht⟩
  · obtain rfl := List.eq_nil_of_length_eq_zero hn
    exact Lib.run_convert_nil_bytes w' _ _ _ 0 Try.underlying54 Try.underlying5 Try.underlying9
  · exact run_convert_bytes_back w' _ _ _ _ cap l Try.underlying54 Try.underlying5 Try.underlying9 (Lib.bytes_of_row hg (by simp only [Nat.mul_one] at ht; exact ht))
end

section
variable {P : Program}
/-- append of one byte -/
theorem wpList_append_u8 {ops : Array Oper} {rest : List Oper} {o : Oper} {a : Act} {Q : Exit → Act → World → Prop} (hgd : o.guard = none) (s x : Operand)
    (ho : o.op = .call { callee := .builtin .append, args := #[s, x], argTypes := #[54, 54] })
    {B : Nat} {w0 w : World} {v : Value} {l : List UInt8} (hs : a.eval s = v) (hE : Ext B w0 w v l) (hB : B ≤ w.heap.size) (z : Int) (b : UInt8) (hz : z = (b.toNat : Int))
    {n : Nat} (hx : a.eval x = .slice (some ⟨n, 0, none⟩) 1 1) (hnz : n = w.heap.size) (hlen : l.length + 1 ≤ 140737488355328)
    (h : ∀ v' w', Ext B w0 w' v' (l ++ [b]) → w.heap.size ≤ w'.heap.size → wpList Try.prog ops Q rest (a.put o.dst v') w') : wpList Try.prog ops Q (o :: rest) a (w.alloc (.cells #[.int .u8 z] 5)) := by
  subst hz hnz
  obtain ⟨i0, hi, hz0, hz1, hz2⟩ := info_parts info5
  have hE1 := hE.alloc hB (.cells #[.int .u8 (b.toNat : Int)] 5)
  refine wpList_append_own _ hgd s x 54 ho B 5 i0 (.int .u8 0) 1 1 Try.underlying54 hi hz0 hz1 hz2 rfl (by decide) v l.length (bys l) hs hE1.own ⟨w.heap.size, 0, none⟩ 1 1 [.int .u8 (b.toNat : Int)] hx rfl ?_ ?_ (by unfold maxLen; omega) (by omega) (by simp; omega) ?_
  · intro j u hj
    match j, hj with
    | 0, hj => simp at hj; subst hj; simp [Addr.add]
    | (j + 1), hj => simp at hj
  · intro u hu; simp at hu; subst hu; rfl
  · intro v' w' ho' hg _
    refine h v' w' (hE1.step (by simp; omega) ?_ hg) (by have := hg.size; simp at this; omega)
    rw [bys_append, List.length_append]
    exact ho'
/-- append of a string's bytes -/
theorem wpList_append_str {ops : Array Oper} {rest : List Oper} {o : Oper} {a : Act} {Q : Exit → Act → World → Prop} (hgd : o.guard = none) (s x : Operand)
    (ho : o.op = .call { callee := .builtin .append, args := #[s, x], argTypes := #[54, 9] })
    {B : Nat} {w0 w : World} {v : Value} {l : List UInt8} (hs : a.eval s = v) (hE : Ext B w0 w v l) (hB : B ≤ w.heap.size) (t : ByteArray)
    (hx : a.eval x = .string t) (hlen : l.length + t.size ≤ 140737488355328)
    (h : ∀ v' w', Ext B w0 w' v' (l ++ t.data.toList) → w.heap.size ≤ w'.heap.size → wpList Try.prog ops Q rest (a.put o.dst v') w') : wpList Try.prog ops Q (o :: rest) a w := by
  obtain ⟨i0, hi, hz0, hz1, hz2⟩ := info_parts info5
  refine Lib.wpList_append_own_string _ hgd s x 54 9 ho B 5 i0 Try.underlying54 Try.underlying9 hi hz0 hz1 hz2 v l.length (bys l) hs hE.own t hx (by unfold maxLen; omega) hlen hB ?_
  intro v' w' ho' hg _
  refine h v' w' (hE.step hB ?_ hg) hg.size
  rw [bys_append, List.length_append]
  have : (t.data.toList).length = t.size := by simp
  rw [this]
  exact ho'
end
end Go.Proofs.Ytgdmhfdlijeogaa.bytes
