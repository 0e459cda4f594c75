/- clear at rows of the call's own; a world in which what is written over stays a row. -/
import Derived.Test.YtoenkkbcpafanaaCcC
import Derived.Test.YtoenkkbcpafanaaTrN


namespace Go.Proofs.Ytoenkkbcpafanaa.caches
set_option linter.unusedVariables false
set_option linter.unusedSimpArgs false
open Go.RowKit Go.Proofs.Ytoenkkbcpafanaa.base Go.Proofs.Ytoenkkbcpafanaa.vers Go.Proofs.Ytoenkkbcpafanaa.nodes Go.Proofs.Ytoenkkbcpafanaa.trees

section
variable {P : Program}
theorem run_clear_at (w : World) (S e : TypeId) (i0 : TypeInfo) (z : Value) (k : Nat) (hu : P.underlying S = some (.slice e)) (hi : P.info? e = some i0) (hz : i0.zero = some z) (hk : z.cells.size = k) (hk0 : 0 < k) (h1 : ∀ u ∈ z.cells.toList, u.oneCell' = true)
    (g o n c : Nat) (cur : Array Value) (t : TypeId) (hn : 0 < n) (hg : Blk w g t cur) (hfit : o + n * k ≤ cur.size) :
    ∃ (zs : List Value) (w' : World), zs.length = n * k ∧ (∀ ty, (Builtin.clear_ #[S] ty #[.slice (some ⟨g, o, none⟩) n c]).run P w = .ok (.tuple #[]) w') ∧ Blk w' g t (cur.toList.take o ++ zs ++ cur.toList.drop (o + zs.length)).toArray ∧ w'.heap.size = w.heap.size ∧ (∀ j, j ≠ g → w'.heap[j]? = w.heap[j]?) ∧ w'.os = w.os ∧ w'.tape = w.tape ∧ w'.output = w.output := by
  have hzl : (Builtin.zeroCells z.cells n).toList.length = n * k := by rw [Array.length_toList, zeroCells_size, hk]
  have hz1 : ∀ u ∈ (Builtin.zeroCells z.cells n).toList, u.oneCell' = true := by
    intro u hu
    unfold Builtin.zeroCells at hu
    rw [Array.toList_map] at hu
    obtain ⟨i, _, rfl⟩ := List.mem_map.1 hu
    have hlt : i % z.cells.size < z.cells.size := Nat.mod_lt _ (by omega)
    rw [getElem!_pos z.cells _ hlt]
    exact h1 _ (by simp)
  have hst := run_storeCells_at P g o t (Builtin.zeroCells z.cells n).toList 0 cur w hg (by rw [hzl]; simpa using hfit) hz1
  refine ⟨(Builtin.zeroCells z.cells n).toList, w.setRow g (cur.toList.take o ++ (Builtin.zeroCells z.cells n).toList ++ cur.toList.drop (o + (Builtin.zeroCells z.cells n).toList.length)).toArray, hzl, fun ty => ?_, setRow_heap w g cur _ _ _ hg, by simp [World.setRow], fun j hj => setRow_other w g j _ hj, rfl, rfl, rfl⟩
  obtain ⟨m, rfl⟩ : ∃ m, n = m + 1 := ⟨n - 1, by omega⟩
  simp only [Nat.add_zero] at hst
  simp [Builtin.clear_, run_underlying hu, zeroValue, typeInfo, hi, hz, hst]
theorem run_clear_none (w : World) (S ty e : TypeId) (c : Nat) (a : Option Addr) (hu : P.underlying S = some (.slice e)) : (Builtin.clear_ #[S] ty #[.slice a 0 c]).run P w = .ok (.tuple #[]) w := by
  cases a <;> simp [Builtin.clear_, run_underlying hu]
end

/-- of the blocks F something may be written over; all that was there is still there -/
structure Wr (F : Nat → Prop) (w w' : World) : Prop where
  keep : Keep F w w'
  blk : ∀ b t cs, Blk w b t cs → ∃ cs', cs'.size = cs.size ∧ Blk w' b t cs'
theorem Wr.refl (F : Nat → Prop) (w : World) : Wr F w w := ⟨Keep.refl F w, fun b t cs h => ⟨cs, rfl, h⟩⟩
theorem Wr.trans {F : Nat → Prop} {w w' w2 : World} (h : Wr F w w') (k : Wr F w' w2) : Wr F w w2 :=
  ⟨h.keep.trans k.keep fun _ h _ => h, fun b t cs hb => by
    obtain ⟨c1, e1, h1⟩ := h.blk b t cs hb
    obtain ⟨c2, e2, h2⟩ := k.blk b t c1 h1
    exact ⟨c2, e2.trans e1, h2⟩⟩
theorem Wr.below {F : Nat → Prop} {w w' w2 : World} (h : Wr F w w') (k : Below w'.heap.size w' w2) : Wr F w w2 :=
  h.trans ⟨Keep.of_below k, fun b t cs hb => ⟨cs, rfl, hb.below k hb.lt⟩⟩
theorem Wr.mono {F G : Nat → Prop} {w w' : World} (h : Wr F w w') (hF : ∀ b, F b → G b) : Wr G w w' := ⟨h.keep.mono fun b hb _ => hF b hb, h.blk⟩
/-- n elements of k cells of the blocks F may be written over -/
def RowW (w : World) (t : TypeId) (k : Nat) (A : Option Addr) (n : Nat) (F : Nat → Prop) : Prop := n = 0 ∨ ∃ g cs, A = some ⟨g, 0, none⟩ ∧ F g ∧ Blk w g t cs ∧ n * k ≤ cs.size
theorem RowW.next {F G : Nat → Prop} {w w' : World} {t : TypeId} {k n : Nat} {A : Option Addr} (h : RowW w t k A n F) (hw : Wr G w w') : RowW w' t k A n F := by
  rcases h with h | ⟨g, cs, e, hF, hb, hs⟩
  · exact .inl h
  · obtain ⟨c2, e2, h2⟩ := hw.blk g t cs hb
    exact .inr ⟨g, c2, e, hF, h2, by omega⟩
theorem RowW.of {w : World} {t : TypeId} {k lo n c : Nat} {A : Option Addr} {xs : List Value} {F : Nat → Prop} (h : w.ownsRow lo t k (.slice A n c) n xs) (hF : ∀ g, (Value.slice A n c).ownBlock = some g → F g) : RowW w t k A n F := by
  rcases h.2 with ⟨e, h0⟩ | ⟨g, cap, cur, e, _, hb, hn, _, hs, _⟩
  · exact .inl h0
  · injection e with e1 _ e2
    subst e1
    refine .inr ⟨g, cur, rfl, hF g rfl, hb, ?_⟩
    rw [hs]
    exact Nat.mul_le_mul_right _ hn
theorem clear_row {w : World} {t S : TypeId} {k n c : Nat} {A : Option Addr} {F : Nat → Prop} {i0 : TypeInfo} {z : Value} (hu : Try.prog.underlying S = some (.slice t)) (hi : Try.prog.info? t = some i0) (hz : i0.zero = some z) (hk : z.cells.size = k) (hk0 : 0 < k) (h1 : ∀ u ∈ z.cells.toList, u.oneCell' = true)
    (h : RowW w t k A n F) : ∃ w', (∀ ty, (Builtin.clear_ #[S] ty #[.slice A n c]).run Try.prog w = .ok (.tuple #[]) w') ∧ Wr F w w' := by
  rcases Nat.eq_zero_or_pos n with h0 | h0
  · subst h0
    exact ⟨w, fun ty => run_clear_none w S ty t c A hu, Wr.refl F w⟩
  · rcases h with e | ⟨g, cs, rfl, hF, hb, hs⟩
    · omega
    · obtain ⟨zs, w', hl, hr, hB, hsz, ho, e1, e2, e3⟩ := run_clear_at w S t i0 z k hu hi hz hk hk0 h1 g 0 n c cs t h0 hb (by omega)
      refine ⟨w', hr, ⟨e1, e2, e3, by omega, fun b _ hn => ho b (fun e => hn (e ▸ hF))⟩, fun b t' cs' hb' => ?_⟩
      by_cases e : b = g
      · subst e
        have : Obj.cells cs' t' (0, 0) = Obj.cells cs t (0, 0) := Option.some.inj (hb'.symm.trans hb)
        injection this with e4 e5
        subst e4 e5
        refine ⟨_, ?_, hB⟩
        simp
        omega
      · exact ⟨cs', rfl, (ho b e).trans hb'⟩
theorem zcV (S : TypeId) (hS : S = 45) {w : World} {n c : Nat} {A : Option Addr} {F : Nat → Prop} (h : RowW w 180 3 A n F) : ∃ w', (∀ ty, (Builtin.clear_ #[S] ty #[.slice A n c]).run Try.prog w = .ok (.tuple #[]) w') ∧ Wr F w w' := by
  subst hS
  obtain ⟨i0, hi, hz0, hz1, hz2⟩ := info_parts trees.infoV
  exact clear_row Try.underlying45 hi hz0 rfl (by decide) (by intro u hu; simp [Value.cells] at hu; rcases hu with rfl | rfl | rfl <;> rfl) h
theorem zcE (S : TypeId) (hS : S = 84) {w : World} {n c : Nat} {A : Option Addr} {F : Nat → Prop} (h : RowW w 47 2 A n F) : ∃ w', (∀ ty, (Builtin.clear_ #[S] ty #[.slice A n c]).run Try.prog w = .ok (.tuple #[]) w') ∧ Wr F w w' := by
  subst hS
  obtain ⟨i0, hi, hz0, hz1, hz2⟩ := info_parts trees.infoE
  exact clear_row Try.underlying84 hi hz0 rfl (by decide) (by intro u hu; simp [Value.cells] at hu; rcases hu with rfl | rfl <;> rfl) h
theorem zcK (S : TypeId) (hS : S = 85) {w : World} {n c : Nat} {A : Option Addr} {F : Nat → Prop} (h : RowW w 162 5 A n F) : ∃ w', (∀ ty, (Builtin.clear_ #[S] ty #[.slice A n c]).run Try.prog w = .ok (.tuple #[]) w') ∧ Wr F w w' := by
  subst hS
  obtain ⟨i0, hi, hz0, hz1, hz2⟩ := info_parts trees.infoK
  exact clear_row Try.underlying85 hi hz0 rfl (by decide) (by intro u hu; simp [Value.cells] at hu; rcases hu with rfl | rfl | rfl | rfl | rfl <;> rfl) h
/-- what is kept, but for the last ones: they are cleared -/
theorem clear_tail {w : World} {pre l : List H} {g room c : Nat} (h : w.ownsRow 0 110 8 (.slice (some ⟨g, 0, none⟩) (pre ++ l).length room) (pre ++ l).length (cellsH (pre ++ l))) :
    ∃ w', (∀ ty, (Builtin.clear_ #[98] ty #[.slice (some ⟨g, pre.length * 8, none⟩) l.length c]).run Try.prog w = .ok (.tuple #[]) w') ∧ w'.ownsRow 0 110 8 (.slice (some ⟨g, 0, none⟩) pre.length room) pre.length (cellsH pre) ∧ Keep (fun b => b = g) w w' := by
  obtain ⟨i0, hi, hz0, hz1, hz2⟩ := info_parts infoH
  rcases h.2 with ⟨e, _⟩ | ⟨g', cap, cur, e, _, hb, hn, hm, hs, ht⟩
  · cases e
  · injection e with e1 e0 e2
    injection e1 with e1
    injection e1 with e1
    subst e1 e2
    have hp : cur.toList.take (pre.length * 8) = cellsH pre := by
      have := congrArg (List.take (pre.length * 8)) ht
      rw [List.take_take, cellsH_app, List.take_left' (cellsH_len pre), List.length_append, Nat.min_eq_left (by omega)] at this
      exact this
    rw [List.length_append] at hn
    rcases Nat.eq_zero_or_pos l.length with h0 | h0
    · refine ⟨w, fun ty => by rw [h0]; exact run_clear_none w _ ty _ c _ Try.underlying98, ⟨cellsH_len pre, .inr ⟨g, room, cur, rfl, Nat.zero_le _, hb, by omega, hm, hs, hp⟩⟩, Keep.refl _ _⟩
    · obtain ⟨zs, w', hl, hr, hB, hsz, ho, e1, e2, e3⟩ := run_clear_at (P := Try.prog) w 98 110 i0 _ 8 Try.underlying98 hi hz0 rfl (by decide) (by intro u hu; simp [Value.cells] at hu; rcases hu with rfl | rfl | rfl | rfl | rfl | rfl | rfl | rfl <;> rfl) g (pre.length * 8) l.length c cur 110 h0 hb (by omega)
      refine ⟨w', hr, ⟨cellsH_len pre, .inr ⟨g, room, _, rfl, Nat.zero_le _, hB, by omega, hm, ?_, ?_⟩⟩, ⟨e1, e2, e3, by omega, fun b _ hn => ho b hn⟩⟩
      · simp; omega
      · rw [List.toList_toArray, List.append_assoc, List.take_left' (by simp; omega), hp]
end Go.Proofs.Ytoenkkbcpafanaa.caches
