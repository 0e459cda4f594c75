/- What was appended and is not free stays readable (pure); rows of places and of texts that grow. -/
import Derived.Test.YthmamlghmagmkaaSgL


namespace Go.Proofs.Ythmamlghmagmkaa.segs
set_option linter.unusedVariables false
set_option linter.unusedSimpArgs false
open Go.RowKit Go.Shelf Go.Proofs.Ythmamlghmagmkaa.base Go.Proofs.Ythmamlghmagmkaa.trees Go.Proofs.Ythmamlghmagmkaa.powers Go.Proofs.Ythmamlghmagmkaa.mediums Go.Lib

theorem ext_front {s b : ByteArray} {o x y : Nat} (hy : y ≤ o) (ho : o ≤ s.size) : (s.extract 0 o ++ b).extract x y = s.extract x y := by
  apply ByteArray.ext
  apply Array.ext'
  simp only [ByteArray.data_extract, ByteArray.data_append, Array.toList_extract, Array.toList_append, List.extract_eq_take_drop]
  have h1 : o ≤ s.data.toList.length := by simpa using ho
  apply List.ext_getElem?
  intro i
  simp only [List.getElem?_take, List.getElem?_drop]
  by_cases h : i < y - x
  · rw [if_pos h, if_pos h, List.getElem?_append_left (by simp; omega)]
    simp only [Nat.sub_zero, List.drop_zero, List.getElem?_take]
    rw [if_pos (by omega)]
  · rw [if_neg h, if_neg h]
theorem ext_back {s b : ByteArray} {o : Nat} (ho : o ≤ s.size) : (s.extract 0 o ++ b).extract o (o + b.size) = b := by
  have h1 : (s.extract 0 o).size = o := size_take _ _ ho
  apply ByteArray.ext
  apply Array.ext'
  have h2 : (s.extract 0 o).data.toList.length = o := by simpa using h1
  simp only [ByteArray.data_extract, ByteArray.data_append, Array.toList_extract, Array.toList_append, List.extract_eq_take_drop] at h2 ⊢
  rw [List.drop_append_of_le_length (by omega), List.drop_eq_nil_of_le (by omega), List.nil_append, List.take_of_length_le (by simp)]
/-- places and what was appended there -/
structure PlP (m : MS) (s : LS) (L : List (T3 × ByteArray)) : Prop where
  may : ∀ x ∈ L, mayB s.ac x.1 = true
  tell : ∀ x ∈ L, (m.at_ x.1.a.toNat).extract x.1.b.toNat (x.1.b + x.1.c).toNat = x.2
  disj : (L.map (·.1)).Pairwise Disj
theorem PlP.nil (m : MS) (s : LS) : PlP m s [] := ⟨(fun x h => by cases h), (fun x h => by cases h), List.Pairwise.nil⟩
/-- behind an append -/
theorem PlP.app {m : MS} {s : LS} {L : List (T3 × ByteArray)} {b : ByteArray} {j o : Nat} (h : PlP m s L) (hs : OkL s) (hi : InvM m s) (A : ApOn m s b j o) : PlP (putM m j o b) (rollU s j b.size) (L ++ [(⟨(j : Int), (o : Int), (b.size : Int)⟩, b)]) := by
  have hjs : j < m.segs.length := by rw [← hi.1]; exact A.jlt
  have old : ∀ x ∈ L, x.1.a.toNat = j → x.1.b + x.1.c ≤ (o : Int) := fun x hx e => by
    have := (mayB_iff.1 (h.may x hx)).2.2.2
    rw [e, A.use] at this
    omega
  refine ⟨fun x hx => ?_, fun x hx => ?_, ?_⟩
  · rcases List.mem_append.1 hx with hx | hx
    · have hm := mayB_iff.1 (h.may x hx)
      rw [mayB_iff, rollU_len, rollU_at hs A.jlt]
      refine ⟨hm.1, hm.2.1, hm.2.2.1, ?_⟩
      have := hm.2.2.2
      dsimp only
      split <;> omega
    · rw [List.mem_singleton.1 hx, mayB_iff, rollU_len, rollU_at hs A.jlt]
      have := A.jlt
      have := A.n
      have := A.use
      dsimp only
      rw [Int.toNat_natCast, if_pos rfl]
      exact ⟨⟨by omega, by omega⟩, by omega, by omega, by omega⟩
  · rcases List.mem_append.1 hx with hx | hx
    · rw [putM_at hjs]
      have hm := mayB_iff.1 (h.may x hx)
      split
      · rename_i e
        rw [← h.tell x hx, ← e]
        refine ext_front ?_ (by rw [e]; exact A.w)
        have := old x hx e
        omega
      · exact h.tell x hx
    · rw [List.mem_singleton.1 hx]
      dsimp only
      rw [Int.toNat_natCast, putM_at hjs, if_pos rfl, Int.toNat_natCast, show ((o : Int) + (b.size : Int)).toNat = o + b.size by omega]
      exact ext_back A.w
  · rw [List.map_append, List.pairwise_append]
    refine ⟨h.disj, List.pairwise_singleton _ _, fun p hp q hq => ?_⟩
    obtain ⟨x, hx, rfl⟩ := List.mem_map.1 hp
    rw [List.map_cons, List.map_nil, List.mem_singleton] at hq
    rw [hq]
    have hm := mayB_iff.1 (h.may x hx)
    by_cases e : x.1.a = (j : Int)
    · exact .inr (.inl (old x hx (by omega)))
    · exact .inl e
/-- those whose number is not r modulo 3 -/
def keepI {α : Type} (r : Nat) (l : List α) : Nat → List α
  | 0 => []
  | j + 1 => keepI r l j ++ (if j % 3 = r then [] else (l[j]?).toList)
theorem keepI_sub {α : Type} (r : Nat) (l : List α) : ∀ j, (keepI r l j).Sublist (l.take j)
  | 0 => List.Sublist.refl _
  | j + 1 => by
    rw [keepI, List.take_add_one]
    refine List.Sublist.append (keepI_sub r l j) ?_
    split
    · exact List.nil_sublist _
    · exact List.Sublist.refl _
theorem keepI_map {α β : Type} (f : α → β) (r : Nat) (l : List α) : ∀ j, keepI r (l.map f) j = (keepI r l j).map f
  | 0 => rfl
  | j + 1 => by
    rw [keepI, keepI, keepI_map f r l j, List.map_append, List.getElem?_map]
    split
    · rfl
    · cases l[j]? <;> rfl
theorem keepI_no {α : Type} {r : Nat} {l : List α} {j : Nat} (h : j % 3 = r) : keepI r l (j + 1) = keepI r l j := by rw [keepI, if_pos h, List.append_nil]
theorem keepI_yes {α : Type} {r : Nat} {l : List α} {j : Nat} (h : ¬ j % 3 = r) (hj : j < l.length) : keepI r l (j + 1) = keepI r l j ++ [l[j]] := by rw [keepI, if_neg h, List.getElem?_eq_getElem hj]; rfl
theorem keepI_len {α : Type} (r : Nat) (l : List α) (j : Nat) : (keepI r l j).length ≤ j := by
  have := (keepI_sub r l j).length_le
  rw [List.length_take] at this
  omega
/-- behind a settling of some of them -/
theorem PlP.settled {m : MS} {s : LS} {L L' : List (T3 × ByteArray)} (h : PlP m s L) (hL : L'.Sublist L) :
    ∃ ac', settledP s.ac (L'.map (·.1)) = some ac' ∧ PlP m ⟨s.o, ac'⟩ L' := by
  have hd : (L'.map (·.1)).Pairwise Disj := h.disj.sublist (hL.map _)
  have hm : (L'.map (·.1)).all (mayB s.ac) = true := by
    rw [List.all_eq_true]
    intro p hp
    obtain ⟨x, hx, rfl⟩ := List.mem_map.1 hp
    exact h.may x (hL.subset hx)
  obtain ⟨ac', hs⟩ : ∃ ac', settledP s.ac (L'.map (·.1)) = some ac' := ⟨_, by unfold settledP; exact if_pos ⟨hm, hd⟩⟩
  obtain ⟨e, _, ha⟩ := settled_at hs
  refine ⟨ac', hs, fun x hx => ?_, fun x hx => h.tell x (hL.subset hx), hd⟩
  have hmx := mayB_iff.1 (h.may x (hL.subset hx))
  show mayB ac' x.1 = true
  rw [mayB_iff, e, ha _ (by omega)]
  have h1 : ∀ p ∈ L'.map (·.1), 1 ≤ p.c := fun p hp => (mayB_iff.1 (List.all_eq_true.1 hm p hp)).2.2.1
  rw [free_no (fun hf => (liveIn_pos h1).1 hf.2 x.1 (List.mem_map_of_mem hx) rfl)]
  exact hmx
theorem PlP.kind {m : MS} {s : LS} {L : List (T3 × ByteArray)} (h : PlP m s L) (hs : OkL s) {x : T3 × ByteArray} (hx : x ∈ L) : ∃ i o n : Nat, x.1 = ⟨(i : Int), (o : Int), (n : Int)⟩ ∧ i < s.ac.length ∧ (at3 s.ac i).a ≠ 1 ∧ ((o + n : Nat) : Int) ≤ (at3 s.ac i).b ∧ x.2 = (m.at_ i).extract o (o + n) := by
  have hm := mayB_iff.1 (h.may x hx)
  have ht := h.tell x hx
  obtain ⟨⟨a, b, c⟩, t⟩ := x
  simp only at hm ht ⊢
  obtain ⟨i, rfl⟩ := Int.eq_ofNat_of_zero_le hm.1.1
  obtain ⟨o, rfl⟩ := Int.eq_ofNat_of_zero_le hm.2.1
  obtain ⟨n, rfl⟩ := Int.eq_ofNat_of_zero_le (show 0 ≤ c by omega)
  simp only [Int.toNat_natCast] at hm ht
  refine ⟨i, o, n, rfl, by omega, fun e => ?_, by omega, ?_⟩
  · have := (hs.free i (by omega) e).1
    omega
  · rw [← ht]
    congr 1
section
variable {ops : Array Oper} {rest : List Oper} {o : Oper} {a : Act} {Q : Exit → Act → World → Prop}
/-- append of one place -/
theorem wp_pl (hgd : o.guard = none) (s x : Operand) (ho : o.op = .call { callee := .builtin .append, args := #[s, x], argTypes := #[82, 82] })
    {w : World} {v : Value} {l : List T3} {e : T3} {n : Nat} (hn : n = l.length) (hown : w.ownsRow 0 95 3 v n (cellsJ l)) (hs : a.eval s = v) {q : Nat} (hx : a.eval x = .slice (some ⟨q, 0, none⟩) 1 1) (hqz : q = w.heap.size) (hlen : (n + 1) * 24 ≤ 140737488355328)
    (h : ∀ v' w', w'.ownsRow 0 95 3 v' (l ++ [e]).length (cellsJ (l ++ [e])) → Keep (fun g => v.ownBlock = some g) w w' → (∀ g, v'.ownBlock = some g → v.ownBlock = some g ∨ (w.heap.size ≤ g ∧ g < w'.heap.size)) → w.heap.size + 1 ≤ w'.heap.size → wpList Try.prog ops Q rest (a.put o.dst v') w') :
    wpList Try.prog ops Q (o :: rest) a (w.alloc (.cells #[.int .i64 e.a, .int .i64 e.b, .int .i64 e.c] 95)) := by
  subst hn
  obtain ⟨i0, hi0, hz0, hz1, hz2⟩ := @info_parts _ _ _ _ _ infoPl
  refine wpList_put1 Try.underlying82 hi0 hz0 hz1 hz2 rfl (by decide) hgd s x ho hown hs rfl (by intro u hu; simp at hu; rcases hu with rfl | rfl | rfl <;> rfl) hx hqz hlen (by unfold maxLen; omega) ?_
  intro v' w' h1 h2 h3 h4
  refine h v' w' ?_ h2 h3 h4
  rw [List.length_append, cellsJ_app]
  exact h1
theorem infoSt : (Try.prog.info? 9).map (fun i => (i.zero, i.size, i.bytes)) = some (some (.string ⟨#[]⟩), 1, 16) := by kernel_rfl
/-- append of one text -/
theorem wp_tx (hgd : o.guard = none) (s x : Operand) (ho : o.op = .call { callee := .builtin .append, args := #[s, x], argTypes := #[90, 90] })
    {w : World} {v : Value} {l : List ByteArray} {e : ByteArray} {n : Nat} (hn : n = l.length) (hown : w.ownsRow 0 9 1 v n (sts l)) (hs : a.eval s = v) {q : Nat} (hx : a.eval x = .slice (some ⟨q, 0, none⟩) 1 1) (hqz : q = w.heap.size) (hlen : (n + 1) * 16 ≤ 140737488355328)
    (h : ∀ v' w', w'.ownsRow 0 9 1 v' (l ++ [e]).length (sts (l ++ [e])) → Keep (fun g => v.ownBlock = some g) w w' → (∀ g, v'.ownBlock = some g → v.ownBlock = some g ∨ (w.heap.size ≤ g ∧ g < w'.heap.size)) → w.heap.size + 1 ≤ w'.heap.size → wpList Try.prog ops Q rest (a.put o.dst v') w') :
    wpList Try.prog ops Q (o :: rest) a (w.alloc (.cells #[.string e] 9)) := by
  subst hn
  obtain ⟨i0, hi0, hz0, hz1, hz2⟩ := @info_parts _ _ _ _ _ infoSt
  refine wpList_put1 Try.underlying90 hi0 hz0 hz1 hz2 rfl (by decide) hgd s x ho hown hs rfl (by intro u hu; simp at hu; rcases hu with rfl; rfl) hx hqz hlen (by unfold maxLen; omega) ?_
  intro v' w' h1 h2 h3 h4
  refine h v' w' ?_ h2 h3 h4
  rw [List.length_append, sts_append]
  exact h1
end
end Go.Proofs.Ythmamlghmagmkaa.segs
