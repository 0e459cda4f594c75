/- A secret put among others, step by step: pure. -/
import Derived.Test.YtnndohdiiglgmaaKLsB
import Derived.Test.YtnndohdiiglgmaaKTrE


namespace Go.Proofs.Ytnndohdiiglgmaa.trees
set_option linter.unusedVariables false
set_option linter.unusedSimpArgs false
open Go.RowKit Go.Shelf Go.Proofs.Ytnndohdiiglgmaa.base Go.Proofs.Ytnndohdiiglgmaa.quotas Go.Proofs.Ytnndohdiiglgmaa.vers Go.Proofs.Ytnndohdiiglgmaa.nodes

/-- where x belongs; where what stands behind it begins -/
def innK (l : List E) (x : E) : Nat := lbP (l.map (·.s)) x.s
def innD (l : List E) (x : E) : Nat := if (l.map (·.s))[innK l x]? = some x.s then innK l x + 1 else innK l x
def withE (l : List E) (x : E) : List E := l.take (innK l x) ++ x :: l.drop (innD l x)
theorem withE_p (l : List E) (x : E) : (withE l x).map pe = withP (l.map pe) (pe x) := by
  unfold withE withP innD innK
  rw [pe_map, List.map_append, List.map_cons, List.map_take, List.map_drop]
  rfl
/-- the first j of l, with x among them once its place is passed -/
def inn (l : List E) (x : E) (j : Nat) : List E := if j ≤ innK l x then l.take j else l.take (innK l x) ++ x :: (l.take j).drop (innD l x)
theorem inn_zero (l : List E) (x : E) : inn l x 0 = [] := by unfold inn; rw [if_pos (Nat.zero_le _)]; rfl
theorem innK_le (l : List E) (x : E) : innK l x ≤ l.length := by have := lbP_le (l.map (·.s)) x.s; simpa [innK] using this
theorem innD_le (l : List E) (x : E) : innK l x ≤ innD l x ∧ innD l x ≤ innK l x + 1 := by unfold innD; split <;> omega
section
variable {l : List E} {x : E} {j : Nat}
theorem inn_lt (hI : Inc (l.map (·.s))) (hj : j < l.length) (h : j < innK l x) : ltS l[j].s x.s = true ∧ inn l x (j + 1) = inn l x j ++ [l[j]] := by
  refine ⟨?_, ?_⟩
  · have h1 := (inc_cut (s := x.s) hI).1
    refine h1 _ ?_
    have : (l.map (·.s)).take (innK l x) = (l.take (innK l x)).map (·.s) := by rw [List.map_take]
    change l[j].s ∈ (l.map (·.s)).take (innK l x)
    rw [this]
    refine List.mem_map.2 ⟨l[j], ?_, rfl⟩
    rw [List.mem_take_iff_getElem]
    exact ⟨j, by omega, rfl⟩
  · unfold inn
    rw [if_pos (by omega), if_pos (by omega), List.take_succ_eq_append_getElem hj]
theorem inn_ge (hI : Inc (l.map (·.s))) (hj : j < l.length) (h : innK l x ≤ j) : ltS l[j].s x.s = false := by
  have h1 := (inc_cut (s := x.s) hI).2
  refine h1 _ ?_
  have : (l.map (·.s)).drop (innK l x) = (l.drop (innK l x)).map (·.s) := by rw [List.map_drop]
  change l[j].s ∈ (l.map (·.s)).drop (innK l x)
  rw [this]
  refine List.mem_map.2 ⟨l[j], ?_, rfl⟩
  rw [List.mem_drop_iff_getElem]
  exact ⟨j - innK l x, by omega, by simp only [show innK l x + (j - innK l x) = j by omega]⟩
theorem innD_eq (hj : innK l x < l.length) : innD l x = if l[innK l x].s = x.s then innK l x + 1 else innK l x := by
  unfold innD
  rw [List.getElem?_map, List.getElem?_eq_getElem hj]
  simp only [Option.map_some, Option.some.injEq]
theorem inn_eq (hj : innK l x < l.length) (h : l[innK l x].s = x.s) : inn l x (innK l x + 1) = inn l x (innK l x) ++ [x] := by
  have hd := innD_eq hj
  rw [if_pos h] at hd
  unfold inn
  rw [if_neg (by omega), if_pos (Nat.le_refl _), hd, List.drop_eq_nil_of_le (by rw [List.length_take]; omega)]
theorem inn_ne (hj : innK l x < l.length) (h : l[innK l x].s ≠ x.s) : inn l x (innK l x + 1) = (inn l x (innK l x) ++ [x]) ++ [l[innK l x]] := by
  have hd := innD_eq hj
  rw [if_neg h] at hd
  unfold inn
  rw [if_neg (by omega), if_pos (Nat.le_refl _), hd, List.take_succ_eq_append_getElem hj, List.drop_append]
  rw [List.drop_eq_nil_of_le (by rw [List.length_take]; omega), List.length_take, Nat.min_eq_left (by omega), Nat.sub_self, List.append_assoc]
  rfl
theorem inn_gt (hI : Inc (l.map (·.s))) (hj : j < l.length) (h : innK l x < j) : l[j].s ≠ x.s ∧ inn l x (j + 1) = inn l x j ++ [l[j]] := by
  have hd := innD_le l x
  refine ⟨fun e => ?_, ?_⟩
  · have hk : innK l x < l.length := by omega
    have h1 := inn_ge hI hk (Nat.le_refl _)
    have h2 : ltS l[innK l x].s l[j].s = true := by
      have := (List.pairwise_iff_getElem.1 hI) (innK l x) j (by simpa using hk) (by simpa using hj) h
      simpa using this
    rw [e] at h2
    rw [h1] at h2
    cases h2
  · unfold inn
    rw [if_neg (by omega), if_neg (by omega), List.take_succ_eq_append_getElem hj, List.drop_append]
    have : innD l x - (l.take j).length = 0 := by rw [List.length_take]; omega
    rw [this, List.drop_zero, List.append_assoc, List.cons_append]
theorem inn_end (h : innK l x < l.length) : inn l x l.length = withE l x := by
  unfold inn withE
  rw [if_neg (by omega), List.take_length]
theorem inn_end' (h : innK l x = l.length) : withE l x = inn l x l.length ++ [x] := by
  have hd := innD_le l x
  unfold inn withE
  rw [if_pos (by omega), h, List.take_length, List.drop_eq_nil_of_le (by omega)]
theorem inn_len (l : List E) (x : E) (j : Nat) : (inn l x j).length ≤ j + 1 := by
  have hd := innD_le l x
  unfold inn
  split
  · rw [List.length_take]; omega
  · rw [List.length_append, List.length_cons, List.length_drop, List.length_take, List.length_take]; omega
theorem inn_mem {y : E} (h : y ∈ inn l x j) : y = x ∨ y ∈ l := by
  unfold inn at h
  split at h
  · exact .inr (List.mem_of_mem_take h)
  · rcases List.mem_append.1 h with h | h
    · exact .inr (List.mem_of_mem_take h)
    · rcases List.mem_cons.1 h with h | h
      · exact .inl h
      · exact .inr (List.mem_of_mem_take (List.mem_of_mem_drop h))
theorem withE_mem {y : E} (h : y ∈ withE l x) : y = x ∨ y ∈ l := by
  unfold withE at h
  rcases List.mem_append.1 h with h | h
  · exact .inr (List.mem_of_mem_take h)
  · rcases List.mem_cons.1 h with h | h
    · exact .inl h
    · exact .inr (List.mem_of_mem_drop h)
end
/-- the first i put in, one behind the other -/
def growE (l : List E) : Nat → List E
  | 0 => []
  | i + 1 => match l[i]? with
    | some x => withE (growE l i) x
    | none => growE l i
theorem growE_next {l : List E} {i : Nat} (h : i < l.length) : growE l (i + 1) = withE (growE l i) l[i] := by
  rw [growE, List.getElem?_eq_getElem h]
theorem growE_inc (l : List E) : ∀ i, Inc ((growE l i).map (·.s))
  | 0 => List.Pairwise.nil
  | i + 1 => by
    have ih := growE_inc l i
    rw [growE]
    split
    · rename_i x hx
      have h1 := withP_inc (L := (growE l i).map pe) (x := pe x) (by unfold nm; rw [pe_map]; exact ih)
      rw [← withE_p] at h1
      unfold nm at h1
      rw [pe_map] at h1
      exact h1
    · exact ih
theorem growE_len (l : List E) : ∀ i, (growE l i).length ≤ i
  | 0 => Nat.le_refl _
  | i + 1 => by
    have ih := growE_len l i
    rw [growE]
    split
    · rename_i x hx
      have h1 := (withP_len ((growE l i).map pe) (pe x)).2.1
      rw [← withE_p] at h1
      simp only [List.length_map] at h1
      omega
    · omega
theorem growE_mem {l : List E} {y : E} : ∀ i, y ∈ growE l i → y ∈ l
  | 0, h => by cases h
  | i + 1, h => by
    rw [growE] at h
    split at h
    · rename_i x hx
      rcases withE_mem h with rfl | h
      · exact List.mem_of_getElem? hx
      · exact growE_mem i h
    · exact growE_mem i h
end Go.Proofs.Ytnndohdiiglgmaa.trees

/- Texts in a list; prefixes; list.begins, list.names. -/

namespace Go.Proofs.Ytnndohdiiglgmaa.trees
set_option linter.unusedVariables false
set_option linter.unusedSimpArgs false
open Go.RowKit Go.Shelf Go.Proofs.Ytnndohdiiglgmaa.base Go.Proofs.Ytnndohdiiglgmaa.quotas Go.Proofs.Ytnndohdiiglgmaa.vers Go.Proofs.Ytnndohdiiglgmaa.nodes

abbrev bn (s : ByteArray) : List UInt8 := s.data.toList
def sts (l : List ByteArray) : List Value := l.map .string
theorem sts_append (l m : List ByteArray) : sts (l ++ m) = sts l ++ sts m := by simp [sts]
theorem info9 : (Try.prog.info? 9).map (fun i => (i.zero, i.size, i.bytes)) = some (some (.string ⟨#[]⟩), 1, 16) := by kernel_rfl
/-- the slice (A, l.length, c) holds the texts l, below block B -/
def Ts (w : World) (B : Nat) (l : List ByteArray) (A : Option Addr) (c : Nat) : Prop := l.length ≤ c ∧ l.length * 16 ≤ 140737488355328 ∧ (A = none → c = 0) ∧ Rd w B A (sts l) ∧ ∀ x ∈ l, x.size ≤ maxLen
section
variable {w w' : World} {B B' : Nat} {l : List ByteArray} {A : Option Addr} {c : Nat}
theorem Ts.below (h : Ts w B l A c) (hb : Below B w w') : Ts w' B l A c := ⟨h.1, h.2.1, h.2.2.1, h.2.2.2.1.keep fun _ hp => hb.cell hp, h.2.2.2.2⟩
theorem Ts.more (h : Ts w B l A c) (hB : B ≤ B') : Ts w B' l A c := ⟨h.1, h.2.1, h.2.2.1, h.2.2.2.1.more hB, h.2.2.2.2⟩
theorem Ts.at_world {wr : World} (h : Ts w w.heap.size l A c) (hb : Below w.heap.size w wr) : Ts wr wr.heap.size l A c := (h.below hb).more hb.size
theorem Ts.nil (w : World) (B : Nat) : Ts w B [] none 0 := ⟨Nat.le_refl _, by simp, fun _ => rfl, Rd.nil _ _ _, fun x h => by cases h⟩
theorem sts_at (l : List ByteArray) {j : Nat} (hj : j < l.length) : (sts l)[j]? = some (.string l[j]) := by simp [sts, hj]
theorem Ts.at_ (h : Ts w B l A c) {j : Nat} (hj : j < l.length) : ∃ b off, A = some ⟨b, off, none⟩ ∧ b < B ∧ w.cell? ⟨b, off + j, none⟩ = some (.string l[j]) := by
  obtain ⟨b, off, e, hb, c0⟩ := h.2.2.2.1 _ _ (sts_at l hj)
  exact ⟨b, off, e, hb, c0⟩
theorem Ts.keep {S : Nat → Prop} (h : Ts w B l A c) (hk : Keep S w w') (hB : B ≤ w.heap.size) (hne : ∀ b off, A = some ⟨b, off, none⟩ → ¬ S b) : Ts w' B l A c :=
  ⟨h.1, h.2.1, h.2.2.1, fun j u hj => by
    obtain ⟨b, off, e, hb, hc⟩ := h.2.2.2.1 j u hj
    exact ⟨b, off, e, hb, (hk.cell (p := ⟨b, off + j, none⟩) (Nat.lt_of_lt_of_le hb hB) (hne b off e)).trans hc⟩, h.2.2.2.2⟩
end

def hasP (s t : ByteArray) : Bool := decide ((t.size : Int) ≤ (s.size : Int)) && ((s.extract 0 t.size).toList == t.toList)
theorem hasP_eq2 (s t : ByteArray) : hasP s t = (decide ((t.size : Int) ≤ (s.size : Int)) && ((s.extract 0 t.size).toList == t.toList)) := rfl

end Go.Proofs.Ytnndohdiiglgmaa.trees
