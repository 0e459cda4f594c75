/- A secret put among others, step by step: pure. -/
import Derived.Test.YtchghlbiongccaaKLsB
import Derived.Test.YtchghlbiongccaaKTrE


namespace Go.Proofs.Ytchghlbiongccaa.trees
set_option linter.unusedVariables false
set_option linter.unusedSimpArgs false
open Go.RowKit Go.Shelf Go.Proofs.Ytchghlbiongccaa.base Go.Proofs.Ytchghlbiongccaa.quotas Go.Proofs.Ytchghlbiongccaa.vers Go.Proofs.Ytchghlbiongccaa.nodes

/-- where x belongs; where what stands behind it begins -/
def innK (l : List E) (x : E) : Nat := lbP (l.map (·.s)) x.s
def innD (l : List E) (x : E) : Nat := if (l.map (·.s))[innK l x]? = some x.s then innK l x + 1 else innK l x
def withE (l : List E) (x : E) : List E := l.take (innK l x) ++ x :: l.drop (innD l x)
theorem withE_p (l : List E) (x : E) : (withE l x).map pe = withP (l.map pe) (pe x) := by
  unfold withE withP innD innK
  rw [pe_map, List.map_append, List.map_cons, List.map_take, List.map_drop]
  rfl
/-- the first j of l, with x among them once its place is passed -/
def inn (l : List E) (x : E) (j : Nat) : List E := if j ≤ innK l x then l.take j else l.take (innK l x) ++ x :: (l.take j).drop (innD l x)
theorem inn_zero (l : List E) (x : E) : inn l x 0 = [] := by unfold inn; rw [if_pos (Nat.zero_le _)]; rfl
theorem innK_le (l : List E) (x : E) : innK l x ≤ l.length := by have := lbP_le (l.map (·.s)) x.s; simpa [innK] using this
theorem innD_le (l : List E) (x : E) : innK l x ≤ innD l x ∧ innD l x ≤ innK l x + 1 := by unfold innD; split <;> omega
section
variable {l : List E} {x : E} {j : Nat}
theorem inn_lt (hI : Inc (l.map (·.s))) (hj : j < l.length) (h : j < innK l x) : ltS l[j].s x.s = true ∧ inn l x (j + 1) = inn l x j ++ [l[j]] := by
  refine ⟨?_, ?_⟩
  · have h1 := (inc_cut (s := x.s) hI).1
    refine h1 _ ?_
    have : (l.map (·.s)).take (innK l x) = (l.take (innK l x)).map (·.s) := by rw [List.map_take]
    change l[j].s ∈ (l.map (·.s)).take (innK l x)
    rw [this]
    refine List.mem_map.2 ⟨l[j], ?_, rfl⟩
    rw [List.mem_take_iff_getElem]
    exact ⟨j, by omega, rfl⟩
  · unfold inn
    rw [if_pos (by omega), if_pos (by omega), List.take_succ_eq_append_getElem hj]
theorem inn_ge (hI : Inc (l.map (·.s))) (hj : j < l.length) (h : innK l x ≤ j) : ltS l[j].s x.s = false := by
  have h1 := (inc_cut (s := x.s) hI).2
  refine h1 _ ?_
  have : (l.map (·.s)).drop (innK l x) = (l.drop (innK l x)).map (·.s) := by rw [List.map_drop]
  change l[j].s ∈ (l.map (·.s)).drop (innK l x)
  rw [this]
  refine List.mem_map.2 ⟨l[j], ?_, rfl⟩
  rw [List.mem_drop_iff_getElem]
  exact ⟨j - innK l x, by omega, by simp only [show innK l x + (j - innK l x) = j by omega]⟩
theorem innD_eq (hj : innK l x < l.length) : innD l x = if l[innK l x].s = x.s then innK l x + 1 else innK l x := by
  unfold innD
  rw [List.getElem?_map, List.getElem?_eq_getElem hj]
  simp only [Option.map_some, Option.some.injEq]
theorem inn_eq (hj : innK l x < l.length) (h : l[innK l x].s = x.s) : inn l x (innK l x + 1) = inn l x (innK l x) ++ [x] := by
  have hd := innD_eq hj
  rw [if_pos h] at hd
  unfold inn
  rw [if_neg (by omega), if_pos (Nat.le_refl _), hd, List.drop_eq_nil_of_le (by rw [List.length_take]; omega)]
theorem inn_ne (hj : innK l x < l.length) (h : l[innK l x].s ≠ x.s) : inn l x (innK l x + 1) = (inn l x (innK l x) ++ [x]) ++ [l[innK l x]] := by
  have hd := innD_eq hj
  rw [if_neg h] at hd
  unfold inn
  rw [if_neg (by omega), if_pos (Nat.le_refl _), hd, List.take_succ_eq_append_getElem hj, List.drop_append]
  rw [List.drop_eq_nil_of_le (by rw [List.length_take]; omega), List.length_take, Nat.min_eq_left (by omega), Nat.sub_self, List.append_assoc]
  rfl
theorem inn_gt (hI : Inc (l.map (·.s))) (hj : j < l.length) (h : innK l x < j) : l[j].s ≠ x.s ∧ inn l x (j + 1) = inn l x j ++ [l[j]] := by
  have hd := innD_le l x
  refine ⟨fun e => ?_, ?_⟩
  · have hk : innK l x < l.length := by omega
    have h1 := inn_ge hI hk (Nat.le_refl _)
    have h2 : ltS l[innK l x].s l[j].s = true := by
      have := (List.pairwise_iff_getElem.1 hI) (innK l x) j (by simpa using hk) (by simpa using hj) h
      simpa using this
    rw [e] at h2
    rw [h1] at h2
    cases h2
  · unfold inn
    rw [if_neg (by omega), if_neg (by omega), List.take_succ_eq_append_getElem hj, List.drop_append]
    have : innD l x - (l.take j).length = 0 := by rw [List.length_take]; omega
    rw [this, List.drop_zero, List.append_assoc, List.cons_append]
theorem inn_end (h : innK l x < l.length) : inn l x l.length = withE l x := by
  unfold inn withE
  rw [if_neg (by omega), List.take_length]
theorem inn_end' (h : innK l x = l.length) : withE l x = inn l x l.length ++ [x] := by
  have hd := innD_le l x
  unfold inn withE
  rw [if_pos (by omega), h, List.take_length, List.drop_eq_nil_of_le (by omega)]
theorem inn_len (l : List E) (x : E) (j : Nat) : (inn l x j).length ≤ j + 1 := by
  have hd := innD_le l x
  unfold inn
  split
  · rw [List.length_take]; omega
  · rw [List.length_append, List.length_cons, List.length_drop, List.length_take, List.length_take]; omega
theorem inn_mem {y : E} (h : y ∈ inn l x j) : y = x ∨ y ∈ l := by
  unfold inn at h
  split at h
  · exact .inr (List.mem_of_mem_take h)
  · rcases List.mem_append.1 h with h | h
    · exact .inr (List.mem_of_mem_take h)
    · rcases List.mem_cons.1 h with h | h
      · exact .inl h
      · exact .inr (List.mem_of_mem_take (List.mem_of_mem_drop h))
theorem withE_mem {y : E} (h : y ∈ withE l x) : y = x ∨ y ∈ l := by
  unfold withE at h
  rcases List.mem_append.1 h with h | h
  · exact .inr (List.mem_of_mem_take h)
  · rcases List.mem_cons.1 h with h | h
    · exact .inl h
    · exact .inr (List.mem_of_mem_drop h)
end
/-- the first i put in, one behind the other -/
def growE (l : List E) : Nat → List E
  | 0 => []
  | i + 1 => match l[i]? with
    | some x => withE (growE l i) x
    | none => growE l i
theorem growE_next {l : List E} {i : Nat} (h : i < l.length) : growE l (i + 1) = withE (growE l i) l[i] := by
  rw [growE, List.getElem?_eq_getElem h]
theorem growE_inc (l : List E) : ∀ i, Inc ((growE l i).map (·.s))
  | 0 => List.Pairwise.nil
  | i + 1 => by
    have ih := growE_inc l i
    rw [growE]
    split
    · rename_i x hx
      have h1 := withP_inc (L := (growE l i).map pe) (x := pe x) (by unfold nm; rw [pe_map]; exact ih)
      rw [← withE_p] at h1
      unfold nm at h1
      rw [pe_map] at h1
      exact h1
    · exact ih
theorem growE_len (l : List E) : ∀ i, (growE l i).length ≤ i
  | 0 => Nat.le_refl _
  | i + 1 => by
    have ih := growE_len l i
    rw [growE]
    split
    · rename_i x hx
      have h1 := (withP_len ((growE l i).map pe) (pe x)).2.1
      rw [← withE_p] at h1
      simp only [List.length_map] at h1
      omega
    · omega
theorem growE_mem {l : List E} {y : E} : ∀ i, y ∈ growE l i → y ∈ l
  | 0, h => by cases h
  | i + 1, h => by
    rw [growE] at h
    split at h
    · rename_i x hx
      rcases withE_mem h with rfl | h
      · exact List.mem_of_getElem? hx
      · exact growE_mem i h
    · exact growE_mem i h
end Go.Proofs.Ytchghlbiongccaa.trees

/- Texts in a list; prefixes; list.begins, list.names. -/

namespace Go.Proofs.Ytchghlbiongccaa.trees
set_option linter.unusedVariables false
set_option linter.unusedSimpArgs false
open Go.RowKit Go.Shelf Go.Proofs.Ytchghlbiongccaa.base Go.Proofs.Ytchghlbiongccaa.quotas Go.Proofs.Ytchghlbiongccaa.vers Go.Proofs.Ytchghlbiongccaa.nodes

abbrev bn (s : ByteArray) : List UInt8 := s.data.toList
def sts (l : List ByteArray) : List Value := l.map .string
theorem sts_append (l m : List ByteArray) : sts (l ++ m) = sts l ++ sts m := by simp [sts]
theorem info9 : (Try.prog.info? 9).map (fun i => (i.zero, i.size, i.bytes)) = some (some (.string ⟨#[]⟩), 1, 16) := by kernel_rfl
/-- the slice (A, l.length, c) holds the texts l, below block B -/
def Ts (w : World) (B : Nat) (l : List ByteArray) (A : Option Addr) (c : Nat) : Prop := l.length ≤ c ∧ l.length * 16 ≤ 140737488355328 ∧ (A = none → c = 0) ∧ Rd w B A (sts l) ∧ ∀ x ∈ l, x.size ≤ maxLen
section
variable {w w' : World} {B B' : Nat} {l : List ByteArray} {A : Option Addr} {c : Nat}
theorem Ts.below (h : Ts w B l A c) (hb : Below B w w') : Ts w' B l A c := ⟨h.1, h.2.1, h.2.2.1, h.2.2.2.1.keep fun _ hp => hb.cell hp, h.2.2.2.2⟩
theorem Ts.more (h : Ts w B l A c) (hB : B ≤ B') : Ts w B' l A c := ⟨h.1, h.2.1, h.2.2.1, h.2.2.2.1.more hB, h.2.2.2.2⟩
theorem Ts.at_world {wr : World} (h : Ts w w.heap.size l A c) (hb : Below w.heap.size w wr) : Ts wr wr.heap.size l A c := (h.below hb).more hb.size
theorem Ts.nil (w : World) (B : Nat) : Ts w B [] none 0 := ⟨Nat.le_refl _, by simp, fun _ => rfl, Rd.nil _ _ _, fun x h => by cases h⟩
theorem sts_at (l : List ByteArray) {j : Nat} (hj : j < l.length) : (sts l)[j]? = some (.string l[j]) := by simp [sts, hj]
theorem Ts.at_ (h : Ts w B l A c) {j : Nat} (hj : j < l.length) : ∃ b off, A = some ⟨b, off, none⟩ ∧ b < B ∧ w.cell? ⟨b, off + j, none⟩ = some (.string l[j]) := by
  obtain ⟨b, off, e, hb, c0⟩ := h.2.2.2.1 _ _ (sts_at l hj)
  exact ⟨b, off, e, hb, c0⟩
theorem Ts.keep {S : Nat → Prop} (h : Ts w B l A c) (hk : Keep S w w') (hB : B ≤ w.heap.size) (hne : ∀ b off, A = some ⟨b, off, none⟩ → ¬ S b) : Ts w' B l A c :=
  ⟨h.1, h.2.1, h.2.2.1, fun j u hj => by
    obtain ⟨b, off, e, hb, hc⟩ := h.2.2.2.1 j u hj
    exact ⟨b, off, e, hb, (hk.cell (p := ⟨b, off + j, none⟩) (Nat.lt_of_lt_of_le hb hB) (hne b off e)).trans hc⟩, h.2.2.2.2⟩
end

def hasP (s t : ByteArray) : Bool := decide ((t.size : Int) ≤ (s.size : Int)) && ((s.extract 0 t.size).toList == t.toList)
theorem hasP_eq2 (s t : ByteArray) : hasP s t = (decide ((t.size : Int) ≤ (s.size : Int)) && ((s.extract 0 t.size).toList == t.toList)) := rfl

set_option maxRecDepth 100000 in
set_option maxHeartbeats 4000000 in
theorem slite_any (s t : ByteArray) (w : World) :
    Calls Try.prog 136 #[.string s, .string t] w fun e w' => e = .returned (.bool (hasP s t)) ∧ w' = w := by
  have he := hasP_eq2 s t
  have HE := vers.lay he
  clear he
  by_cases h : t.size ≤ s.size
  · have d1 : decide ((t.size : Int) ≤ (s.size : Int)) = true := decide_eq_true (by omega)
    have d2 : decide (t.size ≤ s.size) = true := decide_eq_true h
    have HH := vers.lay h
    go_enter Try.func136, Try.ntmps136
    go_wp2_with fail
    all_goals first | (exfalso; omega) | skip
    go_ret
    exact ⟨by rw [HE.out, d1]; simp, rfl⟩
  · have d1 : decide ((t.size : Int) ≤ (s.size : Int)) = false := decide_eq_false (by omega)
    have d2 : decide (t.size ≤ s.size) = false := decide_eq_false h
    go_enter Try.func136, Try.ntmps136
    go_wp2_with fail
    all_goals first | (exfalso; omega) | skip
    go_ret
    exact ⟨by rw [HE.out, d1]; simp, rfl⟩

set_option maxRecDepth 100000 in
set_option maxHeartbeats 4000000 in
theorem refBegins_any (s t : ByteArray) (w : World) :
    Calls Try.prog 106 #[.string s, .string t] w fun e w' => e = .returned (.bool (hasP s t)) ∧ w' = w := by
  have he := hasP_eq2 s t
  have HE := vers.lay he
  clear he
  by_cases h : t.size ≤ s.size
  · have d1 : decide ((t.size : Int) ≤ (s.size : Int)) = true := decide_eq_true (by omega)
    have d2 : decide (t.size ≤ s.size) = true := decide_eq_true h
    have HH := vers.lay h
    go_enter Try.func106, Try.ntmps106
    go_wp2_with fail
    all_goals first | (exfalso; omega) | skip
    go_ret
    exact ⟨by rw [HE.out, d1]; simp, rfl⟩
  · have d1 : decide ((t.size : Int) ≤ (s.size : Int)) = false := decide_eq_false (by omega)
    have d2 : decide (t.size ≤ s.size) = false := decide_eq_false h
    go_enter Try.func106, Try.ntmps106
    go_wp2_with fail
    all_goals first | (exfalso; omega) | skip
    go_ret
    exact ⟨by rw [HE.out, d1]; simp, rfl⟩

set_option maxRecDepth 100000 in
set_option maxHeartbeats 4000000 in
theorem hasPrefix_any (s t : ByteArray) (w : World) :
    Calls Try.prog 105 #[.string s, .string t] w fun e w' => e = .returned (.bool (hasP s t)) ∧ w' = w := by
  have hc := slite_any s t w
  generalize hasP s t = b at hc ⊢
  go_enter Try.func105, Try.ntmps105
  go_wp2_with fail
  refine hc.mono ?_
  rintro e w' ⟨rfl, rfl⟩
  go_wp2_with fail
  go_ret
  exact ⟨rfl, rfl⟩

set_option maxRecDepth 100000 in
set_option maxHeartbeats 4000000 in
theorem beginsC_any (s t : ByteArray) (g : Nat) (w : World) (hc : w.cell? ⟨g, 0, none⟩ = some (.string s)) :
    Calls Try.prog 104 #[.string t, .pointer (some ⟨g, 0, none⟩)] w fun e w' => e = .returned (.bool (hasP s t)) ∧ w' = w := by
  go_enter Try.func104, Try.ntmps104
  go_wp2_with fail
  refine (hasPrefix_any s t w).mono ?_
  rintro e w' ⟨rfl, rfl⟩
  go_wp2_with fail
  go_ret
  exact ⟨rfl, rfl⟩

set_option maxRecDepth 100000 in
set_option maxHeartbeats 4000000 in
theorem index_any (s : ByteArray) (l : List ByteArray) (A : Option Addr) (c g : Nat) (w : World) (hT : Ts w w.heap.size l A c) (hc : w.cell? ⟨g, 0, none⟩ = some (.string s)) :
    Calls Try.prog 135 #[.slice A l.length c, (.func (.func 104) #[] #[.pointer (some ⟨g, 0, none⟩)])] w fun e w' => ∃ i : Int, e = .returned (.int .i64 i) ∧ decide (0 ≤ i) = l.any (hasP s) ∧ w' = w := by
  have hlen : l.length ≤ 140737488355328 := by have := hT.2.1; omega
  have hcl := fun t => beginsC_any s t g w hc
  go_enter Try.func135, Try.ntmps135
  go_wp2_with fail
  go_loopw [8] (fun i wr => ∃ j : Nat, j ≤ l.length ∧ i = .int .i64 (j : Int) ∧ wr = w ∧ Hid (l.any (hasP s) = (l.drop j).any (hasP s))) (fun i _ => l.length - (intOf i).toNat)
  case atStart => exact ⟨0, Nat.zero_le _, rfl, rfl, vers.lay rfl⟩
  case round =>
    obtain ⟨j, hj, rfl, rfl, hH⟩ := hrel
    by_cases hlt : j < l.length
    · obtain ⟨b, off, rfl, hb, e0⟩ := hT.at_ hlt
      have hH2 := vers.lay (hH.out.trans (by rw [List.drop_eq_getElem_cons hlt, List.any_cons]))
      clear hH
      have hcj := hcl l[j]
      generalize l[j] = t at e0 hcj hH2
      cases hp : hasP s t with
      | true =>
        rw [hp] at hcj
        have hH3 := vers.lay (hH2.out.trans (by rw [hp, Bool.true_or]))
        clear hH2 hp hcl
        go_wp2_with (first | (go_at_call 104; refine hcj.mono ?_; rintro e1 w1 ⟨rfl, rfl⟩))
        go_ret
        exact ⟨_, rfl, by rw [hH3.out]; simp, rfl⟩
      | false =>
        rw [hp] at hcj
        have hH3 := vers.lay (hH2.out.trans (by rw [hp, Bool.false_or]))
        clear hH2 hp hcl
        go_wp2_with (first | (go_at_call 104; refine hcj.mono ?_; rintro e1 w1 ⟨rfl, rfl⟩))
        exact ⟨⟨j + 1, hlt, by go_num, by trivial, hH3⟩, by first | (simp [intOf]; done) | (simp [intOf]; omega) | omega⟩
    · obtain rfl : j = l.length := by omega
      have hH3 := vers.lay (hH.out.trans (by rw [List.drop_length, List.any_nil]))
      clear hH
      go_wp2_with fail
      go_ret
      exact ⟨-1, rfl, by rw [hH3.out]; rfl, rfl⟩

set_option maxRecDepth 100000 in
set_option maxHeartbeats 4000000 in
theorem contains_any (s : ByteArray) (l : List ByteArray) (A : Option Addr) (c g : Nat) (w : World) (hT : Ts w w.heap.size l A c) (hc : w.cell? ⟨g, 0, none⟩ = some (.string s)) :
    Calls Try.prog 103 #[.slice A l.length c, (.func (.func 104) #[] #[.pointer (some ⟨g, 0, none⟩)])] w fun e w' => e = .returned (.bool (l.any (hasP s))) ∧ w' = w := by
  have hi := index_any s l A c g w hT hc
  generalize l.any (hasP s) = r at hi ⊢
  go_enter Try.func103, Try.ntmps103
  go_wp2_with fail
  refine hi.mono ?_
  rintro e w' ⟨i, rfl, hd, rfl⟩
  by_cases h0 : 0 ≤ i
  · have d0 := decide_eq_true h0
    go_wp2_with fail
    go_ret
    exact ⟨by rw [← hd, d0]; rfl, rfl⟩
  · have d0 := decide_eq_false h0
    go_wp2_with fail
    go_ret
    exact ⟨by rw [← hd, d0]; rfl, rfl⟩

set_option maxRecDepth 100000 in
set_option maxHeartbeats 4000000 in
theorem begins_any (s : ByteArray) (l : List ByteArray) (A : Option Addr) (c : Nat) (w : World) (hT : Ts w w.heap.size l A c) :
    Calls Try.prog 68 #[.string s, .slice A l.length c] w fun e w' => e = .returned (.bool (l.any (hasP s))) ∧ Below w.heap.size w w' := by
  have bA : Below w.heap.size w (w.alloc (.cells #[.string s] 9)) := (Below.refl _ _).alloc (Nat.le_refl _) _
  have k0 := (Blk.new w 9 #[.string s]).cell 0
  have hc := contains_any s l A c w.heap.size _ (hT.at_world bA) (by simp [k0])
  go_enter Try.func68, Try.ntmps68
  go_wp2_with fail
  refine hc.mono ?_
  rintro e w' ⟨rfl, rfl⟩
  go_wp2_with fail
  go_ret
  exact ⟨rfl, bA⟩

end Go.Proofs.Ytchghlbiongccaa.trees
