/- The program's Atoms: all texts of the terms that are right, sorted, each once. -/
import Derived.Test.YtnkfboplafckoaaTexts
import Derived.Test.YtnkfboplafckoaaShelf
import Derived.Test.YtnkfboplafckoaaTermC
import Derived.Sort.OwnSorted
import Derived.Lib.RowBridge
import Derived.Test.YtnkfboplafckoaaNdAC
import Derived.Test.YtnkfboplafckoaaNdFI
import Derived.Test.YtnkfboplafckoaaNdM
import Derived.Sort.Walk0


namespace Go.Proofs.Ytnkfboplafckoaa.texts
set_option linter.unusedVariables false
set_option linter.unusedSimpArgs false
open Go.RowKit Go.Proofs.Ytnkfboplafckoaa.base Go.Proofs.Ytnkfboplafckoaa.tm Go.Proofs.Ytnkfboplafckoaa.lies Go.Proofs.Ytnkfboplafckoaa.rights Go.Proofs.Ytnkfboplafckoaa.encs

/-- texts as lists of bytes -/
def brs (l : List ByteArray) : List (List UInt8) := l.map (·.data.toList)
theorem sts_brs (l : List ByteArray) : sts l = (brs l).map encStr := by
  unfold sts brs
  rw [List.map_map]
  exact List.map_congr_left fun s _ => rfl
theorem brs_len (l : List ByteArray) : (brs l).length = l.length := by simp [brs]
/-- sorted -/
def srt (l : List (List UInt8)) : List (List UInt8) := l.mergeSort fun x y => decide (x ≤ y)
theorem srt_len (l : List (List UInt8)) : (srt l).length = l.length := by simp [srt]
/-- sorted, each once -/
def fin (l : List ByteArray) : List (List UInt8) := Lib.compact (srt (brs l))
theorem fin_len (l : List ByteArray) : (fin l).length ≤ l.length := by
  have := Lib.compact_length_le (srt (brs l))
  rw [srt_len, brs_len] at this
  exact this

/-- the slice v of texts ts, in a block from lo on -/
def Txt (w : World) (lo : Nat) (v : Value) (ts : List (List UInt8)) : Prop :=
  ∃ A c, v = .slice A ts.length c ∧ ts.length ≤ 140737488355328 ∧ ∀ j (h : j < ts.length), ∃ g, A = some ⟨g, 0, none⟩ ∧ lo ≤ g ∧ g < w.heap.size ∧ w.cell? ⟨g, j, none⟩ = some (encStr ts[j])
theorem Txt.below {w w' : World} {lo : Nat} {v : Value} {ts : List (List UInt8)} (h : Txt w lo v ts) (hb : Below w.heap.size w w') : Txt w' lo v ts := by
  obtain ⟨A, c, e, hl, h⟩ := h
  refine ⟨A, c, e, hl, fun j hj => ?_⟩
  obtain ⟨g, h1, h2, h3, h4⟩ := h j hj
  exact ⟨g, h1, h2, Nat.lt_of_lt_of_le h3 hb.size, (hb.cell (p := ⟨g, j, none⟩) h3).trans h4⟩
theorem Txt.alloc {w : World} {lo : Nat} {v : Value} {ts : List (List UInt8)} (h : Txt w lo v ts) (o : Obj) : Txt (w.alloc o) lo v ts := h.below ((Below.refl _ _).alloc (Nat.le_refl _) o)

/-- what Sort leaves -/
theorem sort_any {B : Nat} {W w : World} {v : Value} {l : List ByteArray} (hE : ExtS B W w v l) (hB : B ≤ w.heap.size) (hl : l.length ≤ 140737488355328) :
    Calls Try.prog 23 #[v] w fun e w' => e = .returned (.tuple #[]) ∧ Below B W w' ∧ w.heap.size ≤ w'.heap.size ∧ w'.ownsRow B 9 1 v (srt (brs l)).length ((srt (brs l)).map encStr) := by
  have hs : (srt (brs l)).length = l.length := by rw [srt_len, brs_len]
  rcases hE.own.2 with ⟨rfl, h0⟩ | ⟨g, cap, cur, rfl, hbase, hb, h1, h2, h3, h4⟩
  · refine (Try.slices_Sort_string_none none 0 w).mono ?_
    rintro e w' ⟨rfl, rfl⟩
    have e0 : srt (brs l) = [] := List.eq_nil_of_length_eq_zero (by omega)
    exact ⟨rfl, hE.below, Nat.le_refl _, by rw [e0]; exact ⟨rfl, .inl ⟨rfl, rfl⟩⟩⟩
  · have ht : cur.toList.take (brs l).length = (brs l).map encStr := by rw [← sts_brs, ← h4, brs_len, Nat.mul_one]
    have hg := (Array.getElem?_eq_some_iff.1 hb).1
    have hc := Try.slices_Sort_string g 0 cap (brs l) w (holds_of_block hb ht) hg (by rw [brs_len]; omega)
    rw [brs_len] at hc
    refine hc.mono ?_
    rintro e w' ⟨rfl, n, os, rfl⟩
    have ho := ownsRow_sorted (base := B) (n := n) (os := os) (ss := brs l) (ts := srt (brs l)) (by rw [srt_len]) hbase hb (by rw [brs_len]; exact h1) h2 h3
    rw [brs_len] at ho
    rw [hs]
    refine ⟨rfl, hE.below.grown (grownBy_sorted (n := n) (os := os) (srt (brs l)).toArray) hB (fun k hk => ?_), by simp, ho⟩
    injection hk with hk
    omega

/-- what Compact leaves -/
theorem compact_any {B : Nat} {W w : World} {v : Value} {zs : List (List UInt8)} (hb0 : Below B W w) (hB : B ≤ w.heap.size) (ho : w.ownsRow B 9 1 v zs.length (zs.map encStr)) (hl : zs.length ≤ 140737488355328) :
    Calls Try.prog 24 #[v] w fun e w' => ∃ v', e = .returned v' ∧ Below B W w' ∧ w.heap.size ≤ w'.heap.size ∧ Txt w' B v' (Lib.compact zs) := by
  rcases ho.2 with ⟨rfl, h0⟩ | ⟨g, cap, cur, rfl, hbase, hb, h1, h2, h3, h4⟩
  · refine (Try.slices_Compact_string_empty none 0 w).mono ?_
    rintro e w' ⟨rfl, rfl⟩
    obtain rfl : zs = [] := List.eq_nil_of_length_eq_zero h0
    exact ⟨_, rfl, hb0, Nat.le_refl _, none, 0, rfl, Nat.zero_le _, fun j hj => absurd hj (Nat.not_lt_zero _)⟩
  · have ht : cur.toList.take zs.length = zs.map encStr := by rw [← h4, Nat.mul_one]
    have hg := (Array.getElem?_eq_some_iff.1 hb).1
    have hH := holds_of_block hb ht
    refine (Try.slices_Compact_string g 0 cap zs w hH (by omega) h1).mono ?_
    rintro e w' ⟨rfl, q, rfl⟩
    have hle := Lib.compact_length_le zs
    have hgr := grownBy_sorted (w := w) (g := g) (n := q) (os := #[]) (Lib.compact zs ++ List.replicate (zs.length - (Lib.compact zs).length) []).toArray
    rw [Sort.grow_empty] at hgr
    refine ⟨_, rfl, hb0.grown hgr hB (fun k hk => by injection hk with hk; omega), by simp, some ⟨g, 0, none⟩, cap, rfl, by omega, fun j hj => ⟨g, rfl, hbase, by simpa using hg, ?_⟩⟩
    have := Sort.cell?_putRow encStr (Sort.ahead w q) g 0 zs.toArray (Lib.compact zs ++ List.replicate (zs.length - (Lib.compact zs).length) []).toArray (Sort.holds_ahead _ _ _ _ _ _ hH) (by simp; omega) j (by simp; omega)
    rw [Nat.zero_add] at this
    rw [this]
    simp
    rw [List.getElem?_append_left hj, List.getElem?_eq_getElem hj]
    rfl

/-- the atoms of those that are right, one behind the other -/
def allOf : List T → List ByteArray
  | [] => []
  | t :: l => (if t.right = 0 then atoms t else []) ++ allOf l
theorem allOf_take (l : List T) (j : Nat) (h : j < l.length) : allOf (l.take (j + 1)) = allOf (l.take j) ++ (if l[j].right = 0 then atoms l[j] else []) := by
  induction l generalizing j with
  | nil => simp at h
  | cons t l ih =>
    cases j with
    | zero => simp [allOf]
    | succ j => simp only [List.take_succ_cons, allOf, List.getElem_cons_succ, List.append_assoc]; rw [ih j (by simpa using h)]
theorem allOf_le (l : List T) (j : Nat) : (allOf (l.take j)).length ≤ (allOf l).length := by
  induction l generalizing j with
  | nil => simp
  | cons t l ih =>
    cases j with
    | zero => simp [allOf]
    | succ j => simp only [List.take_succ_cons, allOf, List.length_append]; have := ih j; omega

theorem ExtS.quiet {B : Nat} {W w1 w2 : World} {u : Value} {l : List ByteArray} (h : ExtS B W w1 u l) (hB : B ≤ w1.heap.size) (hb : Below w1.heap.size w1 w2) : ExtS B W w2 u l := by
  refine ⟨⟨h.own.1, ?_⟩, h.below.trans (hb.mono hB), fun g T cs hT hk => (h.kept g T cs hT hk).below hb (h.kept g T cs hT hk).lt⟩
  rcases h.own.2 with h0 | ⟨g, cap, cur, e, hbase, hh, h1, h2, h3, h4⟩
  · exact .inl h0
  · have hg := (Array.getElem?_eq_some_iff.1 hh).1
    exact .inr ⟨g, cap, cur, e, hbase, (hb.block g hg).trans hh, h1, h2, h3, h4⟩

/-- at the loop's head -/
def LHead (B : Nat) (W : World) (l : List T) (u i : Value) (wr : World) : Prop :=
  ∃ j : Nat, j ≤ l.length ∧ i = .int .i64 j ∧ W.heap.size ≤ wr.heap.size ∧ ExtS B W wr u (allOf (l.take j))

set_option maxRecDepth 100000 in
set_option maxHeartbeats 800000 in
theorem atoms_any (l : List T) (A : Option Addr) (c : Nat) (xs : List Value) (w : World) (hlc : l.length ≤ c) (hlen : l.length * 56 ≤ 140737488355328) (hr : Rd w w.heap.size A xs) (hl : LiesL w w.heap.size l xs) (hN : ((allOf l).length + 4000) * 16 ≤ 140737488355328) :
    Calls Try.prog 7 #[.slice A l.length c] w fun e w' => ∃ v, e = .returned v ∧ Below w.heap.size w w' ∧ Txt w' w.heap.size v (fin (allOf l)) := by
  go_enter Try.func7, Try.ntmps7
  go_wp2_with fail
  go_loopw [3, 8] (fun u i wr => LHead w.heap.size w l u i wr) (fun _ i _ => l.length - (intOf i).toNat)
  case atStart => exact ⟨0, Nat.zero_le _, rfl, Nat.le_refl _, ExtS.nil _ _⟩
  case round =>
    obtain ⟨j, hj, rfl, hsz, hEj⟩ := hrel
    by_cases hlt : j < l.length
    · obtain ⟨b0, off, A', c', rfl, hbl, hv, c0, c1, c2, c3⟩ := at_cells (hr.below hEj.below) (hl.below hEj.below) hlt
      have hle := allOf_le l j
      have hTk := lay (allOf_take l j hlt)
      have hv1 := (hv.now hsz).later (Nat.le_refl _) (.cells #[.int .i64 l[j].k, .int .u64 l[j].n, .string l[j].s, .slice A' l[j].l.length c'] 31)
      have hcall := adds.right_any l[j] _ _ hv1
      have hE1 := hEj.alloc hsz (.cells #[.int .i64 l[j].k, .int .u64 l[j].n, .string l[j].s, .slice A' l[j].l.length c'] 31)
      have hbox := Blk.new wr 31 #[.int .i64 l[j].k, .int .u64 l[j].n, .string l[j].s, .slice A' l[j].l.length c']
      by_cases hR : l[j].right = 0
      · obtain ⟨hsize, _, _⟩ := right_ok hR
        rw [hR] at hcall
        have HR := lay hR
        clear hR
        go_wp2_with (first
          | (go_at_call 21; refine hcall.mono ?_; rintro e w1 ⟨rfl, hb1⟩; have hb1' := hb1; have hE2 := hE1.quiet (by simp; omega) hb1; have hk1 := hbox.below hb1 (by simp); have y0 := hk1.cell 0; have y1 := hk1.cell 1; have y2 := hk1.cell 2; have y3 := hk1.cell 3; simp at y0 y1 y2 y3; have hsz1 : wr.heap.size < w1.heap.size := by { have := hb1.size; simp at this; omega })
          | (go_at_call 22; refine (append_any l[j].size l[j] _ _ _ w.heap.size _ _ (Nat.le_refl _) ((hv.alloc (by omega) _).below (hb1.mono (by simp; omega))) (by omega) hE2 (by omega)).mono ?_; rintro e w4 ⟨v4, rfl, hE4, hsz4⟩))
        exact ⟨⟨j + 1, hlt, by go_num, by omega, by rw [hTk.out, if_pos HR.out]; exact hE4⟩, by simp [intOf]; omega⟩
      · have d1 : (l[j].right == 0) = false := by simpa using hR
        have HR := lay hR
        clear hR
        go_wp2_with (go_at_call 21; refine hcall.mono ?_; rintro e w1 ⟨rfl, hb1⟩; have hE2 := hE1.quiet (by simp; omega) hb1; have hsz1 : wr.heap.size < w1.heap.size := by { have := hb1.size; simp at this; omega })
        exact ⟨⟨j + 1, hlt, by go_num, by omega, by rw [hTk.out, if_neg HR.out, List.append_nil]; exact hE2⟩, by simp [intOf]; omega⟩
    · have hjl : l.take j = l := List.take_of_length_le (by omega)
      rw [hjl] at hEj
      have h1 := sort_any hEj hsz (by omega)
      go_wp2_with fail
      refine h1.mono ?_
      rintro e w1 ⟨rfl, hb1, hz1, ho⟩
      have hlen' := brs_len (allOf l)
      have hlen2 := srt_len (brs (allOf l))
      have h2 := compact_any hb1 (by omega) ho (by omega)
      go_wp2_with fail
      refine h2.mono ?_
      rintro e w2 ⟨v', rfl, hb2, hz2, hT⟩
      go_wp2_with fail
      go_ret
      exact ⟨_, rfl, hb2, hT⟩
end Go.Proofs.Ytnkfboplafckoaa.texts

/- Sorted and each once: what stands in it, and in what order. -/

namespace Go.Proofs.Ytnkfboplafckoaa.texts
set_option linter.unusedVariables false
set_option linter.unusedSimpArgs false
open Go.Lib

theorem compact_aux (zs : List (List UInt8)) (hs : ∀ i k, i ≤ k → k < zs.length → zs.toArray[i]! ≤ zs.toArray[k]!) (m : Nat) (hm : m ≤ zs.length) :
    (compactUpTo zs.toArray m).Pairwise (· < ·) ∧ ∀ x, x ∈ compactUpTo zs.toArray m ↔ ∃ j, j < m ∧ zs.toArray[j]! = x := by
  induction m with
  | zero => exact ⟨by simp [compactUpTo], fun x => by simp [compactUpTo]⟩
  | succ m ih =>
    obtain ⟨h1, h2⟩ := ih (by omega)
    rw [compactUpTo_succ]
    by_cases hk : keeps zs.toArray m = true
    · rw [if_pos hk]
      refine ⟨List.pairwise_append.2 ⟨h1, by simp, fun a ha b hb => ?_⟩, fun x => ?_⟩
      · simp only [List.mem_singleton] at hb
        subst hb
        obtain ⟨j, hj, rfl⟩ := (h2 a).1 ha
        have hne : zs.toArray[m]! ≠ zs.toArray[m - 1]! := by
          simp only [keeps, decide_eq_true_eq] at hk
          rcases hk with hk | hk
          · omega
          · exact hk
        rw [← List.not_le]
        intro hle
        exact hne (List.le_antisymm (List.le_trans hle (hs j (m - 1) (by omega) (by omega))) (hs (m - 1) m (by omega) (by omega)))
      · rw [List.mem_append, h2, List.mem_singleton]
        constructor
        · rintro (⟨j, hj, e⟩ | e)
          · exact ⟨j, by omega, e⟩
          · exact ⟨m, by omega, e.symm⟩
        · rintro ⟨j, hj, e⟩
          by_cases hjm : j = m
          · subst hjm; exact .inr e.symm
          · exact .inl ⟨j, by omega, e⟩
    · rw [if_neg hk, List.append_nil]
      refine ⟨h1, fun x => ?_⟩
      rw [h2]
      have hk' : m ≠ 0 ∧ zs.toArray[m]! = zs.toArray[m - 1]! := by
        simp only [keeps, decide_eq_true_eq, not_or] at hk
        exact ⟨hk.1, Classical.not_not.1 hk.2⟩
      constructor
      · rintro ⟨j, hj, e⟩
        exact ⟨j, by omega, e⟩
      · rintro ⟨j, hj, e⟩
        by_cases hjm : j = m
        · subst hjm; exact ⟨j - 1, by omega, hk'.2 ▸ e⟩
        · exact ⟨j, by omega, e⟩

theorem get_bang (zs : List (List UInt8)) (i : Nat) (h : i < zs.length) : zs.toArray[i]! = zs[i] := by
  rw [getElem!_pos zs.toArray i (by simpa using h)]; simp

theorem compact_props (zs : List (List UInt8)) (h : zs.Pairwise (· ≤ ·)) : (compact zs).Pairwise (· < ·) ∧ ∀ x, x ∈ compact zs ↔ x ∈ zs := by
  have hs : ∀ i k, i ≤ k → k < zs.length → zs.toArray[i]! ≤ zs.toArray[k]! := by
    intro i k hik hk
    rw [get_bang zs i (by omega), get_bang zs k hk]
    by_cases e : i = k
    · subst e; exact List.le_refl _
    · exact List.pairwise_iff_getElem.1 h i k (by omega) hk (by omega)
  obtain ⟨h1, h2⟩ := compact_aux zs hs zs.length (Nat.le_refl _)
  refine ⟨h1, fun x => (h2 x).trans ⟨?_, fun hx => ?_⟩⟩
  · rintro ⟨j, hj, e⟩
    rw [get_bang zs j hj] at e
    rw [← e]; exact List.getElem_mem hj
  · obtain ⟨j, hj, e⟩ := List.getElem_of_mem hx
    exact ⟨j, hj, by rw [get_bang zs j hj]; exact e⟩

theorem fin_props (l : List ByteArray) : (fin l).Pairwise (· < ·) ∧ ∀ x, x ∈ fin l ↔ x ∈ brs l := by
  have hp : (srt (brs l)).Pairwise (· ≤ ·) := by
    have := List.pairwise_mergeSort (le := fun x y : List UInt8 => decide (x ≤ y)) (fun a b c h1 h2 => by simp only [decide_eq_true_eq] at *; exact List.le_trans h1 h2) (fun a b => by simp only [Bool.or_eq_true, decide_eq_true_eq]; exact List.le_total a b) (brs l)
    exact this.imp fun h => of_decide_eq_true h
  obtain ⟨h1, h2⟩ := compact_props _ hp
  exact ⟨h1, fun x => (h2 x).trans (by unfold srt; exact List.mem_mergeSort)⟩
theorem fin_lt (l : List ByteArray) (i : Nat) (h : i + 1 < (fin l).length) : (fin l)[i] < (fin l)[i + 1] :=
  List.pairwise_iff_getElem.1 (fin_props l).1 i (i + 1) (by omega) h (by omega)
theorem fin_mem_append {a b : List ByteArray} {x : List UInt8} : x ∈ fin (a ++ b) ↔ x ∈ fin a ∨ x ∈ fin b := by
  rw [(fin_props _).2, (fin_props _).2, (fin_props _).2]
  simp [brs, or_comm]
end Go.Proofs.Ytnkfboplafckoaa.texts

/- The document's own In and SameTexts. -/

namespace Go.Proofs.Ytnkfboplafckoaa.texts
set_option linter.unusedVariables false
set_option linter.unusedSimpArgs false
open Go.RowKit Go.Proofs.Ytnkfboplafckoaa.base Go.Proofs.Ytnkfboplafckoaa.tm Go.Proofs.Ytnkfboplafckoaa.lies Go.Proofs.Ytnkfboplafckoaa.rights

theorem below_drewN (B : Nat) (w : World) (n : Nat) : Below B w (w.drewN n) := ⟨rfl, rfl, rfl, Nat.le_refl _, fun _ _ => rfl⟩
def IHead (ts : List (List UInt8)) (s : List UInt8) (w : World) (i : Value) (wr : World) : Prop :=
  ∃ j : Nat, j ≤ ts.length ∧ i = .int .i64 j ∧ wr = w ∧ Hid (∀ k (h : k < ts.length), k < j → ts[k] ≠ s)

set_option maxRecDepth 100000 in
theorem sameTexts_any (v v' : Value) (lo lo' : Nat) (ts : List (List UInt8)) (w : World) (hT : Txt w lo v ts) (hT' : Txt w lo' v' ts) :
    Calls Try.prog 8 #[v, v'] w fun e w' => e = .returned (.bool true) ∧ Below w.heap.size w w' := by
  obtain ⟨A, c, rfl, hlen, hT⟩ := hT
  obtain ⟨A', c', rfl, _, hT'⟩ := hT'
  go_enter Try.func8, Try.ntmps8
  go_wp2_with fail
  go_loopw [13] (fun i wr => ∃ j n : Nat, j ≤ ts.length ∧ i = .int .i64 j ∧ wr = w.drewN n) (fun i _ => ts.length - (intOf i).toNat)
  case atStart => exact ⟨0, 0, Nat.zero_le _, rfl, rfl⟩
  case round =>
    obtain ⟨j, n, hj, rfl, rfl⟩ := hrel
    by_cases hlt : j < ts.length
    · obtain ⟨g, rfl, hlo, hg, hcell⟩ := hT j hlt
      obtain ⟨g', rfl, hlo', hg', hcell'⟩ := hT' j hlt
      go_wp2_with fail
      go_region
      go_wp2_with fail
      exact ⟨⟨j + 1, n + 1, hlt, by go_num, rfl⟩, by simp [intOf]; omega⟩
    · go_wp2_with fail
      go_ret
      exact ⟨rfl, below_drewN _ _ n⟩
end Go.Proofs.Ytnkfboplafckoaa.texts

/- The program's Texts of secrets, beside a term's atoms. -/

namespace Go.Proofs.Ytnkfboplafckoaa.texts
set_option linter.unusedVariables false
set_option linter.unusedSimpArgs false
open Go.RowKit Go.Proofs.Ytnkfboplafckoaa.base
/-- append of two texts -/
theorem wpList_append_two {ops : Array Oper} {rest : List Oper} {o : Oper} {a : Act} {Q : Exit → Act → World → Prop} (hgd : o.guard = none) (s x : Operand)
    (ho : o.op = .call { callee := .builtin .append, args := #[s, x], argTypes := #[36, 36] })
    {B : Nat} {w0 w : World} {v : Value} {l : List ByteArray} (hs : a.eval s = v) (hE : ExtS B w0 w v l) (hB : B ≤ w.heap.size) (b b' : ByteArray)
    {n : Nat} (hx : a.eval x = .slice (some ⟨n, 0, none⟩) 2 2) (hnz : n = w.heap.size) (hlen : (l.length + 2) * 16 ≤ 140737488355328)
    (h : ∀ v' w', ExtS B w0 w' v' (l ++ [b, b']) → w.heap.size ≤ w'.heap.size → wpList Try.prog ops Q rest (a.put o.dst v') w') : wpList Try.prog ops Q (o :: rest) a (w.alloc (.cells #[.string b, .string b'] 9)) := by
  subst hnz
  obtain ⟨i0, hi, hz0, hz1, hz2⟩ := info_parts info9
  have hE1 := hE.alloc hB (.cells #[.string b, .string b'] 9)
  refine wpList_append_own _ hgd s x 36 ho B 9 i0 (.string ⟨#[]⟩) 1 16 Try.underlying36 hi hz0 hz1 hz2 rfl (by decide) v l.length (sts l) hs hE1.own ⟨w.heap.size, 0, none⟩ 2 2 [.string b, .string b'] hx rfl ?_ ?_ (by unfold maxLen; omega) (by omega) (by simp; omega) ?_
  · intro j u hj
    match j, hj with
    | 0, hj => simp at hj; subst hj; simp [Addr.add]
    | 1, hj => simp at hj; subst hj; simp [Addr.add]
    | (j + 2), hj => simp at hj
  · intro u hu; simp at hu; rcases hu with rfl | rfl <;> rfl
  · intro v' w' ho' hg _
    refine h v' w' (hE1.step (by simp; omega) ?_ hg) (by have := hg.size; simp at this; omega)
    rw [sts_append, List.length_append]
    exact ho'
end Go.Proofs.Ytnkfboplafckoaa.texts
namespace Go.Proofs.Ytnkfboplafckoaa.vers
open Go.RowKit Go.Proofs.Ytnkfboplafckoaa.base Go.Proofs.Ytnkfboplafckoaa.texts

/-- the texts of versions, of a secret, of secrets -/
def vts : List V → List ByteArray
  | [] => []
  | x :: l => x.v :: x.t :: vts l
def ets (x : E) : List ByteArray := x.s :: vts x.l
def allE : List E → List ByteArray
  | [] => []
  | x :: l => ets x ++ allE l
theorem vts_len : ∀ l : List V, (vts l).length = 2 * l.length
  | [] => rfl
  | x :: l => by simp only [vts, List.length_cons, vts_len l]; omega
theorem vts_take (l : List V) (j : Nat) (h : j < l.length) : vts (l.take (j + 1)) = vts (l.take j) ++ [l[j].v, l[j].t] := by
  induction l generalizing j with
  | nil => simp at h
  | cons x l ih =>
    cases j with
    | zero => simp [vts]
    | succ j => simp only [List.take_succ_cons, vts, List.getElem_cons_succ, List.cons_append]; rw [ih j (by simpa using h)]
theorem allE_take (l : List E) (j : Nat) (h : j < l.length) : allE (l.take (j + 1)) = allE (l.take j) ++ (l[j].s :: vts l[j].l) := by
  induction l generalizing j with
  | nil => simp at h
  | cons x l ih =>
    cases j with
    | zero => simp [allE, ets]
    | succ j => simp only [List.take_succ_cons, allE, List.getElem_cons_succ, List.append_assoc]; rw [ih j (by simpa using h)]
theorem allE_le (l : List E) (j : Nat) : (allE (l.take j)).length ≤ (allE l).length := by
  induction l generalizing j with
  | nil => simp
  | cons x l ih =>
    cases j with
    | zero => simp [allE]
    | succ j => simp only [List.take_succ_cons, allE, List.length_append]; have := ih j; omega

/-- at the outer loop's head, and at the inner one's -/
def OHead (B : Nat) (W : World) (l : List E) (u i : Value) (wr : World) : Prop :=
  ∃ j : Nat, j ≤ l.length ∧ i = .int .i64 j ∧ W.heap.size ≤ wr.heap.size ∧ ExtS B W wr u (allE (l.take j))
def IHead (B : Nat) (W : World) (ts : List ByteArray) (l : List V) (u i : Value) (wr : World) : Prop :=
  ∃ j : Nat, j ≤ l.length ∧ i = .int .i64 j ∧ W.heap.size ≤ wr.heap.size ∧ ExtS B W wr u (ts ++ vts (l.take j))

set_option maxRecDepth 100000 in
set_option maxHeartbeats 800000 in
theorem texts_any (l : List E) (A : Option Addr) (c : Nat) (w : World) (hv : Es w w.heap.size l A c) (hN : (allE l).length ≤ 4000000) :
    Calls Try.prog 9 #[.slice A l.length c] w fun e w' => ∃ v, e = .returned v ∧ Below w.heap.size w w' ∧ Txt w' w.heap.size v (fin (allE l)) := by
  have hlen : l.length ≤ 140737488355328 := by have := hv.2.1; omega
  go_enter Try.func9, Try.ntmps9
  go_wp2_with fail
  go_loopw [3, 10] (fun u i wr => OHead w.heap.size w l u i wr) (fun _ i _ => l.length - (intOf i).toNat)
  case atStart => exact ⟨0, Nat.zero_le _, rfl, Nat.le_refl _, ExtS.nil _ _⟩
  case round =>
    obtain ⟨j, hj, rfl, hsz, hEj⟩ := hrel
    by_cases hlt : j < l.length
    · obtain ⟨bk, off, rfl, hbk, e0, e1, hV⟩ := (hv.below hEj.below).at_ hlt
      have hTk := lay (allE_take l j hlt)
      have hle := allE_le l (j + 1)
      rw [hTk.out, List.length_append, List.length_cons, vts_len] at hle
      have hvl : l[j].l.length ≤ 140737488355328 := by have h2 := hV.2.1; omega
      have hW2 := hEj.alloc hsz (.cells #[.string l[j].s, .slice l[j].A l[j].l.length l[j].c] 53)
      have hbox := Blk.new wr 53 #[.string l[j].s, .slice l[j].A l[j].l.length l[j].c]
      have hV2 := hV.below ((Below.refl _ _).alloc hsz (.cells #[.string l[j].s, .slice l[j].A l[j].l.length l[j].c] 53))
      have hE2 := hW2.refl
      have HV2 := lay hV2
      clear hV hV2
      generalize hL : l[j].l = L at HV2 hvl hTk hle hW2 hbox hE2 e1 ⊢
      generalize hs : l[j].s = s at hTk hW2 hbox hE2 e0 e1 ⊢ HV2
      generalize hA : l[j].A = LA at HV2 hW2 hbox hE2 e1 ⊢
      generalize hc : l[j].c = LC at HV2 hW2 hbox hE2 e1 ⊢
      clear hL hs hA hc
      go_wp2_with (at_builtin; refine wpList_append_text rfl _ _ rfl rfl hE2 (by simp; omega) s rfl (by simp) ?c2 ?next)
      case c2 => omega
      case next =>
        intro v1 w1 hE3 hz1
        have hb3 := hE3.kept _ _ _ (by decide) hbox
        have y1 := hb3.cell 1
        simp at y1
        try simp only [World.size_alloc] at hz1
        have y2 : wr.heap.size < w1.heap.size := by omega
        go_wp2_with fail
        go_loopw [3, 22] (fun u i wx => IHead w.heap.size (wr.alloc (.cells #[.string s, .slice LA L.length LC] 53)) (allE (l.take j) ++ [s]) L u i wx) (fun _ i _ => L.length - (intOf i).toNat)
        case atStart => exact ⟨0, Nat.zero_le _, rfl, by simp; omega, by simpa [vts] using hE3⟩
        case round =>
          obtain ⟨k, hk, rfl, hsz2, hEk⟩ := hrel
          try simp only [World.size_alloc] at hsz2
          by_cases hlk : k < L.length
          · obtain ⟨b2, o2, rfl, hb2, v0, v1, v2⟩ := (HV2.out.below hEk.below).at_ hlk
            have hVk := lay (vts_take L k hlk)
            have hl2 : (vts (L.take k)).length = 2 * k := by rw [vts_len, List.length_take]; omega
            have hE4 := hEk.alloc (by omega) (.cells #[.int .i64 L[k].n, .string L[k].v, .string L[k].t] 55)
            go_wp2_with (at_builtin; refine wpList_append_two rfl _ _ rfl rfl hE4 (by simp; omega) L[k].v L[k].t rfl (by simp) (by simp only [List.length_append, List.length_singleton]; omega) ?next3)
            case next3 =>
              intro v3 w3 hE5 hz3
              try simp only [World.size_alloc] at hz3
              go_wp2_with fail
              exact ⟨⟨k + 1, hlk, by go_num, by simp; omega, by rw [hVk.out]; simpa [List.append_assoc] using hE5⟩, by simp [intOf]; omega⟩
          · rw [show L.take k = L from List.take_of_length_le (by omega)] at hEk
            have hEn := hW2.trans hEk
            go_wp2_with fail
            exact ⟨⟨j + 1, hlt, by go_num, by omega, by rw [hTk.out]; simpa [List.append_assoc] using hEn⟩, by simp [intOf]; omega⟩
    · have hjl : l.take j = l := List.take_of_length_le (by omega)
      rw [hjl] at hEj
      have h1 := sort_any hEj hsz (by omega)
      go_wp2_with fail
      refine h1.mono ?_
      rintro e w1 ⟨rfl, hb1, hz1, ho⟩
      have hlen' := brs_len (allE l)
      have hlen2 := srt_len (brs (allE l))
      have h2 := compact_any hb1 (by omega) ho (by omega)
      go_wp2_with fail
      refine h2.mono ?_
      rintro e w2 ⟨v', rfl, hb2, hz2, hT⟩
      go_wp2_with fail
      go_ret
      exact ⟨_, rfl, hb2, hT⟩

end Go.Proofs.Ytnkfboplafckoaa.vers

/- The texts that a right node's term hides: pure words. -/

namespace Go.Proofs.Ytnkfboplafckoaa.nodes
set_option linter.unusedVariables false
set_option linter.unusedSimpArgs false
open Go.RowKit Go.Proofs.Ytnkfboplafckoaa.base Go.Proofs.Ytnkfboplafckoaa.quotas Go.Proofs.Ytnkfboplafckoaa.vers Go.Proofs.Ytnkfboplafckoaa.tm Go.Proofs.Ytnkfboplafckoaa.lies Go.Proofs.Ytnkfboplafckoaa.texts

theorem atoms_ver (x : V) : atoms (verT x) = [x.v, x.t] := rfl
theorem atoms_vers : ∀ l : List V, atomsL (l.map verT) = vts l
  | [] => rfl
  | x :: l => by rw [List.map_cons, atomsL, atoms_vers l, atoms_ver]; rfl
theorem atoms_ent (x : E) : atoms (entT x) = ets x := by
  show atoms (atomT x.s) ++ atomsL (x.l.map verT) = _
  rw [atoms_vers]; rfl
theorem atoms_ents : ∀ l : List E, atomsL (l.map entT) = allE l
  | [] => rfl
  | x :: l => by rw [List.map_cons, atomsL, atoms_ents l, atoms_ent]; rfl
theorem atoms_kid (x : K) : atoms (kidT x) = [x.s] := rfl
theorem atoms_kids : ∀ l : List K, atomsL (l.map kidT) = l.map (·.s)
  | [] => rfl
  | x :: l => by rw [List.map_cons, atomsL, atoms_kids l, atoms_kid]; rfl
theorem atoms_leafN (es : List E) (ks : List K) : atoms (nodeT true es ks) = allE es := by
  show atoms (numT 1) ++ atomsL (es.map entT) = _
  rw [atoms_ents]; rfl
theorem atoms_innerN (es : List E) (ks : List K) : atoms (nodeT false es ks) = ks.map (·.s) := by
  show atoms (numT 2) ++ atomsL (ks.map kidT) = _
  rw [atoms_kids]; rfl

theorem rising_eq : ∀ a b : List (List UInt8), a.Pairwise (· < ·) → b.Pairwise (· < ·) → (∀ x, x ∈ a ↔ x ∈ b) → a = b
  | [], [], _, _, _ => rfl
  | [], y :: b, _, _, h => absurd ((h y).2 (by simp)) (by simp)
  | x :: a, [], _, _, h => absurd ((h x).1 (by simp)) (by simp)
  | x :: a, y :: b, ha, hb, h => by
    have hxa := (List.pairwise_cons.1 ha).1
    have hyb := (List.pairwise_cons.1 hb).1
    have hxy : x = y := by
      rcases List.mem_cons.1 ((h x).1 (by simp)) with e | e
      · exact e
      · rcases List.mem_cons.1 ((h y).2 (by simp)) with e' | e'
        · exact e'.symm
        · exact absurd (List.lt_trans (hyb x e) (hxa y e')) (List.lt_irrefl _)
    subst hxy
    rw [rising_eq a b (List.pairwise_cons.1 ha).2 (List.pairwise_cons.1 hb).2 fun z => by
      constructor
      · intro hz
        rcases List.mem_cons.1 ((h z).1 (by simp [hz])) with e | e
        · subst e; exact absurd (hxa z hz) (List.lt_irrefl _)
        · exact e
      · intro hz
        rcases List.mem_cons.1 ((h z).2 (by simp [hz])) with e | e
        · subst e; exact absurd (hyb z hz) (List.lt_irrefl _)
        · exact e]

theorem lt_of_sle {x y : ByteArray} (h : sle x y = false) : y.data.toList < x.data.toList := by
  unfold sle at h
  simp only [Bool.or_eq_false_iff] at h
  obtain ⟨h1, h2⟩ := h
  rw [bytesLess_eq, tm.toList_eq, tm.toList_eq] at h1
  rw [tm.toList_eq, tm.toList_eq] at h2
  have h3 : ¬ x.data.toList < y.data.toList := by simpa using h1
  have h4 : x.data.toList ≠ y.data.toList := by simpa using h2
  rcases List.le_total x.data.toList y.data.toList with e | e
  · exact absurd (List.le_antisymm e (List.not_lt.1 h3)) h4
  · rcases Classical.em (y.data.toList < x.data.toList) with k | k
    · exact k
    · exact absurd (List.le_antisymm (List.not_lt.1 k) e) h4
theorem kbad_rise {b : Int} : ∀ (ks : List K) (p : Option ByteArray), kbad b p ks = 0 → (brs (ks.map (·.s))).Pairwise (· < ·) ∧ ∀ y, p = some y → ∀ x ∈ ks, y.data.toList < x.s.data.toList
  | [], _, _ => ⟨by simp [brs], fun _ _ x h => by cases h⟩
  | x :: r, p, hz => by
    unfold kbad at hz
    split at hz
    · omega
    · split at hz
      · omega
      · split at hz
        · omega
        · split at hz
          · omega
          · rename_i hb
            obtain ⟨h1, h2⟩ := kbad_rise r (some x.s) hz
            refine ⟨?_, ?_⟩
            · simp only [List.map_cons, brs, List.pairwise_cons]
              refine ⟨fun a ha => ?_, h1⟩
              simp only [List.mem_map] at ha
              obtain ⟨s, ⟨z, hz, rfl⟩, rfl⟩ := ha
              exact h2 _ rfl z hz
            · rintro y rfl z hz
              have hxy : y.data.toList < x.s.data.toList := lt_of_sle (by simpa [behind] using hb)
              rcases List.mem_cons.1 hz with rfl | hz
              · exact hxy
              · exact List.lt_trans hxy (h2 _ rfl z hz)
theorem ndbad_kids {a b c d e f h : Int} {es : List E} {ks : List K} (hz : ndbad a b c d e f h false es ks = 0) : kbad b none ks = 0 ∧ 2 ≤ ks.length ∧ ks.length ≤ 4 := by
  unfold ndbad at hz
  split at hz
  · rw [if_neg (by simp)] at hz
    split at hz
    · omega
    · exact ⟨hz, by omega, by omega⟩
  · omega
theorem fin_lows {a b c d e f h : Int} {es : List E} {ks : List K} (hz : ndbad a b c d e f h false es ks = 0) : fin (atoms (nodeT false es ks)) = brs (ks.map (·.s)) := by
  rw [atoms_innerN]
  obtain ⟨h1, h2⟩ := fin_props (ks.map (·.s))
  exact rising_eq _ _ h1 (kbad_rise ks none (ndbad_kids hz).1).1 h2
theorem allE_four (es : List E) (h4 : es.length ≤ 4) (hx : ∀ x ∈ es, x.l.length ≤ 4) : (allE es).length ≤ 9 * es.length := by
  clear h4
  induction es with
  | nil => simp [allE]
  | cons x l ih =>
    have h1 := ih (fun y hy => hx y (List.mem_cons_of_mem _ hy))
    have h2 := hx x (List.mem_cons_self ..)
    simp only [allE, ets, List.length_append, List.length_cons, vts_len]
    omega
end Go.Proofs.Ytnkfboplafckoaa.nodes
