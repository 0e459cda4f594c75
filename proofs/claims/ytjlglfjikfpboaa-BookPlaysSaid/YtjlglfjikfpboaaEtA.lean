/- Texts that a call builds by append, sorts and compacts, or puts in one by one: what needs no term. -/
import Derived.Test.YtjlglfjikfpboaaShelf
import Derived.Test.YtjlglfjikfpboaaTermA
import Derived.Sort.OwnSorted
import Derived.Lib.RowBridge
import Derived.Laws.Cover1
import Derived.Below
import Derived.IntWalk


namespace Go.Proofs.Ytjlglfjikfpboaa.texts
set_option linter.unusedVariables false
set_option linter.unusedSimpArgs false
open Go.RowKit Go.Proofs.Ytjlglfjikfpboaa.base
theorem lay {p : Prop} (h : p) : Hid p := h

/-- texts as cells -/
def sts (l : List ByteArray) : List Value := l.map .string
theorem sts_append (l m : List ByteArray) : sts (l ++ m) = sts l ++ sts m := by simp [sts]
theorem info9 : (Try.prog.info? 9).map (fun i => (i.zero, i.size, i.bytes)) = some (some (.string ⟨#[]⟩), 1, 16) := by kernel_rfl

/-- from w to w' only rows of texts from block B on, and what is new, have turned; v' is such a row, of the texts l' -/
structure ExtS (B : Nat) (w w' : World) (v' : Value) (l' : List ByteArray) : Prop where
  own : w'.ownsRow B 9 1 v' l'.length (sts l')
  below : Below B w w'
  kept : ∀ g T cs, T ≠ 9 → Blk w g T cs → Blk w' g T cs

section
variable {B : Nat} {w w' w'' : World} {v v' v'' : Value} {l l' l'' : List ByteArray}
theorem ExtS.nil (w : World) (B : Nat) : ExtS B w w (.slice none 0 0) [] := ⟨⟨by simp [sts], .inl ⟨rfl, rfl⟩⟩, Below.refl _ _, fun _ _ _ _ h => h⟩
theorem ExtS.refl (h : ExtS B w w' v' l') : ExtS B w' w' v' l' := ⟨h.own, Below.refl _ _, fun _ _ _ _ h => h⟩
theorem ExtS.trans (h : ExtS B w w' v' l') (k : ExtS B w' w'' v'' l'') : ExtS B w w'' v'' l'' := ⟨k.own, h.below.trans k.below, fun g T cs ht hb => k.kept g T cs ht (h.kept g T cs ht hb)⟩
theorem ExtS.alloc (h : ExtS B w w' v' l') (hB : B ≤ w'.heap.size) (o : Obj) : ExtS B w (w'.alloc o) v' l' := ⟨h.own.alloc o, h.below.alloc hB o, fun g T cs ht hb => (h.kept g T cs ht hb).alloc o⟩
theorem ExtS.size (h : ExtS B w w' v' l') : w.heap.size ≤ w'.heap.size := h.below.size
theorem ExtS.step (h : ExtS B w w' v l) (hB : B ≤ w'.heap.size) (ho : w''.ownsRow B 9 1 v' l'.length (sts l')) (hg : w'.grownBy w'' v.ownBlock) : ExtS B w w'' v' l' := by
  refine ⟨ho, h.below.grown hg hB ?_, fun g T cs ht hb => ?_⟩
  · intro k hk
    rcases h.own.2 with ⟨rfl, _⟩ | ⟨g, cap, cur, rfl, hb, _⟩
    · simp [Value.ownBlock] at hk
    · simp [Value.ownBlock] at hk; omega
  · have h1 := h.kept g T cs ht hb
    refine (hg.block g h1.lt fun e => ?_).trans h1
    rcases h.own.2 with ⟨rfl, _⟩ | ⟨g', cap, cur, rfl, _, hh, _⟩
    · simp [Value.ownBlock] at e
    · simp [Value.ownBlock] at e
      subst e
      unfold Blk at h1
      rw [hh] at h1
      injection h1 with h1
      injection h1 with _ h1
      exact ht h1.symm
end

/-- append of one text -/
theorem wpList_append_text {ops : Array Oper} {rest : List Oper} {o : Oper} {a : Act} {Q : Exit → Act → World → Prop} (hgd : o.guard = none) (s x : Operand)
    (ho : o.op = .call { callee := .builtin .append, args := #[s, x], argTypes := #[22, 22] })
    {B : Nat} {w0 w : World} {v : Value} {l : List ByteArray} (hs : a.eval s = v) (hE : ExtS B w0 w v l) (hB : B ≤ w.heap.size) (b : ByteArray)
    {n : Nat} (hx : a.eval x = .slice (some ⟨n, 0, none⟩) 1 1) (hnz : n = w.heap.size) (hlen : (l.length + 1) * 16 ≤ 140737488355328)
    (h : ∀ v' w', ExtS B w0 w' v' (l ++ [b]) → w.heap.size ≤ w'.heap.size → wpList Try.prog ops Q rest (a.put o.dst v') w') : wpList Try.prog ops Q (o :: rest) a (w.alloc (.cells #[.string b] 9)) := by
  subst hnz
  obtain ⟨i0, hi, hz0, hz1, hz2⟩ := info_parts info9
  have hE1 := hE.alloc hB (.cells #[.string b] 9)
  refine wpList_append_own _ hgd s x 22 ho B 9 i0 (.string ⟨#[]⟩) 1 16 Try.underlying22 hi hz0 hz1 hz2 rfl (by decide) v l.length (sts l) hs hE1.own ⟨w.heap.size, 0, none⟩ 1 1 [.string b] hx rfl ?_ ?_ (by unfold maxLen; omega) (by omega) (by simp; omega) ?_
  · intro j u hj
    match j, hj with
    | 0, hj => simp at hj; subst hj; simp [Addr.add]
    | (j + 1), hj => simp at hj
  · intro u hu; simp at hu; subst hu; rfl
  · intro v' w' ho' hg _
    refine h v' w' (hE1.step (by simp; omega) ?_ hg) (by have := hg.size; simp at this; omega)
    rw [sts_append, List.length_append]
    exact ho'

/-- texts as lists of bytes -/
def brs (l : List ByteArray) : List (List UInt8) := l.map (·.data.toList)
theorem sts_brs (l : List ByteArray) : sts l = (brs l).map encStr := by
  unfold sts brs
  rw [List.map_map]
  exact List.map_congr_left fun s _ => rfl
theorem brs_len (l : List ByteArray) : (brs l).length = l.length := by simp [brs]
/-- sorted -/
def srt (l : List (List UInt8)) : List (List UInt8) := l.mergeSort fun x y => decide (x ≤ y)
theorem srt_len (l : List (List UInt8)) : (srt l).length = l.length := by simp [srt]
/-- sorted, each once -/
def fin (l : List ByteArray) : List (List UInt8) := Lib.compact (srt (brs l))
theorem fin_len (l : List ByteArray) : (fin l).length ≤ l.length := by
  have := Lib.compact_length_le (srt (brs l))
  rw [srt_len, brs_len] at this
  exact this

/-- the slice v of texts ts, in a block from lo on -/
def Txt (w : World) (lo : Nat) (v : Value) (ts : List (List UInt8)) : Prop :=
  ∃ A c, v = .slice A ts.length c ∧ ts.length ≤ 140737488355328 ∧ ∀ j (h : j < ts.length), ∃ g, A = some ⟨g, 0, none⟩ ∧ lo ≤ g ∧ g < w.heap.size ∧ w.cell? ⟨g, j, none⟩ = some (encStr ts[j])
theorem Txt.below {w w' : World} {lo : Nat} {v : Value} {ts : List (List UInt8)} (h : Txt w lo v ts) (hb : Below w.heap.size w w') : Txt w' lo v ts := by
  obtain ⟨A, c, e, hl, h⟩ := h
  refine ⟨A, c, e, hl, fun j hj => ?_⟩
  obtain ⟨g, h1, h2, h3, h4⟩ := h j hj
  exact ⟨g, h1, h2, Nat.lt_of_lt_of_le h3 hb.size, (hb.cell (p := ⟨g, j, none⟩) h3).trans h4⟩
theorem Txt.alloc {w : World} {lo : Nat} {v : Value} {ts : List (List UInt8)} (h : Txt w lo v ts) (o : Obj) : Txt (w.alloc o) lo v ts := h.below ((Below.refl _ _).alloc (Nat.le_refl _) o)

/-- what Sort leaves -/
theorem sort_any {B : Nat} {W w : World} {v : Value} {l : List ByteArray} (hE : ExtS B W w v l) (hB : B ≤ w.heap.size) (hl : l.length ≤ 140737488355328) :
    Calls Try.prog 65 #[v] w fun e w' => e = .returned (.tuple #[]) ∧ Below B W w' ∧ w.heap.size ≤ w'.heap.size ∧ w'.ownsRow B 9 1 v (srt (brs l)).length ((srt (brs l)).map encStr) := by
  have hs : (srt (brs l)).length = l.length := by rw [srt_len, brs_len]
  rcases hE.own.2 with ⟨rfl, h0⟩ | ⟨g, cap, cur, rfl, hbase, hb, h1, h2, h3, h4⟩
  · refine (Try.slices_Sort_string_none none 0 w).mono ?_
    rintro e w' ⟨rfl, rfl⟩
    have e0 : srt (brs l) = [] := List.eq_nil_of_length_eq_zero (by omega)
    exact ⟨rfl, hE.below, Nat.le_refl _, by rw [e0]; exact ⟨rfl, .inl ⟨rfl, rfl⟩⟩⟩
  · have ht : cur.toList.take (brs l).length = (brs l).map encStr := by rw [← sts_brs, ← h4, brs_len, Nat.mul_one]
    have hg := (Array.getElem?_eq_some_iff.1 hb).1
    have hc := Try.slices_Sort_string g 0 cap (brs l) w (holds_of_block hb ht) hg (by rw [brs_len]; omega)
    rw [brs_len] at hc
    refine hc.mono ?_
    rintro e w' ⟨rfl, n, os, rfl⟩
    have ho := ownsRow_sorted (base := B) (n := n) (os := os) (ss := brs l) (ts := srt (brs l)) (by rw [srt_len]) hbase hb (by rw [brs_len]; exact h1) h2 h3
    rw [brs_len] at ho
    rw [hs]
    refine ⟨rfl, hE.below.grown (grownBy_sorted (n := n) (os := os) (srt (brs l)).toArray) hB (fun k hk => ?_), by simp, ho⟩
    injection hk with hk
    omega

/-- what Compact leaves -/
theorem compact_any {B : Nat} {W w : World} {v : Value} {zs : List (List UInt8)} (hb0 : Below B W w) (hB : B ≤ w.heap.size) (ho : w.ownsRow B 9 1 v zs.length (zs.map encStr)) (hl : zs.length ≤ 140737488355328) :
    Calls Try.prog 66 #[v] w fun e w' => ∃ v', e = .returned v' ∧ Below B W w' ∧ w.heap.size ≤ w'.heap.size ∧ Txt w' B v' (Lib.compact zs) := by
  rcases ho.2 with ⟨rfl, h0⟩ | ⟨g, cap, cur, rfl, hbase, hb, h1, h2, h3, h4⟩
  · refine (Try.slices_Compact_string_empty none 0 w).mono ?_
    rintro e w' ⟨rfl, rfl⟩
    obtain rfl : zs = [] := List.eq_nil_of_length_eq_zero h0
    exact ⟨_, rfl, hb0, Nat.le_refl _, none, 0, rfl, Nat.zero_le _, fun j hj => absurd hj (Nat.not_lt_zero _)⟩
  · have ht : cur.toList.take zs.length = zs.map encStr := by rw [← h4, Nat.mul_one]
    have hg := (Array.getElem?_eq_some_iff.1 hb).1
    have hH := holds_of_block hb ht
    refine (Try.slices_Compact_string g 0 cap zs w hH (by omega) h1).mono ?_
    rintro e w' ⟨rfl, q, rfl⟩
    have hle := Lib.compact_length_le zs
    have hgr := grownBy_sorted (w := w) (g := g) (n := q) (os := #[]) (Lib.compact zs ++ List.replicate (zs.length - (Lib.compact zs).length) []).toArray
    rw [Sort.grow_empty] at hgr
    refine ⟨_, rfl, hb0.grown hgr hB (fun k hk => by injection hk with hk; omega), by simp, some ⟨g, 0, none⟩, cap, rfl, by omega, fun j hj => ⟨g, rfl, hbase, by simpa using hg, ?_⟩⟩
    have := Sort.cell?_putRow encStr (Sort.ahead w q) g 0 zs.toArray (Lib.compact zs ++ List.replicate (zs.length - (Lib.compact zs).length) []).toArray (Sort.holds_ahead _ _ _ _ _ _ hH) (by simp; omega) j (by simp; omega)
    rw [Nat.zero_add] at this
    rw [this]
    simp
    rw [List.getElem?_append_left hj, List.getElem?_eq_getElem hj]
    rfl

theorem ExtS.quiet {B : Nat} {W w1 w2 : World} {u : Value} {l : List ByteArray} (h : ExtS B W w1 u l) (hB : B ≤ w1.heap.size) (hb : Below w1.heap.size w1 w2) : ExtS B W w2 u l := by
  refine ⟨⟨h.own.1, ?_⟩, h.below.trans (hb.mono hB), fun g T cs hT hk => (h.kept g T cs hT hk).below hb (h.kept g T cs hT hk).lt⟩
  rcases h.own.2 with h0 | ⟨g, cap, cur, e, hbase, hh, h1, h2, h3, h4⟩
  · exact .inl h0
  · have hg := (Array.getElem?_eq_some_iff.1 hh).1
    exact .inr ⟨g, cap, cur, e, hbase, (hb.block g hg).trans hh, h1, h2, h3, h4⟩

section
open Go.Lib
theorem compact_aux (zs : List (List UInt8)) (hs : ∀ i k, i ≤ k → k < zs.length → zs.toArray[i]! ≤ zs.toArray[k]!) (m : Nat) (hm : m ≤ zs.length) :
    (compactUpTo zs.toArray m).Pairwise (· < ·) ∧ ∀ x, x ∈ compactUpTo zs.toArray m ↔ ∃ j, j < m ∧ zs.toArray[j]! = x := by
  induction m with
  | zero => exact ⟨by simp [compactUpTo], fun x => by simp [compactUpTo]⟩
  | succ m ih =>
    obtain ⟨h1, h2⟩ := ih (by omega)
    rw [compactUpTo_succ]
    by_cases hk : keeps zs.toArray m = true
    · rw [if_pos hk]
      refine ⟨List.pairwise_append.2 ⟨h1, by simp, fun a ha b hb => ?_⟩, fun x => ?_⟩
      · simp only [List.mem_singleton] at hb
        subst hb
        obtain ⟨j, hj, rfl⟩ := (h2 a).1 ha
        have hne : zs.toArray[m]! ≠ zs.toArray[m - 1]! := by
          simp only [keeps, decide_eq_true_eq] at hk
          rcases hk with hk | hk
          · omega
          · exact hk
        rw [← List.not_le]
        intro hle
        exact hne (List.le_antisymm (List.le_trans hle (hs j (m - 1) (by omega) (by omega))) (hs (m - 1) m (by omega) (by omega)))
      · rw [List.mem_append, h2, List.mem_singleton]
        constructor
        · rintro (⟨j, hj, e⟩ | e)
          · exact ⟨j, by omega, e⟩
          · exact ⟨m, by omega, e.symm⟩
        · rintro ⟨j, hj, e⟩
          by_cases hjm : j = m
          · subst hjm; exact .inr e.symm
          · exact .inl ⟨j, by omega, e⟩
    · rw [if_neg hk, List.append_nil]
      refine ⟨h1, fun x => ?_⟩
      rw [h2]
      have hk' : m ≠ 0 ∧ zs.toArray[m]! = zs.toArray[m - 1]! := by
        simp only [keeps, decide_eq_true_eq, not_or] at hk
        exact ⟨hk.1, Classical.not_not.1 hk.2⟩
      constructor
      · rintro ⟨j, hj, e⟩
        exact ⟨j, by omega, e⟩
      · rintro ⟨j, hj, e⟩
        by_cases hjm : j = m
        · subst hjm; exact ⟨j - 1, by omega, hk'.2 ▸ e⟩
        · exact ⟨j, by omega, e⟩

theorem get_bang (zs : List (List UInt8)) (i : Nat) (h : i < zs.length) : zs.toArray[i]! = zs[i] := by
  rw [getElem!_pos zs.toArray i (by simpa using h)]; simp

theorem compact_props (zs : List (List UInt8)) (h : zs.Pairwise (· ≤ ·)) : (compact zs).Pairwise (· < ·) ∧ ∀ x, x ∈ compact zs ↔ x ∈ zs := by
  have hs : ∀ i k, i ≤ k → k < zs.length → zs.toArray[i]! ≤ zs.toArray[k]! := by
    intro i k hik hk
    rw [get_bang zs i (by omega), get_bang zs k hk]
    by_cases e : i = k
    · subst e; exact List.le_refl _
    · exact List.pairwise_iff_getElem.1 h i k (by omega) hk (by omega)
  obtain ⟨h1, h2⟩ := compact_aux zs hs zs.length (Nat.le_refl _)
  refine ⟨h1, fun x => (h2 x).trans ⟨?_, fun hx => ?_⟩⟩
  · rintro ⟨j, hj, e⟩
    rw [get_bang zs j hj] at e
    rw [← e]; exact List.getElem_mem hj
  · obtain ⟨j, hj, e⟩ := List.getElem_of_mem hx
    exact ⟨j, hj, by rw [get_bang zs j hj]; exact e⟩

theorem fin_props (l : List ByteArray) : (fin l).Pairwise (· < ·) ∧ ∀ x, x ∈ fin l ↔ x ∈ brs l := by
  have hp : (srt (brs l)).Pairwise (· ≤ ·) := by
    have := List.pairwise_mergeSort (le := fun x y : List UInt8 => decide (x ≤ y)) (fun a b c h1 h2 => by simp only [decide_eq_true_eq] at *; exact List.le_trans h1 h2) (fun a b => by simp only [Bool.or_eq_true, decide_eq_true_eq]; exact List.le_total a b) (brs l)
    exact this.imp fun h => of_decide_eq_true h
  obtain ⟨h1, h2⟩ := compact_props _ hp
  exact ⟨h1, fun x => (h2 x).trans (by unfold srt; exact List.mem_mergeSort)⟩
theorem fin_lt (l : List ByteArray) (i : Nat) (h : i + 1 < (fin l).length) : (fin l)[i] < (fin l)[i + 1] :=
  List.pairwise_iff_getElem.1 (fin_props l).1 i (i + 1) (by omega) h (by omega)
theorem fin_mem_append {a b : List ByteArray} {x : List UInt8} : x ∈ fin (a ++ b) ↔ x ∈ fin a ∨ x ∈ fin b := by
  rw [(fin_props _).2, (fin_props _).2, (fin_props _).2]
  simp [brs, or_comm]
end

theorem below_drewN (B : Nat) (w : World) (n : Nat) : Below B w (w.drewN n) := ⟨rfl, rfl, rfl, Nat.le_refl _, fun _ _ => rfl⟩

set_option maxRecDepth 100000 in
theorem sameTexts_any (v v' : Value) (lo lo' : Nat) (ts : List (List UInt8)) (w : World) (hT : Txt w lo v ts) (hT' : Txt w lo' v' ts) :
    Calls Try.prog 15 #[v, v'] w fun e w' => e = .returned (.bool true) ∧ Below w.heap.size w w' := by
  obtain ⟨A, c, rfl, hlen, hT⟩ := hT
  obtain ⟨A', c', rfl, _, hT'⟩ := hT'
  go_enter Try.func15, Try.ntmps15
  go_wp2_with fail
  go_loopw [13] (fun i wr => ∃ j n : Nat, j ≤ ts.length ∧ i = .int .i64 j ∧ wr = w.drewN n) (fun i _ => ts.length - (intOf i).toNat)
  case atStart => exact ⟨0, 0, Nat.zero_le _, rfl, rfl⟩
  case round =>
    obtain ⟨j, n, hj, rfl, rfl⟩ := hrel
    by_cases hlt : j < ts.length
    · obtain ⟨g, rfl, hlo, hg, hcell⟩ := hT j hlt
      obtain ⟨g', rfl, hlo', hg', hcell'⟩ := hT' j hlt
      go_wp2_with fail
      go_region
      go_wp2_with fail
      exact ⟨⟨j + 1, n + 1, hlt, by go_num, rfl⟩, by simp [intOf]; omega⟩
    · go_wp2_with fail
      go_ret
      exact ⟨rfl, below_drewN _ _ n⟩

def ba (x : List UInt8) : ByteArray := ⟨x.toArray⟩
def bas (l : List (List UInt8)) : List ByteArray := l.map ba
theorem bas_len (l : List (List UInt8)) : (bas l).length = l.length := by simp [bas]
theorem bas_snoc (l : List (List UInt8)) (x : List UInt8) : bas (l ++ [x]) = bas l ++ [⟨x.toArray⟩] := by simp [bas, ba]
/-- what is put in: done is whether it has been -/
def insD (s : List UInt8) : List (List UInt8) → Bool → List (List UInt8)
  | [], d => if d then [] else [s]
  | x :: r, d => if d then x :: insD s r true else if s = x then x :: insD s r true else if s < x then s :: x :: insD s r true else x :: insD s r false
theorem insD_done (s : List UInt8) (l : List (List UInt8)) : insD s l true = l := by
  induction l with
  | nil => rfl
  | cons x r ih => simp [insD, ih]

theorem empty_texts (w : World) : ExtS w.heap.size w (w.alloc (.cells #[] 9)) (.slice (some ⟨w.heap.size, 0, none⟩) 0 0) [] :=
  ⟨⟨rfl, .inr ⟨w.heap.size, 0, #[], rfl, Nat.le_refl _, heap_alloc_new w _, Nat.le_refl _, Nat.zero_le _, rfl, rfl⟩⟩, (Below.refl _ _).alloc (Nat.le_refl _) _, fun _ _ _ _ h => h.alloc _⟩

theorem ExtS.txt {B : Nat} {W w : World} {v : Value} {l : List (List UInt8)} (h : ExtS B W w v (bas l)) (hl : l.length ≤ 140737488355328) : Txt w B v l := by
  rcases h.own.2 with ⟨rfl, h0⟩ | ⟨g, cap, cur, rfl, hbase, hb, h1, h2, h3, h4⟩
  · rw [bas_len] at h0
    obtain rfl : l = [] := List.eq_nil_of_length_eq_zero h0
    exact ⟨none, 0, rfl, Nat.zero_le _, fun j hj => absurd hj (Nat.not_lt_zero _)⟩
  · have hg := (Array.getElem?_eq_some_iff.1 hb).1
    have e : sts (bas l) = l.map encStr := by simp [sts, bas, ba]
    have ht : cur.toList.take l.length = l.map encStr := by rw [← e, ← h4, bas_len, Nat.mul_one]
    have hH := holds_of_block hb ht
    rw [bas_len]
    refine ⟨some ⟨g, 0, none⟩, cap, rfl, hl, fun j hj => ⟨g, rfl, hbase, hg, ?_⟩⟩
    have := (hH j (by simpa using hj)).1
    rw [Nat.zero_add] at this
    rw [this]
    simp [hj]

/-- at the loop's head -/
def NHead (W : World) (ts : List (List UInt8)) (s : List UInt8) (u d i : Value) (wr : World) : Prop :=
  ∃ (j : Nat) (out : List (List UInt8)) (b : Bool), j ≤ ts.length ∧ i = .int .i64 j ∧ d = .bool b ∧ out.length ≤ j + b.toNat ∧ W.heap.size ≤ wr.heap.size ∧ ExtS W.heap.size W wr u (bas out) ∧ Hid (insD s ts false = out ++ insD s (ts.drop j) b)

set_option maxRecDepth 100000 in
set_option maxHeartbeats 1000000 in
theorem insert_any (v : Value) (lo : Nat) (ts : List (List UInt8)) (s : List UInt8) (w : World) (hT : Txt w lo v ts) (hn : ts.length ≤ 4000000) :
    Calls Try.prog 82 #[v, .string ⟨s.toArray⟩] w fun e w' => ∃ v', e = .returned v' ∧ Below w.heap.size w w' ∧ Txt w' w.heap.size v' (insD s ts false) := by
  obtain ⟨A, c, rfl, hlen, hT⟩ := hT
  have HT := lay hT
  clear hT
  go_enter Try.func82, Try.ntmps82
  go_wp2_with fail
  go_loopw [5, 6, 12] (fun u d i wr => NHead w ts s u d i wr) (fun _ _ i _ => ts.length - (intOf i).toNat)
  case atStart => exact ⟨0, [], false, Nat.zero_le _, rfl, rfl, by simp, by simp, empty_texts w, lay rfl⟩
  case round =>
    obtain ⟨j, out, b, hj, rfl, rfl, hol, hsz, hE, HI⟩ := hrel
    have hbl := bas_len out
    by_cases hlt : j < ts.length
    · obtain ⟨g, rfl, hlo, hg, hcell0⟩ := HT.out j hlt
      have hcell : wr.cell? ⟨g, j, none⟩ = some (.string ⟨ts[j].toArray⟩) := (hE.below.cell (p := ⟨g, j, none⟩) hg).trans hcell0
      have hdr : ts.drop j = ts[j] :: ts.drop (j + 1) := List.drop_eq_getElem_cons hlt
      rw [hdr] at HI
      clear hdr hcell0
      cases b with
      | true =>
        simp only [Bool.toNat_true] at hol
        have HJ := lay (show insD s ts false = (out ++ [ts[j]]) ++ insD s (ts.drop (j + 1)) true by rw [HI.out]; simp [insD])
        clear HI
        go_wp2_with (at_builtin; refine wpList_append_text rfl _ _ rfl rfl hE hsz ⟨ts[j].toArray⟩ rfl rfl (by omega) ?next)
        case next =>
          intro v1 w1 hE1 hz1
          rw [← bas_snoc] at hE1
          go_wp2_with fail
          exact ⟨⟨j + 1, _, true, hlt, by go_num, rfl, by simp; omega, by omega, hE1, HJ⟩, by simp [intOf]; omega⟩
      | false =>
        simp only [Bool.toNat_false] at hol
        by_cases heq : s = ts[j]
        · have e1 : Op.bytesLess s ts[j] = false := by rw [bytesLess_eq, heq]; exact decide_eq_false (List.lt_irrefl _)
          have e2 : (s == ts[j]) = true := by simpa using heq
          have HJ := lay (show insD s ts false = (out ++ [ts[j]]) ++ insD s (ts.drop (j + 1)) true by rw [HI.out]; simp [insD, heq])
          clear HI heq
          go_wp2_with (at_builtin; refine wpList_append_text rfl _ _ rfl rfl hE hsz ⟨ts[j].toArray⟩ rfl rfl (by omega) ?next)
          case next =>
            intro v1 w1 hE1 hz1
            rw [← bas_snoc] at hE1
            go_wp2_with fail
            exact ⟨⟨j + 1, _, true, hlt, by go_num, rfl, by simp; omega, by omega, hE1, HJ⟩, by simp [intOf]; omega⟩
        · by_cases hls : s < ts[j]
          · have e1 : Op.bytesLess s ts[j] = true := by rw [bytesLess_eq]; exact decide_eq_true hls
            have HJ := lay (show insD s ts false = (out ++ [s] ++ [ts[j]]) ++ insD s (ts.drop (j + 1)) true by rw [HI.out]; simp [insD, heq, hls])
            clear HI heq hls
            go_wp2_with (at_builtin; refine wpList_append_text rfl _ _ rfl rfl hE hsz ⟨s.toArray⟩ rfl rfl (by omega) ?next)
            case next =>
              intro v1 w1 hE1 hz1
              rw [← bas_snoc] at hE1
              have hl1 := bas_len (out ++ [s])
              have hl2 : (out ++ [s]).length = out.length + 1 := by simp
              go_wp2_with (at_builtin; refine wpList_append_text rfl _ _ rfl rfl hE1 (by omega) ⟨ts[j].toArray⟩ rfl rfl (by omega) ?next2)
              case next2 =>
                intro v2 w2 hE2 hz2
                rw [← bas_snoc] at hE2
                go_wp2_with fail
                exact ⟨⟨j + 1, _, true, hlt, by go_num, rfl, by simp; omega, by omega, hE2, HJ⟩, by simp [intOf]; omega⟩
          · have e1 : Op.bytesLess s ts[j] = false := by rw [bytesLess_eq]; exact decide_eq_false hls
            have e2 : (s == ts[j]) = false := by simpa using heq
            have HJ := lay (show insD s ts false = (out ++ [ts[j]]) ++ insD s (ts.drop (j + 1)) false by rw [HI.out]; simp [insD, heq, hls])
            clear HI heq hls
            go_wp2_with (at_builtin; refine wpList_append_text rfl _ _ rfl rfl hE hsz ⟨ts[j].toArray⟩ rfl rfl (by omega) ?next)
            case next =>
              intro v1 w1 hE1 hz1
              rw [← bas_snoc] at hE1
              go_wp2_with fail
              exact ⟨⟨j + 1, _, false, hlt, by go_num, rfl, by simp; omega, by omega, hE1, HJ⟩, by simp [intOf]; omega⟩
    · rw [List.drop_of_length_le (by omega)] at HI
      cases b with
      | true =>
        simp only [Bool.toNat_true] at hol
        have HJ := lay (show insD s ts false = out by rw [HI.out]; simp [insD])
        clear HI
        go_wp2_with fail
        go_ret
        rw [HJ.out]
        exact ⟨_, rfl, hE.below, hE.txt (by omega)⟩
      | false =>
        simp only [Bool.toNat_false] at hol
        have HJ := lay (show insD s ts false = out ++ [s] by rw [HI.out]; simp [insD])
        clear HI
        go_wp2_with (at_builtin; refine wpList_append_text rfl _ _ rfl rfl hE hsz ⟨s.toArray⟩ rfl rfl (by omega) ?next)
        case next =>
          intro v1 w1 hE1 hz1
          rw [← bas_snoc] at hE1
          go_wp2_with fail
          go_ret
          rw [HJ.out]
          exact ⟨_, rfl, hE1.below, hE1.txt (by simp; omega)⟩

theorem Txt.any {w : World} {lo : Nat} {v : Value} {ts : List (List UInt8)} (h : Txt w lo v ts) : Txt w 0 v ts := by
  obtain ⟨A, c, e, hl, h⟩ := h
  refine ⟨A, c, e, hl, fun j hj => ?_⟩
  obtain ⟨g, h1, _, h3, h4⟩ := h j hj
  exact ⟨g, h1, Nat.zero_le _, h3, h4⟩
theorem insert_at (v : Value) (lo : Nat) (ts : List (List UInt8)) (s : ByteArray) (w : World) (hT : Txt w lo v ts) (hn : ts.length ≤ 4000000) :
    Calls Try.prog 82 #[v, .string s] w fun e w' => ∃ v', e = .returned v' ∧ Below w.heap.size w w' ∧ Txt w' 0 v' (insD s.data.toList ts false) :=
  (insert_any v lo ts s.data.toList w hT hn).mono fun e w' ⟨v', h1, h2, h3⟩ => ⟨v', h1, h2, h3.any⟩
/-- all put in, one behind the other -/
def putAll (ts : List (List UInt8)) (l : List ByteArray) : List (List UInt8) := l.foldl (fun a s => insD s.data.toList a false) ts
theorem putAll_append (ts : List (List UInt8)) (l m : List ByteArray) : putAll ts (l ++ m) = putAll (putAll ts l) m := by simp [putAll]
theorem insD_len (s : List UInt8) (l : List (List UInt8)) (b : Bool) : (insD s l b).length ≤ l.length + 1 := by
  induction l generalizing b with
  | nil => cases b <;> simp [insD]
  | cons x r ih =>
    have h1 := ih false
    have h2 : (insD s r true).length = r.length := by rw [insD_done]
    cases b <;> simp only [insD]
    · simp only [Bool.false_eq_true, if_false]
      split
      · simp; omega
      · split <;> simp <;> omega
    · simp; omega
theorem putAll_len (l : List ByteArray) : ∀ ts : List (List UInt8), (putAll ts l).length ≤ ts.length + l.length := by
  induction l with
  | nil => intro ts; simp [putAll]
  | cons s l ih =>
    intro ts
    have h1 := ih (insD s.data.toList ts false)
    have h2 := insD_len s.data.toList ts false
    show (putAll (insD s.data.toList ts false) l).length ≤ _
    simp only [List.length_cons]
    omega

theorem lt_of_not {a b : List UInt8} (h1 : ¬ a = b) (h2 : ¬ a < b) : b < a := by
  rw [← List.not_le]
  intro hle
  exact h1 (List.le_antisymm hle (List.not_lt.1 h2))
theorem insD_props (s : List UInt8) (l : List (List UInt8)) (h : l.Pairwise (· < ·)) : (insD s l false).Pairwise (· < ·) ∧ ∀ x, x ∈ insD s l false ↔ x = s ∨ x ∈ l := by
  induction l with
  | nil => exact ⟨by simp [insD], fun x => by simp [insD]⟩
  | cons y r ih =>
    obtain ⟨h1, h2⟩ := List.pairwise_cons.1 h
    obtain ⟨i1, i2⟩ := ih h2
    simp only [insD, insD_done, Bool.false_eq_true, if_false]
    by_cases e : s = y
    · rw [if_pos e]
      refine ⟨h, fun x => ?_⟩
      rw [e]; simp
    · rw [if_neg e]
      by_cases hl : s < y
      · rw [if_pos hl]
        refine ⟨List.pairwise_cons.2 ⟨fun a ha => ?_, h⟩, fun x => by simp⟩
        rcases List.mem_cons.1 ha with rfl | ha
        · exact hl
        · exact List.lt_trans hl (h1 a ha)
      · rw [if_neg hl]
        refine ⟨List.pairwise_cons.2 ⟨fun a ha => ?_, i1⟩, fun x => ?_⟩
        · rcases (i2 a).1 ha with rfl | ha
          · exact lt_of_not e hl
          · exact h1 a ha
        · rw [List.mem_cons, i2, List.mem_cons]
          constructor
          · rintro (h | h | h)
            · exact .inr (.inl h)
            · exact .inl h
            · exact .inr (.inr h)
          · rintro (h | h | h)
            · exact .inr (.inl h)
            · exact .inl h
            · exact .inr (.inr h)
theorem putAll_props (l : List ByteArray) : ∀ ts : List (List UInt8), ts.Pairwise (· < ·) → (putAll ts l).Pairwise (· < ·) ∧ ∀ x, x ∈ putAll ts l ↔ x ∈ ts ∨ x ∈ brs l := by
  induction l with
  | nil => intro ts h; exact ⟨h, fun x => by simp [putAll, brs]⟩
  | cons s l ih =>
    intro ts h
    obtain ⟨h1, h2⟩ := insD_props s.data.toList ts h
    obtain ⟨h3, h4⟩ := ih _ h1
    refine ⟨h3, fun x => ?_⟩
    show x ∈ putAll (insD s.data.toList ts false) l ↔ _
    rw [h4, h2]
    show _ ↔ x ∈ ts ∨ x ∈ s.data.toList :: brs l
    rw [List.mem_cons]
    constructor
    · rintro ((h | h) | h)
      · exact .inr (.inl h)
      · exact .inl h
      · exact .inr (.inr h)
    · rintro (h | h | h)
      · exact .inl (.inr h)
      · exact .inl (.inl h)
      · exact .inr h
theorem rising_eq : ∀ a b : List (List UInt8), a.Pairwise (· < ·) → b.Pairwise (· < ·) → (∀ x, x ∈ a ↔ x ∈ b) → a = b
  | [], [], _, _, _ => rfl
  | [], y :: b, _, _, h => absurd ((h y).2 (List.mem_cons_self ..)) (by simp)
  | x :: a, [], _, _, h => absurd ((h x).1 (List.mem_cons_self ..)) (by simp)
  | x :: a, y :: b, ha, hb, h => by
    obtain ⟨a1, a2⟩ := List.pairwise_cons.1 ha
    obtain ⟨b1, b2⟩ := List.pairwise_cons.1 hb
    have hxy : x = y := by
      rcases List.mem_cons.1 ((h x).1 (List.mem_cons_self ..)) with e | e
      · exact e
      · rcases List.mem_cons.1 ((h y).2 (List.mem_cons_self ..)) with e' | e'
        · exact e'.symm
        · exact absurd (List.lt_trans (b1 x e) (a1 y e')) (List.lt_irrefl _)
    subst hxy
    have : a = b := rising_eq a b a2 b2 fun z => by
      constructor
      · intro hz
        rcases List.mem_cons.1 ((h z).1 (List.mem_cons_of_mem _ hz)) with e | e
        · subst e; exact absurd (a1 z hz) (List.lt_irrefl _)
        · exact e
      · intro hz
        rcases List.mem_cons.1 ((h z).2 (List.mem_cons_of_mem _ hz)) with e | e
        · subst e; exact absurd (b1 z hz) (List.lt_irrefl _)
        · exact e
    rw [this]
theorem putAll_fin (l : List ByteArray) : putAll [] l = fin l := by
  obtain ⟨h1, h2⟩ := putAll_props l [] (by simp)
  obtain ⟨h3, h4⟩ := fin_props l
  exact rising_eq _ _ h1 h3 fun x => by rw [h2, h4]; simp

/-- append of two texts -/
theorem wpList_append_two {ops : Array Oper} {rest : List Oper} {o : Oper} {a : Act} {Q : Exit → Act → World → Prop} (hgd : o.guard = none) (s x : Operand)
    (ho : o.op = .call { callee := .builtin .append, args := #[s, x], argTypes := #[22, 22] })
    {B : Nat} {w0 w : World} {v : Value} {l : List ByteArray} (hs : a.eval s = v) (hE : ExtS B w0 w v l) (hB : B ≤ w.heap.size) (b b' : ByteArray)
    {n : Nat} (hx : a.eval x = .slice (some ⟨n, 0, none⟩) 2 2) (hnz : n = w.heap.size) (hlen : (l.length + 2) * 16 ≤ 140737488355328)
    (h : ∀ v' w', ExtS B w0 w' v' (l ++ [b, b']) → w.heap.size ≤ w'.heap.size → wpList Try.prog ops Q rest (a.put o.dst v') w') : wpList Try.prog ops Q (o :: rest) a (w.alloc (.cells #[.string b, .string b'] 9)) := by
  subst hnz
  obtain ⟨i0, hi, hz0, hz1, hz2⟩ := info_parts info9
  have hE1 := hE.alloc hB (.cells #[.string b, .string b'] 9)
  refine wpList_append_own _ hgd s x 22 ho B 9 i0 (.string ⟨#[]⟩) 1 16 Try.underlying22 hi hz0 hz1 hz2 rfl (by decide) v l.length (sts l) hs hE1.own ⟨w.heap.size, 0, none⟩ 2 2 [.string b, .string b'] hx rfl ?_ ?_ (by unfold maxLen; omega) (by omega) (by simp; omega) ?_
  · intro j u hj
    match j, hj with
    | 0, hj => simp at hj; subst hj; simp [Addr.add]
    | 1, hj => simp at hj; subst hj; simp [Addr.add]
    | (j + 2), hj => simp at hj
  · intro u hu; simp at hu; rcases hu with rfl | rfl <;> rfl
  · intro v' w' ho' hg _
    refine h v' w' (hE1.step (by simp; omega) ?_ hg) (by have := hg.size; simp at this; omega)
    rw [sts_append, List.length_append]
    exact ho'
end Go.Proofs.Ytjlglfjikfpboaa.texts
