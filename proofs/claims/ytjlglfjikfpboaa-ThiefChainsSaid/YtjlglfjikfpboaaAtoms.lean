/- The program's Atoms: all texts of the terms that are right, sorted, each once. -/
import Derived.Test.YtjlglfjikfpboaaTexts
import Derived.Test.YtjlglfjikfpboaaShelf
import Derived.Test.YtjlglfjikfpboaaTermC
import Derived.Sort.OwnSorted
import Derived.Lib.RowBridge


namespace Go.Proofs.Ytjlglfjikfpboaa.texts
set_option linter.unusedVariables false
set_option linter.unusedSimpArgs false
open Go.RowKit Go.Proofs.Ytjlglfjikfpboaa.base Go.Proofs.Ytjlglfjikfpboaa.tm Go.Proofs.Ytjlglfjikfpboaa.lies Go.Proofs.Ytjlglfjikfpboaa.rights Go.Proofs.Ytjlglfjikfpboaa.encs

/-- texts as lists of bytes -/
def brs (l : List ByteArray) : List (List UInt8) := l.map (·.data.toList)
theorem sts_brs (l : List ByteArray) : sts l = (brs l).map encStr := by
  unfold sts brs
  rw [List.map_map]
  exact List.map_congr_left fun s _ => rfl
theorem brs_len (l : List ByteArray) : (brs l).length = l.length := by simp [brs]
/-- sorted -/
def srt (l : List (List UInt8)) : List (List UInt8) := l.mergeSort fun x y => decide (x ≤ y)
theorem srt_len (l : List (List UInt8)) : (srt l).length = l.length := by simp [srt]
/-- sorted, each once -/
def fin (l : List ByteArray) : List (List UInt8) := Lib.compact (srt (brs l))
theorem fin_len (l : List ByteArray) : (fin l).length ≤ l.length := by
  have := Lib.compact_length_le (srt (brs l))
  rw [srt_len, brs_len] at this
  exact this

/-- the slice v of texts ts, in a block from lo on -/
def Txt (w : World) (lo : Nat) (v : Value) (ts : List (List UInt8)) : Prop :=
  ∃ A c, v = .slice A ts.length c ∧ ts.length ≤ 140737488355328 ∧ ∀ j (h : j < ts.length), ∃ g, A = some ⟨g, 0, none⟩ ∧ lo ≤ g ∧ g < w.heap.size ∧ w.cell? ⟨g, j, none⟩ = some (encStr ts[j])
theorem Txt.below {w w' : World} {lo : Nat} {v : Value} {ts : List (List UInt8)} (h : Txt w lo v ts) (hb : Below w.heap.size w w') : Txt w' lo v ts := by
  obtain ⟨A, c, e, hl, h⟩ := h
  refine ⟨A, c, e, hl, fun j hj => ?_⟩
  obtain ⟨g, h1, h2, h3, h4⟩ := h j hj
  exact ⟨g, h1, h2, Nat.lt_of_lt_of_le h3 hb.size, (hb.cell (p := ⟨g, j, none⟩) h3).trans h4⟩
theorem Txt.alloc {w : World} {lo : Nat} {v : Value} {ts : List (List UInt8)} (h : Txt w lo v ts) (o : Obj) : Txt (w.alloc o) lo v ts := h.below ((Below.refl _ _).alloc (Nat.le_refl _) o)

/-- what Sort leaves -/
theorem sort_any {B : Nat} {W w : World} {v : Value} {l : List ByteArray} (hE : ExtS B W w v l) (hB : B ≤ w.heap.size) (hl : l.length ≤ 140737488355328) :
    Calls Try.prog 65 #[v] w fun e w' => e = .returned (.tuple #[]) ∧ Below B W w' ∧ w.heap.size ≤ w'.heap.size ∧ w'.ownsRow B 9 1 v (srt (brs l)).length ((srt (brs l)).map encStr) := by
  have hs : (srt (brs l)).length = l.length := by rw [srt_len, brs_len]
  rcases hE.own.2 with ⟨rfl, h0⟩ | ⟨g, cap, cur, rfl, hbase, hb, h1, h2, h3, h4⟩
  · refine (Try.slices_Sort_string_none none 0 w).mono ?_
    rintro e w' ⟨rfl, rfl⟩
    have e0 : srt (brs l) = [] := List.eq_nil_of_length_eq_zero (by omega)
    exact ⟨rfl, hE.below, Nat.le_refl _, by rw [e0]; exact ⟨rfl, .inl ⟨rfl, rfl⟩⟩⟩
  · have ht : cur.toList.take (brs l).length = (brs l).map encStr := by rw [← sts_brs, ← h4, brs_len, Nat.mul_one]
    have hg := (Array.getElem?_eq_some_iff.1 hb).1
    have hc := Try.slices_Sort_string g 0 cap (brs l) w (holds_of_block hb ht) hg (by rw [brs_len]; omega)
    rw [brs_len] at hc
    refine hc.mono ?_
    rintro e w' ⟨rfl, n, os, rfl⟩
    have ho := ownsRow_sorted (base := B) (n := n) (os := os) (ss := brs l) (ts := srt (brs l)) (by rw [srt_len]) hbase hb (by rw [brs_len]; exact h1) h2 h3
    rw [brs_len] at ho
    rw [hs]
    refine ⟨rfl, hE.below.grown (grownBy_sorted (n := n) (os := os) (srt (brs l)).toArray) hB (fun k hk => ?_), by simp, ho⟩
    injection hk with hk
    omega

/-- what Compact leaves -/
theorem compact_any {B : Nat} {W w : World} {v : Value} {zs : List (List UInt8)} (hb0 : Below B W w) (hB : B ≤ w.heap.size) (ho : w.ownsRow B 9 1 v zs.length (zs.map encStr)) (hl : zs.length ≤ 140737488355328) :
    Calls Try.prog 66 #[v] w fun e w' => ∃ v', e = .returned v' ∧ Below B W w' ∧ w.heap.size ≤ w'.heap.size ∧ Txt w' B v' (Lib.compact zs) := by
  rcases ho.2 with ⟨rfl, h0⟩ | ⟨g, cap, cur, rfl, hbase, hb, h1, h2, h3, h4⟩
  · refine (Try.slices_Compact_string_empty none 0 w).mono ?_
    rintro e w' ⟨rfl, rfl⟩
    obtain rfl : zs = [] := List.eq_nil_of_length_eq_zero h0
    exact ⟨_, rfl, hb0, Nat.le_refl _, none, 0, rfl, Nat.zero_le _, fun j hj => absurd hj (Nat.not_lt_zero _)⟩
  · have ht : cur.toList.take zs.length = zs.map encStr := by rw [← h4, Nat.mul_one]
    have hg := (Array.getElem?_eq_some_iff.1 hb).1
    have hH := holds_of_block hb ht
    refine (Try.slices_Compact_string g 0 cap zs w hH (by omega) h1).mono ?_
    rintro e w' ⟨rfl, q, rfl⟩
    have hle := Lib.compact_length_le zs
    have hgr := grownBy_sorted (w := w) (g := g) (n := q) (os := #[]) (Lib.compact zs ++ List.replicate (zs.length - (Lib.compact zs).length) []).toArray
    rw [Sort.grow_empty] at hgr
    refine ⟨_, rfl, hb0.grown hgr hB (fun k hk => by injection hk with hk; omega), by simp, some ⟨g, 0, none⟩, cap, rfl, by omega, fun j hj => ⟨g, rfl, hbase, by simpa using hg, ?_⟩⟩
    have := Sort.cell?_putRow encStr (Sort.ahead w q) g 0 zs.toArray (Lib.compact zs ++ List.replicate (zs.length - (Lib.compact zs).length) []).toArray (Sort.holds_ahead _ _ _ _ _ _ hH) (by simp; omega) j (by simp; omega)
    rw [Nat.zero_add] at this
    rw [this]
    simp
    rw [List.getElem?_append_left hj, List.getElem?_eq_getElem hj]
    rfl

/-- the atoms of those that are right, one behind the other -/
def allOf : List T → List ByteArray
  | [] => []
  | t :: l => (if t.right = 0 then atoms t else []) ++ allOf l
theorem allOf_take (l : List T) (j : Nat) (h : j < l.length) : allOf (l.take (j + 1)) = allOf (l.take j) ++ (if l[j].right = 0 then atoms l[j] else []) := by
  induction l generalizing j with
  | nil => simp at h
  | cons t l ih =>
    cases j with
    | zero => simp [allOf]
    | succ j => simp only [List.take_succ_cons, allOf, List.getElem_cons_succ, List.append_assoc]; rw [ih j (by simpa using h)]
theorem allOf_le (l : List T) (j : Nat) : (allOf (l.take j)).length ≤ (allOf l).length := by
  induction l generalizing j with
  | nil => simp
  | cons t l ih =>
    cases j with
    | zero => simp [allOf]
    | succ j => simp only [List.take_succ_cons, allOf, List.length_append]; have := ih j; omega

theorem ExtS.quiet {B : Nat} {W w1 w2 : World} {u : Value} {l : List ByteArray} (h : ExtS B W w1 u l) (hB : B ≤ w1.heap.size) (hb : Below w1.heap.size w1 w2) : ExtS B W w2 u l := by
  refine ⟨⟨h.own.1, ?_⟩, h.below.trans (hb.mono hB), fun g T cs hT hk => (h.kept g T cs hT hk).below hb (h.kept g T cs hT hk).lt⟩
  rcases h.own.2 with h0 | ⟨g, cap, cur, e, hbase, hh, h1, h2, h3, h4⟩
  · exact .inl h0
  · have hg := (Array.getElem?_eq_some_iff.1 hh).1
    exact .inr ⟨g, cap, cur, e, hbase, (hb.block g hg).trans hh, h1, h2, h3, h4⟩

/-- at the loop's head -/
def LHead (B : Nat) (W : World) (l : List T) (u i : Value) (wr : World) : Prop :=
  ∃ j : Nat, j ≤ l.length ∧ i = .int .i64 j ∧ W.heap.size ≤ wr.heap.size ∧ ExtS B W wr u (allOf (l.take j))

set_option maxRecDepth 100000 in
set_option maxHeartbeats 800000 in
theorem atoms_any (l : List T) (A : Option Addr) (c : Nat) (xs : List Value) (w : World) (hlc : l.length ≤ c) (hlen : l.length * 56 ≤ 140737488355328) (hr : Rd w w.heap.size A xs) (hl : LiesL w w.heap.size l xs) (hN : ((allOf l).length + 4000) * 16 ≤ 140737488355328) :
    Calls Try.prog 28 #[.slice A l.length c] w fun e w' => ∃ v, e = .returned v ∧ Below w.heap.size w w' ∧ Txt w' w.heap.size v (fin (allOf l)) := by
  go_enter Try.func28, Try.ntmps28
  go_wp2_with fail
  go_loopw [3, 8] (fun u i wr => LHead w.heap.size w l u i wr) (fun _ i _ => l.length - (intOf i).toNat)
  case atStart => exact ⟨0, Nat.zero_le _, rfl, Nat.le_refl _, ExtS.nil _ _⟩
  case round =>
    obtain ⟨j, hj, rfl, hsz, hEj⟩ := hrel
    by_cases hlt : j < l.length
    · obtain ⟨b0, off, A', c', rfl, hbl, hv, c0, c1, c2, c3⟩ := at_cells (hr.below hEj.below) (hl.below hEj.below) hlt
      have hle := allOf_le l j
      have hTk := lay (allOf_take l j hlt)
      have hv1 := (hv.now hsz).later (Nat.le_refl _) (.cells #[.int .i64 l[j].k, .int .u64 l[j].n, .string l[j].s, .slice A' l[j].l.length c'] 39)
      have hcall := adds.right_any l[j] _ _ hv1
      have hE1 := hEj.alloc hsz (.cells #[.int .i64 l[j].k, .int .u64 l[j].n, .string l[j].s, .slice A' l[j].l.length c'] 39)
      have hbox := Blk.new wr 39 #[.int .i64 l[j].k, .int .u64 l[j].n, .string l[j].s, .slice A' l[j].l.length c']
      by_cases hR : l[j].right = 0
      · obtain ⟨hsize, _, _⟩ := right_ok hR
        rw [hR] at hcall
        have HR := lay hR
        clear hR
        go_wp2_with (first
          | (go_at_call 61; refine hcall.mono ?_; rintro e w1 ⟨rfl, hb1⟩; have hb1' := hb1; have hE2 := hE1.quiet (by simp; omega) hb1; have hk1 := hbox.below hb1 (by simp); have y0 := hk1.cell 0; have y1 := hk1.cell 1; have y2 := hk1.cell 2; have y3 := hk1.cell 3; simp at y0 y1 y2 y3; have hsz1 : wr.heap.size < w1.heap.size := by { have := hb1.size; simp at this; omega })
          | (go_at_call 64; refine (append_any l[j].size l[j] _ _ _ w.heap.size _ _ (Nat.le_refl _) ((hv.alloc (by omega) _).below (hb1.mono (by simp; omega))) (by omega) hE2 (by omega)).mono ?_; rintro e w4 ⟨v4, rfl, hE4, hsz4⟩))
        exact ⟨⟨j + 1, hlt, by go_num, by omega, by rw [hTk.out, if_pos HR.out]; exact hE4⟩, by simp [intOf]; omega⟩
      · have d1 : (l[j].right == 0) = false := by simpa using hR
        have HR := lay hR
        clear hR
        go_wp2_with (go_at_call 61; refine hcall.mono ?_; rintro e w1 ⟨rfl, hb1⟩; have hE2 := hE1.quiet (by simp; omega) hb1; have hsz1 : wr.heap.size < w1.heap.size := by { have := hb1.size; simp at this; omega })
        exact ⟨⟨j + 1, hlt, by go_num, by omega, by rw [hTk.out, if_neg HR.out, List.append_nil]; exact hE2⟩, by simp [intOf]; omega⟩
    · have hjl : l.take j = l := List.take_of_length_le (by omega)
      rw [hjl] at hEj
      have h1 := sort_any hEj hsz (by omega)
      go_wp2_with fail
      refine h1.mono ?_
      rintro e w1 ⟨rfl, hb1, hz1, ho⟩
      have hlen' := brs_len (allOf l)
      have hlen2 := srt_len (brs (allOf l))
      have h2 := compact_any hb1 (by omega) ho (by omega)
      go_wp2_with fail
      refine h2.mono ?_
      rintro e w2 ⟨v', rfl, hb2, hz2, hT⟩
      go_wp2_with fail
      go_ret
      exact ⟨_, rfl, hb2, hT⟩
end Go.Proofs.Ytjlglfjikfpboaa.texts
