/- A medium: raw writes, its segments and its past as they stand in memory. -/
import Derived.Test.YtoenkkbcpafanaaA02
import Derived.Test.YtoenkkbcpafanaaA06
import Derived.Lib.AppendStr
import Derived.Lib.BufferRead
import Derived.Lib.SlBytesRow
import Derived.Laws.Slices
import Derived.Test.YtoenkkbcpafanaaProg
import Derived.Laws.MakeOwn
import Derived.RangeFuncNested
import Derived.RangeFuncBound
import Derived.RangeFuncCalls
import Derived.RangeFuncLeaves
import Derived.Shelf.Abstract
import Derived.Shelf.RegionOpen
import Derived.WalkKit
import Derived.OwnWalkIn
import Derived.TacticsInMore
import Derived.LoopNIn
import Derived.LoopIn


namespace Go.Proofs.Ytoenkkbcpafanaa.mediums
set_option linter.unusedVariables false
set_option linter.unusedSimpArgs false
open Go.RowKit Go.Proofs.Ytoenkkbcpafanaa.base Go.Proofs.Ytoenkkbcpafanaa.trees Go.Proofs.Ytoenkkbcpafanaa.powers Go.Lib

/-- a raw write -/
structure RW where
  g : Int
  o : Int
  b : ByteArray
deriving DecidableEq
def RW.cells (x : RW) : List Value := [.int .i64 x.g, .int .i64 x.o, .string x.b]
abbrev RW.v (x : RW) : Value := .agg #[.int .i64 x.g, .int .i64 x.o, .string x.b]
def cellsR : List RW → List Value
  | [] => []
  | x :: l => x.cells ++ cellsR l
theorem cellsR_len : ∀ l : List RW, (cellsR l).length = l.length * 3
  | [] => rfl
  | x :: l => by rw [cellsR, List.length_append, cellsR_len l]; simp [RW.cells]; omega
theorem cellsR_app : ∀ l m : List RW, cellsR (l ++ m) = cellsR l ++ cellsR m
  | [], m => rfl
  | x :: l, m => by rw [List.cons_append, cellsR, cellsR_app l m, cellsR, List.append_assoc]
theorem cellsR_at : ∀ (l : List RW) {j : Nat} (hj : j < l.length), (cellsR l)[j * 3]? = some (.int .i64 l[j].g) ∧ (cellsR l)[j * 3 + 1]? = some (.int .i64 l[j].o) ∧ (cellsR l)[j * 3 + 2]? = some (.string l[j].b)
  | x :: l, 0, _ => ⟨rfl, rfl, rfl⟩
  | x :: l, j + 1, hj => by
    have ih := cellsR_at l (j := j) (by simpa using hj)
    have h3 : x.cells.length = 3 := rfl
    simp only [cellsR, List.getElem_cons_succ]
    refine ⟨?_, ?_, ?_⟩
    · rw [List.getElem?_append_right (by omega), h3, show (j + 1) * 3 - 3 = j * 3 by omega]; exact ih.1
    · rw [List.getElem?_append_right (by omega), h3, show (j + 1) * 3 + 1 - 3 = j * 3 + 1 by omega]; exact ih.2.1
    · rw [List.getElem?_append_right (by omega), h3, show (j + 1) * 3 + 2 - 3 = j * 3 + 2 by omega]; exact ih.2.2
theorem cellsR_one (l : List RW) : ∀ u ∈ cellsR l, u.oneCell' = true := by
  intro u hu
  induction l with
  | nil => simp [cellsR] at hu
  | cons x l ih =>
    rw [cellsR] at hu
    rcases List.mem_append.1 hu with h | h
    · simp [RW.cells] at h
      rcases h with rfl | rfl | rfl <;> rfl
    · exact ih h

/-! ### bytes -/
theorem strCells_app (a b : ByteArray) : strCells (a ++ b) = strCells a ++ strCells b := by
  simp [strCells, ByteArray.data_append]
theorem strCells_take (s : ByteArray) (k : Nat) : strCells (s.extract 0 k) = (strCells s).take k := by
  simp [strCells, ByteArray.data_extract, Array.toList_extract, List.map_take]
theorem size_take (s : ByteArray) (k : Nat) (hk : k ≤ s.size) : (s.extract 0 k).size = k := by simp [ByteArray.size_extract]; omega
theorem size_app (a b : ByteArray) : (a ++ b).size = a.size + b.size := ByteArray.size_append

/-- the head of a row of the call's own -/
theorem row_upto {P : Program} {tS e : TypeId} {i0 : TypeInfo} (ht : P.underlying tS = some (.slice e)) (hi0 : P.info? e = some i0) (hsz : i0.size = 1) {w : World} {lo : Nat} {v : Value} {n : Nat} {xs : List Value} (h : w.ownsRow lo e 1 v n xs) (k : Nat) (hk : k ≤ n) :
    ∃ v', (∀ u : World, (Instr.slice tS v none (some (.int .i64 (k : Int))) none).run P u = .ok v' u) ∧ w.ownsRow lo e 1 v' k (xs.take k) ∧ v'.ownBlock = v.ownBlock ∧ (v' = .slice none 0 0 ↔ v = .slice none 0 0) := by
  have he : P.elem tS = e := by simp [Program.elem, ht]
  have ht' : P.underlying tS = some (.slice (P.elem tS)) := by rw [he]; exact ht
  obtain ⟨hx, h1⟩ := h
  have hx' : xs.length = n := by simpa using hx
  rcases h1 with ⟨rfl, rfl⟩ | ⟨g, cap, cur, rfl, hg, hb, hc, hm, hs, htk⟩
  · obtain rfl : k = 0 := by omega
    refine ⟨.slice none 0 0, fun u => ?_, ⟨by simp, .inl ⟨rfl, rfl⟩⟩, rfl, by simp⟩
    rw [run_slice_h u tS none 0 0 ht' .i64 ((0 : Nat) : Int) (by omega) (by omega)]
    simp [he, sizeOf, typeInfo, hi0, hsz, Result.andThen, sliced]
  · refine ⟨.slice (some ⟨g, 0, none⟩) k cap, fun u => ?_, ⟨by rw [List.length_take]; omega, .inr ⟨g, cap, cur, rfl, hg, hb, by omega, hm, hs, ?_⟩⟩, rfl, by simp⟩
    · rw [run_slice_h u tS _ n cap ht' .i64 k (by omega) (by omega)]
      simp [he, sizeOf, typeInfo, hi0, hsz, Result.andThen, sliced, Addr.add]
    · rw [← htk, List.take_take]
      congr 1
      omega

section
variable {P : Program}
/-- append of a text's bytes to a row of the call's own: it writes its own block, or a new one -/
theorem run_putS {tS tT e ty : TypeId} {i0 : TypeInfo} (hun : P.underlying tS = some (.slice e)) (htx : P.underlying tT = some .string) (hi0 : P.info? e = some i0) (hz0 : i0.zero = some (.int .u8 0)) (hz1 : i0.size = 1) (hz2 : i0.bytes = 1)
    {w : World} {v : Value} {n : Nat} {xs : List Value} (hown : w.ownsRow 0 e 1 v n xs) (s : ByteArray) (hlen : n + s.size ≤ 140737488355328) :
    ∃ v' w', (Builtin.append_ #[tS, tT] ty #[v, .string s]).run P w = .ok v' w' ∧ w'.ownsRow 0 e 1 v' (n + s.size) (xs ++ strCells s) ∧ Keep (fun g => v.ownBlock = some g) w w' ∧ (∀ g, v'.ownBlock = some g → v.ownBlock = some g ∨ (w.heap.size ≤ g ∧ g < w'.heap.size)) := by
  have hmax : n + s.size ≤ maxLen := by unfold maxLen; omega
  obtain ⟨v', w', hr, ho', hg, hiff⟩ := run_append_own_string (P := P) w 0 tS tT ty e i0 hun htx hi0 hz0 hz1 hz2 v n xs hown s hmax hlen (Nat.zero_le _)
  have hlt := ho'.lt
  refine ⟨v', w', hr, ho', ⟨hg.os, hg.tape, hg.output, hg.size, fun k hk hn => hg.block k hk (fun e => hn e.symm)⟩, fun g hg' => ?_⟩
  have hx : xs.length = n := by simpa using hown.1
  rcases hown.2 with ⟨rfl, rfl⟩ | ⟨g0, cap, cur, rfl, hb0, hb, hc, hm, hs, htk⟩
  · obtain rfl := List.eq_nil_of_length_eq_zero hx
    by_cases h0 : s.size = 0
    · rw [hiff.2 ⟨rfl, h0⟩] at hg'
      cases hg'
    · have hr2 := run_append_nil_string (P := P) w tS tT ty e i0 (.int .u8 0) hun htx hi0 hz0 s (by omega) (by omega) (by rw [hz2]; omega)
      rw [hr] at hr2
      injection hr2 with e1 e2
      subst e1
      have := hlt g hg'
      injection hg' with hg'
      simp only at hg'
      exact .inr ⟨by omega, this.2⟩
  · by_cases hroom : n + s.size ≤ cap
    · have hr2 := run_append_room_string (P := P) w tS tT ty e i0 hun htx hi0 hz1 g0 n cap cur hb s hroom (by omega)
      rw [hr] at hr2
      injection hr2 with e1 e2
      subst e1
      exact .inl hg'
    · have hr2 := run_append_grow_string (P := P) w tS tT ty e i0 (.int .u8 0) hun htx hi0 hz0 ⟨g0, 0, none⟩ n cap xs (by rw [hz1]; omega) (fun j u hj => ?_) s (by omega) (by omega) (by rw [hz2]; exact growslice_fits (by omega) (by omega))
      · rw [hr] at hr2
        injection hr2 with e1 e2
        subst e1
        have := hlt g hg'
        injection hg' with hg'
        simp only at hg'
        exact .inr ⟨by omega, this.2⟩
      · exact hown.cells (g := g0) rfl j u hj
theorem wp_putS {tS tT e : TypeId} {i0 : TypeInfo} (hun : P.underlying tS = some (.slice e)) (htx : P.underlying tT = some .string) (hi0 : P.info? e = some i0) (hz0 : i0.zero = some (.int .u8 0)) (hz1 : i0.size = 1) (hz2 : i0.bytes = 1)
    {o : Oper} {a : Act} {K : Act → World → Prop} {Q : Exit → Act → World → Prop} (sl x : Operand) (ho : o.op = .call { callee := .builtin .append, args := #[sl, x], argTypes := #[tS, tT] })
    {w : World} {v : Value} {n : Nat} {xs : List Value} (hown : w.ownsRow 0 e 1 v n xs) (hs : a.eval sl = v) (s : ByteArray) (hx : a.eval x = .string s) (hlen : n + s.size ≤ 140737488355328)
    (h : ∀ v' w', w'.ownsRow 0 e 1 v' (n + s.size) (xs ++ strCells s) → Keep (fun g => v.ownBlock = some g) w w' → (∀ g, v'.ownBlock = some g → v.ownBlock = some g ∨ (w.heap.size ≤ g ∧ g < w'.heap.size)) → K (a.put o.dst v') w') :
    Oper.wp P o a w K Q := by
  obtain ⟨v', w', hr, h2, h3, h4⟩ := run_putS (ty := o.type) hun htx hi0 hz0 hz1 hz2 hown s hlen
  unfold Oper.wp execOp
  simp only [ho, resolve, invoke, builtin, Sem.run_bind, Sem.run_pure, Result.andThen_ok, List.map_toArray, List.map_cons, List.map_nil, hs, hx, hr]
  exact h v' w' h2 h3 h4
end

/-! ### a medium -/
/-- a medium, but for its power -/
structure MS where
  size : Nat
  segs : List ByteArray
  past : List RW
/-- what is written in a segment -/
def MS.at_ (m : MS) (j : Nat) : ByteArray := m.segs[j]?.getD ⟨#[]⟩
/-- it lies in the blocks S: its head in g, the row of its segments in sb, what is written in those of vs, its past in vp's; its power in p -/
structure MdAt (w : World) (S : Nat → Prop) (p g : Nat) (m : MS) (sb : Nat) (vs : List Value) (vp : Value) : Prop where
  head : Blk w g 134 #[.pointer (some ⟨p, 0, none⟩), .int .i64 (m.size : Int), .slice (some ⟨sb, 0, none⟩) vs.length vs.length, vp]
  row : Blk w sb 260 vs.toArray
  len : vs.length = m.segs.length
  segs : ∀ j (h : j < vs.length), w.ownsRow 0 5 1 vs[j] (m.at_ j).size (strCells (m.at_ j))
  apart : ∀ i j (hi : i < vs.length) (hj : j < vs.length), i ≠ j → ∀ b, vs[i].ownBlock = some b → vs[j].ownBlock ≠ some b
  past : w.ownsRow 0 263 3 vp m.past.length (cellsR m.past)
  inS : S g ∧ S sb ∧ g ≠ sb
  segS : ∀ j (h : j < vs.length), ∀ b, vs[j].ownBlock = some b → S b ∧ b ≠ g ∧ b ≠ sb
  pastS : ∀ b, vp.ownBlock = some b → S b ∧ b ≠ g ∧ b ≠ sb ∧ ∀ j (h : j < vs.length), vs[j].ownBlock ≠ some b
  lt : ∀ b, S b → b < w.heap.size
  notp : ¬ S p
  plt : p < w.heap.size
  bnd : (1 ≤ m.size ∧ m.size ≤ 1048576) ∧ (1 ≤ vs.length ∧ vs.length ≤ 4096) ∧ (∀ j, (m.at_ j).size ≤ m.size) ∧ m.past.length * 32 ≤ 140737488355328
def Md (w : World) (S : Nat → Prop) (p g : Nat) (m : MS) : Prop := ∃ sb vs vp, MdAt w S p g m sb vs vp
section
variable {w w' : World} {S : Nat → Prop} {p g : Nat} {m : MS} {sb : Nat} {vs : List Value} {vp : Value}
theorem MdAt.agree (h : MdAt w S p g m sb vs vp) (hk : Agree w w' S) (hs : w.heap.size ≤ w'.heap.size) : MdAt w' S p g m sb vs vp :=
  { head := (hk g h.inS.1).trans h.head, row := (hk sb h.inS.2.1).trans h.row, len := h.len
    segs := fun j a => ownsRow_agree (h.segs j a) fun q hq => hk q (h.segS j a q hq).1
    apart := h.apart, past := ownsRow_agree h.past fun q hq => hk q (h.pastS q hq).1
    inS := h.inS, segS := h.segS, pastS := h.pastS, lt := fun b hb => Nat.lt_of_lt_of_le (h.lt b hb) hs, notp := h.notp, plt := Nat.lt_of_lt_of_le h.plt hs, bnd := h.bnd }
theorem Md.agree (h : Md w S p g m) (hk : Agree w w' S) (hs : w.heap.size ≤ w'.heap.size) : Md w' S p g m := by
  obtain ⟨sb, vs, vp, h⟩ := h
  exact ⟨sb, vs, vp, h.agree hk hs⟩
theorem Md.below (h : Md w S p g m) (hb : Below w.heap.size w w') : Md w' S p g m := by
  obtain ⟨sb, vs, vp, h⟩ := h
  exact ⟨sb, vs, vp, h.agree (Agree.of_below hb h.lt) hb.size⟩
theorem Md.keep {T : Nat → Prop} (h : Md w S p g m) (hk : Keep T w w') (hT : ∀ k, S k → ¬ T k) : Md w' S p g m := by
  obtain ⟨sb, vs, vp, h⟩ := h
  exact ⟨sb, vs, vp, h.agree (fun k hS => hk.block k (h.lt k hS) (hT k hS)) hk.size⟩
theorem Md.lt (h : Md w S p g m) : ∀ b, S b → b < w.heap.size := by obtain ⟨_, _, _, h⟩ := h; exact h.lt
theorem Md.notp (h : Md w S p g m) : ¬ S p := by obtain ⟨_, _, _, h⟩ := h; exact h.notp
theorem Md.inS (h : Md w S p g m) : S g := by obtain ⟨_, _, _, h⟩ := h; exact h.inS.1
theorem _root_.Go.Proofs.Ytoenkkbcpafanaa.powers.St.keep {T : Nat → Prop} (h : St T w w') : Keep T w w' := ⟨h.os, h.tape, h.output, h.size, h.block⟩
end

theorem bytes_at {w : World} {F : Nat → Prop} {b off : Nat} {s : ByteArray} (h : RdF w F (some ⟨b, off, none⟩) (strCells s)) : Bytes w b off s := fun i hi => by
  obtain ⟨b', o', e, _, hc⟩ := h i (.int .u8 (s[i].toNat : Int)) (by
    unfold strCells
    rw [List.getElem?_map, List.getElem?_eq_getElem (by simpa using hi)]
    simp [ByteArray.getElem_eq_getElem_data])
  cases e
  exact hc
/-- what string(s[o:o+n]) is: the slice, and the text out of it -/
theorem run_window {w : World} {F : Nat → Prop} {A : Option Addr} {c : Nat} {s : ByteArray} (h : RdF w F A (strCells s)) (h1 : s.size ≤ c) (h2 : A = none → c = 0) (o n : Nat) (hon : o + n ≤ s.size) :
    ∃ A' c', (∀ u : World, (Instr.slice 260 (.slice A s.size c) (some (.int .i64 (o : Int))) (some (.int .i64 ((o + n : Nat) : Int))) none).run Try.prog u = .ok (.slice A' n c') u) ∧ (convert 260 9 (.slice A' n c')).run Try.prog w = .ok (.string (s.extract o (o + n))) w := by
  have he : Try.prog.elem 260 = 5 := by kernel_rfl
  have hs1 : ∀ u : World, (Go.sizeOf 5).run Try.prog u = .ok 1 u := fun u => by
    have hi : (Try.prog.info? 5).map (·.size) = some 1 := by kernel_rfl
    obtain ⟨i0, hi0, hi1⟩ := Option.map_eq_some_iff.1 hi
    simp [sizeOf, typeInfo, hi0, hi1]
  have hrun : ∀ u : World, (Instr.slice 260 (.slice A s.size c) (some (.int .i64 (o : Int))) (some (.int .i64 ((o + n : Nat) : Int))) none).run Try.prog u = .ok (sliced A o (o + n) c 1) u := fun u => by
    rw [run_slice_lh u 260 _ _ _ (by rw [he]; exact Try.underlying260) .i64 .i64 (o : Int) ((o + n : Nat) : Int) (by omega) (by omega) (by omega), he, hs1]
    simp only [Result.andThen, Int.toNat_natCast]
  unfold sliced at hrun
  by_cases hn : n = 0
  · subst hn
    refine ⟨_, c - o, fun u => by rw [hrun u, Nat.add_zero, Nat.sub_self], ?_⟩
    have e0 : s.extract o (o + 0) = ⟨#[]⟩ := by
      apply ByteArray.ext
      apply Array.eq_empty_of_size_eq_zero
      simp [ByteArray.data_extract]
    rw [e0]
    generalize (if c = o then A else A.map fun x => x.add (o * 1)) = A'
    cases A' with
    | none => exact run_convert_nil_bytes w _ _ 5 _ Try.underlying260 Try.underlying5 Try.underlying9
    | some a =>
      rw [run_convert_bytes_string w _ _ 5 _ 0 _ Try.underlying260 Try.underlying5 Try.underlying9]
      rw [run_bytesToString w a 0 (c - o) [] (by simp [loadCells, loadCellsFrom, Sem.run_pure])]
      rfl
  · have hpos : 0 < (strCells s).length := by rw [strCells_length]; omega
    obtain ⟨b, off, e, _, _⟩ := h 0 _ (List.getElem?_eq_getElem hpos)
    subst e
    refine ⟨some ⟨b, off + o, none⟩, c - o, fun u => ?_, run_convert_window w _ 5 _ Try.underlying260 Try.underlying5 Try.underlying9 b off s (bytes_at h) o n (c - o) hon⟩
    rw [hrun u, Nat.add_sub_cancel_left, if_neg (by omega)]
    simp [base.add_plain]
end Go.Proofs.Ytoenkkbcpafanaa.mediums

/- A medium's small methods: has, Used, Count, Segments, Size, Read, New. -/

namespace Go.Proofs.Ytoenkkbcpafanaa.mediums
set_option linter.unusedVariables false
set_option linter.unusedSimpArgs false
open Go.RowKit Go.Proofs.Ytoenkkbcpafanaa.base Go.Proofs.Ytoenkkbcpafanaa.trees Go.Proofs.Ytoenkkbcpafanaa.powers Go.Lib

theorem infoU8 : (Try.prog.info? 5).map (fun i => (i.zero, i.size, i.bytes)) = some (some (.int .u8 0), 1, 1) := by kernel_rfl
theorem infoSl : (Try.prog.info? 260).map (fun i => (i.zero, i.size, i.bytes)) = some (some (.slice none 0 0), 1, 24) := by kernel_rfl
theorem infoRw : (Try.prog.info? 263).map (fun i => (i.zero, i.size, i.bytes)) = some (some (.agg #[.int .i64 0, .int .i64 0, .string ⟨#[]⟩]), 3, 32) := by kernel_rfl

section
variable {w : World} {S : Nat → Prop} {p g : Nat} {m : MS} {sb : Nat} {vs : List Value} {vp : Value}
theorem MdAt.seg (h : MdAt w S p g m sb vs vp) {j : Nat} (hj : j < vs.length) : ∃ A c, vs[j] = .slice A (m.at_ j).size c ∧ (m.at_ j).size ≤ c ∧ (A = none → c = 0) ∧ RdF w (fun k => vs[j].ownBlock = some k) A (strCells (m.at_ j)) ∧ w.cell? ⟨sb, j, none⟩ = some (.slice A (m.at_ j).size c) := by
  obtain ⟨A, c, e, h1, h2, h3⟩ := row_rdF (h.segs j hj)
  refine ⟨A, c, e, h1, h2, h3, ?_⟩
  have h4 := h.row.cell j
  rw [List.getElem?_toArray, List.getElem?_eq_getElem hj, e] at h4
  exact h4
theorem MdAt.seg_le (h : MdAt w S p g m sb vs vp) {j : Nat} (hj : j < vs.length) : (m.at_ j).size ≤ m.size := h.bnd.2.2.1 j

set_option maxRecDepth 100000 in
set_option maxHeartbeats 2000000 in
theorem has_ok (h : MdAt w S p g m sb vs vp) (sg : Int) :
    Calls Try.prog 160 #[.pointer (some ⟨g, 0, none⟩), .int .i64 sg] w fun e w' => e = .returned (.bool (decide (0 ≤ sg ∧ sg < (vs.length : Int)))) ∧ w' = w := by
  have x0 := h.head.cell 0
  have x1 := h.head.cell 1
  have x2 := h.head.cell 2
  have x3 := h.head.cell 3
  simp only [List.getElem?_toArray, List.getElem?_cons_zero, List.getElem?_cons_succ] at x0 x1 x2 x3
  have n1 := h.bnd.2.1.1
  have n2 := h.bnd.2.1.2
  clear h
  generalize vs.length = n at *
  by_cases h0 : 0 ≤ sg
  · by_cases h1 : sg < (n : Int)
    · go_enter Try.func160, Try.ntmps160
      go_wp2_with fail
      go_ret
      exact ⟨by simp [h0, h1], rfl⟩
    · go_enter Try.func160, Try.ntmps160
      go_wp2_with fail
      go_ret
      exact ⟨by simp [h0, h1], rfl⟩
  · have HH : ¬ (0 ≤ sg ∧ sg < (n : Int)) := fun h => h0 h.1
    go_enter Try.func160, Try.ntmps160
    go_wp2_with fail
    go_ret
    exact ⟨by first | rfl | (rw [decide_eq_false HH]; rfl), rfl⟩
theorem has_yes (h : MdAt w S p g m sb vs vp) (j : Nat) (hj : j < vs.length) :
    Calls Try.prog 160 #[.pointer (some ⟨g, 0, none⟩), .int .i64 (j : Int)] w fun e w' => e = .returned (.bool true) ∧ w' = w := by
  have := has_ok h (j : Int)
  rwa [decide_eq_true (by omega)] at this
theorem has_no (h : MdAt w S p g m sb vs vp) (sg : Int) (hj : ¬ (0 ≤ sg ∧ sg < (vs.length : Int))) :
    Calls Try.prog 160 #[.pointer (some ⟨g, 0, none⟩), .int .i64 sg] w fun e w' => e = .returned (.bool false) ∧ w' = w := by
  have := has_ok h sg
  rwa [decide_eq_false hj] at this

set_option maxRecDepth 100000 in
set_option maxHeartbeats 2000000 in
theorem used_yes (h : MdAt w S p g m sb vs vp) (j : Nat) (hj : j < vs.length) :
    Calls Try.prog 109 #[.pointer (some ⟨g, 0, none⟩), .int .i64 (j : Int)] w fun e w' => e = .returned (.int .i64 ((m.at_ j).size : Int)) ∧ w' = w := by
  obtain ⟨A, c, e, h1, h2, h3, hc⟩ := h.seg hj
  have hz := has_yes h j hj
  have x0 := h.head.cell 0
  have x1 := h.head.cell 1
  have x2 := h.head.cell 2
  have x3 := h.head.cell 3
  simp only [List.getElem?_toArray, List.getElem?_cons_zero, List.getElem?_cons_succ] at x0 x1 x2 x3
  have n1 := h.bnd.2.1.1
  have n2 := h.bnd.2.1.2
  generalize m.at_ j = s at *
  clear h e h3
  go_enter Try.func109, Try.ntmps109
  go_wp2_with fail
  refine hz.mono ?_
  rintro e w' ⟨rfl, rfl⟩
  go_wp2_with fail
  go_ret
  exact ⟨rfl, rfl⟩

set_option maxRecDepth 100000 in
set_option maxHeartbeats 2000000 in
theorem used_no (h : MdAt w S p g m sb vs vp) (sg : Int) (hj : ¬ (0 ≤ sg ∧ sg < (vs.length : Int))) :
    Calls Try.prog 109 #[.pointer (some ⟨g, 0, none⟩), .int .i64 sg] w fun e w' => e = .returned (.int .i64 0) ∧ w' = w := by
  have hz := has_no h sg hj
  go_enter Try.func109, Try.ntmps109
  go_wp2_with fail
  refine hz.mono ?_
  rintro e w' ⟨rfl, rfl⟩
  go_wp2_with fail
  go_ret
  exact ⟨rfl, rfl⟩

set_option maxRecDepth 100000 in
set_option maxHeartbeats 2000000 in
theorem count_ok (h : MdAt w S p g m sb vs vp) :
    Calls Try.prog 68 #[.pointer (some ⟨g, 0, none⟩)] w fun e w' => e = .returned (.int .i64 (m.past.length : Int)) ∧ w' = w := by
  obtain ⟨A, c, rfl, h1, h2, h3⟩ := row_rdF h.past
  have x0 := h.head.cell 0
  have x1 := h.head.cell 1
  have x2 := h.head.cell 2
  have x3 := h.head.cell 3
  simp only [List.getElem?_toArray, List.getElem?_cons_zero, List.getElem?_cons_succ] at x0 x1 x2 x3
  have n1 := h.bnd.2.1.1
  have n2 := h.bnd.2.1.2
  clear h h3
  go_enter Try.func68, Try.ntmps68
  go_wp2_with fail
  go_ret
  exact ⟨rfl, rfl⟩

set_option maxRecDepth 100000 in
set_option maxHeartbeats 2000000 in
theorem segments_ok (h : MdAt w S p g m sb vs vp) :
    Calls Try.prog 59 #[.pointer (some ⟨g, 0, none⟩)] w fun e w' => e = .returned (.int .i64 (vs.length : Int)) ∧ w' = w := by
  obtain ⟨A, c, rfl, h1, h2, h3⟩ := row_rdF h.past
  have x0 := h.head.cell 0
  have x1 := h.head.cell 1
  have x2 := h.head.cell 2
  have x3 := h.head.cell 3
  simp only [List.getElem?_toArray, List.getElem?_cons_zero, List.getElem?_cons_succ] at x0 x1 x2 x3
  have n1 := h.bnd.2.1.1
  have n2 := h.bnd.2.1.2
  clear h h3
  go_enter Try.func59, Try.ntmps59
  go_wp2_with fail
  go_ret
  exact ⟨rfl, rfl⟩

set_option maxRecDepth 100000 in
set_option maxHeartbeats 2000000 in
theorem size_ok (h : MdAt w S p g m sb vs vp) :
    Calls Try.prog 201 #[.pointer (some ⟨g, 0, none⟩)] w fun e w' => e = .returned (.int .i64 (m.size : Int)) ∧ w' = w := by
  obtain ⟨A, c, rfl, h1, h2, h3⟩ := row_rdF h.past
  have x0 := h.head.cell 0
  have x1 := h.head.cell 1
  have x2 := h.head.cell 2
  have x3 := h.head.cell 3
  simp only [List.getElem?_toArray, List.getElem?_cons_zero, List.getElem?_cons_succ] at x0 x1 x2 x3
  have n1 := h.bnd.2.1.1
  have n2 := h.bnd.2.1.2
  clear h h3
  go_enter Try.func201, Try.ntmps201
  go_wp2_with fail
  go_ret
  exact ⟨rfl, rfl⟩

set_option maxRecDepth 100000 in
set_option maxHeartbeats 2000000 in
theorem read_no (h : MdAt w S p g m sb vs vp) (sg o n : Int) (hj : ¬ (0 ≤ sg ∧ sg < (vs.length : Int))) :
    Calls Try.prog 302 #[.pointer (some ⟨g, 0, none⟩), .int .i64 sg, .int .i64 o, .int .i64 n] w fun e w' => e = .returned (.tuple #[.string ⟨#[]⟩, .int .i64 120]) ∧ w' = w := by
  have hz := has_no h sg hj
  go_enter Try.func302, Try.ntmps302
  go_wp2_with (first | (go_at_call 160; refine hz.mono ?_; rintro e w' ⟨rfl, rfl⟩))
  refine bodyPost_ret (v := .tuple #[.string ⟨#[]⟩, .int .i64 120]) (by simp [results, Try.results302, go_sem]) rfl ⟨rfl, rfl⟩

set_option maxRecDepth 100000 in
set_option maxHeartbeats 2000000 in
theorem read_ok (h : MdAt w S p g m sb vs vp) (j : Nat) (hj : j < vs.length) (o n : Nat) (hon : o + n ≤ (m.at_ j).size) :
    Calls Try.prog 302 #[.pointer (some ⟨g, 0, none⟩), .int .i64 (j : Int), .int .i64 (o : Int), .int .i64 (n : Int)] w fun e w' => e = .returned (.tuple #[.string ((m.at_ j).extract o (o + n)), .int .i64 0]) ∧ w' = w := by
  have hz := has_yes h j hj
  have hu := used_yes h j hj
  have hle := h.seg_le hj
  have hms := h.bnd.1.2
  obtain ⟨A, c, e, h1, h2, h3, hc⟩ := h.seg hj
  have x0 := h.head.cell 0
  have x1 := h.head.cell 1
  have x2 := h.head.cell 2
  have x3 := h.head.cell 3
  simp only [List.getElem?_toArray, List.getElem?_cons_zero, List.getElem?_cons_succ] at x0 x1 x2 x3
  have n1 := h.bnd.2.1.1
  have n2 := h.bnd.2.1.2
  generalize m.at_ j = s at *
  clear h e
  obtain ⟨A', c', hrun, hcv⟩ := run_window h3 h1 h2 o n hon
  have d1 : decide ((o : Int) < 0) = false := decide_eq_false (by omega)
  have d2 : decide ((s.size : Int) < (o : Int)) = false := decide_eq_false (by omega)
  have d3 : decide ((n : Int) < 0) = false := decide_eq_false (by omega)
  have e4 : IntKind.i64.wrap ((s.size : Int) - (o : Int)) = (s.size : Int) - (o : Int) := IntWalk.i64_in _ (by omega)
  have d4 : decide ((s.size : Int) - (o : Int) < (n : Int)) = false := decide_eq_false (by omega)
  have e5 : IntKind.i64.wrap ((o : Int) + (n : Int)) = (o : Int) + (n : Int) := IntWalk.i64_in _ (by omega)
  rw [show ((o + n : Nat) : Int) = (o : Int) + (n : Int) by omega] at hrun
  go_enter Try.func302, Try.ntmps302
  go_wp2_with (first | (go_at_call 160; refine hz.mono ?_; rintro e w' ⟨rfl, rfl⟩) | (go_at_call 109; refine hu.mono ?_; rintro e w' ⟨rfl, rfl⟩))
  refine bodyPost_ret (v := .tuple #[.string (s.extract o (o + n)), .int .i64 0]) (by simp [results, Try.results302, go_sem]) rfl ⟨rfl, rfl⟩
end
end Go.Proofs.Ytoenkkbcpafanaa.mediums

/- A medium is made; what was ever written is gone over. -/

namespace Go.Proofs.Ytoenkkbcpafanaa.mediums
set_option linter.unusedVariables false
set_option linter.unusedSimpArgs false
open Go.RowKit Go.Proofs.Ytoenkkbcpafanaa.base Go.Proofs.Ytoenkkbcpafanaa.trees Go.Proofs.Ytoenkkbcpafanaa.powers Go.Lib Go.Shelf
attribute [local go_sem] Oper.semAt_some

theorem made_one (z : Value) (n : Nat) : madeCells #[z] n = (List.replicate n z).toArray := by
  apply Array.ext'
  simp only [madeCells, Array.toList_map, Array.toList_range]
  apply List.ext_getElem
  · simp
  · intro i h1 h2
    simp [Nat.mod_one]
def newM (n size : Nat) : MS := ⟨size, List.replicate n ⟨#[]⟩, []⟩
theorem newM_at (n size j : Nat) : (newM n size).at_ j = ⟨#[]⟩ := by
  unfold MS.at_ newM
  simp only [List.getElem?_replicate]
  split <;> rfl

set_option maxRecDepth 100000 in
set_option maxHeartbeats 2000000 in
theorem mnew_ok (pb : Nat) (n size : Nat) (hn : 1 ≤ n ∧ n ≤ 4096) (hs : 1 ≤ size ∧ size ≤ 1048576) (w : World) (hp : pb < w.heap.size) :
    Calls Try.prog 54 #[.pointer (some ⟨pb, 0, none⟩), .int .i64 (n : Int), .int .i64 (size : Int)] w fun e w' => ∃ g, e = .returned (.tuple #[.pointer (some ⟨g, 0, none⟩), .int .i64 0]) ∧ Md w' (fun k => w.heap.size ≤ k ∧ k < w'.heap.size) pb g (newM n size) ∧ Below w.heap.size w w' := by
  obtain ⟨i0, hi, hz0, hz1, hz2⟩ := info_parts infoSl
  obtain ⟨n1, n2⟩ := hn
  obtain ⟨s1, s2⟩ := hs
  obtain ⟨M, hM⟩ : ∃ M, madeCells (Value.slice none 0 0).cells (((n : Int)).toNat * i0.size) = M := ⟨_, rfl⟩
  have hmk : ∀ u : World, (Instr.makeSlice 131 (.int .i64 (n : Int)) (.int .i64 (n : Int))).run Try.prog u = .ok (.slice (some ⟨u.heap.size, 0, none⟩) n n) (u.alloc (.cells M 260)) := fun u => by
    have h := run_make (P := Try.prog) u 131 260 i0 _ Try.underlying131 hi hz0 .i64 .i64 (n : Int) (n : Int) (by omega) (Int.le_refl _) (by rw [hz2]; omega) (by omega)
    rw [hM] at h
    simpa using h
  have hM' : M = (List.replicate n (Value.slice none 0 0)).toArray := by
    rw [← hM, hz1, Nat.mul_one, Int.toNat_natCast]
    exact made_one _ _
  have HM := powers.lay hM'
  clear hM'
  have kM := Blk.new w 260 M
  have kG := Blk.new (w.alloc (.cells M 260)) 134 #[.pointer (some ⟨pb, 0, none⟩), .int .i64 (size : Int), .slice (some ⟨w.heap.size, 0, none⟩) n n, .slice none 0 0]
  have kM2 := kM.alloc (.cells #[.pointer (some ⟨pb, 0, none⟩), .int .i64 (size : Int), .slice (some ⟨w.heap.size, 0, none⟩) n n, .slice none 0 0] 134)
  have bb : Below w.heap.size w ((w.alloc (.cells M 260)).alloc (.cells #[.pointer (some ⟨pb, 0, none⟩), .int .i64 (size : Int), .slice (some ⟨w.heap.size, 0, none⟩) n n, .slice none 0 0] 134)) := ((Below.refl _ _).alloc (Nat.le_refl _) _).alloc (by simp) _
  clear hM
  go_enter Try.func54, Try.ntmps54
  go_wp2_with fail
  refine bodyPost_ret (v := .tuple #[.pointer (some ⟨w.heap.size + 1, 0, none⟩), .int .i64 0]) (by simp [results, Try.results54, go_sem]) rfl ⟨_, rfl, ?_, bb⟩
  simp only [World.size_alloc] at kG ⊢
  refine ⟨w.heap.size, List.replicate n (.slice none 0 0), .slice none 0 0, ?_⟩
  have hl : (List.replicate n (Value.slice none 0 0)).length = n := List.length_replicate
  refine ⟨(by rw [hl]; exact kG), (by rw [← HM.out]; exact kM2), (by rw [hl]; simp [newM]), fun j hj => ?_, fun i j hi hj _ b hb => ?_, World.ownsRow_nil _ _ _ _, ⟨⟨by omega, by omega⟩, ⟨by omega, by omega⟩, by omega⟩, fun j hj b hb => ?_, (fun b hb => by cases hb), (fun b hb => by simp; omega), (fun h => by omega), (by simp; omega), ⟨s1, s2⟩, (by rw [hl]; exact ⟨n1, n2⟩), (fun j => by rw [newM_at]; exact Nat.zero_le _), by simp [newM]⟩
  · rw [newM_at]
    simp only [List.getElem_replicate]
    exact World.ownsRow_nil _ _ _ _
  · simp only [List.getElem_replicate] at hb
    cases hb
  · simp only [List.getElem_replicate] at hb
    cases hb

/-- raw writes in a row, in blocks of F -/
def RsF (w : World) (F : Nat → Prop) (l : List RW) (A : Option Addr) (c : Nat) : Prop := l.length ≤ c ∧ l.length * 32 ≤ 140737488355328 ∧ (A = none → c = 0) ∧ RdF w F A (cellsR l)
theorem RsF.agree {w w' : World} {F : Nat → Prop} {l : List RW} {A : Option Addr} {c : Nat} (h : RsF w F l A c) (hk : Agree w w' F) : RsF w' F l A c := ⟨h.1, h.2.1, h.2.2.1, h.2.2.2.agree hk⟩
theorem RsF.mono {w : World} {F G : Nat → Prop} {l : List RW} {A : Option Addr} {c : Nat} (h : RsF w F l A c) (hG : ∀ g, F g → G g) : RsF w G l A c := ⟨h.1, h.2.1, h.2.2.1, h.2.2.2.mono hG⟩
theorem RsF.at_ {w : World} {F : Nat → Prop} {l : List RW} {A : Option Addr} {c : Nat} (h : RsF w F l A c) {j : Nat} (hj : j < l.length) : ∃ b off, A = some ⟨b, off, none⟩ ∧ F b ∧ w.cell? ⟨b, off + j * 3, none⟩ = some (.int .i64 l[j].g) ∧ w.cell? ⟨b, off + j * 3 + 1, none⟩ = some (.int .i64 l[j].o) ∧ w.cell? ⟨b, off + j * 3 + 2, none⟩ = some (.string l[j].b) := by
  obtain ⟨c0, c1, c2⟩ := cellsR_at l hj
  obtain ⟨b, off, e, hb, h0⟩ := h.2.2.2 _ _ c0
  obtain ⟨b1, off1, e1, hb1, h1⟩ := h.2.2.2 _ _ c1
  obtain ⟨b2, off2, e2, hb2, h2⟩ := h.2.2.2 _ _ c2
  rw [e] at e1 e2
  cases e1
  cases e2
  exact ⟨b, off, e, hb, h0, by rw [Nat.add_assoc]; exact h1, by rw [Nat.add_assoc]; exact h2⟩
theorem rsF_of_row {w : World} {lo : Nat} {v : Value} {l : List RW} (h : w.ownsRow lo 263 3 v l.length (cellsR l)) (hl : l.length * 32 ≤ 140737488355328) : ∃ A c, v = .slice A l.length c ∧ RsF w (fun k => v.ownBlock = some k) l A c := by
  obtain ⟨A, c, e, h1, h2, h3⟩ := row_rdF h
  exact ⟨A, c, e, h1, hl, h2, h3⟩
theorem take_snoc {l : List RW} {k : Nat} (hk : k < l.length) : l.take k ++ [l[k]] = l.take (k + 1) := by rw [List.take_add_one, List.getElem?_eq_getElem hk]; rfl

/-- what Past goes over: its row and the box that holds it -/
def GP (b : Nat) (vp : Value) (k : Nat) : Prop := k = b ∨ vp.ownBlock = some k

def bytesP (l : List RW) : Nat := (l.map fun x => x.b.size).foldl (· + ·) 0
theorem bytesP_snoc (l : List RW) (x : RW) : bytesP (l ++ [x]) = bytesP l + x.b.size := by simp [bytesP, List.foldl_append]
end Go.Proofs.Ytoenkkbcpafanaa.mediums
