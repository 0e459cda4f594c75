/- A medium: raw writes, its segments and its past as they stand in memory. -/
import Derived.Test.YtoenkkbcpafanaaPwB
import Derived.Test.YtoenkkbcpafanaaTrA
import Derived.Lib.AppendStr
import Derived.Lib.BufferRead
import Derived.Lib.SlBytesRow
import Derived.Laws.Slices


namespace Go.Proofs.Ytoenkkbcpafanaa.mediums
set_option linter.unusedVariables false
set_option linter.unusedSimpArgs false
open Go.RowKit Go.Proofs.Ytoenkkbcpafanaa.base Go.Proofs.Ytoenkkbcpafanaa.trees Go.Proofs.Ytoenkkbcpafanaa.powers Go.Lib

/-- a raw write -/
structure RW where
  g : Int
  o : Int
  b : ByteArray
deriving DecidableEq
def RW.cells (x : RW) : List Value := [.int .i64 x.g, .int .i64 x.o, .string x.b]
abbrev RW.v (x : RW) : Value := .agg #[.int .i64 x.g, .int .i64 x.o, .string x.b]
def cellsR : List RW → List Value
  | [] => []
  | x :: l => x.cells ++ cellsR l
theorem cellsR_len : ∀ l : List RW, (cellsR l).length = l.length * 3
  | [] => rfl
  | x :: l => by rw [cellsR, List.length_append, cellsR_len l]; simp [RW.cells]; omega
theorem cellsR_app : ∀ l m : List RW, cellsR (l ++ m) = cellsR l ++ cellsR m
  | [], m => rfl
  | x :: l, m => by rw [List.cons_append, cellsR, cellsR_app l m, cellsR, List.append_assoc]
theorem cellsR_at : ∀ (l : List RW) {j : Nat} (hj : j < l.length), (cellsR l)[j * 3]? = some (.int .i64 l[j].g) ∧ (cellsR l)[j * 3 + 1]? = some (.int .i64 l[j].o) ∧ (cellsR l)[j * 3 + 2]? = some (.string l[j].b)
  | x :: l, 0, _ => ⟨rfl, rfl, rfl⟩
  | x :: l, j + 1, hj => by
    have ih := cellsR_at l (j := j) (by simpa using hj)
    have h3 : x.cells.length = 3 := rfl
    simp only [cellsR, List.getElem_cons_succ]
    refine ⟨?_, ?_, ?_⟩
    · rw [List.getElem?_append_right (by omega), h3, show (j + 1) * 3 - 3 = j * 3 by omega]; exact ih.1
    · rw [List.getElem?_append_right (by omega), h3, show (j + 1) * 3 + 1 - 3 = j * 3 + 1 by omega]; exact ih.2.1
    · rw [List.getElem?_append_right (by omega), h3, show (j + 1) * 3 + 2 - 3 = j * 3 + 2 by omega]; exact ih.2.2
theorem cellsR_one (l : List RW) : ∀ u ∈ cellsR l, u.oneCell' = true := by
  intro u hu
  induction l with
  | nil => simp [cellsR] at hu
  | cons x l ih =>
    rw [cellsR] at hu
    rcases List.mem_append.1 hu with h | h
    · simp [RW.cells] at h
      rcases h with rfl | rfl | rfl <;> rfl
    · exact ih h

/-! ### bytes -/
theorem strCells_app (a b : ByteArray) : strCells (a ++ b) = strCells a ++ strCells b := by
  simp [strCells, ByteArray.data_append]
theorem strCells_take (s : ByteArray) (k : Nat) : strCells (s.extract 0 k) = (strCells s).take k := by
  simp [strCells, ByteArray.data_extract, Array.toList_extract, List.map_take]
theorem size_take (s : ByteArray) (k : Nat) (hk : k ≤ s.size) : (s.extract 0 k).size = k := by simp [ByteArray.size_extract]; omega
theorem size_app (a b : ByteArray) : (a ++ b).size = a.size + b.size := ByteArray.size_append

/-- the head of a row of the call's own -/
theorem row_upto {P : Program} {tS e : TypeId} {i0 : TypeInfo} (ht : P.underlying tS = some (.slice e)) (hi0 : P.info? e = some i0) (hsz : i0.size = 1) {w : World} {lo : Nat} {v : Value} {n : Nat} {xs : List Value} (h : w.ownsRow lo e 1 v n xs) (k : Nat) (hk : k ≤ n) :
    ∃ v', (∀ u : World, (Instr.slice tS v none (some (.int .i64 (k : Int))) none).run P u = .ok v' u) ∧ w.ownsRow lo e 1 v' k (xs.take k) ∧ v'.ownBlock = v.ownBlock ∧ (v' = .slice none 0 0 ↔ v = .slice none 0 0) := by
  have he : P.elem tS = e := by simp [Program.elem, ht]
  have ht' : P.underlying tS = some (.slice (P.elem tS)) := by rw [he]; exact ht
  obtain ⟨hx, h1⟩ := h
  have hx' : xs.length = n := by simpa using hx
  rcases h1 with ⟨rfl, rfl⟩ | ⟨g, cap, cur, rfl, hg, hb, hc, hm, hs, htk⟩
  · obtain rfl : k = 0 := by omega
    refine ⟨.slice none 0 0, fun u => ?_, ⟨by simp, .inl ⟨rfl, rfl⟩⟩, rfl, by simp⟩
    rw [run_slice_h u tS none 0 0 ht' .i64 ((0 : Nat) : Int) (by omega) (by omega)]
    simp [he, sizeOf, typeInfo, hi0, hsz, Result.andThen, sliced]
  · refine ⟨.slice (some ⟨g, 0, none⟩) k cap, fun u => ?_, ⟨by rw [List.length_take]; omega, .inr ⟨g, cap, cur, rfl, hg, hb, by omega, hm, hs, ?_⟩⟩, rfl, by simp⟩
    · rw [run_slice_h u tS _ n cap ht' .i64 k (by omega) (by omega)]
      simp [he, sizeOf, typeInfo, hi0, hsz, Result.andThen, sliced, Addr.add]
    · rw [← htk, List.take_take]
      congr 1
      omega

section
variable {P : Program}
/-- append of a text's bytes to a row of the call's own: it writes its own block, or a new one -/
theorem run_putS {tS tT e ty : TypeId} {i0 : TypeInfo} (hun : P.underlying tS = some (.slice e)) (htx : P.underlying tT = some .string) (hi0 : P.info? e = some i0) (hz0 : i0.zero = some (.int .u8 0)) (hz1 : i0.size = 1) (hz2 : i0.bytes = 1)
    {w : World} {v : Value} {n : Nat} {xs : List Value} (hown : w.ownsRow 0 e 1 v n xs) (s : ByteArray) (hlen : n + s.size ≤ 140737488355328) :
    ∃ v' w', (Builtin.append_ #[tS, tT] ty #[v, .string s]).run P w = .ok v' w' ∧ w'.ownsRow 0 e 1 v' (n + s.size) (xs ++ strCells s) ∧ Keep (fun g => v.ownBlock = some g) w w' ∧ (∀ g, v'.ownBlock = some g → v.ownBlock = some g ∨ (w.heap.size ≤ g ∧ g < w'.heap.size)) := by
  have hmax : n + s.size ≤ maxLen := by unfold maxLen; omega
  obtain ⟨v', w', hr, ho', hg, hiff⟩ := run_append_own_string (P := P) w 0 tS tT ty e i0 hun htx hi0 hz0 hz1 hz2 v n xs hown s hmax hlen (Nat.zero_le _)
  have hlt := ho'.lt
  refine ⟨v', w', hr, ho', ⟨hg.os, hg.tape, hg.output, hg.size, fun k hk hn => hg.block k hk (fun e => hn e.symm)⟩, fun g hg' => ?_⟩
  have hx : xs.length = n := by simpa using hown.1
  rcases hown.2 with ⟨rfl, rfl⟩ | ⟨g0, cap, cur, rfl, hb0, hb, hc, hm, hs, htk⟩
  · obtain rfl := List.eq_nil_of_length_eq_zero hx
    by_cases h0 : s.size = 0
    · rw [hiff.2 ⟨rfl, h0⟩] at hg'
      cases hg'
    · have hr2 := run_append_nil_string (P := P) w tS tT ty e i0 (.int .u8 0) hun htx hi0 hz0 s (by omega) (by omega) (by rw [hz2]; omega)
      rw [hr] at hr2
      injection hr2 with e1 e2
      subst e1
      have := hlt g hg'
      injection hg' with hg'
      simp only at hg'
      exact .inr ⟨by omega, this.2⟩
  · by_cases hroom : n + s.size ≤ cap
    · have hr2 := run_append_room_string (P := P) w tS tT ty e i0 hun htx hi0 hz1 g0 n cap cur hb s hroom (by omega)
      rw [hr] at hr2
      injection hr2 with e1 e2
      subst e1
      exact .inl hg'
    · have hr2 := run_append_grow_string (P := P) w tS tT ty e i0 (.int .u8 0) hun htx hi0 hz0 ⟨g0, 0, none⟩ n cap xs (by rw [hz1]; omega) (fun j u hj => ?_) s (by omega) (by omega) (by rw [hz2]; exact growslice_fits (by omega) (by omega))
      · rw [hr] at hr2
        injection hr2 with e1 e2
        subst e1
        have := hlt g hg'
        injection hg' with hg'
        simp only at hg'
        exact .inr ⟨by omega, this.2⟩
      · exact hown.cells (g := g0) rfl j u hj
theorem wp_putS {tS tT e : TypeId} {i0 : TypeInfo} (hun : P.underlying tS = some (.slice e)) (htx : P.underlying tT = some .string) (hi0 : P.info? e = some i0) (hz0 : i0.zero = some (.int .u8 0)) (hz1 : i0.size = 1) (hz2 : i0.bytes = 1)
    {o : Oper} {a : Act} {K : Act → World → Prop} {Q : Exit → Act → World → Prop} (sl x : Operand) (ho : o.op = .call { callee := .builtin .append, args := #[sl, x], argTypes := #[tS, tT] })
    {w : World} {v : Value} {n : Nat} {xs : List Value} (hown : w.ownsRow 0 e 1 v n xs) (hs : a.eval sl = v) (s : ByteArray) (hx : a.eval x = .string s) (hlen : n + s.size ≤ 140737488355328)
    (h : ∀ v' w', w'.ownsRow 0 e 1 v' (n + s.size) (xs ++ strCells s) → Keep (fun g => v.ownBlock = some g) w w' → (∀ g, v'.ownBlock = some g → v.ownBlock = some g ∨ (w.heap.size ≤ g ∧ g < w'.heap.size)) → K (a.put o.dst v') w') :
    Oper.wp P o a w K Q := by
  obtain ⟨v', w', hr, h2, h3, h4⟩ := run_putS (ty := o.type) hun htx hi0 hz0 hz1 hz2 hown s hlen
  unfold Oper.wp execOp
  simp only [ho, resolve, invoke, builtin, Sem.run_bind, Sem.run_pure, Result.andThen_ok, List.map_toArray, List.map_cons, List.map_nil, hs, hx, hr]
  exact h v' w' h2 h3 h4
end

/-! ### a medium -/
/-- a medium, but for its power -/
structure MS where
  size : Nat
  segs : List ByteArray
  past : List RW
/-- what is written in a segment -/
def MS.at_ (m : MS) (j : Nat) : ByteArray := m.segs[j]?.getD ⟨#[]⟩
/-- it lies in the blocks S: its head in g, the row of its segments in sb, what is written in those of vs, its past in vp's; its power in p -/
structure MdAt (w : World) (S : Nat → Prop) (p g : Nat) (m : MS) (sb : Nat) (vs : List Value) (vp : Value) : Prop where
  head : Blk w g 134 #[.pointer (some ⟨p, 0, none⟩), .int .i64 (m.size : Int), .slice (some ⟨sb, 0, none⟩) vs.length vs.length, vp]
  row : Blk w sb 260 vs.toArray
  len : vs.length = m.segs.length
  segs : ∀ j (h : j < vs.length), w.ownsRow 0 5 1 vs[j] (m.at_ j).size (strCells (m.at_ j))
  apart : ∀ i j (hi : i < vs.length) (hj : j < vs.length), i ≠ j → ∀ b, vs[i].ownBlock = some b → vs[j].ownBlock ≠ some b
  past : w.ownsRow 0 263 3 vp m.past.length (cellsR m.past)
  inS : S g ∧ S sb ∧ g ≠ sb
  segS : ∀ j (h : j < vs.length), ∀ b, vs[j].ownBlock = some b → S b ∧ b ≠ g ∧ b ≠ sb
  pastS : ∀ b, vp.ownBlock = some b → S b ∧ b ≠ g ∧ b ≠ sb ∧ ∀ j (h : j < vs.length), vs[j].ownBlock ≠ some b
  lt : ∀ b, S b → b < w.heap.size
  notp : ¬ S p
  plt : p < w.heap.size
  bnd : (1 ≤ m.size ∧ m.size ≤ 1048576) ∧ (1 ≤ vs.length ∧ vs.length ≤ 4096) ∧ (∀ j, (m.at_ j).size ≤ m.size) ∧ m.past.length * 32 ≤ 140737488355328
def Md (w : World) (S : Nat → Prop) (p g : Nat) (m : MS) : Prop := ∃ sb vs vp, MdAt w S p g m sb vs vp
section
variable {w w' : World} {S : Nat → Prop} {p g : Nat} {m : MS} {sb : Nat} {vs : List Value} {vp : Value}
theorem MdAt.agree (h : MdAt w S p g m sb vs vp) (hk : Agree w w' S) (hs : w.heap.size ≤ w'.heap.size) : MdAt w' S p g m sb vs vp :=
  { head := (hk g h.inS.1).trans h.head, row := (hk sb h.inS.2.1).trans h.row, len := h.len
    segs := fun j a => ownsRow_agree (h.segs j a) fun q hq => hk q (h.segS j a q hq).1
    apart := h.apart, past := ownsRow_agree h.past fun q hq => hk q (h.pastS q hq).1
    inS := h.inS, segS := h.segS, pastS := h.pastS, lt := fun b hb => Nat.lt_of_lt_of_le (h.lt b hb) hs, notp := h.notp, plt := Nat.lt_of_lt_of_le h.plt hs, bnd := h.bnd }
theorem Md.agree (h : Md w S p g m) (hk : Agree w w' S) (hs : w.heap.size ≤ w'.heap.size) : Md w' S p g m := by
  obtain ⟨sb, vs, vp, h⟩ := h
  exact ⟨sb, vs, vp, h.agree hk hs⟩
theorem Md.below (h : Md w S p g m) (hb : Below w.heap.size w w') : Md w' S p g m := by
  obtain ⟨sb, vs, vp, h⟩ := h
  exact ⟨sb, vs, vp, h.agree (Agree.of_below hb h.lt) hb.size⟩
theorem Md.keep {T : Nat → Prop} (h : Md w S p g m) (hk : Keep T w w') (hT : ∀ k, S k → ¬ T k) : Md w' S p g m := by
  obtain ⟨sb, vs, vp, h⟩ := h
  exact ⟨sb, vs, vp, h.agree (fun k hS => hk.block k (h.lt k hS) (hT k hS)) hk.size⟩
theorem Md.lt (h : Md w S p g m) : ∀ b, S b → b < w.heap.size := by obtain ⟨_, _, _, h⟩ := h; exact h.lt
theorem Md.notp (h : Md w S p g m) : ¬ S p := by obtain ⟨_, _, _, h⟩ := h; exact h.notp
theorem Md.inS (h : Md w S p g m) : S g := by obtain ⟨_, _, _, h⟩ := h; exact h.inS.1
theorem _root_.Go.Proofs.Ytoenkkbcpafanaa.powers.St.keep {T : Nat → Prop} (h : St T w w') : Keep T w w' := ⟨h.os, h.tape, h.output, h.size, h.block⟩
end

theorem bytes_at {w : World} {F : Nat → Prop} {b off : Nat} {s : ByteArray} (h : RdF w F (some ⟨b, off, none⟩) (strCells s)) : Bytes w b off s := fun i hi => by
  obtain ⟨b', o', e, _, hc⟩ := h i (.int .u8 (s[i].toNat : Int)) (by
    unfold strCells
    rw [List.getElem?_map, List.getElem?_eq_getElem (by simpa using hi)]
    simp [ByteArray.getElem_eq_getElem_data])
  cases e
  exact hc
/-- what string(s[o:o+n]) is: the slice, and the text out of it -/
theorem run_window {w : World} {F : Nat → Prop} {A : Option Addr} {c : Nat} {s : ByteArray} (h : RdF w F A (strCells s)) (h1 : s.size ≤ c) (h2 : A = none → c = 0) (o n : Nat) (hon : o + n ≤ s.size) :
    ∃ A' c', (∀ u : World, (Instr.slice 260 (.slice A s.size c) (some (.int .i64 (o : Int))) (some (.int .i64 ((o + n : Nat) : Int))) none).run Try.prog u = .ok (.slice A' n c') u) ∧ (convert 260 9 (.slice A' n c')).run Try.prog w = .ok (.string (s.extract o (o + n))) w := by
  have he : Try.prog.elem 260 = 5 := by kernel_rfl
  have hs1 : ∀ u : World, (Go.sizeOf 5).run Try.prog u = .ok 1 u := fun u => by
    have hi : (Try.prog.info? 5).map (·.size) = some 1 := by kernel_rfl
    obtain ⟨i0, hi0, hi1⟩ := Option.map_eq_some_iff.1 hi
    simp [sizeOf, typeInfo, hi0, hi1]
  have hrun : ∀ u : World, (Instr.slice 260 (.slice A s.size c) (some (.int .i64 (o : Int))) (some (.int .i64 ((o + n : Nat) : Int))) none).run Try.prog u = .ok (sliced A o (o + n) c 1) u := fun u => by
    rw [run_slice_lh u 260 _ _ _ (by rw [he]; exact Try.underlying260) .i64 .i64 (o : Int) ((o + n : Nat) : Int) (by omega) (by omega) (by omega), he, hs1]
    simp only [Result.andThen, Int.toNat_natCast]
  unfold sliced at hrun
  by_cases hn : n = 0
  · subst hn
    refine ⟨_, c - o, fun u => by rw [hrun u, Nat.add_zero, Nat.sub_self], ?_⟩
    have e0 : s.extract o (o + 0) = ⟨#[]⟩ := by
      apply ByteArray.ext
      apply Array.eq_empty_of_size_eq_zero
      simp [ByteArray.data_extract]
    rw [e0]
    generalize (if c = o then A else A.map fun x => x.add (o * 1)) = A'
    cases A' with
    | none => exact run_convert_nil_bytes w _ _ 5 _ Try.underlying260 Try.underlying5 Try.underlying9
    | some a =>
      rw [run_convert_bytes_string w _ _ 5 _ 0 _ Try.underlying260 Try.underlying5 Try.underlying9]
      rw [run_bytesToString w a 0 (c - o) [] (by simp [loadCells, loadCellsFrom, Sem.run_pure])]
      rfl
  · have hpos : 0 < (strCells s).length := by rw [strCells_length]; omega
    obtain ⟨b, off, e, _, _⟩ := h 0 _ (List.getElem?_eq_getElem hpos)
    subst e
    refine ⟨some ⟨b, off + o, none⟩, c - o, fun u => ?_, run_convert_window w _ 5 _ Try.underlying260 Try.underlying5 Try.underlying9 b off s (bytes_at h) o n (c - o) hon⟩
    rw [hrun u, Nat.add_sub_cancel_left, if_neg (by omega)]
    simp [base.add_plain]
end Go.Proofs.Ytoenkkbcpafanaa.mediums
