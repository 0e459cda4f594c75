/- The law's after: what is told behind a call. So far: behind a Delete. -/
import Derived.Test.YtjlglfjikfpboaaBkHb


namespace Go.Proofs.Ytjlglfjikfpboaa.books
set_option linter.unusedVariables false
set_option linter.unusedSimpArgs false
open Go.RowKit Go.Shelf Go.Proofs.Ytjlglfjikfpboaa.base Go.Proofs.Ytjlglfjikfpboaa.quotas Go.Proofs.Ytjlglfjikfpboaa.vers Go.Proofs.Ytjlglfjikfpboaa.nodes Go.Proofs.Ytjlglfjikfpboaa.trees Go.Proofs.Ytjlglfjikfpboaa.texts

def flT (s : ByteArray) (T : List TM) (j : Nat) : List TM := (T.take j).filter fun x => decide (x.s ≠ s)
def tmOf (s : ByteArray) (T : List TM) (j : Nat) : TM := (((T.take j).filter fun x => decide (x.s = s)).getLast?).getD ⟨s, [], none, 0, 0⟩
theorem flT_yes {s : ByteArray} {T : List TM} {j : Nat} (hj : j < T.length) (h : T[j].s = s) : flT s T (j + 1) = flT s T j ∧ tmOf s T (j + 1) = T[j] := by
  unfold flT tmOf
  rw [List.take_succ_eq_append_getElem hj, List.filter_append, List.filter_append]
  constructor
  · simp [h]
  · rw [show [T[j]].filter (fun x => decide (x.s = s)) = [T[j]] by simp [h], List.getLast?_concat]
    rfl
theorem flT_no {s : ByteArray} {T : List TM} {j : Nat} (hj : j < T.length) (h : T[j].s ≠ s) : flT s T (j + 1) = flT s T j ++ [T[j]] ∧ tmOf s T (j + 1) = tmOf s T j := by
  unfold flT tmOf
  rw [List.take_succ_eq_append_getElem hj, List.filter_append, List.filter_append]
  constructor
  · simp [h]
  · rw [show [T[j]].filter (fun x => decide (x.s = s)) = [] by simp [h], List.append_nil]
theorem flT_le (s : ByteArray) (T : List TM) (j : Nat) : (flT s T j).length ≤ j := Nat.le_trans (List.length_filter_le _ _) (by rw [List.length_take]; omega)
theorem flT_mem {s : ByteArray} {T : List TM} {j : Nat} {x : TM} (h : x ∈ flT s T j) : x ∈ T := List.mem_of_mem_take (List.mem_filter.1 h).1
theorem flT_all (s : ByteArray) (T : List TM) : (flT s T T.length).map pT = (T.map pT).filter fun x => decide (x.s ≠ s) := by
  unfold flT
  rw [List.take_length, List.filter_map]
  rfl
theorem tmOf_all (s : ByteArray) (T : List TM) : pT (tmOf s T T.length) = tdOf (T.map pT) s := by
  unfold tmOf tdOf
  rw [List.take_length, List.filter_map, List.getLast?_map]
  have e : ((fun x : TD => decide (x.s = s)) ∘ pT) = fun x : TM => decide (x.s = s) := rfl
  rw [e]
  cases (T.filter fun x => decide (x.s = s)).getLast? <;> rfl
theorem tmOf_mem (s : ByteArray) (T : List TM) (j : Nat) : tmOf s T j ∈ T ∨ tmOf s T j = ⟨s, [], none, 0, 0⟩ := by
  unfold tmOf
  cases hl : ((T.take j).filter fun x => decide (x.s = s)).getLast? with
  | none => exact .inr rfl
  | some x => exact .inl (List.mem_of_mem_take (List.mem_filter.1 (List.mem_of_getLast? hl)).1)
abbrev tc (x : TM) : Array Value := #[.string x.s, .slice x.A x.l.length x.c, .int .i64 x.n]
/-- where the loop stands -/
structure AfHead (w : World) (o : O) (T : List TM) (j : Nat) (u : Value) (wr : World) : Prop where
  bel : Below w.heap.size w wr
  ob : Blk wr w.heap.size 92 (oc o)
  xb : Blk wr (w.heap.size + 1) 95 (tc (tmOf o.s T j))
  row : wr.ownsRow 0 95 3 u (flT o.s T j).length (cellsT (flT o.s T j))
  lo : ∀ g, u.ownBlock = some g → w.heap.size + 2 ≤ g
theorem AfHead.set3 {w : World} {o : O} {T : List TM} {j : Nat} {u : Value} {wr : World} (h : AfHead w o T j u wr) {x : TM} (hx : tmOf o.s T (j + 1) = x) (hf : flT o.s T (j + 1) = flT o.s T j) {a b c : Value} (ha : a = .string x.s) (hb : b = .slice x.A x.l.length x.c) (hc : c = .int .i64 x.n) :
    AfHead w o T (j + 1) u (((wr.setCell ⟨w.heap.size + 1, 0, none⟩ a).setCell ⟨w.heap.size + 1, 1, none⟩ b).setCell ⟨w.heap.size + 1, 2, none⟩ c) := by
  subst ha hb hc
  refine ⟨((h.bel.setCell (p := ⟨w.heap.size + 1, 0, none⟩) (by simp) _).setCell (p := ⟨w.heap.size + 1, 1, none⟩) (by simp) _).setCell (p := ⟨w.heap.size + 1, 2, none⟩) (by simp) _, ((h.ob.far (p := ⟨w.heap.size + 1, 0, none⟩) (by simp) _).far (p := ⟨w.heap.size + 1, 1, none⟩) (by simp) _).far (p := ⟨w.heap.size + 1, 2, none⟩) (by simp) _, ?_, ?_, h.lo⟩
  · rw [hx]
    have := ((h.xb.put 0 (.string x.s)).put 1 (.slice x.A x.l.length x.c)).put 2 (.int .i64 x.n)
    simpa using this
  · rw [hf]
    refine ownsRow_agree h.row fun g hg => ?_
    have := h.lo g hg
    rw [Below.heap_setCell _ _ _ _ (by simp; omega), Below.heap_setCell _ _ _ _ (by simp; omega), Below.heap_setCell _ _ _ _ (by simp; omega)]
theorem AfHead.below {w : World} {o : O} {T : List TM} {j : Nat} {u : Value} {wr w' : World} (h : AfHead w o T j u wr) (hb : Below wr.heap.size wr w') : AfHead w o T j u w' :=
  ⟨h.bel.trans (hb.mono h.bel.size), h.ob.below hb h.ob.lt, h.xb.below hb h.xb.lt, row_below h.row hb, h.lo⟩
theorem AfHead.put {w : World} {o : O} {T : List TM} {j : Nat} {u u' : Value} {wr w' : World} (h : AfHead w o T j u wr) {x : TM} (hf : flT o.s T (j + 1) = flT o.s T j ++ [x]) (ht : tmOf o.s T (j + 1) = tmOf o.s T j) (ho : w'.ownsRow 0 95 3 u' (flT o.s T j ++ [x]).length (cellsT (flT o.s T j ++ [x]))) (hK : Keep (fun g => u.ownBlock = some g) wr w') (hv : ∀ g, u'.ownBlock = some g → u.ownBlock = some g ∨ (wr.heap.size ≤ g ∧ g < w'.heap.size)) : AfHead w o T (j + 1) u' w' := by
  have l1 := h.xb.lt
  refine ⟨h.bel.trans (hK.below (fun g hg => by have := h.lo g hg; omega) h.bel.size), hK.blk h.ob (fun hs => by have := h.lo _ hs; omega), by rw [ht]; exact hK.blk h.xb (fun hs => by have := h.lo _ hs; omega), by rw [hf]; exact ho, fun g hg => (hv g hg).elim (h.lo g) (fun h => by omega)⟩

set_option maxRecDepth 100000 in
set_option maxHeartbeats 4000000 in
theorem after_del (T : List TM) (A : Option Addr) (c : Nat) (o : O) (w : World) (hT : TDs w w.heap.size T A c) (hl : T.length ≤ 1000000) (h3 : o.k = 3) :
    Calls Try.prog 47 #[.slice A T.length c, .agg #[.int .i64 o.k, .string o.s, .string o.v, .string o.t]] w fun e w' => ∃ T' A' c', e = .returned (.slice A' T'.length c') ∧ Below w.heap.size w w' ∧ TDs w' w'.heap.size T' A' c' ∧ T'.map pT = afterP (T.map pT) o ∧ ∀ lo, lo ≤ w.heap.size → LoT lo T A → LoT lo T' A' := by
  have hb0 : Below w.heap.size w ((w.alloc (.cells (oc o) 92)).alloc (.cells (tc ⟨o.s, [], none, 0, 0⟩) 95)) := ((Below.refl _ _).alloc (Nat.le_refl _) _).alloc (by simp) _
  have hk0 := (Blk.new w 92 (oc o)).alloc (.cells (tc ⟨o.s, [], none, 0, 0⟩) 95)
  have hk1 := Blk.new (w.alloc (.cells (oc o) 92)) 95 (tc ⟨o.s, [], none, 0, 0⟩)
  simp only [World.size_alloc] at hk1
  have H0 : AfHead w o T 0 (.slice none 0 0) ((w.alloc (.cells (oc o) 92)).alloc (.cells (tc ⟨o.s, [], none, 0, 0⟩) 95)) := ⟨hb0, hk0, hk1, ⟨rfl, .inl ⟨rfl, rfl⟩⟩, fun g h => by cases h⟩
  have hea : afterP (T.map pT) o = (flT o.s T T.length).map pT := by rw [flT_all]; unfold afterP; rw [if_pos h3]
  have d3 := eq_yes h3
  have HEA := vers.lay hea
  clear hb0 hk0 hk1 hea h3
  have hTl : T.length ≤ 140737488355328 := by omega
  obtain ⟨ok, os, ov, ot⟩ := o
  simp only [] at *
  go_enter Try.func47, Try.ntmps47
  go_wp2_with fail
  go_loopw [14, 5] (fun i u wr => ∃ j : Nat, j ≤ T.length ∧ i = .int .i64 (j : Int) ∧ AfHead w ⟨ok, os, ov, ot⟩ T j u wr) (fun i _ _ => T.length - (intOf i).toNat)
  case atStart => exact ⟨0, Nat.zero_le _, rfl, H0⟩
  case round =>
    clear H0
    obtain ⟨j, hj, rfl, hA⟩ := hrel
    by_cases hlt : j < T.length
    · obtain ⟨bk, off, rfl, hbk, x0, x1, x2, _⟩ := (hT.at_world hA.bel).at_ hlt
      have hy := vers.lay (fun h => flT_yes (s := os) hlt h)
      have hn := vers.lay (fun h => flT_no (s := os) hlt h)
      have hle := flT_le os T j
      generalize T[j] = x at x0 x1 x2 hy hn
      obtain ⟨xs, xl, xA, xc, xn⟩ := x
      simp only [] at x0 x1 x2 hy hn
      have bZ : Below wr.heap.size wr (wr.alloc (.cells #[.string xs, .slice xA xl.length xc, .int .i64 xn] 95)) := (Below.refl _ _).alloc (Nat.le_refl _) _
      have kZ := Blk.new wr 95 #[.string xs, .slice xA xl.length xc, .int .i64 xn]
      have HZ := hA.below bZ
      have zZ := bZ.size
      generalize hWZ : wr.alloc (.cells #[.string xs, .slice xA xl.length xc, .int .i64 xn] 95) = WZ at *
      have lZ := kZ.lt
      have y0 := kZ.cell 0
      have y1 := kZ.cell 1
      have y2 := kZ.cell 2
      simp only [List.getElem?_toArray, List.getElem?_cons_zero, List.getElem?_cons_succ] at y0 y1 y2
      obtain ⟨o0, o1, o2, o3⟩ := ocells HZ.ob
      have lO := HZ.ob.lt
      have lX := HZ.xb.lt
      have t0 := HZ.xb.cell 0
      have t1 := HZ.xb.cell 1
      have t2 := HZ.xb.cell 2
      simp only [List.getElem?_toArray, List.getElem?_cons_zero, List.getElem?_cons_succ] at t0 t1 t2
      have f0 := HZ.xb.frozen 0
      have f1 := HZ.xb.frozen 1
      have f2 := HZ.xb.frozen 2
      have lo0 := hA.ob.lt
      have hlw := hA.bel.size
      by_cases hs : xs = os
      · have g1 : (xs.toList == os.toList) = true := by rw [hs]; exact beq_self_eq_true _
        have hfe := vers.lay (hy.out hs)
        have HS := vers.lay (fun a b c ha hb hc => HZ.set3 hfe.out.2 hfe.out.1 (a := a) (b := b) (c := c) ha hb hc)
        clear hy hn hs HZ hA
        go_wp2_with fail
        exact ⟨⟨j + 1, hlt, by go_num, HS.out _ _ _ rfl rfl rfl⟩, by simp [intOf]; omega⟩
      · have g1 : (xs.toList == os.toList) = false := by
          rw [beq_eq_false_iff_ne, Lib.toList_data, Lib.toList_data]
          exact fun e => hs (bn_ext e)
        have hfe := vers.lay (hn.out hs)
        have hOZ := HZ.row
        have HP := vers.lay (fun u' w' ho hK hv => HZ.put hfe.out.1 hfe.out.2 (u' := u') (w' := w') ho hK hv)
        clear hy hn hs HZ hA
        simp only [] at hOZ
        go_wp2_with (at_builtin; refine wp_told (e := ⟨xs, xl, xA, xc, xn⟩) rfl _ _ rfl hOZ rfl rfl rfl (by omega) ?_; intro v9 w9 ho9 hk9 hv9 hz9)
        exact ⟨⟨j + 1, hlt, by go_num, HP.out _ _ ho9 hk9 hv9⟩, by simp [intOf]; omega⟩
    · obtain rfl : j = T.length := by omega
      obtain ⟨o0, o1, o2, o3⟩ := ocells hA.ob
      have lO := hA.ob.lt
      have hbel := hA.bel
      have hle := flT_le os T T.length
      have hlo := vers.lay hA.lo
      obtain ⟨AO, cO, rfl, hTD⟩ := td_rows hA.row (by have := hT.2.1; show (flT os T T.length).length * 48 ≤ _; omega) (fun x hx => ⟨((hT.2.2.2.2 x (flT_mem hx)).1.below hbel).more hbel.size, (hT.2.2.2.2 x (flT_mem hx)).2⟩)
      clear hA
      go_wp2_with fail
      go_ret
      exact ⟨_, AO, cO, rfl, hbel, hTD, HEA.out.symm, fun lo h1 h2 => ⟨fun b off e => by have := hlo.out b (by rw [e]; rfl); omega, fun x hx => h2.2 x (flT_mem hx)⟩⟩

end Go.Proofs.Ytjlglfjikfpboaa.books
