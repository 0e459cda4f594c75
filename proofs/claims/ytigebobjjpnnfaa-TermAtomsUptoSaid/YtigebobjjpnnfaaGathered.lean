/- The document's own gather and Atoms. -/
import Derived.Test.YtigebobjjpnnfaaInsert
import Derived.Test.YtigebobjjpnnfaaTmDec
namespace Go.Proofs.Ytigebobjjpnnfaa.texts
open Go.RowKit Go.Proofs.Ytigebobjjpnnfaa.base Go.Proofs.Ytigebobjjpnnfaa.tm Go.Proofs.Ytigebobjjpnnfaa.lies Go.Proofs.Ytigebobjjpnnfaa.rights Go.Proofs.Ytigebobjjpnnfaa.encs

theorem Txt.any {w : World} {lo : Nat} {v : Value} {ts : List (List UInt8)} (h : Txt w lo v ts) : Txt w 0 v ts := by
  obtain ⟨A, c, e, hl, h⟩ := h
  refine ⟨A, c, e, hl, fun j hj => ?_⟩
  obtain ⟨g, h1, _, h3, h4⟩ := h j hj
  exact ⟨g, h1, Nat.zero_le _, h3, h4⟩
theorem insert_at (v : Value) (lo : Nat) (ts : List (List UInt8)) (s : ByteArray) (w : World) (hT : Txt w lo v ts) (hn : ts.length ≤ 4000000) :
    Calls Try.prog 62 #[v, .string s] w fun e w' => ∃ v', e = .returned v' ∧ Below w.heap.size w w' ∧ Txt w' 0 v' (insD s.data.toList ts false) :=
  (insert_any v lo ts s.data.toList w hT hn).mono fun e w' ⟨v', h1, h2, h3⟩ => ⟨v', h1, h2, h3.any⟩
/-- all put in, one behind the other -/
def putAll (ts : List (List UInt8)) (l : List ByteArray) : List (List UInt8) := l.foldl (fun a s => insD s.data.toList a false) ts
theorem putAll_append (ts : List (List UInt8)) (l m : List ByteArray) : putAll ts (l ++ m) = putAll (putAll ts l) m := by simp [putAll]
theorem insD_len (s : List UInt8) (l : List (List UInt8)) (b : Bool) : (insD s l b).length ≤ l.length + 1 := by
  induction l generalizing b with
  | nil => cases b <;> simp [insD]
  | cons x r ih =>
    have h1 := ih false
    have h2 : (insD s r true).length = r.length := by rw [insD_done]
    cases b <;> simp only [insD]
    · simp only [Bool.false_eq_true, if_false]
      split
      · simp; omega
      · split <;> simp <;> omega
    · simp; omega
theorem putAll_len (l : List ByteArray) : ∀ ts : List (List UInt8), (putAll ts l).length ≤ ts.length + l.length := by
  induction l with
  | nil => intro ts; simp [putAll]
  | cons s l ih =>
    intro ts
    have h1 := ih (insD s.data.toList ts false)
    have h2 := insD_len s.data.toList ts false
    show (putAll (insD s.data.toList ts false) l).length ≤ _
    simp only [List.length_cons]
    omega

/-- at the loop's head -/
def GHead (W : World) (t : T) (ts : List (List UInt8)) (u i : Value) (wr : World) : Prop :=
  ∃ j : Nat, j ≤ t.l.length ∧ i = .int .i64 j ∧ Below W.heap.size W wr ∧ Txt wr 0 u (putAll ts (atomsL (t.l.take j)))

set_option maxRecDepth 100000 in
set_option maxHeartbeats 800000 in
theorem gather_any (N : Nat) : ∀ (t : T) (v u : Value) (ts : List (List UInt8)) (w : World), t.size ≤ N → t.shaped = true → Lies w w.heap.size t v → Txt w 0 u ts → ts.length + t.size ≤ 4000000 →
    Calls Try.prog 50 #[u, T.val t v] w fun e w' => ∃ u', e = .returned u' ∧ Below w.heap.size w w' ∧ Txt w' 0 u' (putAll ts (atoms t)) := by
  induction N with
  | zero => intro t v u ts w h; have := size_pos t; omega
  | succ N ih =>
    intro t v u ts w hN hsh hL hT hlen
    obtain ⟨A, c, xs, rfl, hk, hn, hs, hlc, hc, hr, hl⟩ := hL.open_
    rw [shaped_eq, Bool.and_eq_true] at hsh
    obtain ⟨hone, hsl⟩ := hsh
    have HS := lay (size_eq t)
    have hlen2 : ts.length + sizeL t.l + 1 ≤ 4000000 := by rw [size_eq] at hlen; omega
    have hN' : sizeL t.l ≤ N := by rw [size_eq] at hN; omega
    have HL := Lib.hid hsl
    have HO := lay (one_kind hone)
    clear hlen hN hL hsl
    by_cases h2 : t.k = 2
    · have k2 : (t.k == 2) = true := by simp [h2]
      have HAt : Hid (atoms t = [t.s]) := lay (by
        have h0 : t.l = [] := by
          rcases by_kind t hone with h | h | h | h
          · have := congrArg T.l h.2.1; exact this
          · omega
          · omega
          · exact absurd h2 h.1
        rw [atoms_eq, if_pos h2, h0]; rfl)
      clear h2 hone
      have hin := insert_at u 0 ts t.s _ (hT.alloc (.cells #[.int .i64 t.k, .int .u64 t.n, .string t.s, .slice A t.l.length c] 30)) (by omega)
      go_enter Try.func50, Try.ntmps50
      go_wp2_with fail
      refine hin.mono ?_
      rintro e w1 ⟨v1, rfl, hb1, hT1⟩
      go_wp2_with fail
      go_ret
      rw [HAt.out]
      exact ⟨v1, rfl, below_call (Below.refl _ _) hb1, hT1⟩
    · have k2 : (t.k == 2) = false := by simp [h2]
      have HAt : Hid (atoms t = atomsL t.l) := lay (by rw [atoms_eq, if_neg h2]; rfl)
      clear h2 hone
      go_enter Try.func50, Try.ntmps50
      go_wp2_with fail
      go_loopw [0, 17] (fun u i wr => GHead w t ts u i wr) (fun _ i _ => t.l.length - (intOf i).toNat)
      case atStart => exact ⟨0, Nat.zero_le _, rfl, (Below.refl _ _).alloc (Nat.le_refl _) _, hT.alloc _⟩
      case round =>
        obtain ⟨j, hj, rfl, hbw, hTj⟩ := hrel
        by_cases hlt : j < t.l.length
        · obtain ⟨b0, off, A', c', rfl, hbl, hv, c0, c1, c2, c3⟩ := at_cells (hr.below hbw) (hl.below hbw) hlt
          have hg := size_get t.l j hlt
          have hel := atomsL_len (t.l.take j)
          have hpl := putAll_len (atomsL (t.l.take j)) ts
          have HTk := lay (atomsL_take t.l j hlt)
          have hbs := hbw.size
          have hcall := ih t.l[j] _ _ _ _ (by omega) (shapedL_at t.l j hlt HL.out) ((hv.now (by omega)).later (Nat.le_refl _) (.cells #[.int .i64 t.l[j].k, .int .u64 t.l[j].n, .string t.l[j].s, .slice A' t.l[j].l.length c'] 30)) (hTj.alloc (.cells #[.int .i64 t.l[j].k, .int .u64 t.l[j].n, .string t.l[j].s, .slice A' t.l[j].l.length c'] 30)) (by omega)
          go_wp2_with fail
          refine hcall.mono ?_
          rintro e w4 ⟨v4, rfl, hb4, hT4⟩
          go_wp2_with fail
          exact ⟨⟨j + 1, hlt, by go_num, below_call hbw hb4, by rw [HTk.out, putAll_append]; exact hT4⟩, by simp [intOf]; omega⟩
        · have hjl : t.l.take j = t.l := List.take_of_length_le (by omega)
          rw [hjl] at hTj
          go_wp2_with fail
          go_ret
          rw [HAt.out]
          exact ⟨_, rfl, hbw, hTj⟩

def AHead2 (W : World) (l : List T) (u i : Value) (wr : World) : Prop :=
  ∃ j : Nat, j ≤ l.length ∧ i = .int .i64 j ∧ Below W.heap.size W wr ∧ Txt wr 0 u (putAll [] (allOf (l.take j)))

set_option maxRecDepth 100000 in
set_option maxHeartbeats 800000 in
theorem refAtoms_any (l : List T) (A : Option Addr) (c : Nat) (xs : List Value) (w : World) (hlc : l.length ≤ c) (hlen : l.length * 56 ≤ 140737488355328) (hr : Rd w w.heap.size A xs) (hl : LiesL w w.heap.size l xs) (hN : (allOf l).length ≤ 1100000) :
    Calls Try.prog 33 #[.slice A l.length c] w fun e w' => ∃ v, e = .returned v ∧ Below w.heap.size w w' ∧ Txt w' 0 v (putAll [] (allOf l)) := by
  go_enter Try.func33, Try.ntmps33
  go_wp2_with fail
  go_loopw [3, 9] (fun u i wr => AHead2 w l u i wr) (fun _ i _ => l.length - (intOf i).toNat)
  case atStart => exact ⟨0, Nat.zero_le _, rfl, (Below.refl _ _).alloc (Nat.le_refl _) _, _, _, rfl, Nat.zero_le _, fun j hj => absurd hj (Nat.not_lt_zero _)⟩
  case round =>
    obtain ⟨j, hj, rfl, hbw, hTj⟩ := hrel
    by_cases hlt : j < l.length
    · obtain ⟨b0, off, A', c', rfl, hbl, hv, c0, c1, c2, c3⟩ := at_cells (hr.below hbw) (hl.below hbw) hlt
      have hle := allOf_le l j
      have hpl := putAll_len (allOf (l.take j)) []
      simp only [List.length_nil] at hpl
      have hTk := lay (allOf_take l j hlt)
      have hbs := hbw.size
      have hv1 := (hv.now hbs).later (Nat.le_refl _) (.cells #[.int .i64 l[j].k, .int .u64 l[j].n, .string l[j].s, .slice A' l[j].l.length c'] 30)
      have hcall := refRight_any l[j] _ _ hv1
      have hT1 := hTj.alloc (.cells #[.int .i64 l[j].k, .int .u64 l[j].n, .string l[j].s, .slice A' l[j].l.length c'] 30)
      have hbox := Blk.new wr 30 #[.int .i64 l[j].k, .int .u64 l[j].n, .string l[j].s, .slice A' l[j].l.length c']
      by_cases hR : l[j].right = 0
      · obtain ⟨hsize, _, hshape⟩ := right_ok hR
        rw [hR] at hcall
        have HR := lay hR
        have HSh := lay hshape
        clear hR hshape
        go_wp2_with fail
        refine hcall.mono ?_
        rintro e w1 ⟨rfl, hb1⟩
        have hk1 := hbox.below hb1 (by simp)
        have y0 := hk1.cell 0
        have y1 := hk1.cell 1
        have y2 := hk1.cell 2
        have y3 := hk1.cell 3
        simp at y0 y1 y2 y3
        have hg := gather_any l[j].size l[j] _ _ _ _ (Nat.le_refl _) HSh.out ((hv1.below hb1).now hb1.size) (hT1.below hb1) (by omega)
        have hB1 := below_call hbw hb1
        go_wp2_with fail
        refine hg.mono ?_
        rintro e w4 ⟨v4, rfl, hb4, hT4⟩
        go_wp2_with fail
        exact ⟨⟨j + 1, hlt, by go_num, hB1.trans (hb4.mono hB1.size), by rw [hTk.out, if_pos HR.out, putAll_append]; exact hT4⟩, by simp [intOf]; omega⟩
      · have d1 : (l[j].right == 0) = false := by simpa using hR
        have HR := lay hR
        clear hR
        go_wp2_with fail
        refine hcall.mono ?_
        rintro e w1 ⟨rfl, hb1⟩
        go_wp2_with fail
        exact ⟨⟨j + 1, hlt, by go_num, below_call hbw hb1, by rw [hTk.out, if_neg HR.out, List.append_nil]; exact hT1.below hb1⟩, by simp [intOf]; omega⟩
    · have hjl : l.take j = l := List.take_of_length_le (by omega)
      rw [hjl] at hTj
      go_wp2_with fail
      go_ret
      exact ⟨_, rfl, hbw, hTj⟩
end Go.Proofs.Ytigebobjjpnnfaa.texts
