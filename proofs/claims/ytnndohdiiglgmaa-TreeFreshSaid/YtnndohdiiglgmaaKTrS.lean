/- tree.place: names in order; strings.Compare; slices.BinarySearchFunc over secrets. -/
import Derived.Test.YtnndohdiiglgmaaKTrW
import Derived.Lib.Bytealg
import Derived.Lib.Strings
import Derived.Lib.Slices
import Derived.Lib.Walk


namespace Go.Proofs.Ytnndohdiiglgmaa.trees
set_option linter.unusedVariables false
set_option linter.unusedSimpArgs false
open Go.RowKit Go.Proofs.Ytnndohdiiglgmaa.base Go.Proofs.Ytnndohdiiglgmaa.vers Go.Proofs.Ytnndohdiiglgmaa.nodes Go.Proofs.Ytnndohdiiglgmaa.quotas

/-! ### the order of names -/
theorem cmp_lt : ∀ (x y : List UInt8), Lib.compareBytes x y < 0 ↔ x < y
  | [], [] => by simp [Lib.compareBytes]
  | [], _ :: _ => by simp [Lib.compareBytes]
  | _ :: _, [] => by simp [Lib.compareBytes]
  | a :: ax, b :: bx => by
    rw [Lib.compareBytes, List.cons_lt_cons_iff]
    by_cases h1 : a < b
    · rw [if_pos h1]; simp [h1]
    · rw [if_neg h1]
      by_cases h2 : b < a
      · rw [if_pos h2]
        have h3 : a ≠ b := fun e => by subst e; exact UInt8.lt_irrefl _ h2
        simp [h1, h3]
      · rw [if_neg h2, cmp_lt ax bx]
        have h3 : a = b := UInt8.le_antisymm (UInt8.not_lt.1 h2) (UInt8.not_lt.1 h1)
        simp [h3]
theorem cmp_eq0 : ∀ (x y : List UInt8), Lib.compareBytes x y = 0 ↔ x = y
  | [], [] => by simp [Lib.compareBytes]
  | [], _ :: _ => by simp [Lib.compareBytes]
  | _ :: _, [] => by simp [Lib.compareBytes]
  | a :: ax, b :: bx => by
    rw [Lib.compareBytes]
    by_cases h1 : a < b
    · have h3 : a ≠ b := fun e => by subst e; exact UInt8.lt_irrefl _ h1
      rw [if_pos h1]; simp [h3]
    · rw [if_neg h1]
      by_cases h2 : b < a
      · rw [if_pos h2]
        have h3 : a ≠ b := fun e => by subst e; exact UInt8.lt_irrefl _ h2
        simp [h3]
      · rw [if_neg h2, cmp_eq0 ax bx]
        have h3 : a = b := UInt8.le_antisymm (UInt8.not_lt.1 h2) (UInt8.not_lt.1 h1)
        simp [h3]
/-- a name ahead of another -/
def ltS (a b : ByteArray) : Bool := decide (a.data.toList < b.data.toList)
theorem ltS_iff {a b : ByteArray} : ltS a b = true ↔ a.data.toList < b.data.toList := by simp [ltS]
theorem name_ext {a b : ByteArray} (h : a.data.toList = b.data.toList) : a = b := by
  cases a; cases b
  simp only [ByteArray.mk.injEq]
  exact Array.ext' h
theorem ltS_irrefl (a : ByteArray) : ltS a a = false := by simp [ltS]
theorem ltS_trans {a b c : ByteArray} (h : ltS a b = true) (k : ltS b c = true) : ltS a c = true := ltS_iff.2 (List.lt_trans (ltS_iff.1 h) (ltS_iff.1 k))
theorem ltS_asymm {a b : ByteArray} (h : ltS a b = true) : ltS b a = false := by
  cases k : ltS b a with
  | false => rfl
  | true => have := ltS_trans h k; rw [ltS_irrefl] at this; cases this
theorem ltS_total {a b : ByteArray} (h : ltS a b = false) (k : ltS b a = false) : a = b := by
  simp only [ltS, decide_eq_false_iff_not, List.not_lt] at h k
  exact name_ext (List.le_antisymm k h)
/-- names that rise -/
def Inc (l : List ByteArray) : Prop := l.Pairwise fun a b => ltS a b = true
/-- how many names are ahead of one -/
def lbP (l : List ByteArray) (s : ByteArray) : Nat := l.countP (ltS · s)
theorem lbP_le (l : List ByteArray) (s : ByteArray) : lbP l s ≤ l.length := List.countP_le_length
theorem lbP_at : ∀ (l : List ByteArray) (s : ByteArray) (i : Nat), i ≤ l.length → (∀ t (h : t < l.length), t < i → ltS l[t] s = true) → (∀ t (h : t < l.length), i ≤ t → ltS l[t] s = false) → lbP l s = i
  | [], s, i, hi, _, _ => by simp at hi; simp [hi, lbP]
  | a :: r, s, 0, _, _, h2 => by
    rw [lbP, List.countP_eq_zero]
    intro x hx
    obtain ⟨t, ht, rfl⟩ := List.getElem_of_mem hx
    have := h2 t ht (Nat.zero_le _)
    simp [this]
  | a :: r, s, i + 1, hi, h1, h2 => by
    have ha : ltS a s = true := h1 0 (by simp) (Nat.succ_pos _)
    have := lbP_at r s i (by simpa using hi) (fun t h ht => h1 (t + 1) (by simpa using h) (by omega)) (fun t h ht => h2 (t + 1) (by simpa using h) (by omega))
    rw [lbP] at this ⊢
    rw [List.countP_cons_of_pos (by simpa using ha), this]

set_option maxRecDepth 100000 in
set_option maxHeartbeats 1000000 in
theorem compareString_any (a b : ByteArray) (w : World) :
    Calls Try.prog 106 #[.string a, .string b] w fun e w' => e = .returned (.int .i64 (Lib.compareBytes a.data.toList b.data.toList)) ∧ w' = w := by
  go_enter Try.func106, Try.ntmps106
  go_wp2
  rw [run_callFunc_extern Try.func126 (by kernel_rfl) (by kernel_rfl) (by kernel_rfl) (e := Extern.BytealgCompare.compare) (by kernel_rfl), Lib.run_compareString]
  simp only [Result.andThen]
  rw [Oper.upon_value]
  go_wp2
  go_ret
  exact ⟨rfl, rfl⟩
set_option maxRecDepth 100000 in
theorem compare_any (a b : ByteArray) (w : World) :
    Calls Try.prog 84 #[.string a, .string b] w fun e w' => e = .returned (.int .i64 (Lib.compareBytes a.data.toList b.data.toList)) ∧ w' = w := by
  go_enter Try.func84, Try.ntmps84
  go_wp2_with (go_at_call 106; refine (compareString_any _ _ _).mono ?_; rintro e w' ⟨rfl, rfl⟩)
  go_ret
  exact ⟨rfl, rfl⟩
set_option maxRecDepth 100000 in
theorem placeCmp_any (a s : ByteArray) (A : Option Addr) (n c : Nat) (w : World) :
    Calls Try.prog 83 #[.agg #[.string a, .slice A n c], .string s] w fun e w' => e = .returned (.int .i64 (Lib.compareBytes a.data.toList s.data.toList)) ∧ Below w.heap.size w w' := by
  have b0 : Below w.heap.size w (w.alloc (.cells #[.string a, .slice A n c] 47)) := (Below.refl _ _).alloc (Nat.le_refl _) _
  go_enter Try.func83, Try.ntmps83
  go_wp2_with (go_at_call 84; refine (compare_any _ _ _).mono ?_; rintro e w' ⟨rfl, rfl⟩)
  go_ret
  exact ⟨rfl, b0⟩

set_option maxRecDepth 100000 in
set_option maxHeartbeats 2000000 in
theorem search_any (l : List E) (A : Option Addr) (c : Nat) (s : ByteArray) (w : World) (hE : Es w w.heap.size l A c) (hI : Inc (l.map (·.s))) :
    Calls Try.prog 82 #[.slice A l.length c, .string s, .func (.func 83) #[] #[]] w fun e w' =>
      e = .returned (.tuple #[.int .i64 (lbP (l.map (·.s)) s : Int), .bool (decide ((l.map (·.s))[lbP (l.map (·.s)) s]? = some s))]) ∧ Below w.heap.size w w' := by
  have hlen : l.length * 40 ≤ 140737488355328 := hE.2.1
  have HI := vers.lay hI
  clear hI
  generalize hcnt : lbP (l.map (·.s)) s = cnt
  have CN := vers.lay hcnt
  clear hcnt
  generalize hfin : decide ((l.map (·.s))[cnt]? = some s) = fin
  have FIN := vers.lay hfin
  clear hfin
  go_enter Try.func82, Try.ntmps82
  go_wp2_with fail
  go_loopw [9, 10] (fun s9 s10 wr => ∃ lo hi : Nat, s9 = .int .i64 (lo : Int) ∧ s10 = .int .i64 (hi : Int) ∧ lo ≤ hi ∧ hi ≤ l.length ∧ Below w.heap.size w wr ∧ Hid ((∀ t (h : t < l.length), t < lo → ltS l[t].s s = true) ∧ (∀ t (h : t < l.length), hi ≤ t → ltS l[t].s s = false))) (fun s9 s10 _ => (intOf s10).toNat - (intOf s9).toNat)
  case atStart => exact ⟨0, l.length, rfl, rfl, Nat.zero_le _, Nat.le_refl _, Below.refl _ _, vers.lay ⟨fun t h ht => absurd ht (Nat.not_lt_zero _), fun t h h1 => by omega⟩⟩
  case round =>
    obtain ⟨lo, hi, rfl, rfl, hlh, hin, hb, HH⟩ := hrel
    by_cases hlt : lo < hi
    · have hm : (lo + hi) / 2 < l.length := by omega
      obtain ⟨b, off, rfl, hbk, e0, e1, _⟩ := (hE.at_world hb).at_ hm
      have MONO : Hid (∀ t (h : t < l.length), t < (lo + hi) / 2 → ltS l[(lo + hi) / 2].s s = true → ltS l[t].s s = true) := vers.lay fun t h ht h1 =>
        ltS_trans (by have := List.pairwise_iff_getElem.1 HI.out t ((lo + hi) / 2) (by simpa using h) (by simpa using hm) ht; simpa using this) h1
      have MONO2 : Hid (∀ t (h : t < l.length), (lo + hi) / 2 ≤ t → ltS l[(lo + hi) / 2].s s = false → ltS l[t].s s = false) := vers.lay fun t h ht h1 => by
        rcases Nat.lt_or_ge ((lo + hi) / 2) t with h2 | h2
        · cases h3 : ltS l[t].s s with
          | false => rfl
          | true =>
            have h4 := ltS_trans (by have := List.pairwise_iff_getElem.1 HI.out ((lo + hi) / 2) t (by simpa using hm) (by simpa using h) h2; simpa using this) h3
            rw [h1] at h4; cases h4
        · obtain rfl : t = (lo + hi) / 2 := by omega
          exact h1
      generalize hyy : l[(lo + hi) / 2] = y at e0 e1 MONO MONO2
      have HY : Hid (ltS l[(lo + hi) / 2].s s = ltS y.s s) := vers.lay (by rw [hyy])
      clear hyy
      by_cases hy : Lib.compareBytes y.s.data.toList s.data.toList < 0
      · have hy2 : ltS y.s s = true := ltS_iff.2 ((cmp_lt _ _).1 hy)
        go_wp2_with (go_at_call 83; refine (placeCmp_any y.s s y.A y.l.length y.c _).mono ?_; rintro e w' ⟨rfl, hb'⟩)
        refine ⟨⟨(lo + hi) / 2 + 1, hi, by rw [show ((lo : Int) + (hi : Int)) / 2 + 1 = (((lo + hi) / 2 + 1 : Nat) : Int) by omega], rfl, by omega, hin, hb.trans (hb'.mono hb.size), vers.lay ⟨fun t h ht => ?_, HH.out.2⟩⟩, by simp [intOf]; omega⟩
        rcases Nat.lt_or_ge t ((lo + hi) / 2) with h1 | h1
        · exact MONO.out t h h1 hy2
        · obtain rfl : t = (lo + hi) / 2 := by omega
          exact HY.out.trans hy2
      · have hy2 : ltS y.s s = false := by
          cases h : ltS y.s s with
          | false => rfl
          | true => exact absurd ((cmp_lt _ _).2 (ltS_iff.1 h)) hy
        go_wp2_with (go_at_call 83; refine (placeCmp_any y.s s y.A y.l.length y.c _).mono ?_; rintro e w' ⟨rfl, hb'⟩)
        refine ⟨⟨lo, (lo + hi) / 2, rfl, by rw [show ((lo : Int) + (hi : Int)) / 2 = (((lo + hi) / 2 : Nat) : Int) by omega], by omega, by omega, hb.trans (hb'.mono hb.size), vers.lay ⟨HH.out.1, fun t h ht => MONO2.out t h ht hy2⟩⟩, by simp [intOf]; omega⟩
    · obtain rfl : hi = lo := by omega
      have ecnt : cnt = hi := by
        rw [← CN.out]
        exact lbP_at _ s hi (by simpa using hin) (fun t h ht => by simpa using HH.out.1 t (by simpa using h) ht) (fun t h ht => by simpa using HH.out.2 t (by simpa using h) ht)
      subst ecnt
      by_cases hn : cnt < l.length
      · obtain ⟨b, off, rfl, hbk, e0, e1, _⟩ := (hE.at_world hb).at_ hn
        have hfin : fin = decide (l[cnt].s = s) := by
          rw [← FIN.out, List.getElem?_eq_getElem (by simpa using hn)]
          simp
        have HF := vers.lay hfin
        clear hfin
        generalize l[cnt] = y at e0 e1 HF
        by_cases hy : Lib.compareBytes y.s.data.toList s.data.toList = 0
        · go_wp2_with (go_at_call 83; refine (placeCmp_any y.s s y.A y.l.length y.c _).mono ?_; rintro e w' ⟨rfl, hb'⟩)
          refine bodyPost_ret (v := .tuple #[.int .i64 (cnt : Int), .bool true]) (by simp [results, Try.results82, go_sem]) rfl ?_
          exact ⟨by rw [HF.out, decide_eq_true (name_ext ((cmp_eq0 _ _).1 hy))], hb.trans (hb'.mono hb.size)⟩
        · go_wp2_with (go_at_call 83; refine (placeCmp_any y.s s y.A y.l.length y.c _).mono ?_; rintro e w' ⟨rfl, hb'⟩)
          refine bodyPost_ret (v := .tuple #[.int .i64 (cnt : Int), .bool false]) (by simp [results, Try.results82, go_sem, hy]) rfl ?_
          exact ⟨by rw [HF.out, decide_eq_false (fun e => hy ((cmp_eq0 _ _).2 (by rw [e])))], hb.trans (hb'.mono hb.size)⟩
      · have hfin : fin = false := by
          rw [← FIN.out, List.getElem?_eq_none (by simpa using hn)]
          simp
        have HF := vers.lay hfin
        clear hfin
        go_wp2_with fail
        refine bodyPost_ret (v := .tuple #[.int .i64 (cnt : Int), .bool false]) (by simp [results, Try.results82, go_sem]) rfl ?_
        exact ⟨by rw [HF.out], hb⟩

set_option maxRecDepth 100000 in
set_option maxHeartbeats 2000000 in
theorem place_any (l : List E) (A : Option Addr) (c : Nat) (s : ByteArray) (w : World) (hE : Es w w.heap.size l A c) (hI : Inc (l.map (·.s))) :
    Calls Try.prog 48 #[.slice A l.length c, .string s] w fun e w' =>
      e = .returned (.tuple #[.int .i64 (lbP (l.map (·.s)) s : Int), .bool (decide ((l.map (·.s))[lbP (l.map (·.s)) s]? = some s))]) ∧ Below w.heap.size w w' := by
  have hs := search_any l A c s w hE hI
  generalize lbP (l.map (·.s)) s = cnt at hs ⊢
  generalize decide ((l.map (·.s))[cnt]? = some s) = fin at hs ⊢
  generalize l.length = n at hs ⊢
  go_enter Try.func48, Try.ntmps48
  go_wp2_with (go_at_call 82; refine hs.mono ?_; rintro e w' ⟨rfl, hb'⟩)
  refine bodyPost_ret (v := .tuple #[.int .i64 (cnt : Int), .bool fin]) (by simp [results, Try.results48, go_sem]) rfl ?_
  exact ⟨rfl, hb'⟩
end Go.Proofs.Ytnndohdiiglgmaa.trees
