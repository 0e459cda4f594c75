/- Where a term lies in memory: its four cells, its list's cells, and so on down. -/
import Derived.Test.YtoenkkbcpafanaaRows
import Derived.Test.YtoenkkbcpafanaaA00
import Derived.Test.YtoenkkbcpafanaaA29
import Derived.Outline
import Derived.Lib.Hide
import Derived.Deep.Light
import Derived.StillTailTactics


namespace Go.Proofs.Ytoenkkbcpafanaa.lies
set_option linter.unusedVariables false
set_option linter.unusedSimpArgs false
open Go.RowKit Go.Proofs.Ytoenkkbcpafanaa.base Go.Proofs.Ytoenkkbcpafanaa.tm

/-- a term's value, the list's slice being v -/
def T.cells (t : T) (v : Value) : List Value := [.int .i64 t.k, .int .u64 t.n, .string t.s, v]
abbrev T.val (t : T) (v : Value) : Value := .agg #[.int .i64 t.k, .int .u64 t.n, .string t.s, v]

mutual
/-- the slice v is the list of the term, below block B -/
def Lies (w : World) (B : Nat) : T → Value → Prop
  | .mk k n s l, v => ∃ A c xs, v = .slice A l.length c ∧ (-9223372036854775808 ≤ k ∧ k ≤ 9223372036854775807) ∧ (0 ≤ n ∧ n < 18446744073709551616) ∧ s.size ≤ maxLen ∧ l.length ≤ c ∧ l.length * 56 ≤ 140737488355328 ∧ Rd w B A xs ∧ LiesL w B l xs
/-- the cells xs are the terms l -/
def LiesL (w : World) (B : Nat) : List T → List Value → Prop
  | [], xs => xs = []
  | t :: l, xs => ∃ v ys, xs = T.cells t v ++ ys ∧ Lies w B t v ∧ LiesL w B l ys
end

section
variable {w w' : World} {B B' : Nat}
mutual
theorem Lies.keep (hk : ∀ p : Addr, p.block < B → w'.cell? p = w.cell? p) : ∀ (t : T) (v : Value), Lies w B t v → Lies w' B t v
  | .mk k n s l, v, h => by
    obtain ⟨A, c, xs, hv, h1, h2, h3, h4, h5, h6, h7⟩ := h
    exact ⟨A, c, xs, hv, h1, h2, h3, h4, h5, h6.keep hk, LiesL.keep hk l xs h7⟩
theorem LiesL.keep (hk : ∀ p : Addr, p.block < B → w'.cell? p = w.cell? p) : ∀ (l : List T) (xs : List Value), LiesL w B l xs → LiesL w' B l xs
  | [], xs, h => h
  | t :: l, xs, h => by
    obtain ⟨v, ys, hx, h1, h2⟩ := h
    exact ⟨v, ys, hx, Lies.keep hk t v h1, LiesL.keep hk l ys h2⟩
end
mutual
theorem Lies.more (hB : B ≤ B') : ∀ (t : T) (v : Value), Lies w B t v → Lies w B' t v
  | .mk k n s l, v, h => by
    obtain ⟨A, c, xs, hv, h1, h2, h3, h4, h5, h6, h7⟩ := h
    exact ⟨A, c, xs, hv, h1, h2, h3, h4, h5, h6.more hB, LiesL.more hB l xs h7⟩
theorem LiesL.more (hB : B ≤ B') : ∀ (l : List T) (xs : List Value), LiesL w B l xs → LiesL w B' l xs
  | [], xs, h => h
  | t :: l, xs, h => by
    obtain ⟨v, ys, hx, h1, h2⟩ := h
    exact ⟨v, ys, hx, Lies.more hB t v h1, LiesL.more hB l ys h2⟩
end
theorem Lies.below {t : T} {v : Value} (h : Lies w B t v) (hb : Below B w w') : Lies w' B t v := Lies.keep (fun _ hp => hb.cell hp) t v h
theorem LiesL.below {l : List T} {xs : List Value} (h : LiesL w B l xs) (hb : Below B w w') : LiesL w' B l xs := LiesL.keep (fun _ hp => hb.cell hp) l xs h
theorem Lies.alloc {t : T} {v : Value} (h : Lies w B t v) (hB : B ≤ w.heap.size) (o : Obj) : Lies (w.alloc o) B t v := Lies.keep (fun p hp => World.cell?_alloc_lt w o p (by omega)) t v h
theorem LiesL.len : ∀ {l : List T} {xs : List Value}, LiesL w B l xs → xs.length = 4 * l.length
  | [], xs, h => by rw [show xs = [] from h]; rfl
  | t :: l, xs, h => by
    obtain ⟨v, ys, rfl, _, h2⟩ := h
    rw [List.length_append, LiesL.len h2]
    simp [T.cells]; omega
/-- the j-th of the terms -/
theorem LiesL.at_ : ∀ {l : List T} {xs : List Value}, LiesL w B l xs → ∀ {j : Nat} (hj : j < l.length), ∃ v,
    xs[4 * j]? = some (.int .i64 l[j].k) ∧ xs[4 * j + 1]? = some (.int .u64 l[j].n) ∧ xs[4 * j + 2]? = some (.string l[j].s) ∧ xs[4 * j + 3]? = some v ∧ Lies w B l[j] v
  | t :: l, xs, h, 0, _ => by
    obtain ⟨v, ys, rfl, h1, _⟩ := h
    exact ⟨v, rfl, rfl, rfl, rfl, h1⟩
  | t :: l, xs, h, j + 1, hj => by
    obtain ⟨v, ys, rfl, _, h2⟩ := h
    obtain ⟨u, e0, e1, e2, e3, e4⟩ := LiesL.at_ h2 (j := j) (by simpa using hj)
    have hl : (T.cells t v).length = 4 := rfl
    refine ⟨u, ?_, ?_, ?_, ?_, e4⟩
    all_goals
      rw [List.getElem?_append_right (by rw [hl]; omega), hl]
      first | rw [show 4 * (j + 1) - 4 = 4 * j by omega] | rw [show 4 * (j + 1) + 1 - 4 = 4 * j + 1 by omega] | rw [show 4 * (j + 1) + 2 - 4 = 4 * j + 2 by omega] | rw [show 4 * (j + 1) + 3 - 4 = 4 * j + 3 by omega]
      assumption
theorem LiesL.snoc : ∀ {l : List T} {xs : List Value}, LiesL w B l xs → ∀ {t : T} {v : Value}, Lies w B t v → LiesL w B (l ++ [t]) (xs ++ T.cells t v)
  | [], xs, h, t, v, ht => by
    rw [show xs = [] from h]
    exact ⟨v, [], by simp, ht, rfl⟩
  | t0 :: l, xs, h, t, v, ht => by
    obtain ⟨u, ys, rfl, h1, h2⟩ := h
    exact ⟨u, ys ++ T.cells t v, by simp, h1, LiesL.snoc h2 ht⟩
mutual
theorem Lies.word : ∀ (t : T) (v : Value), Lies w B t v → t.word
  | .mk k n s l, v, h => by
    obtain ⟨A, c, xs, hv, h1, h2, h3, h4, h5, h6, h7⟩ := h
    exact ⟨⟨h2, by omega⟩, LiesL.word l xs h7⟩
theorem LiesL.word : ∀ (l : List T) (xs : List Value), LiesL w B l xs → wordL l
  | [], _, _ => trivial
  | t :: l, xs, h => by
    obtain ⟨v, ys, hx, h1, h2⟩ := h
    exact ⟨Lies.word t v h1, LiesL.word l ys h2⟩
end
theorem Lies.open_ {t : T} {v : Value} (h : Lies w B t v) : ∃ A c xs, v = .slice A t.l.length c ∧ (-9223372036854775808 ≤ t.k ∧ t.k ≤ 9223372036854775807) ∧ (0 ≤ t.n ∧ t.n < 18446744073709551616) ∧ t.s.size ≤ maxLen ∧ t.l.length ≤ c ∧ t.l.length * 56 ≤ 140737488355328 ∧ Rd w B A xs ∧ LiesL w B t.l xs := by
  cases t; exact h
theorem Lies.mk {t : T} {A : Option Addr} {c : Nat} {xs : List Value} (h1 : -9223372036854775808 ≤ t.k ∧ t.k ≤ 9223372036854775807) (h2 : 0 ≤ t.n ∧ t.n < 18446744073709551616) (h3 : t.s.size ≤ maxLen) (h4 : t.l.length ≤ c) (h5 : t.l.length * 56 ≤ 140737488355328) (h6 : Rd w B A xs) (h7 : LiesL w B t.l xs) : Lies w B t (.slice A t.l.length c) := by
  cases t; exact ⟨A, c, xs, rfl, h1, h2, h3, h4, h5, h6, h7⟩
/-- the j-th term of a list: its four cells, and where its own list lies -/
theorem at_cells {A : Option Addr} {l : List T} {xs : List Value} (hr : Rd w B A xs) (hl : LiesL w B l xs) {j : Nat} (hj : j < l.length) :
    ∃ b off A' c', A = some ⟨b, off, none⟩ ∧ b < B ∧ Lies w B l[j] (.slice A' l[j].l.length c') ∧ w.cell? ⟨b, off + j * 4, none⟩ = some (.int .i64 l[j].k) ∧ w.cell? ⟨b, off + j * 4 + 1, none⟩ = some (.int .u64 l[j].n) ∧
      w.cell? ⟨b, off + j * 4 + 2, none⟩ = some (.string l[j].s) ∧ w.cell? ⟨b, off + j * 4 + 3, none⟩ = some (.slice A' l[j].l.length c') := by
  obtain ⟨v, e0, e1, e2, e3, hv⟩ := hl.at_ hj
  obtain ⟨A', c', xs', rfl, _⟩ := hv.open_
  obtain ⟨b, off, e, hb, c0⟩ := hr _ _ e0
  refine ⟨b, off, A', c', e, hb, hv, ?_, ?_, ?_, ?_⟩
  · rw [show off + j * 4 = off + 4 * j by omega]; exact c0
  · obtain ⟨b', off', e', _, c1⟩ := hr _ _ e1
    rw [e] at e'; cases e'
    rw [show off + j * 4 + 1 = off + (4 * j + 1) by omega]; exact c1
  · obtain ⟨b', off', e', _, c1⟩ := hr _ _ e2
    rw [e] at e'; cases e'
    rw [show off + j * 4 + 2 = off + (4 * j + 2) by omega]; exact c1
  · obtain ⟨b', off', e', _, c1⟩ := hr _ _ e3
    rw [e] at e'; cases e'
    rw [show off + j * 4 + 3 = off + (4 * j + 3) by omega]; exact c1
end

theorem ret_int {k : IntKind} {a b : Int} (h : a = b) : Ending.returned (.int k a) = .returned (.int k b) := by rw [h]
theorem ret_bool {a b : Bool} (h : a = b) : Ending.returned (.bool a) = .returned (.bool b) := by rw [h]
theorem lay {p : Prop} (h : p) : Hid p := h
theorem Lies.later {w : World} {B : Nat} {t : T} {v : Value} (h : Lies w B t v) (hB : B ≤ w.heap.size) (o : Obj) : Lies (w.alloc o) (w.alloc o).heap.size t v :=
  Lies.more (by simp; omega) t v (h.alloc hB o)
theorem Lies.now {w : World} {B : Nat} {t : T} {v : Value} (h : Lies w B t v) (hB : B ≤ w.heap.size) : Lies w w.heap.size t v := Lies.more hB t v h
theorem below_call {w wr w2 : World} (hb : Below w.heap.size w wr) {o : Obj} (h2 : Below (wr.alloc o).heap.size (wr.alloc o) w2) : Below w.heap.size w w2 :=
  (hb.alloc hb.size o).trans (h2.mono (by have := hb.size; simp; omega))
theorem size_eq (t : T) : t.size = sizeL t.l + 1 := by cases t; rfl
theorem deep_eq (t : T) : t.deep = deepL t.l + 1 := by cases t; rfl
theorem shaped_eq (t : T) : t.shaped = (t.one && shapedL t.l) := by cases t; rfl
theorem sizeL_take (l : List T) (j : Nat) (hj : j < l.length) : sizeL (l.take (j + 1)) = sizeL (l.take j) + l[j].size := by
  induction l generalizing j with
  | nil => simp at hj
  | cons t l ih =>
    cases j with
    | zero => simp [sizeL]
    | succ j =>
      simp only [List.take_succ_cons, sizeL, List.getElem_cons_succ]
      rw [ih j (by simpa using hj)]; omega
theorem sizeL_le (l : List T) (j : Nat) : sizeL (l.take j) ≤ sizeL l := by
  induction l generalizing j with
  | nil => simp
  | cons t l ih =>
    cases j with
    | zero => simp [sizeL]
    | succ j => simp only [List.take_succ_cons, sizeL]; have := ih j; omega
theorem size_get (l : List T) (j : Nat) (hj : j < l.length) : sizeL (l.take j) + l[j].size ≤ sizeL l := by
  rw [← sizeL_take l j hj]; exact sizeL_le l _
theorem deepL_take (l : List T) (j : Nat) (hj : j < l.length) : deepL (l.take (j + 1)) = max (deepL (l.take j)) l[j].deep := by
  induction l generalizing j with
  | nil => simp at hj
  | cons t l ih =>
    cases j with
    | zero => simp [deepL]
    | succ j =>
      simp only [List.take_succ_cons, deepL, List.getElem_cons_succ]
      rw [ih j (by simpa using hj)]; omega
theorem deep_get (l : List T) (j : Nat) (hj : j < l.length) : l[j].deep ≤ deepL l := by
  induction l generalizing j with
  | nil => simp at hj
  | cons t l ih =>
    cases j with
    | zero => simp [deepL]; omega
    | succ j => simp only [deepL, List.getElem_cons_succ]; have := ih j (by simpa using hj); omega
theorem shapedL_take (l : List T) (j : Nat) (hj : j < l.length) : shapedL (l.take (j + 1)) = (shapedL (l.take j) && l[j].shaped) := by
  induction l generalizing j with
  | nil => simp at hj
  | cons t l ih =>
    cases j with
    | zero => simp [shapedL]
    | succ j =>
      simp only [List.take_succ_cons, shapedL, List.getElem_cons_succ]
      rw [ih j (by simpa using hj), Bool.and_assoc]
theorem shapedL_get (l : List T) (j : Nat) (hj : j < l.length) (h : l[j].shaped = false) : shapedL l = false := by
  induction l generalizing j with
  | nil => simp at hj
  | cons t l ih =>
    cases j with
    | zero => simp only [List.getElem_cons_zero] at h; simp [shapedL, h]
    | succ j => simp only [List.getElem_cons_succ] at h; simp [shapedL, ih j (by simpa using hj) h]
theorem enc_eq (t : T) : t.enc = UInt8.ofNat t.k.toNat :: (putL t.head ++ (t.s.data.toList ++ encL t.l)) := by cases t; rfl
theorem head_eq (t : T) : t.head = if t.k = 2 then t.s.data.toList.length else if t.k = 5 then t.l.length else t.n.toNat := by cases t; rfl
theorem encL_take (l : List T) (j : Nat) (hj : j < l.length) : encL (l.take (j + 1)) = encL (l.take j) ++ l[j].enc := by
  induction l generalizing j with
  | nil => simp at hj
  | cons t l ih =>
    cases j with
    | zero => simp [encL]
    | succ j =>
      simp only [List.take_succ_cons, encL, List.getElem_cons_succ]
      rw [ih j (by simpa using hj), List.append_assoc]
theorem shapedL_at (l : List T) (j : Nat) (hj : j < l.length) (h : shapedL l = true) : l[j].shaped = true := by
  cases hq : l[j].shaped with
  | true => rfl
  | false => rw [shapedL_get l j hj hq] at h; cases h
theorem one_kind {t : T} (h : t.one = true) : 1 ≤ t.k ∧ t.k ≤ 5 ∧ t.s.size ≤ 4000 ∧ (t.k ≠ 2 → t.s.data.toList = []) ∧ (t.k = 2 → t.n = 0) ∧ (t.k = 5 → t.n = 0) ∧ (t.k ≠ 4 → t.k ≠ 5 → t.l = []) ∧ (t.k = 4 → t.l.length = 1) := by
  rw [one_eq] at h
  have he : ∀ s : ByteArray, s.toList.isEmpty = true → s.data.toList = [] ∧ s.size = 0 := fun s hs => by
    rw [tm.toList_eq] at hs
    have h0 : s.data.toList = [] := by simpa using hs
    exact ⟨h0, by have := congrArg List.length h0; simpa using this⟩
  by_cases h1 : t.k = 1 ∨ t.k = 3
  · rw [if_pos h1, Bool.and_eq_true] at h
    obtain ⟨e1, e2⟩ := he _ h.1
    have e3 : t.l = [] := by simpa using h.2
    exact ⟨by omega, by omega, by omega, fun _ => e1, by omega, by omega, fun _ _ => e3, by omega⟩
  · rw [if_neg h1] at h
    by_cases h2 : t.k = 2
    · rw [if_pos h2] at h
      simp at h
      exact ⟨by omega, by omega, by omega, by omega, fun _ => h.1.1, by omega, fun _ _ => h.1.2, by omega⟩
    · rw [if_neg h2] at h
      by_cases h4 : t.k = 4
      · rw [if_pos h4, Bool.and_eq_true] at h
        obtain ⟨e1, e2⟩ := he _ h.1
        exact ⟨by omega, by omega, by omega, fun _ => e1, by omega, by omega, by omega, fun _ => by simpa using h.2⟩
      · rw [if_neg h4] at h
        by_cases h5 : t.k = 5
        · rw [if_pos h5, Bool.and_eq_true] at h
          obtain ⟨e1, e2⟩ := he _ h.2
          exact ⟨by omega, by omega, by omega, fun _ => e1, by omega, fun _ => by simpa using h.1, by omega, by omega⟩
        · rw [if_neg h5] at h; cases h
theorem size_pos (t : T) : 1 ≤ t.size := by rw [size_eq]; omega
end Go.Proofs.Ytoenkkbcpafanaa.lies

/- The document's own look at a term: how many (Parts), how deep (Deep), each as the words say (One, shaped): Right. -/

namespace Go.Proofs.Ytoenkkbcpafanaa.counts
set_option linter.unusedVariables false
set_option linter.unusedSimpArgs false
open Go.RowKit Go.Proofs.Ytoenkkbcpafanaa.base Go.Proofs.Ytoenkkbcpafanaa.tm Go.Proofs.Ytoenkkbcpafanaa.lies

/-- Parts, at a loop's head -/
def PHead (W : World) (l : List T) (m : Nat) (n i : Value) (wr : World) : Prop :=
  ∃ j : Nat, j ≤ l.length ∧ i = .int .i64 j ∧ n = .int .i64 (min (sizeL (l.take j) + 1) m : Nat) ∧ Below W.heap.size W wr

/-- Deep, at a loop's head -/
def DHead (W : World) (l : List T) (m : Nat) (n i : Value) (wr : World) : Prop :=
  ∃ j : Nat, j ≤ l.length ∧ i = .int .i64 j ∧ n = .int .i64 (deepL (l.take j) : Nat) ∧ deepL (l.take j) < m - 1 ∧ Below W.heap.size W wr

end Go.Proofs.Ytoenkkbcpafanaa.counts

/- The program's own look at a term: count.add, formed, Right; and the document's shaped and Right. -/

namespace Go.Proofs.Ytoenkkbcpafanaa.rights
set_option linter.unusedVariables false
set_option linter.unusedSimpArgs false
open Go.RowKit Go.Proofs.Ytoenkkbcpafanaa.base Go.Proofs.Ytoenkkbcpafanaa.tm Go.Proofs.Ytoenkkbcpafanaa.lies Go.Proofs.Ytoenkkbcpafanaa.counts

set_option maxRecDepth 100000 in
set_option maxHeartbeats 400000 in
theorem formed_any (t : T) (A : Option Addr) (c : Nat) (w : World) (hs : t.s.size ≤ maxLen) (hlc : t.l.length * 56 ≤ 140737488355328) :
    Calls Try.prog 279 #[T.val t (.slice A t.l.length c)] w fun e w' => e = .returned (.bool t.one) ∧ Below w.heap.size w w' := by
  unfold maxLen at hs
  by_cases h1 : t.k = 1
  · have k1 : (t.k == 1) = true := by simp [h1]
    clear h1
    go_enter Try.func279, Try.ntmps279
    go_wp2_with fail
    all_goals
      go_ret
      refine ⟨ret_bool ?_, (Below.refl _ _).alloc (Nat.le_refl _) _⟩
      go_light
      rw [one_eq]
      simp_all
      try (cases h : t.l <;> simp_all <;> omega)
      try (rw [Bool.eq_iff_iff]; simp <;> omega)
  · have k1 : (t.k == 1) = false := by simp [h1]
    by_cases h3 : t.k = 3
    · have k3 : (t.k == 3) = true := by simp [h3]
      clear h1 h3
      go_enter Try.func279, Try.ntmps279
      go_wp2_with fail
      all_goals
        go_ret
        refine ⟨ret_bool ?_, (Below.refl _ _).alloc (Nat.le_refl _) _⟩
        go_light
        rw [one_eq]
        simp_all
        try (cases h : t.l <;> simp_all <;> omega)
        try (rw [Bool.eq_iff_iff]; simp <;> omega)
    · have k3 : (t.k == 3) = false := by simp [h3]
      clear h1 h3
      by_cases h2 : t.k = 2
      · have k2 : (t.k == 2) = true := by simp [h2]
        clear h2
        go_enter Try.func279, Try.ntmps279
        go_wp2_with fail
        all_goals
          go_ret
          refine ⟨ret_bool ?_, (Below.refl _ _).alloc (Nat.le_refl _) _⟩
          go_light
          rw [one_eq]
          simp_all
          try (cases h : t.l <;> simp_all <;> omega)
          try (rw [Bool.eq_iff_iff]; simp <;> omega)
      · have k2 : (t.k == 2) = false := by simp [h2]
        clear h2
        by_cases h4 : t.k = 4
        · have k4 : (t.k == 4) = true := by simp [h4]
          clear h4
          go_enter Try.func279, Try.ntmps279
          go_wp2_with fail
          all_goals
            go_ret
            refine ⟨ret_bool ?_, (Below.refl _ _).alloc (Nat.le_refl _) _⟩
            go_light
            rw [one_eq]
            simp_all
            try (cases h : t.l <;> simp_all <;> omega)
            try (rw [Bool.eq_iff_iff]; simp <;> omega)
        · have k4 : (t.k == 4) = false := by simp [h4]
          clear h4
          by_cases h5 : t.k = 5
          · have k5 : (t.k == 5) = true := by simp [h5]
            clear h5
            go_enter Try.func279, Try.ntmps279
            go_wp2_with fail
            all_goals
              go_ret
              refine ⟨ret_bool ?_, (Below.refl _ _).alloc (Nat.le_refl _) _⟩
              go_light
              rw [one_eq]
              simp_all
              try (cases h : t.l <;> simp_all <;> omega)
              try (rw [Bool.eq_iff_iff]; simp <;> omega)
          · have k5 : (t.k == 5) = false := by simp [h5]
            clear h5
            go_enter Try.func279, Try.ntmps279
            go_wp2_with fail
            all_goals
              go_ret
              refine ⟨ret_bool ?_, (Below.refl _ _).alloc (Nat.le_refl _) _⟩
              go_light
              rw [one_eq]
              simp_all
              try (cases h : t.l <;> simp_all <;> omega)
              try (rw [Bool.eq_iff_iff]; simp <;> omega)

/-- shaped, at a loop's head -/
def SHead (W : World) (l : List T) (i : Value) (wr : World) : Prop :=
  ∃ j : Nat, j ≤ l.length ∧ i = .int .i64 j ∧ Hid (shapedL (l.take j) = true) ∧ Below W.heap.size W wr

theorem bcell {W w1 : World} (hb : Below W.heap.size W w1) : (∀ b o, b < W.heap.size → w1.cell? ⟨b, o, none⟩ = W.cell? ⟨b, o, none⟩) ∧ (∀ b o, b < W.heap.size → w1.frozen? ⟨b, o, none⟩ = W.frozen? ⟨b, o, none⟩) :=
  ⟨fun b o h => hb.cell (p := ⟨b, o, none⟩) h, fun b o h => hb.frozen (p := ⟨b, o, none⟩) h⟩

end Go.Proofs.Ytoenkkbcpafanaa.rights

/- Like, the document's own: two that are the same are told to be the same, wherever they lie. -/

namespace Go.Proofs.Ytoenkkbcpafanaa.likes
set_option linter.unusedVariables false
set_option linter.unusedSimpArgs false
open Go.RowKit Go.Proofs.Ytoenkkbcpafanaa.base Go.Proofs.Ytoenkkbcpafanaa.tm Go.Proofs.Ytoenkkbcpafanaa.lies Go.Proofs.Ytoenkkbcpafanaa.rights

theorem Lies.drew {w : World} {t : T} {v : Value} (h : Lies w w.heap.size t v) : Lies w.drew w.drew.heap.size t v := by
  have := Lies.keep (w := w) (w' := w.drew) (fun _ _ => rfl) t v h
  exact this

/-- at the loop's head: behind the two boxes -/
def LHead (W : World) (n : Nat) (i : Value) (wr : World) : Prop :=
  ∃ j : Nat, j ≤ n ∧ i = .int .i64 j ∧ Below W.heap.size W wr

end Go.Proofs.Ytoenkkbcpafanaa.likes

/- copied, Of, Num, Key, Atom: what is put together is new memory that reads as what was handed in. -/

namespace Go.Proofs.Ytoenkkbcpafanaa.copies
set_option linter.unusedVariables false
set_option linter.unusedSimpArgs false
open Go.RowKit Go.Proofs.Ytoenkkbcpafanaa.base Go.Proofs.Ytoenkkbcpafanaa.tm Go.Proofs.Ytoenkkbcpafanaa.lies Go.Proofs.Ytoenkkbcpafanaa.rights

/-- the cells xs are the terms l, whatever becomes of blocks outside lo .. hi -/
def HeldL (w : World) (lo hi : Nat) (l : List T) (xs : List Value) : Prop :=
  ∀ w2 B2, hi ≤ B2 → (∀ p : Addr, lo ≤ p.block → p.block < hi → w2.cell? p = w.cell? p) → LiesL w2 B2 l xs
/-- the slice v is the terms l, likewise -/
def Held (w : World) (lo hi : Nat) (l : List T) (v : Value) : Prop :=
  ∃ A c, v = .slice A l.length c ∧ l.length ≤ c ∧ l.length * 56 ≤ 140737488355328 ∧ ∀ w2 B2, hi ≤ B2 → (∀ p : Addr, lo ≤ p.block → p.block < hi → w2.cell? p = w.cell? p) → ∃ xs, Rd w2 B2 A xs ∧ LiesL w2 B2 l xs

theorem HeldL.move {w w' : World} {lo hi lo' hi' : Nat} {l : List T} {xs : List Value} (h : HeldL w lo hi l xs) (h1 : lo' ≤ lo) (h2 : hi ≤ hi') (hk : ∀ p : Addr, lo ≤ p.block → p.block < hi → w'.cell? p = w.cell? p) : HeldL w' lo' hi' l xs :=
  fun w2 B2 hB ha => h w2 B2 (by omega) (fun p p1 p2 => (ha p (by omega) (by omega)).trans (hk p p1 p2))
theorem Held.move {w w' : World} {lo hi lo' hi' : Nat} {l : List T} {v : Value} (h : Held w lo hi l v) (h1 : lo' ≤ lo) (h2 : hi ≤ hi') (hk : ∀ p : Addr, lo ≤ p.block → p.block < hi → w'.cell? p = w.cell? p) : Held w' lo' hi' l v := by
  obtain ⟨A, c, e, hl, hc, h⟩ := h
  exact ⟨A, c, e, hl, hc, fun w2 B2 hB ha => h w2 B2 (by omega) (fun p p1 p2 => (ha p (by omega) (by omega)).trans (hk p p1 p2))⟩
theorem Held.nil (w : World) (lo hi : Nat) : Held w lo hi [] (.slice none 0 0) := ⟨none, 0, rfl, Nat.le_refl _, by simp, fun _ _ _ _ => ⟨[], Rd.nil _ _ _, rfl⟩⟩
/-- a term whose list is so held -/
theorem Held.lies {w : World} {lo hi : Nat} {t : T} {v : Value} (h : Held w lo hi t.l v) (h1 : -9223372036854775808 ≤ t.k ∧ t.k ≤ 9223372036854775807) (h2 : 0 ≤ t.n ∧ t.n < 18446744073709551616) (h3 : t.s.size ≤ maxLen) (hB : hi ≤ w.heap.size) : Lies w w.heap.size t v := by
  obtain ⟨A, c, e, hl, hc, h⟩ := h
  obtain ⟨xs, hr, hL⟩ := h w w.heap.size hB (fun _ _ _ => rfl)
  subst e
  exact Lies.mk h1 h2 h3 hl hc hr hL
theorem HeldL.snoc {w : World} {lo hi : Nat} {l : List T} {xs : List Value} {t : T} {v : Value} (h : HeldL w lo hi l xs) (ht : Held w lo hi t.l v) (h1 : -9223372036854775808 ≤ t.k ∧ t.k ≤ 9223372036854775807) (h2 : 0 ≤ t.n ∧ t.n < 18446744073709551616) (h3 : t.s.size ≤ maxLen) : HeldL w lo hi (l ++ [t]) (xs ++ T.cells t v) :=
  fun w2 B2 hB ha => by
    obtain ⟨A, c, e, hl, hc, hh⟩ := ht
    obtain ⟨ys, hr, hL⟩ := hh w2 B2 hB ha
    subst e
    exact (h w2 B2 hB ha).snoc (Lies.mk h1 h2 h3 hl hc hr hL)

theorem take_set3 (cs : Array Value) (j : Nat) (a b c d : Value) (h : j * 4 + 4 ≤ cs.size) :
    ((((cs.setIfInBounds (j * 4) a).setIfInBounds (j * 4 + 1) b).setIfInBounds (j * 4 + 2) c).setIfInBounds (j * 4 + 3) d).toList.take (j * 4 + 4) = cs.toList.take (j * 4) ++ [a, b, c, d] := by
  apply List.ext_getElem?
  intro i
  rw [List.getElem?_take, List.getElem?_append]
  simp only [Array.getElem?_toList, Array.getElem?_setIfInBounds, List.length_take, Array.length_toList, List.getElem?_take, Array.size_setIfInBounds]
  rw [Nat.min_eq_left (by omega)]
  by_cases h0 : i < j * 4
  · rw [if_pos (by omega), if_pos h0, if_pos h0, if_neg (by omega), if_neg (by omega), if_neg (by omega), if_neg (by omega)]
  · rw [if_neg h0]
    obtain ⟨r, rfl⟩ : ∃ r, i = j * 4 + r := ⟨i - j * 4, by omega⟩
    rw [show j * 4 + r - j * 4 = r by omega]
    match r with
    | 0 => rw [if_pos (by omega), if_neg (by omega), if_neg (by omega), if_neg (by omega), if_pos (by omega), if_pos (by omega)]; rfl
    | 1 => rw [if_pos (by omega), if_neg (by omega), if_neg (by omega), if_pos (by omega), if_pos (by omega)]; rfl
    | 2 => rw [if_pos (by omega), if_neg (by omega), if_pos (by omega), if_pos (by omega)]; rfl
    | 3 => rw [if_pos (by omega), if_pos (by omega), if_pos (by omega)]; rfl
    | r + 4 => rw [if_neg (by omega)]; simp

theorem info30 : (Try.prog.info? 273).map (fun i => (i.zero, i.size, i.bytes)) = some (some (.agg #[.int .i64 0, .int .u64 0, .string ⟨#[]⟩, .slice none 0 0]), 4, 56) := by kernel_rfl

/-- copied, at the loop's head: block g is being filled -/
def KHead (W : World) (g : Nat) (l : List T) (i : Value) (wr : World) : Prop :=
  ∃ (j : Nat) (cs : Array Value), j ≤ l.length ∧ i = .int .i64 j ∧ Blk wr g 273 cs ∧ cs.size = l.length * 4 ∧ HeldL wr (g + 1) wr.heap.size (l.take j) (cs.toList.take (j * 4)) ∧ Below W.heap.size W wr

def four (w : World) (g o : Nat) (a b c d : Value) : World := (((w.setCell ⟨g, o, none⟩ a).setCell ⟨g, o + 1, none⟩ b).setCell ⟨g, o + 2, none⟩ c).setCell ⟨g, o + 3, none⟩ d
theorem four_cell (w : World) (g o : Nat) (a b c d : Value) (p : Addr) (h : p.block ≠ g) : (four w g o a b c d).cell? p = w.cell? p := by
  unfold four
  rw [World.cell?_setCell_other, World.cell?_setCell_other, World.cell?_setCell_other, World.cell?_setCell_other] <;> (rintro rfl; exact h rfl)
theorem four_size (w : World) (g o : Nat) (a b c d : Value) : (four w g o a b c d).heap.size = w.heap.size := by simp [four]
theorem four_blk {w : World} {g o : Nat} {T : TypeId} {cs : Array Value} (h : Blk w g T cs) (a b c d : Value) : Blk (four w g o a b c d) g T ((((cs.setIfInBounds o a).setIfInBounds (o + 1) b).setIfInBounds (o + 2) c).setIfInBounds (o + 3) d) :=
  (((h.put o a).put (o + 1) b).put (o + 2) c).put (o + 3) d
theorem four_below {B : Nat} {W w : World} (h : Below B W w) {g o : Nat} (hg : B ≤ g) (a b c d : Value) : Below B W (four w g o a b c d) :=
  (((h.setCell (p := ⟨g, o, none⟩) hg a).setCell (p := ⟨g, o + 1, none⟩) hg b).setCell (p := ⟨g, o + 2, none⟩) hg c).setCell (p := ⟨g, o + 3, none⟩) hg d

theorem khead_next {W wr w2 : World} {l : List T} {j : Nat} {cs : Array Value} {d v : Value} {o : Obj} (hlt : j < l.length) (hbk : Blk wr W.heap.size 273 cs) (hcs : cs.size = l.length * 4)
    (hheld : HeldL wr (W.heap.size + 1) wr.heap.size (l.take j) (cs.toList.take (j * 4))) (hb : Below W.heap.size W wr)
    (hb2 : Below ((four wr W.heap.size (j * 4) (.int .i64 l[j].k) (.int .u64 l[j].n) (.string l[j].s) d).alloc o).heap.size ((four wr W.heap.size (j * 4) (.int .i64 l[j].k) (.int .u64 l[j].n) (.string l[j].s) d).alloc o) w2)
    (hv : Held w2 ((four wr W.heap.size (j * 4) (.int .i64 l[j].k) (.int .u64 l[j].n) (.string l[j].s) d).alloc o).heap.size w2.heap.size l[j].l v)
    (h1 : -9223372036854775808 ≤ l[j].k ∧ l[j].k ≤ 9223372036854775807) (h2 : 0 ≤ l[j].n ∧ l[j].n < 18446744073709551616) (h3 : l[j].s.size ≤ maxLen) :
    KHead W W.heap.size l (.int .i64 ((j : Int) + 1)) (w2.setCell ⟨W.heap.size, j * 4 + 3, none⟩ v) := by
  have hgl := hbk.lt
  have hsz : ((four wr W.heap.size (j * 4) (.int .i64 l[j].k) (.int .u64 l[j].n) (.string l[j].s) d).alloc o).heap.size = wr.heap.size + 1 := by rw [World.size_alloc, four_size]
  have hz2 : wr.heap.size + 1 ≤ w2.heap.size := by rw [← hsz]; exact hb2.size
  have hk1 := (((four_blk (o := j * 4) hbk (.int .i64 l[j].k) (.int .u64 l[j].n) (.string l[j].s) d).alloc o).below hb2 (by rw [hsz]; omega)).put (j * 4 + 3) v
  have hother : ∀ p : Addr, p.block ≠ W.heap.size → (w2.setCell ⟨W.heap.size, j * 4 + 3, none⟩ v).cell? p = w2.cell? p := fun p hp => World.cell?_setCell_other _ _ _ _ (by rintro rfl; exact hp rfl)
  have hold : ∀ p : Addr, p.block ≠ W.heap.size → p.block < wr.heap.size → w2.cell? p = wr.cell? p := fun p hp hlt => by
    rw [hb2.cell (by rw [hsz]; omega), World.cell?_alloc_lt _ _ _ (by rw [four_size]; exact hlt), four_cell _ _ _ _ _ _ _ _ hp]
  refine ⟨j + 1, _, hlt, by go_num, hk1, by simp [hcs], ?_, ?_⟩
  · rw [Array.setIfInBounds_setIfInBounds, Nat.add_mul, Nat.one_mul, take_set3 _ _ _ _ _ _ (by omega), List.take_succ_eq_append_getElem hlt]
    refine HeldL.snoc (hheld.move (Nat.le_refl _) (by simp; omega) fun p p1 p2 => ?_) (hv.move (by rw [hsz]; omega) (by simp) fun p p1 p2 => ?_) h1 h2 h3
    · rw [hother p (by omega), hold p (by omega) p2]
    · rw [hsz] at p1
      exact hother p (by omega)
  · exact (((four_below hb (Nat.le_refl _) _ _ _ _).alloc (by rw [four_size]; exact hb.size) o).trans (hb2.mono (by rw [hsz]; omega))).setCell (p := ⟨W.heap.size, j * 4 + 3, none⟩) (Nat.le_refl _) v

theorem khead_end {W wr : World} {l : List T} {cs : Array Value} (hbk : Blk wr W.heap.size 273 cs) (hcs : cs.size = l.length * 4) (hl : l.length * 56 ≤ 140737488355328)
    (hheld : HeldL wr (W.heap.size + 1) wr.heap.size l (cs.toList.take (l.length * 4))) : Held wr W.heap.size wr.heap.size l (.slice (some ⟨W.heap.size, 0, none⟩) l.length l.length) := by
  refine ⟨_, _, rfl, Nat.le_refl _, hl, fun w2 B2 hB ha => ⟨cs.toList, fun j u hj => ⟨_, 0, rfl, by have := hbk.lt; omega, ?_⟩, ?_⟩⟩
  · rw [ha ⟨W.heap.size, 0 + j, none⟩ (Nat.le_refl _) hbk.lt, Nat.zero_add, hbk.cell]
    simpa using hj
  · have := hheld w2 B2 hB (fun p p1 p2 => ha p (by omega) p2)
    rwa [List.take_of_length_le (by simp [hcs])] at this

set_option maxRecDepth 100000 in
set_option maxHeartbeats 400000 in
theorem copied_any (N : Nat) : ∀ (l : List T) (A : Option Addr) (c : Nat) (xs : List Value) (B : Nat) (w : World), sizeL l ≤ N → l.length ≤ c → l.length * 56 ≤ 140737488355328 → Rd w B A xs → LiesL w B l xs → B ≤ w.heap.size →
    Calls Try.prog 266 #[.slice A l.length c] w fun e w' => ∃ v, e = .returned v ∧ Held w' w.heap.size w'.heap.size l v ∧ Below w.heap.size w w' := by
  obtain ⟨i0, hi, hz0, hz1, hz2⟩ := info_parts info30
  induction N with
  | zero =>
    intro l A c xs B w hN hlc hc hr hl hB
    have hl0 : l = [] := by
      cases l with
      | nil => rfl
      | cons t l => have := size_pos t; simp [sizeL] at hN; omega
    subst hl0
    go_enter Try.func266, Try.ntmps266
    go_wp2_with fail
    go_ret
    exact ⟨_, rfl, Held.nil _ _ _, Below.refl _ _⟩
  | succ N ih =>
    intro l A c xs B w hN hlc hc hr hl hB
    by_cases hl0 : l = []
    · subst hl0
      go_enter Try.func266, Try.ntmps266
      go_wp2_with fail
      go_ret
      exact ⟨_, rfl, Held.nil _ _ _, Below.refl _ _⟩
    · have hpos : 0 < l.length := List.length_pos_iff.2 hl0
      have d0 : ((l.length : Int) == 0) = false := by simp; omega
      clear hl0
      have hmk : ∀ u : World, (Instr.makeSlice 271 (.int .i64 (l.length : Int)) (.int .i64 (l.length : Int))).run Try.prog u =
          .ok (.slice (some ⟨u.heap.size, 0, none⟩) l.length l.length) (u.alloc (.cells (madeCells #[.int .i64 0, .int .u64 0, .string ⟨#[]⟩, .slice none 0 0] (l.length * 4)) 273)) := fun u => by
        have h := run_make (P := Try.prog) u 271 273 i0 _ Try.underlying271 hi hz0 .i64 .i64 (l.length : Int) (l.length : Int) (by omega) (Int.le_refl _) (by rw [hz2]; omega) (by omega)
        rw [hz1] at h
        exact h
      have hbk0 := Blk.new w 273 (madeCells #[.int .i64 0, .int .u64 0, .string ⟨#[]⟩, .slice none 0 0] (l.length * 4))
      go_enter Try.func266, Try.ntmps266
      go_wp2_with fail
      go_loopw [14] (fun i wr => KHead w w.heap.size l i wr) (fun i _ => l.length - (intOf i).toNat)
      case atStart => exact ⟨0, _, Nat.zero_le _, rfl, hbk0, size_madeCells _ _, fun _ _ _ _ => by simp [LiesL], (Below.refl _ _).alloc (Nat.le_refl _) _⟩
      case round =>
        obtain ⟨j, cs, hj, rfl, hbk, hcs, hheld, hb⟩ := hrel
        by_cases hlt : j < l.length
        · obtain ⟨b0, off, A', c', rfl, hbl, hv, c0, c1, c2, c3⟩ := at_cells (hr.below (hb.mono hB)) (hl.below (hb.mono hB)) hlt
          have hg := size_get l j hlt
          have hgl := hbk.lt
          have z0 := hbk.cell (j * 4)
          have z1 := hbk.cell (j * 4 + 1)
          have z2 := hbk.cell (j * 4 + 2)
          have z3 := hbk.cell (j * 4 + 3)
          rw [Array.getElem?_eq_getElem (by omega)] at z0 z1 z2 z3
          have f0 := hbk.frozen (j * 4)
          have f1 := hbk.frozen (j * 4 + 1)
          have f2 := hbk.frozen (j * 4 + 2)
          have f3 := hbk.frozen (j * 4 + 3)
          obtain ⟨A1, c1', xs1, e1, k1, n1, s1, l1, m1, r1, ll1⟩ := hv.open_
          injection e1 with e1 _ e2
          subst e1 e2
          have hkeep : ∀ p : Addr, p.block < B → ((four wr w.heap.size (j * 4) (.int .i64 l[j].k) (.int .u64 l[j].n) (.string l[j].s) (.slice A' l[j].l.length c')).alloc (.cells #[.int .i64 l[j].k, .int .u64 l[j].n, .string l[j].s, .slice A' l[j].l.length c'] 273)).cell? p = wr.cell? p := fun p hp => by
            rw [World.cell?_alloc_lt _ _ _ (by rw [four_size]; omega), four_cell _ _ _ _ _ _ _ _ (by omega)]
          have hcall := ih l[j].l A' c' xs1 B ((four wr w.heap.size (j * 4) (.int .i64 l[j].k) (.int .u64 l[j].n) (.string l[j].s) (.slice A' l[j].l.length c')).alloc (.cells #[.int .i64 l[j].k, .int .u64 l[j].n, .string l[j].s, .slice A' l[j].l.length c'] 273)) (by rw [size_eq] at hg; omega) l1 m1 (r1.keep hkeep) (LiesL.keep hkeep _ _ ll1) (by rw [World.size_alloc, four_size]; omega)
          clear hkeep
          have hBk := ((four_blk (o := j * 4) hbk (.int .i64 l[j].k) (.int .u64 l[j].n) (.string l[j].s) (.slice A' l[j].l.length c')).alloc (.cells #[.int .i64 l[j].k, .int .u64 l[j].n, .string l[j].s, .slice A' l[j].l.length c'] 273))
          go_wp2_with fail
          refine hcall.mono ?_
          rintro e w2 ⟨v', rfl, hheld', hb2⟩
          have hh := hheld'
          obtain ⟨A2, cc2, rfl, _⟩ := hheld'
          have hBk2 := hBk.below hb2 (by rw [World.size_alloc, four_size]; omega)
          have y3 := hBk2.cell (j * 4 + 3)
          have g3 := hBk2.frozen (j * 4 + 3)
          rw [Array.getElem?_eq_getElem (by simp; omega)] at y3
          go_wp2_with fail
          exact ⟨khead_next hlt hbk hcs hheld hb hb2 hh k1 n1 s1, by simp [intOf]; omega⟩
        · have hjl : l.take j = l := List.take_of_length_le (by omega)
          rw [hjl] at hheld
          go_wp2_with fail
          go_ret
          have hjn : j = l.length := by omega
          subst hjn
          exact ⟨_, rfl, khead_end hbk hcs (by omega) hheld, hb⟩
end Go.Proofs.Ytoenkkbcpafanaa.copies
