/- Where a term lies in memory: its four cells, its list's cells, and so on down. -/
import Derived.Test.YtgdmhfdlijeogaaRows
import Derived.Test.YtgdmhfdlijeogaaBase
import Derived.Test.YtgdmhfdlijeogaaTmLaw
namespace Go.Proofs.Ytgdmhfdlijeogaa.lies
set_option linter.unusedVariables false
set_option linter.unusedSimpArgs false
open Go.RowKit Go.Proofs.Ytgdmhfdlijeogaa.base Go.Proofs.Ytgdmhfdlijeogaa.tm

/-- a term's value, the list's slice being v -/
def T.cells (t : T) (v : Value) : List Value := [.int .i64 t.k, .int .u64 t.n, .string t.s, v]
abbrev T.val (t : T) (v : Value) : Value := .agg #[.int .i64 t.k, .int .u64 t.n, .string t.s, v]

mutual
/-- the slice v is the list of the term, below block B -/
def Lies (w : World) (B : Nat) : T → Value → Prop
  | .mk k n s l, v => ∃ A c xs, v = .slice A l.length c ∧ (-9223372036854775808 ≤ k ∧ k ≤ 9223372036854775807) ∧ (0 ≤ n ∧ n < 18446744073709551616) ∧ s.size ≤ maxLen ∧ l.length ≤ c ∧ l.length * 56 ≤ 140737488355328 ∧ Rd w B A xs ∧ LiesL w B l xs
/-- the cells xs are the terms l -/
def LiesL (w : World) (B : Nat) : List T → List Value → Prop
  | [], xs => xs = []
  | t :: l, xs => ∃ v ys, xs = T.cells t v ++ ys ∧ Lies w B t v ∧ LiesL w B l ys
end

section
variable {w w' : World} {B B' : Nat}
mutual
theorem Lies.keep (hk : ∀ p : Addr, p.block < B → w'.cell? p = w.cell? p) : ∀ (t : T) (v : Value), Lies w B t v → Lies w' B t v
  | .mk k n s l, v, h => by
    obtain ⟨A, c, xs, hv, h1, h2, h3, h4, h5, h6, h7⟩ := h
    exact ⟨A, c, xs, hv, h1, h2, h3, h4, h5, h6.keep hk, LiesL.keep hk l xs h7⟩
theorem LiesL.keep (hk : ∀ p : Addr, p.block < B → w'.cell? p = w.cell? p) : ∀ (l : List T) (xs : List Value), LiesL w B l xs → LiesL w' B l xs
  | [], xs, h => h
  | t :: l, xs, h => by
    obtain ⟨v, ys, hx, h1, h2⟩ := h
    exact ⟨v, ys, hx, Lies.keep hk t v h1, LiesL.keep hk l ys h2⟩
end
mutual
theorem Lies.more (hB : B ≤ B') : ∀ (t : T) (v : Value), Lies w B t v → Lies w B' t v
  | .mk k n s l, v, h => by
    obtain ⟨A, c, xs, hv, h1, h2, h3, h4, h5, h6, h7⟩ := h
    exact ⟨A, c, xs, hv, h1, h2, h3, h4, h5, h6.more hB, LiesL.more hB l xs h7⟩
theorem LiesL.more (hB : B ≤ B') : ∀ (l : List T) (xs : List Value), LiesL w B l xs → LiesL w B' l xs
  | [], xs, h => h
  | t :: l, xs, h => by
    obtain ⟨v, ys, hx, h1, h2⟩ := h
    exact ⟨v, ys, hx, Lies.more hB t v h1, LiesL.more hB l ys h2⟩
end
theorem Lies.below {t : T} {v : Value} (h : Lies w B t v) (hb : Below B w w') : Lies w' B t v := Lies.keep (fun _ hp => hb.cell hp) t v h
theorem LiesL.below {l : List T} {xs : List Value} (h : LiesL w B l xs) (hb : Below B w w') : LiesL w' B l xs := LiesL.keep (fun _ hp => hb.cell hp) l xs h
theorem Lies.alloc {t : T} {v : Value} (h : Lies w B t v) (hB : B ≤ w.heap.size) (o : Obj) : Lies (w.alloc o) B t v := Lies.keep (fun p hp => World.cell?_alloc_lt w o p (by omega)) t v h
theorem LiesL.len : ∀ {l : List T} {xs : List Value}, LiesL w B l xs → xs.length = 4 * l.length
  | [], xs, h => by rw [show xs = [] from h]; rfl
  | t :: l, xs, h => by
    obtain ⟨v, ys, rfl, _, h2⟩ := h
    rw [List.length_append, LiesL.len h2]
    simp [T.cells]; omega
/-- the j-th of the terms -/
theorem LiesL.at_ : ∀ {l : List T} {xs : List Value}, LiesL w B l xs → ∀ {j : Nat} (hj : j < l.length), ∃ v,
    xs[4 * j]? = some (.int .i64 l[j].k) ∧ xs[4 * j + 1]? = some (.int .u64 l[j].n) ∧ xs[4 * j + 2]? = some (.string l[j].s) ∧ xs[4 * j + 3]? = some v ∧ Lies w B l[j] v
  | t :: l, xs, h, 0, _ => by
    obtain ⟨v, ys, rfl, h1, _⟩ := h
    exact ⟨v, rfl, rfl, rfl, rfl, h1⟩
  | t :: l, xs, h, j + 1, hj => by
    obtain ⟨v, ys, rfl, _, h2⟩ := h
    obtain ⟨u, e0, e1, e2, e3, e4⟩ := LiesL.at_ h2 (j := j) (by simpa using hj)
    have hl : (T.cells t v).length = 4 := rfl
    refine ⟨u, ?_, ?_, ?_, ?_, e4⟩
    all_goals
      rw [List.getElem?_append_right (by rw [hl]; omega), hl]
      first | rw [show 4 * (j + 1) - 4 = 4 * j by omega] | rw [show 4 * (j + 1) + 1 - 4 = 4 * j + 1 by omega] | rw [show 4 * (j + 1) + 2 - 4 = 4 * j + 2 by omega] | rw [show 4 * (j + 1) + 3 - 4 = 4 * j + 3 by omega]
      assumption
theorem LiesL.snoc : ∀ {l : List T} {xs : List Value}, LiesL w B l xs → ∀ {t : T} {v : Value}, Lies w B t v → LiesL w B (l ++ [t]) (xs ++ T.cells t v)
  | [], xs, h, t, v, ht => by
    rw [show xs = [] from h]
    exact ⟨v, [], by simp, ht, rfl⟩
  | t0 :: l, xs, h, t, v, ht => by
    obtain ⟨u, ys, rfl, h1, h2⟩ := h
    exact ⟨u, ys ++ T.cells t v, by simp, h1, LiesL.snoc h2 ht⟩
mutual
theorem Lies.word : ∀ (t : T) (v : Value), Lies w B t v → t.word
  | .mk k n s l, v, h => by
    obtain ⟨A, c, xs, hv, h1, h2, h3, h4, h5, h6, h7⟩ := h
    exact ⟨⟨h2, by omega⟩, LiesL.word l xs h7⟩
theorem LiesL.word : ∀ (l : List T) (xs : List Value), LiesL w B l xs → wordL l
  | [], _, _ => trivial
  | t :: l, xs, h => by
    obtain ⟨v, ys, hx, h1, h2⟩ := h
    exact ⟨Lies.word t v h1, LiesL.word l ys h2⟩
end
theorem Lies.open_ {t : T} {v : Value} (h : Lies w B t v) : ∃ A c xs, v = .slice A t.l.length c ∧ (-9223372036854775808 ≤ t.k ∧ t.k ≤ 9223372036854775807) ∧ (0 ≤ t.n ∧ t.n < 18446744073709551616) ∧ t.s.size ≤ maxLen ∧ t.l.length ≤ c ∧ t.l.length * 56 ≤ 140737488355328 ∧ Rd w B A xs ∧ LiesL w B t.l xs := by
  cases t; exact h
theorem Lies.mk {t : T} {A : Option Addr} {c : Nat} {xs : List Value} (h1 : -9223372036854775808 ≤ t.k ∧ t.k ≤ 9223372036854775807) (h2 : 0 ≤ t.n ∧ t.n < 18446744073709551616) (h3 : t.s.size ≤ maxLen) (h4 : t.l.length ≤ c) (h5 : t.l.length * 56 ≤ 140737488355328) (h6 : Rd w B A xs) (h7 : LiesL w B t.l xs) : Lies w B t (.slice A t.l.length c) := by
  cases t; exact ⟨A, c, xs, rfl, h1, h2, h3, h4, h5, h6, h7⟩
/-- the j-th term of a list: its four cells, and where its own list lies -/
theorem at_cells {A : Option Addr} {l : List T} {xs : List Value} (hr : Rd w B A xs) (hl : LiesL w B l xs) {j : Nat} (hj : j < l.length) :
    ∃ b off A' c', A = some ⟨b, off, none⟩ ∧ b < B ∧ Lies w B l[j] (.slice A' l[j].l.length c') ∧ w.cell? ⟨b, off + j * 4, none⟩ = some (.int .i64 l[j].k) ∧ w.cell? ⟨b, off + j * 4 + 1, none⟩ = some (.int .u64 l[j].n) ∧
      w.cell? ⟨b, off + j * 4 + 2, none⟩ = some (.string l[j].s) ∧ w.cell? ⟨b, off + j * 4 + 3, none⟩ = some (.slice A' l[j].l.length c') := by
  obtain ⟨v, e0, e1, e2, e3, hv⟩ := hl.at_ hj
  obtain ⟨A', c', xs', rfl, _⟩ := hv.open_
  obtain ⟨b, off, e, hb, c0⟩ := hr _ _ e0
  refine ⟨b, off, A', c', e, hb, hv, ?_, ?_, ?_, ?_⟩
  · rw [show off + j * 4 = off + 4 * j by omega]; exact c0
  · obtain ⟨b', off', e', _, c1⟩ := hr _ _ e1
    rw [e] at e'; cases e'
    rw [show off + j * 4 + 1 = off + (4 * j + 1) by omega]; exact c1
  · obtain ⟨b', off', e', _, c1⟩ := hr _ _ e2
    rw [e] at e'; cases e'
    rw [show off + j * 4 + 2 = off + (4 * j + 2) by omega]; exact c1
  · obtain ⟨b', off', e', _, c1⟩ := hr _ _ e3
    rw [e] at e'; cases e'
    rw [show off + j * 4 + 3 = off + (4 * j + 3) by omega]; exact c1
end

theorem ret_int {k : IntKind} {a b : Int} (h : a = b) : Ending.returned (.int k a) = .returned (.int k b) := by rw [h]
theorem ret_bool {a b : Bool} (h : a = b) : Ending.returned (.bool a) = .returned (.bool b) := by rw [h]
theorem lay {p : Prop} (h : p) : Hid p := h
theorem Lies.later {w : World} {B : Nat} {t : T} {v : Value} (h : Lies w B t v) (hB : B ≤ w.heap.size) (o : Obj) : Lies (w.alloc o) (w.alloc o).heap.size t v :=
  Lies.more (by simp; omega) t v (h.alloc hB o)
theorem Lies.now {w : World} {B : Nat} {t : T} {v : Value} (h : Lies w B t v) (hB : B ≤ w.heap.size) : Lies w w.heap.size t v := Lies.more hB t v h
theorem below_call {w wr w2 : World} (hb : Below w.heap.size w wr) {o : Obj} (h2 : Below (wr.alloc o).heap.size (wr.alloc o) w2) : Below w.heap.size w w2 :=
  (hb.alloc hb.size o).trans (h2.mono (by have := hb.size; simp; omega))
theorem size_eq (t : T) : t.size = sizeL t.l + 1 := by cases t; rfl
theorem deep_eq (t : T) : t.deep = deepL t.l + 1 := by cases t; rfl
theorem shaped_eq (t : T) : t.shaped = (t.one && shapedL t.l) := by cases t; rfl
theorem sizeL_take (l : List T) (j : Nat) (hj : j < l.length) : sizeL (l.take (j + 1)) = sizeL (l.take j) + l[j].size := by
  induction l generalizing j with
  | nil => simp at hj
  | cons t l ih =>
    cases j with
    | zero => simp [sizeL]
    | succ j =>
      simp only [List.take_succ_cons, sizeL, List.getElem_cons_succ]
      rw [ih j (by simpa using hj)]; omega
theorem sizeL_le (l : List T) (j : Nat) : sizeL (l.take j) ≤ sizeL l := by
  induction l generalizing j with
  | nil => simp
  | cons t l ih =>
    cases j with
    | zero => simp [sizeL]
    | succ j => simp only [List.take_succ_cons, sizeL]; have := ih j; omega
theorem size_get (l : List T) (j : Nat) (hj : j < l.length) : sizeL (l.take j) + l[j].size ≤ sizeL l := by
  rw [← sizeL_take l j hj]; exact sizeL_le l _
theorem deepL_take (l : List T) (j : Nat) (hj : j < l.length) : deepL (l.take (j + 1)) = max (deepL (l.take j)) l[j].deep := by
  induction l generalizing j with
  | nil => simp at hj
  | cons t l ih =>
    cases j with
    | zero => simp [deepL]
    | succ j =>
      simp only [List.take_succ_cons, deepL, List.getElem_cons_succ]
      rw [ih j (by simpa using hj)]; omega
theorem deep_get (l : List T) (j : Nat) (hj : j < l.length) : l[j].deep ≤ deepL l := by
  induction l generalizing j with
  | nil => simp at hj
  | cons t l ih =>
    cases j with
    | zero => simp [deepL]; omega
    | succ j => simp only [deepL, List.getElem_cons_succ]; have := ih j (by simpa using hj); omega
theorem shapedL_take (l : List T) (j : Nat) (hj : j < l.length) : shapedL (l.take (j + 1)) = (shapedL (l.take j) && l[j].shaped) := by
  induction l generalizing j with
  | nil => simp at hj
  | cons t l ih =>
    cases j with
    | zero => simp [shapedL]
    | succ j =>
      simp only [List.take_succ_cons, shapedL, List.getElem_cons_succ]
      rw [ih j (by simpa using hj), Bool.and_assoc]
theorem shapedL_get (l : List T) (j : Nat) (hj : j < l.length) (h : l[j].shaped = false) : shapedL l = false := by
  induction l generalizing j with
  | nil => simp at hj
  | cons t l ih =>
    cases j with
    | zero => simp only [List.getElem_cons_zero] at h; simp [shapedL, h]
    | succ j => simp only [List.getElem_cons_succ] at h; simp [shapedL, ih j (by simpa using hj) h]
theorem enc_eq (t : T) : t.enc = UInt8.ofNat t.k.toNat :: (putL t.head ++ (t.s.data.toList ++ encL t.l)) := by cases t; rfl
theorem head_eq (t : T) : t.head = if t.k = 2 then t.s.data.toList.length else if t.k = 5 then t.l.length else t.n.toNat := by cases t; rfl
theorem encL_take (l : List T) (j : Nat) (hj : j < l.length) : encL (l.take (j + 1)) = encL (l.take j) ++ l[j].enc := by
  induction l generalizing j with
  | nil => simp at hj
  | cons t l ih =>
    cases j with
    | zero => simp [encL]
    | succ j =>
      simp only [List.take_succ_cons, encL, List.getElem_cons_succ]
      rw [ih j (by simpa using hj), List.append_assoc]
theorem shapedL_at (l : List T) (j : Nat) (hj : j < l.length) (h : shapedL l = true) : l[j].shaped = true := by
  cases hq : l[j].shaped with
  | true => rfl
  | false => rw [shapedL_get l j hj hq] at h; cases h
theorem one_kind {t : T} (h : t.one = true) : 1 ≤ t.k ∧ t.k ≤ 5 ∧ t.s.size ≤ 4000 ∧ (t.k ≠ 2 → t.s.data.toList = []) ∧ (t.k = 2 → t.n = 0) ∧ (t.k = 5 → t.n = 0) ∧ (t.k ≠ 4 → t.k ≠ 5 → t.l = []) ∧ (t.k = 4 → t.l.length = 1) := by
  rw [one_eq] at h
  have he : ∀ s : ByteArray, s.toList.isEmpty = true → s.data.toList = [] ∧ s.size = 0 := fun s hs => by
    rw [tm.toList_eq] at hs
    have h0 : s.data.toList = [] := by simpa using hs
    exact ⟨h0, by have := congrArg List.length h0; simpa using this⟩
  by_cases h1 : t.k = 1 ∨ t.k = 3
  · rw [if_pos h1, Bool.and_eq_true] at h
    obtain ⟨e1, e2⟩ := he _ h.1
    have e3 : t.l = [] := by simpa using h.2
    exact ⟨by omega, by omega, by omega, fun _ => e1, by omega, by omega, fun _ _ => e3, by omega⟩
  · rw [if_neg h1] at h
    by_cases h2 : t.k = 2
    · rw [if_pos h2] at h
      simp at h
      exact ⟨by omega, by omega, by omega, by omega, fun _ => h.1.1, by omega, fun _ _ => h.1.2, by omega⟩
    · rw [if_neg h2] at h
      by_cases h4 : t.k = 4
      · rw [if_pos h4, Bool.and_eq_true] at h
        obtain ⟨e1, e2⟩ := he _ h.1
        exact ⟨by omega, by omega, by omega, fun _ => e1, by omega, by omega, by omega, fun _ => by simpa using h.2⟩
      · rw [if_neg h4] at h
        by_cases h5 : t.k = 5
        · rw [if_pos h5, Bool.and_eq_true] at h
          obtain ⟨e1, e2⟩ := he _ h.2
          exact ⟨by omega, by omega, by omega, fun _ => e1, by omega, fun _ => by simpa using h.1, by omega, by omega⟩
        · rw [if_neg h5] at h; cases h
theorem size_pos (t : T) : 1 ≤ t.size := by rw [size_eq]; omega
end Go.Proofs.Ytgdmhfdlijeogaa.lies
