/- Where a term lies in memory: its four cells, its list's cells, and so on down. -/
import Derived.Test.YtjlglfjikfpboaaRows
import Derived.Test.YtjlglfjikfpboaaTermA
import Derived.Outline
import Derived.Lib.Hide
import Derived.Deep.Light
import Derived.StillTailTactics
import Derived.Lib.SmallJoins
import Derived.SizedLaws
import Derived.ProofKit
import Derived.OpenShut


namespace Go.Proofs.Ytjlglfjikfpboaa.lies
set_option linter.unusedVariables false
set_option linter.unusedSimpArgs false
open Go.RowKit Go.Proofs.Ytjlglfjikfpboaa.base Go.Proofs.Ytjlglfjikfpboaa.tm

/-- a term's value, the list's slice being v -/
def T.cells (t : T) (v : Value) : List Value := [.int .i64 t.k, .int .u64 t.n, .string t.s, v]
abbrev T.val (t : T) (v : Value) : Value := .agg #[.int .i64 t.k, .int .u64 t.n, .string t.s, v]

mutual
/-- the slice v is the list of the term, below block B -/
def Lies (w : World) (B : Nat) : T → Value → Prop
  | .mk k n s l, v => ∃ A c xs, v = .slice A l.length c ∧ (-9223372036854775808 ≤ k ∧ k ≤ 9223372036854775807) ∧ (0 ≤ n ∧ n < 18446744073709551616) ∧ s.size ≤ maxLen ∧ l.length ≤ c ∧ l.length * 56 ≤ 140737488355328 ∧ Rd w B A xs ∧ LiesL w B l xs
/-- the cells xs are the terms l -/
def LiesL (w : World) (B : Nat) : List T → List Value → Prop
  | [], xs => xs = []
  | t :: l, xs => ∃ v ys, xs = T.cells t v ++ ys ∧ Lies w B t v ∧ LiesL w B l ys
end

section
variable {w w' : World} {B B' : Nat}
mutual
theorem Lies.keep (hk : ∀ p : Addr, p.block < B → w'.cell? p = w.cell? p) : ∀ (t : T) (v : Value), Lies w B t v → Lies w' B t v
  | .mk k n s l, v, h => by
    obtain ⟨A, c, xs, hv, h1, h2, h3, h4, h5, h6, h7⟩ := h
    exact ⟨A, c, xs, hv, h1, h2, h3, h4, h5, h6.keep hk, LiesL.keep hk l xs h7⟩
theorem LiesL.keep (hk : ∀ p : Addr, p.block < B → w'.cell? p = w.cell? p) : ∀ (l : List T) (xs : List Value), LiesL w B l xs → LiesL w' B l xs
  | [], xs, h => h
  | t :: l, xs, h => by
    obtain ⟨v, ys, hx, h1, h2⟩ := h
    exact ⟨v, ys, hx, Lies.keep hk t v h1, LiesL.keep hk l ys h2⟩
end
mutual
theorem Lies.more (hB : B ≤ B') : ∀ (t : T) (v : Value), Lies w B t v → Lies w B' t v
  | .mk k n s l, v, h => by
    obtain ⟨A, c, xs, hv, h1, h2, h3, h4, h5, h6, h7⟩ := h
    exact ⟨A, c, xs, hv, h1, h2, h3, h4, h5, h6.more hB, LiesL.more hB l xs h7⟩
theorem LiesL.more (hB : B ≤ B') : ∀ (l : List T) (xs : List Value), LiesL w B l xs → LiesL w B' l xs
  | [], xs, h => h
  | t :: l, xs, h => by
    obtain ⟨v, ys, hx, h1, h2⟩ := h
    exact ⟨v, ys, hx, Lies.more hB t v h1, LiesL.more hB l ys h2⟩
end
theorem Lies.below {t : T} {v : Value} (h : Lies w B t v) (hb : Below B w w') : Lies w' B t v := Lies.keep (fun _ hp => hb.cell hp) t v h
theorem LiesL.below {l : List T} {xs : List Value} (h : LiesL w B l xs) (hb : Below B w w') : LiesL w' B l xs := LiesL.keep (fun _ hp => hb.cell hp) l xs h
theorem Lies.alloc {t : T} {v : Value} (h : Lies w B t v) (hB : B ≤ w.heap.size) (o : Obj) : Lies (w.alloc o) B t v := Lies.keep (fun p hp => World.cell?_alloc_lt w o p (by omega)) t v h
theorem LiesL.len : ∀ {l : List T} {xs : List Value}, LiesL w B l xs → xs.length = 4 * l.length
  | [], xs, h => by rw [show xs = [] from h]; rfl
  | t :: l, xs, h => by
    obtain ⟨v, ys, rfl, _, h2⟩ := h
    rw [List.length_append, LiesL.len h2]
    simp [T.cells]; omega
/-- the j-th of the terms -/
theorem LiesL.at_ : ∀ {l : List T} {xs : List Value}, LiesL w B l xs → ∀ {j : Nat} (hj : j < l.length), ∃ v,
    xs[4 * j]? = some (.int .i64 l[j].k) ∧ xs[4 * j + 1]? = some (.int .u64 l[j].n) ∧ xs[4 * j + 2]? = some (.string l[j].s) ∧ xs[4 * j + 3]? = some v ∧ Lies w B l[j] v
  | t :: l, xs, h, 0, _ => by
    obtain ⟨v, ys, rfl, h1, _⟩ := h
    exact ⟨v, rfl, rfl, rfl, rfl, h1⟩
  | t :: l, xs, h, j + 1, hj => by
    obtain ⟨v, ys, rfl, _, h2⟩ := h
    obtain ⟨u, e0, e1, e2, e3, e4⟩ := LiesL.at_ h2 (j := j) (by simpa using hj)
    have hl : (T.cells t v).length = 4 := rfl
    refine ⟨u, ?_, ?_, ?_, ?_, e4⟩
    all_goals
      rw [List.getElem?_append_right (by rw [hl]; omega), hl]
      first | rw [show 4 * (j + 1) - 4 = 4 * j by omega] | rw [show 4 * (j + 1) + 1 - 4 = 4 * j + 1 by omega] | rw [show 4 * (j + 1) + 2 - 4 = 4 * j + 2 by omega] | rw [show 4 * (j + 1) + 3 - 4 = 4 * j + 3 by omega]
      assumption
theorem LiesL.snoc : ∀ {l : List T} {xs : List Value}, LiesL w B l xs → ∀ {t : T} {v : Value}, Lies w B t v → LiesL w B (l ++ [t]) (xs ++ T.cells t v)
  | [], xs, h, t, v, ht => by
    rw [show xs = [] from h]
    exact ⟨v, [], by simp, ht, rfl⟩
  | t0 :: l, xs, h, t, v, ht => by
    obtain ⟨u, ys, rfl, h1, h2⟩ := h
    exact ⟨u, ys ++ T.cells t v, by simp, h1, LiesL.snoc h2 ht⟩
mutual
theorem Lies.word : ∀ (t : T) (v : Value), Lies w B t v → t.word
  | .mk k n s l, v, h => by
    obtain ⟨A, c, xs, hv, h1, h2, h3, h4, h5, h6, h7⟩ := h
    exact ⟨⟨h2, by omega⟩, LiesL.word l xs h7⟩
theorem LiesL.word : ∀ (l : List T) (xs : List Value), LiesL w B l xs → wordL l
  | [], _, _ => trivial
  | t :: l, xs, h => by
    obtain ⟨v, ys, hx, h1, h2⟩ := h
    exact ⟨Lies.word t v h1, LiesL.word l ys h2⟩
end
theorem Lies.open_ {t : T} {v : Value} (h : Lies w B t v) : ∃ A c xs, v = .slice A t.l.length c ∧ (-9223372036854775808 ≤ t.k ∧ t.k ≤ 9223372036854775807) ∧ (0 ≤ t.n ∧ t.n < 18446744073709551616) ∧ t.s.size ≤ maxLen ∧ t.l.length ≤ c ∧ t.l.length * 56 ≤ 140737488355328 ∧ Rd w B A xs ∧ LiesL w B t.l xs := by
  cases t; exact h
theorem Lies.mk {t : T} {A : Option Addr} {c : Nat} {xs : List Value} (h1 : -9223372036854775808 ≤ t.k ∧ t.k ≤ 9223372036854775807) (h2 : 0 ≤ t.n ∧ t.n < 18446744073709551616) (h3 : t.s.size ≤ maxLen) (h4 : t.l.length ≤ c) (h5 : t.l.length * 56 ≤ 140737488355328) (h6 : Rd w B A xs) (h7 : LiesL w B t.l xs) : Lies w B t (.slice A t.l.length c) := by
  cases t; exact ⟨A, c, xs, rfl, h1, h2, h3, h4, h5, h6, h7⟩
/-- the j-th term of a list: its four cells, and where its own list lies -/
theorem at_cells {A : Option Addr} {l : List T} {xs : List Value} (hr : Rd w B A xs) (hl : LiesL w B l xs) {j : Nat} (hj : j < l.length) :
    ∃ b off A' c', A = some ⟨b, off, none⟩ ∧ b < B ∧ Lies w B l[j] (.slice A' l[j].l.length c') ∧ w.cell? ⟨b, off + j * 4, none⟩ = some (.int .i64 l[j].k) ∧ w.cell? ⟨b, off + j * 4 + 1, none⟩ = some (.int .u64 l[j].n) ∧
      w.cell? ⟨b, off + j * 4 + 2, none⟩ = some (.string l[j].s) ∧ w.cell? ⟨b, off + j * 4 + 3, none⟩ = some (.slice A' l[j].l.length c') := by
  obtain ⟨v, e0, e1, e2, e3, hv⟩ := hl.at_ hj
  obtain ⟨A', c', xs', rfl, _⟩ := hv.open_
  obtain ⟨b, off, e, hb, c0⟩ := hr _ _ e0
  refine ⟨b, off, A', c', e, hb, hv, ?_, ?_, ?_, ?_⟩
  · rw [show off + j * 4 = off + 4 * j by omega]; exact c0
  · obtain ⟨b', off', e', _, c1⟩ := hr _ _ e1
    rw [e] at e'; cases e'
    rw [show off + j * 4 + 1 = off + (4 * j + 1) by omega]; exact c1
  · obtain ⟨b', off', e', _, c1⟩ := hr _ _ e2
    rw [e] at e'; cases e'
    rw [show off + j * 4 + 2 = off + (4 * j + 2) by omega]; exact c1
  · obtain ⟨b', off', e', _, c1⟩ := hr _ _ e3
    rw [e] at e'; cases e'
    rw [show off + j * 4 + 3 = off + (4 * j + 3) by omega]; exact c1
end

theorem ret_int {k : IntKind} {a b : Int} (h : a = b) : Ending.returned (.int k a) = .returned (.int k b) := by rw [h]
theorem ret_bool {a b : Bool} (h : a = b) : Ending.returned (.bool a) = .returned (.bool b) := by rw [h]
theorem lay {p : Prop} (h : p) : Hid p := h
theorem Lies.later {w : World} {B : Nat} {t : T} {v : Value} (h : Lies w B t v) (hB : B ≤ w.heap.size) (o : Obj) : Lies (w.alloc o) (w.alloc o).heap.size t v :=
  Lies.more (by simp; omega) t v (h.alloc hB o)
theorem Lies.now {w : World} {B : Nat} {t : T} {v : Value} (h : Lies w B t v) (hB : B ≤ w.heap.size) : Lies w w.heap.size t v := Lies.more hB t v h
theorem below_call {w wr w2 : World} (hb : Below w.heap.size w wr) {o : Obj} (h2 : Below (wr.alloc o).heap.size (wr.alloc o) w2) : Below w.heap.size w w2 :=
  (hb.alloc hb.size o).trans (h2.mono (by have := hb.size; simp; omega))
theorem size_eq (t : T) : t.size = sizeL t.l + 1 := by cases t; rfl
theorem deep_eq (t : T) : t.deep = deepL t.l + 1 := by cases t; rfl
theorem shaped_eq (t : T) : t.shaped = (t.one && shapedL t.l) := by cases t; rfl
theorem sizeL_take (l : List T) (j : Nat) (hj : j < l.length) : sizeL (l.take (j + 1)) = sizeL (l.take j) + l[j].size := by
  induction l generalizing j with
  | nil => simp at hj
  | cons t l ih =>
    cases j with
    | zero => simp [sizeL]
    | succ j =>
      simp only [List.take_succ_cons, sizeL, List.getElem_cons_succ]
      rw [ih j (by simpa using hj)]; omega
theorem sizeL_le (l : List T) (j : Nat) : sizeL (l.take j) ≤ sizeL l := by
  induction l generalizing j with
  | nil => simp
  | cons t l ih =>
    cases j with
    | zero => simp [sizeL]
    | succ j => simp only [List.take_succ_cons, sizeL]; have := ih j; omega
theorem size_get (l : List T) (j : Nat) (hj : j < l.length) : sizeL (l.take j) + l[j].size ≤ sizeL l := by
  rw [← sizeL_take l j hj]; exact sizeL_le l _
theorem deepL_take (l : List T) (j : Nat) (hj : j < l.length) : deepL (l.take (j + 1)) = max (deepL (l.take j)) l[j].deep := by
  induction l generalizing j with
  | nil => simp at hj
  | cons t l ih =>
    cases j with
    | zero => simp [deepL]
    | succ j =>
      simp only [List.take_succ_cons, deepL, List.getElem_cons_succ]
      rw [ih j (by simpa using hj)]; omega
theorem deep_get (l : List T) (j : Nat) (hj : j < l.length) : l[j].deep ≤ deepL l := by
  induction l generalizing j with
  | nil => simp at hj
  | cons t l ih =>
    cases j with
    | zero => simp [deepL]; omega
    | succ j => simp only [deepL, List.getElem_cons_succ]; have := ih j (by simpa using hj); omega
theorem shapedL_take (l : List T) (j : Nat) (hj : j < l.length) : shapedL (l.take (j + 1)) = (shapedL (l.take j) && l[j].shaped) := by
  induction l generalizing j with
  | nil => simp at hj
  | cons t l ih =>
    cases j with
    | zero => simp [shapedL]
    | succ j =>
      simp only [List.take_succ_cons, shapedL, List.getElem_cons_succ]
      rw [ih j (by simpa using hj), Bool.and_assoc]
theorem shapedL_get (l : List T) (j : Nat) (hj : j < l.length) (h : l[j].shaped = false) : shapedL l = false := by
  induction l generalizing j with
  | nil => simp at hj
  | cons t l ih =>
    cases j with
    | zero => simp only [List.getElem_cons_zero] at h; simp [shapedL, h]
    | succ j => simp only [List.getElem_cons_succ] at h; simp [shapedL, ih j (by simpa using hj) h]
theorem enc_eq (t : T) : t.enc = UInt8.ofNat t.k.toNat :: (putL t.head ++ (t.s.data.toList ++ encL t.l)) := by cases t; rfl
theorem head_eq (t : T) : t.head = if t.k = 2 then t.s.data.toList.length else if t.k = 5 then t.l.length else t.n.toNat := by cases t; rfl
theorem encL_take (l : List T) (j : Nat) (hj : j < l.length) : encL (l.take (j + 1)) = encL (l.take j) ++ l[j].enc := by
  induction l generalizing j with
  | nil => simp at hj
  | cons t l ih =>
    cases j with
    | zero => simp [encL]
    | succ j =>
      simp only [List.take_succ_cons, encL, List.getElem_cons_succ]
      rw [ih j (by simpa using hj), List.append_assoc]
theorem shapedL_at (l : List T) (j : Nat) (hj : j < l.length) (h : shapedL l = true) : l[j].shaped = true := by
  cases hq : l[j].shaped with
  | true => rfl
  | false => rw [shapedL_get l j hj hq] at h; cases h
theorem one_kind {t : T} (h : t.one = true) : 1 ≤ t.k ∧ t.k ≤ 5 ∧ t.s.size ≤ 4000 ∧ (t.k ≠ 2 → t.s.data.toList = []) ∧ (t.k = 2 → t.n = 0) ∧ (t.k = 5 → t.n = 0) ∧ (t.k ≠ 4 → t.k ≠ 5 → t.l = []) ∧ (t.k = 4 → t.l.length = 1) := by
  rw [one_eq] at h
  have he : ∀ s : ByteArray, s.toList.isEmpty = true → s.data.toList = [] ∧ s.size = 0 := fun s hs => by
    rw [tm.toList_eq] at hs
    have h0 : s.data.toList = [] := by simpa using hs
    exact ⟨h0, by have := congrArg List.length h0; simpa using this⟩
  by_cases h1 : t.k = 1 ∨ t.k = 3
  · rw [if_pos h1, Bool.and_eq_true] at h
    obtain ⟨e1, e2⟩ := he _ h.1
    have e3 : t.l = [] := by simpa using h.2
    exact ⟨by omega, by omega, by omega, fun _ => e1, by omega, by omega, fun _ _ => e3, by omega⟩
  · rw [if_neg h1] at h
    by_cases h2 : t.k = 2
    · rw [if_pos h2] at h
      simp at h
      exact ⟨by omega, by omega, by omega, by omega, fun _ => h.1.1, by omega, fun _ _ => h.1.2, by omega⟩
    · rw [if_neg h2] at h
      by_cases h4 : t.k = 4
      · rw [if_pos h4, Bool.and_eq_true] at h
        obtain ⟨e1, e2⟩ := he _ h.1
        exact ⟨by omega, by omega, by omega, fun _ => e1, by omega, by omega, by omega, fun _ => by simpa using h.2⟩
      · rw [if_neg h4] at h
        by_cases h5 : t.k = 5
        · rw [if_pos h5, Bool.and_eq_true] at h
          obtain ⟨e1, e2⟩ := he _ h.2
          exact ⟨by omega, by omega, by omega, fun _ => e1, by omega, fun _ => by simpa using h.1, by omega, by omega⟩
        · rw [if_neg h5] at h; cases h
theorem size_pos (t : T) : 1 ≤ t.size := by rw [size_eq]; omega
end Go.Proofs.Ytjlglfjikfpboaa.lies

/- The document's own look at a term: how many (Parts), how deep (Deep), each as the words say (One, shaped): Right. -/

namespace Go.Proofs.Ytjlglfjikfpboaa.counts
set_option linter.unusedVariables false
set_option linter.unusedSimpArgs false
open Go.RowKit Go.Proofs.Ytjlglfjikfpboaa.base Go.Proofs.Ytjlglfjikfpboaa.tm Go.Proofs.Ytjlglfjikfpboaa.lies

/-- Parts, at a loop's head -/
def PHead (W : World) (l : List T) (m : Nat) (n i : Value) (wr : World) : Prop :=
  ∃ j : Nat, j ≤ l.length ∧ i = .int .i64 j ∧ n = .int .i64 (min (sizeL (l.take j) + 1) m : Nat) ∧ Below W.heap.size W wr

set_option maxRecDepth 100000 in
set_option maxHeartbeats 400000 in
theorem parts_any (N : Nat) : ∀ (t : T) (v : Value) (m : Nat) (x : Int) (w : World), t.size ≤ N → Lies w w.heap.size t v → x = (m : Int) → 1 ≤ m → m ≤ 4001 →
    Calls Try.prog 91 #[T.val t v, .int .i64 x] w fun e w' => e = .returned (.int .i64 (min t.size m : Nat)) ∧ Below w.heap.size w w' := by
  induction N with
  | zero => intro t v m x w h; have := size_pos t; omega
  | succ N ih =>
    intro t v m x w hN hL hx h1 hm
    subst hx
    obtain ⟨A, c, xs, rfl, hk, hn, hs, hlc, hc, hr, hl⟩ := hL.open_
    have hz := size_eq t
    have HZ := Lib.hid hz
    clear hz
    go_enter Try.func91, Try.ntmps91
    go_wp2_with fail
    go_loopw [5, 11] (fun n i wr => PHead w t.l m n i wr) (fun _ i _ => t.l.length - (intOf i).toNat)
    case atStart => exact ⟨0, Nat.zero_le _, rfl, by simp [sizeL]; omega, (Below.refl _ _).alloc (Nat.le_refl _) _⟩
    case round =>
      obtain ⟨j, hj, rfl, rfl, hb⟩ := hrel
      by_cases hlt : j < t.l.length
      · obtain ⟨b, off, A', c', rfl, hbl, hv, c0, c1, c2, c3⟩ := at_cells (hr.below hb) (hl.below hb) hlt
        have hg := size_get t.l j hlt
        by_cases hn' : m ≤ sizeL (t.l.take j) + 1
        · go_wp2_with fail
          go_ret
          exact ⟨ret_int (by rw [HZ.out]; omega), hb.alloc hb.size _⟩
        · go_wp2_with (go_at_call 91; refine (ih t.l[j] _ (m - (sizeL (t.l.take j) + 1)) _ _ (by have := HZ.out; omega) (hv.later hb.size _) (by omega) (by omega) (by omega)).mono ?_; rintro e w2 ⟨rfl, hb2⟩)
          exact ⟨⟨j + 1, hlt, by go_num, by rw [sizeL_take _ _ hlt]; congr 1; omega, below_call hb hb2⟩, by simp [intOf]; omega⟩
      · have hjl : t.l.take j = t.l := List.take_of_length_le (by omega)
        rw [hjl]
        go_wp2_with fail
        go_ret
        exact ⟨ret_int (by rw [HZ.out]), hb⟩

/-- Deep, at a loop's head -/
def DHead (W : World) (l : List T) (m : Nat) (n i : Value) (wr : World) : Prop :=
  ∃ j : Nat, j ≤ l.length ∧ i = .int .i64 j ∧ n = .int .i64 (deepL (l.take j) : Nat) ∧ deepL (l.take j) < m - 1 ∧ Below W.heap.size W wr

set_option maxRecDepth 100000 in
set_option maxHeartbeats 400000 in
theorem deep_any (N : Nat) : ∀ (t : T) (v : Value) (m : Nat) (x : Int) (w : World), t.size ≤ N → Lies w w.heap.size t v → x = (m : Int) → 1 ≤ m → m ≤ 4001 →
    Calls Try.prog 92 #[T.val t v, .int .i64 x] w fun e w' => e = .returned (.int .i64 (min t.deep m : Nat)) ∧ Below w.heap.size w w' := by
  induction N with
  | zero => intro t v m x w h; have := size_pos t; omega
  | succ N ih =>
    intro t v m x w hN hL hx h1 hm
    subst hx
    obtain ⟨A, c, xs, rfl, hk, hn, hs, hlc, hc, hr, hl⟩ := hL.open_
    have HS := lay (size_eq t)
    have HD := lay (deep_eq t)
    by_cases hm1 : m ≤ 1
    · go_enter Try.func92, Try.ntmps92
      go_wp2_with fail
      go_ret
      exact ⟨ret_int (by rw [HD.out]; omega), (Below.refl _ _).alloc (Nat.le_refl _) _⟩
    · go_enter Try.func92, Try.ntmps92
      go_wp2_with fail
      go_loopw [5, 15] (fun n i wr => DHead w t.l m n i wr) (fun _ i _ => t.l.length - (intOf i).toNat)
      case atStart => exact ⟨0, Nat.zero_le _, rfl, by simp [deepL], by simp [deepL]; omega, (Below.refl _ _).alloc (Nat.le_refl _) _⟩
      case round =>
        obtain ⟨j, hj, rfl, rfl, hlow, hb⟩ := hrel
        by_cases hlt : j < t.l.length
        · obtain ⟨b, off, A', c', rfl, hbl, hv, c0, c1, c2, c3⟩ := at_cells (hr.below hb) (hl.below hb) hlt
          have hg := size_get t.l j hlt
          have HG := lay (deep_get t.l j hlt)
          have HT := lay (deepL_take t.l j hlt)
          have hcall := fun wx (hx : Lies wx wx.heap.size t.l[j] (.slice A' t.l[j].l.length c')) (y : Int) (hy : y = ((m - 1 : Nat) : Int)) => ih t.l[j] (.slice A' t.l[j].l.length c') (m - 1) y wx (by have := HS.out; omega) hx hy (by omega) (by omega)
          by_cases hA : m - 1 ≤ t.l[j].deep
          · have e : min t.l[j].deep (m - 1) = m - 1 := by omega
            rw [e] at hcall
            clear e
            go_wp2_with (go_at_call 92; refine (hcall _ (hv.later hb.size _) _ (by omega)).mono ?_; rintro e w2 ⟨rfl, hb2⟩)
            go_ret
            exact ⟨ret_int (by rw [HD.out]; have := HG.out; omega), below_call hb hb2⟩
          · have e : min t.l[j].deep (m - 1) = t.l[j].deep := by omega
            rw [e] at hcall
            clear e
            by_cases hB : deepL (t.l.take j) < t.l[j].deep
            · go_wp2_with (go_at_call 92; refine (hcall _ (hv.later hb.size _) _ (by omega)).mono ?_; rintro e w2 ⟨rfl, hb2⟩)
              exact ⟨⟨j + 1, hlt, by go_num, by rw [HT.out]; congr 1; omega, by rw [HT.out]; omega, below_call hb hb2⟩, by simp [intOf]; omega⟩
            · go_wp2_with (go_at_call 92; refine (hcall _ (hv.later hb.size _) _ (by omega)).mono ?_; rintro e w2 ⟨rfl, hb2⟩)
              exact ⟨⟨j + 1, hlt, by go_num, by rw [HT.out]; congr 1; omega, by rw [HT.out]; omega, below_call hb hb2⟩, by simp [intOf]; omega⟩
        · have hjl : t.l.take j = t.l := List.take_of_length_le (by omega)
          rw [hjl] at hlow ⊢
          go_wp2_with fail
          go_ret
          exact ⟨ret_int (by rw [HD.out]; omega), hb⟩

set_option maxRecDepth 100000 in
set_option maxHeartbeats 400000 in
theorem one_any (t : T) (A : Option Addr) (c : Nat) (w : World) (hs : t.s.size ≤ maxLen) (hlc : t.l.length * 56 ≤ 140737488355328) :
    Calls Try.prog 126 #[T.val t (.slice A t.l.length c)] w fun e w' => e = .returned (.bool t.one) ∧ Below w.heap.size w w' := by
  unfold maxLen at hs
  by_cases h1 : t.k = 1
  · have k1 : (t.k == 1) = true := by simp [h1]
    clear h1
    go_enter Try.func126, Try.ntmps126
    go_wp2_with fail
    all_goals
      go_ret
      refine ⟨ret_bool ?_, (Below.refl _ _).alloc (Nat.le_refl _) _⟩
      go_light
      rw [one_eq]
      simp_all
      try (cases h : t.l <;> simp_all <;> omega)
      try (rw [Bool.eq_iff_iff]; simp <;> omega)
  · have k1 : (t.k == 1) = false := by simp [h1]
    by_cases h3 : t.k = 3
    · have k3 : (t.k == 3) = true := by simp [h3]
      clear h1 h3
      go_enter Try.func126, Try.ntmps126
      go_wp2_with fail
      all_goals
        go_ret
        refine ⟨ret_bool ?_, (Below.refl _ _).alloc (Nat.le_refl _) _⟩
        go_light
        rw [one_eq]
        simp_all
        try (cases h : t.l <;> simp_all <;> omega)
        try (rw [Bool.eq_iff_iff]; simp <;> omega)
    · have k3 : (t.k == 3) = false := by simp [h3]
      clear h1 h3
      by_cases h2 : t.k = 2
      · have k2 : (t.k == 2) = true := by simp [h2]
        clear h2
        go_enter Try.func126, Try.ntmps126
        go_wp2_with fail
        all_goals
          go_ret
          refine ⟨ret_bool ?_, (Below.refl _ _).alloc (Nat.le_refl _) _⟩
          go_light
          rw [one_eq]
          simp_all
          try (cases h : t.l <;> simp_all <;> omega)
          try (rw [Bool.eq_iff_iff]; simp <;> omega)
      · have k2 : (t.k == 2) = false := by simp [h2]
        clear h2
        by_cases h4 : t.k = 4
        · have k4 : (t.k == 4) = true := by simp [h4]
          clear h4
          go_enter Try.func126, Try.ntmps126
          go_wp2_with fail
          all_goals
            go_ret
            refine ⟨ret_bool ?_, (Below.refl _ _).alloc (Nat.le_refl _) _⟩
            go_light
            rw [one_eq]
            simp_all
            try (cases h : t.l <;> simp_all <;> omega)
            try (rw [Bool.eq_iff_iff]; simp <;> omega)
        · have k4 : (t.k == 4) = false := by simp [h4]
          clear h4
          by_cases h5 : t.k = 5
          · have k5 : (t.k == 5) = true := by simp [h5]
            clear h5
            go_enter Try.func126, Try.ntmps126
            go_wp2_with fail
            all_goals
              go_ret
              refine ⟨ret_bool ?_, (Below.refl _ _).alloc (Nat.le_refl _) _⟩
              go_light
              rw [one_eq]
              simp_all
              try (cases h : t.l <;> simp_all <;> omega)
              try (rw [Bool.eq_iff_iff]; simp <;> omega)
          · have k5 : (t.k == 5) = false := by simp [h5]
            clear h5
            go_enter Try.func126, Try.ntmps126
            go_wp2_with fail
            all_goals
              go_ret
              refine ⟨ret_bool ?_, (Below.refl _ _).alloc (Nat.le_refl _) _⟩
              go_light
              rw [one_eq]
              simp_all
              try (cases h : t.l <;> simp_all <;> omega)
              try (rw [Bool.eq_iff_iff]; simp <;> omega)
end Go.Proofs.Ytjlglfjikfpboaa.counts

/- The program's own look at a term: count.add, formed, Right; and the document's shaped and Right. -/

namespace Go.Proofs.Ytjlglfjikfpboaa.rights
set_option linter.unusedVariables false
set_option linter.unusedSimpArgs false
open Go.RowKit Go.Proofs.Ytjlglfjikfpboaa.base Go.Proofs.Ytjlglfjikfpboaa.tm Go.Proofs.Ytjlglfjikfpboaa.lies Go.Proofs.Ytjlglfjikfpboaa.counts

set_option maxRecDepth 100000 in
set_option maxHeartbeats 400000 in
theorem formed_any (t : T) (A : Option Addr) (c : Nat) (w : World) (hs : t.s.size ≤ maxLen) (hlc : t.l.length * 56 ≤ 140737488355328) :
    Calls Try.prog 128 #[T.val t (.slice A t.l.length c)] w fun e w' => e = .returned (.bool t.one) ∧ Below w.heap.size w w' := by
  unfold maxLen at hs
  by_cases h1 : t.k = 1
  · have k1 : (t.k == 1) = true := by simp [h1]
    clear h1
    go_enter Try.func128, Try.ntmps128
    go_wp2_with fail
    all_goals
      go_ret
      refine ⟨ret_bool ?_, (Below.refl _ _).alloc (Nat.le_refl _) _⟩
      go_light
      rw [one_eq]
      simp_all
      try (cases h : t.l <;> simp_all <;> omega)
      try (rw [Bool.eq_iff_iff]; simp <;> omega)
  · have k1 : (t.k == 1) = false := by simp [h1]
    by_cases h3 : t.k = 3
    · have k3 : (t.k == 3) = true := by simp [h3]
      clear h1 h3
      go_enter Try.func128, Try.ntmps128
      go_wp2_with fail
      all_goals
        go_ret
        refine ⟨ret_bool ?_, (Below.refl _ _).alloc (Nat.le_refl _) _⟩
        go_light
        rw [one_eq]
        simp_all
        try (cases h : t.l <;> simp_all <;> omega)
        try (rw [Bool.eq_iff_iff]; simp <;> omega)
    · have k3 : (t.k == 3) = false := by simp [h3]
      clear h1 h3
      by_cases h2 : t.k = 2
      · have k2 : (t.k == 2) = true := by simp [h2]
        clear h2
        go_enter Try.func128, Try.ntmps128
        go_wp2_with fail
        all_goals
          go_ret
          refine ⟨ret_bool ?_, (Below.refl _ _).alloc (Nat.le_refl _) _⟩
          go_light
          rw [one_eq]
          simp_all
          try (cases h : t.l <;> simp_all <;> omega)
          try (rw [Bool.eq_iff_iff]; simp <;> omega)
      · have k2 : (t.k == 2) = false := by simp [h2]
        clear h2
        by_cases h4 : t.k = 4
        · have k4 : (t.k == 4) = true := by simp [h4]
          clear h4
          go_enter Try.func128, Try.ntmps128
          go_wp2_with fail
          all_goals
            go_ret
            refine ⟨ret_bool ?_, (Below.refl _ _).alloc (Nat.le_refl _) _⟩
            go_light
            rw [one_eq]
            simp_all
            try (cases h : t.l <;> simp_all <;> omega)
            try (rw [Bool.eq_iff_iff]; simp <;> omega)
        · have k4 : (t.k == 4) = false := by simp [h4]
          clear h4
          by_cases h5 : t.k = 5
          · have k5 : (t.k == 5) = true := by simp [h5]
            clear h5
            go_enter Try.func128, Try.ntmps128
            go_wp2_with fail
            all_goals
              go_ret
              refine ⟨ret_bool ?_, (Below.refl _ _).alloc (Nat.le_refl _) _⟩
              go_light
              rw [one_eq]
              simp_all
              try (cases h : t.l <;> simp_all <;> omega)
              try (rw [Bool.eq_iff_iff]; simp <;> omega)
          · have k5 : (t.k == 5) = false := by simp [h5]
            clear h5
            go_enter Try.func128, Try.ntmps128
            go_wp2_with fail
            all_goals
              go_ret
              refine ⟨ret_bool ?_, (Below.refl _ _).alloc (Nat.le_refl _) _⟩
              go_light
              rw [one_eq]
              simp_all
              try (cases h : t.l <;> simp_all <;> omega)
              try (rw [Bool.eq_iff_iff]; simp <;> omega)

/-- shaped, at a loop's head -/
def SHead (W : World) (l : List T) (i : Value) (wr : World) : Prop :=
  ∃ j : Nat, j ≤ l.length ∧ i = .int .i64 j ∧ Hid (shapedL (l.take j) = true) ∧ Below W.heap.size W wr

theorem bcell {W w1 : World} (hb : Below W.heap.size W w1) : (∀ b o, b < W.heap.size → w1.cell? ⟨b, o, none⟩ = W.cell? ⟨b, o, none⟩) ∧ (∀ b o, b < W.heap.size → w1.frozen? ⟨b, o, none⟩ = W.frozen? ⟨b, o, none⟩) :=
  ⟨fun b o h => hb.cell (p := ⟨b, o, none⟩) h, fun b o h => hb.frozen (p := ⟨b, o, none⟩) h⟩

set_option maxRecDepth 100000 in
set_option maxHeartbeats 400000 in
theorem shaped_any (N : Nat) : ∀ (t : T) (v : Value) (w : World), t.size ≤ N → Lies w w.heap.size t v →
    Calls Try.prog 93 #[T.val t v] w fun e w' => e = .returned (.bool t.shaped) ∧ Below w.heap.size w w' := by
  induction N with
  | zero => intro t v w h; have := size_pos t; omega
  | succ N ih =>
    intro t v w hN hL
    obtain ⟨A, c, xs, rfl, hk, hn, hs, hlc, hc, hr, hl⟩ := hL.open_
    have HS := lay (size_eq t)
    have HP := lay (shaped_eq t)
    have hone := fun wx => one_any t A c wx hs (by omega)
    cases ho : t.one with
    | false =>
      rw [ho] at hone
      have HO := lay ho
      clear ho
      go_enter Try.func93, Try.ntmps93
      go_wp2_with (go_at_call 126; refine (hone _).mono ?_; rintro e w1 ⟨rfl, hb1⟩)
      go_ret
      exact ⟨ret_bool (by rw [HP.out, HO.out]; rfl), below_call (Below.refl _ _) hb1⟩
    | true =>
      rw [ho] at hone
      have HO := lay ho
      clear ho
      go_enter Try.func93, Try.ntmps93
      go_wp2_with (go_at_call 126; refine (hone _).mono ?_; rintro e w1 ⟨rfl, hb1⟩; obtain ⟨hc1, hf1⟩ := bcell hb1)
      have hb0 := below_call (Below.refl _ _) hb1
      clear hb1 hc1 hf1
      go_loopw [11] (fun i wr => SHead w t.l i wr) (fun i _ => t.l.length - (intOf i).toNat)
      case atStart => exact ⟨0, Nat.zero_le _, rfl, lay rfl, hb0⟩
      case round =>
        obtain ⟨j, hj, rfl, hsh, hb⟩ := hrel
        by_cases hlt : j < t.l.length
        · obtain ⟨b, off, A', c', rfl, hbl, hv, c0, c1, c2, c3⟩ := at_cells (hr.below hb) (hl.below hb) hlt
          have hg := size_get t.l j hlt
          have hcall := fun wx (hx : Lies wx wx.heap.size t.l[j] (.slice A' t.l[j].l.length c')) => ih t.l[j] (.slice A' t.l[j].l.length c') wx (by have := HS.out; omega) hx
          cases hq : t.l[j].shaped with
          | false =>
            rw [hq] at hcall
            have HQ := lay (shapedL_get t.l j hlt hq)
            clear hq
            go_wp2_with (go_at_call 93; refine (hcall _ (hv.later hb.size _)).mono ?_; rintro e w2 ⟨rfl, hb2⟩)
            go_ret
            exact ⟨ret_bool (by rw [HP.out, HQ.out]; simp), below_call hb hb2⟩
          | true =>
            rw [hq] at hcall
            have HQ := lay hq
            clear hq
            go_wp2_with (go_at_call 93; refine (hcall _ (hv.later hb.size _)).mono ?_; rintro e w2 ⟨rfl, hb2⟩)
            exact ⟨⟨j + 1, hlt, by go_num, lay (by rw [shapedL_take _ _ hlt, hsh.out, HQ.out]; rfl), below_call hb hb2⟩, by simp [intOf]; omega⟩
        · have hjl : t.l.take j = t.l := List.take_of_length_le (by omega)
          rw [hjl] at hsh
          go_wp2_with fail
          go_ret
          exact ⟨ret_bool (by rw [HP.out, HO.out, hsh.out]; rfl), hb⟩

set_option maxRecDepth 100000 in
set_option maxHeartbeats 400000 in
theorem refRight_any (t : T) (v : Value) (w : World) (hL : Lies w w.heap.size t v) :
    Calls Try.prog 57 #[T.val t v] w fun e w' => e = .returned (.int .i64 t.right) ∧ Below w.heap.size w w' := by
  obtain ⟨A, c, xs, rfl, hk, hn, hs, hlc, hc, hr, hl⟩ := hL.open_
  have p1 := fun wx (hx : Lies wx wx.heap.size t (.slice A t.l.length c)) => parts_any t.size t _ 4001 4001 wx (Nat.le_refl _) hx rfl (by omega) (by omega)
  have p2 := fun wx (hx : Lies wx wx.heap.size t (.slice A t.l.length c)) => deep_any t.size t _ 13 13 wx (Nat.le_refl _) hx rfl (by omega) (by omega)
  have p3 := fun wx (hx : Lies wx wx.heap.size t (.slice A t.l.length c)) => shaped_any t.size t _ wx (Nat.le_refl _) hx
  have hL1 := hL.later (Nat.le_refl _) (.cells #[.int .i64 t.k, .int .u64 t.n, .string t.s, .slice A t.l.length c] 39)
  by_cases h1 : 4000 < t.size
  · have HR : Hid (t.right = 23) := lay (by unfold T.right; rw [if_pos h1])
    go_enter Try.func57, Try.ntmps57
    go_wp2_with (go_at_call 91; refine (p1 _ hL1).mono ?_; rintro e w1 ⟨rfl, hb1⟩)
    go_ret
    exact ⟨ret_int (by rw [HR.out]), below_call (Below.refl _ _) hb1⟩
  · by_cases h2 : 12 < t.deep
    · have HR : Hid (t.right = 22) := lay (by unfold T.right; rw [if_neg h1, if_pos h2])
      go_enter Try.func57, Try.ntmps57
      go_wp2_with (first
        | (go_at_call 91; refine (p1 _ hL1).mono ?_; rintro e w1 ⟨rfl, hb1⟩; obtain ⟨hc1, hf1⟩ := bcell hb1; have hL2 := (hL1.below hb1).now hb1.size)
        | (go_at_call 92; refine (p2 _ hL2).mono ?_; rintro e w2 ⟨rfl, hb2⟩))
      go_ret
      exact ⟨ret_int (by rw [HR.out]), below_call (Below.refl _ _) (hb1.trans (hb2.mono hb1.size))⟩
    · have HR : Hid (t.right = if t.shaped then 0 else 25) := lay (by unfold T.right; rw [if_neg h1, if_neg h2])
      cases hq : t.shaped with
      | false =>
        rw [hq] at HR p3
        clear hq
        go_enter Try.func57, Try.ntmps57
        go_wp2_with (first
          | (go_at_call 91; refine (p1 _ hL1).mono ?_; rintro e w1 ⟨rfl, hb1⟩; obtain ⟨hc1, hf1⟩ := bcell hb1; have hL2 := (hL1.below hb1).now hb1.size)
          | (go_at_call 92; refine (p2 _ hL2).mono ?_; rintro e w2 ⟨rfl, hb2⟩; obtain ⟨hc2, hf2⟩ := bcell hb2; have hL3 := (hL2.below hb2).now hb2.size; have hz2 : w.heap.size < w1.heap.size := by have := hb1.size; simp at this; omega)
          | (go_at_call 93; refine (p3 _ hL3).mono ?_; rintro e w3 ⟨rfl, hb3⟩))
        go_ret
        exact ⟨ret_int (by rw [HR.out]; rfl), below_call (Below.refl _ _) ((hb1.trans (hb2.mono hb1.size)).trans (hb3.mono (by have := hb1.size; have := hb2.size; omega)))⟩
      | true =>
        rw [hq] at HR p3
        clear hq
        go_enter Try.func57, Try.ntmps57
        go_wp2_with (first
          | (go_at_call 91; refine (p1 _ hL1).mono ?_; rintro e w1 ⟨rfl, hb1⟩; obtain ⟨hc1, hf1⟩ := bcell hb1; have hL2 := (hL1.below hb1).now hb1.size)
          | (go_at_call 92; refine (p2 _ hL2).mono ?_; rintro e w2 ⟨rfl, hb2⟩; obtain ⟨hc2, hf2⟩ := bcell hb2; have hL3 := (hL2.below hb2).now hb2.size; have hz2 : w.heap.size < w1.heap.size := by have := hb1.size; simp at this; omega)
          | (go_at_call 93; refine (p3 _ hL3).mono ?_; rintro e w3 ⟨rfl, hb3⟩))
        go_ret
        exact ⟨ret_int (by rw [HR.out]; rfl), below_call (Below.refl _ _) ((hb1.trans (hb2.mono hb1.size)).trans (hb3.mono (by have := hb1.size; have := hb2.size; omega)))⟩
end Go.Proofs.Ytjlglfjikfpboaa.rights

/- The program's own count of a term: count.add; and Right. -/

namespace Go.Proofs.Ytjlglfjikfpboaa.adds
set_option linter.unusedVariables false
set_option linter.unusedSimpArgs false
open Go.RowKit Go.Proofs.Ytjlglfjikfpboaa.base Go.Proofs.Ytjlglfjikfpboaa.tm Go.Proofs.Ytjlglfjikfpboaa.lies Go.Proofs.Ytjlglfjikfpboaa.counts Go.Proofs.Ytjlglfjikfpboaa.rights

/-- the count at block g -/
def Cnt (w : World) (g : Nat) (k d : Nat) (b : Bool) : Prop := Blk w g 158 #[.int .i64 k, .int .i64 d, .bool b]

/-- what the count is behind a term -/
def Done (W : World) (g : Nat) (sz dp k d D : Nat) (bad b : Bool) (w' : World) : Prop :=
  ∃ k' d' b', Cnt w' g k' d' b' ∧ W.grownBy w' (some g) ∧ (k + sz ≤ 4000 → k' = k + sz ∧ d' = max d (D + dp - 1) ∧ b' = (b || bad)) ∧ (4000 < k + sz → k' = 4001)

/-- at a loop's head -/
def CHead (W : World) (g : Nat) (t : T) (k d D : Nat) (b : Bool) (i : Value) (wr : World) : Prop :=
  ∃ j : Nat, j ≤ t.l.length ∧ i = .int .i64 j ∧ Done W g (sizeL (t.l.take j) + 1) (deepL (t.l.take j) + 1) k d D (!t.one || !shapedL (t.l.take j)) b wr

theorem grown_alloc {a b : World} {row : Option Nat} (h : a.grownBy b row) (o : Obj) : a.grownBy (b.alloc o) row := grown_below h ((Below.refl _ _).alloc (Nat.le_refl _) o)
theorem Cnt.later {w w' : World} {g k d : Nat} {b : Bool} (h : Cnt w g k d b) (hb : Below w.heap.size w w') : Cnt w' g k d b := Blk.below h hb h.lt
/-- the count behind its own three stores -/
theorem start1 {w : World} {g k d : Nat} {b : Bool} (hC : Cnt w g k d b) (k' d' : Nat) (b' : Bool) (o : Obj) :
    Cnt ((((w.setCell ⟨g, 0, none⟩ (.int .i64 k')).setCell ⟨g, 1, none⟩ (.int .i64 d')).setCell ⟨g, 2, none⟩ (.bool b')).alloc o) g k' d' b' ∧
      w.grownBy ((((w.setCell ⟨g, 0, none⟩ (.int .i64 k')).setCell ⟨g, 1, none⟩ (.int .i64 d')).setCell ⟨g, 2, none⟩ (.bool b')).alloc o) (some g) := by
  refine ⟨?_, grown_alloc (grown_trans (grown_trans (grown_set _ _ _ _) (grown_set _ _ _ _)) (grown_set _ _ _ _)) _⟩
  have h := ((Blk.put hC 0 (.int .i64 k')).put 1 (.int .i64 d')).put 2 (.bool b')
  exact Blk.alloc h o
theorem start2 {w w1 : World} {g k d : Nat} {b : Bool} (hC : Cnt w g k d b) (k' d' : Nat) (b' : Bool) (o : Obj)
    (hb : Below (((w.setCell ⟨g, 0, none⟩ (.int .i64 k')).setCell ⟨g, 1, none⟩ (.int .i64 d')).alloc o).heap.size (((w.setCell ⟨g, 0, none⟩ (.int .i64 k')).setCell ⟨g, 1, none⟩ (.int .i64 d')).alloc o) w1) :
    Cnt (w1.setCell ⟨g, 2, none⟩ (.bool b')) g k' d' b' ∧ w.grownBy (w1.setCell ⟨g, 2, none⟩ (.bool b')) (some g) := by
  have h := (Blk.put hC 0 (.int .i64 k')).put 1 (.int .i64 d')
  have h1 := (Blk.alloc h o).below hb (Blk.alloc h o).lt
  exact ⟨h1.put 2 (.bool b'), grown_trans (grown_below (grown_alloc (grown_trans (grown_set _ _ _ _) (grown_set _ _ _ _)) _) hb) (grown_set _ _ _ _)⟩
theorem head_start {W wr : World} {g k d D d' : Nat} {t : T} {b b' : Bool} (hC : Cnt wr g (k + 1) d' b') (hG : W.grownBy wr (some g)) (hk : k ≤ 4000) (hd : d' = max d D) (hb : b' = (b || !t.one)) : CHead W g t k d D b (.int .i64 ((0 : Nat) : Int)) wr :=
  ⟨0, Nat.zero_le _, rfl, k + 1, d', b', hC, hG, fun _ => ⟨by simp [sizeL], by simp [deepL]; omega, by simp [shapedL, hb]⟩, fun h => by simp [sizeL] at h; omega⟩
theorem Done.next {W wr w' : World} {g k d D : Nat} {t : T} {b : Bool} {j k' d' : Nat} {b' : Bool} (hj : j < t.l.length) (hG : W.grownBy wr (some g))
    (h1 : k + (sizeL (t.l.take j) + 1) ≤ 4000 → k' = k + (sizeL (t.l.take j) + 1) ∧ d' = max d (D + (deepL (t.l.take j) + 1) - 1) ∧ b' = (b || (!t.one || !shapedL (t.l.take j))))
    (hle : k + (sizeL (t.l.take j) + 1) ≤ 4000) (o : Obj) (hD : Done (wr.alloc o) g t.l[j].size t.l[j].deep k' d' (D + 1) (!t.l[j].shaped) b' w') :
    CHead W g t k d D b (.int .i64 ((j + 1 : Nat) : Int)) w' := by
  obtain ⟨rfl, rfl, rfl⟩ := h1 hle
  obtain ⟨k2, d2, b2, hC2, hG2, ha, hb⟩ := hD
  refine ⟨j + 1, hj, rfl, k2, d2, b2, hC2, grown_trans (grown_alloc hG o) hG2, fun h => ?_, fun h => ?_⟩
  · rw [sizeL_take _ _ hj] at h ⊢
    obtain ⟨e1, e2, e3⟩ := ha (by omega)
    refine ⟨by omega, ?_, ?_⟩
    · rw [e2, deepL_take _ _ hj]; omega
    · rw [e3, shapedL_take _ _ hj, Bool.not_and, Bool.or_assoc, Bool.or_assoc]
  · rw [sizeL_take _ _ hj] at h
    exact hb (by omega)

set_option maxRecDepth 100000 in
set_option maxHeartbeats 400000 in
theorem add_any (N : Nat) : ∀ (t : T) (v : Value) (g k d D B : Nat) (b : Bool) (x : Int) (w : World), t.size ≤ N → Lies w B t v → B ≤ g → x = (D : Int) → Cnt w g k d b → D ≤ k + 1 → k ≤ 4000 →
    Calls Try.prog 96 #[.pointer (some ⟨g, 0, none⟩), T.val t v, .int .i64 x] w fun e w' => e = .returned (.tuple #[]) ∧ Done w g t.size t.deep k d D (!t.shaped) b w' := by
  induction N with
  | zero => intro t v g k d D B b x w h; have := size_pos t; omega
  | succ N ih =>
    intro t v g k d D B b x w hN hL hBg hx hC hD hk4
    subst hx
    obtain ⟨A, c, xs, rfl, hk, hn, hs, hlc, hc, hr, hl⟩ := hL.open_
    have HS := lay (size_eq t)
    have HD := lay (deep_eq t)
    have HP := lay (shaped_eq t)
    have hone := fun wx => formed_any t A c wx hs (by omega)
    have hgl := hC.lt
    have x0 := hC.cell 0
    have x1 := hC.cell 1
    have x2 := hC.cell 2
    have f0 := hC.frozen 0
    have f1 := hC.frozen 1
    have f2 := hC.frozen 2
    simp at x0 x1 x2
    cases b with
    | true =>
      by_cases hd : d < D
      · have hS := start1 hC (k + 1) D true (.cells #[.int .i64 t.k, .int .u64 t.n, .string t.s, .slice A t.l.length c] 39)
        go_enter Try.func96, Try.ntmps96
        go_wp2_with fail
        go_loopw [39] (fun i wr => CHead w g t k d D true i wr) (fun i _ => t.l.length - (intOf i).toNat)
        case atStart => exact head_start hS.1 hS.2 hk4 (by omega) (by simp)
        case round =>
          obtain ⟨j, hj, rfl, k', d', b', hC', hG, h1, h2⟩ := hrel
          have H1 := Lib.hid h1
          have H2 := Lib.hid h2
          clear h1 h2
          have hgl' := hC'.lt
          have hsz := hG.size
          have y0 := hC'.cell 0
          simp at y0
          by_cases hlt : j < t.l.length
          · have hkeep : ∀ p : Addr, p.block < B → wr.cell? p = w.cell? p := fun p hp => World.cell?_of_block (hG.block p.block (by omega) (by simp; omega))
            obtain ⟨b0, off, A', c', rfl, hbl, hv, c0, c1, c2, c3⟩ := at_cells (hr.keep hkeep) (LiesL.keep hkeep _ _ hl) hlt
            clear hkeep
            have hg := size_get t.l j hlt
            by_cases hbig : 4000 < k + (sizeL (t.l.take j) + 1)
            · obtain rfl : k' = 4001 := H2.out hbig
              go_wp2_with fail
              refine bodyPost_ret (results_none rfl _ _ _) rfl ⟨rfl, 4001, d', b', Blk.alloc hC' _, grown_alloc hG _, fun h => ?_, fun _ => rfl⟩
              have := HS.out; omega
            · have hk4' : k' ≤ 4000 := by have := (H1.out (by omega)).1; omega
              have hD' : D + 1 ≤ k' + 1 := by have := (H1.out (by omega)).1; omega
              go_wp2_with (go_at_call 96; refine (ih t.l[j] _ g k' d' (D + 1) B b' _ _ (by have := HS.out; omega) (hv.alloc (by omega) _) hBg (by omega) (Blk.alloc hC' _) hD' hk4').mono ?_; rintro e w2 ⟨rfl, hdone⟩)
              exact ⟨Done.next hlt hG H1.out (by omega) _ hdone, by simp [intOf]; omega⟩
          · have hjl : t.l.take j = t.l := List.take_of_length_le (by omega)
            rw [hjl] at H1 H2
            go_wp2_with fail
            refine bodyPost_end (results_none rfl _ _ _) rfl ⟨rfl, k', d', b', hC', hG, fun h => ?_, fun h => ?_⟩
            · rw [HS.out] at h ⊢
              rw [HD.out, HP.out, Bool.not_and]
              exact H1.out h
            · rw [HS.out] at h
              exact H2.out h
      · have hS := start1 hC (k + 1) d true (.cells #[.int .i64 t.k, .int .u64 t.n, .string t.s, .slice A t.l.length c] 39)
        go_enter Try.func96, Try.ntmps96
        go_wp2_with fail
        go_loopw [39] (fun i wr => CHead w g t k d D true i wr) (fun i _ => t.l.length - (intOf i).toNat)
        case atStart => exact head_start hS.1 hS.2 hk4 (by omega) (by simp)
        case round =>
          obtain ⟨j, hj, rfl, k', d', b', hC', hG, h1, h2⟩ := hrel
          have H1 := Lib.hid h1
          have H2 := Lib.hid h2
          clear h1 h2
          have hgl' := hC'.lt
          have hsz := hG.size
          have y0 := hC'.cell 0
          simp at y0
          by_cases hlt : j < t.l.length
          · have hkeep : ∀ p : Addr, p.block < B → wr.cell? p = w.cell? p := fun p hp => World.cell?_of_block (hG.block p.block (by omega) (by simp; omega))
            obtain ⟨b0, off, A', c', rfl, hbl, hv, c0, c1, c2, c3⟩ := at_cells (hr.keep hkeep) (LiesL.keep hkeep _ _ hl) hlt
            clear hkeep
            have hg := size_get t.l j hlt
            by_cases hbig : 4000 < k + (sizeL (t.l.take j) + 1)
            · obtain rfl : k' = 4001 := H2.out hbig
              go_wp2_with fail
              refine bodyPost_ret (results_none rfl _ _ _) rfl ⟨rfl, 4001, d', b', Blk.alloc hC' _, grown_alloc hG _, fun h => ?_, fun _ => rfl⟩
              have := HS.out; omega
            · have hk4' : k' ≤ 4000 := by have := (H1.out (by omega)).1; omega
              have hD' : D + 1 ≤ k' + 1 := by have := (H1.out (by omega)).1; omega
              go_wp2_with (go_at_call 96; refine (ih t.l[j] _ g k' d' (D + 1) B b' _ _ (by have := HS.out; omega) (hv.alloc (by omega) _) hBg (by omega) (Blk.alloc hC' _) hD' hk4').mono ?_; rintro e w2 ⟨rfl, hdone⟩)
              exact ⟨Done.next hlt hG H1.out (by omega) _ hdone, by simp [intOf]; omega⟩
          · have hjl : t.l.take j = t.l := List.take_of_length_le (by omega)
            rw [hjl] at H1 H2
            go_wp2_with fail
            refine bodyPost_end (results_none rfl _ _ _) rfl ⟨rfl, k', d', b', hC', hG, fun h => ?_, fun h => ?_⟩
            · rw [HS.out] at h ⊢
              rw [HD.out, HP.out, Bool.not_and]
              exact H1.out h
            · rw [HS.out] at h
              exact H2.out h
    | false =>
      by_cases hd : d < D
      · have hSS := fun w1 => start2 (w1 := w1) hC (k + 1) D (!t.one) (.cells #[.int .i64 t.k, .int .u64 t.n, .string t.s, .slice A t.l.length c] 39)
        go_enter Try.func96, Try.ntmps96
        go_wp2_with (go_at_call 128; refine (hone _).mono ?_; rintro e w1 ⟨rfl, hb1⟩; have hS := hSS w1 hb1; obtain ⟨hc1, hf1⟩ := bcell hb1)
        clear hc1 hf1 hb1
        go_loopw [39] (fun i wr => CHead w g t k d D false i wr) (fun i _ => t.l.length - (intOf i).toNat)
        case atStart => exact head_start hS.1 hS.2 hk4 (by omega) (by simp)
        case round =>
          obtain ⟨j, hj, rfl, k', d', b', hC', hG, h1, h2⟩ := hrel
          have H1 := Lib.hid h1
          have H2 := Lib.hid h2
          clear h1 h2
          have hgl' := hC'.lt
          have hsz := hG.size
          have y0 := hC'.cell 0
          simp at y0
          by_cases hlt : j < t.l.length
          · have hkeep : ∀ p : Addr, p.block < B → wr.cell? p = w.cell? p := fun p hp => World.cell?_of_block (hG.block p.block (by omega) (by simp; omega))
            obtain ⟨b0, off, A', c', rfl, hbl, hv, c0, c1, c2, c3⟩ := at_cells (hr.keep hkeep) (LiesL.keep hkeep _ _ hl) hlt
            clear hkeep
            have hg := size_get t.l j hlt
            by_cases hbig : 4000 < k + (sizeL (t.l.take j) + 1)
            · obtain rfl : k' = 4001 := H2.out hbig
              go_wp2_with fail
              refine bodyPost_ret (results_none rfl _ _ _) rfl ⟨rfl, 4001, d', b', Blk.alloc hC' _, grown_alloc hG _, fun h => ?_, fun _ => rfl⟩
              have := HS.out; omega
            · have hk4' : k' ≤ 4000 := by have := (H1.out (by omega)).1; omega
              have hD' : D + 1 ≤ k' + 1 := by have := (H1.out (by omega)).1; omega
              go_wp2_with (go_at_call 96; refine (ih t.l[j] _ g k' d' (D + 1) B b' _ _ (by have := HS.out; omega) (hv.alloc (by omega) _) hBg (by omega) (Blk.alloc hC' _) hD' hk4').mono ?_; rintro e w2 ⟨rfl, hdone⟩)
              exact ⟨Done.next hlt hG H1.out (by omega) _ hdone, by simp [intOf]; omega⟩
          · have hjl : t.l.take j = t.l := List.take_of_length_le (by omega)
            rw [hjl] at H1 H2
            go_wp2_with fail
            refine bodyPost_end (results_none rfl _ _ _) rfl ⟨rfl, k', d', b', hC', hG, fun h => ?_, fun h => ?_⟩
            · rw [HS.out] at h ⊢
              rw [HD.out, HP.out, Bool.not_and]
              exact H1.out h
            · rw [HS.out] at h
              exact H2.out h
      · have hSS := fun w1 => start2 (w1 := w1) hC (k + 1) d (!t.one) (.cells #[.int .i64 t.k, .int .u64 t.n, .string t.s, .slice A t.l.length c] 39)
        go_enter Try.func96, Try.ntmps96
        go_wp2_with (go_at_call 128; refine (hone _).mono ?_; rintro e w1 ⟨rfl, hb1⟩; have hS := hSS w1 hb1; obtain ⟨hc1, hf1⟩ := bcell hb1)
        clear hc1 hf1 hb1
        go_loopw [39] (fun i wr => CHead w g t k d D false i wr) (fun i _ => t.l.length - (intOf i).toNat)
        case atStart => exact head_start hS.1 hS.2 hk4 (by omega) (by simp)
        case round =>
          obtain ⟨j, hj, rfl, k', d', b', hC', hG, h1, h2⟩ := hrel
          have H1 := Lib.hid h1
          have H2 := Lib.hid h2
          clear h1 h2
          have hgl' := hC'.lt
          have hsz := hG.size
          have y0 := hC'.cell 0
          simp at y0
          by_cases hlt : j < t.l.length
          · have hkeep : ∀ p : Addr, p.block < B → wr.cell? p = w.cell? p := fun p hp => World.cell?_of_block (hG.block p.block (by omega) (by simp; omega))
            obtain ⟨b0, off, A', c', rfl, hbl, hv, c0, c1, c2, c3⟩ := at_cells (hr.keep hkeep) (LiesL.keep hkeep _ _ hl) hlt
            clear hkeep
            have hg := size_get t.l j hlt
            by_cases hbig : 4000 < k + (sizeL (t.l.take j) + 1)
            · obtain rfl : k' = 4001 := H2.out hbig
              go_wp2_with fail
              refine bodyPost_ret (results_none rfl _ _ _) rfl ⟨rfl, 4001, d', b', Blk.alloc hC' _, grown_alloc hG _, fun h => ?_, fun _ => rfl⟩
              have := HS.out; omega
            · have hk4' : k' ≤ 4000 := by have := (H1.out (by omega)).1; omega
              have hD' : D + 1 ≤ k' + 1 := by have := (H1.out (by omega)).1; omega
              go_wp2_with (go_at_call 96; refine (ih t.l[j] _ g k' d' (D + 1) B b' _ _ (by have := HS.out; omega) (hv.alloc (by omega) _) hBg (by omega) (Blk.alloc hC' _) hD' hk4').mono ?_; rintro e w2 ⟨rfl, hdone⟩)
              exact ⟨Done.next hlt hG H1.out (by omega) _ hdone, by simp [intOf]; omega⟩
          · have hjl : t.l.take j = t.l := List.take_of_length_le (by omega)
            rw [hjl] at H1 H2
            go_wp2_with fail
            refine bodyPost_end (results_none rfl _ _ _) rfl ⟨rfl, k', d', b', hC', hG, fun h => ?_, fun h => ?_⟩
            · rw [HS.out] at h ⊢
              rw [HD.out, HP.out, Bool.not_and]
              exact H1.out h
            · rw [HS.out] at h
              exact H2.out h

theorem right_of {t : T} {k' d' : Nat} {b' : Bool} (h1 : 0 + t.size ≤ 4000 → k' = 0 + t.size ∧ d' = max 0 (1 + t.deep - 1) ∧ b' = (false || !t.shaped)) (h2 : 4000 < 0 + t.size → k' = 4001) :
    (4000 < k' → t.right = 23) ∧ (k' ≤ 4000 → 12 < d' → t.right = 22) ∧ (k' ≤ 4000 → d' ≤ 12 → b' = true → t.right = 25) ∧ (k' ≤ 4000 → d' ≤ 12 → b' = false → t.right = 0) := by
  unfold T.right
  by_cases h : 4000 < t.size
  · have := h2 (by omega)
    rw [if_pos h]
    exact ⟨fun _ => rfl, fun _ => by omega, fun _ => by omega, fun _ => by omega⟩
  · obtain ⟨rfl, rfl, rfl⟩ := h1 (by omega)
    rw [if_neg h]
    refine ⟨fun _ => by omega, fun _ hd => by rw [if_pos (by omega)], fun _ hd hb => ?_, fun _ hd hb => ?_⟩
    · rw [if_neg (by omega), if_neg (by simpa using hb)]
    · rw [if_neg (by omega), if_pos (by simpa using hb)]
theorem below_two {w w' : World} {o o' : Obj} (h : ((w.alloc o).alloc o').grownBy w' (some (w.heap.size + 1))) : Below w.heap.size w w' :=
  (((Below.refl _ _).alloc (Nat.le_refl _) o).alloc (by simp) o').grown h (by simp; omega) (fun k hk => by simp at hk; omega)

set_option maxRecDepth 100000 in
set_option maxHeartbeats 400000 in
theorem right_any (t : T) (v : Value) (w : World) (hL : Lies w w.heap.size t v) :
    Calls Try.prog 61 #[T.val t v] w fun e w' => e = .returned (.int .i64 t.right) ∧ Below w.heap.size w w' := by
  obtain ⟨A, c, xs, rfl, hk, hn, hs, hlc, hc, hr, hl⟩ := hL.open_
  have hL1 := (hL.alloc (Nat.le_refl _) (.cells #[.int .i64 t.k, .int .u64 t.n, .string t.s, .slice A t.l.length c] 39)).alloc (by simp) (.cells #[.int .i64 0, .int .i64 0, .bool false] 158)
  have hC : Cnt ((w.alloc (.cells #[.int .i64 t.k, .int .u64 t.n, .string t.s, .slice A t.l.length c] 39)).alloc (.cells #[.int .i64 0, .int .i64 0, .bool false] 158)) (w.heap.size + 1) 0 0 false := by
    have := Blk.new (w.alloc (.cells #[.int .i64 t.k, .int .u64 t.n, .string t.s, .slice A t.l.length c] 39)) 158 #[.int .i64 0, .int .i64 0, .bool false]
    simpa [Cnt] using this
  have hadd := add_any t.size t _ (w.heap.size + 1) 0 0 1 w.heap.size false 1 _ (Nat.le_refl _) hL1 (by omega) rfl hC (by omega) (by omega)
  go_enter Try.func61, Try.ntmps61
  go_wp2_with (go_at_call 96; refine hadd.mono ?_; rintro e w2 ⟨rfl, k', d', b', hC2, hG, h1, h2⟩; have H1 := Lib.hid h1; have H2 := Lib.hid h2; clear h1 h2; have z0 := hC2.cell 0; have z1 := hC2.cell 1; have z2 := hC2.cell 2; simp at z0 z1 z2)
  · go_ret
    exact ⟨ret_int ((right_of H1.out H2.out).1 (by omega)).symm, below_two hG⟩
  · go_ret
    exact ⟨ret_int ((right_of H1.out H2.out).2.1 (by omega) (by omega)).symm, below_two hG⟩
  · go_ret
    exact ⟨ret_int ((right_of H1.out H2.out).2.2.1 (by omega) (by omega) (by assumption)).symm, below_two hG⟩
  · go_ret
    exact ⟨ret_int ((right_of H1.out H2.out).2.2.2 (by omega) (by omega) (by assumption)).symm, below_two hG⟩
end Go.Proofs.Ytjlglfjikfpboaa.adds

/- Like, the document's own: two that are the same are told to be the same, wherever they lie. -/

namespace Go.Proofs.Ytjlglfjikfpboaa.likes
set_option linter.unusedVariables false
set_option linter.unusedSimpArgs false
open Go.RowKit Go.Proofs.Ytjlglfjikfpboaa.base Go.Proofs.Ytjlglfjikfpboaa.tm Go.Proofs.Ytjlglfjikfpboaa.lies Go.Proofs.Ytjlglfjikfpboaa.rights

theorem Lies.drew {w : World} {t : T} {v : Value} (h : Lies w w.heap.size t v) : Lies w.drew w.drew.heap.size t v := by
  have := Lies.keep (w := w) (w' := w.drew) (fun _ _ => rfl) t v h
  exact this

/-- at the loop's head: behind the two boxes -/
def LHead (W : World) (n : Nat) (i : Value) (wr : World) : Prop :=
  ∃ j : Nat, j ≤ n ∧ i = .int .i64 j ∧ Below W.heap.size W wr

end Go.Proofs.Ytjlglfjikfpboaa.likes

/- copied, Of, Num, Key, Atom: what is put together is new memory that reads as what was handed in. -/

namespace Go.Proofs.Ytjlglfjikfpboaa.copies
set_option linter.unusedVariables false
set_option linter.unusedSimpArgs false
open Go.RowKit Go.Proofs.Ytjlglfjikfpboaa.base Go.Proofs.Ytjlglfjikfpboaa.tm Go.Proofs.Ytjlglfjikfpboaa.lies Go.Proofs.Ytjlglfjikfpboaa.rights

/-- the cells xs are the terms l, whatever becomes of blocks outside lo .. hi -/
def HeldL (w : World) (lo hi : Nat) (l : List T) (xs : List Value) : Prop :=
  ∀ w2 B2, hi ≤ B2 → (∀ p : Addr, lo ≤ p.block → p.block < hi → w2.cell? p = w.cell? p) → LiesL w2 B2 l xs
/-- the slice v is the terms l, likewise -/
def Held (w : World) (lo hi : Nat) (l : List T) (v : Value) : Prop :=
  ∃ A c, v = .slice A l.length c ∧ l.length ≤ c ∧ l.length * 56 ≤ 140737488355328 ∧ ∀ w2 B2, hi ≤ B2 → (∀ p : Addr, lo ≤ p.block → p.block < hi → w2.cell? p = w.cell? p) → ∃ xs, Rd w2 B2 A xs ∧ LiesL w2 B2 l xs

theorem HeldL.move {w w' : World} {lo hi lo' hi' : Nat} {l : List T} {xs : List Value} (h : HeldL w lo hi l xs) (h1 : lo' ≤ lo) (h2 : hi ≤ hi') (hk : ∀ p : Addr, lo ≤ p.block → p.block < hi → w'.cell? p = w.cell? p) : HeldL w' lo' hi' l xs :=
  fun w2 B2 hB ha => h w2 B2 (by omega) (fun p p1 p2 => (ha p (by omega) (by omega)).trans (hk p p1 p2))
theorem Held.move {w w' : World} {lo hi lo' hi' : Nat} {l : List T} {v : Value} (h : Held w lo hi l v) (h1 : lo' ≤ lo) (h2 : hi ≤ hi') (hk : ∀ p : Addr, lo ≤ p.block → p.block < hi → w'.cell? p = w.cell? p) : Held w' lo' hi' l v := by
  obtain ⟨A, c, e, hl, hc, h⟩ := h
  exact ⟨A, c, e, hl, hc, fun w2 B2 hB ha => h w2 B2 (by omega) (fun p p1 p2 => (ha p (by omega) (by omega)).trans (hk p p1 p2))⟩
theorem Held.nil (w : World) (lo hi : Nat) : Held w lo hi [] (.slice none 0 0) := ⟨none, 0, rfl, Nat.le_refl _, by simp, fun _ _ _ _ => ⟨[], Rd.nil _ _ _, rfl⟩⟩
/-- a term whose list is so held -/
theorem Held.lies {w : World} {lo hi : Nat} {t : T} {v : Value} (h : Held w lo hi t.l v) (h1 : -9223372036854775808 ≤ t.k ∧ t.k ≤ 9223372036854775807) (h2 : 0 ≤ t.n ∧ t.n < 18446744073709551616) (h3 : t.s.size ≤ maxLen) (hB : hi ≤ w.heap.size) : Lies w w.heap.size t v := by
  obtain ⟨A, c, e, hl, hc, h⟩ := h
  obtain ⟨xs, hr, hL⟩ := h w w.heap.size hB (fun _ _ _ => rfl)
  subst e
  exact Lies.mk h1 h2 h3 hl hc hr hL
theorem HeldL.snoc {w : World} {lo hi : Nat} {l : List T} {xs : List Value} {t : T} {v : Value} (h : HeldL w lo hi l xs) (ht : Held w lo hi t.l v) (h1 : -9223372036854775808 ≤ t.k ∧ t.k ≤ 9223372036854775807) (h2 : 0 ≤ t.n ∧ t.n < 18446744073709551616) (h3 : t.s.size ≤ maxLen) : HeldL w lo hi (l ++ [t]) (xs ++ T.cells t v) :=
  fun w2 B2 hB ha => by
    obtain ⟨A, c, e, hl, hc, hh⟩ := ht
    obtain ⟨ys, hr, hL⟩ := hh w2 B2 hB ha
    subst e
    exact (h w2 B2 hB ha).snoc (Lies.mk h1 h2 h3 hl hc hr hL)

theorem take_set3 (cs : Array Value) (j : Nat) (a b c d : Value) (h : j * 4 + 4 ≤ cs.size) :
    ((((cs.setIfInBounds (j * 4) a).setIfInBounds (j * 4 + 1) b).setIfInBounds (j * 4 + 2) c).setIfInBounds (j * 4 + 3) d).toList.take (j * 4 + 4) = cs.toList.take (j * 4) ++ [a, b, c, d] := by
  apply List.ext_getElem?
  intro i
  rw [List.getElem?_take, List.getElem?_append]
  simp only [Array.getElem?_toList, Array.getElem?_setIfInBounds, List.length_take, Array.length_toList, List.getElem?_take, Array.size_setIfInBounds]
  rw [Nat.min_eq_left (by omega)]
  by_cases h0 : i < j * 4
  · rw [if_pos (by omega), if_pos h0, if_pos h0, if_neg (by omega), if_neg (by omega), if_neg (by omega), if_neg (by omega)]
  · rw [if_neg h0]
    obtain ⟨r, rfl⟩ : ∃ r, i = j * 4 + r := ⟨i - j * 4, by omega⟩
    rw [show j * 4 + r - j * 4 = r by omega]
    match r with
    | 0 => rw [if_pos (by omega), if_neg (by omega), if_neg (by omega), if_neg (by omega), if_pos (by omega), if_pos (by omega)]; rfl
    | 1 => rw [if_pos (by omega), if_neg (by omega), if_neg (by omega), if_pos (by omega), if_pos (by omega)]; rfl
    | 2 => rw [if_pos (by omega), if_neg (by omega), if_pos (by omega), if_pos (by omega)]; rfl
    | 3 => rw [if_pos (by omega), if_pos (by omega), if_pos (by omega)]; rfl
    | r + 4 => rw [if_neg (by omega)]; simp

theorem info30 : (Try.prog.info? 39).map (fun i => (i.zero, i.size, i.bytes)) = some (some (.agg #[.int .i64 0, .int .u64 0, .string ⟨#[]⟩, .slice none 0 0]), 4, 56) := by kernel_rfl

/-- copied, at the loop's head: block g is being filled -/
def KHead (W : World) (g : Nat) (l : List T) (i : Value) (wr : World) : Prop :=
  ∃ (j : Nat) (cs : Array Value), j ≤ l.length ∧ i = .int .i64 j ∧ Blk wr g 39 cs ∧ cs.size = l.length * 4 ∧ HeldL wr (g + 1) wr.heap.size (l.take j) (cs.toList.take (j * 4)) ∧ Below W.heap.size W wr

def four (w : World) (g o : Nat) (a b c d : Value) : World := (((w.setCell ⟨g, o, none⟩ a).setCell ⟨g, o + 1, none⟩ b).setCell ⟨g, o + 2, none⟩ c).setCell ⟨g, o + 3, none⟩ d
theorem four_cell (w : World) (g o : Nat) (a b c d : Value) (p : Addr) (h : p.block ≠ g) : (four w g o a b c d).cell? p = w.cell? p := by
  unfold four
  rw [World.cell?_setCell_other, World.cell?_setCell_other, World.cell?_setCell_other, World.cell?_setCell_other] <;> (rintro rfl; exact h rfl)
theorem four_size (w : World) (g o : Nat) (a b c d : Value) : (four w g o a b c d).heap.size = w.heap.size := by simp [four]
theorem four_blk {w : World} {g o : Nat} {T : TypeId} {cs : Array Value} (h : Blk w g T cs) (a b c d : Value) : Blk (four w g o a b c d) g T ((((cs.setIfInBounds o a).setIfInBounds (o + 1) b).setIfInBounds (o + 2) c).setIfInBounds (o + 3) d) :=
  (((h.put o a).put (o + 1) b).put (o + 2) c).put (o + 3) d
theorem four_below {B : Nat} {W w : World} (h : Below B W w) {g o : Nat} (hg : B ≤ g) (a b c d : Value) : Below B W (four w g o a b c d) :=
  (((h.setCell (p := ⟨g, o, none⟩) hg a).setCell (p := ⟨g, o + 1, none⟩) hg b).setCell (p := ⟨g, o + 2, none⟩) hg c).setCell (p := ⟨g, o + 3, none⟩) hg d

theorem khead_next {W wr w2 : World} {l : List T} {j : Nat} {cs : Array Value} {d v : Value} {o : Obj} (hlt : j < l.length) (hbk : Blk wr W.heap.size 39 cs) (hcs : cs.size = l.length * 4)
    (hheld : HeldL wr (W.heap.size + 1) wr.heap.size (l.take j) (cs.toList.take (j * 4))) (hb : Below W.heap.size W wr)
    (hb2 : Below ((four wr W.heap.size (j * 4) (.int .i64 l[j].k) (.int .u64 l[j].n) (.string l[j].s) d).alloc o).heap.size ((four wr W.heap.size (j * 4) (.int .i64 l[j].k) (.int .u64 l[j].n) (.string l[j].s) d).alloc o) w2)
    (hv : Held w2 ((four wr W.heap.size (j * 4) (.int .i64 l[j].k) (.int .u64 l[j].n) (.string l[j].s) d).alloc o).heap.size w2.heap.size l[j].l v)
    (h1 : -9223372036854775808 ≤ l[j].k ∧ l[j].k ≤ 9223372036854775807) (h2 : 0 ≤ l[j].n ∧ l[j].n < 18446744073709551616) (h3 : l[j].s.size ≤ maxLen) :
    KHead W W.heap.size l (.int .i64 ((j : Int) + 1)) (w2.setCell ⟨W.heap.size, j * 4 + 3, none⟩ v) := by
  have hgl := hbk.lt
  have hsz : ((four wr W.heap.size (j * 4) (.int .i64 l[j].k) (.int .u64 l[j].n) (.string l[j].s) d).alloc o).heap.size = wr.heap.size + 1 := by rw [World.size_alloc, four_size]
  have hz2 : wr.heap.size + 1 ≤ w2.heap.size := by rw [← hsz]; exact hb2.size
  have hk1 := (((four_blk (o := j * 4) hbk (.int .i64 l[j].k) (.int .u64 l[j].n) (.string l[j].s) d).alloc o).below hb2 (by rw [hsz]; omega)).put (j * 4 + 3) v
  have hother : ∀ p : Addr, p.block ≠ W.heap.size → (w2.setCell ⟨W.heap.size, j * 4 + 3, none⟩ v).cell? p = w2.cell? p := fun p hp => World.cell?_setCell_other _ _ _ _ (by rintro rfl; exact hp rfl)
  have hold : ∀ p : Addr, p.block ≠ W.heap.size → p.block < wr.heap.size → w2.cell? p = wr.cell? p := fun p hp hlt => by
    rw [hb2.cell (by rw [hsz]; omega), World.cell?_alloc_lt _ _ _ (by rw [four_size]; exact hlt), four_cell _ _ _ _ _ _ _ _ hp]
  refine ⟨j + 1, _, hlt, by go_num, hk1, by simp [hcs], ?_, ?_⟩
  · rw [Array.setIfInBounds_setIfInBounds, Nat.add_mul, Nat.one_mul, take_set3 _ _ _ _ _ _ (by omega), List.take_succ_eq_append_getElem hlt]
    refine HeldL.snoc (hheld.move (Nat.le_refl _) (by simp; omega) fun p p1 p2 => ?_) (hv.move (by rw [hsz]; omega) (by simp) fun p p1 p2 => ?_) h1 h2 h3
    · rw [hother p (by omega), hold p (by omega) p2]
    · rw [hsz] at p1
      exact hother p (by omega)
  · exact (((four_below hb (Nat.le_refl _) _ _ _ _).alloc (by rw [four_size]; exact hb.size) o).trans (hb2.mono (by rw [hsz]; omega))).setCell (p := ⟨W.heap.size, j * 4 + 3, none⟩) (Nat.le_refl _) v

theorem khead_end {W wr : World} {l : List T} {cs : Array Value} (hbk : Blk wr W.heap.size 39 cs) (hcs : cs.size = l.length * 4) (hl : l.length * 56 ≤ 140737488355328)
    (hheld : HeldL wr (W.heap.size + 1) wr.heap.size l (cs.toList.take (l.length * 4))) : Held wr W.heap.size wr.heap.size l (.slice (some ⟨W.heap.size, 0, none⟩) l.length l.length) := by
  refine ⟨_, _, rfl, Nat.le_refl _, hl, fun w2 B2 hB ha => ⟨cs.toList, fun j u hj => ⟨_, 0, rfl, by have := hbk.lt; omega, ?_⟩, ?_⟩⟩
  · rw [ha ⟨W.heap.size, 0 + j, none⟩ (Nat.le_refl _) hbk.lt, Nat.zero_add, hbk.cell]
    simpa using hj
  · have := hheld w2 B2 hB (fun p p1 p2 => ha p (by omega) p2)
    rwa [List.take_of_length_le (by simp [hcs])] at this

set_option maxRecDepth 100000 in
set_option maxHeartbeats 400000 in
theorem copied_any (N : Nat) : ∀ (l : List T) (A : Option Addr) (c : Nat) (xs : List Value) (B : Nat) (w : World), sizeL l ≤ N → l.length ≤ c → l.length * 56 ≤ 140737488355328 → Rd w B A xs → LiesL w B l xs → B ≤ w.heap.size →
    Calls Try.prog 68 #[.slice A l.length c] w fun e w' => ∃ v, e = .returned v ∧ Held w' w.heap.size w'.heap.size l v ∧ Below w.heap.size w w' := by
  obtain ⟨i0, hi, hz0, hz1, hz2⟩ := info_parts info30
  induction N with
  | zero =>
    intro l A c xs B w hN hlc hc hr hl hB
    have hl0 : l = [] := by
      cases l with
      | nil => rfl
      | cons t l => have := size_pos t; simp [sizeL] at hN; omega
    subst hl0
    go_enter Try.func68, Try.ntmps68
    go_wp2_with fail
    go_ret
    exact ⟨_, rfl, Held.nil _ _ _, Below.refl _ _⟩
  | succ N ih =>
    intro l A c xs B w hN hlc hc hr hl hB
    by_cases hl0 : l = []
    · subst hl0
      go_enter Try.func68, Try.ntmps68
      go_wp2_with fail
      go_ret
      exact ⟨_, rfl, Held.nil _ _ _, Below.refl _ _⟩
    · have hpos : 0 < l.length := List.length_pos_iff.2 hl0
      have d0 : ((l.length : Int) == 0) = false := by simp; omega
      clear hl0
      have hmk : ∀ u : World, (Instr.makeSlice 25 (.int .i64 (l.length : Int)) (.int .i64 (l.length : Int))).run Try.prog u =
          .ok (.slice (some ⟨u.heap.size, 0, none⟩) l.length l.length) (u.alloc (.cells (madeCells #[.int .i64 0, .int .u64 0, .string ⟨#[]⟩, .slice none 0 0] (l.length * 4)) 39)) := fun u => by
        have h := run_make (P := Try.prog) u 25 39 i0 _ Try.underlying25 hi hz0 .i64 .i64 (l.length : Int) (l.length : Int) (by omega) (Int.le_refl _) (by rw [hz2]; omega) (by omega)
        rw [hz1] at h
        exact h
      have hbk0 := Blk.new w 39 (madeCells #[.int .i64 0, .int .u64 0, .string ⟨#[]⟩, .slice none 0 0] (l.length * 4))
      go_enter Try.func68, Try.ntmps68
      go_wp2_with fail
      go_loopw [14] (fun i wr => KHead w w.heap.size l i wr) (fun i _ => l.length - (intOf i).toNat)
      case atStart => exact ⟨0, _, Nat.zero_le _, rfl, hbk0, size_madeCells _ _, fun _ _ _ _ => by simp [LiesL], (Below.refl _ _).alloc (Nat.le_refl _) _⟩
      case round =>
        obtain ⟨j, cs, hj, rfl, hbk, hcs, hheld, hb⟩ := hrel
        by_cases hlt : j < l.length
        · obtain ⟨b0, off, A', c', rfl, hbl, hv, c0, c1, c2, c3⟩ := at_cells (hr.below (hb.mono hB)) (hl.below (hb.mono hB)) hlt
          have hg := size_get l j hlt
          have hgl := hbk.lt
          have z0 := hbk.cell (j * 4)
          have z1 := hbk.cell (j * 4 + 1)
          have z2 := hbk.cell (j * 4 + 2)
          have z3 := hbk.cell (j * 4 + 3)
          rw [Array.getElem?_eq_getElem (by omega)] at z0 z1 z2 z3
          have f0 := hbk.frozen (j * 4)
          have f1 := hbk.frozen (j * 4 + 1)
          have f2 := hbk.frozen (j * 4 + 2)
          have f3 := hbk.frozen (j * 4 + 3)
          obtain ⟨A1, c1', xs1, e1, k1, n1, s1, l1, m1, r1, ll1⟩ := hv.open_
          injection e1 with e1 _ e2
          subst e1 e2
          have hkeep : ∀ p : Addr, p.block < B → ((four wr w.heap.size (j * 4) (.int .i64 l[j].k) (.int .u64 l[j].n) (.string l[j].s) (.slice A' l[j].l.length c')).alloc (.cells #[.int .i64 l[j].k, .int .u64 l[j].n, .string l[j].s, .slice A' l[j].l.length c'] 39)).cell? p = wr.cell? p := fun p hp => by
            rw [World.cell?_alloc_lt _ _ _ (by rw [four_size]; omega), four_cell _ _ _ _ _ _ _ _ (by omega)]
          have hcall := ih l[j].l A' c' xs1 B ((four wr w.heap.size (j * 4) (.int .i64 l[j].k) (.int .u64 l[j].n) (.string l[j].s) (.slice A' l[j].l.length c')).alloc (.cells #[.int .i64 l[j].k, .int .u64 l[j].n, .string l[j].s, .slice A' l[j].l.length c'] 39)) (by rw [size_eq] at hg; omega) l1 m1 (r1.keep hkeep) (LiesL.keep hkeep _ _ ll1) (by rw [World.size_alloc, four_size]; omega)
          clear hkeep
          have hBk := ((four_blk (o := j * 4) hbk (.int .i64 l[j].k) (.int .u64 l[j].n) (.string l[j].s) (.slice A' l[j].l.length c')).alloc (.cells #[.int .i64 l[j].k, .int .u64 l[j].n, .string l[j].s, .slice A' l[j].l.length c'] 39))
          go_wp2_with fail
          refine hcall.mono ?_
          rintro e w2 ⟨v', rfl, hheld', hb2⟩
          have hh := hheld'
          obtain ⟨A2, cc2, rfl, _⟩ := hheld'
          have hBk2 := hBk.below hb2 (by rw [World.size_alloc, four_size]; omega)
          have y3 := hBk2.cell (j * 4 + 3)
          have g3 := hBk2.frozen (j * 4 + 3)
          rw [Array.getElem?_eq_getElem (by simp; omega)] at y3
          go_wp2_with fail
          exact ⟨khead_next hlt hbk hcs hheld hb hb2 hh k1 n1 s1, by simp [intOf]; omega⟩
        · have hjl : l.take j = l := List.take_of_length_le (by omega)
          rw [hjl] at hheld
          go_wp2_with fail
          go_ret
          have hjn : j = l.length := by omega
          subst hjn
          exact ⟨_, rfl, khead_end hbk hcs (by omega) hheld, hb⟩
end Go.Proofs.Ytjlglfjikfpboaa.copies

/- Of, Num, Key, Atom; the walk of the law TermMakes. -/

namespace Go.Proofs.Ytjlglfjikfpboaa.makes
set_option linter.unusedVariables false
set_option linter.unusedSimpArgs false
open Go.RowKit Go.Proofs.Ytjlglfjikfpboaa.base Go.Proofs.Ytjlglfjikfpboaa.tm Go.Proofs.Ytjlglfjikfpboaa.lies Go.Proofs.Ytjlglfjikfpboaa.rights Go.Proofs.Ytjlglfjikfpboaa.likes Go.Proofs.Ytjlglfjikfpboaa.copies

/-- a slice of terms that lies below block B -/
def LiesS (w : World) (B : Nat) (l : List T) (A : Option Addr) (c : Nat) : Prop := ∃ xs, l.length ≤ c ∧ l.length * 56 ≤ 140737488355328 ∧ Rd w B A xs ∧ LiesL w B l xs

set_option maxRecDepth 100000 in
theorem of_any (l : List T) (A : Option Addr) (c B : Nat) (w : World) (h : LiesS w B l A c) (hB : B ≤ w.heap.size) :
    Calls Try.prog 31 #[.slice A l.length c] w fun e w' => ∃ A' c', e = .returned (.agg #[.int .i64 5, .int .u64 0, .string ⟨#[]⟩, .slice A' l.length c']) ∧ Held w' w.heap.size w'.heap.size l (.slice A' l.length c') ∧ Below w.heap.size w w' := by
  obtain ⟨xs, h1, h2, h3, h4⟩ := h
  have hcall := copied_any (sizeL l) l A c xs B (w.alloc (.cells #[.int .i64 0, .int .u64 0, .string ⟨#[]⟩, .slice none 0 0] 39)) (Nat.le_refl _) h1 h2 (h3.alloc hB _) (LiesL.keep (fun p hp => World.cell?_alloc_lt w _ p (by omega)) _ _ h4) (by simp; omega)
  have hbk := Blk.new w 39 #[.int .i64 0, .int .u64 0, .string ⟨#[]⟩, .slice none 0 0]
  go_enter Try.func31, Try.ntmps31
  go_wp2_with (go_at_call 68; refine hcall.mono ?_; rintro e w1 ⟨v, rfl, hh0, hb⟩; have hh := hh0; obtain ⟨A2, c2, rfl, _⟩ := hh0; have hk := hbk.below hb (by simp); have z0 := hk.cell 0; have z1 := hk.cell 1; have z2 := hk.cell 2; have z3 := hk.cell 3; simp at z0 z1 z2 z3; have f0 := hk.frozen 0; have f1 := hk.frozen 1; have f2 := hk.frozen 2; have f3 := hk.frozen 3)
  refine bodyPost_ret (v := .agg #[.int .i64 5, .int .u64 0, .string ⟨#[]⟩, .slice A2 l.length c2]) (by simp [results, Try.results31, go_sem, z0, z1, z2, z3]) rfl ⟨A2, c2, rfl, ?_, ?_⟩
  · refine hh.move (by simp) (by simp) fun p p1 p2 => ?_
    rw [World.size_alloc] at p1
    exact four_cell w1 w.heap.size 0 _ _ _ _ p (by omega)
  · exact four_below ((below_call (Below.refl _ _) hb)) (Nat.le_refl _) _ _ _ _

set_option maxRecDepth 100000 in
theorem key_any (n : Int) (w : World) :
    Calls Try.prog 25 #[.int .u64 n] w fun e w' => e = .returned (.agg #[.int .i64 3, .int .u64 n, .string ⟨#[]⟩, .slice none 0 0]) ∧ Below w.heap.size w w' := by
  go_enter Try.func25, Try.ntmps25
  go_wp2
  refine bodyPost_ret (v := .agg #[.int .i64 3, .int .u64 n, .string ⟨#[]⟩, .slice none 0 0]) (by simp [results, Try.results25, go_sem]) rfl ⟨rfl, ?_⟩
  exact (Below.refl _ _).alloc (Nat.le_refl _) _

set_option maxRecDepth 100000 in
theorem atom_any (s : ByteArray) (w : World) :
    Calls Try.prog 32 #[.string s] w fun e w' => e = .returned (.agg #[.int .i64 2, .int .u64 0, .string s, .slice none 0 0]) ∧ Below w.heap.size w w' := by
  go_enter Try.func32, Try.ntmps32
  go_wp2
  refine bodyPost_ret (v := .agg #[.int .i64 2, .int .u64 0, .string s, .slice none 0 0]) (by simp [results, Try.results32, go_sem]) rfl ⟨rfl, ?_⟩
  exact (Below.refl _ _).alloc (Nat.le_refl _) _

theorem below_call2 {w w1 w2 : World} (hb1 : Below w.heap.size w w1) {o o' : Obj} (h2 : Below ((w1.alloc o).alloc o').heap.size ((w1.alloc o).alloc o') w2) : Below w.heap.size w w2 :=
  ((hb1.alloc hb1.size o).alloc (by have := hb1.size; simp; omega) o').trans (h2.mono (by have := hb1.size; simp; omega))
/-- a term without a list lies everywhere -/
theorem lies_bare (w : World) (B : Nat) (k n : Int) (s : ByteArray) (h1 : -9223372036854775808 ≤ k ∧ k ≤ 9223372036854775807) (h2 : 0 ≤ n ∧ n < 18446744073709551616) (h3 : s.size ≤ maxLen) : Lies w B (.mk k n s []) (.slice none 0 0) :=
  Lies.mk (t := .mk k n s []) h1 h2 h3 (Nat.le_refl _) (by show 0 * 56 ≤ 140737488355328; omega) (Rd.nil w B none) rfl

end Go.Proofs.Ytjlglfjikfpboaa.makes

/- An argument that is a term, or a list of terms, opened: it lies in memory as a term. -/

namespace Go.Proofs.Ytjlglfjikfpboaa.opens
set_option linter.unusedVariables false
set_option linter.unusedSimpArgs false
open Go.RowKit Go.ChangeShapes Go.WideShapes Go.Proofs.Ytjlglfjikfpboaa.base Go.Proofs.Ytjlglfjikfpboaa.tm Go.Proofs.Ytjlglfjikfpboaa.lies

theorem bytes56 : Try.prog.bytesOf 39 = 56 := by kernel_rfl
theorem cells4 : Try.prog.cellsOf 39 = 4 := by kernel_rfl

/-- a list out of its elements -/
theorem gather (W : World) (a : Addr) (len : Nat) (h : ∀ i, i < len → ∃ t v, Lies W W.heap.size t v ∧ ∀ r u, (T.cells t v)[r]? = some u → W.cell? (a.add (i * 4 + r)) = some u) :
    ∃ (l : List T) (xs : List Value), l.length = len ∧ LiesL W W.heap.size l xs ∧ ∀ j u, xs[j]? = some u → W.cell? (a.add j) = some u := by
  induction len with
  | zero => exact ⟨[], [], rfl, rfl, fun j u h => by simp at h⟩
  | succ n ih =>
    obtain ⟨l, xs, hl, hL, hc⟩ := ih (fun i hi => h i (by omega))
    obtain ⟨t, v, hv, hcs⟩ := h n (by omega)
    have hxl := hL.len
    refine ⟨l ++ [t], xs ++ T.cells t v, by simp [hl], hL.snoc hv, fun j u hj => ?_⟩
    rcases Nat.lt_or_ge j xs.length with hlt | hge
    · rw [List.getElem?_append_left hlt] at hj
      exact hc j u hj
    · rw [List.getElem?_append_right hge] at hj
      have := hcs (j - xs.length) u hj
      rwa [show n * 4 + (j - xs.length) = j by omega] at this

theorem rd_of {W : World} {a : Addr} {xs : List Value} (h : ∀ j u, xs[j]? = some u → W.cell? (a.add j) = some u) : Rd W W.heap.size (some a) xs := fun j u hj => by
  have hpos : 0 < xs.length := by have := (List.getElem?_eq_some_iff.1 hj).1; omega
  have h0 := h 0 xs[0] (List.getElem?_eq_getElem hpos)
  rw [show a.add 0 = a by simp [Addr.add]] at h0
  obtain ⟨b, off, rfl⟩ := plain_of_cell h0
  refine ⟨b, off, rfl, World.block_lt_of_cell? W _ h0, ?_⟩
  have := h j u hj
  rwa [base.add_plain] at this

theorem all_mem {l : List Nat} (h : l.all (· ≤ reachBytes) = true) {n : Nat} (hn : n ∈ l) : n ≤ reachBytes := by
  simpa using List.all_eq_true.1 h n hn
theorem weightsAll_mem {H : Type} {P : Program} {e : TypeId} : ∀ {ds : List (DataW H)} {d : DataW H}, d ∈ ds → ∀ n ∈ d.weights P e, n ∈ DataW.weightsAll P e ds
  | d0 :: ds, d, hd, n, hn => by
    simp only [DataW.weightsAll, List.mem_append]
    rcases List.mem_cons.1 hd with rfl | h
    · exact .inl hn
    · exact .inr (weightsAll_mem h n hn)

section
variable {H : Type} {enc : TypeId × Value → H} {W : World}

set_option maxRecDepth 100000 in
theorem open_both (m : Nat) :
    (∀ (cs : List Value) (x : DataW H × List MemPlace), DataW.trod enc Try.prog W 0 (fun _ => true) true m 39 cs = some x → (x.1.weights Try.prog 39).all (· ≤ reachBytes) = true → ∃ t v, cs = T.cells t v ∧ Lies W W.heap.size t v) ∧
    (∀ (cs : List Value) (x : DataW H × List MemPlace), DataW.trod enc Try.prog W 0 (fun _ => true) true m 25 cs = some x → (x.1.weights Try.prog 25).all (· ≤ reachBytes) = true →
      ∃ (l : List T) (A : Option Addr) (c : Nat) (xs : List Value), cs = [.slice A l.length c] ∧ l.length ≤ c ∧ l.length * 56 ≤ 140737488355328 ∧ Rd W W.heap.size A xs ∧ LiesL W W.heap.size l xs) := by
  induction m with
  | zero => exact ⟨fun cs x h => by simp [DataW.trod] at h, fun cs x h => by simp [DataW.trod] at h⟩
  | succ m ih =>
    constructor
    · intro cs x h hw
      obtain ⟨ys, n, hn, hx, hlen, hyl, hf⟩ := DataW.trod_struct Try.underlying39 h
      obtain rfl : n = m := by omega
      rw [cells4] at hlen
      match cs, hlen, ys, hyl with
      | [c0, c1, c2, c3], _, [y0, y1, y2, y3], _ =>
        have k3 : Try.prog.cellsOf 3 = 1 := by kernel_rfl
        have k22 : Try.prog.cellsOf 36 = 1 := by kernel_rfl
        have k9 : Try.prog.cellsOf 9 = 1 := by kernel_rfl
        have k28 : Try.prog.cellsOf 25 = 1 := by kernel_rfl
        have f0 : DataW.trod enc Try.prog W 0 (fun _ => true) true n 3 (List.take (Try.prog.cellsOf 3) (List.drop 0 [c0, c1, c2, c3])) = some y0 := hf 0 _ rfl
        have f1 : DataW.trod enc Try.prog W 0 (fun _ => true) true n 36 (List.take (Try.prog.cellsOf 36) (List.drop 1 [c0, c1, c2, c3])) = some y1 := hf 1 _ rfl
        have f2 : DataW.trod enc Try.prog W 0 (fun _ => true) true n 9 (List.take (Try.prog.cellsOf 9) (List.drop 2 [c0, c1, c2, c3])) = some y2 := hf 2 _ rfl
        have f3 : DataW.trod enc Try.prog W 0 (fun _ => true) true n 25 (List.take (Try.prog.cellsOf 25) (List.drop 3 [c0, c1, c2, c3])) = some y3 := hf 3 _ rfl
        rw [k3] at f0
        rw [k22] at f1
        rw [k9] at f2
        rw [k28] at f3
        obtain ⟨k, e0, _, w0⟩ := DataW.trod_int Try.underlying3 f0
        obtain ⟨q, e1, _, w1⟩ := DataW.trod_int Try.underlying36 f1
        obtain ⟨s, e2, _, w2⟩ := DataW.trod_string Try.underlying9 f2
        obtain ⟨l, A, c, xs, e3, g1, g2, g3, g4⟩ := ih.2 _ _ f3 (by
          rw [List.all_eq_true]
          intro n hn
          have : n ∈ x.1.weights Try.prog 39 := by
            rw [hx]
            simp only [DataW.weights, Try.underlying39, DataW.weightsEach, List.map_cons, List.mem_append]
            exact .inr (.inr (.inr (.inl hn)))
          simpa using all_mem hw this)
        simp at e0 e1 e2 e3
        subst e0 e1 e2 e3
        simp [Lit.wf, IntKind.has] at w0 w1
        refine ⟨.mk k q s l, _, rfl, A, c, xs, rfl, ?_, ?_, w2, g1, g2, g3, g4⟩
        · have h1 : IntKind.i64.min = -9223372036854775808 := rfl
          have h2 : IntKind.i64.max = 9223372036854775807 := rfl
          omega
        · have h1 : IntKind.u64.min = 0 := rfl
          have h2 : IntKind.u64.max = 18446744073709551615 := rfl
          omega
    · intro cs x h hw
      rcases DataW.trod_slice Try.underlying25 h with ⟨rfl, _⟩ | ⟨a, len, cap, elems, rest, n, hn, rfl, rfl, _, hlc, hcm, hlen, hel, hsp, _⟩
      · exact ⟨[], none, 0, [], rfl, Nat.le_refl _, by simp, Rd.nil _ _ _, rfl⟩
      · obtain rfl : n = m := by omega
        have hrest := (hsp rfl).1
        have hcap : cap * 56 ≤ reachBytes := by
          refine all_mem hw ?_
          simp only [DataW.weights, Try.underlying25, bytes56, List.length_map]
          rw [show elems.length + rest.length = cap by omega]
          exact List.mem_cons_self
        have hr47 : reachBytes ≤ 140737488355328 := by decide
        obtain ⟨l, xs, hl, hL, hc⟩ := gather W a len (fun i hi => by
          have h1 := hel i hi
          rw [cells4] at h1
          have hie : elems[i]? = some elems[i] := List.getElem?_eq_getElem (by omega)
          rw [hie] at h1
          obtain ⟨cs', hcs, htr⟩ := Option.bind_eq_some_iff.1 h1
          obtain ⟨_, hcl, hat⟩ := World.cells?_some hcs
          obtain ⟨t, v, rfl, hv⟩ := ih.1 _ _ htr (by
            rw [List.all_eq_true]
            intro n hn
            have : n ∈ DataW.weights Try.prog 25 (DataW.slice (elems.map (·.1)) (rest.map (·.1))) := by
              simp only [DataW.weights, Try.underlying25, List.mem_cons, List.mem_append]
              exact .inr (.inl (weightsAll_mem (List.mem_map_of_mem (List.getElem_mem (by omega))) n hn))
            simpa using all_mem hw this)
          refine ⟨t, v, hv, fun r u hr => ?_⟩
          have hr4 : r < 4 := by have := (List.getElem?_eq_some_iff.1 hr).1; simpa [T.cells] using this
          have := hat r hr4
          rw [Go.Deep.add_add] at this
          rw [this, hr])
        subst hl
        exact ⟨l, some a, cap, xs, rfl, hlc, by omega, rd_of hc, hL⟩

set_option maxRecDepth 100000 in
/-- a term that came in -/
theorem open_term {r : Reach} {b0 : Nat} {v : Value} {d : DataW H} {p : List MemPlace} (hv : Value.okWide Try.prog W r b0 39 v) (h : DataW.Trod enc Try.prog W 0 (fun _ => true) true 39 v d p)
    (hw : (d.weights Try.prog 39).all (· ≤ reachBytes) = true) : ∃ t u, v = T.val t u ∧ Lies W W.heap.size t u := by
  obtain ⟨cs, rfl, hsz⟩ := okWide_struct Try.underlying39 hv
  obtain ⟨m, hm⟩ := h
  obtain ⟨t, u, hcs, hL⟩ := (open_both (enc := enc) (W := W) m).1 _ _ hm hw
  refine ⟨t, u, ?_, hL⟩
  have : cs.toList = T.cells t u := by simpa [Value.cells] using hcs
  rw [← Array.toArray_toList (xs := cs), this]
  rfl
set_option maxRecDepth 100000 in
/-- a list of terms that came in -/
theorem open_terms {r : Reach} {b0 : Nat} {v : Value} {d : DataW H} {p : List MemPlace} (hv : Value.okWide Try.prog W r b0 25 v) (h : DataW.Trod enc Try.prog W 0 (fun _ => true) true 25 v d p)
    (hw : (d.weights Try.prog 25).all (· ≤ reachBytes) = true) : ∃ (l : List T) (A : Option Addr) (c : Nat) (xs : List Value), v = .slice A l.length c ∧ l.length ≤ c ∧ l.length * 56 ≤ 140737488355328 ∧ Rd W W.heap.size A xs ∧ LiesL W W.heap.size l xs := by
  obtain ⟨a, len, cap, rfl⟩ := okWide_slice Try.underlying25 hv
  obtain ⟨m, hm⟩ := h
  obtain ⟨l, A, c, xs, hcs, h1, h2, h3, h4⟩ := (open_both (enc := enc) (W := W) m).2 _ _ hm hw
  simp [Value.cells] at hcs
  obtain ⟨rfl, rfl, rfl⟩ := hcs
  exact ⟨l, a, cap, xs, rfl, h1, h2, h3, h4⟩
end
end Go.Proofs.Ytjlglfjikfpboaa.opens
