/- A log's accounts, pure: what may be, what overlaps, what is settled. -/
import Derived.Test.YtoenkkbcpafanaaA01
import Derived.Test.YtoenkkbcpafanaaA00
import Derived.Test.YtoenkkbcpafanaaProg
import Derived.Lib.SmallJoins
import Derived.SizedLaws
import Derived.ProofKit
import Derived.OpenShut
import Derived.Below
import Derived.IntWalk


namespace Go.Proofs.Ytoenkkbcpafanaa.segs
set_option linter.unusedVariables false
set_option linter.unusedSimpArgs false
open Go.RowKit Go.Proofs.Ytoenkkbcpafanaa.base

theorem snoc_ind {α : Type} {motive : List α → Prop} (nil : motive []) (snoc : ∀ l x, motive l → motive (l ++ [x])) (l : List α) : motive l := by
  have h : ∀ m : List α, motive m.reverse := fun m => by
    induction m with
    | nil => exact nil
    | cons x m ih => rw [List.reverse_cons]; exact snoc _ _ ih
  have := h l.reverse
  rwa [List.reverse_reverse] at this
deriving instance DecidableEq for T3
instance : Inhabited T3 := ⟨⟨0, 0, 0⟩⟩
abbrev zT : T3 := ⟨0, 0, 0⟩
/-- account i: what it is, how much is used, how much is live -/
def at3 (ac : List T3) (i : Nat) : T3 := ac[i]?.getD zT
theorem at3_eq {ac : List T3} {i : Nat} (h : i < ac.length) : at3 ac i = ac[i] := by unfold at3; rw [List.getElem?_eq_getElem h]; rfl
theorem at3_out {ac : List T3} {i : Nat} (h : ac.length ≤ i) : at3 ac i = zT := by unfold at3; rw [List.getElem?_eq_none h]; rfl
theorem at3_set {ac : List T3} {i : Nat} (x : T3) (h : i < ac.length) : at3 (ac.set i x) i = x := by unfold at3; rw [List.getElem?_set_self h]; rfl
theorem at3_ne {ac : List T3} {i j : Nat} (x : T3) (h : i ≠ j) : at3 (ac.set i x) j = at3 ac j := by unfold at3; rw [List.getElem?_set_ne h]
theorem at3_map {ac : List T3} {f : T3 → T3} {i : Nat} (h : i < ac.length) : at3 (ac.map f) i = f (at3 ac i) := by unfold at3; rw [List.getElem?_map, List.getElem?_eq_getElem h]; rfl
/-- the numbers of those of a kind, rising -/
def those (ac : List T3) (k : Int) : List Nat := (List.range ac.length).filter fun i => decide ((at3 ac i).a = k)
/-- .. up to j -/
def thoseTo (ac : List T3) (k : Int) (j : Nat) : List Nat := (List.range j).filter fun i => decide ((at3 ac i).a = k)
theorem thoseTo_all (ac : List T3) (k : Int) : thoseTo ac k ac.length = those ac k := rfl
theorem thoseTo_yes {ac : List T3} {k : Int} {j : Nat} (h : (at3 ac j).a = k) : thoseTo ac k (j + 1) = thoseTo ac k j ++ [j] := by
  unfold thoseTo; rw [List.range_succ, List.filter_append]; simp [h]
theorem thoseTo_no {ac : List T3} {k : Int} {j : Nat} (h : (at3 ac j).a ≠ k) : thoseTo ac k (j + 1) = thoseTo ac k j := by
  unfold thoseTo; rw [List.range_succ, List.filter_append]; simp [h]
theorem thoseTo_len (ac : List T3) (k : Int) (j : Nat) : (thoseTo ac k j).length ≤ j := by
  have := List.length_filter_le (fun i => decide ((at3 ac i).a = k)) (List.range j)
  rw [List.length_range] at this
  exact this
theorem mem_those {ac : List T3} {k : Int} {i : Nat} : i ∈ those ac k ↔ i < ac.length ∧ (at3 ac i).a = k := by
  unfold those; rw [List.mem_filter, List.mem_range]; simp
theorem thoseTo_congr {ac ac' : List T3} {k k' : Int} : ∀ {j : Nat}, (∀ i, i < j → ((at3 ac i).a = k ↔ (at3 ac' i).a = k')) → thoseTo ac k j = thoseTo ac' k' j
  | 0, _ => rfl
  | j + 1, h => by
    have ih := thoseTo_congr (j := j) fun i hi => h i (by omega)
    by_cases hj : (at3 ac j).a = k
    · rw [thoseTo_yes hj, thoseTo_yes ((h j (by omega)).1 hj), ih]
    · rw [thoseTo_no hj, thoseTo_no (fun e => hj ((h j (by omega)).2 e)), ih]
/-- the first of a kind -/
def first (ac : List T3) (k : Int) : Option Nat := ac.findIdx? fun x => decide (x.a = k)
theorem first_none {ac : List T3} {k : Int} : first ac k = none ↔ those ac k = [] := by
  unfold first
  rw [List.findIdx?_eq_none_iff, List.eq_nil_iff_forall_not_mem]
  constructor
  · intro h i hi
    obtain ⟨h1, h2⟩ := mem_those.1 hi
    rw [at3_eq h1] at h2
    have := h _ (List.getElem_mem h1)
    simp [h2] at this
  · intro h x hx
    obtain ⟨i, hi, rfl⟩ := List.getElem_of_mem hx
    have := h i
    rw [mem_those, at3_eq hi] at this
    simpa [hi] using this
theorem first_some {ac : List T3} {k : Int} {i : Nat} (h : first ac k = some i) : i < ac.length ∧ (at3 ac i).a = k ∧ ∀ j, j < i → (at3 ac j).a ≠ k := by
  unfold first at h
  rw [List.findIdx?_eq_some_iff_getElem] at h
  obtain ⟨h1, h2, h3⟩ := h
  refine ⟨h1, by rw [at3_eq h1]; simpa using h2, fun j hj => ?_⟩
  have := h3 j hj
  rw [at3_eq (by omega)]
  simpa using this
theorem thoseTo_none {ac : List T3} {k : Int} : ∀ {i : Nat}, (∀ j, j < i → (at3 ac j).a ≠ k) → thoseTo ac k i = []
  | 0, _ => rfl
  | i + 1, h => by rw [thoseTo_no (h i (by omega)), thoseTo_none fun j hj => h j (by omega)]
theorem those_head {ac : List T3} {k : Int} {i : Nat} (h : first ac k = some i) : ∃ r, those ac k = i :: r := by
  obtain ⟨h1, h2, h3⟩ := first_some h
  have e : ∀ m, i < m → ∃ r, thoseTo ac k m = i :: r := by
    intro m hm
    induction m with
    | zero => omega
    | succ m ih =>
      by_cases hmi : i = m
      · subst hmi
        rw [thoseTo_yes h2, thoseTo_none h3]
        exact ⟨[], rfl⟩
      · obtain ⟨r, hr⟩ := ih (by omega)
        by_cases hk : (at3 ac m).a = k
        · exact ⟨r ++ [m], by rw [thoseTo_yes hk, hr]; rfl⟩
        · exact ⟨r, by rw [thoseTo_no hk, hr]⟩
  exact e _ h1

/-! ### places -/
/-- two places that overlap nowhere -/
def Disj (p q : T3) : Prop := p.a ≠ q.a ∨ p.b + p.c ≤ q.b ∨ q.b + q.c ≤ p.b
instance (p q : T3) : Decidable (Disj p q) := inferInstanceAs (Decidable (_ ∨ _ ∨ _))
theorem Disj.symm {p q : T3} (h : Disj p q) : Disj q p := by
  rcases h with h | h | h
  · exact .inl fun e => h e.symm
  · exact .inr (.inr h)
  · exact .inr (.inl h)
/-- a place lies in what is used -/
def mayB (ac : List T3) (p : T3) : Bool := decide ((0 ≤ p.a ∧ p.a < (ac.length : Int)) ∧ 0 ≤ p.b ∧ 1 ≤ p.c ∧ p.c ≤ (at3 ac p.a.toNat).b - p.b)
theorem mayB_iff {ac : List T3} {p : T3} : mayB ac p = true ↔ ((0 ≤ p.a ∧ p.a < (ac.length : Int)) ∧ 0 ≤ p.b ∧ 1 ≤ p.c ∧ p.c ≤ (at3 ac p.a.toNat).b - p.b) := by unfold mayB; exact decide_eq_true_iff
/-- so many more bytes are live -/
def addL (ac : List T3) (p : T3) : List T3 := ac.set p.a.toNat ⟨(at3 ac p.a.toNat).a, (at3 ac p.a.toNat).b, (at3 ac p.a.toNat).c + p.c⟩
def noL (x : T3) : T3 := ⟨x.a, x.b, 0⟩
def sums (ac : List T3) (ps : List T3) : List T3 := ps.foldl addL (ac.map noL)
theorem sums_nil (ac : List T3) : sums ac [] = ac.map noL := rfl
theorem sums_snoc (ac : List T3) (ps : List T3) (p : T3) : sums ac (ps ++ [p]) = addL (sums ac ps) p := by simp [sums, List.foldl_append]
def freeT (x : T3) : T3 := if x.a = 2 ∧ x.c = 0 then ⟨1, 0, 0⟩ else x
def settledP (ac : List T3) (ps : List T3) : Option (List T3) := if ps.all (mayB ac) = true ∧ ps.Pairwise Disj then some ((sums ac ps).map freeT) else none
theorem addL_len (ac : List T3) (p : T3) : (addL ac p).length = ac.length := by simp [addL]
theorem sums_len (ac ps : List T3) : (sums ac ps).length = ac.length := by
  induction ps using snoc_ind with
  | nil => simp [sums]
  | snoc ps p ih => rw [sums_snoc, addL_len, ih]
theorem sums_ab (ac ps : List T3) (i : Nat) : (at3 (sums ac ps) i).a = (at3 ac i).a ∧ (at3 (sums ac ps) i).b = (at3 ac i).b := by
  induction ps using snoc_ind with
  | nil =>
    rw [sums_nil]
    rcases Nat.lt_or_ge i ac.length with h | h
    · rw [at3_map h]; exact ⟨rfl, rfl⟩
    · rw [at3_out h, at3_out (by simpa using h)]; exact ⟨rfl, rfl⟩
  | snoc ps p ih =>
    rw [sums_snoc]
    unfold addL
    rcases Nat.lt_or_ge p.a.toNat (sums ac ps).length with h | h
    · by_cases e : p.a.toNat = i
      · rw [← e, at3_set _ h]
        rw [← e] at ih
        exact ih
      · rw [at3_ne _ e]; exact ih
    · rw [List.set_eq_of_length_le h]; exact ih
/-- the live bytes of a segment -/
def liveIn (ps : List T3) (i : Nat) : Int := ((ps.filter fun p => decide (p.a.toNat = i)).map T3.c).sum
theorem liveIn_nil (i : Nat) : liveIn [] i = 0 := rfl
theorem liveIn_cons (p : T3) (ps : List T3) (i : Nat) : liveIn (p :: ps) i = (if p.a.toNat = i then p.c else 0) + liveIn ps i := by
  unfold liveIn
  by_cases h : p.a.toNat = i
  · rw [List.filter_cons_of_pos (by simpa using h), if_pos h]; rfl
  · rw [List.filter_cons_of_neg (by simpa using h), if_neg h]; omega
theorem liveIn_snoc (p : T3) (ps : List T3) (i : Nat) : liveIn (ps ++ [p]) i = liveIn ps i + (if p.a.toNat = i then p.c else 0) := by
  induction ps with
  | nil => rw [List.nil_append, liveIn_cons, liveIn_nil]; omega
  | cons q ps ih => rw [List.cons_append, liveIn_cons, liveIn_cons, ih]; omega
theorem sums_c (ac ps : List T3) (i : Nat) (hi : i < ac.length) : (at3 (sums ac ps) i).c = liveIn ps i := by
  induction ps using snoc_ind with
  | nil => rw [sums_nil, at3_map hi]; rfl
  | snoc ps p ih =>
    rw [sums_snoc, liveIn_snoc]
    unfold addL
    by_cases e : p.a.toNat = i
    · subst e
      rw [at3_set _ (by rw [sums_len]; exact hi), if_pos rfl]
      show _ + _ = _
      rw [ih]
    · rw [at3_ne _ e, if_neg e, ih]; omega
theorem liveIn_nonneg {ps : List T3} (h : ∀ p ∈ ps, 1 ≤ p.c) (i : Nat) : 0 ≤ liveIn ps i := by
  induction ps with
  | nil => exact Int.le_refl _
  | cons p ps ih =>
    have h1 := h p List.mem_cons_self
    have h2 := ih fun q hq => h q (List.mem_cons_of_mem _ hq)
    rw [liveIn_cons]
    split <;> omega
theorem liveIn_pos {ps : List T3} (h : ∀ p ∈ ps, 1 ≤ p.c) {i : Nat} : liveIn ps i = 0 ↔ ∀ p ∈ ps, p.a.toNat ≠ i := by
  induction ps with
  | nil => simp [liveIn_nil]
  | cons p ps ih =>
    have h1 := h p List.mem_cons_self
    have h2 := liveIn_nonneg (i := i) fun q hq => h q (List.mem_cons_of_mem _ hq)
    have ih := ih fun q hq => h q (List.mem_cons_of_mem _ hq)
    rw [liveIn_cons]
    by_cases e : p.a.toNat = i
    · rw [if_pos e]
      exact ⟨fun h => by omega, fun h => absurd e (h p List.mem_cons_self)⟩
    · rw [if_neg e, Int.zero_add, ih]
      exact ⟨fun h q hq => by rcases List.mem_cons.1 hq with rfl | hq; exact e; exact h q hq, fun h q hq => h q (List.mem_cons_of_mem _ hq)⟩
theorem liveIn_le {ps : List T3} {M : Int} (h : ∀ p ∈ ps, 0 ≤ p.c ∧ p.c ≤ M) (i : Nat) : liveIn ps i ≤ (ps.length : Int) * M := by
  induction ps with
  | nil => simp [liveIn_nil]
  | cons p ps ih =>
    have h1 := h p List.mem_cons_self
    have h2 := ih fun q hq => h q (List.mem_cons_of_mem _ hq)
    rw [liveIn_cons, List.length_cons]
    have : ((ps.length + 1 : Nat) : Int) * M = ps.length * M + M := by rw [Int.natCast_add, Int.add_mul]; omega
    rw [this]
    split <;> omega

/-! ### in order -/
/-- by segment, then by place -/
def cfT (x y : T3) : Int := if x.a < y.a then -1 else if y.a < x.a then 1 else if x.b < y.b then -1 else if y.b < x.b then 1 else 0
theorem cfT_lt {x y : T3} : cfT x y < 0 ↔ x.a < y.a ∨ x.a = y.a ∧ x.b < y.b := by unfold cfT; repeat' split <;> omega
/-- neighbours that overlap -/
def badN (d : List T3) (i : Nat) : Prop := (at3 d i).a = (at3 d (i + 1)).a ∧ (at3 d (i + 1)).b < (at3 d i).b + (at3 d i).c
instance (d : List T3) (i : Nat) : Decidable (badN d i) := inferInstanceAs (Decidable (_ ∧ _))
theorem sorted_disj {d : List T3} (hS : ∀ i j, i < j → j < d.length → ¬ (cfT (at3 d j) (at3 d i) < 0)) (hc : ∀ p ∈ d, 1 ≤ p.c) : d.Pairwise Disj ↔ ∀ i, i + 1 < d.length → ¬ badN d i := by
  constructor
  · intro h i hi hb
    have h1 := List.pairwise_iff_getElem.1 h i (i + 1) (by omega) hi (by omega)
    rw [← at3_eq (by omega), ← at3_eq hi] at h1
    have hs := hS i (i + 1) (by omega) hi
    rw [cfT_lt] at hs
    have hc1 := hc _ (List.getElem_mem hi)
    rw [← at3_eq hi] at hc1
    obtain ⟨b1, b2⟩ := hb
    rcases h1 with h1 | h1 | h1 <;> omega
  · intro h
    rw [List.pairwise_iff_getElem]
    intro i j hi hj hij
    rw [← at3_eq hi, ← at3_eq hj]
    by_cases e : (at3 d i).a = (at3 d j).a
    · refine .inr (.inl ?_)
      have n1 := h i (by omega)
      have s1 := hS i (i + 1) (by omega) (by omega)
      rw [cfT_lt] at s1
      by_cases e2 : i + 1 = j
      · rw [← e2] at e ⊢
        unfold badN at n1
        omega
      · have s2 := hS (i + 1) j (by omega) hj
        rw [cfT_lt] at s2
        unfold badN at n1
        omega
    · exact .inl e
end Go.Proofs.Ytoenkkbcpafanaa.segs

/- Rows of a power's calls, in memory and as an argument. -/

namespace Go.Proofs.Ytoenkkbcpafanaa.powers
set_option linter.unusedVariables false
set_option linter.unusedSimpArgs false
open Go.RowKit Go.ChangeShapes Go.WideShapes Go.Proofs.Ytoenkkbcpafanaa.base

structure OP where
  k : Int
  n : Int
  on : Bool
def OP.cells (x : OP) : List Value := [.int .i64 x.k, .int .i64 x.n, .bool x.on]
def OP.fits (x : OP) : Prop := (-9223372036854775808 ≤ x.k ∧ x.k ≤ 9223372036854775807) ∧ (-9223372036854775808 ≤ x.n ∧ x.n ≤ 9223372036854775807)
def cellsX : List OP → List Value
  | [] => []
  | x :: l => x.cells ++ cellsX l
theorem cellsX_len : ∀ l : List OP, (cellsX l).length = 3 * l.length
  | [] => rfl
  | x :: l => by rw [cellsX, List.length_append, cellsX_len l]; simp [OP.cells]; omega
theorem cellsX_app : ∀ l m : List OP, cellsX (l ++ m) = cellsX l ++ cellsX m
  | [], m => rfl
  | x :: l, m => by rw [List.cons_append, cellsX, cellsX_app l m, cellsX, List.append_assoc]
theorem cellsX_at : ∀ (l : List OP) {j : Nat} (hj : j < l.length), (cellsX l)[j * 3]? = some (.int .i64 l[j].k) ∧ (cellsX l)[j * 3 + 1]? = some (.int .i64 l[j].n) ∧ (cellsX l)[j * 3 + 2]? = some (.bool l[j].on)
  | x :: l, 0, _ => ⟨rfl, rfl, rfl⟩
  | x :: l, j + 1, hj => by
    have ih := cellsX_at l (j := j) (by simpa using hj)
    have h3 : x.cells.length = 3 := rfl
    simp only [cellsX, List.getElem_cons_succ]
    refine ⟨?_, ?_, ?_⟩
    · rw [List.getElem?_append_right (by omega), h3, show (j + 1) * 3 - 3 = j * 3 by omega]; exact ih.1
    · rw [List.getElem?_append_right (by omega), h3, show (j + 1) * 3 + 1 - 3 = j * 3 + 1 by omega]; exact ih.2.1
    · rw [List.getElem?_append_right (by omega), h3, show (j + 1) * 3 + 2 - 3 = j * 3 + 2 by omega]; exact ih.2.2
/-- the slice (A, l.length, c) holds the calls l, below block B -/
def Xs (w : World) (B : Nat) (l : List OP) (A : Option Addr) (c : Nat) : Prop := l.length ≤ c ∧ l.length * 24 ≤ 140737488355328 ∧ (A = none → c = 0) ∧ Rd w B A (cellsX l) ∧ ∀ x ∈ l, x.fits
section
variable {w w' : World} {B B' : Nat} {l : List OP} {A : Option Addr} {c : Nat}
theorem Xs.below (h : Xs w B l A c) (hb : Below B w w') : Xs w' B l A c := ⟨h.1, h.2.1, h.2.2.1, h.2.2.2.1.keep fun _ hp => hb.cell hp, h.2.2.2.2⟩
theorem Xs.at_ (h : Xs w B l A c) {j : Nat} (hj : j < l.length) : ∃ b off, A = some ⟨b, off, none⟩ ∧ b < B ∧ w.cell? ⟨b, off + j * 3, none⟩ = some (.int .i64 l[j].k) ∧ w.cell? ⟨b, off + j * 3 + 1, none⟩ = some (.int .i64 l[j].n) ∧ w.cell? ⟨b, off + j * 3 + 2, none⟩ = some (.bool l[j].on) := by
  obtain ⟨c0, c1, c2⟩ := cellsX_at l hj
  obtain ⟨b, off, e, hb, h0⟩ := h.2.2.2.1 _ _ c0
  obtain ⟨b1, off1, e1, hb1, h1⟩ := h.2.2.2.1 _ _ c1
  obtain ⟨b2, off2, e2, hb2, h2⟩ := h.2.2.2.1 _ _ c2
  rw [e] at e1 e2
  cases e1
  cases e2
  exact ⟨b, off, e, hb, h0, by rw [Nat.add_assoc]; exact h1, by rw [Nat.add_assoc]; exact h2⟩
end

theorem all_mem {l : List Nat} (h : l.all (· ≤ reachBytes) = true) {n : Nat} (hn : n ∈ l) : n ≤ reachBytes := by
  simpa using List.all_eq_true.1 h n hn

/-- a list out of its elements -/
theorem gatherX (W : World) (a : Addr) (len : Nat) (h : ∀ i, i < len → ∃ x : OP, x.fits ∧ ∀ r u, x.cells[r]? = some u → W.cell? (a.add (i * 3 + r)) = some u) :
    ∃ l : List OP, l.length = len ∧ (∀ x ∈ l, x.fits) ∧ ∀ j u, (cellsX l)[j]? = some u → W.cell? (a.add j) = some u := by
  induction len with
  | zero => exact ⟨[], rfl, (fun x hx => by cases hx), fun j u h => by simp [cellsX] at h⟩
  | succ n ih =>
    obtain ⟨l, hl, hf, hc⟩ := ih (fun i hi => h i (by omega))
    obtain ⟨x, hx, hcs⟩ := h n (by omega)
    have hxl := cellsX_len l
    refine ⟨l ++ [x], by simp [hl], fun y hy => ?_, fun j u hj => ?_⟩
    · rcases List.mem_append.1 hy with e | e
      · exact hf y e
      · rw [List.mem_singleton.1 e]; exact hx
    · rw [cellsX_app] at hj
      rcases Nat.lt_or_ge j (cellsX l).length with hlt | hge
      · rw [List.getElem?_append_left hlt] at hj
        exact hc j u hj
      · rw [List.getElem?_append_right hge, show cellsX [x] = x.cells by simp [cellsX]] at hj
        have := hcs (j - (cellsX l).length) u hj
        rwa [show n * 3 + (j - (cellsX l).length) = j by omega] at this

section
variable {H : Type} {enc : TypeId × Value → H} {W : World}
end

end Go.Proofs.Ytoenkkbcpafanaa.powers

/- A power, and the document's. -/

namespace Go.Proofs.Ytoenkkbcpafanaa.powers
set_option linter.unusedVariables false
set_option linter.unusedSimpArgs false
open Go.RowKit Go.Proofs.Ytoenkkbcpafanaa.base

theorem lay {p : Prop} (h : p) : Hid p := h
def one (g k : Nat) : Prop := k = g
/-- but for the blocks S all that was there is as it was -/
structure St (S : Nat → Prop) (w w' : World) : Prop where
  os : w'.os = w.os
  tape : w'.tape = w.tape
  output : w'.output = w.output
  size : w.heap.size ≤ w'.heap.size
  block : ∀ k, k < w.heap.size → ¬ S k → w'.heap[k]? = w.heap[k]?
section
variable {w w' w2 : World} {g k : Nat} {t : TypeId} {cs : Array Value} {S S2 : Nat → Prop}
theorem St.refl (S : Nat → Prop) (w : World) : St S w w := ⟨rfl, rfl, rfl, Nat.le_refl _, fun _ _ _ => rfl⟩
theorem St.trans (h : St S w w') (k : St S w' w2) : St S w w2 := ⟨k.os.trans h.os, k.tape.trans h.tape, k.output.trans h.output, Nat.le_trans h.size k.size, fun i hi hn => (k.block i (Nat.lt_of_lt_of_le hi h.size) hn).trans (h.block i hi hn)⟩
theorem St.mono (h : St S w w') (hS : ∀ k, S k → S2 k) : St S2 w w' := ⟨h.os, h.tape, h.output, h.size, fun i hi hn => h.block i hi fun hs => hn (hS i hs)⟩
theorem St.set (h : St S w w') (hg : S g) (i : Nat) (u : Value) : St S w (w'.setCell ⟨g, i, none⟩ u) := by
  have b := (Below.refl 0 w').setCell (p := ⟨g, i, none⟩) (Nat.zero_le _) u
  refine ⟨b.os.trans h.os, b.tape.trans h.tape, b.output.trans h.output, by rw [World.size_setCell]; exact h.size, fun k hk hn => (Below.heap_setCell w' _ u k ?_).trans (h.block k hk hn)⟩
  intro e
  exact hn (by rw [e]; exact hg)
theorem St.blk (h : St S w w') (hb : Blk w k t cs) (hk : ¬ S k) : Blk w' k t cs := (h.block k hb.lt hk).trans hb
theorem St.below {B : Nat} (h : St S w w') (hS : ∀ k, S k → B ≤ k) (hB : B ≤ w.heap.size) : Below B w w' := ⟨h.os, h.tape, h.output, h.size, fun k hk => h.block k (by omega) (fun hs => by have := hS k hs; omega)⟩
theorem St.of_below (h : Below w.heap.size w w') : St S w w' := ⟨h.os, h.tape, h.output, h.size, fun k hk _ => h.block k hk⟩
end
/-- a power: what is left (-1: without end), how much was written -/
abbrev PC (L W : Int) : Array Value := #[.int .i64 L, .int .i64 W]
/-- the document's -/
abbrev DC (b : Bool) (a W : Int) : Array Value := #[.bool b, .int .i64 a, .int .i64 W]
def cutL (L n : Int) : Int := if L = 0 then 0 else min (max n (-1)) 1073741824
def spL (L : Int) : Int := if L ≤ 0 then L else L - 1
def aL (L : Int) : Int := if L ≤ 0 then 0 else L
def bL (L : Int) : Bool := decide (L ≠ 0)
def In (L : Int) : Prop := -1 ≤ L ∧ L ≤ 1073741824
theorem in_cut (L n : Int) : In (cutL L n) := by unfold In cutL; split <;> omega
theorem in_sp {L : Int} (h : In L) : In (spL L) := by unfold In spL at *; split <;> omega
def eSp (L : Int) : Int := if L = 0 then 110 else 0
/-- one more written -/
def nx (W : Int) : Int := wrap64 (W + 1)
def wSp (L W : Int) : Int := if L = 0 then W else nx W
variable {g : Nat} {L W : Int} {w : World}

set_option maxRecDepth 100000 in
set_option maxHeartbeats 2000000 in
theorem writes_ok (hb : Blk w g 219 (PC L W)) (hI : In L) :
    Calls Try.prog 111 #[.pointer (some ⟨g, 0, none⟩)] w fun e w' => e = .returned (.int .i64 W) ∧ w' = w := by
  have x0 := hb.cell 0
  have x1 := hb.cell 1
  simp only [List.getElem?_toArray, List.getElem?_cons_zero, List.getElem?_cons_succ] at x0 x1
  clear hb hI
  go_enter Try.func111, Try.ntmps111
  go_wp2_with fail
  go_ret
  exact ⟨by first | rfl | (unfold bL; congr 2; by_cases h : L = 0 <;> simp [h]), rfl⟩

set_option maxRecDepth 100000 in
set_option maxHeartbeats 2000000 in
theorem on_ok (hb : Blk w g 219 (PC L W)) :
    Calls Try.prog 61 #[.pointer (some ⟨g, 0, none⟩)] w fun e w' => e = .returned (.bool (bL L)) ∧ w' = w := by
  have x0 := hb.cell 0
  simp only [List.getElem?_toArray, List.getElem?_cons_zero, List.getElem?_cons_succ] at x0
  clear hb
  go_enter Try.func61, Try.ntmps61
  go_wp2_with fail
  go_ret
  exact ⟨by unfold bL; by_cases h : L = 0 <;> simp [h], rfl⟩

set_option maxRecDepth 100000 in
set_option maxHeartbeats 2000000 in
theorem restore_ok (hb : Blk w g 219 (PC L W)) :
    Calls Try.prog 97 #[.pointer (some ⟨g, 0, none⟩)] w fun e w' => e = .returned (.tuple #[]) ∧ Blk w' g 219 (PC (-1) W) ∧ St (one g) w w' := by
  have x0 := hb.cell 0
  have f0 := hb.frozen 0
  have lg := hb.lt
  simp only [List.getElem?_toArray, List.getElem?_cons_zero, List.getElem?_cons_succ] at x0
  have kb := hb.put 0 (.int .i64 (-1))
  go_enter Try.func97, Try.ntmps97
  go_wp2_with fail
  refine bodyPost_end (v := .tuple #[]) (by simp [results, Try.results97, go_sem]) rfl ⟨rfl, kb, (St.refl (one g) w).set rfl 0 _⟩

set_option maxRecDepth 100000 in
set_option maxHeartbeats 2000000 in
theorem new_ok (w : World) :
    Calls Try.prog 55 #[] w fun e w' => e = .returned (.pointer (some ⟨w.heap.size, 0, none⟩)) ∧ Blk w' w.heap.size 219 (PC (-1) 0) ∧ Below w.heap.size w w' ∧ w'.heap.size = w.heap.size + 1 := by
  have kb := Blk.new w 219 (PC (-1) 0)
  have bb := (Below.refl w.heap.size w).alloc (Nat.le_refl _) (.cells (PC (-1) 0) 219)
  go_enter Try.func55, Try.ntmps55
  go_wp2_with fail
  go_ret
  exact ⟨rfl, kb, bb, by simp⟩

set_option maxRecDepth 100000 in
set_option maxHeartbeats 2000000 in
theorem refNew_ok (w : World) :
    Calls Try.prog 27 #[] w fun e w' => e = .returned (.pointer (some ⟨w.heap.size, 0, none⟩)) ∧ Blk w' w.heap.size 199 (DC true 0 0) ∧ Below w.heap.size w w' ∧ w'.heap.size = w.heap.size + 1 := by
  have kb := Blk.new w 199 (DC true 0 0)
  have bb := (Below.refl w.heap.size w).alloc (Nat.le_refl _) (.cells (DC true 0 0) 199)
  go_enter Try.func27, Try.ntmps27
  go_wp2_with fail
  go_ret
  exact ⟨rfl, kb, bb, by simp⟩

set_option maxRecDepth 100000 in
set_option maxHeartbeats 2000000 in
theorem cut_ok (n : Int) (hb : Blk w g 219 (PC L W)) (hI : In L) :
    Calls Try.prog 64 #[.pointer (some ⟨g, 0, none⟩), .int .i64 n] w fun e w' => e = .returned (.tuple #[]) ∧ Blk w' g 219 (PC (cutL L n) W) ∧ St (one g) w w' := by
  have x0 := hb.cell 0
  have f0 := hb.frozen 0
  have lg := hb.lt
  simp only [List.getElem?_toArray, List.getElem?_cons_zero, List.getElem?_cons_succ] at x0
  have kb := fun u => hb.put 0 (.int .i64 u)
  have ho := on_ok hb
  clear hI
  by_cases h : L = 0
  · have e1 : bL L = false := by simp [bL, h]
    rw [e1] at ho
    have e2 := lay (show cutL L n = L by unfold cutL; rw [if_pos h, h])
    clear e1 h
    go_enter Try.func64, Try.ntmps64
    go_wp2_with fail
    refine ho.mono ?_
    rintro e w' ⟨rfl, rfl⟩
    go_wp2_with fail
    refine bodyPost_end (v := .tuple #[]) (by simp [results, Try.results64, go_sem]) rfl ⟨rfl, by rw [e2.out]; exact hb, St.refl (one g) _⟩
  · have e1 : bL L = true := by simp [bL, h]
    rw [e1] at ho
    have e2 := lay (show cutL L n = min (max n (-1)) 1073741824 by unfold cutL; rw [if_neg h])
    clear e1 h
    go_enter Try.func64, Try.ntmps64
    go_wp2_with fail
    refine ho.mono ?_
    rintro e w' ⟨rfl, rfl⟩
    go_wp2_with fail
    all_goals refine bodyPost_end (v := .tuple #[]) (by simp [results, Try.results64, go_sem]) rfl ⟨rfl, ?_, (St.refl (one g) w').set rfl 0 _⟩
    all_goals rw [e2.out]
    all_goals first | (rw [show min (max n (-1)) 1073741824 = -1 from by omega]; exact kb _) | (rw [show min (max n (-1)) 1073741824 = 1073741824 from by omega]; exact kb _) | (rw [show min (max n (-1)) 1073741824 = n from by omega]; exact kb _)

set_option maxRecDepth 100000 in
set_option maxHeartbeats 2000000 in
theorem spend_ok (hb : Blk w g 219 (PC L W)) (hI : In L) :
    Calls Try.prog 161 #[.pointer (some ⟨g, 0, none⟩)] w fun e w' => e = .returned (.int .i64 (eSp L)) ∧ Blk w' g 219 (PC (spL L) (wSp L W)) ∧ St (one g) w w' := by
  have x0 := hb.cell 0
  have f0 := hb.frozen 0
  have x1 := hb.cell 1
  have f1 := hb.frozen 1
  have lg := hb.lt
  simp only [List.getElem?_toArray, List.getElem?_cons_zero, List.getElem?_cons_succ] at x0 x1
  have kb := hb.put 1 (.int .i64 (nx W))
  have ho := on_ok hb
  by_cases h : L = 0
  · have e1 : bL L = false := by simp [bL, h]
    rw [e1] at ho
    have e2 := lay (show eSp L = 110 by unfold eSp; rw [if_pos h])
    have e3 := lay (show spL L = L by unfold spL; rw [if_pos (by omega)])
    have e4 := lay (show wSp L W = W by unfold wSp; rw [if_pos h])
    clear e1 h
    go_enter Try.func161, Try.ntmps161
    go_wp2_with fail
    refine ho.mono ?_
    rintro e w' ⟨rfl, rfl⟩
    go_wp2_with fail
    go_ret
    exact ⟨by rw [e2.out]; rfl, by rw [e3.out, e4.out]; exact hb, St.refl (one g) _⟩
  · have e1 : bL L = true := by simp [bL, h]
    rw [e1] at ho
    have e2 := lay (show eSp L = 0 by unfold eSp; rw [if_neg h])
    have e4 := lay (show wSp L W = nx W by unfold wSp; rw [if_neg h])
    have HI := lay hI
    by_cases h1 : L = -1
    · have e3 := lay (show spL L = L by unfold spL; rw [if_pos (by omega)])
      have d1 : (!decide (L = -1)) = false := by simp [h1]
      have d2 : (L != -1) = false := by simp [h1]
      have d3 : decide (L = -1) = true := by simp [h1]
      clear e1 h hI h1
      go_enter Try.func161, Try.ntmps161
      go_wp2_with fail
      refine ho.mono ?_
      rintro e w' ⟨rfl, rfl⟩
      go_wp2_with fail
      go_ret
      exact ⟨by rw [e2.out]; rfl, by rw [e3.out, e4.out]; exact kb, (St.refl (one g) w').set rfl 1 _⟩
    · have h2 : 0 < L ∧ L ≤ 1073741824 := by unfold In at hI; omega
      have e3 := lay (show spL L = L - 1 by unfold spL; rw [if_neg (by omega)])
      have d1 : (!decide (L = -1)) = true := by simp [h1]
      have d2 : (L != -1) = true := by simp [h1]
      have d3 : decide (L = -1) = false := by simp [h1]
      have kb2 := kb.put 0 (.int .i64 (L - 1))
      obtain ⟨h3, h4⟩ := h2
      clear e1 h hI h1
      go_enter Try.func161, Try.ntmps161
      go_wp2_with fail
      refine ho.mono ?_
      rintro e w' ⟨rfl, rfl⟩
      go_wp2_with fail
      go_ret
      exact ⟨by rw [e2.out]; rfl, by rw [e3.out, e4.out]; exact kb2, ((St.refl (one g) w').set rfl 1 _).set rfl 0 _⟩

set_option maxRecDepth 100000 in
set_option maxHeartbeats 2000000 in
theorem refRestore_ok (hb : Blk w g 199 (DC (bL L) (aL L) W)) :
    Calls Try.prog 98 #[.pointer (some ⟨g, 0, none⟩)] w fun e w' => e = .returned (.tuple #[]) ∧ Blk w' g 199 (DC true 0 W) ∧ St (one g) w w' := by
  have f0 := hb.frozen 0
  have f1 := hb.frozen 1
  have x0 := hb.cell 0
  have x1 := hb.cell 1
  have lg := hb.lt
  simp only [List.getElem?_toArray, List.getElem?_cons_zero, List.getElem?_cons_succ] at x0 x1
  have kb := (hb.put 0 (.bool true)).put 1 (.int .i64 0)
  go_enter Try.func98, Try.ntmps98
  go_wp2_with fail
  refine bodyPost_end (v := .tuple #[]) (by simp [results, Try.results98, go_sem]) rfl ⟨rfl, kb, ((St.refl (one g) w).set rfl 0 _).set rfl 1 _⟩

set_option maxRecDepth 100000 in
set_option maxHeartbeats 2000000 in
theorem refCut_ok (n : Int) (hb : Blk w g 199 (DC (bL L) (aL L) W)) (hI : In L) :
    Calls Try.prog 96 #[.pointer (some ⟨g, 0, none⟩), .int .i64 n] w fun e w' => e = .returned (.tuple #[]) ∧ Blk w' g 199 (DC (bL (cutL L n)) (aL (cutL L n)) W) ∧ St (one g) w w' := by
  have f0 := hb.frozen 0
  have f1 := hb.frozen 1
  have lg := hb.lt
  have x0 := hb.cell 0
  have x1 := hb.cell 1
  have x2 := hb.cell 2
  simp only [List.getElem?_toArray, List.getElem?_cons_zero, List.getElem?_cons_succ] at x0 x1 x2
  clear hI
  by_cases h : L = 0
  · have e1 : bL L = false := by simp [bL, h]
    have e2 := lay (show cutL L n = L by unfold cutL; rw [if_pos h, h])
    rw [e1] at x0
    clear h
    go_enter Try.func96, Try.ntmps96
    go_wp2_with fail
    refine bodyPost_ret (v := .tuple #[]) (by simp [results, Try.results96, go_sem]) rfl ⟨rfl, by rw [e2.out]; exact hb, St.refl (one g) _⟩
  · have e1 : bL L = true := by simp [bL, h]
    have e2 := (show cutL L n = min (max n (-1)) 1073741824 by unfold cutL; rw [if_neg h])
    rw [e1] at x0 hb
    generalize cutL L n = M at e2 ⊢
    generalize aL L = a at x1 hb
    by_cases h0 : n = 0
    · subst h0
      obtain rfl : M = 0 := by omega
      have kb := (hb.put 1 (.int .i64 0)).put 0 (.bool false)
      clear e1 e2 h
      go_enter Try.func96, Try.ntmps96
      go_wp2_with fail
      refine bodyPost_end (v := .tuple #[]) (by simp [results, Try.results96, go_sem]) rfl ⟨rfl, kb, ((St.refl (one g) w).set rfl 1 _).set rfl 0 _⟩
    · by_cases h1 : 0 < n
      · have hb1 : bL M = true := by unfold bL; rw [decide_eq_true_iff]; omega
        have ha1 := lay (show aL M = min n 1073741824 by unfold aL; rw [if_neg (by omega)]; omega)
        have kb := fun u => (hb.put 1 (.int .i64 0)).put 1 (.int .i64 u)
        have HB := lay hb1
        have d1 : decide (n = 0) = false := by simp [h0]
        have d2 : decide (0 < n) = true := by simp [h1]
        have d3 : (n == 0) = false := by simp [h0]
        clear e1 e2 h hb1 h0
        go_enter Try.func96, Try.ntmps96
        go_wp2_with fail
        all_goals refine bodyPost_end (v := .tuple #[]) (by simp [results, Try.results96, go_sem]) rfl ⟨rfl, ?_, ((St.refl (one g) w).set rfl 1 _).set rfl 1 _⟩
        all_goals rw [HB.out, ha1.out]
        all_goals first | (rw [show min n 1073741824 = 1073741824 from by omega]; exact kb _) | (rw [show min n 1073741824 = n from by omega]; exact kb _)
      · have hb1 : bL M = true := by unfold bL; rw [decide_eq_true_iff]; omega
        have ha1 := lay (show aL M = 0 by unfold aL; rw [if_pos (by omega)])
        have kb := (hb.put 1 (.int .i64 0))
        have HB := lay hb1
        have d1 : decide (n = 0) = false := by simp [h0]
        have d2 : decide (0 < n) = false := by simp [h1]
        have d3 : (n == 0) = false := by simp [h0]
        clear e1 e2 h hb1 h0
        go_enter Try.func96, Try.ntmps96
        go_wp2_with fail
        refine bodyPost_end (v := .tuple #[]) (by simp [results, Try.results96, go_sem]) rfl ⟨rfl, by rw [HB.out, ha1.out]; exact kb, ((St.refl (one g) w).set rfl 1 _)⟩

set_option maxRecDepth 100000 in
set_option maxHeartbeats 2000000 in
theorem refSpend_ok (hb : Blk w g 199 (DC (bL L) (aL L) W)) (hI : In L) :
    Calls Try.prog 163 #[.pointer (some ⟨g, 0, none⟩)] w fun e w' => e = .returned (.int .i64 (eSp L)) ∧ Blk w' g 199 (DC (bL (spL L)) (aL (spL L)) (wSp L W)) ∧ St (one g) w w' := by
  have f0 := hb.frozen 0
  have f1 := hb.frozen 1
  have f2 := hb.frozen 2
  have lg := hb.lt
  have x0 := hb.cell 0
  have x1 := hb.cell 1
  have x2 := hb.cell 2
  simp only [List.getElem?_toArray, List.getElem?_cons_zero, List.getElem?_cons_succ] at x0 x1 x2
  by_cases h : L = 0
  · have e1 : bL L = false := by simp [bL, h]
    have e2 := lay (show eSp L = 110 by unfold eSp; rw [if_pos h])
    have e3 := lay (show spL L = L by unfold spL; rw [if_pos (by omega)])
    have e4 := lay (show wSp L W = W by unfold wSp; rw [if_pos h])
    rw [e1] at x0
    clear h e1
    go_enter Try.func163, Try.ntmps163
    go_wp2_with fail
    go_ret
    exact ⟨by rw [e2.out]; rfl, by rw [e3.out, e4.out]; exact hb, St.refl (one g) _⟩
  · have e1 : bL L = true := by simp [bL, h]
    have e2 := lay (show eSp L = 0 by unfold eSp; rw [if_neg h])
    have e4 := lay (show wSp L W = nx W by unfold wSp; rw [if_neg h])
    rw [e1] at x0 hb
    by_cases h1 : L = -1
    · subst h1
      have kb := hb.put 2 (.int .i64 (nx W))
      change w.cell? _ = some (.int .i64 0) at x1
      clear e1 h hI
      go_enter Try.func163, Try.ntmps163
      go_wp2_with fail
      go_ret
      exact ⟨by rw [e2.out]; rfl, by rw [e4.out]; exact kb, (St.refl (one g) w).set rfl 2 _⟩
    · have h2 : 0 < L ∧ L ≤ 1073741824 := by unfold In at hI; omega
      have e3 : aL L = L := by unfold aL; rw [if_neg (by omega)]
      have e5 := (show spL L = L - 1 by unfold spL; rw [if_neg (by omega)])
      obtain ⟨h3, h4⟩ := h2
      rw [e3] at x1 hb
      by_cases h5 : L = 1
      · subst h5
        have kb := ((hb.put 2 (.int .i64 (nx W))).put 1 (.int .i64 0)).put 0 (.bool false)
        clear e1 h hI e3 e5 h1
        go_enter Try.func163, Try.ntmps163
        go_wp2_with fail
        go_ret
        exact ⟨by rw [e2.out]; rfl, by rw [e4.out]; exact kb, (((St.refl (one g) w).set rfl 2 _).set rfl 1 _).set rfl 0 _⟩
      · have kb := ((hb.put 2 (.int .i64 (nx W))).put 1 (.int .i64 (L - 1)))
        have e6 := lay (show aL (spL L) = L - 1 by rw [e5]; unfold aL; rw [if_neg (by omega)])
        have e7 := lay (show bL (spL L) = true by rw [e5]; unfold bL; rw [decide_eq_true_iff]; omega)
        have d1 : decide (L - 1 = 0) = false := by rw [decide_eq_false_iff_not]; omega
        have d2 : (L - 1 == 0) = false := by rw [beq_eq_false_iff_ne]; omega
        clear e1 h hI e3 e5 h1 h5
        go_enter Try.func163, Try.ntmps163
        go_wp2_with fail
        go_ret
        exact ⟨by rw [e2.out]; rfl, by rw [e4.out, e6.out, e7.out]; exact kb, ((St.refl (one g) w).set rfl 2 _).set rfl 1 _⟩

end Go.Proofs.Ytoenkkbcpafanaa.powers
