/- What can be got at, in pure words. -/
import Derived.Test.YtjlglfjikfpboaaTermA
import Derived.Test.YtjlglfjikfpboaaTermB
import Derived.Test.YtjlglfjikfpboaaTermD
import Derived.Laws.OwnMore
import Derived.Laws.AppendOwn
import Derived.Laws.CopyOwn
import Derived.Maps.AppendAt
import Derived.Test.YtjlglfjikfpboaaInsert
import Derived.Maps.OwnSet
import Derived.Maps.RangeWalk
import Derived.Maps.Ext


namespace Go.Proofs.Ytjlglfjikfpboaa.thiefs
set_option linter.unusedVariables false
set_option linter.unusedSimpArgs false
open Go.Proofs.Ytjlglfjikfpboaa.tm

abbrev bn (s : ByteArray) : List UInt8 := s.data.toList

/- the terms that a term leads to, if the keys C are there: rows and open boxes gone through -/
mutual
def got (C : Int → Bool) : T → List T
  | .mk k n s l => if k = 5 then gotL C l else if k = 4 ∧ C n = true then gotL C l else [.mk k n s l]
def gotL (C : Int → Bool) : List T → List T
  | [] => []
  | t :: l => got C t ++ gotL C l
end
def KS (G : List T) : List Int := G.filterMap fun t => if t.k = 3 then some t.n else none
def AS (G : List T) : List (List UInt8) := G.filterMap fun t => if t.k = 2 then some (bn t.s) else none
def BN (G : List T) : Nat := G.countP fun t => decide (t.k = 4)

theorem gotL_app (C : Int → Bool) : ∀ a b : List T, gotL C (a ++ b) = gotL C a ++ gotL C b
  | [], _ => rfl
  | t :: a, b => by rw [List.cons_append, gotL, gotL, gotL_app C a b, List.append_assoc]
theorem gotL_one (C : Int → Bool) (t : T) : gotL C [t] = got C t := by rw [gotL, gotL, List.append_nil]
theorem KS_app (a b : List T) : KS (a ++ b) = KS a ++ KS b := List.filterMap_append
theorem AS_app (a b : List T) : AS (a ++ b) = AS a ++ AS b := List.filterMap_append
theorem BN_app (a b : List T) : BN (a ++ b) = BN a + BN b := List.countP_append
theorem got_eq (C : Int → Bool) (t : T) : got C t = if t.k = 5 then gotL C t.l else if t.k = 4 ∧ C t.n = true then gotL C t.l else [t] := by cases t; rfl
theorem got_row {C : Int → Bool} {t : T} (h : t.k = 5) : got C t = gotL C t.l := by rw [got_eq, if_pos h]
theorem got_open {C : Int → Bool} {t : T} (h : t.k = 4) (hc : C t.n = true) : got C t = gotL C t.l := by rw [got_eq, if_neg (by omega), if_pos ⟨h, hc⟩]
theorem got_shut {C : Int → Bool} {t : T} (h : t.k = 4) (hc : C t.n = false) : got C t = [t] := by rw [got_eq, if_neg (by omega), if_neg (by simp [hc])]
theorem got_plain {C : Int → Bool} {t : T} (h : t.k ≠ 4) (h5 : t.k ≠ 5) : got C t = [t] := by rw [got_eq, if_neg h5, if_neg (fun e => h e.1)]
theorem KS_one_key {t : T} (h : t.k = 3) : KS [t] = [t.n] := by simp [KS, h]
theorem KS_one_no {t : T} (h : t.k ≠ 3) : KS [t] = [] := by simp [KS, h]
theorem AS_one_atom {t : T} (h : t.k = 2) : AS [t] = [bn t.s] := by simp [AS, h]
theorem AS_one_no {t : T} (h : t.k ≠ 2) : AS [t] = [] := by simp [AS, h]
theorem BN_one_box {t : T} (h : t.k = 4) : BN [t] = 1 := by simp [BN, h]
theorem BN_one_no {t : T} (h : t.k ≠ 4) : BN [t] = 0 := by simp [BN, h]

/-- the boxes that wait, under their keys -/
abbrev Wt := List (Int × List T)
def SG (C : Int → Bool) (S : Wt) : List T := S.flatMap fun p => if C p.1 then gotL C p.2 else []
def SN (C : Int → Bool) (S : Wt) : Nat := (S.map fun p => if C p.1 then 0 else p.2.length).sum
/-- the keys that are asked for are there -/
def Cl (C : Int → Bool) (P : List T) : Prop := ∀ n ∈ KS (gotL C P), C n = true

/-- of the pieces P: keys K and atoms A have come, S waits, D is still to be gone through -/
structure Inv (P : List T) (K : List Int) (A : List (List UInt8)) (S : Wt) (D : List T) : Prop where
  cl : ∀ C, Cl C P ↔ (∀ n ∈ K, C n = true) ∧ (∀ n ∈ KS (gotL C D), C n = true) ∧ ∀ n ∈ KS (SG C S), C n = true
  at_ : ∀ C, Cl C P → ∀ a, a ∈ AS (gotL C P) ↔ a ∈ A ∨ a ∈ AS (gotL C D) ∨ a ∈ AS (SG C S)
  bx : ∀ C, Cl C P → BN (gotL C P) = BN (gotL C D) + BN (SG C S) + SN C S
  apart : ∀ p ∈ S, p.1 ∉ K

theorem Inv.start : Inv [] [] [] [] [] := ⟨fun C => by simp [Cl, gotL, KS, SG], fun C _ a => by simp [gotL, AS, SG], fun C _ => by simp [gotL, BN, SG, SN], fun p h => by cases h⟩
theorem Inv.piece {P : List T} {K : List Int} {A : List (List UInt8)} {S : Wt} {D : List T} (h : Inv P K A S D) (t : T) : Inv (P ++ [t]) K A S (D ++ [t]) := by
  have e : ∀ C, Cl C (P ++ [t]) ↔ Cl C P ∧ ∀ n ∈ KS (got C t), C n = true := fun C => by
    unfold Cl
    rw [gotL_app, gotL_one, KS_app]
    simp only [List.mem_append]
    exact ⟨fun h => ⟨fun n hn => h n (.inl hn), fun n hn => h n (.inr hn)⟩, fun h n hn => hn.elim (h.1 n) (h.2 n)⟩
  refine ⟨fun C => ?_, fun C hC a => ?_, fun C hC => ?_, h.apart⟩
  · rw [e, h.cl C, gotL_app, gotL_one, KS_app]
    simp only [List.mem_append]
    exact ⟨fun ⟨⟨a, b, c⟩, d⟩ => ⟨a, fun n hn => hn.elim (b n) (d n), c⟩, fun ⟨a, b, c⟩ => ⟨⟨a, fun n hn => b n (.inl hn), c⟩, fun n hn => b n (.inr hn)⟩⟩
  · rw [gotL_app, gotL_one, AS_app, gotL_app, gotL_one, AS_app, List.mem_append, List.mem_append, h.at_ C ((e C).1 hC).1]
    constructor
    · rintro ((h | h | h) | h) <;> simp [h]
    · rintro (h | (h | h) | h) <;> simp [h]
  · rw [gotL_app, gotL_one, BN_app, gotL_app, gotL_one, BN_app, h.bx C ((e C).1 hC).1]
    omega

/-- what is to be gone through is turned, and keys and atoms with it -/
theorem Inv.turn {P : List T} {K K' : List Int} {A A' : List (List UInt8)} {S S' : Wt} {D D' : List T} (h : Inv P K A S D) (ha : ∀ p ∈ S', p.1 ∉ K')
    (h1 : ∀ C, ((∀ n ∈ K, C n = true) ∧ (∀ n ∈ KS (gotL C D), C n = true) ∧ ∀ n ∈ KS (SG C S), C n = true) ↔ ((∀ n ∈ K', C n = true) ∧ (∀ n ∈ KS (gotL C D'), C n = true) ∧ ∀ n ∈ KS (SG C S'), C n = true))
    (h2 : ∀ C, (∀ n ∈ K, C n = true) → (∀ n ∈ KS (gotL C D), C n = true) → ∀ a, (a ∈ A ∨ a ∈ AS (gotL C D) ∨ a ∈ AS (SG C S)) ↔ (a ∈ A' ∨ a ∈ AS (gotL C D') ∨ a ∈ AS (SG C S')))
    (h3 : ∀ C, (∀ n ∈ K, C n = true) → (∀ n ∈ KS (gotL C D), C n = true) → BN (gotL C D) + BN (SG C S) + SN C S = BN (gotL C D') + BN (SG C S') + SN C S') : Inv P K' A' S' D' :=
  ⟨fun C => (h.cl C).trans (h1 C), fun C hC a => (h.at_ C hC a).trans (h2 C ((h.cl C).1 hC).1 ((h.cl C).1 hC).2.1 a), fun C hC => (h.bx C hC).trans (h3 C ((h.cl C).1 hC).1 ((h.cl C).1 hC).2.1), ha⟩

section
variable {P : List T} {K K' : List Int} {A A' : List (List UInt8)} {S : Wt} {D R : List T} {t : T}
theorem Inv.num (h : Inv P K A S (D ++ t :: R)) (h1 : t.k ≠ 2) (h2 : t.k ≠ 3) (h3 : t.k ≠ 4) (h4 : t.k ≠ 5) : Inv P K A S (D ++ R) := by
  have e : ∀ C, gotL C (D ++ t :: R) = gotL C D ++ ([t] ++ gotL C R) := fun C => by rw [gotL_app, gotL, got_plain h3 h4]
  refine h.turn h.apart (fun C => ?_) (fun C _ _ a => ?_) (fun C _ _ => ?_)
  · rw [e, gotL_app, KS_app, KS_app, KS_app, KS_one_no h2]; rfl
  · rw [e, gotL_app, AS_app, AS_app, AS_app, AS_one_no h1]; rfl
  · rw [e, gotL_app, BN_app, BN_app, BN_app, BN_one_no h3, Nat.zero_add]
theorem Inv.atom (h : Inv P K A S (D ++ t :: R)) (h1 : t.k = 2) (hA : ∀ a, a ∈ A' ↔ a = bn t.s ∨ a ∈ A) : Inv P K A' S (D ++ R) := by
  have e : ∀ C, gotL C (D ++ t :: R) = gotL C D ++ ([t] ++ gotL C R) := fun C => by rw [gotL_app, gotL, got_plain (by omega) (by omega)]
  refine h.turn h.apart (fun C => ?_) (fun C _ _ a => ?_) (fun C _ _ => ?_)
  · rw [e, gotL_app, KS_app, KS_app, KS_app, KS_one_no (by omega)]; rfl
  · rw [e, gotL_app, AS_app, AS_app, AS_app, AS_one_atom h1, hA]
    simp only [List.mem_append, List.mem_singleton]
    constructor
    · rintro (h | (h | h | h) | h) <;> simp [h]
    · rintro ((h | h) | (h | h) | h) <;> simp [h]
  · rw [e, gotL_app, BN_app, BN_app, BN_app, BN_one_no (by omega), Nat.zero_add]
theorem Inv.row (h : Inv P K A S (D ++ t :: R)) (h1 : t.k = 5) : Inv P K A S (D ++ (t.l ++ R)) := by
  have e : ∀ C, gotL C (D ++ t :: R) = gotL C (D ++ (t.l ++ R)) := fun C => by rw [gotL_app, gotL, got_row h1, gotL_app, gotL_app]
  exact h.turn h.apart (fun C => by rw [e]) (fun C _ _ a => by rw [e]) (fun C _ _ => by rw [e])
theorem Inv.opened (h : Inv P K A S (D ++ t :: R)) (h1 : t.k = 4) (hK : t.n ∈ K) : Inv P K A S (D ++ (t.l ++ R)) := by
  have e : ∀ C, (∀ n ∈ K, C n = true) → gotL C (D ++ t :: R) = gotL C (D ++ (t.l ++ R)) := fun C hC => by rw [gotL_app, gotL, got_open h1 (hC _ hK), gotL_app, gotL_app]
  refine h.turn h.apart (fun C => ⟨fun ⟨a, b, c⟩ => ⟨a, by rwa [← e C a], c⟩, fun ⟨a, b, c⟩ => ⟨a, by rwa [e C a], c⟩⟩) (fun C hC _ a => by rw [e C hC]) (fun C hC _ => by rw [e C hC])
/-- a key: what waited for it is to be gone through -/
theorem Inv.key {S' : Wt} {D' W : List T} (h : Inv P K A S (D ++ t :: R)) (h1 : t.k = 3) (hK : ∀ n, n ∈ K' ↔ n = t.n ∨ n ∈ K) (hS' : ∀ p ∈ S', p.1 ≠ t.n ∧ p ∈ S)
    (hD : ∀ C, gotL C D' = gotL C (D ++ R) ++ gotL C W) (hS : ∀ C, C t.n = true → (∀ x, x ∈ SG C S ↔ x ∈ gotL C W ∨ x ∈ SG C S') ∧ BN (SG C S) = BN (gotL C W) + BN (SG C S') ∧ SN C S = SN C S') : Inv P K' A S' D' := by
  have e : ∀ C, gotL C (D ++ t :: R) = gotL C D ++ ([t] ++ gotL C R) := fun C => by rw [gotL_app, gotL, got_plain (by omega) (by omega)]
  have hm : ∀ C, C t.n = true → (∀ n, n ∈ KS (SG C S) ↔ n ∈ KS (gotL C W) ∨ n ∈ KS (SG C S')) ∧ ∀ a, a ∈ AS (SG C S) ↔ a ∈ AS (gotL C W) ∨ a ∈ AS (SG C S') := fun C hC => by
    have h3 := (hS C hC).1
    constructor
    · intro n
      simp only [KS, List.mem_filterMap, h3]
      exact ⟨fun ⟨x, h, e⟩ => h.imp (fun h => ⟨x, h, e⟩) (fun h => ⟨x, h, e⟩), fun h => h.elim (fun ⟨x, h, e⟩ => ⟨x, .inl h, e⟩) (fun ⟨x, h, e⟩ => ⟨x, .inr h, e⟩)⟩
    · intro n
      simp only [AS, List.mem_filterMap, h3]
      exact ⟨fun ⟨x, h, e⟩ => h.imp (fun h => ⟨x, h, e⟩) (fun h => ⟨x, h, e⟩), fun h => h.elim (fun ⟨x, h, e⟩ => ⟨x, .inl h, e⟩) (fun ⟨x, h, e⟩ => ⟨x, .inr h, e⟩)⟩
  have hc : ∀ C, (∀ n ∈ KS (gotL C (D ++ t :: R)), C n = true) → C t.n = true := fun C h => h _ (by rw [e, KS_app, KS_app, KS_one_key h1]; simp)
  refine h.turn (fun p hp => ?_) (fun C => ?_) (fun C _ h' a => ?_) (fun C _ h' => ?_)
  · have := hS' p hp
    rw [hK]
    rintro (e | e)
    · exact this.1 e
    · exact h.apart p this.2 e
  · constructor
    · rintro ⟨a, b, c⟩
      have hn := hc C b
      rw [e, KS_app, KS_app] at b
      refine ⟨fun n hn' => ((hK n).1 hn').elim (fun e => e ▸ hn) (a n), fun n hn' => ?_, fun n hn' => c n (((hm C hn).1 n).2 (.inr hn'))⟩
      rw [hD, KS_app, gotL_app, KS_app] at hn'
      simp only [List.mem_append] at hn' b
      rcases hn' with (h | h) | h
      · exact b n (.inl h)
      · exact b n (.inr (.inr h))
      · exact c n (((hm C hn).1 n).2 (.inl h))
    · rintro ⟨a, b, c⟩
      have hn := a t.n ((hK _).2 (.inl rfl))
      rw [hD, KS_app, gotL_app, KS_app] at b
      simp only [List.mem_append] at b
      refine ⟨fun n hn' => a n ((hK n).2 (.inr hn')), fun n hn' => ?_, fun n hn' => (((hm C hn).1 n).1 hn').elim (fun h => b n (.inr h)) (c n)⟩
      rw [e, KS_app, KS_app, KS_one_key h1] at hn'
      simp only [List.mem_append, List.mem_singleton] at hn'
      rcases hn' with h | h | h
      · exact b n (.inl (.inl h))
      · exact h ▸ hn
      · exact b n (.inl (.inr h))
  · rw [(hm C (hc C h')).2, e, AS_app, AS_app, AS_one_no (by omega), hD, AS_app, gotL_app, AS_app]
    simp only [List.mem_append, List.nil_append]
    constructor
    · rintro (h | (h | h) | h | h) <;> simp [h]
    · rintro (h | ((h | h) | h) | h) <;> simp [h]
  · obtain ⟨_, h4, h5⟩ := hS C (hc C h')
    rw [h4, h5, e, BN_app, BN_app, BN_one_no (by omega), hD, BN_app, gotL_app, BN_app]
    omega
/-- a box whose key is not there waits -/
theorem Inv.wait {S' : Wt} (h : Inv P K A S (D ++ t :: R)) (h1 : t.k = 4) (hl : t.l.length = 1) (ha : ∀ p ∈ S', p.1 ∉ K)
    (hS : ∀ C, (C t.n = true → (∀ x, x ∈ SG C S' ↔ x ∈ gotL C t.l ∨ x ∈ SG C S) ∧ BN (SG C S') = BN (gotL C t.l) + BN (SG C S) ∧ SN C S' = SN C S) ∧ (C t.n = false → SG C S' = SG C S ∧ SN C S' = SN C S + t.l.length)) : Inv P K A S' (D ++ R) := by
  have hm : ∀ C, C t.n = true → (∀ n, n ∈ KS (SG C S') ↔ n ∈ KS (gotL C t.l) ∨ n ∈ KS (SG C S)) ∧ ∀ a, a ∈ AS (SG C S') ↔ a ∈ AS (gotL C t.l) ∨ a ∈ AS (SG C S) := fun C hC => by
    have h3 := ((hS C).1 hC).1
    constructor
    · intro n
      simp only [KS, List.mem_filterMap, h3]
      exact ⟨fun ⟨x, h, e⟩ => h.imp (fun h => ⟨x, h, e⟩) (fun h => ⟨x, h, e⟩), fun h => h.elim (fun ⟨x, h, e⟩ => ⟨x, .inl h, e⟩) (fun ⟨x, h, e⟩ => ⟨x, .inr h, e⟩)⟩
    · intro n
      simp only [AS, List.mem_filterMap, h3]
      exact ⟨fun ⟨x, h, e⟩ => h.imp (fun h => ⟨x, h, e⟩) (fun h => ⟨x, h, e⟩), fun h => h.elim (fun ⟨x, h, e⟩ => ⟨x, .inl h, e⟩) (fun ⟨x, h, e⟩ => ⟨x, .inr h, e⟩)⟩
  refine h.turn ha (fun C => ?_) (fun C _ _ a => ?_) (fun C _ _ => ?_)
  · cases hc : C t.n with
    | true =>
      rw [gotL_app, gotL, got_open h1 hc, gotL_app, KS_app, KS_app, KS_app]
      simp only [List.mem_append, (hm C hc).1]
      exact ⟨fun ⟨a, b, c⟩ => ⟨a, fun n h => h.elim (fun h => b n (.inl h)) (fun h => b n (.inr (.inr h))), fun n h => h.elim (fun h => b n (.inr (.inl h))) (c n)⟩,
        fun ⟨a, b, c⟩ => ⟨a, fun n h => h.elim (fun h => b n (.inl h)) (fun h => h.elim (fun h => c n (.inl h)) (fun h => b n (.inr h))), fun n h => c n (.inr h)⟩⟩
    | false =>
      rw [gotL_app, gotL, got_shut h1 hc, gotL_app, KS_app, KS_app, KS_app, KS_one_no (by omega), ((hS C).2 hc).1]; rfl
  · cases hc : C t.n with
    | true =>
      rw [gotL_app, gotL, got_open h1 hc, gotL_app, AS_app, AS_app, AS_app, (hm C hc).2]
      simp only [List.mem_append]
      constructor
      · rintro (h | (h | h | h) | h) <;> simp [h]
      · rintro (h | (h | h) | h | h) <;> simp [h]
    | false =>
      rw [gotL_app, gotL, got_shut h1 hc, gotL_app, AS_app, AS_app, AS_app, AS_one_no (by omega), ((hS C).2 hc).1]; rfl
  · cases hc : C t.n with
    | true =>
      obtain ⟨_, h4, h5⟩ := (hS C).1 hc
      rw [gotL_app, gotL, got_open h1 hc, gotL_app, BN_app, BN_app, BN_app, h4, h5]
      omega
    | false =>
      obtain ⟨h4, h5⟩ := (hS C).2 hc
      rw [gotL_app, gotL, got_shut h1 hc, gotL_app, BN_app, BN_app, BN_app, BN_one_box h1, h4, h5, hl]
      omega
end

/-- the keys that are there, as a test -/
def isK (K : List Int) (n : Int) : Bool := decide (n ∈ K)
theorem isK_iff {K : List Int} {n : Int} : isK K n = true ↔ n ∈ K := by simp [isK]
/-- what can be got at from P: keys K, atoms A, and m boxes stay shut -/
structure Loot (P : List T) (K : List Int) (A : List (List UInt8)) (m : Nat) : Prop where
  cl : Cl (isK K) P
  least : ∀ C, Cl C P → ∀ n ∈ K, C n = true
  at_ : ∀ a, a ∈ A ↔ a ∈ AS (gotL (isK K) P)
  bx : m = BN (gotL (isK K) P)

theorem SG_none {C : Int → Bool} : ∀ {S : Wt}, (∀ p ∈ S, C p.1 = false) → SG C S = [] ∧ SN C S = (S.map fun p => p.2.length).sum
  | [], _ => ⟨rfl, rfl⟩
  | p :: S, h => by
    obtain ⟨h1, h2⟩ := SG_none (S := S) fun q hq => h q (List.mem_cons_of_mem _ hq)
    have h3 := h p List.mem_cons_self
    unfold SG at h1 ⊢
    unfold SN at h2 ⊢
    constructor
    · rw [List.flatMap_cons, h1, h3]; rfl
    · rw [List.map_cons, List.sum_cons, h2, h3, List.map_cons, List.sum_cons]; rfl
/-- all is gone through: keys of what waits are none of what came -/
theorem Inv.done {P : List T} {K : List Int} {A : List (List UInt8)} {S : Wt} (h : Inv P K A S []) : Loot P K A (S.map fun p => p.2.length).sum := by
  obtain ⟨h1, h2⟩ := SG_none (C := isK K) (S := S) fun p hp => by
    cases hq : isK K p.1 with
    | false => rfl
    | true => exact absurd (isK_iff.1 hq) (h.apart p hp)
  have hc : Cl (isK K) P := (h.cl _).2 ⟨fun n hn => isK_iff.2 hn, by simp [gotL, KS], by rw [h1]; simp [KS]⟩
  refine ⟨hc, fun C hC => ((h.cl C).1 hC).1, fun a => ?_, ?_⟩
  · rw [h.at_ _ hc, h1]; simp [gotL, AS]
  · rw [h.bx _ hc, h1, h2]; simp [gotL, BN]
/-- all that is left are boxes whose keys are not there -/
theorem Inv.left {P : List T} {K : List Int} {A : List (List UInt8)} {D : List T} (h : Inv P K A [] D) (hD : ∀ t ∈ D, t.k = 4 ∧ t.n ∉ K) : Loot P K A D.length := by
  have hg : ∀ D : List T, (∀ t ∈ D, t.k = 4 ∧ t.n ∉ K) → gotL (isK K) D = D ∧ KS D = [] ∧ AS D = [] ∧ BN D = D.length := by
    intro D hD
    induction D with
    | nil => exact ⟨rfl, rfl, rfl, rfl⟩
    | cons t r ih =>
      obtain ⟨i1, i2, i3, i4⟩ := ih fun x hx => hD x (List.mem_cons_of_mem _ hx)
      obtain ⟨a, b⟩ := hD t List.mem_cons_self
      have e : isK K t.n = false := by cases hq : isK K t.n with | false => rfl | true => exact absurd (isK_iff.1 hq) b
      refine ⟨by rw [gotL, got_shut a e, i1]; rfl, ?_, ?_, ?_⟩
      · rw [← List.singleton_append, KS_app, i2, KS_one_no (by omega)]; rfl
      · rw [← List.singleton_append, AS_app, i3, AS_one_no (by omega)]; rfl
      · rw [← List.singleton_append, BN_app, i4, BN_one_box a, List.length_append]; rfl
  obtain ⟨g1, g2, g3, g4⟩ := hg D hD
  have hc : Cl (isK K) P := (h.cl _).2 ⟨fun n hn => isK_iff.2 hn, by rw [g1, g2]; simp, by simp [SG, KS]⟩
  refine ⟨hc, fun C hC => ((h.cl C).1 hC).1, fun a => ?_, ?_⟩
  · rw [h.at_ _ hc, g1, g3]; simp [SG, AS]
  · rw [h.bx _ hc, g1, g4]; simp [SG, BN, SN]
theorem got_congr {C C' : Int → Bool} (h : ∀ n, C n = C' n) (P : List T) : gotL C P = gotL C' P := by
  rw [show C = C' from funext h]
/-- there is one such -/
theorem Loot.keys {P : List T} {K K' : List Int} {A A' : List (List UInt8)} {m m' : Nat} (h : Loot P K A m) (h' : Loot P K' A' m') : ∀ n, n ∈ K ↔ n ∈ K' :=
  fun n => ⟨fun hn => isK_iff.1 (h.least _ h'.cl n hn), fun hn => isK_iff.1 (h'.least _ h.cl n hn)⟩
theorem Loot.same {P : List T} {K K' : List Int} {A A' : List (List UInt8)} {m m' : Nat} (h : Loot P K A m) (h' : Loot P K' A' m') : (∀ n, n ∈ K ↔ n ∈ K') ∧ (∀ a, a ∈ A ↔ a ∈ A') ∧ m = m' := by
  have hk := h.keys h'
  have e : gotL (isK K) P = gotL (isK K') P := got_congr (fun n => by unfold isK; exact decide_eq_decide.2 (hk n)) P
  exact ⟨hk, fun a => by rw [h.at_, h'.at_, e], by rw [h.bx, h'.bx, e]⟩
end Go.Proofs.Ytjlglfjikfpboaa.thiefs

/- Terms by blocks: what is read within a set of blocks; rows of terms of a call's own; append of a whole list. -/

namespace Go.Proofs.Ytjlglfjikfpboaa.thiefs
set_option linter.unusedVariables false
set_option linter.unusedSimpArgs false
open Go.RowKit Go.Proofs.Ytjlglfjikfpboaa.base Go.Proofs.Ytjlglfjikfpboaa.tm Go.Proofs.Ytjlglfjikfpboaa.lies Go.Proofs.Ytjlglfjikfpboaa.copies Go.Proofs.Ytjlglfjikfpboaa.reads

def Agree (w w' : World) (F : Nat → Prop) : Prop := ∀ g, F g → w'.heap[g]? = w.heap[g]?
section
variable {w w' w2 : World} {F G S : Nat → Prop} {A Q : Option Addr} {xs : List Value} {B : Nat}
theorem Agree.cell (h : Agree w w' F) {p : Addr} (hp : F p.block) : w'.cell? p = w.cell? p := World.cell?_of_block (h _ hp)
theorem Agree.trans (h : Agree w w' F) (k : Agree w' w2 F) : Agree w w2 F := fun g hg => (k g hg).trans (h g hg)
theorem Agree.mono (h : Agree w w' F) (hG : ∀ g, G g → F g) : Agree w w' G := fun g hg => h g (hG g hg)
theorem Agree.of_below (hb : Below B w w') (hF : ∀ g, F g → g < B) : Agree w w' F := fun g hg => hb.block g (hF g hg)
theorem Agree.refl (w : World) (F : Nat → Prop) : Agree w w F := fun _ _ => rfl

/-- a list's cells, within the blocks F -/
def RdF (w : World) (F : Nat → Prop) (A : Option Addr) (xs : List Value) : Prop :=
  ∀ j u, xs[j]? = some u → ∃ b off, A = some ⟨b, off, none⟩ ∧ F b ∧ w.cell? ⟨b, off + j, none⟩ = some u
theorem RdF.nil (w : World) (F : Nat → Prop) (A : Option Addr) : RdF w F A [] := fun j u h => by simp at h
theorem RdF.agree (h : RdF w F A xs) (hk : Agree w w' F) : RdF w' F A xs := fun j u hj => by
  obtain ⟨b, off, e, hb, hc⟩ := h j u hj
  exact ⟨b, off, e, hb, (hk.cell (p := ⟨b, off + j, none⟩) hb).trans hc⟩
theorem RdF.mono (h : RdF w F A xs) (hG : ∀ g, F g → G g) : RdF w G A xs := fun j u hj => by
  obtain ⟨b, off, e, hb, hc⟩ := h j u hj
  exact ⟨b, off, e, hG b hb, hc⟩
theorem RdF.rd (h : RdF w F A xs) : Rd w w.heap.size A xs := fun j u hj => by
  obtain ⟨b, off, e, hb, hc⟩ := h j u hj
  exact ⟨b, off, e, World.block_lt_of_cell? w _ hc, hc⟩
theorem RdF.of_rd (h : Rd w B A xs) : RdF w (fun g => g < B) A xs := h

/-- a row of the call's own, as cells within its block -/
theorem row_rdF {e : TypeId} {k n lo : Nat} {v : Value} (h : w.ownsRow lo e k v n xs) : ∃ A c, v = .slice A n c ∧ n ≤ c ∧ (A = none → c = 0) ∧ RdF w (fun g => v.ownBlock = some g) A xs := by
  obtain ⟨hx, h1⟩ := h
  rcases h1 with ⟨rfl, hn⟩ | ⟨g, cap, cur, rfl, hg, hb, hc, _, hs, ht⟩
  · subst hn
    obtain rfl := List.eq_nil_of_length_eq_zero (show xs.length = 0 by omega)
    exact ⟨none, 0, rfl, Nat.le_refl _, fun _ => rfl, RdF.nil _ _ _⟩
  · refine ⟨_, cap, rfl, hc, (fun e => by cases e), fun j u hj => ⟨g, 0, rfl, rfl, ?_⟩⟩
    rw [Nat.zero_add, Blk.cell (t := e) (cs := cur) hb]
    rw [← ht, List.getElem?_take] at hj
    split at hj
    · simpa using hj
    · cases hj
theorem ownsRow_agree {e : TypeId} {k n lo : Nat} {v : Value} (h : w.ownsRow lo e k v n xs) (hk : ∀ g, v.ownBlock = some g → w'.heap[g]? = w.heap[g]?) : w'.ownsRow lo e k v n xs := by
  obtain ⟨hx, h1⟩ := h
  refine ⟨hx, ?_⟩
  rcases h1 with h1 | ⟨g, cap, cur, rfl, hg, hb, hr⟩
  · exact .inl h1
  · exact .inr ⟨g, cap, cur, rfl, hg, (hk g rfl).trans hb, hr⟩
theorem ownsRow_base {e : TypeId} {k n lo lo' : Nat} {v : Value} (h : w.ownsRow lo e k v n xs) (hk : ∀ g, v.ownBlock = some g → lo' ≤ g) : w.ownsRow lo' e k v n xs := by
  obtain ⟨hx, h1⟩ := h
  refine ⟨hx, ?_⟩
  rcases h1 with h1 | ⟨g, cap, cur, rfl, hg, hb, hr⟩
  · exact .inl h1
  · exact .inr ⟨g, cap, cur, rfl, hk g rfl, hb, hr⟩

theorem row_below {e : TypeId} {k n lo : Nat} {v : Value} (h : w.ownsRow lo e k v n xs) (hb : Below w.heap.size w w') : w'.ownsRow lo e k v n xs := ownsRow_agree h fun g hg => hb.block g (h.lt g hg).2

/-- but for the blocks S all that was there is as it was -/
structure Keep (S : Nat → Prop) (w w' : World) : Prop where
  os : w'.os = w.os
  tape : w'.tape = w.tape
  output : w'.output = w.output
  size : w.heap.size ≤ w'.heap.size
  block : ∀ k, k < w.heap.size → ¬ S k → w'.heap[k]? = w.heap[k]?
theorem Keep.refl (S : Nat → Prop) (w : World) : Keep S w w := ⟨rfl, rfl, rfl, Nat.le_refl _, fun _ _ _ => rfl⟩
theorem Keep.of_below (hb : Below w.heap.size w w') : Keep S w w' := ⟨hb.os, hb.tape, hb.output, hb.size, fun k hk _ => hb.block k hk⟩
theorem Keep.trans {S1 : Nat → Prop} (h : Keep S w w') (k : Keep S1 w' w2) (hS : ∀ g, S1 g → g < w.heap.size → S g) : Keep S w w2 :=
  ⟨k.os.trans h.os, k.tape.trans h.tape, k.output.trans h.output, Nat.le_trans h.size k.size, fun g hg hn => (k.block g (Nat.lt_of_lt_of_le hg h.size) (fun h1 => hn (hS g h1 hg))).trans (h.block g hg hn)⟩
theorem Keep.seq (h : Keep S w w') (hb : Below w'.heap.size w' w2) : Keep S w w2 := h.trans (S1 := S) (Keep.of_below hb) (fun _ h _ => h)
theorem Keep.below (h : Keep S w w') (hS : ∀ g, S g → B ≤ g) (hB : B ≤ w.heap.size) : Below B w w' := ⟨h.os, h.tape, h.output, h.size, fun k hk => h.block k (by omega) (fun hs => by have := hS k hs; omega)⟩
theorem Keep.agree (h : Keep S w w') (hF : ∀ g, F g → g < w.heap.size ∧ ¬ S g) : Agree w w' F := fun g hg => h.block g (hF g hg).1 (hF g hg).2
theorem Keep.mono (h : Keep S w w') (hS : ∀ g, S g → g < w.heap.size → G g) : Keep G w w' := ⟨h.os, h.tape, h.output, h.size, fun k hk hn => h.block k hk (fun hs => hn (hS k hs hk))⟩
theorem Keep.cell (h : Keep S w w') {p : Addr} (hp : p.block < w.heap.size) (hn : ¬ S p.block) : w'.cell? p = w.cell? p := World.cell?_of_block (h.block _ hp hn)
theorem Keep.blk (h : Keep S w w') {g : Nat} {t : TypeId} {cs : Array Value} (hb : Blk w g t cs) (hn : ¬ S g) : Blk w' g t cs := (h.block g hb.lt hn).trans hb

end

section
variable {P : Program}
/-- append of a whole list to a row of the call's own -/
theorem run_bulk {e tS ty : TypeId} {i0 : TypeInfo} {z : Value} {size bytes : Nat} (hun : P.underlying tS = some (.slice e)) (hi0 : P.info? e = some i0) (hz0 : i0.zero = some z) (hz1 : i0.size = size) (hz2 : i0.bytes = bytes) (hzs : z.cells.size = size) (hsz : 0 < size)
    {w : World} {v : Value} {n : Nat} {xs : List Value} (hown : w.ownsRow 0 e size v n xs) {B : Nat} {A : Option Addr} {m c : Nat} {ys : List Value} (hy : ys.length = m * size) (hr : Rd w B A ys) (hA : A = none → m = 0) (hmc : m ≤ c) (h1 : ∀ u ∈ ys, u.oneCell' = true)
    (hlen : (n + m) * bytes ≤ 140737488355328) (hmax : n + m ≤ maxLen) :
    ∃ v' w', (Builtin.append_ #[tS, tS] ty #[v, .slice A m c]).run P w = .ok v' w' ∧ w'.ownsRow 0 e size v' (n + m) (xs ++ ys) ∧ Keep (fun g => v.ownBlock = some g) w w' ∧ (∀ g, v'.ownBlock = some g → v.ownBlock = some g ∨ (w.heap.size ≤ g ∧ g < w'.heap.size)) := by
  cases A with
  | none =>
    obtain rfl : m = 0 := hA rfl
    obtain rfl : ys = [] := List.eq_nil_of_length_eq_zero (by omega)
    refine ⟨v, w, ?_, by simpa using hown, Keep.refl _ _, fun g hg => .inl hg⟩
    rcases hown.2 with ⟨rfl, rfl⟩ | ⟨g, cap, cur, rfl, _, _, hnc, _⟩
    · simp [Builtin.append_, run_underlying hun, sizeOf, typeInfo, hi0, Builtin.lenOf, Builtin.firstCells]
    · simp [Builtin.append_, run_underlying hun, sizeOf, typeInfo, hi0, Builtin.lenOf, Builtin.firstCells, hnc, storeCells]
  | some ad =>
    have hnews : ∀ j u, ys[j]? = some u → w.cell? (ad.add j) = some u := fun j u hj => by
      obtain ⟨b, off, e, _, hc⟩ := hr j u hj
      cases e
      rw [add_plain]
      exact hc
    obtain ⟨v', w', hrn, ho', hg, _, hat⟩ := run_append_own_at (P := P) w 0 tS ty e i0 z size bytes hun hi0 hz0 hz1 hz2 hzs hsz v n xs hown ad m c ys hy hnews h1 hmax hlen (Nat.zero_le _)
    have hlt := ho'.lt
    refine ⟨v', w', hrn, ho', ⟨hg.os, hg.tape, hg.output, hg.size, fun k hk hn => hg.block k hk (fun e => hn e.symm)⟩, fun g hg' => ?_⟩
    rcases hat with e1 | e1
    · exact .inl (e1 ▸ hg')
    · rw [e1] at hg'
      injection hg' with hg'
      have := hlt g (by rw [e1]; simp; omega)
      exact .inr ⟨by omega, this.2⟩
theorem wp_bulk2 {e tS : TypeId} {i0 : TypeInfo} {z : Value} {size bytes : Nat} (hun : P.underlying tS = some (.slice e)) (hi0 : P.info? e = some i0) (hz0 : i0.zero = some z) (hz1 : i0.size = size) (hz2 : i0.bytes = bytes) (hzs : z.cells.size = size) (hsz : 0 < size)
    {o : Oper} {a : Act} {K : Act → World → Prop} {Q : Exit → Act → World → Prop} (s x : Operand) (ho : o.op = .call { callee := .builtin .append, args := #[s, x], argTypes := #[tS, tS] })
    {w : World} {v : Value} {n : Nat} {xs : List Value} (hown : w.ownsRow 0 e size v n xs) (hs : a.eval s = v) {B : Nat} {A : Option Addr} {m c : Nat} {ys : List Value} (hy : ys.length = m * size) (hr : Rd w B A ys) (hA : A = none → m = 0) (hmc : m ≤ c) (h1 : ∀ u ∈ ys, u.oneCell' = true)
    (hx : a.eval x = .slice A m c) (hlen : (n + m) * bytes ≤ 140737488355328) (hmax : n + m ≤ maxLen)
    (h : ∀ v' w', w'.ownsRow 0 e size v' (n + m) (xs ++ ys) → Keep (fun g => v.ownBlock = some g) w w' → (∀ g, v'.ownBlock = some g → v.ownBlock = some g ∨ (w.heap.size ≤ g ∧ g < w'.heap.size)) → K (a.put o.dst v') w') :
    Oper.wp P o a w K Q := by
  obtain ⟨v', w', hr, h2, h3, h4⟩ := run_bulk (ty := o.type) hun hi0 hz0 hz1 hz2 hzs hsz hown hy hr hA hmc h1 hlen hmax
  unfold Oper.wp execOp
  simp only [ho, resolve, invoke, builtin, Sem.run_bind, Sem.run_pure, Result.andThen_ok, List.map_toArray, List.map_cons, List.map_nil, hs, hx, hr]
  exact h v' w' h2 h3 h4
theorem wpList_bulk {e tS : TypeId} {i0 : TypeInfo} {z : Value} {size bytes : Nat} (hun : P.underlying tS = some (.slice e)) (hi0 : P.info? e = some i0) (hz0 : i0.zero = some z) (hz1 : i0.size = size) (hz2 : i0.bytes = bytes) (hzs : z.cells.size = size) (hsz : 0 < size)
    {ops : Array Oper} {rest : List Oper} {o : Oper} {a : Act} {Q : Exit → Act → World → Prop} (hgd : o.guard = none) (s x : Operand) (ho : o.op = .call { callee := .builtin .append, args := #[s, x], argTypes := #[tS, tS] })
    {w : World} {v : Value} {n : Nat} {xs : List Value} (hown : w.ownsRow 0 e size v n xs) (hs : a.eval s = v) {B : Nat} {A : Option Addr} {m c : Nat} {ys : List Value} (hy : ys.length = m * size) (hr : Rd w B A ys) (hA : A = none → m = 0) (hmc : m ≤ c) (h1 : ∀ u ∈ ys, u.oneCell' = true)
    (hx : a.eval x = .slice A m c) (hlen : (n + m) * bytes ≤ 140737488355328) (hmax : n + m ≤ maxLen)
    (h : ∀ v' w', w'.ownsRow 0 e size v' (n + m) (xs ++ ys) → Keep (fun g => v.ownBlock = some g) w w' → (∀ g, v'.ownBlock = some g → v.ownBlock = some g ∨ (w.heap.size ≤ g ∧ g < w'.heap.size)) → wpList P ops Q rest (a.put o.dst v') w') :
    wpList P ops Q (o :: rest) a w :=
  wpList_plain hgd fun _ hK => wp_bulk2 hun hi0 hz0 hz1 hz2 hzs hsz s x ho hown hs hy hr hA hmc h1 hx hlen hmax fun v' w' h2 h3 h4 => hK _ _ (h v' w' h2 h3 h4)

end

/-! ### terms -/
mutual
/-- the slice v is the list of the term, all its cells in blocks of F -/
def TF (w : World) (F : Nat → Prop) : T → Value → Prop
  | .mk k n s l, v => ∃ A c xs, v = .slice A l.length c ∧ (-9223372036854775808 ≤ k ∧ k ≤ 9223372036854775807) ∧ (0 ≤ n ∧ n < 18446744073709551616) ∧ s.size ≤ maxLen ∧ l.length ≤ c ∧ l.length * 56 ≤ 140737488355328 ∧ RdF w F A xs ∧ TLF w F l xs
/-- the cells xs are the terms l -/
def TLF (w : World) (F : Nat → Prop) : List T → List Value → Prop
  | [], xs => xs = []
  | t :: l, xs => ∃ v ys, xs = T.cells t v ++ ys ∧ TF w F t v ∧ TLF w F l ys
end

section
variable {w w' : World} {F G : Nat → Prop}
mutual
theorem TF.agree (hk : Agree w w' F) : ∀ (t : T) (v : Value), TF w F t v → TF w' F t v
  | .mk k n s l, v, h => by
    obtain ⟨A, c, xs, hv, h1, h2, h3, h4, h5, h6, h7⟩ := h
    exact ⟨A, c, xs, hv, h1, h2, h3, h4, h5, h6.agree hk, TLF.agree hk l xs h7⟩
theorem TLF.agree (hk : Agree w w' F) : ∀ (l : List T) (xs : List Value), TLF w F l xs → TLF w' F l xs
  | [], xs, h => h
  | t :: l, xs, h => by
    obtain ⟨v, ys, hx, h1, h2⟩ := h
    exact ⟨v, ys, hx, TF.agree hk t v h1, TLF.agree hk l ys h2⟩
end
mutual
theorem TF.mono (hk : ∀ g, F g → G g) : ∀ (t : T) (v : Value), TF w F t v → TF w G t v
  | .mk k n s l, v, h => by
    obtain ⟨A, c, xs, hv, h1, h2, h3, h4, h5, h6, h7⟩ := h
    exact ⟨A, c, xs, hv, h1, h2, h3, h4, h5, h6.mono hk, TLF.mono hk l xs h7⟩
theorem TLF.mono (hk : ∀ g, F g → G g) : ∀ (l : List T) (xs : List Value), TLF w F l xs → TLF w G l xs
  | [], xs, h => h
  | t :: l, xs, h => by
    obtain ⟨v, ys, hx, h1, h2⟩ := h
    exact ⟨v, ys, hx, TF.mono hk t v h1, TLF.mono hk l ys h2⟩
end
mutual
theorem TF.lies : ∀ (t : T) (v : Value), TF w F t v → Lies w w.heap.size t v
  | .mk k n s l, v, h => by
    obtain ⟨A, c, xs, hv, h1, h2, h3, h4, h5, h6, h7⟩ := h
    exact ⟨A, c, xs, hv, h1, h2, h3, h4, h5, h6.rd, TLF.lies l xs h7⟩
theorem TLF.lies : ∀ (l : List T) (xs : List Value), TLF w F l xs → LiesL w w.heap.size l xs
  | [], xs, h => h
  | t :: l, xs, h => by
    obtain ⟨v, ys, hx, h1, h2⟩ := h
    exact ⟨v, ys, hx, TF.lies t v h1, TLF.lies l ys h2⟩
end
mutual
theorem TF.of_lies {B : Nat} : ∀ (t : T) (v : Value), Lies w B t v → TF w (fun g => g < B) t v
  | .mk k n s l, v, h => by
    obtain ⟨A, c, xs, hv, h1, h2, h3, h4, h5, h6, h7⟩ := h
    exact ⟨A, c, xs, hv, h1, h2, h3, h4, h5, RdF.of_rd h6, TLF.of_lies l xs h7⟩
theorem TLF.of_lies {B : Nat} : ∀ (l : List T) (xs : List Value), LiesL w B l xs → TLF w (fun g => g < B) l xs
  | [], xs, h => h
  | t :: l, xs, h => by
    obtain ⟨v, ys, hx, h1, h2⟩ := h
    exact ⟨v, ys, hx, TF.of_lies t v h1, TLF.of_lies l ys h2⟩
end
theorem TLF.app : ∀ {l m : List T} {xs ys : List Value}, TLF w F l xs → TLF w F m ys → TLF w F (l ++ m) (xs ++ ys)
  | [], m, xs, ys, h, k => by rw [show xs = [] from h]; exact k
  | t :: l, m, xs, ys, h, k => by
    obtain ⟨v, zs, rfl, h1, h2⟩ := h
    exact ⟨v, zs ++ ys, by simp, h1, TLF.app h2 k⟩
theorem TLF.split : ∀ {l m : List T} {xs : List Value}, TLF w F (l ++ m) xs → ∃ ys zs, xs = ys ++ zs ∧ TLF w F l ys ∧ TLF w F m zs
  | [], m, xs, h => ⟨[], xs, rfl, rfl, h⟩
  | t :: l, m, xs, h => by
    obtain ⟨v, us, rfl, h1, h2⟩ := h
    obtain ⟨ys, zs, rfl, h3, h4⟩ := TLF.split h2
    exact ⟨T.cells t v ++ ys, zs, by simp, ⟨v, ys, rfl, h1, h3⟩, h4⟩
theorem TLF.len {l : List T} {xs : List Value} (h : TLF w F l xs) : xs.length = 4 * l.length := (TLF.lies l xs h).len
theorem TLF.ones : ∀ {l : List T} {xs : List Value}, TLF w F l xs → ∀ u ∈ xs, u.oneCell' = true
  | [], xs, h, u, hu => by rw [show xs = [] from h] at hu; cases hu
  | .mk k n s l0 :: l, xs, h, u, hu => by
    obtain ⟨v, ys, rfl, h1, h2⟩ := h
    obtain ⟨A, c, _, rfl, _⟩ := h1
    rcases List.mem_append.1 hu with hu | hu
    · simp only [T.cells, List.mem_cons, List.not_mem_nil, or_false] at hu
      rcases hu with rfl | rfl | rfl | rfl <;> rfl
    · exact TLF.ones h2 u hu
theorem TF.open_ {t : T} {v : Value} (h : TF w F t v) : ∃ A c xs, v = .slice A t.l.length c ∧ (-9223372036854775808 ≤ t.k ∧ t.k ≤ 9223372036854775807) ∧ (0 ≤ t.n ∧ t.n < 18446744073709551616) ∧ t.s.size ≤ maxLen ∧ t.l.length ≤ c ∧ t.l.length * 56 ≤ 140737488355328 ∧ RdF w F A xs ∧ TLF w F t.l xs := by
  cases t; exact h
theorem TF.mk {t : T} {A : Option Addr} {c : Nat} {xs : List Value} (h1 : -9223372036854775808 ≤ t.k ∧ t.k ≤ 9223372036854775807) (h2 : 0 ≤ t.n ∧ t.n < 18446744073709551616) (h3 : t.s.size ≤ maxLen) (h4 : t.l.length ≤ c) (h5 : t.l.length * 56 ≤ 140737488355328) (h6 : RdF w F A xs) (h7 : TLF w F t.l xs) : TF w F t (.slice A t.l.length c) := by
  cases t; exact ⟨A, c, xs, rfl, h1, h2, h3, h4, h5, h6, h7⟩
/-- the j-th of the terms -/
theorem TLF.at_ : ∀ {l : List T} {xs : List Value}, TLF w F l xs → ∀ {j : Nat} (hj : j < l.length), ∃ v,
    xs[4 * j]? = some (.int .i64 l[j].k) ∧ xs[4 * j + 1]? = some (.int .u64 l[j].n) ∧ xs[4 * j + 2]? = some (.string l[j].s) ∧ xs[4 * j + 3]? = some v ∧ TF w F l[j] v
  | t :: l, xs, h, 0, _ => by
    obtain ⟨v, ys, rfl, h1, _⟩ := h
    exact ⟨v, rfl, rfl, rfl, rfl, h1⟩
  | t :: l, xs, h, j + 1, hj => by
    obtain ⟨v, ys, rfl, _, h2⟩ := h
    obtain ⟨u, e0, e1, e2, e3, e4⟩ := TLF.at_ h2 (j := j) (by simpa using hj)
    have hl : (T.cells t v).length = 4 := rfl
    refine ⟨u, ?_, ?_, ?_, ?_, e4⟩
    all_goals
      rw [List.getElem?_append_right (by rw [hl]; omega), hl]
      first | rw [show 4 * (j + 1) - 4 = 4 * j by omega] | rw [show 4 * (j + 1) + 1 - 4 = 4 * j + 1 by omega] | rw [show 4 * (j + 1) + 2 - 4 = 4 * j + 2 by omega] | rw [show 4 * (j + 1) + 3 - 4 = 4 * j + 3 by omega]
      assumption
/-- the j-th term of a list: its four cells, and where its own list lies -/
theorem tf_cells {H : Nat → Prop} {A : Option Addr} {l : List T} {xs : List Value} (hr : RdF w H A xs) (hl : TLF w F l xs) {j : Nat} (hj : j < l.length) :
    ∃ b off A' c', A = some ⟨b, off, none⟩ ∧ H b ∧ TF w F l[j] (.slice A' l[j].l.length c') ∧ w.cell? ⟨b, off + j * 4, none⟩ = some (.int .i64 l[j].k) ∧ w.cell? ⟨b, off + j * 4 + 1, none⟩ = some (.int .u64 l[j].n) ∧
      w.cell? ⟨b, off + j * 4 + 2, none⟩ = some (.string l[j].s) ∧ w.cell? ⟨b, off + j * 4 + 3, none⟩ = some (.slice A' l[j].l.length c') := by
  obtain ⟨v, e0, e1, e2, e3, hv⟩ := hl.at_ hj
  obtain ⟨A', c', xs', rfl, _⟩ := hv.open_
  obtain ⟨b, off, e, hb, c0⟩ := hr _ _ e0
  refine ⟨b, off, A', c', e, hb, hv, ?_, ?_, ?_, ?_⟩
  · rw [show off + j * 4 = off + 4 * j by omega]; exact c0
  · obtain ⟨b', off', e', _, c1⟩ := hr _ _ e1
    rw [e] at e'; cases e'
    rw [show off + j * 4 + 1 = off + (4 * j + 1) by omega]; exact c1
  · obtain ⟨b', off', e', _, c1⟩ := hr _ _ e2
    rw [e] at e'; cases e'
    rw [show off + j * 4 + 2 = off + (4 * j + 2) by omega]; exact c1
  · obtain ⟨b', off', e', _, c1⟩ := hr _ _ e3
    rw [e] at e'; cases e'
    rw [show off + j * 4 + 3 = off + (4 * j + 3) by omega]; exact c1

/-! ### what is held lies in the blocks that hold it -/
/-- the world with the blocks outside lo .. hi made hollow -/
def hollow (w : World) (lo hi : Nat) : World := { w with heap := w.heap.mapIdx fun i o => if lo ≤ i ∧ i < hi then o else .deferred none }
theorem hollow_cell (w : World) (lo hi : Nat) (p : Addr) : (hollow w lo hi).cell? p = if lo ≤ p.block ∧ p.block < hi then w.cell? p else none := by
  unfold hollow World.cell?
  simp only [Array.getElem?_mapIdx]
  cases h : w.heap[p.block]? with
  | none => simp
  | some o =>
    simp only [Option.map_some]
    by_cases hp : lo ≤ p.block ∧ p.block < hi
    · rw [if_pos hp, if_pos hp]
    · rw [if_neg hp, if_neg hp]
theorem rd_hollow {lo hi B : Nat} {A : Option Addr} {xs : List Value} (h : Rd (hollow w lo hi) B A xs) : RdF w (fun g => lo ≤ g ∧ g < hi) A xs := fun j u hj => by
  obtain ⟨b, off, e, _, hc⟩ := h j u hj
  rw [hollow_cell] at hc
  split at hc
  · rename_i hp; exact ⟨b, off, e, hp, hc⟩
  · cases hc
mutual
theorem lies_hollow {lo hi B : Nat} : ∀ (t : T) (v : Value), Lies (hollow w lo hi) B t v → TF w (fun g => lo ≤ g ∧ g < hi) t v
  | .mk k n s l, v, h => by
    obtain ⟨A, c, xs, hv, h1, h2, h3, h4, h5, h6, h7⟩ := h
    exact ⟨A, c, xs, hv, h1, h2, h3, h4, h5, rd_hollow h6, liesL_hollow l xs h7⟩
theorem liesL_hollow {lo hi B : Nat} : ∀ (l : List T) (xs : List Value), LiesL (hollow w lo hi) B l xs → TLF w (fun g => lo ≤ g ∧ g < hi) l xs
  | [], xs, h => h
  | t :: l, xs, h => by
    obtain ⟨v, ys, hx, h1, h2⟩ := h
    exact ⟨v, ys, hx, lies_hollow t v h1, liesL_hollow l ys h2⟩
end
theorem TF.of_held {lo hi : Nat} {t : T} {v : Value} (h : Held w lo hi t.l v) (hF : Fits t) : TF w (fun g => lo ≤ g ∧ g < hi) t v := by
  obtain ⟨A, c, rfl, hl, hc, h⟩ := h
  obtain ⟨xs, hr, hL⟩ := h (hollow w lo hi) hi (Nat.le_refl _) fun p p1 p2 => by rw [hollow_cell, if_pos ⟨p1, p2⟩]
  exact TF.mk hF.1 hF.2.1 hF.2.2 hl hc (rd_hollow hr) (liesL_hollow _ _ hL)
theorem TF.z (w : World) (F : Nat → Prop) {k n : Int} {s : ByteArray} (h1 : -9223372036854775808 ≤ k ∧ k ≤ 9223372036854775807) (h2 : 0 ≤ n ∧ n < 18446744073709551616) (h3 : s.size ≤ maxLen) : TF w F (.mk k n s []) (.slice none 0 0) :=
  ⟨none, 0, [], rfl, h1, h2, h3, Nat.le_refl _, by simp, RdF.nil _ _ _, rfl⟩

/-! ### rows of terms -/
/-- a row of the call's own with terms, their lists in blocks of F -/
def Trow (w : World) (F : Nat → Prop) (l : List T) (v : Value) : Prop := ∃ xs, w.ownsRow 0 39 4 v l.length xs ∧ TLF w F l xs
theorem Trow.nil (w : World) (F : Nat → Prop) : Trow w F [] (.slice none 0 0) := ⟨[], ⟨rfl, .inl ⟨rfl, rfl⟩⟩, rfl⟩
theorem Trow.agree {l : List T} {v : Value} (h : Trow w F l v) (hk : Agree w w' F) (hv : ∀ g, v.ownBlock = some g → w'.heap[g]? = w.heap[g]?) : Trow w' F l v := by
  obtain ⟨xs, h1, h2⟩ := h
  exact ⟨xs, ownsRow_agree h1 hv, TLF.agree hk l xs h2⟩
theorem Trow.mono {l : List T} {v : Value} (h : Trow w F l v) (hG : ∀ g, F g → G g) : Trow w G l v := by
  obtain ⟨xs, h1, h2⟩ := h
  exact ⟨xs, h1, TLF.mono hG l xs h2⟩
theorem Trow.lt {l : List T} {v : Value} (h : Trow w F l v) : ∀ g, v.ownBlock = some g → g < w.heap.size := by
  obtain ⟨xs, h1, h2⟩ := h
  exact fun g hg => (h1.lt g hg).2
/-- its cells -/
theorem Trow.rd {l : List T} {v : Value} (h : Trow w F l v) : ∃ A c xs, v = .slice A l.length c ∧ l.length ≤ c ∧ (A = none → l.length = 0) ∧ RdF w (fun g => v.ownBlock = some g) A xs ∧ TLF w F l xs := by
  obtain ⟨xs, h1, h2⟩ := h
  obtain ⟨A, c, e, h3, h4, h5⟩ := row_rdF h1
  refine ⟨A, c, xs, e, h3, fun hA => ?_, h5, h2⟩
  have := h4 hA
  omega
/-- the row but for its last terms -/
theorem Trow.cut {l m : List T} {A : Option Addr} {c : Nat} (h : Trow w F (l ++ m) (.slice A (l ++ m).length c)) (hA : A ≠ none) : Trow w F l (.slice A l.length c) := by
  obtain ⟨xs, h1, h2⟩ := h
  obtain ⟨ys, zs, rfl, h3, h4⟩ := h2.split
  obtain ⟨hx, hr⟩ := h1
  rcases hr with ⟨e, _⟩ | ⟨g, cap, cur, e, hg, hb, hc, hm, hs, ht⟩
  · injection e with e1 _ _; exact absurd e1 hA
  · injection e with e1 _ e3; subst e1; subst e3
    refine ⟨ys, ⟨by rw [h3.len]; omega, .inr ⟨g, c, cur, rfl, hg, hb, ?_, hm, hs, ?_⟩⟩, h3⟩
    · rw [List.length_append] at hc; omega
    · have := congrArg (List.take (l.length * 4)) ht
      rw [List.take_take, List.length_append, Nat.min_eq_left (by omega), List.take_left' (by rw [h3.len]; omega)] at this
      exact this
end
theorem infoT : (Try.prog.info? 39).map (fun i => (i.zero, i.size, i.bytes)) = some (some (.agg #[.int .i64 0, .int .u64 0, .string ⟨#[]⟩, .slice none 0 0]), 4, 56) := by kernel_rfl
theorem zT_size : (Value.agg #[.int .i64 0, .int .u64 0, .string ⟨#[]⟩, .slice none 0 0]).cells.size = 4 := rfl
/-- append of terms to a row, at one operation -/
theorem wp_terms {o : Oper} {a : Act} {K : Act → World → Prop} {Q : Exit → Act → World → Prop} (s x : Operand) (ho : o.op = .call { callee := .builtin .append, args := #[s, x], argTypes := #[25, 25] })
    {w : World} {F H : Nat → Prop} {l m : List T} {v : Value} (hown : Trow w F l v) (hs : a.eval s = v) {A : Option Addr} {c : Nat} {ys : List Value} (hr : RdF w H A ys) (hy : TLF w F m ys) (hmc : m.length ≤ c)
    (hx : a.eval x = .slice A m.length c) (hlen : l.length + m.length ≤ 1000000) (hF : ∀ g, v.ownBlock = some g → ¬ F g) (hFl : ∀ g, F g → g < w.heap.size)
    (h : ∀ v' w', Trow w' F (l ++ m) v' → Keep (fun g => v.ownBlock = some g) w w' → (∀ g, v'.ownBlock = some g → v.ownBlock = some g ∨ (w.heap.size ≤ g ∧ g < w'.heap.size)) → K (a.put o.dst v') w') :
    Oper.wp Try.prog o a w K Q := by
  obtain ⟨i0, hi0, hz0, hz1, hz2⟩ := info_parts infoT
  obtain ⟨xs, h1, h2⟩ := hown
  have hyl := hy.len
  refine wp_bulk2 Try.underlying25 hi0 hz0 hz1 hz2 zT_size (by omega) s x ho h1 hs (ys := ys) (m := m.length) (by omega) hr.rd (fun e => ?_) hmc hy.ones hx (by omega) (by unfold maxLen; omega) fun v' w' q1 q2 q3 => ?_
  · cases m with
    | nil => rfl
    | cons t r =>
      obtain ⟨u, hu⟩ : ∃ u, ys[0]? = some u := ⟨_, List.getElem?_eq_getElem (by rw [hyl, List.length_cons]; omega)⟩
      obtain ⟨b, off, e2, _⟩ := hr 0 u hu
      rw [e] at e2; cases e2
  · have hag : Agree w w' F := q2.agree fun g hg => ⟨hFl g hg, fun e => hF g e hg⟩
    exact h v' w' ⟨xs ++ ys, by rw [List.length_append]; exact q1, (TLF.agree hag l xs h2).app (TLF.agree hag m ys hy)⟩ q2 q3

end Go.Proofs.Ytjlglfjikfpboaa.thiefs

/- The three maps of what can be got at: in pure words, and in memory. -/

namespace Go.Proofs.Ytjlglfjikfpboaa.thiefs
set_option linter.unusedVariables false
set_option linter.unusedSimpArgs false
open Go.RowKit Go.Proofs.Ytjlglfjikfpboaa.base Go.Proofs.Ytjlglfjikfpboaa.tm Go.Proofs.Ytjlglfjikfpboaa.lies Go.Proofs.Ytjlglfjikfpboaa.copies Go.Proofs.Ytjlglfjikfpboaa.reads Go.Proofs.Ytjlglfjikfpboaa.texts

/-! ### lists under numbers -/
section
variable {α : Type} (key : α → Int)
def insBy (x : α) : List α → List α
  | [] => [x]
  | y :: r => if key x < key y then x :: y :: r else y :: insBy x r
def delBy (L : List α) (n : Int) : List α := L.filter fun y => decide (key y ≠ n)
def putBy (L : List α) (x : α) : List α := insBy key x (delBy key L (key x))
def Up (L : List α) : Prop := L.Pairwise fun x y => key x < key y
variable {key}
theorem insBy_mem (x y : α) : ∀ L : List α, y ∈ insBy key x L ↔ y = x ∨ y ∈ L
  | [] => by simp [insBy]
  | z :: r => by
    rw [insBy]
    split
    · simp
    · rw [List.mem_cons, insBy_mem x y r, List.mem_cons]
      constructor <;> (rintro (h | h | h) <;> simp [h])
theorem insBy_len (x : α) : ∀ L : List α, (insBy key x L).length = L.length + 1
  | [] => rfl
  | z :: r => by
    rw [insBy]
    split
    · rfl
    · rw [List.length_cons, insBy_len x r, List.length_cons]
theorem insBy_up (x : α) : ∀ L : List α, Up key L → (∀ y ∈ L, key y ≠ key x) → Up key (insBy key x L)
  | [], _, _ => by simp [insBy, Up]
  | z :: r, h, hn => by
    obtain ⟨h1, h2⟩ := List.pairwise_cons.1 h
    rw [insBy]
    split
    · rename_i hl
      refine List.pairwise_cons.2 ⟨fun y hy => ?_, h⟩
      rcases List.mem_cons.1 hy with rfl | hy
      · exact hl
      · have := h1 y hy; omega
    · rename_i hl
      refine List.pairwise_cons.2 ⟨fun y hy => ?_, insBy_up x r h2 fun y hy => hn y (List.mem_cons_of_mem _ hy)⟩
      rcases (insBy_mem x y r).1 hy with rfl | hy
      · have := hn z List.mem_cons_self; omega
      · exact h1 y hy
theorem delBy_up {L : List α} (h : Up key L) (n : Int) : Up key (delBy key L n) := List.Pairwise.filter _ h
theorem delBy_mem {L : List α} {n : Int} {y : α} : y ∈ delBy key L n ↔ y ∈ L ∧ key y ≠ n := by simp [delBy]
theorem putBy_up {L : List α} (h : Up key L) (x : α) : Up key (putBy key L x) := insBy_up x _ (delBy_up h _) fun y hy => (delBy_mem.1 hy).2
theorem putBy_mem {L : List α} {x y : α} : y ∈ putBy key L x ↔ y = x ∨ (y ∈ L ∧ key y ≠ key x) := by rw [putBy, insBy_mem, delBy_mem]
theorem delBy_len (L : List α) (n : Int) : (delBy key L n).length ≤ L.length := List.length_filter_le _ _
theorem putBy_len (L : List α) (x : α) : (putBy key L x).length ≤ L.length + 1 := by rw [putBy, insBy_len]; have := delBy_len (key := key) L (key x); omega
theorem delBy_id {L : List α} {n : Int} (h : ∀ y ∈ L, key y ≠ n) : delBy key L n = L := List.filter_eq_self.2 fun y hy => by simpa using h y hy
/-- what comes of a sum over a list if one under a number is put in, or taken out -/
theorem insBy_sum (f : α → Nat) (x : α) : ∀ L : List α, ((insBy key x L).map f).sum = f x + (L.map f).sum
  | [] => by simp [insBy]
  | z :: r => by
    rw [insBy]
    split
    · simp
    · rw [List.map_cons, List.sum_cons, insBy_sum f x r, List.map_cons, List.sum_cons]; omega
theorem delBy_sum (f : α → Nat) {L : List α} (h : Up key L) {x : α} (hx : x ∈ L) : (L.map f).sum = f x + ((delBy key L (key x)).map f).sum := by
  induction L with
  | nil => cases hx
  | cons z r ih =>
    obtain ⟨h1, h2⟩ := List.pairwise_cons.1 h
    unfold delBy at ih ⊢
    rw [List.filter_cons]
    rcases List.mem_cons.1 hx with rfl | hx
    · rw [if_neg (by simp), List.filter_eq_self.2 (fun y hy => by have := h1 y hy; simp; omega)]; rfl
    · have := h1 x hx
      rw [if_pos (by simp; omega), List.map_cons, List.sum_cons, List.map_cons, List.sum_cons, ih h2 hx]; omega
def lkBy (key : α → Int) (L : List α) (n : Int) : Option α := L.find? fun y => decide (key y = n)
theorem lkBy_some {L : List α} {n : Int} {x : α} (h : lkBy key L n = some x) : x ∈ L ∧ key x = n := ⟨List.mem_of_find?_eq_some h, by simpa using List.find?_some h⟩
theorem lkBy_none {L : List α} {n : Int} (h : lkBy key L n = none) : ∀ y ∈ L, key y ≠ n := fun y hy => by simpa using List.find?_eq_none.1 h y hy
/-- the datum of a map with such keys -/
def DB (key : α → Int) (val : α → DataW Value) (L : List α) : DataW Value := .map (L.map fun x => (Lit.int .u64 (key x), val x))
variable {val : α → DataW Value}
theorem same_u (a b : Int) : (Lit.int .u64 a).sameKey (.int .u64 b) = decide (a = b) := by
  by_cases h : a = b
  · subst h; simp [Lit.sameKey]
  · simp [Lit.sameKey, h]
theorem before_u (a b : Int) : (Lit.int .u64 a).before (.int .u64 b) = decide (a < b) := by simp [Lit.before]
theorem DB_ins (x : α) : ∀ L : List α, DataW.insert (Lit.int .u64 (key x), val x) (L.map fun x => (Lit.int .u64 (key x), val x)) = (insBy key x L).map fun x => (Lit.int .u64 (key x), val x)
  | [] => rfl
  | y :: r => by
    rw [List.map_cons, DataW.insert, insBy]
    simp only [before_u]
    by_cases h : key x < key y
    · rw [if_pos (decide_eq_true h), if_pos h]; rfl
    · rw [if_neg (by simpa using h), if_neg h, List.map_cons, DB_ins x r]
theorem DB_filter (L : List α) (n : Int) : ((L.map fun x => (Lit.int .u64 (key x), val x)).filter fun p => !p.1.sameKey (.int .u64 n)) = (delBy key L n).map fun x => (Lit.int .u64 (key x), val x) := by
  unfold delBy
  rw [List.filter_map]
  congr 1
  refine List.filter_congr fun e _ => ?_
  simp only [Function.comp, same_u]
  by_cases h : key e = n <;> simp [h]
theorem DB_put (L : List α) (x : α) : (DB key val L).put (.int .u64 (key x)) (val x) = DB key val (putBy key L x) := by
  unfold DB DataW.put putBy
  simp only []
  rw [DB_filter, DB_ins]
theorem DB_del (L : List α) (n : Int) : (DB key val L).del (.int .u64 n) = DB key val (delBy key L n) := by
  unfold DB DataW.del
  simp only []
  rw [DB_filter]
theorem DB_has (L : List α) (n : Int) : Maps.has (DB key val L) (.int .u64 n) = (lkBy key L n).isSome := by
  unfold DB lkBy
  rw [Maps.has_eq]
  induction L with
  | nil => rfl
  | cons x r ih =>
    rw [List.map_cons, List.any_cons, ih, List.find?_cons]
    simp only [same_u]
    by_cases h : key x = n <;> simp [h]
theorem DB_at (L : List α) (n : Int) (z : DataW Value) : (DB key val L).atKey (.int .u64 n) z = match lkBy key L n with | some e => val e | none => z := by
  unfold DB DataW.atKey lkBy
  simp only []
  induction L with
  | nil => rfl
  | cons x r ih =>
    rw [List.map_cons, List.find?_cons, List.find?_cons]
    simp only [same_u]
    by_cases h : key x = n
    · simp [h]
    · simp only [decide_eq_false h]; exact ih
theorem DB_size (L : List α) : Maps.size (DB key val L) = L.length := by unfold DB; rw [Maps.size_eq, List.length_map]
end
theorem tightM {H : Type} {P : Program} {k : TypeId} {R : Value → Option (DataW H × List MemPlace)} {w : World} {b n : Nat} {D : DataW H} (h : w.ownsMap P k R b n D) : w.ownsMap P k R b (Maps.size D) D := by
  obtain ⟨es, clock, hb, F, hs, rfl⟩ := h
  exact ⟨es, clock, hb, F, by simp [Maps.size, length_sorted], rfl⟩
theorem own_block {H : Type} {P : Program} {k : TypeId} {R : Value → Option (DataW H × List MemPlace)} {w w' : World} {b n : Nat} {D : DataW H} (h : w.ownsMap P k R b n D) (hb : w'.heap[b]? = w.heap[b]?) : w'.ownsMap P k R b n D := by
  obtain ⟨xs, clock, hb0, F, hs, hD⟩ := h
  exact ⟨xs, clock, hb.trans hb0, F, hs, hD⟩
theorem kU : Maps.Keyed Try.prog 36 := Maps.int_keyed Try.underlying36
theorem kUn {n : Int} (h : 0 ≤ n ∧ n < 18446744073709551616) : keyOf Try.prog 36 (.int .u64 n) = some (.int .u64 n) :=
  Maps.keyOf_int_mk Try.underlying36 (by
    have e1 : IntKind.u64.min = 0 := rfl
    have e2 : IntKind.u64.max = 18446744073709551615 := rfl
    simp [Lit.wf, IntKind.has]; omega)
theorem kSt : Maps.Keyed Try.prog 9 := Maps.string_keyed Try.underlying9
theorem kStn {s : ByteArray} (h : s.size ≤ maxLen) : keyOf Try.prog 9 (.string s) = some (.string (bn s)) := Go.WideMaps.keyOf_string_mk Try.underlying9 h

/-! ### the keys -/
def unitD : Int → DataW Value := fun _ => .agg []
abbrev OwnK (w : World) (mk : Nat) (K : List Int) : Prop := w.ownsMap Try.prog 36 (unitElem (H := Value)) mk K.length (DB id unitD K)
theorem zU (w : World) : (zeroValue 106).run Try.prog w = .ok (.agg #[]) w := by kernel_rfl
section
variable {ops : Array Oper} {rest : List Oper} {o : Oper} {a : Act} {Q : Exit → Act → World → Prop}
theorem wp_putK (w : World) (hg : o.guard = none) (m x v : Operand) (hop : o.op = Op.mapUpdate 105 m x v) {mk : Nat} {K : List Int} (hm : a.eval m = .map (some mk)) (hown : OwnK w mk K) (hn : K.length < maxLen) {n : Int} (hx : a.eval x = .int .u64 n) (hn2 : 0 ≤ n ∧ n < 18446744073709551616) (hv : a.eval v = .agg #[])
    (hK : ∀ w', OwnK w' mk (putBy id K n) → w.grownBy w' (some mk) → wpList Try.prog ops Q rest (a.put o.dst undef) w') : wpList Try.prog ops Q (o :: rest) a w :=
  wpList_mapUpdate_own w hg m x v _ hop 36 106 kU Try.underlying105 unitElem mk _ (DB id unitD K) hm hown hn _ _ _ hx hv (kUn hn2) _ [] unitElem_mk (fun w' h1 h2 => hK w' (by
    have h3 := DB_put (key := id) (val := unitD) K n
    have h4 := tightM h1
    rw [show (DataW.agg [] : DataW Value) = unitD n from rfl, show (Lit.int IntKind.u64 n) = Lit.int IntKind.u64 (id n) from rfl, h3, DB_size] at h4
    exact h4) h2)
theorem wp_hasK (w : World) (hg : o.guard = none) (m x : Operand) (hop : o.op = Op.lookup 105 m x true) {mk : Nat} {K : List Int} (hm : a.eval m = .map (some mk)) (hown : OwnK w mk K) {n : Int} (hx : a.eval x = .int .u64 n) (hn2 : 0 ≤ n ∧ n < 18446744073709551616)
    (hK : wpList Try.prog ops Q rest (a.put o.dst (.tuple #[.agg #[], .bool (decide (n ∈ K))])) w) : wpList Try.prog ops Q (o :: rest) a w :=
  wpList_lookup_own_unit w hg m x _ hop 36 106 kU Try.underlying105 (zU w) mk _ (DB id unitD K) hm hown _ _ hx (kUn hn2) (by
    rw [DB_has]
    have : (lkBy id K n).isSome = decide (n ∈ K) := by
      cases h : lkBy id K n with
      | none => rw [Option.isSome_none]; exact (decide_eq_false fun hn => lkBy_none h n hn rfl).symm
      | some y => obtain ⟨h1, h2⟩ := lkBy_some h; simp only [id] at h2; subst h2; rw [Option.isSome_some]; exact (decide_eq_true h1).symm
    rw [this]; exact hK)
end

/-! ### the atoms -/
def DT (P : List (List UInt8)) : DataW Value := .map (P.map fun s => (.string s, .agg []))
theorem before_s : ∀ a b : List UInt8, bytesBefore a b = decide (a < b)
  | [], [] => by simp [bytesBefore]
  | [], _ :: _ => by simp [bytesBefore]
  | _ :: _, [] => by simp [bytesBefore]
  | a :: r, b :: s => by
    rw [bytesBefore, before_s r s]
    simp only [List.cons_lt_cons_iff, Bool.decide_or, Bool.decide_and]
    congr 2
theorem DT_ins (s : List UInt8) : ∀ P : List (List UInt8), P.Pairwise (· < ·) → DataW.insert (Lit.string s, .agg []) ((P.map fun s => (Lit.string s, DataW.agg (H := Value) [])).filter fun p => !p.1.sameKey (.string s)) = (insD s P false).map fun s => (Lit.string s, DataW.agg [])
  | [], _ => by simp [DataW.insert, insD]
  | x :: r, h => by
    obtain ⟨h1, h2⟩ := List.pairwise_cons.1 h
    have ih := DT_ins s r h2
    have keep : (∀ y ∈ r, s < y) → ((r.map fun s => (Lit.string s, DataW.agg (H := Value) [])).filter fun p => !p.1.sameKey (.string s)) = r.map fun s => (Lit.string s, DataW.agg []) := fun hy => by
      refine List.filter_eq_self.2 fun p hp => ?_
      obtain ⟨y, hy1, rfl⟩ := List.mem_map.1 hp
      have : y ≠ s := fun e => by have := hy y hy1; rw [e] at this; exact List.lt_irrefl _ this
      simp [Lit.sameKey, this]
    have first : (∀ y ∈ r, s < y) → DataW.insert (Lit.string s, .agg []) (r.map fun s => (Lit.string s, DataW.agg (H := Value) [])) = (Lit.string s, .agg []) :: r.map fun s => (Lit.string s, DataW.agg []) := fun hy => by
      cases r with
      | nil => rfl
      | cons y r => rw [List.map_cons, DataW.insert, if_pos (by simp only [Lit.before, before_s]; exact decide_eq_true (hy y List.mem_cons_self))]
    rw [List.map_cons, List.filter_cons]
    simp only [insD, insD_done, Bool.false_eq_true, if_false]
    by_cases e : s = x
    · subst e
      rw [if_neg (by simp [Lit.sameKey]), if_pos rfl, keep h1, first h1]; rfl
    · rw [if_pos (by simp [Lit.sameKey]; exact fun e2 => e e2.symm), if_neg e]
      rw [DataW.insert]
      simp only [Lit.before, before_s]
      by_cases hl : s < x
      · rw [if_pos (decide_eq_true hl), if_pos hl, keep fun y hy => List.lt_trans hl (h1 y hy)]; rfl
      · rw [if_neg (by simpa using hl), if_neg hl, ih]; rfl
theorem DT_put {P : List (List UInt8)} (h : P.Pairwise (· < ·)) (s : List UInt8) : (DT P).put (.string s) (.agg []) = DT (insD s P false) := by
  unfold DT DataW.put
  simp only []
  rw [DT_ins s P h]
theorem DT_size (P : List (List UInt8)) : Maps.size (DT P) = P.length := by unfold DT; rw [Maps.size_eq, List.length_map]
theorem DT_has (P : List (List UInt8)) (x : List UInt8) : Maps.has (DT P) (.string x) = decide (x ∈ P) := by
  unfold DT
  rw [Maps.has_eq]
  induction P with
  | nil => rfl
  | cons y r ih =>
    rw [List.map_cons, List.any_cons, ih]
    simp only [Lit.sameKey, List.mem_cons]
    by_cases h : y = x
    · simp [h]
    · have h2 : ¬ x = y := fun e => h e.symm
      simp [h, h2]
abbrev OwnT (w : World) (ma : Nat) (P : List (List UInt8)) : Prop := w.ownsMap Try.prog 9 (unitElem (H := Value)) ma P.length (DT P)
section
variable {ops : Array Oper} {rest : List Oper} {o : Oper} {a : Act} {Q : Exit → Act → World → Prop}
theorem wp_putT (w : World) (hg : o.guard = none) (m x v : Operand) (hop : o.op = Op.mapUpdate 107 m x v) {ma : Nat} {P : List (List UInt8)} (hm : a.eval m = .map (some ma)) (hown : OwnT w ma P) (hP : P.Pairwise (· < ·)) (hn : P.length < maxLen) {s : ByteArray} (hx : a.eval x = .string s) (hs : s.size ≤ maxLen) (hv : a.eval v = .agg #[])
    (hK : ∀ w', OwnT w' ma (insD (bn s) P false) → w.grownBy w' (some ma) → wpList Try.prog ops Q rest (a.put o.dst undef) w') : wpList Try.prog ops Q (o :: rest) a w :=
  wpList_mapUpdate_own w hg m x v _ hop 9 106 kSt Try.underlying107 unitElem ma _ (DT P) hm hown hn _ _ _ hx hv (kStn hs) _ [] unitElem_mk (fun w' h1 h2 => hK w' (by
    have h4 := tightM h1
    rw [DT_put hP, DT_size] at h4
    exact h4) h2)
theorem wp_hasT (w : World) (hg : o.guard = none) (m x : Operand) (hop : o.op = Op.lookup 107 m x true) {ma : Nat} {P : List (List UInt8)} (hm : a.eval m = .map (some ma)) (hown : OwnT w ma P) {s : ByteArray} (hx : a.eval x = .string s) (hs : s.size ≤ maxLen)
    (hK : wpList Try.prog ops Q rest (a.put o.dst (.tuple #[.agg #[], .bool (decide (bn s ∈ P))])) w) : wpList Try.prog ops Q (o :: rest) a w :=
  wpList_lookup_own_unit w hg m x _ hop 9 106 kSt Try.underlying107 (zU w) ma _ (DT P) hm hown _ _ hx (kStn hs) (by rw [DT_has]; exact hK)
end

/-! ### what waits -/
structure ES where
  n : Int
  l : List T
  A : Option Addr
  c : Nat
abbrev ES.v (e : ES) : Value := .slice e.A e.l.length e.c
def RS : Value → Option (DataW Value × List MemPlace)
  | .slice A n c => some (.held (.slice A n c), [])
  | _ => none
theorem RS_inv {v X : Value} {ps : List MemPlace} (h : RS v = some (.held X, ps)) : v = X := by
  unfold RS at h
  split at h
  · cases h; rfl
  · cases h
def heldD (e : ES) : DataW Value := .held e.v
abbrev OwnS (w : World) (ms : Nat) (es : List ES) : Prop := w.ownsMap Try.prog 36 RS ms es.length (DB ES.n heldD es)
theorem zS (w : World) : (zeroValue 25).run Try.prog w = .ok (.slice none 0 0) w := by kernel_rfl
/-- what lies under a number -/
def atS (es : List ES) (n : Int) : ES := (lkBy ES.n es n).getD ⟨n, [], none, 0⟩
section
variable {ops : Array Oper} {rest : List Oper} {o : Oper} {a : Act} {Q : Exit → Act → World → Prop}
theorem op_lookS {K' : Act → World → Prop} (w : World) (m x : Operand) (hop : o.op = Op.lookup 108 m x false) {ms : Nat} {es : List ES} (hm : a.eval m = .map (some ms)) (hown : OwnS w ms es) {n : Int} (hx : a.eval x = .int .u64 n) (hn2 : 0 ≤ n ∧ n < 18446744073709551616)
    (hK : K' (a.put o.dst (.slice (atS es n).A (atS es n).l.length (atS es n).c)) w) : o.wp Try.prog a w K' Q := by
  obtain ⟨v, ps, hrun, hv⟩ := hown.lookup kU Try.underlying108 (zS w) (zd := .held (.slice none 0 0)) (zp := []) rfl (kUn hn2)
  rw [DB_at] at hv
  have hv2 : v = .slice (atS es n).A (atS es n).l.length (atS es n).c := by
    unfold atS
    cases h : lkBy ES.n es n with
    | none => rw [h] at hv; exact RS_inv hv
    | some e => rw [h] at hv; exact RS_inv hv
  unfold Oper.wp
  simp [execOp, hop, hm, hx, hrun, Result.andThen]
  rw [hv2]; exact hK
theorem wp_lookS (w : World) (hg : o.guard = none) (m x : Operand) (hop : o.op = Op.lookup 108 m x false) {ms : Nat} {es : List ES} (hm : a.eval m = .map (some ms)) (hown : OwnS w ms es) {n : Int} (hx : a.eval x = .int .u64 n) (hn2 : 0 ≤ n ∧ n < 18446744073709551616)
    (hK : wpList Try.prog ops Q rest (a.put o.dst (.slice (atS es n).A (atS es n).l.length (atS es n).c)) w) : wpList Try.prog ops Q (o :: rest) a w :=
  wpList_plain hg fun _ hK' => op_lookS w m x hop hm hown hx hn2 (hK' _ _ hK)
theorem wp_dropS (w : World) (hg : o.guard = none) (m x : Operand) (hop : o.op = Op.call { callee := Callee.builtin Builtin.delete, args := #[m, x], argTypes := #[108, 36] }) {ms : Nat} {es : List ES} (hm : a.eval m = .map (some ms)) (hown : OwnS w ms es) {n : Int} (hx : a.eval x = .int .u64 n) (hn2 : 0 ≤ n ∧ n < 18446744073709551616)
    (hK : ∀ w', OwnS w' ms (delBy ES.n es n) → w.grownBy w' (some ms) → wpList Try.prog ops Q rest (a.put o.dst (.tuple #[])) w') : wpList Try.prog ops Q (o :: rest) a w :=
  wpList_delete_own w hg m x _ _ hop 25 kU Try.underlying108 RS ms _ (DB ES.n heldD es) hm hown _ _ hx (kUn hn2) (fun w' h1 h2 => hK w' (by
    have h4 := tightM h1
    rw [DB_del, DB_size] at h4
    exact h4) h2.grown)
theorem op_putS {K' : Act → World → Prop} (w : World) (m x v : Operand) (hop : o.op = Op.mapUpdate 108 m x v) {ms : Nat} {es : List ES} (hm : a.eval m = .map (some ms)) (hown : OwnS w ms es) (hl : es.length < maxLen) {e : ES} (hx : a.eval x = .int .u64 e.n) (hn2 : 0 ≤ e.n ∧ e.n < 18446744073709551616) (hv : a.eval v = .slice e.A e.l.length e.c)
    (hK : ∀ w', OwnS w' ms (putBy ES.n es e) → w.grownBy w' (some ms) → K' (a.put o.dst undef) w') : o.wp Try.prog a w K' Q := by
  obtain ⟨w', hrun, r1, r2⟩ := hown.update kU Try.underlying108 hl (kUn hn2) (val := .slice e.A e.l.length e.c) (d := heldD e) (ps := []) rfl
  unfold Oper.wp
  simp [execOp, hop, hm, hx, hv, hrun, Result.andThen]
  refine hK w' ?_ r2
  have h4 := tightM r1
  rw [DB_put, DB_size] at h4
  exact h4
end

end Go.Proofs.Ytjlglfjikfpboaa.thiefs
