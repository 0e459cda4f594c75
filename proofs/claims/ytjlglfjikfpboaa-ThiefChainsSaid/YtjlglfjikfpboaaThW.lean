/- A chain of boxes, each of which holds the next one's key, in pure words. -/
import Derived.Test.YtjlglfjikfpboaaThU


namespace Go.Proofs.Ytjlglfjikfpboaa.thiefs
set_option linter.unusedVariables false
set_option linter.unusedSimpArgs false
open Go.Proofs.Ytjlglfjikfpboaa.base Go.Proofs.Ytjlglfjikfpboaa.tm Go.Proofs.Ytjlglfjikfpboaa.boxes

/-- the text of a link -/
def chB (k : Nat) : ByteArray := ⟨#[UInt8.ofNat (48 + k)]⟩
def atomT (s : ByteArray) : T := .mk 2 0 s []
def linkR (k : Nat) : T := .mk 5 0 ⟨#[]⟩ [atomT (chB k), keyT (101 + (k : Int))]
def linkT (k : Nat) : T := boxT (100 + (k : Int)) (linkR k)
theorem linkR_right (k : Nat) : (linkR k).right = 0 := rfl
theorem linkT_right (k : Nat) : (linkT k).right = 0 := rfl
/-- the links as they come -/
def rot (n tr : Nat) : List Nat := (List.range n).map fun i => (i + tr) % n
theorem rot_eq {n tr : Nat} (h : tr < n) : rot n tr = (List.range (n - tr)).map (tr + ·) ++ List.range tr := by
  refine List.ext_getElem (by simp [rot]; omega) fun i h1 h2 => ?_
  simp only [rot, List.length_map, List.length_range] at h1
  simp only [rot, List.getElem_map, List.getElem_range]
  by_cases hi : i < n - tr
  · rw [List.getElem_append_left (by simpa using hi)]
    simp only [List.getElem_map, List.getElem_range]
    rw [Nat.mod_eq_of_lt (by omega)]; omega
  · rw [List.getElem_append_right (by simp; omega)]
    simp only [List.getElem_range, List.length_map, List.length_range]
    rw [Nat.mod_eq_sub_mod (by omega), Nat.mod_eq_of_lt (by omega)]; omega
theorem rot_mem {n tr : Nat} (h : tr < n) (k : Nat) : k ∈ rot n tr ↔ k < n := by
  rw [rot_eq h, List.mem_append, List.mem_map, List.mem_range]
  constructor
  · rintro (⟨i, hi, rfl⟩ | hk)
    · rw [List.mem_range] at hi; omega
    · omega
  · intro hk
    by_cases h1 : k < tr
    · exact .inr h1
    · exact .inl ⟨k - tr, List.mem_range.2 (by omega), by omega⟩
theorem rot_count {n tr : Nat} (h : tr < n) (p : Nat → Bool) : (rot n tr).countP p = (List.range n).countP p := by
  have e : List.range n = List.range tr ++ (List.range (n - tr)).map (tr + ·) := by
    rw [← List.range_add]; congr 1; omega
  rw [rot_eq h, e, List.countP_append, List.countP_append, Nat.add_comm]
theorem count_lt {n fr : Nat} (h : fr ≤ n) : (List.range n).countP (fun k => decide (k < fr)) = fr := by
  have e : List.range n = List.range fr ++ (List.range (n - fr)).map (fr + ·) := by
    rw [← List.range_add]; congr 1; omega
  rw [e, List.countP_append, List.countP_eq_length.2 (fun k hk => by simpa using hk), List.countP_eq_zero.2 (fun k hk => ?_), List.length_range, Nat.add_zero]
  obtain ⟨i, _, rfl⟩ := List.mem_map.1 hk
  simp
section
variable {C : Int → Bool}
theorem got_link (k : Nat) : got C (linkT k) = if C (100 + (k : Int)) then [atomT (chB k), keyT (101 + (k : Int))] else [linkT k] := by
  cases hc : C (100 + (k : Int)) with
  | true =>
    rw [if_pos rfl, got_open (t := linkT k) rfl hc]
    show gotL C [linkR k] = _
    rw [gotL_one, got_row (t := linkR k) rfl]
    show gotL C [atomT (chB k), keyT (101 + (k : Int))] = _
    rw [gotL, gotL_one, got_key, got_plain (t := atomT (chB k)) (by simp [atomT, T.k]) (by simp [atomT, T.k])]; rfl
  | false =>
    rw [if_neg (by simp)]
    exact got_shut (t := linkT k) rfl hc
theorem KS_links : ∀ (L : List Nat) (x : Int), x ∈ KS (gotL C (L.map linkT)) ↔ ∃ k ∈ L, C (100 + (k : Int)) = true ∧ x = 101 + (k : Int)
  | [], x => by simp [gotL, KS]
  | k :: L, x => by
    rw [List.map_cons, gotL, KS_app, List.mem_append, KS_links L x, got_link]
    cases hc : C (100 + (k : Int)) with
    | true =>
      rw [if_pos rfl]
      have : KS [atomT (chB k), keyT (101 + (k : Int))] = [101 + (k : Int)] := rfl
      rw [this, List.mem_singleton]
      constructor
      · rintro (h | ⟨k', h1, h2, h3⟩)
        · exact ⟨k, List.mem_cons_self, hc, h⟩
        · exact ⟨k', List.mem_cons_of_mem _ h1, h2, h3⟩
      · rintro ⟨k', h1, h2, h3⟩
        rcases List.mem_cons.1 h1 with rfl | h1
        · exact .inl h3
        · exact .inr ⟨k', h1, h2, h3⟩
    | false =>
      rw [if_neg (by simp), KS_one_no (t := linkT k) (by simp [linkT, boxT, T.k])]
      constructor
      · rintro (h | ⟨k', h1, h2, h3⟩)
        · cases h
        · exact ⟨k', List.mem_cons_of_mem _ h1, h2, h3⟩
      · rintro ⟨k', h1, h2, h3⟩
        rcases List.mem_cons.1 h1 with rfl | h1
        · rw [hc] at h2; cases h2
        · exact .inr ⟨k', h1, h2, h3⟩
theorem AS_links : ∀ (L : List Nat) (x : List UInt8), x ∈ AS (gotL C (L.map linkT)) ↔ ∃ k ∈ L, C (100 + (k : Int)) = true ∧ x = [UInt8.ofNat (48 + k)]
  | [], x => by simp [gotL, AS]
  | k :: L, x => by
    rw [List.map_cons, gotL, AS_app, List.mem_append, AS_links L x, got_link]
    cases hc : C (100 + (k : Int)) with
    | true =>
      rw [if_pos rfl]
      have : AS [atomT (chB k), keyT (101 + (k : Int))] = [[UInt8.ofNat (48 + k)]] := rfl
      rw [this, List.mem_singleton]
      constructor
      · rintro (h | ⟨k', h1, h2, h3⟩)
        · exact ⟨k, List.mem_cons_self, hc, h⟩
        · exact ⟨k', List.mem_cons_of_mem _ h1, h2, h3⟩
      · rintro ⟨k', h1, h2, h3⟩
        rcases List.mem_cons.1 h1 with rfl | h1
        · exact .inl h3
        · exact .inr ⟨k', h1, h2, h3⟩
    | false =>
      rw [if_neg (by simp), AS_one_no (t := linkT k) (by simp [linkT, boxT, T.k])]
      constructor
      · rintro (h | ⟨k', h1, h2, h3⟩)
        · cases h
        · exact ⟨k', List.mem_cons_of_mem _ h1, h2, h3⟩
      · rintro ⟨k', h1, h2, h3⟩
        rcases List.mem_cons.1 h1 with rfl | h1
        · rw [hc] at h2; cases h2
        · exact .inr ⟨k', h1, h2, h3⟩
theorem BN_links : ∀ (L : List Nat), BN (gotL C (L.map linkT)) = L.countP (fun k : Nat => !C (100 + (k : Int)))
  | [] => rfl
  | k :: L => by
    rw [List.map_cons, gotL, BN_app, BN_links L, got_link, List.countP_cons]
    cases hc : C (100 + (k : Int)) with
    | true =>
      rw [if_pos rfl]
      have : BN [atomT (chB k), keyT (101 + (k : Int))] = 0 := rfl
      rw [this]; simp
    | false =>
      rw [if_neg (by simp), BN_one_box (t := linkT k) rfl]; simp; omega
end
/-- without a key nothing is got at -/
theorem chain_none {n tr : Nat} (h : tr < n) {K : List Int} {A : List (List UInt8)} {m : Nat} (hl : Loot ((rot n tr).map linkT) K A m) : A = [] ∧ m = n := by
  have hK : K = [] := List.eq_nil_iff_forall_not_mem.2 fun x hx => by
    have := hl.least (fun _ => false) (fun x hx => by obtain ⟨_, _, h, _⟩ := (KS_links _ x).1 hx; cases h) x hx
    cases this
  subst hK
  refine ⟨List.eq_nil_iff_forall_not_mem.2 fun a ha => ?_, ?_⟩
  · obtain ⟨k, _, h2, _⟩ := (AS_links _ a).1 ((hl.at_ a).1 ha)
    simp [isK] at h2
  · rw [hl.bx, BN_links, rot_count h, List.countP_eq_length.2 (fun k _ => by simp [isK]), List.length_range]
/-- with a link's key all is got at from that link on -/
theorem chain_from {n tr fr : Nat} (h : tr < n) (hf : fr < n) {K : List Int} {A : List (List UInt8)} {m : Nat} (hl : Loot ((rot n tr).map linkT ++ [keyT (100 + (fr : Int))]) K A m) :
    (∀ x, x ∈ K ↔ 100 + (fr : Int) ≤ x ∧ x ≤ 100 + (n : Int)) ∧ (∀ a, a ∈ A ↔ ∃ k, fr ≤ k ∧ k < n ∧ a = [UInt8.ofNat (48 + k)]) ∧ m = fr := by
  have hg : ∀ C : Int → Bool, gotL C ((rot n tr).map linkT ++ [keyT (100 + (fr : Int))]) = gotL C ((rot n tr).map linkT) ++ [keyT (100 + (fr : Int))] := fun C => by rw [gotL_app, gotL_one, got_key]
  have hk1 : KS [keyT (100 + (fr : Int))] = [100 + (fr : Int)] := rfl
  have hK : ∀ x, x ∈ K ↔ 100 + (fr : Int) ≤ x ∧ x ≤ 100 + (n : Int) := fun x => by
    constructor
    · intro hx
      have := hl.least (fun y => decide (100 + (fr : Int) ≤ y ∧ y ≤ 100 + (n : Int))) (fun y hy => by
        rw [hg, KS_app, hk1, List.mem_append] at hy
        rcases hy with hy | hy
        · obtain ⟨k, h1, h2, rfl⟩ := (KS_links _ y).1 hy
          have h3 := (rot_mem h k).1 h1
          simp only [decide_eq_true_eq] at h2 ⊢
          omega
        · rw [List.mem_singleton] at hy
          subst hy
          simp only [decide_eq_true_eq]
          omega) x hx
      simpa using this
    · have key : ∀ i : Nat, fr + i ≤ n → (100 + ((fr + i : Nat) : Int)) ∈ K := fun i => by
        induction i with
        | zero =>
          intro _
          refine isK_iff.1 (hl.cl _ ?_)
          rw [hg, KS_app, hk1]
          exact List.mem_append.2 (.inr (by simp))
        | succ i ih =>
          intro hi
          have h1 := ih (by omega)
          refine isK_iff.1 (hl.cl _ ?_)
          rw [hg, KS_app]
          exact List.mem_append.2 (.inl ((KS_links _ _).2 ⟨fr + i, (rot_mem h _).2 (by omega), isK_iff.2 h1, by omega⟩))
      rintro ⟨h1, h2⟩
      have h3 := key (x - 100 - fr).toNat (by omega)
      rwa [show (100 + ((fr + (x - 100 - fr).toNat : Nat) : Int)) = x by omega] at h3
  refine ⟨hK, fun a => ?_, ?_⟩
  · rw [hl.at_, hg, AS_app, AS_one_no (t := keyT (100 + (fr : Int))) (by simp [keyT, T.k]), List.append_nil, AS_links]
    constructor
    · rintro ⟨k, h1, h2, h3⟩
      have := (hK _).1 (isK_iff.1 h2)
      exact ⟨k, by omega, (rot_mem h k).1 h1, h3⟩
    · rintro ⟨k, h1, h2, h3⟩
      exact ⟨k, (rot_mem h k).2 h2, isK_iff.2 ((hK _).2 ⟨by omega, by omega⟩), h3⟩
  · rw [hl.bx, hg, BN_app, BN_one_no (t := keyT (100 + (fr : Int))) (by simp [keyT, T.k]), Nat.add_zero, BN_links, rot_count h]
    have : ∀ k ∈ List.range n, (!isK K (100 + (k : Int))) = decide (k < fr) := fun k hk => by
      rw [List.mem_range] at hk
      by_cases hkf : k < fr
      · rw [decide_eq_true hkf]
        have : ¬ (100 + (k : Int)) ∈ K := fun e => by have := (hK _).1 e; omega
        simp [isK, this]
      · rw [decide_eq_false hkf]
        have : (100 + (k : Int)) ∈ K := (hK _).2 ⟨by omega, by omega⟩
        simp [isK, this]
    rw [List.countP_congr (fun k hk => by rw [this k hk]), count_lt (Nat.le_of_lt hf)]
/-- the lists themselves -/
theorem chain_keys {n tr fr : Nat} (h : tr < n) (hf : fr < n) {K : List Int} {A : List (List UInt8)} {m : Nat} (hl : Loot ((rot n tr).map linkT ++ [keyT (100 + (fr : Int))]) K A m) (up : Up id K) : K.length = n - fr + 1 := by
  have hK := (chain_from h hf hl).1
  have e : K = (List.range (n - fr + 1)).map (fun i : Nat => 100 + (fr : Int) + (i : Int)) := by
    refine rise_int _ _ up ?_ fun x => ?_
    · rw [List.pairwise_map]
      exact List.pairwise_lt_range.imp fun hab => by omega
    · rw [hK, List.mem_map]
      constructor
      · rintro ⟨h1, h2⟩
        exact ⟨(x - 100 - fr).toNat, List.mem_range.2 (by omega), by omega⟩
      · rintro ⟨i, hi, rfl⟩
        rw [List.mem_range] at hi
        omega
  rw [e]; simp
theorem chain_atoms {n tr fr : Nat} (h : tr < n) (hf : fr < n) (hn : n ≤ 40) {K : List Int} {A : List (List UInt8)} {m : Nat} (hl : Loot ((rot n tr).map linkT ++ [keyT (100 + (fr : Int))]) K A m) (up : A.Pairwise (· < ·)) : A = (List.range (n - fr)).map fun i => [UInt8.ofNat (48 + fr + i)] := by
  have hA := (chain_from h hf hl).2.1
  refine texts.rising_eq _ _ up ?_ fun a => ?_
  · rw [List.pairwise_map]
    refine List.Pairwise.imp_of_mem (fun {a b} ha hb hab => ?_) List.pairwise_lt_range
    rw [List.mem_range] at ha hb
    refine List.Lex.rel ?_
    rw [UInt8.lt_iff_toNat_lt, UInt8.toNat_ofNat', UInt8.toNat_ofNat', Nat.mod_eq_of_lt (by omega), Nat.mod_eq_of_lt (by omega)]
    omega
  · rw [hA, List.mem_map]
    constructor
    · rintro ⟨k, h1, h2, rfl⟩
      exact ⟨k - fr, List.mem_range.2 (by omega), by rw [show 48 + fr + (k - fr) = 48 + k by omega]⟩
    · rintro ⟨i, hi, rfl⟩
      rw [List.mem_range] at hi
      exact ⟨fr + i, by omega, by omega, by rw [Nat.add_assoc]⟩
end Go.Proofs.Ytjlglfjikfpboaa.thiefs
