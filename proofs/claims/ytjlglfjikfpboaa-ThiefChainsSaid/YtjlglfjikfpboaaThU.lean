/- What is sealed under keys, and chains of boxes, in pure words. -/
import Derived.Test.YtjlglfjikfpboaaThL
import Derived.Test.YtjlglfjikfpboaaBoxS


namespace Go.Proofs.Ytjlglfjikfpboaa.thiefs
set_option linter.unusedVariables false
set_option linter.unusedSimpArgs false
open Go.Proofs.Ytjlglfjikfpboaa.base Go.Proofs.Ytjlglfjikfpboaa.tm Go.Proofs.Ytjlglfjikfpboaa.boxes

def keyT (k : Int) : T := .mk 3 k ⟨#[]⟩ []
theorem keyT_right (k : Int) : (keyT k).right = 0 := rfl
theorem keyT_word {k : Int} (h : 0 ≤ k ∧ k < 18446744073709551616) : (keyT k).word := ⟨⟨h, by decide⟩, trivial⟩
theorem got_key (C : Int → Bool) (k : Int) : got C (keyT k) = [keyT k] := got_plain (t := keyT k) (by simp [keyT, T.k]) (by simp [keyT, T.k])
theorem gotL_keys (C : Int → Bool) : ∀ ks : List Int, gotL C (ks.map keyT) = ks.map keyT
  | [] => rfl
  | k :: ks => by rw [List.map_cons, gotL, got_key, gotL_keys C ks]; rfl
theorem KS_keys : ∀ ks : List Int, KS (ks.map keyT) = ks
  | [] => rfl
  | k :: ks => by rw [List.map_cons, ← List.singleton_append, KS_app, KS_keys ks, KS_one_key (t := keyT k) rfl]; rfl
theorem AS_keys : ∀ ks : List Int, AS (ks.map keyT) = []
  | [] => rfl
  | k :: ks => by rw [List.map_cons, ← List.singleton_append, AS_app, AS_keys ks, AS_one_no (t := keyT k) (by simp [keyT, T.k])]; rfl
theorem BN_keys : ∀ ks : List Int, BN (ks.map keyT) = 0
  | [] => rfl
  | k :: ks => by rw [List.map_cons, ← List.singleton_append, BN_app, BN_keys ks, BN_one_no (t := keyT k) (by simp [keyT, T.k])]
theorem contW_got {C : Int → Bool} : ∀ (ks : List Int) (t b : T), contW (t, 0) ks = (b, 0) → (∀ k ∈ ks, C k = true) → got C b = got C t
  | [], t, b, h, _ => by cases h; rfl
  | k :: ks, t, b, h, hk => by
    rw [contW_ok rfl] at h
    by_cases h0 : (sealT k t).2 = 0
    · rw [(seal_box h0).1] at h
      rw [contW_got ks _ b h fun x hx => hk x (List.mem_cons_of_mem _ hx)]
      rw [got_open (t := boxT k t) rfl (hk k List.mem_cons_self)]
      exact gotL_one C t
    · rw [contW_bad h0] at h
      exact absurd (by rw [h]) h0
/-- it is a box that stays shut -/
def Stays (C : Int → Bool) (t : T) : Prop := ∃ x, got C t = [x] ∧ x.k = 4
theorem contW_stays {C : Int → Bool} : ∀ (ks : List Int) (t b : T), contW (t, 0) ks = (b, 0) → (Stays C t ∨ ∃ k ∈ ks, C k = false) → Stays C b
  | [], t, b, h, hs => by
    cases h
    rcases hs with hs | ⟨k, hk, _⟩
    · exact hs
    · cases hk
  | k :: ks, t, b, h, hs => by
    rw [contW_ok rfl] at h
    by_cases h0 : (sealT k t).2 = 0
    · rw [(seal_box h0).1] at h
      refine contW_stays ks _ b h ?_
      have hbox : C k = false → Stays C (boxT k t) := fun hc => ⟨boxT k t, got_shut (t := boxT k t) rfl hc, rfl⟩
      rcases hs with ⟨x, hx, hx4⟩ | ⟨k', hk', hc⟩
      · cases hc : C k with
        | false => exact .inl (hbox hc)
        | true =>
          refine .inl ⟨x, ?_, hx4⟩
          rw [got_open (t := boxT k t) rfl hc, ← hx]
          exact gotL_one C t
      · rcases List.mem_cons.1 hk' with rfl | hk'
        · exact .inl (hbox hc)
        · exact .inr ⟨k', hk', hc⟩
    · rw [contW_bad h0] at h
      exact absurd (by rw [h]) h0
/-- with all keys it is got at -/
theorem shut_all {t b : T} {ks : List Int} (hw : contW (t, 0) ks = (b, 0)) {K1 K2 : List Int} {A1 A2 : List (List UInt8)} {m1 m2 : Nat} (h1 : Loot [t] K1 A1 m1) (h2 : Loot (b :: ks.map keyT) K2 A2 m2) : ∀ a ∈ A1, a ∈ A2 := by
  have hc := h2.cl
  have hk : ∀ k ∈ ks, isK K2 k = true := fun k hk => hc k (by rw [gotL, KS_app, gotL_keys, KS_keys]; exact List.mem_append.2 (.inr hk))
  have e := contW_got ks t b hw hk
  have hct : Cl (isK K2) [t] := fun n hn => hc n (by rw [gotL_one] at hn; rw [gotL, KS_app, e]; exact List.mem_append.2 (.inl hn))
  have hsub : ∀ n, isK K1 n = true → isK K2 n = true := fun n hn => h1.least _ hct n (isK_iff.1 hn)
  intro a ha
  rw [h2.at_, gotL, AS_app, e]
  have := (got_more hsub [t]).2 a ((h1.at_ a).1 ha)
  rw [gotL_one] at this
  exact List.mem_append.2 (.inl this)
/-- without one of the keys it is not -/
theorem shut_lacks {t b : T} {pre post : List Int} {k : Int} (hw : contW (t, 0) (pre ++ k :: post) = (b, 0)) (hk : k ∉ pre ++ post) {K : List Int} {A : List (List UInt8)} {m : Nat} (h : Loot (b :: (pre ++ post).map keyT) K A m) :
    A = [] ∧ m = 1 ∧ k ∉ K ∧ ∀ n ∈ K, n ∈ pre ++ post := by
  have hst : ∀ C : Int → Bool, C k = false → Stays C b := fun C hc => contW_stays _ t b hw (.inr ⟨k, List.mem_append.2 (.inr List.mem_cons_self), hc⟩)
  have hsub : ∀ n ∈ K, n ∈ pre ++ post := fun n hn => by
    obtain ⟨x, hx, hx4⟩ := hst (isK (pre ++ post)) (by simpa [isK] using hk)
    refine isK_iff.1 (h.least (isK (pre ++ post)) (fun n hn => ?_) n hn)
    rw [gotL, KS_app, hx, KS_one_no (by omega), gotL_keys, KS_keys] at hn
    exact isK_iff.2 hn
  have hkK : k ∉ K := fun e => hk (hsub k e)
  obtain ⟨x, hx, hx4⟩ := hst (isK K) (by simpa [isK] using hkK)
  refine ⟨List.eq_nil_iff_forall_not_mem.2 fun a ha => ?_, ?_, hkK, hsub⟩
  · have := (h.at_ a).1 ha
    rw [gotL, AS_app, hx, AS_one_no (by omega), gotL_keys, AS_keys] at this
    cases this
  · rw [h.bx, gotL, BN_app, hx, BN_one_box hx4, gotL_keys, BN_keys]
theorem len_sub : ∀ (K l : List Int), K.Pairwise (· ≠ ·) → (∀ n ∈ K, n ∈ l) → K.length ≤ l.length
  | [], l, _, _ => Nat.zero_le _
  | k :: K, l, hn, hs => by
    obtain ⟨h1, h2⟩ := List.pairwise_cons.1 hn
    have hk := hs k List.mem_cons_self
    have h3 := len_sub K (l.erase k) h2 fun n hm => (List.mem_erase_of_ne (Ne.symm (h1 n hm))).2 (hs n (List.mem_cons_of_mem _ hm))
    have h4 := List.length_erase_of_mem hk
    have h5 := List.length_pos_of_mem hk
    rw [List.length_cons]
    omega
theorem up_len {K l : List Int} (h : Up id K) (hs : ∀ n ∈ K, n ∈ l) : K.length ≤ l.length :=
  len_sub K l (h.imp fun hab e => by simp only [id] at hab; omega) hs
end Go.Proofs.Ytjlglfjikfpboaa.thiefs
