/- slices.BinarySearch of texts; book's Gone. -/
import Derived.Test.YtjlglfjikfpboaaBkK


namespace Go.Proofs.Ytjlglfjikfpboaa.books
set_option linter.unusedVariables false
set_option linter.unusedSimpArgs false
open Go.RowKit Go.Shelf Go.Proofs.Ytjlglfjikfpboaa.base Go.Proofs.Ytjlglfjikfpboaa.quotas Go.Proofs.Ytjlglfjikfpboaa.vers Go.Proofs.Ytjlglfjikfpboaa.nodes Go.Proofs.Ytjlglfjikfpboaa.trees Go.Proofs.Ytjlglfjikfpboaa.texts

set_option maxRecDepth 100000 in
theorem nan1 (s : ByteArray) (w : World) : Calls Try.prog 165 #[.string s] w fun e w' => e = .returned (.bool false) ∧ w' = w := by
  go_enter Try.func165, Try.ntmps165
  go_wp2_with fail
  go_ret
  exact ⟨rfl, rfl⟩

set_option maxRecDepth 100000 in
theorem nan2 (s : ByteArray) (w : World) : Calls Try.prog 147 #[.string s] w fun e w' => e = .returned (.bool false) ∧ w' = w := by
  go_enter Try.func147, Try.ntmps147
  go_wp2_with fail
  go_ret
  exact ⟨rfl, rfl⟩

set_option maxRecDepth 100000 in
set_option maxHeartbeats 2000000 in
theorem less_any (s t : ByteArray) (w : World) : Calls Try.prog 135 #[.string s, .string t] w fun e w' => e = .returned (.bool (decide (bn s < bn t))) ∧ w' = w := by
  go_enter Try.func135, Try.ntmps135
  go_wp2_with (first | (go_at_call 165; refine (nan1 _ _).mono ?_; rintro e1 w1 ⟨rfl, rfl⟩))
  go_ret
  exact ⟨by rw [Go.Proofs.bytesLess_eq, Lib.toList_data, Lib.toList_data]; rfl, rfl⟩

theorem ba_bn (x : List UInt8) : bn (ba x) = x := by simp [bn, ba]
theorem enc_ba (x : List UInt8) : encStr x = .string (ba x) := by simp [encStr, ba]
theorem search_in {ts : List (List UInt8)} {s : List UInt8} {lo : Nat} (h1 : ∀ t (h : t < ts.length), t < lo → ts[t] < s) (h2 : ∀ t (h : t < ts.length), lo ≤ t → ¬ ts[t] < s) (hu : ts.Pairwise (· < ·)) : decide (s ∈ ts) = decide (ts[lo]? = some s) := by
  congr 1
  refine propext ⟨fun h => ?_, fun h => List.mem_of_getElem? h⟩
  obtain ⟨t, ht, rfl⟩ := List.getElem_of_mem h
  rcases Nat.lt_trichotomy t lo with h3 | rfl | h3
  · exact absurd (h1 t ht h3) (bn_irrefl _)
  · exact List.getElem?_eq_getElem ht
  · exact absurd (List.pairwise_iff_getElem.1 hu lo t (by omega) ht h3) (h2 lo (by omega) (Nat.le_refl _))

set_option maxRecDepth 100000 in
set_option maxHeartbeats 2000000 in
theorem search_any (v : Value) (lw : Nat) (ts : List (List UInt8)) (s : ByteArray) (w : World) (hT : Txt w lw v ts) (hu : ts.Pairwise (· < ·)) :
    Calls Try.prog 118 #[v, .string s] w fun e w' => ∃ i, e = .returned (.tuple #[i, .bool (decide (bn s ∈ ts))]) ∧ w' = w := by
  obtain ⟨A, c, rfl, hlen, hT⟩ := hT
  have HT := vers.lay hT
  clear hT
  have HU := vers.lay hu
  clear hu
  generalize hfin : decide (bn s ∈ ts) = fin
  have FIN := vers.lay hfin
  clear hfin
  go_enter Try.func118, Try.ntmps118
  go_wp2_with fail
  go_loopw [7, 8] (fun s9 s10 wr => ∃ lo hi : Nat, s9 = .int .i64 (lo : Int) ∧ s10 = .int .i64 (hi : Int) ∧ lo ≤ hi ∧ hi ≤ ts.length ∧ wr = w ∧ Hid ((∀ t (h : t < ts.length), t < lo → ts[t] < bn s) ∧ (∀ t (h : t < ts.length), hi ≤ t → ¬ ts[t] < bn s))) (fun s9 s10 _ => (intOf s10).toNat - (intOf s9).toNat)
  case atStart => exact ⟨0, ts.length, rfl, rfl, Nat.zero_le _, Nat.le_refl _, rfl, vers.lay ⟨fun t h ht => absurd ht (Nat.not_lt_zero _), fun t h h1 => by omega⟩⟩
  case round =>
    obtain ⟨lo, hi, rfl, rfl, hlh, hin, rfl, HH⟩ := hrel
    by_cases hlt : lo < hi
    · have hm : (lo + hi) / 2 < ts.length := by omega
      obtain ⟨g, rfl, hlo, hg, hc⟩ := HT.out ((lo + hi) / 2) hm
      have MONO : Hid (∀ t (h : t < ts.length), t < (lo + hi) / 2 → ts[(lo + hi) / 2] < bn s → ts[t] < bn s) := vers.lay fun t h ht h1 =>
        List.lt_trans (List.pairwise_iff_getElem.1 HU.out t ((lo + hi) / 2) h hm ht) h1
      have MONO2 : Hid (∀ t (h : t < ts.length), (lo + hi) / 2 ≤ t → ¬ ts[(lo + hi) / 2] < bn s → ¬ ts[t] < bn s) := vers.lay fun t h ht h1 h3 => by
        rcases Nat.lt_or_ge ((lo + hi) / 2) t with h2 | h2
        · exact h1 (List.lt_trans (List.pairwise_iff_getElem.1 HU.out ((lo + hi) / 2) t hm h h2) h3)
        · obtain rfl : t = (lo + hi) / 2 := by omega
          exact h1 h3
      rw [enc_ba] at hc
      have hcl := fun w' => less_any (ba (ts[(lo + hi) / 2])) s w'
      rw [ba_bn] at hcl
      by_cases hy : ts[(lo + hi) / 2] < bn s
      · have HY := vers.lay hy
        rw [decide_eq_true hy] at hcl
        clear hy
        generalize ba (ts[(lo + hi) / 2]) = y at hc hcl
        go_wp2_with (first | (go_at_call 135; refine (hcl _).mono ?_; rintro e1 w1 ⟨rfl, rfl⟩))
        refine ⟨⟨(lo + hi) / 2 + 1, hi, by rw [show ((lo : Int) + (hi : Int)) / 2 + 1 = (((lo + hi) / 2 + 1 : Nat) : Int) by omega], rfl, by omega, hin, by trivial, vers.lay ⟨fun t h ht => ?_, HH.out.2⟩⟩, by simp [intOf]; omega⟩
        rcases Nat.lt_or_ge t ((lo + hi) / 2) with h1 | h1
        · exact MONO.out t h h1 HY.out
        · obtain rfl : t = (lo + hi) / 2 := by omega
          exact HY.out
      · have HY := vers.lay hy
        rw [decide_eq_false hy] at hcl
        clear hy
        generalize ba (ts[(lo + hi) / 2]) = y at hc hcl
        go_wp2_with (first | (go_at_call 135; refine (hcl _).mono ?_; rintro e1 w1 ⟨rfl, rfl⟩))
        refine ⟨⟨lo, (lo + hi) / 2, rfl, by rw [show ((lo : Int) + (hi : Int)) / 2 = (((lo + hi) / 2 : Nat) : Int) by omega], by omega, by omega, by trivial, vers.lay ⟨HH.out.1, fun t h ht => MONO2.out t h ht HY.out⟩⟩, by simp [intOf]; omega⟩
    · obtain rfl : hi = lo := by omega
      have hf := vers.lay (FIN.out.symm.trans (search_in HH.out.1 HH.out.2 HU.out))
      by_cases hn : hi < ts.length
      · obtain ⟨g, rfl, hlo, hg, hc⟩ := HT.out hi hn
        rw [enc_ba] at hc
        have hf2 := vers.lay (hf.out.trans (by rw [List.getElem?_eq_getElem hn]))
        by_cases hy : ts[hi] = bn s
        · have hbs : ba ts[hi] = s := bn_ext (by rw [ba_bn, hy])
          have hf3 := vers.lay (hf2.out.trans (decide_eq_true (by rw [hy])))
          rw [hbs] at hc
          clear hy hbs
          go_wp2_with (first | (go_at_call 147; refine (nan2 _ _).mono ?_; rintro e1 w1 ⟨rfl, rfl⟩))
          refine bodyPost_ret (v := .tuple #[.int .i64 (hi : Int), .bool true]) (by simp [results, Try.results118, go_sem]) rfl ⟨_, by rw [hf3.out], by first | rfl | trivial⟩
        · have hbs : ba ts[hi] ≠ s := fun e => hy (by rw [← e, ba_bn])
          have hf3 := vers.lay (hf2.out.trans (decide_eq_false (fun e => hy (by injection e))))
          generalize ba ts[hi] = y at hc hbs
          clear hy
          have d1 : (y.toList == s.toList) = false := by
            rw [beq_eq_false_iff_ne, Lib.toList_data, Lib.toList_data]
            exact fun e => hbs (bn_ext e)
          clear hbs
          go_wp2_with (first | (go_at_call 147; refine (nan2 _ _).mono ?_; rintro e1 w1 ⟨rfl, rfl⟩))
          refine bodyPost_ret (v := .tuple #[.int .i64 (hi : Int), .bool false]) (by simp [results, Try.results118, go_sem]) rfl ⟨_, by rw [hf3.out], by first | rfl | trivial⟩
      · have hf3 := vers.lay (hf.out.trans (decide_eq_false (fun e => by rw [List.getElem?_eq_none (by omega)] at e; cases e)))
        go_wp2_with fail
        refine bodyPost_ret (v := .tuple #[.int .i64 (hi : Int), .bool false]) (by simp [results, Try.results118, go_sem]) rfl ⟨_, by rw [hf3.out], by first | rfl | trivial⟩

end Go.Proofs.Ytjlglfjikfpboaa.books
