/- The document's own In and SameTexts. -/
import Derived.Test.YtjlglfjikfpboaaAtoms


namespace Go.Proofs.Ytjlglfjikfpboaa.texts
set_option linter.unusedVariables false
set_option linter.unusedSimpArgs false
open Go.RowKit Go.Proofs.Ytjlglfjikfpboaa.base Go.Proofs.Ytjlglfjikfpboaa.tm Go.Proofs.Ytjlglfjikfpboaa.lies Go.Proofs.Ytjlglfjikfpboaa.rights

theorem below_drewN (B : Nat) (w : World) (n : Nat) : Below B w (w.drewN n) := ⟨rfl, rfl, rfl, Nat.le_refl _, fun _ _ => rfl⟩
def IHead (ts : List (List UInt8)) (s : List UInt8) (w : World) (i : Value) (wr : World) : Prop :=
  ∃ j : Nat, j ≤ ts.length ∧ i = .int .i64 j ∧ wr = w ∧ Hid (∀ k (h : k < ts.length), k < j → ts[k] ≠ s)

set_option maxRecDepth 100000 in
theorem in_any (v : Value) (lo : Nat) (ts : List (List UInt8)) (s : ByteArray) (w : World) (hT : Txt w lo v ts) :
    Calls Try.prog 19 #[v, .string s] w fun e w' => e = .returned (.bool (decide (s.toList ∈ ts))) ∧ w = w' := by
  obtain ⟨A, c, rfl, hlen, hT⟩ := hT
  go_enter Try.func19, Try.ntmps19
  go_wp2_with fail
  go_loopw [9] (fun i wr => IHead ts s.toList w i wr) (fun i _ => ts.length - (intOf i).toNat)
  case atStart => exact ⟨0, Nat.zero_le _, rfl, rfl, lay (fun k _ h => absurd h (Nat.not_lt_zero _))⟩
  case round =>
    obtain ⟨j, hj, rfl, rfl, HJ⟩ := hrel
    by_cases hlt : j < ts.length
    · obtain ⟨g, rfl, hlo, hg, hcell⟩ := hT j hlt
      by_cases he : ts[j] = s.toList
      · have d1 : (ts[j] == s.toList) = true := by simpa using he
        have HM := lay (show decide (s.toList ∈ ts) = true by rw [← he]; simp)
        clear he
        go_wp2_with fail
        go_ret
        exact ⟨by rw [HM.out]; rfl, rfl⟩
      · have d1 : (ts[j] == s.toList) = false := by simpa using he
        have HE := lay he
        clear he
        go_wp2_with fail
        exact ⟨⟨j + 1, hlt, by go_num, rfl, lay (fun k hk hkj => by
          by_cases hkk : k = j
          · subst hkk; exact HE.out
          · exact HJ.out k hk (by omega))⟩, by simp [intOf]; omega⟩
    · have HM := lay (show decide (s.toList ∈ ts) = false by
        rw [decide_eq_false_iff_not]
        intro hm
        obtain ⟨k, hk, e⟩ := List.getElem_of_mem hm
        exact HJ.out k hk (by omega) e)
      go_wp2_with fail
      go_ret
      exact ⟨by rw [HM.out]; rfl, rfl⟩

set_option maxRecDepth 100000 in
theorem sameTexts_any (v v' : Value) (lo lo' : Nat) (ts : List (List UInt8)) (w : World) (hT : Txt w lo v ts) (hT' : Txt w lo' v' ts) :
    Calls Try.prog 15 #[v, v'] w fun e w' => e = .returned (.bool true) ∧ Below w.heap.size w w' := by
  obtain ⟨A, c, rfl, hlen, hT⟩ := hT
  obtain ⟨A', c', rfl, _, hT'⟩ := hT'
  go_enter Try.func15, Try.ntmps15
  go_wp2_with fail
  go_loopw [13] (fun i wr => ∃ j n : Nat, j ≤ ts.length ∧ i = .int .i64 j ∧ wr = w.drewN n) (fun i _ => ts.length - (intOf i).toNat)
  case atStart => exact ⟨0, 0, Nat.zero_le _, rfl, rfl⟩
  case round =>
    obtain ⟨j, n, hj, rfl, rfl⟩ := hrel
    by_cases hlt : j < ts.length
    · obtain ⟨g, rfl, hlo, hg, hcell⟩ := hT j hlt
      obtain ⟨g', rfl, hlo', hg', hcell'⟩ := hT' j hlt
      go_wp2_with fail
      go_region
      go_wp2_with fail
      exact ⟨⟨j + 1, n + 1, hlt, by go_num, rfl⟩, by simp [intOf]; omega⟩
    · go_wp2_with fail
      go_ret
      exact ⟨rfl, below_drewN _ _ n⟩
end Go.Proofs.Ytjlglfjikfpboaa.texts
