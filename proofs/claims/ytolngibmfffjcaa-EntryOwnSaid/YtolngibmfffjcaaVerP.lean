/- What EntryKeeps asks, in pure words. -/
import Derived.Test.YtolngibmfffjcaaVerL


namespace Go.Proofs.Ytolngibmfffjcaa.vers
set_option linter.unusedVariables false
set_option linter.unusedSimpArgs false
open Go.RowKit Go.Proofs.Ytolngibmfffjcaa.base Go.Proofs.Ytolngibmfffjcaa.quotas

/-- whether something is wrong does not hang on how many are kept -/
theorem addP_bad {a b c d e f h : Int} {s : ByteArray} {l : List V} {v t : ByteArray} (kp kp' : Int) : (addP a b c d e f h s l v t kp).bad = (addP a b c d e f h s l v t kp').bad := by
  unfold addP
  split
  · rfl
  · split
    · rfl
    · split <;> rfl
/-- a tail of right versions and the new one may be -/
theorem keeps_right {a b c d e f h : Int} {s : ByteArray} {l : List V} {v t : ByteArray} {kp : Int} (hz : (addP a b c d e f h s l v t kp).bad = 0) (hlen : ((addP a b c d e f h s l v t kp).k.length : Int) ≤ e) :
    rb (nbad a b c d e f h s (addP a b c d e f h s l v t kp).k) (addP a b c d e f h s l v t kp).k = 0 := by
  obtain ⟨_, k1, k2, k3, k4, k5, k6, k7, _⟩ := addP_ok hz
  have hok := (nbad_zero k3).1
  have h3 := k3
  rw [nbad_yes hok] at h3
  by_cases h1 : s.size = 0
  · rw [if_pos h1] at h3; omega
  · rw [if_neg h1] at h3
    by_cases h2 : b < (s.size : Int)
    · rw [if_pos h2] at h3; omega
    · rw [if_neg h2] at h3
      by_cases h4 : e < (l.length : Int)
      · rw [if_pos h4] at h3; omega
      · rw [if_neg h4] at h3
        have hr := (rises_vbad h3).2
        rw [← k1] at k2
        have hk := (rises_app k2).2.1
        have hall : ∀ x ∈ (addP a b c d e f h s l v t kp).k, x.n ≤ 1073741824 ∧ (x.v.size : Int) ≤ c ∧ (x.t.size : Int) ≤ d := fun x hx => by
          have hx2 : x ∈ l ++ [⟨noOf l, v, t⟩] := by rw [← k1]; exact List.mem_append_right _ hx
          rcases List.mem_append.1 hx2 with e1 | e1
          · exact hr x e1
          · rw [List.mem_singleton.1 e1]; exact ⟨k4, k5, k6⟩
        have hn : nbad a b c d e f h s (addP a b c d e f h s l v t kp).k = 0 := by
          rw [nbad_yes hok, if_neg h1, if_neg h2, if_neg (by omega)]
          exact vbad_rises hk hall
        unfold rb
        rw [hn, if_neg]
        rintro ⟨_, h0⟩
        rw [k7] at h0
        simp at h0
theorem keeps_last {a b c d e f h : Int} {s : ByteArray} {l : List V} {v t : ByteArray} {kp : Int} (hz : (addP a b c d e f h s l v t kp).bad = 0) : lastV (addP a b c d e f h s l v t kp).k = (⟨noOf l, v, t⟩, true) := by
  obtain ⟨_, _, _, _, _, _, _, k7, _⟩ := addP_ok hz
  unfold lastV
  rw [k7, List.getLast?_concat]
/-- how many are left, how many dropped -/
theorem keeps_put {a b c d e f h : Int} {s : ByteArray} {l : List V} {v t : ByteArray} (hz : (addP a b c d e f h s l v t e).bad = 0) :
    ((addP a b c d e f h s l v t e).k.length : Int) ≤ e ∧ ((addP a b c d e f h s l v t e).d.length = 0 ∨ ((addP a b c d e f h s l v t e).k.length : Int) = e) ∧ (addP a b c d e f h s l v t e).d.length ≤ 1 ∧ (addP a b c d e f h s l v t e).k.length ≤ 5 := by
  obtain ⟨_, _, _, k3, _, _, _, k7, k8⟩ := addP_ok hz
  have hl := nbad_zero k3
  have he := hl.1.2.2.2.2.1
  rw [k7, k8]
  simp only [List.length_append, List.length_drop, List.length_take, List.length_singleton]
  omega
theorem keeps_over {a b c d e f h : Int} {s : ByteArray} {l : List V} {v t : ByteArray} (hz : (addP a b c d e f h s l v t 1).bad = 0) :
    (addP a b c d e f h s l v t 1).k = [⟨noOf l, v, t⟩] ∧ (addP a b c d e f h s l v t 1).d = l ∧ l.length ≤ 4 ∧ 1 ≤ e := by
  obtain ⟨_, _, _, k3, _, _, _, k7, k8⟩ := addP_ok hz
  have hl := nbad_zero k3
  refine ⟨?_, ?_, by omega, hl.1.2.2.2.2.1.1⟩
  · rw [k7, List.drop_eq_nil_of_le (by omega)]; rfl
  · rw [k8, List.take_of_length_le (by omega)]
end Go.Proofs.Ytolngibmfffjcaa.vers
