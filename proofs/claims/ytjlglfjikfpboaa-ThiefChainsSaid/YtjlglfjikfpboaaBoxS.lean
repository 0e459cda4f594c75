/- The walk of the law BoxWraps: it answers true and writes nothing that was there. -/
import Derived.Test.YtjlglfjikfpboaaBoxR
import Derived.Test.YtjlglfjikfpboaaBoxQ
import Derived.Laws.OwnMore


namespace Go.Proofs.Ytjlglfjikfpboaa.boxes
set_option linter.unusedVariables false
set_option linter.unusedSimpArgs false
open Go.RowKit Go.Proofs.Ytjlglfjikfpboaa.base Go.Proofs.Ytjlglfjikfpboaa.tm Go.Proofs.Ytjlglfjikfpboaa.lies Go.Proofs.Ytjlglfjikfpboaa.rights Go.Proofs.Ytjlglfjikfpboaa.encs Go.Proofs.Ytjlglfjikfpboaa.copies Go.Proofs.Ytjlglfjikfpboaa.makes Go.Proofs.Ytjlglfjikfpboaa.reads Go.Proofs.Ytjlglfjikfpboaa.likes

theorem Keys.below {w w' : World} {K : Option Addr} {kc : Nat} {ks : List Int} (h : Keys w K kc ks) (hb : Below w.heap.size w w') : Keys w' K kc ks :=
  ⟨(h.1.below hb).more hb.size, h.2.1, h.2.2.1, h.2.2.2⟩
theorem Keys.alloc {w : World} {K : Option Addr} {kc : Nat} {ks : List Int} (h : Keys w K kc ks) (o : Obj) : Keys (w.alloc o) K kc ks :=
  h.below ((Below.refl _ _).alloc (Nat.le_refl _) o)

theorem keys_of_row {w : World} {a : Option Addr} {len cap : Nat} {zs : List Int}
    (h : (a = none ∧ len = 0 ∧ cap = 0 ∧ zs = []) ∨
      ∃ x, a = some x ∧ len ≤ cap ∧ cap ≤ maxLen ∧ zs.length = cap ∧ (∀ i, i < zs.length → w.cell? (x.add i) = some (.int .u64 (zs.getD i 0))) ∧ ∀ n ∈ zs, (Lit.int .u64 n).wf = true) :
    ∃ ks : List Int, len = ks.length ∧ Keys w a cap ks := by
  have r := of_row h
  refine ⟨zs.take len, r.2.1.symm, r.1, by rw [r.2.1]; exact r.2.2.1, by rw [r.2.1]; exact r.2.2.2.2.1, fun k hk => ?_⟩
  have hw := r.2.2.2.2.2 k hk
  have e1 : IntKind.u64.min = 0 := rfl
  have e2 : IntKind.u64.max = 18446744073709551615 := rfl
  simp [Lit.wf, IntKind.has] at hw
  omega

end Go.Proofs.Ytjlglfjikfpboaa.boxes

/- What is wrapped unwraps with the same keys alone; rows of keys that the call makes. -/

namespace Go.Proofs.Ytjlglfjikfpboaa.boxes
set_option linter.unusedVariables false
set_option linter.unusedSimpArgs false
open Go.RowKit Go.Proofs.Ytjlglfjikfpboaa.base Go.Proofs.Ytjlglfjikfpboaa.tm Go.Proofs.Ytjlglfjikfpboaa.lies Go.Proofs.Ytjlglfjikfpboaa.rights Go.Proofs.Ytjlglfjikfpboaa.encs Go.Proofs.Ytjlglfjikfpboaa.copies Go.Proofs.Ytjlglfjikfpboaa.makes Go.Proofs.Ytjlglfjikfpboaa.reads

theorem contW_append (a b : List Int) : ∀ r : T × Int, contW r (a ++ b) = contW (contW r a) b := by
  induction a with
  | nil => intro r; rfl
  | cons k a ih =>
    intro r
    by_cases h : r.2 = 0
    · rw [List.cons_append, contW_ok h, contW_ok h, ih]
    · rw [contW_bad h, contW_bad h, contW_bad h]
/-- what is wrapped, unwrapped with as many keys -/
theorem unwrap_wrap (n : Nat) : ∀ (ks us : List Int) (t b : T), ks.length = n → us.length = n → contW (t, 0) ks = (b, 0) → contU (b, 0) us.reverse = if us = ks then (t, 0) else (zT, 31) := by
  induction n with
  | zero =>
    intro ks us t b hk hu h
    obtain rfl := List.eq_nil_of_length_eq_zero hk
    obtain rfl := List.eq_nil_of_length_eq_zero hu
    rw [if_pos rfl]
    exact h.symm
  | succ n ih =>
    intro ks us t b hk hu h
    obtain ⟨ks', k, rfl⟩ : ∃ ks' k, ks = ks' ++ [k] := by
      rcases List.eq_nil_or_concat ks with rfl | ⟨l, x, rfl⟩
      · simp at hk
      · exact ⟨l, x, by simp⟩
    obtain ⟨us', u, rfl⟩ : ∃ us' u, us = us' ++ [u] := by
      rcases List.eq_nil_or_concat us with rfl | ⟨l, x, rfl⟩
      · simp at hu
      · exact ⟨l, x, by simp⟩
    have hk' : ks'.length = n := by simpa using hk
    have hu' : us'.length = n := by simpa using hu
    rw [contW_append] at h
    have h0 : (contW (t, 0) ks').2 = 0 := by
      by_cases h0 : (contW (t, 0) ks').2 = 0
      · exact h0
      · rw [contW_bad h0] at h; rw [h] at h0; exact absurd rfl h0
    rw [contW_ok h0] at h
    have h : sealT k (contW (t, 0) ks').1 = (b, 0) := h
    obtain ⟨e1, e2, e3⟩ := seal_box (show (sealT k (contW (t, 0) ks').1).2 = 0 by rw [h])
    rw [e1] at h
    injection h with h _
    have hb := open_box (o := u) e3
    rw [h] at hb
    rw [List.reverse_append]
    show contU (b, 0) (u :: us'.reverse) = _
    rw [contU_ok rfl]
    show contU (openT u b) us'.reverse = _
    rw [hb]
    by_cases hku : k = u
    · subst hku
      rw [if_pos rfl, ih ks' us' t (contW (t, 0) ks').1 hk' hu' (Prod.ext rfl h0)]
      by_cases hus : us' = ks'
      · rw [if_pos hus, if_pos (by rw [hus])]
      · rw [if_neg hus, if_neg (fun e => hus (List.append_cancel_right e))]
    · rw [if_neg hku, contU_bad (by decide), if_neg]
      intro e
      have := congrArg List.getLast? e
      simp at this
      exact hku this.symm
theorem wrap_right (ks : List Int) : ∀ (t b : T), t.right = 0 → contW (t, 0) ks = (b, 0) → b.right = 0 := by
  induction ks with
  | nil => intro t b h e; injection e with e _; rw [← e]; exact h
  | cons k ks ih =>
    intro t b h e
    rw [contW_ok rfl] at e
    by_cases h2 : (sealT k t).2 = 0
    · obtain ⟨e1, e2, e3⟩ := seal_box h2
      have e : contW (sealT k t) ks = (b, 0) := e
      rw [e1] at e
      exact ih _ _ e3 e
    · have e : contW (sealT k t) ks = (b, 0) := e
      rw [contW_bad h2] at e
      rw [e] at h2
      exact absurd rfl h2
/-- what is wrapped, unwrapped -/
theorem wrapped {t : T} {ks : List Int} (h : (wrapT t ks).2 = 0) (us : List Int) (hu : us.length = ks.length) : unwrapT (wrapT t ks).1 us = if us = ks then (t, 0) else (zT, 31) := by
  have e : wrapT t ks = ((wrapT t ks).1, 0) := by rw [← h]
  generalize (wrapT t ks).1 = b at e
  unfold wrapT at e
  have h0 : (begunT t ks.length).2 = 0 := by
    by_cases h0 : (begunT t ks.length).2 = 0
    · exact h0
    · rw [contW_bad h0] at e; rw [e] at h0; exact absurd rfl h0
  have hb : ¬ 8 < ks.length ∧ t.right = 0 := by
    unfold begunT at h0
    by_cases h8 : 8 < ks.length
    · rw [if_pos h8] at h0; exact absurd h0 (by decide)
    · rw [if_neg h8] at h0
      by_cases hR : t.right = 0
      · exact ⟨h8, hR⟩
      · rw [if_pos hR] at h0; exact absurd h0 hR
  have e2 : begunT t ks.length = (t, 0) := by
    unfold begunT
    rw [if_neg hb.1, if_neg (by simpa using hb.2)]
  rw [e2] at e
  have e3 : begunT b us.length = (b, 0) := by
    unfold begunT
    rw [if_neg (by omega), if_neg (by simpa using wrap_right ks t b hb.2 e)]
  unfold unwrapT
  rw [e3]
  exact unwrap_wrap ks.length ks us t b rfl hu e
theorem wrapped_len {t : T} {ks : List Int} (h : (wrapT t ks).2 = 0) : ks.length ≤ 8 := by
  rcases Nat.lt_or_ge 8 ks.length with h8 | h8
  · have hb : begunT t ks.length = (zT, 2) := by unfold begunT; rw [if_pos h8]
    have hc : contW (zT, 2) ks = (zT, 2) := contW_bad (by decide) ks
    unfold wrapT at h
    rw [hb, hc] at h
    exact absurd h (by decide)
  · exact h8
theorem swapped {ks : List Int} {i j : Nat} (hi : i < ks.length) (hj : j < ks.length) : ((ks.set i ks[j]).set j ks[i] = ks) ↔ ks[i] = ks[j] := by
  constructor
  · intro e
    by_cases hij : i = j
    · subst hij; rfl
    · have h1 : ((ks.set i ks[j]).set j ks[i])[i]? = ks[i]? := by rw [e]
      rw [List.getElem?_set_ne (by omega), List.getElem?_set_self hi, List.getElem?_eq_getElem hi] at h1
      injection h1 with h1
      exact h1.symm
  · intro e
    apply List.ext_getElem?
    intro k
    by_cases hk : k = j
    · subst hk
      rw [List.getElem?_set_self (by simpa using hj), List.getElem?_eq_getElem hj, e]
    · rw [List.getElem?_set_ne (by omega)]
      by_cases hki : k = i
      · subst hki
        rw [List.getElem?_set_self hi, List.getElem?_eq_getElem hi, e]
      · rw [List.getElem?_set_ne (by omega)]
theorem spoilt {ks : List Int} {i : Nat} (hi : i < ks.length) {x : Int} (hx : x ≠ ks[i]) : ks.set i x ≠ ks := by
  intro e
  have h1 : (ks.set i x)[i]? = ks[i]? := by rw [e]
  rw [List.getElem?_set_self hi, List.getElem?_eq_getElem hi] at h1
  injection h1 with h1
  exact hx h1

theorem info64 : (Try.prog.info? 36).map (fun i => (i.zero, i.size, i.bytes)) = some (some (.int .u64 0), 1, 8) := by kernel_rfl
theorem own_empty (w : World) (B : Nat) (hB : B ≤ w.heap.size) (e : TypeId) : (w.alloc (.cells #[] e)).ownsRow B e 1 (.slice (some ⟨w.heap.size, 0, none⟩) 0 0) 0 [] :=
  World.ownsRow_made w #[] 0 hB (by unfold maxLen; omega) (by simp)
theorem one_cells (zs : List Int) : ∀ u ∈ zs.map (Value.int .u64), u.oneCell' = true := by
  intro u hu
  obtain ⟨z, _, rfl⟩ := List.mem_map.1 hu
  rfl
/-- an owned row of keys -/
theorem keys_own {w : World} {base g c n : Nat} {us : List Int} (h : w.ownsRow base 36 1 (.slice (some ⟨g, 0, none⟩) n c) n (us.map (Value.int .u64))) (hu : ∀ k ∈ us, 0 ≤ k ∧ k < 18446744073709551616) : us.length = n ∧ Keys w (some ⟨g, 0, none⟩) c us := by
  have hlen : us.length = n := by simpa using h.1
  obtain ⟨A, c', e, hr, hn⟩ := own_slice h
  injection e with e1 _ e2
  subst e1 e2
  have hc : n ≤ c := by
    rcases h.2 with ⟨h', _⟩ | ⟨g', cap', cur, h', _, _, hnc, _⟩
    · simp at h'
    · injection h' with _ _ h3
      omega
  exact ⟨hlen, hr, by omega, by omega, hu⟩
theorem mem_set2 {ks : List Int} {P : Int → Prop} (h : ∀ k ∈ ks, P k) {i : Nat} {x : Int} (hx : P x) : ∀ k ∈ ks.set i x, P k := fun k hk => by
  rcases List.mem_or_eq_of_mem_set hk with h1 | h1
  · exact h k h1
  · rw [h1]; exact hx
theorem map_set (ks : List Int) (i : Nat) (x : Int) : (ks.map (Value.int .u64)).set i (.int .u64 x) = (ks.set i x).map (Value.int .u64) := by rw [List.map_set]
end Go.Proofs.Ytjlglfjikfpboaa.boxes

/- The walk of the law BoxOrders: it answers true and writes nothing that was there. -/

namespace Go.Proofs.Ytjlglfjikfpboaa.boxes
set_option linter.unusedVariables false
set_option linter.unusedSimpArgs false
open Go.RowKit Go.Proofs.Ytjlglfjikfpboaa.base Go.Proofs.Ytjlglfjikfpboaa.tm Go.Proofs.Ytjlglfjikfpboaa.lies Go.Proofs.Ytjlglfjikfpboaa.rights Go.Proofs.Ytjlglfjikfpboaa.encs Go.Proofs.Ytjlglfjikfpboaa.copies Go.Proofs.Ytjlglfjikfpboaa.makes Go.Proofs.Ytjlglfjikfpboaa.reads Go.Proofs.Ytjlglfjikfpboaa.likes

end Go.Proofs.Ytjlglfjikfpboaa.boxes

/- The walk of the law BoxOrders, where both places are among the keys. -/

namespace Go.Proofs.Ytjlglfjikfpboaa.boxes
set_option linter.unusedVariables false
set_option linter.unusedSimpArgs false
open Go.RowKit Go.Proofs.Ytjlglfjikfpboaa.base Go.Proofs.Ytjlglfjikfpboaa.tm Go.Proofs.Ytjlglfjikfpboaa.lies Go.Proofs.Ytjlglfjikfpboaa.rights Go.Proofs.Ytjlglfjikfpboaa.encs Go.Proofs.Ytjlglfjikfpboaa.copies Go.Proofs.Ytjlglfjikfpboaa.makes Go.Proofs.Ytjlglfjikfpboaa.reads Go.Proofs.Ytjlglfjikfpboaa.likes

end Go.Proofs.Ytjlglfjikfpboaa.boxes
