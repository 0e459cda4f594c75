/- Cache's newList of versions, secrets, kids: a row of the call's own. -/
import Derived.Test.YtoenkkbcpafanaaCcA
import Derived.Test.YtoenkkbcpafanaaTrB


namespace Go.Proofs.Ytoenkkbcpafanaa.caches
set_option linter.unusedVariables false
set_option linter.unusedSimpArgs false
open Go.RowKit Go.Proofs.Ytoenkkbcpafanaa.base Go.Proofs.Ytoenkkbcpafanaa.vers Go.Proofs.Ytoenkkbcpafanaa.nodes Go.Proofs.Ytoenkkbcpafanaa.trees

set_option maxRecDepth 100000 in
set_option maxHeartbeats 400000 in
theorem newV_any (A : Option Addr) (n c : Nat) (xs : List Value) (F : Nat → Prop) (w : World) (hx : xs.length = n * 3) (hr : RdF w F A xs) (hA : A = none → n = 0 ∧ c = 0) (h1 : ∀ u ∈ xs, u.oneCell' = true) (hn : n * 40 ≤ 140737488355328) :
    Calls Try.prog 169 #[.slice A n c] w fun e w' => ∃ v', e = .returned v' ∧ w'.ownsRow w.heap.size 180 3 v' n xs ∧ Below w.heap.size w w' := by
  obtain ⟨i0, hi, hz0, hz1, hz2⟩ := info_parts trees.infoV
  cases A with
  | none =>
    obtain ⟨rfl, rfl⟩ := hA rfl
    obtain rfl : xs = [] := List.eq_nil_of_length_eq_zero (by omega)
    have hap : ∀ u : World, (Builtin.append_ #[45, 45] 45 #[.slice none 0 0, .slice none 0 0]).run Try.prog u = .ok (.slice none 0 0) u := fun u => run_append_owned_none u 0 45 45 180 i0 3 Try.underlying45 hi (.slice none 0 0) 0 [] ⟨rfl, .inl ⟨rfl, rfl⟩⟩
    clear hx hr hA h1 hn hi hz0 hz1 hz2
    go_enter Try.func169, Try.ntmps169
    go_wp2
    go_ret
    exact ⟨_, rfl, ⟨rfl, .inl ⟨rfl, rfl⟩⟩, Below.refl _ _⟩
  | some ad =>
    have hnews : ∀ j u, xs[j]? = some u → w.cell? (ad.add j) = some u := fun j u hj => by
      obtain ⟨b, off, e, _, hc⟩ := hr j u hj
      cases e
      rw [add_plain]
      exact hc
    have HN := vers.lay hnews
    have HX := vers.lay hx
    have H1 := vers.lay h1
    clear hr hA hnews hx h1
    go_enter Try.func169, Try.ntmps169
    go_wp2_with (at_builtin; refine wpList_append_own _ rfl _ _ 45 rfl w.heap.size 180 i0 _ 3 40 Try.underlying45 hi hz0 hz1 hz2 rfl (by decide) (.slice none 0 0) 0 [] rfl ⟨rfl, .inl ⟨rfl, rfl⟩⟩ ad n c xs rfl ?qc1 ?qc2 ?qc3 ?qc4 ?qc5 ?qc6 ?_)
    case qc1 => exact HX.out
    case qc2 => exact HN.out
    case qc3 => exact H1.out
    case qc4 => unfold maxLen; omega
    case qc5 => omega
    case qc6 => simp
    intro v' w1 hown hgrow _
    go_wp2
    go_ret
    exact ⟨v', rfl, by simpa using hown, (Below.refl _ w).grown hgrow (by simp) (by intro k hk; simp [Value.ownBlock] at hk)⟩

set_option maxRecDepth 100000 in
set_option maxHeartbeats 400000 in
theorem newE_any (A : Option Addr) (n c : Nat) (xs : List Value) (F : Nat → Prop) (w : World) (hx : xs.length = n * 2) (hr : RdF w F A xs) (hA : A = none → n = 0 ∧ c = 0) (h1 : ∀ u ∈ xs, u.oneCell' = true) (hn : n * 40 ≤ 140737488355328) :
    Calls Try.prog 167 #[.slice A n c] w fun e w' => ∃ v', e = .returned v' ∧ w'.ownsRow w.heap.size 47 2 v' n xs ∧ Below w.heap.size w w' := by
  obtain ⟨i0, hi, hz0, hz1, hz2⟩ := info_parts trees.infoE
  cases A with
  | none =>
    obtain ⟨rfl, rfl⟩ := hA rfl
    obtain rfl : xs = [] := List.eq_nil_of_length_eq_zero (by omega)
    have hap : ∀ u : World, (Builtin.append_ #[84, 84] 84 #[.slice none 0 0, .slice none 0 0]).run Try.prog u = .ok (.slice none 0 0) u := fun u => run_append_owned_none u 0 84 84 47 i0 2 Try.underlying84 hi (.slice none 0 0) 0 [] ⟨rfl, .inl ⟨rfl, rfl⟩⟩
    clear hx hr hA h1 hn hi hz0 hz1 hz2
    go_enter Try.func167, Try.ntmps167
    go_wp2
    go_ret
    exact ⟨_, rfl, ⟨rfl, .inl ⟨rfl, rfl⟩⟩, Below.refl _ _⟩
  | some ad =>
    have hnews : ∀ j u, xs[j]? = some u → w.cell? (ad.add j) = some u := fun j u hj => by
      obtain ⟨b, off, e, _, hc⟩ := hr j u hj
      cases e
      rw [add_plain]
      exact hc
    have HN := vers.lay hnews
    have HX := vers.lay hx
    have H1 := vers.lay h1
    clear hr hA hnews hx h1
    go_enter Try.func167, Try.ntmps167
    go_wp2_with (at_builtin; refine wpList_append_own _ rfl _ _ 84 rfl w.heap.size 47 i0 _ 2 40 Try.underlying84 hi hz0 hz1 hz2 rfl (by decide) (.slice none 0 0) 0 [] rfl ⟨rfl, .inl ⟨rfl, rfl⟩⟩ ad n c xs rfl ?qc1 ?qc2 ?qc3 ?qc4 ?qc5 ?qc6 ?_)
    case qc1 => exact HX.out
    case qc2 => exact HN.out
    case qc3 => exact H1.out
    case qc4 => unfold maxLen; omega
    case qc5 => omega
    case qc6 => simp
    intro v' w1 hown hgrow _
    go_wp2
    go_ret
    exact ⟨v', rfl, by simpa using hown, (Below.refl _ w).grown hgrow (by simp) (by intro k hk; simp [Value.ownBlock] at hk)⟩

set_option maxRecDepth 100000 in
set_option maxHeartbeats 400000 in
theorem newK_any (A : Option Addr) (n c : Nat) (xs : List Value) (F : Nat → Prop) (w : World) (hx : xs.length = n * 5) (hr : RdF w F A xs) (hA : A = none → n = 0 ∧ c = 0) (h1 : ∀ u ∈ xs, u.oneCell' = true) (hn : n * 48 ≤ 140737488355328) :
    Calls Try.prog 168 #[.slice A n c] w fun e w' => ∃ v', e = .returned v' ∧ w'.ownsRow w.heap.size 162 5 v' n xs ∧ Below w.heap.size w w' := by
  obtain ⟨i0, hi, hz0, hz1, hz2⟩ := info_parts trees.infoK
  cases A with
  | none =>
    obtain ⟨rfl, rfl⟩ := hA rfl
    obtain rfl : xs = [] := List.eq_nil_of_length_eq_zero (by omega)
    have hap : ∀ u : World, (Builtin.append_ #[85, 85] 85 #[.slice none 0 0, .slice none 0 0]).run Try.prog u = .ok (.slice none 0 0) u := fun u => run_append_owned_none u 0 85 85 162 i0 5 Try.underlying85 hi (.slice none 0 0) 0 [] ⟨rfl, .inl ⟨rfl, rfl⟩⟩
    clear hx hr hA h1 hn hi hz0 hz1 hz2
    go_enter Try.func168, Try.ntmps168
    go_wp2
    go_ret
    exact ⟨_, rfl, ⟨rfl, .inl ⟨rfl, rfl⟩⟩, Below.refl _ _⟩
  | some ad =>
    have hnews : ∀ j u, xs[j]? = some u → w.cell? (ad.add j) = some u := fun j u hj => by
      obtain ⟨b, off, e, _, hc⟩ := hr j u hj
      cases e
      rw [add_plain]
      exact hc
    have HN := vers.lay hnews
    have HX := vers.lay hx
    have H1 := vers.lay h1
    clear hr hA hnews hx h1
    go_enter Try.func168, Try.ntmps168
    go_wp2_with (at_builtin; refine wpList_append_own _ rfl _ _ 85 rfl w.heap.size 162 i0 _ 5 48 Try.underlying85 hi hz0 hz1 hz2 rfl (by decide) (.slice none 0 0) 0 [] rfl ⟨rfl, .inl ⟨rfl, rfl⟩⟩ ad n c xs rfl ?qc1 ?qc2 ?qc3 ?qc4 ?qc5 ?qc6 ?_)
    case qc1 => exact HX.out
    case qc2 => exact HN.out
    case qc3 => exact H1.out
    case qc4 => unfold maxLen; omega
    case qc5 => omega
    case qc6 => simp
    intro v' w1 hown hgrow _
    go_wp2
    go_ret
    exact ⟨v', rfl, by simpa using hown, (Below.refl _ w).grown hgrow (by simp) (by intro k hk; simp [Value.ownBlock] at hk)⟩

end Go.Proofs.Ytoenkkbcpafanaa.caches
