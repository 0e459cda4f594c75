/- A region that draws its order: a beginning whose operations are quiet in a class of worlds, calls that make memory among them, and a chain behind it, each operation of which waits for all of that: one walk of the beginning, one of the chain. -/
import Derived.Test.YtoenkkbcpafanaaA00
import Derived.BigQuiet
import Derived.Deep.QuietTactic
import Init
import Derived.Laws.Strings


namespace Go.Proofs.Ytoenkkbcpafanaa.mix
set_option linter.unusedVariables false
set_option linter.unusedSimpArgs false
open Go.RowKit

section
variable {P : Program} {ops : Array Oper} {md : Region.Mode} {C : World → Prop} {Q : Exit → Act → World → Prop}

/-- r operations more, quiet in C, in any order; then whatever comes up -/
def wpT (P : Program) (md : Region.Mode) (ops : Array Oper) (C : World → Prop) (Q : Exit → Act → World → Prop) : Nat → Nat → Array Bool → Act → Prop
  | 0, fuel, listed, a => ∀ w, C w → wpAny P md ops Q fuel listed a w
  | r + 1, fuel, listed, a => ∃ f, fuel = f + 1 ∧ Region.ready md ops listed ≠ [] ∧ ∀ i ∈ Region.ready md ops listed, qOp P ops C i (wpT P md ops C Q r f (listed.setIfInBounds i true)) a

theorem wpT_any : ∀ (r fuel : Nat) (listed : Array Bool) (a : Act), wpT P md ops C Q r fuel listed a → ∀ w, C w → wpAny P md ops Q fuel listed a w
  | 0, _, _, _, h, w, hw => h w hw
  | r + 1, fuel, listed, a, h, w, hw => by
    obtain ⟨f, rfl, hne, h⟩ := h
    exact ⟨fun h0 => absurd h0 hne, fun i hi => wpOp_of_qOp hw (fun a' w' hw' hk => wpT_any r f _ a' hk w' hw') (h i hi)⟩

/-- what an operation waits for, and what that waits for -/
def deps (md : Region.Mode) (ops : Array Oper) (k : Nat) : List Nat := match ops[k]? with
  | some o => (o.after.toList.filter fun e => Region.binds md e).map (·.on)
  | none => []
def downs (md : Region.Mode) (ops : Array Oper) : Nat → List Nat → List Nat
  | 0, l => l
  | n + 1, l => downs md ops n (l ++ l.flatMap (deps md ops))
def Closed (md : Region.Mode) (ops : Array Oper) (listed : Array Bool) : Prop := ∀ k, listed.getD k false = true → ∀ x ∈ deps md ops k, listed.getD x false = true
theorem downs_listed {listed : Array Bool} (hc : Closed md ops listed) : ∀ (n : Nat) (l : List Nat), (∀ x ∈ l, listed.getD x false = true) → ∀ x ∈ downs md ops n l, listed.getD x false = true
  | 0, _, h => h
  | n + 1, l, h => downs_listed hc n _ (fun x hx => by
      rcases List.mem_append.1 hx with hx | hx
      · exact h x hx
      · obtain ⟨y, hy, hxy⟩ := List.mem_flatMap.1 hx
        exact hc y (h y hy) x hxy)
theorem ready_deps {j : Nat} {listed : Array Bool} (hj : j ∈ Region.ready md ops listed) : ∀ x ∈ deps md ops j, listed.getD x false = true := by
  obtain ⟨_, o, ho, hall⟩ := mem_ready.1 hj
  intro x hx
  unfold deps at hx
  rw [ho] at hx
  obtain ⟨e, he, rfl⟩ := List.mem_map.1 hx
  obtain ⟨he1, he2⟩ := List.mem_filter.1 he
  exact hall e (by simpa using he1) he2
/-- each operation of the chain waits for all of the beginning -/
def tailB (md : Region.Mode) (ops : Array Oper) (k0 pre : Nat) : Bool :=
  (List.range ops.size).all fun j => decide (j < pre) || (List.range pre).all fun k => decide (k < k0) || (downs md ops 5 (deps md ops j)).contains k
theorem tail_all {k0 pre j : Nat} {listed : Array Bool} (ht : tailB md ops k0 pre = true) (hc : Closed md ops listed) (hj : j ∈ Region.ready md ops listed) (hp : pre ≤ j) {k : Nat} (hk0 : k0 ≤ k) (hk : k < pre) : listed.getD k false = true := by
  obtain ⟨_, o, ho, _⟩ := mem_ready.1 hj
  have hlt : j < ops.size := (Array.getElem?_eq_some_iff.1 ho).1
  have h1 := List.all_eq_true.1 ht j (List.mem_range.2 hlt)
  rw [Bool.or_eq_true] at h1
  rcases h1 with h1 | h1
  · have := of_decide_eq_true h1; omega
  · have h2 := List.all_eq_true.1 h1 k (List.mem_range.2 hk)
    rw [Bool.or_eq_true] at h2
    rcases h2 with h2 | h2
    · have := of_decide_eq_true h2; omega
    · exact downs_listed hc 5 _ (ready_deps hj) k (by simpa using h2)

theorem not_both {listed : Array Bool} {i : Nat} (h : listed.getD i true = false) (k : listed.getD i false = true) : False := by
  rcases Nat.lt_or_ge i listed.size with h' | h'
  · simp [h'] at h k; rw [h] at k; cases k
  · simp [Array.getElem?_eq_none h'] at h
/-- those of the beginning that have not come up yet are rem -/
def Inv (md : Region.Mode) (ops : Array Oper) (pre : Nat) (rem : List Nat) (listed : Array Bool) : Prop :=
  rem.Nodup ∧ (∀ k, k < pre → (listed.getD k true = false ↔ k ∈ rem)) ∧ Closed md ops listed
theorem Inv.next {pre j : Nat} {rem : List Nat} {listed : Array Bool} (h : Inv md ops pre rem listed) (hj : j ∈ Region.ready md ops listed) : Inv md ops pre (rem.erase j) (listed.setIfInBounds j true) := by
  obtain ⟨h1, h2, h3⟩ := h
  have hju := (mem_ready.1 hj).1
  refine ⟨h1.erase j, fun k hk => ?_, fun k hk x hx => ?_⟩
  · rw [h1.mem_erase_iff]
    by_cases hkj : k = j
    · subst hkj
      have hlt : k < listed.size := by
        rcases Nat.lt_or_ge k listed.size with h' | h'
        · exact h'
        · simp [Array.getElem?_eq_none h'] at hju
      simp [hlt]
    · rw [getD_set_ne true (Ne.symm hkj), h2 k hk]
      simp [hkj]
  · by_cases hkj : k = j
    · subst hkj
      exact getD_set_true (ready_deps hj x hx)
    · rw [getD_set_ne false (Ne.symm hkj)] at hk
      exact getD_set_true (h3 k hk x hx)

theorem wpT_first {i k0 pre : Nat} {oi : Oper} {v : Value} (hi : ops[i]? = some oi) (hsel : ∀ (j : Nat) (o : Oper) cs b, ops[j]? = some o → o.op ≠ .select cs b) (hik : k0 ≤ i) (hip : i < pre) (ht : tailB md ops k0 pre = true) :
    ∀ (r fuel : Nat) (listed : Array Bool) (a : Act) (rem : List Nat), Inv md ops pre rem listed → rem.length = r + 1 →
      (∀ j oj, ops[j]? = some oj → j ≠ i → listed.getD j true = false → (∀ e ∈ oj.after, Region.binds md e = true → e.on ≠ i) → oi.apart ops oj = true) →
      i ∈ Region.ready md ops listed → YieldsIn P ops C oi v a →
      wpT P md ops C Q r fuel (listed.setIfInBounds i true) (a.put oi.dst v) → wpT P md ops C Q (r + 1) (fuel + 1) listed a := by
  intro r
  induction r with
  | zero =>
    intro fuel listed a rem hI hlen _ hr hy H
    refine ⟨fuel, rfl, fun h => (by rw [h] at hr; cases hr), fun j hj => ?_⟩
    by_cases hji : j = i
    · subst hji; exact hy.qOp hi H
    · exfalso
      have hi' : i ∈ rem := (hI.2.1 i hip).1 (mem_ready.1 hr).1
      rcases Nat.lt_or_ge j pre with hjp | hjp
      · have hj' : j ∈ rem := (hI.2.1 j hjp).1 (mem_ready.1 hj).1
        match rem, hlen, hi', hj' with
        | [x], _, hi', hj' => simp at hi' hj'; exact hji (hj'.trans hi'.symm)
      · exact not_both (mem_ready.1 hr).1 (tail_all ht hI.2.2 hj hjp hik hip)
  | succ r ih =>
    intro fuel listed a rem hI hlen hfree hr hy H
    refine ⟨fuel, rfl, fun h => (by rw [h] at hr; cases hr), fun j hj => ?_⟩
    by_cases hji : j = i
    · subst hji; exact hy.qOp hi H
    · obtain ⟨f, rfl, hne, H'⟩ := H
      have h1 := H' j (ready_mono hj hji)
      obtain ⟨hjun, oj, hoj, hall⟩ := mem_ready.1 hj
      have hjp : j < pre := by
        rcases Nat.lt_or_ge j pre with hjp | hjp
        · exact hjp
        · exact (not_both (mem_ready.1 hr).1 (tail_all ht hI.2.2 hj hjp hik hip)).elim
      have hj' : j ∈ rem := (hI.2.1 j hjp).1 hjun
      have hnot : ∀ e ∈ oj.after, Region.binds md e = true → e.on ≠ i := fun e he hb heq => by
        have h1 := hall e he hb
        rw [heq] at h1
        exact not_both (mem_ready.1 hr).1 h1
      have h2 := qOp_put hoj (hfree j oj hoj hji hjun hnot) (fun cs b => hsel i oi cs b hi) (fun cs b => hsel j oj cs b hoj) hy h1
      have hfree' : ∀ k ok, ops[k]? = some ok → k ≠ i → (listed.setIfInBounds j true).getD k true = false →
          (∀ e ∈ ok.after, Region.binds md e = true → e.on ≠ i) → oi.apart ops ok = true := fun k ok hk hki hun hno => by
        refine hfree k ok hk hki ?_ hno
        by_cases hjk : j = k
        · subst hjk; exact hjun
        · rw [getD_set_ne true hjk] at hun; exact hun
      refine qOp_mono (fun a' h3 => ih f (listed.setIfInBounds j true) a' (rem.erase j) (hI.next hj) (by rw [List.length_erase_of_mem hj', hlen]; rfl) hfree' (ready_mono hr (Ne.symm hji)) h3.1 ?_) h2
      rw [Array.setIfInBounds_comm _ _ hji]
      exact h3.2

def lexP (md : Region.Mode) (ops : Array Oper) : Nat → Nat → Array Bool → Bool
  | 0, _, _ => true
  | n + 1, k, listed => (Region.ready md ops listed).contains k && Region.free md ops listed k && lexP md ops n (k + 1) (listed.setIfInBounds k true)
def setAll : Nat → Nat → Array Bool → Array Bool
  | 0, _, listed => listed
  | n + 1, k, listed => setAll n (k + 1) (listed.setIfInBounds k true)
theorem wpT_lex {k0 pre : Nat} (hs : Region.noSelect ops = true) (ht : tailB md ops k0 pre = true) (fuel2 : Nat) : ∀ (l : List Oper) (k : Nat) (listed : Array Bool) (a : Act), k0 ≤ k → (∀ j, j < l.length → l[j]? = ops[k + j]?) → k + l.length = pre →
    Inv md ops pre (List.range' k l.length) listed → lexP md ops l.length k listed = true → wpQuiet P ops C (fun a' => ∀ w, C w → wpAny P md ops Q fuel2 (setAll l.length k listed) a' w) l a → wpT P md ops C Q l.length (l.length + fuel2) listed a
  | [], _, _, _, _, _, _, _, _, h => by simpa [wpT, wpQuiet, setAll] using h
  | o :: l, k, listed, a, hk0, hl, hk, hI, hB, h => by
    have h0 : ops[k]? = some o := by simpa using (hl 0 (by simp)).symm
    simp only [List.length_cons, lexP, Bool.and_eq_true] at hB
    obtain ⟨⟨hr, hf⟩, hB'⟩ := hB
    have hst : qOp P ops C k (wpQuiet P ops C (fun a' => ∀ w, C w → wpAny P md ops Q fuel2 (setAll l.length (k + 1) (listed.setIfInBounds k true)) a' w) l) a := by unfold qOp; simp only [h0]; exact h
    obtain ⟨v, hy, hK⟩ := yieldsIn_of_qOp h0 hst
    have hr' : k ∈ Region.ready md ops listed := by simpa using hr
    have hI' := hI.next hr'
    rw [List.length_cons, List.range'_succ, List.erase_cons_head] at hI'
    rw [List.length_cons, Nat.succ_add]
    exact wpT_first h0 (Region.noSelect_spec hs) hk0 (by simp at hk; omega) ht l.length (l.length + fuel2) listed a (List.range' k (l.length + 1)) hI (by simp) (Region.free_spec h0 hf) hr' hy
      (wpT_lex hs ht fuel2 l (k + 1) _ _ (Nat.le_succ_of_le hk0) (fun j hj => by have := hl (j + 1) (by simp; omega); simpa [Nat.add_assoc, Nat.add_comm 1 j] using this) (by simp at hk; omega) hI' hB' hK)

def chainB (md : Region.Mode) (ops : Array Oper) : Nat → Nat → Array Bool → Bool
  | 0, _, listed => (Region.ready md ops listed).isEmpty
  | n + 1, k, listed => (Region.ready md ops listed == [k]) && chainB md ops n (k + 1) (listed.setIfInBounds k true)
theorem any_of_list : ∀ (l : List Oper) (k : Nat) (listed : Array Bool) (a : Act) (w : World), (∀ j, j < l.length → l[j]? = ops[k + j]?) → chainB md ops l.length k listed = true → wpList P ops Q l a w → wpAny P md ops Q l.length listed a w
  | [], _, _, _, _, _, hB, h => ⟨by simpa [chainB] using hB, h⟩
  | o :: l, k, listed, a, w, hl, hB, h => by
    have h0 : ops[k]? = some o := by simpa using (hl 0 (by simp)).symm
    simp only [List.length_cons, chainB, Bool.and_eq_true, beq_iff_eq] at hB
    obtain ⟨hr, hB'⟩ := hB
    have hst : wpOp P ops Q k (wpList P ops Q l) a w := by unfold wpOp; simp only [h0]; exact h
    refine ⟨fun e => (by rw [hr] at e; cases e), fun i hi => ?_⟩
    rw [hr, List.mem_singleton] at hi
    subst hi
    exact wpOp_mono (fun a' w' h' => any_of_list l (i + 1) _ a' w' (fun j hj => by have := hl (j + 1) (by simp; omega); simpa [Nat.add_assoc, Nat.add_comm 1 j] using this) hB' h') hst

theorem quiet_more {R R' : Act → Prop} (h : ∀ a, R a → R' a) : ∀ (l : List Oper) (a : Act), wpQuiet P ops C R l a → wpQuiet P ops C R' l a
  | [], a, hh => h a hh
  | o :: l, a, hh => by
    unfold wpQuiet at hh ⊢
    by_cases hw : Region.wanted o (yielded ops a.tmps) = true
    · rw [if_pos hw] at hh ⊢
      exact Oper.quiet_mono (quiet_more h l) hh
    · rw [if_neg hw] at hh ⊢
      exact quiet_more h l _ hh
def closedB (md : Region.Mode) (ops : Array Oper) (listed : Array Bool) : Bool := (List.range listed.size).all fun k => !listed.getD k false || (deps md ops k).all fun x => listed.getD x false
theorem closedB_spec {listed : Array Bool} (h : closedB md ops listed = true) : Closed md ops listed := by
  intro k hk x hx
  have hlt : k < listed.size := by
    rcases Nat.lt_or_ge k listed.size with h' | h'
    · exact h'
    · simp [Array.getElem?_eq_none h'] at hk
  have h1 := List.all_eq_true.1 h k (List.mem_range.2 hlt)
  rw [hk] at h1
  simp only [Bool.not_true, Bool.false_or] at h1
  exact List.all_eq_true.1 h1 x hx
/-- k0 of them have come up, pre - k0 are the beginning, the others the chain -/
def midB (md : Region.Mode) (ops : Array Oper) (k0 pre : Nat) (listed : Array Bool) : Bool :=
  Region.noSelect ops && (decide (k0 ≤ pre) && decide (pre ≤ ops.size)) && tailB md ops k0 pre && lexP md ops (pre - k0) k0 listed && chainB md ops (ops.size - pre) pre (setAll (pre - k0) k0 listed) &&
    (closedB md ops listed && (List.range pre).all fun k => listed.getD k true == decide (k < k0))
theorem inv_mid {k0 pre : Nat} {listed : Array Bool} (hk : k0 ≤ pre) (hc : closedB md ops listed = true) (hl : ((List.range pre).all fun k => listed.getD k true == decide (k < k0)) = true) : Inv md ops pre (List.range' k0 (pre - k0)) listed := by
  refine ⟨List.nodup_range', fun k hk' => ?_, closedB_spec hc⟩
  have h1 := List.all_eq_true.1 hl k (List.mem_range.2 hk')
  rw [beq_iff_eq] at h1
  rw [h1, decide_eq_false_iff_not, List.mem_range'_1]
  omega
end

theorem any_tail {P : Program} {Q : Exit → Act → World → Prop} {a : Act} {w : World} {l : List Oper} (k0 pre : Nat) {fuel : Nat} {listed : Array Bool} (N : World → World) (hB : midB .any l.toArray k0 pre listed = true) (hf : fuel = l.length - k0) (hC : ∃ n, w = N n)
    (h : wpQuiet P l.toArray (fun w' => ∃ n, w' = N n) (fun a' => ∀ w', (∃ n, w' = N n) → wpList P l.toArray Q (l.drop pre) a' w') ((l.drop k0).take (pre - k0)) a) : wpAny P .any l.toArray Q fuel listed a w := by
  simp only [midB, Bool.and_eq_true, decide_eq_true_eq] at hB
  obtain ⟨⟨⟨⟨⟨hs, hkp, hp⟩, ht⟩, hx⟩, hc⟩, hcl, hli⟩ := hB
  have hp' : pre ≤ l.length := by simpa using hp
  have hlt : ((l.drop k0).take (pre - k0)).length = pre - k0 := by rw [List.length_take, List.length_drop]; omega
  have hld : (l.drop pre).length = l.length - pre := List.length_drop
  have key := wpT_any (P := P) (md := .any) (ops := l.toArray) (C := fun w' => ∃ n, w' = N n) (Q := Q) _ _ _ _ (wpT_lex hs ht (l.length - pre) ((l.drop k0).take (pre - k0)) k0 listed a (Nat.le_refl _) (fun j hj => by
      rw [hlt] at hj
      rw [List.getElem?_take, if_pos hj, List.getElem?_drop]
      simp) (by omega) (by rw [hlt]; exact inv_mid hkp hcl (by simpa using hli)) (by rw [hlt]; exact hx) ?_) w hC
  · rw [hlt, show pre - k0 + (l.length - pre) = fuel by omega] at key
    exact key
  · refine quiet_more ?_ _ _ h
    intro a' ha w' hw'
    have hcl : chainB .any l.toArray (l.drop pre).length pre (setAll ((l.drop k0).take (pre - k0)).length k0 listed) = true := by
      rw [hlt, hld]; simpa using hc
    have := any_of_list (P := P) (md := .any) (ops := l.toArray) (Q := Q) (l.drop pre) pre _ a' w' (fun j hj => by simp) hcl (ha w' hw')
    rwa [hld] at this
theorem region_tail {P : Program} {id : Nat} {Q : Exit → Act → World → Prop} {a : Act} {w : World} {l : List Oper} (pre : Nat) (N : World → World) (hm : P.follows .mixedOrders = true) (hB : midB .any l.toArray 0 pre (Array.replicate l.toArray.size false) = true) (hC : ∃ n, w.drew = N n)
    (h : wpQuiet P l.toArray (fun w' => ∃ n, w' = N n) (fun a' => ∀ w', (∃ n, w' = N n) → wpList P l.toArray Q (l.drop pre) a' w') (l.take pre) a) : (Code.region id l.toArray true).wp P Q a w :=
  wp_region_any hm (any_tail 0 pre (w := w.drew) N hB (by simp) hC (by simpa using h))
end Go.Proofs.Ytoenkkbcpafanaa.mix

/- Terms as plain data: how many, how deep, which are right, their bytes, what is read of bytes. Nothing of the program. -/

namespace Go.Proofs.Ytoenkkbcpafanaa.tm
set_option linter.unusedVariables false
set_option linter.unusedSimpArgs false

/-- a term: kind, number, bytes, list -/
inductive T where
  | mk (k n : Int) (s : ByteArray) (l : List T)

instance : Inhabited T := ⟨.mk 0 0 ⟨#[]⟩ []⟩
def T.k : T → Int | .mk k _ _ _ => k
def T.n : T → Int | .mk _ n _ _ => n
def T.s : T → ByteArray | .mk _ _ s _ => s
def T.l : T → List T | .mk _ _ _ l => l
theorem T.eta (t : T) : t = .mk t.k t.n t.s t.l := by cases t; rfl

mutual
def T.size : T → Nat
  | .mk _ _ _ l => sizeL l + 1
def sizeL : List T → Nat
  | [] => 0
  | t :: l => t.size + sizeL l
end
mutual
def T.deep : T → Nat
  | .mk _ _ _ l => deepL l + 1
def deepL : List T → Nat
  | [] => 0
  | t :: l => max t.deep (deepL l)
end
def T.one : T → Bool
  | .mk k n s l => if k = 1 ∨ k = 3 then s.data.toList.isEmpty && decide (l.length = 0)
    else if k = 2 then decide (n = 0) && decide (l.length = 0) && decide (s.size ≤ 4000)
    else if k = 4 then s.data.toList.isEmpty && decide (l.length = 1)
    else if k = 5 then decide (n = 0) && s.data.toList.isEmpty
    else false
mutual
def T.shaped : T → Bool
  | .mk k n s l => T.one (.mk k n s l) && shapedL l
def shapedL : List T → Bool
  | [] => true
  | t :: l => t.shaped && shapedL l
end
/-- the error's number of a term, 0 if it is right -/
def T.right (t : T) : Int := if 4000 < t.size then 23 else if 12 < t.deep then 22 else if t.shaped then 0 else 25

/- all numbers in it are of 64 bits, no sign -/
mutual
def T.word : T → Prop
  | .mk _ n _ l => ((0 ≤ n ∧ n < 18446744073709551616) ∧ l.length < 18446744073709551616) ∧ wordL l
def wordL : List T → Prop
  | [] => True
  | t :: l => t.word ∧ wordL l
end

/-- a number in sevens -/
def putL (n : Nat) : List UInt8 := if h : n < 128 then [UInt8.ofNat n] else UInt8.ofNat (n % 128 + 128) :: putL (n / 128)
termination_by n
decreasing_by omega

inductive Num where
  | bad (e : Int)
  | ok (n k : Nat)
/-- a number in sevens read from the i-th byte on -/
def getFrom : Nat → Nat → List UInt8 → Num
  | _, _, [] => .bad 20
  | i, acc, b :: r =>
    if i = 9 ∧ 1 < b.toNat then .bad 21
    else if 128 ≤ b.toNat then getFrom (i + 1) (acc + b.toNat % 128 * 128 ^ i) r
    else if b.toNat = 0 ∧ 0 < i then .bad 21
    else .ok (acc + b.toNat * 128 ^ i) (i + 1)
def getL (s : List UInt8) : Num := getFrom 0 0 s

/-- the number that stands in a term's head -/
def T.head : T → Nat
  | .mk k n s l => if k = 2 then s.data.toList.length else if k = 5 then l.length else n.toNat
mutual
def T.enc : T → List UInt8
  | .mk k n s l => UInt8.ofNat k.toNat :: (putL (T.head (.mk k n s l)) ++ (s.data.toList ++ encL l))
def encL : List T → List UInt8
  | [] => []
  | t :: l => t.enc ++ encL l
end

inductive Res (α : Type) where
  | bad (e : Int)
  | ok (a : α) (rest : List UInt8) (begun : Nat)
def many (f : List UInt8 → Nat → Res T) : Nat → List UInt8 → Nat → Res (List T)
  | 0, s, b => .ok [] s b
  | n + 1, s, b => match f s b with
    | .bad e => .bad e
    | .ok t s' b' => match many f n s' b' with
      | .bad e => .bad e
      | .ok l s'' b'' => .ok (t :: l) s'' b''
/-- what stands behind a term's head -/
def body (f : List UInt8 → Nat → Res T) (k n : Nat) (r : List UInt8) (b : Nat) : Res T :=
  if k = 2 then (if 4000 < n then .bad 25 else if r.length < n then .bad 20 else .ok (.mk 2 0 ⟨(r.take n).toArray⟩ []) (r.drop n) b)
  else if k = 5 then (match many f n r b with | .bad e => .bad e | .ok l r' b' => .ok (.mk 5 0 ⟨#[]⟩ l) r' b')
  else if k = 4 then (match many f 1 r b with | .bad e => .bad e | .ok l r' b' => .ok (.mk 4 n ⟨#[]⟩ l) r' b')
  else .ok (.mk k n ⟨#[]⟩ []) r b
inductive Hd where
  | bad (e : Int)
  | ok (k n : Nat) (rest : List UInt8)
/-- a term's kind and the number behind it -/
def hd : List UInt8 → Hd
  | [] => .bad 20
  | k :: r => if k.toNat < 1 ∨ 5 < k.toNat then .bad 21 else match getL r with
    | .bad e => .bad e
    | .ok n m => .ok k.toNat n (r.drop m)
/-- a term read, d more may stand within one another, b have begun -/
def readT : Nat → List UInt8 → Nat → Res T
  | 0 => fun _ b => if 4000 ≤ b then .bad 23 else .bad 22
  | d + 1 => fun s b => if 4000 ≤ b then .bad 23 else match hd s with
    | .bad e => .bad e
    | .ok k n r => body (readT d) k n r (b + 1)
inductive Dec where
  | bad (e : Int)
  | ok (t : T)
def decode (s : List UInt8) : Dec := match readT 12 s 0 with
  | .bad e => .bad e
  | .ok t r _ => if r = [] then .ok t else .bad 24
end Go.Proofs.Ytoenkkbcpafanaa.tm

/- Plain laws of terms' bytes: a number in sevens is read back; a right term is read back; what is read is right and is written just so; a beginning is too short. -/

namespace Go.Proofs.Ytoenkkbcpafanaa.tm
set_option linter.unusedVariables false
set_option linter.unusedSimpArgs false

theorem toList_eq (s : ByteArray) : s.toList = s.data.toList := Go.ByteArray.toList_eq s
theorem one_eq (t : T) : t.one = if t.k = 1 ∨ t.k = 3 then t.s.toList.isEmpty && decide (t.l.length = 0)
    else if t.k = 2 then decide (t.n = 0) && decide (t.l.length = 0) && decide (t.s.size ≤ 4000)
    else if t.k = 4 then t.s.toList.isEmpty && decide (t.l.length = 1)
    else if t.k = 5 then decide (t.n = 0) && t.s.toList.isEmpty
    else false := by
  cases t
  simp only [T.one, T.k, T.s, T.l, T.n, toList_eq]
  rfl

theorem putL_lo {n : Nat} (h : n < 128) : putL n = [UInt8.ofNat n] := by rw [putL]; simp [h]
theorem putL_hi {n : Nat} (h : ¬ n < 128) : putL n = UInt8.ofNat (n % 128 + 128) :: putL (n / 128) := by rw [putL]; simp [h]
theorem putL_len (j : Nat) : ∀ n, n < 128 ^ j → 0 < j → 1 ≤ (putL n).length ∧ (putL n).length ≤ j := by
  induction j with
  | zero => intro n _ h; omega
  | succ j ih =>
    intro n hn _
    by_cases h : n < 128
    · rw [putL_lo h]; simp
    · rw [putL_hi h]
      rcases Nat.eq_zero_or_pos j with rfl | hj
      · simp at hn; omega
      · have := ih (n / 128) (by rw [Nat.pow_succ] at hn; exact Nat.div_lt_of_lt_mul (by omega)) hj
        simp only [List.length_cons]; omega
theorem putL_ten {n : Nat} (h : n < 18446744073709551616) : 1 ≤ (putL n).length ∧ (putL n).length ≤ 10 :=
  putL_len 10 n (by omega) (by omega)

theorem byte_lt (b : UInt8) : b.toNat < 256 := b.toNat_lt
theorem ofNat_to {n : Nat} (h : n < 256) : (UInt8.ofNat n).toNat = n := by simp; omega

theorem pow9 : 128 ^ 9 = 9223372036854775808 := by decide
theorem pow_le9 {i : Nat} (h : i ≤ 9) : 128 ^ i ≤ 9223372036854775808 := by rw [← pow9]; exact Nat.pow_le_pow_right (by omega) h

/-- what is written is read, whatever stands behind -/
theorem getFrom_put (j : Nat) : ∀ (i n acc : Nat) (more : List UInt8), i + j = 10 → 0 < j → n * 128 ^ i < 18446744073709551616 → (0 < i → 0 < n) →
    getFrom i acc (putL n ++ more) = .ok (acc + n * 128 ^ i) (i + (putL n).length) := by
  induction j with
  | zero => intro i n acc more _ h; omega
  | succ j ih =>
    intro i n acc more hij _ hn hpos
    have hp : 0 < 128 ^ i := Nat.pow_pos (by omega)
    have h9 : i = 9 → n ≤ 1 := by
      rintro rfl
      rw [pow9] at hn
      omega
    by_cases h : n < 128
    · rw [putL_lo h]
      simp only [List.singleton_append, getFrom]
      rw [ofNat_to (by omega), if_neg (by intro ⟨a, b⟩; have := h9 a; omega), if_neg (by omega), if_neg (by intro ⟨a, b⟩; have := hpos b; omega)]
      simp
    · rw [putL_hi h]
      have hi9 : i ≠ 9 := fun e => by have := h9 e; omega
      simp only [List.cons_append, getFrom]
      rw [ofNat_to (by omega), if_neg (by omega), if_pos (by omega)]
      have hm : (n % 128 + 128) % 128 = n % 128 := by omega
      rw [hm]
      have e1 : n / 128 * 128 ^ (i + 1) = n / 128 * 128 * 128 ^ i := by rw [Nat.pow_succ, Nat.mul_assoc, Nat.mul_comm 128]
      have e2 : n % 128 * 128 ^ i + n / 128 * 128 * 128 ^ i = n * 128 ^ i := by
        rw [← Nat.add_mul]; congr 1; omega
      rw [ih (i + 1) (n / 128) _ more (by omega) (by omega) (by rw [e1]; omega) (fun _ => by omega)]
      rw [List.length_cons, Nat.add_assoc, e1, e2]
      congr 1
      omega
theorem getL_put {n : Nat} (h : n < 18446744073709551616) (more : List UInt8) : getL (putL n ++ more) = .ok n (putL n).length := by
  have := getFrom_put 10 0 n 0 more rfl (by omega) (by simpa using h) (by omega)
  simpa [getL] using this

/-- a beginning of what is written is too short -/
theorem getFrom_short (j : Nat) : ∀ (i n acc k : Nat), i + j = 10 → n * 128 ^ i < 18446744073709551616 → k < (putL n).length →
    getFrom i acc ((putL n).take k) = .bad 20 := by
  induction j with
  | zero =>
    intro i n acc k hij hn hk
    have : n < 128 := by
      have e : i = 9 + 1 := by omega
      rw [e, Nat.pow_succ, pow9] at hn
      omega
    rw [putL_lo this] at hk ⊢
    obtain rfl : k = 0 := by simp at hk; omega
    simp [getFrom]
  | succ j ih =>
    intro i n acc k hij hn hk
    have hp : 0 < 128 ^ i := Nat.pow_pos (by omega)
    rcases Nat.eq_zero_or_pos k with rfl | hk0
    · simp [getFrom]
    · obtain ⟨k, rfl⟩ : ∃ m, k = m + 1 := ⟨k - 1, by omega⟩
      by_cases h : n < 128
      · rw [putL_lo h] at hk; simp at hk
      · have hi9 : i ≠ 9 := by
          rintro rfl
          rw [pow9] at hn
          omega
        rw [putL_hi h] at hk ⊢
        simp only [List.take_succ_cons, getFrom]
        rw [ofNat_to (by omega), if_neg (by omega), if_pos (by omega)]
        have e1 : n / 128 * 128 ^ (i + 1) = n / 128 * 128 * 128 ^ i := by rw [Nat.pow_succ, Nat.mul_assoc, Nat.mul_comm 128]
        have e2 : n / 128 * 128 * 128 ^ i ≤ n * 128 ^ i := Nat.mul_le_mul_right _ (by omega)
        exact ih (i + 1) (n / 128) _ k (by omega) (by rw [e1]; omega) (by simpa using hk)
theorem getL_short {n : Nat} (h : n < 18446744073709551616) {k : Nat} (hk : k < (putL n).length) : getL ((putL n).take k) = .bad 20 :=
  getFrom_short 10 0 n 0 k rfl (by simpa using h) hk

/-- what is read is written just so -/
theorem getFrom_back (s : List UInt8) : ∀ (i acc n k : Nat), getFrom i acc s = .ok n k → i ≤ 9 → acc < 128 ^ i →
    ∃ m, n = acc + m * 128 ^ i ∧ (0 < i → 0 < m) ∧ n < 18446744073709551616 ∧ k = i + (putL m).length ∧ s.take (putL m).length = putL m := by
  induction s with
  | nil => intro i acc n k h; simp [getFrom] at h
  | cons b r ih =>
    intro i acc n k h hi hacc
    have hp : 0 < 128 ^ i := Nat.pow_pos (by omega)
    have hp9 := pow_le9 hi
    have hb := byte_lt b
    rw [getFrom] at h
    by_cases h1 : i = 9 ∧ 1 < b.toNat
    · rw [if_pos h1] at h; cases h
    · rw [if_neg h1] at h
      by_cases h2 : 128 ≤ b.toNat
      · rw [if_pos h2] at h
        have hi8 : i ≤ 8 := by omega
        have hlt : acc + b.toNat % 128 * 128 ^ i < 128 ^ (i + 1) := by
          have : b.toNat % 128 * 128 ^ i ≤ 127 * 128 ^ i := Nat.mul_le_mul_right _ (by omega)
          rw [Nat.pow_succ]; omega
        obtain ⟨m, e1, e2, e3, e4, e5⟩ := ih (i + 1) _ n k h (by omega) hlt
        have hm := e2 (by omega)
        have em : putL (m * 128 + b.toNat % 128) = b :: putL m := by
          rw [putL_hi (by omega)]
          congr 1
          · have : (m * 128 + b.toNat % 128) % 128 + 128 = b.toNat := by omega
            rw [this]; exact UInt8.ofNat_toNat
          · congr 1; omega
        refine ⟨m * 128 + b.toNat % 128, ?_, fun _ => by omega, e3, ?_, ?_⟩
        · rw [e1, Nat.pow_succ, Nat.add_mul, Nat.mul_assoc, Nat.mul_comm 128 (128 ^ i)]; omega
        · rw [em, e4]; simp; omega
        · rw [em]; simpa using e5
      · rw [if_neg h2] at h
        by_cases h3 : b.toNat = 0 ∧ 0 < i
        · rw [if_pos h3] at h; cases h
        · rw [if_neg h3] at h
          injection h with e1 e2
          subst e1 e2
          have e : putL b.toNat = [b] := by rw [putL_lo (by omega)]; congr 1; exact UInt8.ofNat_toNat
          refine ⟨b.toNat, rfl, fun h0 => by omega, ?_, by rw [e]; rfl, by rw [e]; rfl⟩
          by_cases h9 : i = 9
          · subst h9
            have hb1 : b.toNat ≤ 1 := by omega
            rw [pow9] at hacc ⊢
            omega
          · have h8 : 128 ^ i ≤ 128 ^ 8 := Nat.pow_le_pow_right (by omega) (by omega)
            have : b.toNat * 128 ^ i ≤ 127 * 128 ^ i := Nat.mul_le_mul_right _ (by omega)
            have h88 : 128 ^ 8 = 72057594037927936 := by decide
            omega
theorem getL_back {s : List UInt8} {n k : Nat} (h : getL s = .ok n k) : n < 18446744073709551616 ∧ k = (putL n).length ∧ s.take k = putL n := by
  obtain ⟨m, e1, _, e3, e4, e5⟩ := getFrom_back s 0 0 n k h (by omega) (by simp)
  obtain rfl : n = m := by simpa using e1
  rw [Nat.zero_add] at e4
  exact ⟨e3, e4, by rw [e4]; exact e5⟩
theorem getFrom_bad_ne (s : List UInt8) : ∀ (i acc : Nat) (e : Int), getFrom i acc s = .bad e → e = 20 ∨ e = 21 := by
  induction s with
  | nil => intro i acc e h; simp [getFrom] at h; omega
  | cons b r ih =>
    intro i acc e h
    rw [getFrom] at h
    split at h
    · injection h with h; omega
    · split at h
      · exact ih _ _ _ h
      · split at h
        · injection h with h; omega
        · cases h
theorem getL_bad_ne {s : List UInt8} {e : Int} (h : getL s = .bad e) : e ≠ 0 := by
  rcases getFrom_bad_ne s 0 0 e h with h | h <;> omega
theorem getL_len {s : List UInt8} {n k : Nat} (h : getL s = .ok n k) : 1 ≤ k ∧ k ≤ s.length := by
  obtain ⟨h1, h2, h3⟩ := getL_back h
  have := congrArg List.length h3
  rw [List.length_take, ← h2] at this
  have := (putL_ten h1).1
  omega
end Go.Proofs.Ytoenkkbcpafanaa.tm
