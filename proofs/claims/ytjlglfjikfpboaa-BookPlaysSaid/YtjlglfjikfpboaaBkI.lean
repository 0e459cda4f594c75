/- Texts in a list; a book's prefixes; a range over a map. -/
import Derived.Test.YtjlglfjikfpboaaBkH
import Derived.Test.YtjlglfjikfpboaaTrG


namespace Go.Proofs.Ytjlglfjikfpboaa.books
set_option linter.unusedVariables false
set_option linter.unusedSimpArgs false
open Go.RowKit Go.Shelf Go.Proofs.Ytjlglfjikfpboaa.base Go.Proofs.Ytjlglfjikfpboaa.quotas Go.Proofs.Ytjlglfjikfpboaa.vers Go.Proofs.Ytjlglfjikfpboaa.nodes Go.Proofs.Ytjlglfjikfpboaa.trees Go.Proofs.Ytjlglfjikfpboaa.texts

/-- the slice (A, l.length, c) holds the texts l, below block B -/
def Ts (w : World) (B : Nat) (l : List ByteArray) (A : Option Addr) (c : Nat) : Prop := l.length ≤ c ∧ l.length * 16 ≤ 140737488355328 ∧ (A = none → c = 0) ∧ Rd w B A (sts l) ∧ ∀ x ∈ l, x.size ≤ maxLen
section
variable {w w' : World} {B B' : Nat} {l : List ByteArray} {A : Option Addr} {c : Nat}
theorem Ts.below (h : Ts w B l A c) (hb : Below B w w') : Ts w' B l A c := ⟨h.1, h.2.1, h.2.2.1, h.2.2.2.1.keep fun _ hp => hb.cell hp, h.2.2.2.2⟩
theorem Ts.more (h : Ts w B l A c) (hB : B ≤ B') : Ts w B' l A c := ⟨h.1, h.2.1, h.2.2.1, h.2.2.2.1.more hB, h.2.2.2.2⟩
theorem Ts.at_world {wr : World} (h : Ts w w.heap.size l A c) (hb : Below w.heap.size w wr) : Ts wr wr.heap.size l A c := (h.below hb).more hb.size
theorem Ts.nil (w : World) (B : Nat) : Ts w B [] none 0 := ⟨Nat.le_refl _, by simp, fun _ => rfl, Rd.nil _ _ _, fun x h => by cases h⟩
theorem sts_at (l : List ByteArray) {j : Nat} (hj : j < l.length) : (sts l)[j]? = some (.string l[j]) := by simp [sts, hj]
theorem Ts.at_ (h : Ts w B l A c) {j : Nat} (hj : j < l.length) : ∃ b off, A = some ⟨b, off, none⟩ ∧ b < B ∧ w.cell? ⟨b, off + j, none⟩ = some (.string l[j]) := by
  obtain ⟨b, off, e, hb, c0⟩ := h.2.2.2.1 _ _ (sts_at l hj)
  exact ⟨b, off, e, hb, c0⟩
theorem Ts.keep {S : Nat → Prop} (h : Ts w B l A c) (hk : Keep S w w') (hB : B ≤ w.heap.size) (hne : ∀ b off, A = some ⟨b, off, none⟩ → ¬ S b) : Ts w' B l A c :=
  ⟨h.1, h.2.1, h.2.2.1, fun j u hj => by
    obtain ⟨b, off, e, hb, hc⟩ := h.2.2.2.1 j u hj
    exact ⟨b, off, e, hb, (hk.cell (p := ⟨b, off + j, none⟩) (Nat.lt_of_lt_of_le hb hB) (hne b off e)).trans hc⟩, h.2.2.2.2⟩
end
abbrev hasP (s t : ByteArray) : Bool := Lib.hasPrefix (bn s) (bn t)

set_option maxRecDepth 100000 in
set_option maxHeartbeats 2000000 in
theorem beginsC_any (s t : ByteArray) (g : Nat) (w : World) (hc : w.cell? ⟨g, 0, none⟩ = some (.string s)) :
    Calls Try.prog 114 #[.string t, .pointer (some ⟨g, 0, none⟩)] w fun e w' => e = .returned (.bool (hasP s t)) ∧ w' = w := by
  go_enter Try.func114, Try.ntmps114
  go_wp2_with fail
  refine (Try.strings_HasPrefix s t w).mono ?_
  rintro e w' ⟨rfl, rfl⟩
  go_wp2_with fail
  go_ret
  exact ⟨rfl, rfl⟩

set_option maxRecDepth 100000 in
set_option maxHeartbeats 2000000 in
theorem index_any (s : ByteArray) (l : List ByteArray) (A : Option Addr) (c g : Nat) (w : World) (hT : Ts w w.heap.size l A c) (hc : w.cell? ⟨g, 0, none⟩ = some (.string s)) :
    Calls Try.prog 144 #[.slice A l.length c, (.func (.func 114) #[] #[.pointer (some ⟨g, 0, none⟩)])] w fun e w' => ∃ i : Int, e = .returned (.int .i64 i) ∧ decide (0 ≤ i) = l.any (hasP s) ∧ w' = w := by
  have hlen : l.length ≤ 140737488355328 := by have := hT.2.1; omega
  have hcl := fun t => beginsC_any s t g w hc
  go_enter Try.func144, Try.ntmps144
  go_wp2_with fail
  go_loopw [8] (fun i wr => ∃ j : Nat, j ≤ l.length ∧ i = .int .i64 (j : Int) ∧ wr = w ∧ Hid (l.any (hasP s) = (l.drop j).any (hasP s))) (fun i _ => l.length - (intOf i).toNat)
  case atStart => exact ⟨0, Nat.zero_le _, rfl, rfl, vers.lay rfl⟩
  case round =>
    obtain ⟨j, hj, rfl, rfl, hH⟩ := hrel
    by_cases hlt : j < l.length
    · obtain ⟨b, off, rfl, hb, e0⟩ := hT.at_ hlt
      have hH2 := vers.lay (hH.out.trans (by rw [List.drop_eq_getElem_cons hlt, List.any_cons]))
      clear hH
      have hcj := hcl l[j]
      generalize l[j] = t at e0 hcj hH2
      cases hp : hasP s t with
      | true =>
        rw [hp] at hcj
        have hH3 := vers.lay (hH2.out.trans (by rw [hp, Bool.true_or]))
        clear hH2 hp hcl
        go_wp2_with (first | (go_at_call 114; refine hcj.mono ?_; rintro e1 w1 ⟨rfl, rfl⟩))
        go_ret
        exact ⟨_, rfl, by rw [hH3.out]; simp, rfl⟩
      | false =>
        rw [hp] at hcj
        have hH3 := vers.lay (hH2.out.trans (by rw [hp, Bool.false_or]))
        clear hH2 hp hcl
        go_wp2_with (first | (go_at_call 114; refine hcj.mono ?_; rintro e1 w1 ⟨rfl, rfl⟩))
        exact ⟨⟨j + 1, hlt, by go_num, by trivial, hH3⟩, by first | (simp [intOf]; done) | (simp [intOf]; omega) | omega⟩
    · obtain rfl : j = l.length := by omega
      have hH3 := vers.lay (hH.out.trans (by rw [List.drop_length, List.any_nil]))
      clear hH
      go_wp2_with fail
      go_ret
      exact ⟨-1, rfl, by rw [hH3.out]; rfl, rfl⟩

set_option maxRecDepth 100000 in
set_option maxHeartbeats 2000000 in
theorem contains_any (s : ByteArray) (l : List ByteArray) (A : Option Addr) (c g : Nat) (w : World) (hT : Ts w w.heap.size l A c) (hc : w.cell? ⟨g, 0, none⟩ = some (.string s)) :
    Calls Try.prog 113 #[.slice A l.length c, (.func (.func 114) #[] #[.pointer (some ⟨g, 0, none⟩)])] w fun e w' => e = .returned (.bool (l.any (hasP s))) ∧ w' = w := by
  have hi := index_any s l A c g w hT hc
  generalize l.any (hasP s) = r at hi ⊢
  go_enter Try.func113, Try.ntmps113
  go_wp2_with fail
  refine hi.mono ?_
  rintro e w' ⟨i, rfl, hd, rfl⟩
  by_cases h0 : 0 ≤ i
  · have d0 := decide_eq_true h0
    go_wp2_with fail
    go_ret
    exact ⟨by rw [← hd, d0]; rfl, rfl⟩
  · have d0 := decide_eq_false h0
    go_wp2_with fail
    go_ret
    exact ⟨by rw [← hd, d0]; rfl, rfl⟩

set_option maxRecDepth 100000 in
set_option maxHeartbeats 2000000 in
theorem begins_any (s : ByteArray) (l : List ByteArray) (A : Option Addr) (c : Nat) (w : World) (hT : Ts w w.heap.size l A c) :
    Calls Try.prog 74 #[.string s, .slice A l.length c] w fun e w' => e = .returned (.bool (l.any (hasP s))) ∧ Below w.heap.size w w' := by
  have bA : Below w.heap.size w (w.alloc (.cells #[.string s] 9)) := (Below.refl _ _).alloc (Nat.le_refl _) _
  have k0 := (Blk.new w 9 #[.string s]).cell 0
  have hc := contains_any s l A c w.heap.size _ (hT.at_world bA) (by simp [k0])
  go_enter Try.func74, Try.ntmps74
  go_wp2_with fail
  refine hc.mono ?_
  rintro e w' ⟨rfl, rfl⟩
  go_wp2_with fail
  go_ret
  exact ⟨rfl, bA⟩

/-! ### a map ranged over -/
theorem key_inv {key : Value} {kl : Lit} (h : keyOf Try.prog 9 key = some kl) : ∃ s : ByteArray, key = .string s ∧ kl = ks s ∧ s.size ≤ maxLen := by
  cases key <;> simp [keyOf, Try.underlying9, mapKey] at h
  exact ⟨_, rfl, h.2.symm, h.1⟩
section
variable {ops : Array Oper} {rest : List Oper} {o : Oper} {a : Act} {Q : Exit → Act → World → Prop}
theorem wp_next (w : World) (hg : o.guard = none) (it : Operand) (hop : o.op = Op.next it false) (R : Value → Option (DataW Value × List MemPlace)) {ms r n : Nat} {D : DataW Value} {left : Lit → Bool} {cnt : Nat} (hit : a.eval it = .pointer (some ⟨r, 0, none⟩)) (h : w.ranges Try.prog 9 R ms r n D left cnt)
    (hDone : cnt = 0 → (∀ kl, left kl = false) → wpList Try.prog ops Q rest (a.put o.dst (.tuple #[.bool false])) w)
    (hMore : ∀ (x : ByteArray) (v : Value) (w' : World) (cnt' : Nat), x.size ≤ maxLen → Maps.has D (ks x) = true → left (ks x) = true → w'.ranges Try.prog 9 R ms r n D (fun z => left z && !z.sameKey (ks x)) cnt' → cnt' < cnt →
      w.grownBy w' (some r) → w'.heap.size = w.heap.size → (Instr.entry (.pointer (some ⟨r, 0, none⟩))).run Try.prog w' = .ok (.tuple #[.string x, v]) w' → wpList Try.prog ops Q rest (a.put o.dst (.tuple #[.bool true, .string x, v])) w') :
    wpList Try.prog ops Q (o :: rest) a w :=
  wpList_next_ranges w hg it hop 9 kK R (fun v : Value => v) (fun v : Value => v) (fun key _ _ => ⟨key, rfl⟩) (fun v _ _ => ⟨v, rfl⟩) ms r n D left cnt hit h hDone
    (fun x c kl y w' cnt' hkey hlk _ hat hrg hlt hgr hsz hen => by
      obtain ⟨s, rfl, rfl, hs⟩ := key_inv hkey
      exact hMore s c w' cnt' hs (Maps.has_true_of_atKey hat) hlk hrg hlt hgr hsz hen)
/-- append of one text -/
theorem wp_text (hgd : o.guard = none) (s x : Operand) (ho : o.op = .call { callee := .builtin .append, args := #[s, x], argTypes := #[22, 22] })
    {w : World} {v : Value} {l : List ByteArray} {b : ByteArray} (hown : w.ownsRow 0 9 1 v l.length (sts l)) (hs : a.eval s = v) {q : Nat} (hx : a.eval x = .slice (some ⟨q, 0, none⟩) 1 1) (hqz : q = w.heap.size) (hlen : l.length ≤ 1000000)
    (h : ∀ v' w', w'.ownsRow 0 9 1 v' (l ++ [b]).length (sts (l ++ [b])) → Keep (fun g => v.ownBlock = some g) w w' → (∀ g, v'.ownBlock = some g → v.ownBlock = some g ∨ (w.heap.size ≤ g ∧ g < w'.heap.size)) → w.heap.size + 1 ≤ w'.heap.size → wpList Try.prog ops Q rest (a.put o.dst v') w') :
    wpList Try.prog ops Q (o :: rest) a (w.alloc (.cells #[.string b] 9)) := by
  obtain ⟨i0, hi0, hz0, hz1, hz2⟩ := info_parts info9
  refine wpList_put1 Try.underlying22 hi0 hz0 hz1 hz2 rfl (by decide) hgd s x ho hown hs rfl (by intro u hu; simp at hu; subst hu; rfl) hx hqz (by omega) (by unfold maxLen; omega) ?_
  intro v' w' h1 h2 h3 h4
  refine h v' w' ?_ h2 h3 h4
  rw [List.length_append, sts_append]
  exact h1
end
theorem ranges_keep {S : Nat → Prop} {H : Type} {P : Program} {k : TypeId} {R : Value → Option (DataW H × List MemPlace)} {w w' : World} {b r n : Nat} {D : DataW H} {left : Lit → Bool} {cnt : Nat} (h : w.ranges P k R b r n D left cnt) (hk : Keep S w w') (hb : ¬ S b) (hr : ¬ S r) : w'.ranges P k R b r n D left cnt := by
  obtain ⟨es, clock, since, seen, c0, h1, h2, h3, h4, h5, h6⟩ := h
  have l1 := (Array.getElem?_eq_some_iff.1 h1).1
  have l2 := (Array.getElem?_eq_some_iff.1 h5).1
  exact ⟨es, clock, since, seen, c0, (hk.block b l1 hb).trans h1, h2, h3, h4, (hk.block r l2 hr).trans h5, h6⟩
/-- what has been gathered of the keys of a map -/
def Coll (N : List ByteArray) (ok : ByteArray → Bool) (left : Lit → Bool) (cnt : Nat) (out : List ByteArray) : Prop := (∀ s, s ∈ out ↔ s ∈ N ∧ ok s = true ∧ left (ks s) = false) ∧ out.Nodup ∧ out.length + cnt ≤ N.length
theorem Coll.skip {N : List ByteArray} {ok : ByteArray → Bool} {left : Lit → Bool} {cnt cnt' : Nat} {out : List ByteArray} {x : ByteArray} (h : Coll N ok left cnt out) (hx : ok x = false) (hc : cnt' < cnt) : Coll N ok (fun z => left z && !z.sameKey (ks x)) cnt' out := by
  refine ⟨fun s => ?_, h.2.1, by have := h.2.2; omega⟩
  rw [h.1 s]
  simp only [ks_same]
  by_cases e : s = x
  · subst e; simp [hx]
  · simp [e]
theorem Coll.take {N : List ByteArray} {ok : ByteArray → Bool} {left : Lit → Bool} {cnt cnt' : Nat} {out : List ByteArray} {x : ByteArray} (h : Coll N ok left cnt out) (hx : ok x = true) (hN : x ∈ N) (hl : left (ks x) = true) (hc : cnt' < cnt) : Coll N ok (fun z => left z && !z.sameKey (ks x)) cnt' (out ++ [x]) := by
  have hn : x ∉ out := fun hm => by
    have := ((h.1 x).1 hm).2.2
    rw [hl] at this; cases this
  refine ⟨fun s => ?_, List.nodup_append.2 ⟨h.2.1, by simp, fun a ha b hb e => ?_⟩, by have := h.2.2; simp; omega⟩
  · rw [List.mem_append, h.1 s, List.mem_singleton]
    simp only [ks_same]
    by_cases e : s = x
    · subst e; simp [hx, hN]
    · simp [e]
  · rw [List.mem_singleton] at hb
    subst hb e
    exact hn ha
theorem Coll.start (N : List ByteArray) (ok : ByteArray → Bool) (left : Lit → Bool) (h : ∀ s ∈ N, left (ks s) = true) : Coll N ok left N.length [] :=
  ⟨fun s => ⟨(fun h => by cases h), fun ⟨h1, _, h2⟩ => by rw [h s h1] at h2; cases h2⟩, List.nodup_nil, by simp⟩
theorem srt_props (l : List (List UInt8)) (hn : l.Nodup) : (srt l).Pairwise (· < ·) ∧ ∀ x, x ∈ srt l ↔ x ∈ l := by
  have hp : (srt l).Perm l := List.mergeSort_perm _ _
  have h1 : (srt l).Pairwise fun x y => decide (x ≤ y) = true := List.pairwise_mergeSort (fun a b c h1 h2 => by simp only [decide_eq_true_eq] at *; exact List.le_trans h1 h2) (fun a b => by simpa using List.le_total a b) l
  have h2 : (srt l).Nodup := hp.nodup_iff.2 hn
  refine ⟨?_, fun x => hp.mem_iff⟩
  have h3 := h1.and h2
  exact h3.imp fun {a b} h => by
    have h4 := of_decide_eq_true h.1
    rcases Decidable.em (a < b) with h5 | h5
    · exact h5
    · exact absurd (List.le_antisymm h4 (List.not_lt.1 h5)) h.2
/-- gathered to the end, and sorted -/
theorem Coll.done {N : List ByteArray} {ok : ByteArray → Bool} {left : Lit → Bool} {cnt : Nat} {out : List ByteArray} (h : Coll N ok left cnt out) (hl : ∀ kl, left kl = false) (hN : (N.map bn).Pairwise (· < ·)) : srt (brs out) = (N.filter ok).map bn := by
  have hbn : (brs out).Nodup := by
    unfold brs
    exact List.Pairwise.map _ (fun a b (hab : a ≠ b) e => hab (bn_ext e)) h.2.1
  obtain ⟨h1, h2⟩ := srt_props (brs out) hbn
  have h3 : ((N.filter ok).map bn).Pairwise (· < ·) := hN.sublist ((List.filter_sublist).map _)
  refine rising_eq _ _ h1 h3 fun x => ?_
  rw [h2]
  constructor
  · intro hx
    obtain ⟨s, hs, rfl⟩ := List.mem_map.1 hx
    have := (h.1 s).1 hs
    exact List.mem_map.2 ⟨s, List.mem_filter.2 ⟨this.1, this.2.1⟩, rfl⟩
  · intro hx
    obtain ⟨s, hs, rfl⟩ := List.mem_map.1 hx
    obtain ⟨h4, h5⟩ := List.mem_filter.1 hs
    exact List.mem_map.2 ⟨s, (h.1 s).2 ⟨h4, h5, hl _⟩, rfl⟩
theorem own_txt {B : Nat} {w : World} {v : Value} {l : List (List UInt8)} (h : w.ownsRow B 9 1 v l.length (l.map encStr)) (hl : l.length ≤ 140737488355328) : Txt w B v l := by
  rcases h.2 with ⟨rfl, h0⟩ | ⟨g, cap, cur, rfl, hbase, hb, h1, h2, h3, h4⟩
  · obtain rfl : l = [] := List.eq_nil_of_length_eq_zero h0
    exact ⟨none, 0, rfl, Nat.zero_le _, fun j hj => absurd hj (Nat.not_lt_zero _)⟩
  · have hg := (Array.getElem?_eq_some_iff.1 hb).1
    have ht : cur.toList.take l.length = l.map encStr := by rw [← h4, Nat.mul_one]
    have hH := holds_of_block hb ht
    refine ⟨some ⟨g, 0, none⟩, cap, rfl, hl, fun j hj => ⟨g, rfl, hbase, hg, ?_⟩⟩
    have := (hH j (by simpa using hj)).1
    rw [Nat.zero_add] at this
    rw [this]
    simp [hj]

end Go.Proofs.Ytjlglfjikfpboaa.books
