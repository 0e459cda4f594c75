/- A list of terms that a call builds by append: what it holds, what an append leaves. -/
import Derived.Test.YtgdmhfdlijeogaaCopied
import Derived.Maps.AppendAt
import Derived.Deep.AppendLies
namespace Go.Proofs.Ytgdmhfdlijeogaa.built
set_option linter.unusedVariables false
set_option linter.unusedSimpArgs false
open Go.RowKit Go.Proofs.Ytgdmhfdlijeogaa.base Go.Proofs.Ytgdmhfdlijeogaa.tm Go.Proofs.Ytgdmhfdlijeogaa.lies Go.Proofs.Ytgdmhfdlijeogaa.rights Go.Proofs.Ytgdmhfdlijeogaa.copies

/-- the cells xs are the terms l, as long as the blocks of Q are left alone -/
def HeldQ (w : World) (Q : Nat → Prop) (l : List T) (xs : List Value) : Prop :=
  ∀ w2 B2, w.heap.size ≤ B2 → (∀ p : Addr, Q p.block → w2.cell? p = w.cell? p) → LiesL w2 B2 l xs
/-- the slice v, built by append in blocks from lo on, is the terms l -/
def Built (lo : Nat) (w : World) (l : List T) (v : Value) : Prop :=
  ∃ xs, w.ownsRow lo 25 4 v l.length xs ∧ HeldQ w (fun k => lo ≤ k ∧ k < w.heap.size ∧ some k ≠ v.ownBlock) l xs

theorem Built.nil (lo : Nat) (w : World) : Built lo w [] (.slice none 0 0) := ⟨[], ⟨rfl, .inl ⟨rfl, rfl⟩⟩, fun _ _ _ _ => rfl⟩
theorem Built.own {lo : Nat} {w : World} {l : List T} {v : Value} (h : Built lo w l v) : ∀ k, v.ownBlock = some k → lo ≤ k ∧ k < w.heap.size := by
  obtain ⟨xs, h1, _⟩ := h
  exact h1.lt
/-- what turns blocks below lo alone, and makes new ones -/
theorem Built.kept {lo : Nat} {w w' : World} {l : List T} {v : Value} (h : Built lo w l v) {row : Option Nat} (hg : w.grownBy w' row) (hr : ∀ g, row = some g → g < lo) : Built lo w' l v := by
  have hown := h.own
  obtain ⟨xs, h1, h2⟩ := h
  refine ⟨xs, h1.kept hg ?_, fun w2 B2 hB ha => h2 w2 B2 (Nat.le_trans hg.size hB) fun p hp => ?_⟩
  · cases hv : v.ownBlock with
    | none => exact .inl rfl
    | some k =>
      refine .inr fun e => ?_
      have := hr k e.symm
      have := (hown k hv).1
      omega
  · rw [ha p ⟨hp.1, Nat.lt_of_lt_of_le hp.2.1 hg.size, hp.2.2⟩]
    exact World.cell?_of_block (hg.block p.block hp.2.1 fun e => by have := hr p.block e.symm; omega)
theorem Built.below {lo : Nat} {w w' : World} {l : List T} {v : Value} (h : Built lo w l v) (hb : Below w.heap.size w w') : Built lo w' l v :=
  h.kept (row := none) (grown_below (World.grownBy.refl w none) hb) (fun g e => by cases e)
theorem Built.form {lo : Nat} {w : World} {l : List T} {v : Value} (h : Built lo w l v) : ∃ A c, v = .slice A l.length c ∧ l.length ≤ c := by
  obtain ⟨xs, h1, _⟩ := h
  rcases h1.2 with ⟨rfl, hn⟩ | ⟨g, cap, cur, rfl, _, _, hc, _⟩
  · exact ⟨none, 0, by rw [hn], by omega⟩
  · exact ⟨_, cap, rfl, hc⟩
theorem Built.held {lo : Nat} {w : World} {l : List T} {v : Value} (h : Built lo w l v) (hl : l.length * 56 ≤ 140737488355328) : Held w lo w.heap.size l v := by
  obtain ⟨xs, h1, h2⟩ := h
  rcases h1.2 with ⟨rfl, hn⟩ | ⟨g, cap, cur, rfl, hg, hb, hc, _, hs, ht⟩
  · obtain rfl := List.eq_nil_of_length_eq_zero hn
    exact Held.nil _ _ _
  · have hlt : g < w.heap.size := Blk.lt (t := 25) (cs := cur) hb
    refine ⟨_, cap, rfl, hc, hl, fun w2 B2 hB ha => ⟨xs, fun j u hj => ⟨g, 0, rfl, by omega, ?_⟩, h2 w2 B2 hB fun p hp => ha p hp.1 hp.2.1⟩⟩
    rw [ha ⟨g, 0 + j, none⟩ hg hlt, Nat.zero_add, Blk.cell (t := 25) (cs := cur) hb]
    rw [← ht, List.getElem?_take] at hj
    split at hj
    · simpa using hj
    · cases hj

/-- append of one term, whose own list lies in blocks from lo' on -/
theorem wpList_append_term {ops : Array Oper} {rest : List Oper} {o : Oper} {a : Act} {Q : Exit → Act → World → Prop} (hgd : o.guard = none) (s x : Operand)
    (ho : o.op = .call { callee := .builtin .append, args := #[s, x], argTypes := #[23, 23] })
    {lo lo' hi : Nat} {w : World} {v : Value} {l : List T} {t : T} {vt : Value} {cs : Array Value} (hcs : cs.toList = T.cells t vt) (hB : Built lo w l v) (hs : a.eval s = v) (hlo : lo ≤ w.heap.size)
    (ht : Held w lo' hi t.l vt) (hhi : hi ≤ w.heap.size) (hlo' : lo ≤ lo') (hown : ∀ k, v.ownBlock = some k → k < lo')
    (k1 : -9223372036854775808 ≤ t.k ∧ t.k ≤ 9223372036854775807) (k2 : 0 ≤ t.n ∧ t.n < 18446744073709551616) (k3 : t.s.size ≤ maxLen)
    {n : Nat} (hx : a.eval x = .slice (some ⟨n, 0, none⟩) 1 1) (hnz : n = w.heap.size) (hlen : (l.length + 1) * 56 ≤ 140737488355328)
    (h : ∀ v' w', Built lo w' (l ++ [t]) v' → Below lo w w' → w.heap.size ≤ w'.heap.size → (∀ g T cs, T ≠ 25 → Blk w g T cs → Blk w' g T cs) → wpList Try.prog ops Q rest (a.put o.dst v') w') : wpList Try.prog ops Q (o :: rest) a (w.alloc (.cells cs 25)) := by
  subst hnz
  obtain ⟨i0, hi0, hz0, hz1, hz2⟩ := info_parts info30
  have hBa := hB.below ((Below.refl _ _).alloc (Nat.le_refl _) (.cells cs 25))
  obtain ⟨xs, h1, h2⟩ := hBa
  have hnews := World.news_of_block (cs := cs) (t := 25) (fr := (0, 0)) (heap_alloc_new w (.cells cs 25))
  rw [hcs] at hnews
  refine wpList_append_own_at _ hgd s x 23 ho lo 25 i0 _ 4 56 Try.underlying23 hi0 hz0 hz1 hz2 rfl (by decide) v l.length xs hs h1 ⟨w.heap.size, 0, none⟩ 1 1 (T.cells t vt) hx rfl hnews ?_ (by unfold maxLen; omega) hlen (by simp; omega) ?_
  · obtain ⟨A, c, rfl, _⟩ := ht
    intro u hu
    simp [T.cells] at hu
    rcases hu with rfl | rfl | rfl | rfl <;> rfl
  · intro v' w' ho' hg _ hat
    have hz := hg.size
    simp only [World.size_alloc] at hz
    have hown0 : ∀ k, v.ownBlock = some k → lo ≤ k ∧ k < w.heap.size := hB.own
    have hkeep : ∀ p : Addr, p.block < w.heap.size → some p.block ≠ v.ownBlock → w'.cell? p = w.cell? p := fun p hp hne => by
      rw [World.cell?_of_block (hg.block p.block (by simp; omega) hne), World.cell?_alloc_lt _ _ _ hp]
    refine h v' w' ⟨xs ++ T.cells t vt, ?_, ?_⟩ ?_ (by omega) ?_
    · rw [List.length_append]; exact ho'
    · have hQ : ∀ k, lo ≤ k → k < w.heap.size → some k ≠ v.ownBlock → some k ≠ v'.ownBlock := fun k _ hk2 hk3 => by
        rcases hat with e | e
        · rw [e]; exact hk3
        · rw [e]; simp; omega
      intro w2 B2 hB2 ha
      have hl := h2 w2 B2 (by simp; omega) fun p hp => ?_
      · obtain ⟨A, c, e, hl1, hl2, hh⟩ := ht
        obtain ⟨ys, hr, hL⟩ := hh w2 B2 (by omega) fun p p1 p2 => by
          have hne : some p.block ≠ v.ownBlock := fun e => by have := hown p.block e.symm; omega
          rw [ha p ⟨by omega, by omega, hQ p.block (by omega) (by omega) hne⟩]
          exact hkeep p (by omega) hne
        subst e
        exact hl.snoc (Lies.mk k1 k2 k3 hl1 hl2 hr hL)
      · obtain ⟨q1, q2, q3⟩ := hp
        simp only [World.size_alloc] at q2
        rcases Nat.lt_or_ge p.block w.heap.size with hlt | hge
        · rw [ha p ⟨q1, by omega, hQ _ q1 hlt q3⟩, World.cell?_of_block (hg.block p.block (by simp; omega) q3)]
        · have hpb : p.block = w.heap.size := by omega
          have q4 : some p.block ≠ v'.ownBlock := by
            rcases hat with e | e
            · rw [e]; exact q3
            · rw [e]; simp; omega
          rw [ha p ⟨q1, by omega, q4⟩, World.cell?_of_block (hg.block p.block (by simp; omega) q3)]
    · refine ((Below.refl lo w).alloc hlo _).grown hg (by simp; omega) fun k hk => (hown0 k hk).1
    · intro g T cs' hT hb
      have hb1 := Blk.alloc hb (.cells cs 25)
      refine (hg.block g hb1.lt fun e => ?_).trans hb1
      rcases h1.2 with ⟨rfl, _⟩ | ⟨g', cap, cur, rfl, _, hh, _⟩
      · simp [Value.ownBlock] at e
      · simp [Value.ownBlock] at e
        subst e
        unfold Blk at hb1
        rw [hh] at hb1
        injection hb1 with hb1
        injection hb1 with _ hb1
        exact hT hb1.symm
end Go.Proofs.Ytgdmhfdlijeogaa.built
