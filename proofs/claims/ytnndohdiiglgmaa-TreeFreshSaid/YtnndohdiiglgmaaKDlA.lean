/- What Delete makes of a tree that may be, in pure words. -/
import Derived.Test.YtnndohdiiglgmaaKTrBa


namespace Go.Proofs.Ytnndohdiiglgmaa.trees
set_option linter.unusedVariables false
set_option linter.unusedSimpArgs false
open Go.RowKit Go.Proofs.Ytnndohdiiglgmaa.base Go.Proofs.Ytnndohdiiglgmaa.vers Go.Proofs.Ytnndohdiiglgmaa.nodes Go.Proofs.Ytnndohdiiglgmaa.quotas

/-- secrets without the one of a name -/
def outP (L : List PE) (s : ByteArray) : List PE := L.filter fun y => decide (y.1 ≠ s)
theorem outP_app (a b : List PE) (s : ByteArray) : outP (a ++ b) s = outP a s ++ outP b s := List.filter_append _ _
theorem outP_none {a : List PE} {s : ByteArray} (h : s ∉ nm a) : outP a s = a := List.filter_eq_self.2 fun y hy => decide_eq_true fun e => h (List.mem_map.2 ⟨y, hy, e⟩)
theorem outP_len {s : ByteArray} : ∀ {L : List PE}, Inc (nm L) → s ∈ nm L → (outP L s).length + 1 = L.length
  | [], _, h => by cases h
  | x :: L, hI, h => by
    obtain ⟨h1, h2⟩ := List.pairwise_cons.1 (show Inc (x.1 :: nm L) from hI)
    by_cases hx : x.1 = s
    · have hn : s ∉ nm L := fun hs => by
        have := h1 s hs
        rw [hx, ltS_irrefl] at this
        cases this
      have e : outP (x :: L) s = L := by
        have := outP_none hn
        unfold outP at this ⊢
        rw [List.filter_cons, if_neg (by simp [hx])]
        exact this
      rw [e, List.length_cons]
    · have hs : s ∈ nm L := by
        rcases List.mem_cons.1 (show s ∈ x.1 :: nm L from h) with e | e
        · exact absurd e.symm hx
        · exact e
      have e : outP (x :: L) s = x :: outP L s := by
        unfold outP
        rw [List.filter_cons, if_pos (by simp [hx])]
      rw [e, List.length_cons, List.length_cons, outP_len h2 hs]
theorem outP_mid {a m b : List PE} {s : ByteArray} (ha : ∀ y ∈ nm a, ltS y s = true) (hb : ∀ y ∈ nm b, ltS s y = true) : outP (a ++ m ++ b) s = a ++ outP m s ++ b := by
  have hna : s ∉ nm a := fun h => by
    have := ha s h
    rw [ltS_irrefl] at this
    cases this
  have hnb : s ∉ nm b := fun h => by
    have := hb s h
    rw [ltS_irrefl] at this
    cases this
  rw [outP_app, outP_app, outP_none hna, outP_none hnb]

/-! ### several put together -/
/-- one node of several -/
def oneOf (lf : Bool) (l : List P3) : P3 := (lf, l.flatMap (·.2.1), l.flatMap (·.2.2))
def joinP (a : List P3) (y : P3) (b : List P3) : List P3 :=
  if a.length + 1 + b.length = 1 then [y] else
    let o := oneOf y.1 (a ++ [y] ++ b)
    if partsP o ≤ 3 then [o] else halvesP o
theorem join_none (y : P3) : joinP [] y [] = [y] := rfl
theorem halves_ok {ns : List P3} {h : Nat} {y : P3} {L : List PE} (t : Tree ns h y L) (hp : 4 ≤ partsP y ∧ partsP y ≤ 5) :
    KidsOf (ns ++ halvesP y) (Tree (ns ++ halvesP y) h) (laidP ns.length (halvesP y)) L ∧ (halvesP y).length = 2 := by
  have two : ∀ (a b : P3) (La Lb : List PE), Tree ns h a La → Tree ns h b Lb → (2 ≤ partsP a ∧ partsP a ≤ 4) → (2 ≤ partsP b ∧ partsP b ≤ 4) → L = La ++ Lb → KidsOf (ns ++ [a, b]) (Tree (ns ++ [a, b]) h) (laidP ns.length [a, b]) L := fun a b La Lb ta tb pa pb e =>
    ⟨La, Lb, a, e, pageAt_new ns [a, b] 0 a rfl, ta.app _, ta.low, pa, ⟨Lb, [], b, by simp, pageAt_new ns [a, b] 1 b rfl, tb.app _, tb.low, pb, rfl⟩⟩
  obtain ⟨k, hk⟩ : ∃ k, k = (partsP y + 1) / 2 := ⟨_, rfl⟩
  unfold halvesP
  rw [← hk]
  cases h with
  | zero =>
    cases (show y = (true, L, []) from t)
    have hl : partsP (true, L, []) = L.length := rfl
    rw [hl] at hk hp
    refine ⟨two (true, L.take k, []) (true, L.drop k, []) (L.take k) (L.drop k) rfl rfl ?_ ?_ (List.take_append_drop k L).symm, rfl⟩
    · simp only [partsP, if_true, List.length_take]; omega
    · simp only [partsP, if_true, List.length_drop]; omega
  | succ h =>
    obtain ⟨a, b, c, d⟩ := t
    have hl : partsP y = y.2.2.length := by simp [partsP, a]
    rw [hl] at hk hp
    rw [← List.take_append_drop k y.2.2] at d
    obtain ⟨La, Lb, e, da, db⟩ := d.cut
    have q1 : (y.2.2.take k).length = k := by rw [List.length_take]; omega
    have q2 : (y.2.2.drop k).length = y.2.2.length - k := List.length_drop
    simp only [a, Bool.false_eq_true, if_false]
    refine ⟨two (false, [], y.2.2.take k) (false, [], y.2.2.drop k) La Lb ⟨rfl, rfl, fun e => ?_, da⟩ ⟨rfl, rfl, fun e => ?_, db⟩ ?_ ?_ e, rfl⟩
    · have := congrArg List.length e; rw [q1, List.length_nil] at this; omega
    · have := congrArg List.length e; rw [q2, List.length_nil] at this; omega
    · simp only [partsP, Bool.false_eq_true, if_false]; omega
    · simp only [partsP, Bool.false_eq_true, if_false]; omega
/-- two trees of one height, put together -/
theorem one_ok {ns : List P3} {h : Nat} {a b : P3} {La Lb : List PE} (ta : Tree ns h a La) (tb : Tree ns h b Lb) (lf : Bool) (hf : lf = a.1 ∨ lf = b.1) :
    Tree ns h (oneOf lf [a, b]) (La ++ Lb) ∧ partsP (oneOf lf [a, b]) = partsP a + partsP b := by
  cases h with
  | zero =>
    cases (show a = (true, La, []) from ta)
    cases (show b = (true, Lb, []) from tb)
    have hlf : lf = true := by rcases hf with h | h <;> exact h
    subst hlf
    refine ⟨?_, ?_⟩
    · show oneOf true _ = _
      simp [oneOf]
    · simp [oneOf, partsP]
  | succ h =>
    obtain ⟨a1, a2, a3, a4⟩ := ta
    obtain ⟨b1, b2, b3, b4⟩ := tb
    have hlf : lf = false := by rcases hf with h | h <;> rw [h] <;> assumption
    subst hlf
    refine ⟨⟨rfl, by simp [oneOf, a2, b2], fun e => ?_, ?_⟩, ?_⟩
    · simp [oneOf] at e
      exact a3 e.1
    · have := a4.app b4
      simpa [oneOf] using this
    · simp [oneOf, partsP, a1, b1]
theorem pair_ok {ns : List P3} {h : Nat} {a b : P3} {La Lb : List PE} (ta : Tree ns h a La) (tb : Tree ns h b Lb) (lf : Bool) (hf : lf = a.1 ∨ lf = b.1) (hp : 3 ≤ partsP a + partsP b ∧ partsP a + partsP b ≤ 5) :
    ∃ J, (if partsP (oneOf lf [a, b]) ≤ 3 then [oneOf lf [a, b]] else halvesP (oneOf lf [a, b])) = J ∧ KidsOf (ns ++ J) (Tree (ns ++ J) h) (laidP ns.length J) (La ++ Lb) ∧ J.length = (if partsP a + partsP b ≤ 3 then 1 else 2) := by
  obtain ⟨t, hn⟩ := one_ok ta tb lf hf
  rw [← hn] at hp ⊢
  generalize oneOf lf [a, b] = o at *
  by_cases h3 : partsP o ≤ 3
  · refine ⟨[o], if_pos h3, ⟨La ++ Lb, [], o, by simp, pageAt_new ns [o] 0 o rfl, t.app _, t.low, by omega, rfl⟩, ?_⟩
    rw [if_pos h3]
    rfl
  · obtain ⟨h1, h2⟩ := halves_ok t ⟨by omega, by omega⟩
    refine ⟨halvesP o, if_neg h3, h1, ?_⟩
    rw [if_neg h3]
    exact h2

/-! ### the neighbours, ahead of all Writes -/
/-- the neighbours that a kid is put together with -/
def besideP (ns : List P3) (ks : List K) (i d : Nat) (lf : Bool) : Except Int (List P3 × List P3) :=
  match pageE ns (ks[if i + 1 < ks.length then i + 1 else i - 1]?.getD zK).r d with
  | .error e => .error e
  | .ok n => if n.1 ≠ lf then .ok ([], []) else if i + 1 < ks.length then .ok ([], [n]) else .ok ([n], [])
/-- a step of the way with its neighbours: node, place, ahead, behind -/
abbrev SD := P3 × Nat × List P3 × List P3
/-- between two steps: what was found, whether the child is a leaf, its parts, how deep it stands -/
abbrev NS := List SD × Bool × Nat × Nat
def nstep (ns : List P3) (s : NS) (x : P3 × Nat) : Except Int NS :=
  match (if s.2.2.1 < 2 ∧ 1 < x.1.2.2.length then besideP ns x.1.2.2 x.2 s.2.2.2 s.2.1 else .ok ([], [])) with
  | .error e => .error e
  | .ok (a, b) => .ok (s.1 ++ [(x.1, x.2, a, b)], x.1.1, x.1.2.2.length - (a.length + 1 + b.length) + (if a.length + b.length = 0 then 1 else if s.2.2.1 + (a ++ b).foldl (fun n y => n + partsP y) 0 ≤ 3 then 1 else 2), s.2.2.2 - 1)
def neighP (ns : List P3) (s : NS) (l : List (P3 × Nat)) : Except Int NS := l.foldlM (nstep ns) s
theorem neighP_snoc (ns : List P3) (s : NS) (l : List (P3 × Nat)) (x : P3 × Nat) {s' : NS} (h : neighP ns s l = .ok s') : neighP ns s (l ++ [x]) = nstep ns s' x := by
  unfold neighP at h ⊢
  rw [List.foldlM_append, h]
  show ([x].foldlM (nstep ns) s') = _
  rw [List.foldlM_cons]
  cases nstep ns s' x <;> rfl
def stepD (s : List P3 × P3) (x : SD) : List P3 × P3 := (s.1 ++ joinP x.2.2.1 s.2 x.2.2.2, (x.1.1, x.1.2.1, overK x.1.2.2 x.2.1 x.2.2.1.length x.2.2.2.length (laidP s.1.length (joinP x.2.2.1 s.2 x.2.2.2))))
def upD (s : List P3 × P3) (l : List SD) : List P3 × P3 := l.foldl stepD s
theorem upD_snoc (s : List P3 × P3) (l : List SD) (x : SD) : upD s (l ++ [x]) = stepD (upD s l) x := by simp [upD, List.foldl_append]
end Go.Proofs.Ytnndohdiiglgmaa.trees

/- Down to the leaf that holds a name, and up again without it. -/

namespace Go.Proofs.Ytnndohdiiglgmaa.trees
set_option linter.unusedVariables false
set_option linter.unusedSimpArgs false
open Go.RowKit Go.Proofs.Ytnndohdiiglgmaa.base Go.Proofs.Ytnndohdiiglgmaa.vers Go.Proofs.Ytnndohdiiglgmaa.nodes Go.Proofs.Ytnndohdiiglgmaa.quotas

theorem Tree.leaf {ns : List P3} {h : Nat} {x : P3} {L : List PE} (t : Tree ns h x L) : x.1 = decide (h = 0) := by
  cases h with
  | zero => cases (show x = (true, L, []) from t); rfl
  | succ h => exact t.1
theorem Tree.page {ns : List P3} {h : Nat} {y : P3} {L : List PE} {r : R} {d : Nat} (hr : pageAt ns r = some y) (t : Tree ns h y L) (hd : d ≤ 8) : pageE ns r d = .ok y := by
  unfold pageE
  rw [if_neg (by omega), hr]
  refine if_neg fun hc => ?_
  cases h with
  | zero => cases (show y = (true, L, []) from t); cases hc.1
  | succ h => exact t.2.2.1 hc.2
/-- kids among kids: a node one level up -/
theorem over_ok {ns m J : List P3} {h : Nat} {x : P3} {a b : List K} {La Lm Lb : List PE} (h1 : x.1 = false) (h2 : x.2.1 = []) (ka : KidsOf ns (Tree ns h) a La) (kb : KidsOf ns (Tree ns h) b Lb)
    (kj : KidsOf (ns ++ m ++ J) (Tree (ns ++ m ++ J) h) (laidP (ns ++ m).length J) Lm) (hJ : J ≠ []) :
    Tree (ns ++ (m ++ J)) (h + 1) (x.1, x.2.1, a ++ laidP (ns ++ m).length J ++ b) (La ++ Lm ++ Lb) := by
  have up1 : ∀ r z, pageAt ns r = some z → pageAt (ns ++ (m ++ J)) r = some z := pageAt_app _
  rw [List.append_assoc] at kj
  refine ⟨h1, h2, fun e0 => ?_, ?_⟩
  · have := congrArg List.length e0
    simp only [List.length_append, laidP_len, List.length_nil] at this
    have hj : 0 < J.length := List.length_pos_iff.2 hJ
    omega
  · exact ((ka.mono up1 (fun _ _ => Tree.mono up1 h _ _)).app kj).app (kb.mono up1 (fun _ _ => Tree.mono up1 h _ _))
theorem nstep_none {ns : List P3} {sts : List SD} {lf : Bool} {n d i : Nat} {x : P3} (h : ¬ n < 2) : nstep ns (sts, lf, n, d) (x, i) = .ok (sts ++ [(x, i, [], [])], x.1, x.2.2.length - 1 + 1, d - 1) := by
  unfold nstep
  simp only []
  rw [if_neg (fun hc => h hc.1)]
  rfl
theorem nstep_right {ns : List P3} {sts : List SD} {lf : Bool} {n d i : Nat} {x z : P3} (h : n < 2) (h2 : 1 < x.2.2.length) (hi : i + 1 < x.2.2.length) (hz : pageE ns (x.2.2[i + 1]?.getD zK).r d = .ok z) (hl : z.1 = lf) :
    nstep ns (sts, lf, n, d) (x, i) = .ok (sts ++ [(x, i, [], [z])], x.1, x.2.2.length - 2 + (if n + partsP z ≤ 3 then 1 else 2), d - 1) := by
  unfold nstep besideP
  simp only []
  rw [if_pos ⟨h, h2⟩, if_pos hi, hz]
  simp only [hl, ne_eq, not_true, if_false]
  rw [if_pos hi]
  simp
theorem nstep_left {ns : List P3} {sts : List SD} {lf : Bool} {n d i : Nat} {x z : P3} (h : n < 2) (h2 : 1 < x.2.2.length) (hi : ¬ i + 1 < x.2.2.length) (hz : pageE ns (x.2.2[i - 1]?.getD zK).r d = .ok z) (hl : z.1 = lf) :
    nstep ns (sts, lf, n, d) (x, i) = .ok (sts ++ [(x, i, [z], [])], x.1, x.2.2.length - 2 + (if n + partsP z ≤ 3 then 1 else 2), d - 1) := by
  unfold nstep besideP
  simp only []
  rw [if_pos ⟨h, h2⟩, if_neg hi, hz]
  simp only [hl, ne_eq, not_true, if_false]
  rw [if_neg hi]
  simp
theorem joinP_right (y z : P3) : joinP [] y [z] = if partsP (oneOf y.1 [y, z]) ≤ 3 then [oneOf y.1 [y, z]] else halvesP (oneOf y.1 [y, z]) := rfl
theorem joinP_left (y z : P3) : joinP [z] y [] = if partsP (oneOf y.1 [z, y]) ≤ 3 then [oneOf y.1 [z, y]] else halvesP (oneOf y.1 [z, y]) := rfl
/-- down to the leaf, and up again without the secret -/
theorem del_up {ns : List P3} (s : ByteArray) : ∀ (h : Nat) (x : P3) (L : List PE) (f d : Nat), Tree ns h x L → Inc (nm L) → s ∈ nm L → partsP x ≤ 4 → (0 < h → 2 ≤ partsP x) → h ≤ f → d + h ≤ 8 →
    ∃ way leaf, afterE ns s f x d = .ok (way, leaf) ∧ way.length = h ∧ leaf.1 = true ∧ Inc (leaf.2.1.map (·.1)) ∧ s ∈ nm leaf.2.1 ∧ (∀ p ∈ way, p.2 < p.1.2.2.length ∧ p.1.2.2.length ≤ 4) ∧ leaf.2.1.length ≤ 4 ∧
      ∃ sts m x', neighP ns ([], true, (outP leaf.2.1 s).length, d + h) way.reverse = .ok (sts, x'.1, partsP x', d) ∧
        upD (ns, (leaf.1, outP leaf.2.1 s, leaf.2.2)) sts = (ns ++ m, x') ∧ Tree (ns ++ m) h x' (outP L s) ∧ partsP x ≤ partsP x' + 1 ∧ partsP x' ≤ partsP x
  | 0, x, L, f, d, t, hI, hs, hp, hp2, hf, hd => by
    cases (show x = (true, L, []) from t)
    have hl : L.length ≤ 4 := hp
    have h2 := outP_len hI hs
    refine ⟨[], (true, L, []), by rw [afterE, if_pos rfl], rfl, rfl, hI, hs, (fun p hp => by cases hp), hl, [], [], (true, outP L s, []), rfl, by simp [upD], rfl, ?_, ?_⟩
    · simp only [partsP, if_true]; omega
    · simp only [partsP, if_true]; omega
  | h + 1, x, L, f, d, t, hI, hs, hp, hp2, hf, hd => by
    obtain ⟨a, b, c, t⟩ := t
    obtain ⟨f, rfl⟩ : ∃ f', f = f' + 1 := ⟨f - 1, by omega⟩
    obtain ⟨hlt, k, La, Lk, Lb, y, hk, ek, eL, ka, kb, hy, ty, hpy, hla, hlb⟩ := t.at_ s c hI
    have hIk : Inc (nm Lk) := by
      rw [eL] at hI
      simp only [nm, List.map_append] at hI
      exact (inc_app.1 (inc_app.1 hI).1).2.1
    have hsk : s ∈ nm Lk := by
      rw [eL] at hs
      simp only [nm, List.map_append, List.mem_append] at hs
      rcases hs with (hs | hs) | hs
      · have := hla s hs
        rw [ltS_irrefl] at this
        cases this
      · exact hs
      · have := hlb s hs
        rw [ltS_irrefl] at this
        cases this
    obtain ⟨way, leaf, h1, h2, h3, h4, hsl, h5, h6, sts, m, y', hN, h7, h8, h9, h10⟩ := del_up s h y Lk f (d + 1) ty hIk hsk hpy.2 (fun _ => hpy.1) (by omega) (by omega)
    have hkr : (x.2.2[belP x.2.2 s]?.getD zK).r = k.r := by rw [hk]; rfl
    have hpl : partsP x = x.2.2.length := by simp [partsP, a]
    have hpage : pageE ns k.r (d + 1) = .ok y := Tree.page hy ty (by omega)
    have eL2 : outP L s = La ++ outP Lk s ++ Lb := by rw [eL]; exact outP_mid hla hlb
    have h2x := hp2 (by omega)
    rw [hpl] at h2x hp
    have hway : ∀ p ∈ (x, belP x.2.2 s) :: way, p.2 < p.1.2.2.length ∧ p.1.2.2.length ≤ 4 := fun p hp' => by
      rcases List.mem_cons.1 hp' with rfl | hp'
      · exact ⟨hlt, hp⟩
      · exact h5 p hp'
    have haft : afterE ns s (f + 1) x d = .ok ((x, belP x.2.2 s) :: way, leaf) := by rw [afterE, if_neg (by simp [a]), hkr, downE_ok hpage, h1]
    have hNs : ∀ s', nstep ns (sts, y'.1, partsP y', d + 1) (x, belP x.2.2 s) = .ok s' → neighP ns ([], true, (outP leaf.2.1 s).length, d + (h + 1)) ((x, belP x.2.2 s) :: way).reverse = .ok s' := fun s' hs' => by
      rw [List.reverse_cons, show d + (h + 1) = d + 1 + h by omega, neighP_snoc _ _ _ _ hN]
      exact hs'
    have hUs : ∀ z, upD (ns, (leaf.1, outP leaf.2.1 s, leaf.2.2)) (sts ++ [z]) = stepD (ns ++ m, y') z := fun z => by rw [upD_snoc, h7]
    refine ⟨(x, belP x.2.2 s) :: way, leaf, haft, by simp [h2], h3, h4, hsl, hway, h6, ?_⟩
    generalize belP x.2.2 s = i at *
    have hlen : ∀ (n1 n2 : Nat) (J : List P3), (x.2.2.take n1 ++ laidP (ns ++ m).length J ++ x.2.2.drop n2).length = min n1 x.2.2.length + J.length + (x.2.2.length - n2) := fun n1 n2 J => by
      simp only [List.length_append, laidP_len, List.length_take, List.length_drop]
    have hpt : ∀ l : List K, partsP (x.1, x.2.1, l) = l.length := fun l => by simp [partsP, a]
    rw [hpl]
    by_cases h2y : 2 ≤ partsP y'
    · refine ⟨sts ++ [(x, i, [], [])], m ++ [y'], (x.1, x.2.1, x.2.2.take i ++ laidP (ns ++ m).length [y'] ++ x.2.2.drop (i + 1)), ?_, ?_, ?_, ?_, ?_⟩
      · rw [hNs _ (nstep_none (by omega)), hpt, hlen]
        simp only [List.length_singleton]
        congr 4
        omega
      · rw [hUs, ← List.append_assoc]
        rfl
      · rw [eL2]
        exact over_ok a b ka kb ⟨outP Lk s, [], y', by simp, pageAt_new (ns ++ m) [y'] 0 y' rfl, h8.app _, h8.low, ⟨h2y, by omega⟩, rfl⟩ (by simp)
      · rw [hpt, hlen, List.length_singleton]; omega
      · rw [hpt, hlen, List.length_singleton]; omega
    · have h1y : partsP y' = 1 := by omega
      by_cases hr : i + 1 < x.2.2.length
      · have ed : x.2.2.drop (i + 1) = x.2.2[i + 1] :: x.2.2.drop (i + 1 + 1) := List.drop_eq_getElem_cons hr
        rw [ed] at kb
        obtain ⟨Lz, Lr, z, eb, hz, tz, hzl, hpz, kr⟩ := kb
        have hpz2 : pageE ns (x.2.2[i + 1]?.getD zK).r (d + 1) = .ok z := by
          rw [List.getElem?_eq_getElem hr]
          exact Tree.page hz tz (by omega)
        obtain ⟨J, hJ, hkj, hjl⟩ := pair_ok h8 (tz.app m) y'.1 (.inl rfl) ⟨by omega, by omega⟩
        have hJ0 : J ≠ [] := fun e => by rw [e] at hjl; split at hjl <;> cases hjl
        refine ⟨sts ++ [(x, i, [], [z])], m ++ J, (x.1, x.2.1, x.2.2.take i ++ laidP (ns ++ m).length J ++ x.2.2.drop (i + 2)), ?_, ?_, ?_, ?_, ?_⟩
        · rw [hNs _ (nstep_right (by omega) (by omega) hr hpz2 (by rw [tz.leaf, h8.leaf])), hpt, hlen, hjl]
          congr 4
          split <;> omega
        · rw [hUs, ← List.append_assoc]
          show (_ ++ joinP [] y' [z], _) = _
          rw [joinP_right, hJ]
          rfl
        · rw [eL2, eb, show La ++ outP Lk s ++ (Lz ++ Lr) = La ++ (outP Lk s ++ Lz) ++ Lr by simp only [List.append_assoc]]
          exact over_ok a b ka kr hkj hJ0
        · rw [hpt, hlen, hjl]; split <;> omega
        · rw [hpt, hlen, hjl]; split <;> omega
      · obtain ⟨j, rfl⟩ : ∃ j, i = j + 1 := ⟨i - 1, by omega⟩
        have hj : j < x.2.2.length := by omega
        have et : x.2.2.take (j + 1) = x.2.2.take j ++ [x.2.2[j]] := List.take_succ_eq_append_getElem hj
        rw [et] at ka
        obtain ⟨Lc, Lz', ea, kc, kz⟩ := ka.cut
        obtain ⟨Lz, L0, z, e0, hz, tz, hzl, hpz, kn⟩ := kz
        cases (show L0 = [] from kn)
        rw [List.append_nil] at e0
        subst e0
        have hpz2 : pageE ns (x.2.2[j + 1 - 1]?.getD zK).r (d + 1) = .ok z := by
          rw [Nat.add_sub_cancel, List.getElem?_eq_getElem hj]
          exact Tree.page hz tz (by omega)
        obtain ⟨J, hJ, hkj, hjl⟩ := pair_ok (tz.app m) h8 y'.1 (.inr rfl) ⟨by omega, by omega⟩
        have hJ0 : J ≠ [] := fun e => by rw [e] at hjl; split at hjl <;> cases hjl
        refine ⟨sts ++ [(x, j + 1, [z], [])], m ++ J, (x.1, x.2.1, x.2.2.take j ++ laidP (ns ++ m).length J ++ x.2.2.drop (j + 2)), ?_, ?_, ?_, ?_, ?_⟩
        · rw [hNs _ (nstep_left (by omega) (by omega) hr hpz2 (by rw [tz.leaf, h8.leaf])), hpt, hlen, hjl]
          congr 4
          rw [Nat.add_comm (partsP z)]
          split <;> omega
        · rw [hUs, ← List.append_assoc]
          show (_ ++ joinP [z] y' [], _) = _
          rw [joinP_left, hJ]
          rfl
        · rw [eL2, ea, show Lc ++ Lz' ++ outP Lk s ++ Lb = Lc ++ (Lz' ++ outP Lk s) ++ Lb by simp only [List.append_assoc]]
          exact over_ok a b kc kb hkj hJ0
        · rw [hpt, hlen, hjl]; split <;> omega
        · rw [hpt, hlen, hjl]; split <;> omega
end Go.Proofs.Ytnndohdiiglgmaa.trees

/- What Delete makes of a root. -/

namespace Go.Proofs.Ytnndohdiiglgmaa.trees
set_option linter.unusedVariables false
set_option linter.unusedSimpArgs false
open Go.RowKit Go.Proofs.Ytnndohdiiglgmaa.base Go.Proofs.Ytnndohdiiglgmaa.vers Go.Proofs.Ytnndohdiiglgmaa.nodes Go.Proofs.Ytnndohdiiglgmaa.quotas

/-- the secret at its place taken out -/
theorem outP_at {L : List PE} {s : ByteArray} {k : Nat} (hI : Inc (nm L)) (hk : (nm L)[k]? = some s) : L.take k ++ L.drop (k + 1) = outP L s := by
  obtain ⟨hl, he⟩ := List.getElem?_eq_some_iff.1 hk
  have hl' : k < L.length := by simpa [nm] using hl
  have he' : L[k].1 = s := by simpa [nm] using he
  have e : L = L.take k ++ [L[k]] ++ L.drop (k + 1) := by
    rw [List.append_assoc, List.singleton_append, ← List.drop_eq_getElem_cons hl', List.take_append_drop]
  have hI2 := hI
  rw [e] at hI2
  unfold nm at hI2
  simp only [List.map_append, List.map_cons, List.map_nil] at hI2
  obtain ⟨h1, _, h3⟩ := inc_app.1 hI2
  obtain ⟨_, _, h4⟩ := inc_app.1 h1
  have hm := outP_mid (a := L.take k) (m := [L[k]]) (b := L.drop (k + 1)) (s := s) (fun y hy => by rw [← he']; exact h4 y hy _ (List.mem_singleton_self _)) (fun y hy => by rw [← he']; exact h3 _ (List.mem_append_right _ (List.mem_singleton_self _)) y hy)
  rw [← e] at hm
  rw [hm, show outP [L[k]] s = [] from by unfold outP; rw [List.filter_cons, if_neg (by simp [he'])]; rfl, List.append_nil]
theorem joinP_len (a : List P3) (y : P3) (b : List P3) : 1 ≤ (joinP a y b).length ∧ (joinP a y b).length ≤ 2 := by
  unfold joinP
  split
  · exact ⟨Nat.le_refl _, by simp⟩
  · simp only []
    split
    · exact ⟨Nat.le_refl _, by simp⟩
    · unfold halvesP
      simp only []
      split <;> exact ⟨by simp, by simp⟩
theorem upD_len : ∀ (l : List SD) (s : List P3 × P3), (upD s l).1.length ≤ s.1.length + 2 * l.length
  | [], s => Nat.le_refl _
  | a :: l, s => by
    have h1 := upD_len l (stepD s a)
    have h2 : (stepD s a).1.length ≤ s.1.length + 2 := by
      simp only [stepD, List.length_append]
      have := (joinP_len a.2.2.1 s.2 a.2.2.2).2
      omega
    have h3 : upD s (a :: l) = upD (stepD s a) l := rfl
    rw [h3, List.length_cons]
    omega
theorem neighP_len (ns : List P3) : ∀ (l : List (P3 × Nat)) (s s' : NS), neighP ns s l = .ok s' → s'.1.length = s.1.length + l.length
  | [], s, s', h => by
    cases (show Except.ok s = Except.ok s' from h)
    rfl
  | x :: l, s, s', h => by
    unfold neighP at h
    rw [List.foldlM_cons] at h
    cases h1 : nstep ns s x with
    | error e => rw [h1] at h; cases h
    | ok s1 =>
      rw [h1] at h
      have ih := neighP_len ns l s1 s' h
      have h2 : s1.1.length = s.1.length + 1 := by
        unfold nstep at h1
        split at h1
        · cases h1
        · cases h1
          simp
      rw [ih, h2, List.length_cons]
      omega
/-- the root of what came up: its only kid, if there is but one -/
def topP (st : List P3 × P3) : List P3 × R := if st.2.1 = false ∧ st.2.2.2.length = 1 then (st.1, (st.2.2.2[0]?.getD zK).r) else rootP st.1 [st.2]
theorem pageAt_ref {ns : List P3} {r : R} {y : P3} (h : pageAt ns r = some y) : ∃ j, r = refOf j ∧ j < ns.length := by
  unfold pageAt at h
  split at h
  · rename_i hc
    exact ⟨_, hc.2, (List.getElem?_eq_some_iff.1 h).1⟩
  · cases h
/-- what Delete makes of a root that leads to the secret -/
theorem del_root {ns : List P3} {r : R} {h : Nat} {L : List PE} (t : Root ns r h L) (s : ByteArray) (hI : Inc (nm L)) (hs : s ∈ nm L) (hh : h ≤ 7) :
    ∃ way leaf sts lf n m r' h', downE ns s 9 r 1 = .ok (way, leaf) ∧ way.length = h ∧ leaf.1 = true ∧ Inc (leaf.2.1.map (·.1)) ∧ s ∈ nm leaf.2.1 ∧ (∀ p ∈ way, p.2 < p.1.2.2.length ∧ p.1.2.2.length ≤ 4) ∧ leaf.2.1.length ≤ 4 ∧
      neighP ns ([], true, (outP leaf.2.1 s).length, 1 + h) way.reverse = .ok (sts, lf, n, 1) ∧
      topP (upD (ns, (leaf.1, outP leaf.2.1 s, leaf.2.2)) sts) = (ns ++ m, r') ∧ Root (ns ++ m) r' h' (outP L s) ∧ (h' ≤ h ∧ h ≤ h' + 1) ∧ m.length ≤ 2 * h + 1 ∧ ∃ j, r' = refOf j ∧ j < (ns ++ m).length := by
  obtain ⟨x, hx, tx, hp, hp2⟩ := t
  have hpage : pageE ns r 1 = .ok x := Tree.page hx tx (by omega)
  obtain ⟨way, leaf, h1, h2, h3, h4, hsl, h5, h6, sts, m, x', hN, h7, h8, h9, h10⟩ := del_up s h x L 8 1 tx hI hs hp hp2 (by omega) (by omega)
  have hd : downE ns s 9 r 1 = .ok (way, leaf) := by rw [downE_ok hpage, h1]
  have hq := upD_len sts (ns, (leaf.1, outP leaf.2.1 s, leaf.2.2))
  have hsn := neighP_len ns _ _ _ hN
  simp only [List.length_nil, List.length_reverse] at hsn
  rw [h7] at hq
  simp only [List.length_append] at hq
  have hml : m.length ≤ 2 * h := by omega
  by_cases h1k : x'.1 = false ∧ x'.2.2.length = 1
  · cases h with
    | zero => exact absurd (h8.leaf ▸ h1k.1) (by simp)
    | succ h =>
      obtain ⟨a, b, c, d⟩ := h8
      obtain ⟨k, hk⟩ : ∃ k, x'.2.2 = [k] := List.length_eq_one_iff.1 h1k.2
      rw [hk] at d
      obtain ⟨L1, L2, y, e, hy, ty, hl, hpy, hn⟩ := d
      cases (show L2 = [] from hn)
      rw [List.append_nil] at e
      subst e
      refine ⟨way, leaf, sts, x'.1, partsP x', m, k.r, h, hd, h2, h3, h4, hsl, h5, h6, hN, ?_, ⟨y, hy, ty, hpy.2, fun _ => hpy.1⟩, ⟨by omega, by omega⟩, by omega, pageAt_ref hy⟩
      rw [h7, topP, if_pos h1k, hk]
      rfl
  · refine ⟨way, leaf, sts, x'.1, partsP x', m ++ [x'], refOf (ns ++ m).length, h, hd, h2, h3, h4, hsl, h5, h6, hN, ?_, ?_, ⟨Nat.le_refl _, by omega⟩, by simp only [List.length_append, List.length_singleton]; omega, (ns ++ m).length, rfl, by simp only [List.length_append, List.length_singleton]; omega⟩
    · rw [h7, topP, if_neg h1k, rootP, if_pos (show [x'].length = 1 from rfl), List.append_assoc]
    · rw [← List.append_assoc]
      refine ⟨x', pageAt_new (ns ++ m) [x'] 0 x' rfl, h8.app _, by omega, fun h0 => ?_⟩
      have h11 := hp2 h0
      have hf : x'.1 = false := by rw [h8.leaf]; exact decide_eq_false (by omega)
      have hpx : partsP x' = x'.2.2.length := by simp [partsP, hf]
      have : x'.2.2.length ≠ 1 := fun e => h1k ⟨hf, e⟩
      omega
end Go.Proofs.Ytnndohdiiglgmaa.trees
