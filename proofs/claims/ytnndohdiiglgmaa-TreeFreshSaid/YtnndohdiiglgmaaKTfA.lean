/- Which pages of a tree Put laid, in pure words. -/
import Derived.Test.YtnndohdiiglgmaaKTrBd
import Derived.Test.YtnndohdiiglgmaaKDlA


namespace Go.Proofs.Ytnndohdiiglgmaa.trees
set_option linter.unusedVariables false
set_option linter.unusedSimpArgs false
open Go.RowKit Go.Proofs.Ytnndohdiiglgmaa.base Go.Proofs.Ytnndohdiiglgmaa.vers Go.Proofs.Ytnndohdiiglgmaa.nodes Go.Proofs.Ytnndohdiiglgmaa.quotas

def isNew (n : Nat) (q : R) : Bool := decide (n < q.k)
/-- the references below a page, as All meets them -/
def refsP (ns : List P3) : Nat → P3 → List R
  | 0, _ => []
  | h + 1, x => x.2.2.flatMap fun k => k.r :: match pageAt ns k.r with | none => [] | some y => refsP ns h y
def refsK (ns : List P3) (h : Nat) (ks : List K) : List R := ks.flatMap fun k => k.r :: match pageAt ns k.r with | none => [] | some y => refsP ns h y
theorem refsP_succ (ns : List P3) (h : Nat) (x : P3) : refsP ns (h + 1) x = refsK ns h x.2.2 := rfl
theorem refsK_app (ns : List P3) (h : Nat) (a b : List K) : refsK ns h (a ++ b) = refsK ns h a ++ refsK ns h b := by unfold refsK; rw [List.flatMap_append]
theorem refsK_nil (ns : List P3) (h : Nat) : refsK ns h [] = [] := rfl
theorem refsK_cons {ns : List P3} {h : Nat} {k : K} {y : P3} (ks : List K) (hy : pageAt ns k.r = some y) : refsK ns h (k :: ks) = k.r :: (refsP ns h y ++ refsK ns h ks) := by
  unfold refsK
  rw [List.flatMap_cons, hy, List.cons_append]
theorem pageAt_le {ns : List P3} {q : R} {y : P3} (h : pageAt ns q = some y) : isNew ns.length q = false := by
  unfold pageAt at h
  split at h
  · rename_i hc
    have : q.k - 1 < ns.length := (List.getElem?_eq_some_iff.1 h).1
    exact decide_eq_false (by omega)
  · cases h
/-- All's references -/
theorem seen_refsK {ns : List P3} {h d : Nat} (ih : ∀ (r : R) (x : P3) (L : List PE), Tree ns h x L → (seenP ns h r d x).map (·.2.1) = r :: refsP ns h x) : ∀ (ks : List K) (L : List PE), KidsOf ns (Tree ns h) ks L →
    (ks.flatMap fun k => match pageAt ns k.r with | none => [] | some y => seenP ns h k.r d y).map (·.2.1) = refsK ns h ks
  | [], _, _ => rfl
  | k :: ks, _, ⟨L1, L2, y, e, h1, h2, h3, h4, h5⟩ => by
    rw [refsK_cons ks h1, List.flatMap_cons, List.map_append, seen_refsK ih ks L2 h5, h1]
    exact congrArg (· ++ _) (ih k.r y L1 h2)
theorem seen_refs {ns : List P3} : ∀ (h : Nat) (r : R) (d : Nat) (x : P3) (L : List PE), Tree ns h x L → (seenP ns h r d x).map (·.2.1) = r :: refsP ns h x
  | 0, _, _, _, _, _ => rfl
  | h + 1, r, d, x, L, t => by
    have e : belowP x = x.2.2 := by unfold belowP; rw [if_neg (by simp [t.1])]
    have i := seen_refsK (fun r x L => seen_refs h r (d + 1) x L) _ _ t.2.2.2
    rw [seenP, e, List.map_cons, refsP_succ]
    exact congrArg (r :: ·) i
/-- what lay before: the same references, whatever is laid behind, and none is new -/
theorem old_kids {ns : List P3} {h : Nat} (ih : ∀ (x : P3) (L : List PE), Tree ns h x L → (∀ m, refsP (ns ++ m) h x = refsP ns h x) ∧ ∀ q ∈ refsP ns h x, isNew ns.length q = false) : ∀ (ks : List K) (L : List PE), KidsOf ns (Tree ns h) ks L →
    (∀ m, refsK (ns ++ m) h ks = refsK ns h ks) ∧ ∀ q ∈ refsK ns h ks, isNew ns.length q = false
  | [], _, _ => ⟨fun _ => rfl, fun q hq => by cases hq⟩
  | k :: ks, _, ⟨L1, L2, y, e, h1, h2, h3, h4, h5⟩ => by
    obtain ⟨i1, i2⟩ := old_kids ih ks L2 h5
    obtain ⟨j1, j2⟩ := ih y L1 h2
    refine ⟨fun m => ?_, fun q hq => ?_⟩
    · rw [refsK_cons ks h1, refsK_cons ks (pageAt_app m _ _ h1), i1 m, j1 m]
    · rw [refsK_cons ks h1] at hq
      rcases List.mem_cons.1 hq with rfl | hq
      · exact pageAt_le h1
      · exact (List.mem_append.1 hq).elim (j2 q) (i2 q)
theorem old_refs {ns : List P3} : ∀ (h : Nat) (x : P3) (L : List PE), Tree ns h x L → (∀ m, refsP (ns ++ m) h x = refsP ns h x) ∧ ∀ q ∈ refsP ns h x, isNew ns.length q = false
  | 0, _, _, _ => ⟨fun _ => rfl, fun q hq => by cases hq⟩
  | h + 1, x, L, t => old_kids (fun x L => old_refs h x L) _ _ t.2.2.2
theorem old_refsK {ns : List P3} {h : Nat} {ks : List K} {L : List PE} (t : KidsOf ns (Tree ns h) ks L) : (∀ m, refsK (ns ++ m) h ks = refsK ns h ks) ∧ ∀ q ∈ refsK ns h ks, isNew ns.length q = false := old_kids (fun x L => old_refs h x L) _ _ t
/-- so many new ones, and the others of O -/
def FrOk (n : Nat) (O l : List R) (c : Nat) : Prop := l.countP (isNew n) = c ∧ ∀ q ∈ l, isNew n q = false → q ∈ O
theorem FrOk.nil (n : Nat) (O : List R) : FrOk n O [] 0 := ⟨rfl, fun q h => by cases h⟩
theorem FrOk.app {n c c' : Nat} {O l l' : List R} (h : FrOk n O l c) (h' : FrOk n O l' c') : FrOk n O (l ++ l') (c + c') :=
  ⟨by rw [List.countP_append, h.1, h'.1], fun q hq hn => (List.mem_append.1 hq).elim (fun h0 => h.2 q h0 hn) (fun h0 => h'.2 q h0 hn)⟩
theorem FrOk.new {n c i : Nat} {O l : List R} (h : FrOk n O l c) (hi : n ≤ i) : FrOk n O (refOf i :: l) (c + 1) := by
  have e : isNew n (refOf i) = true := decide_eq_true (by simp [refOf]; omega)
  refine ⟨by rw [List.countP_cons, h.1, if_pos e], fun q hq hn => ?_⟩
  rcases List.mem_cons.1 hq with rfl | hq
  · rw [e] at hn; cases hn
  · exact h.2 q hq hn
theorem FrOk.old {n : Nat} {O l : List R} (hl : ∀ q ∈ l, isNew n q = false) (hO : ∀ q ∈ l, q ∈ O) : FrOk n O l 0 := ⟨List.countP_eq_zero.2 fun q hq => by rw [hl q hq]; simp, fun q hq _ => hO q hq⟩
theorem FrOk.cast {n c c' : Nat} {O l l' : List R} (h : FrOk n O l c) (e : l = l') (e' : c = c') : FrOk n O l' c' := by subst e e'; exact h
/-- what a node was made to, laid down -/
theorem fr_laid {ns : List P3} {h n c : Nat} {y : P3} {L : List PE} {O : List R} (t : Tree ns h y L) (hp : partsP y ≤ 5) (hn : n ≤ ns.length) (f : FrOk n O (refsP ns h y) c) :
    FrOk n O (refsK (ns ++ splitP y) h (laidP ns.length (splitP y))) (c + (splitP y).length) := by
  unfold splitP
  by_cases h4 : partsP y ≤ 4
  · rw [if_pos h4]
    have e : refsK (ns ++ [y]) h (laidP ns.length [y]) = refOf ns.length :: (refsP (ns ++ [y]) h y ++ []) := refsK_cons (k := kidP y (lowP y) ns.length) [] (pageAt_new ns [y] 0 y rfl)
    rw [e, List.append_nil, (old_refs h y L t).1]
    exact f.new hn
  · rw [if_neg h4]
    have h5 : partsP y = 5 := by omega
    unfold halvesP
    rw [h5]
    have two : ∀ (a b : P3), refsK (ns ++ [a, b]) h (laidP ns.length [a, b]) = refOf ns.length :: (refsP (ns ++ [a, b]) h a ++ (refOf (ns.length + 1) :: (refsP (ns ++ [a, b]) h b ++ []))) := fun a b => by
      have e1 := refsK_cons (h := h) (k := kidP b (lowP b) (ns.length + 1)) [] (pageAt_new ns [a, b] 1 b rfl)
      have e2 := refsK_cons (h := h) (k := kidP a (lowP a) ns.length) [kidP b (lowP b) (ns.length + 1)] (pageAt_new ns [a, b] 0 a rfl)
      rw [e1] at e2
      exact e2
    cases h with
    | zero =>
      cases (show y = (true, L, []) from t)
      simp only [if_true]
      rw [two]
      exact (((FrOk.nil n O).new (show n ≤ ns.length + 1 by omega)).new hn).cast rfl (by have := f.1; simp only [refsP, List.countP_nil] at this; simp; omega)
    | succ h =>
      obtain ⟨a, b, c0, d⟩ := t
      rw [← List.take_append_drop 3 y.2.2] at d
      obtain ⟨La, Lb, e, da, db⟩ := d.cut
      simp only [a, Bool.false_eq_true, if_false]
      rw [two, refsP_succ, refsP_succ, (old_refsK da).1, (old_refsK db).1]
      rw [refsP_succ, ← List.take_append_drop 3 y.2.2, refsK_app] at f
      have fa : FrOk n O (refsK ns h (y.2.2.take 3)) ((refsK ns h (y.2.2.take 3)).countP (isNew n)) := ⟨rfl, fun q hq => f.2 q (List.mem_append.2 (.inl hq))⟩
      have fb : FrOk n O (refsK ns h (y.2.2.drop 3)) ((refsK ns h (y.2.2.drop 3)).countP (isNew n)) := ⟨rfl, fun q hq => f.2 q (List.mem_append.2 (.inr hq))⟩
      have fc := f.1
      rw [List.countP_append] at fc
      refine ((fa.app ((fb.app (FrOk.nil n O)).new (show n ≤ ns.length + 1 by omega))).new hn).cast rfl ?_
      simp
      omega
/-- what Put lays on its way up -/
theorem fr_up {ns : List P3} (e : PE) : ∀ (h : Nat) (x : P3) (L : List PE) (f d : Nat) (way : List (P3 × Nat)) (leaf : P3) (m : List P3) (x' : P3) (O : List R), Tree ns h x L → Inc (nm L) → partsP x ≤ 4 → h ≤ f → d + h ≤ 8 →
    afterE ns e.1 f x d = .ok (way, leaf) → upQ (ns, (leaf.1, withP leaf.2.1 e, leaf.2.2)) way.reverse = (ns ++ m, x') → (∀ q ∈ refsP ns h x, q ∈ O) → FrOk ns.length O (refsP (ns ++ m) h x') m.length
  | 0, x, L, f, d, way, leaf, m, x', O, t, hI, hp, hf, hd, ha, hu, hO => by
    cases (show x = (true, L, []) from t)
    rw [afterE, if_pos rfl] at ha
    injection ha with ha
    injection ha with ha1 ha2
    subst ha1
    have e1 := congrArg (fun s => s.1.length) hu
    simp [upQ] at e1
    obtain rfl : m = [] := by cases m with | nil => rfl | cons _ _ => simp at e1
    exact FrOk.nil _ _
  | h + 1, x, L, f, d, way, leaf, m, x', O, t, hI, hp, hf, hd, ha, hu, hO => by
    obtain ⟨a, b, c, t⟩ := t
    obtain ⟨f, rfl⟩ : ∃ f', f = f' + 1 := ⟨f - 1, by omega⟩
    obtain ⟨hlt, k, La, Lk, Lb, y, hk, ek, eL, ka, kb, hy, ty, hpy, hla, hlb⟩ := t.at_ e.1 c hI
    have hIk : Inc (nm Lk) := by
      rw [eL] at hI
      simp only [nm, List.map_append] at hI
      exact (inc_app.1 (inc_app.1 hI).1).2.1
    obtain ⟨way', leaf', h1, h2, h3, h4, h5, h6, m', y', h7, h8, h9, h10⟩ := put_up e h y Lk f (d + 1) ty hIk hpy.2 (by omega) (by omega)
    have hkr : (x.2.2[belP x.2.2 e.1]?.getD zK).r = k.r := by rw [hk]; rfl
    have hpage : pageE ns k.r (d + 1) = .ok y := by
      unfold pageE
      rw [if_neg (by omega), hy]
      refine if_neg fun hc => ?_
      have : partsP y = 0 := by simp [partsP, hc.1, hc.2]
      omega
    rw [afterE, if_neg (by simp [a]), hkr, downE_ok hpage, h1] at ha
    injection ha with ha
    injection ha with ha1 ha2
    subst ha1 ha2
    have eq : upQ (ns, (leaf'.1, withP leaf'.2.1 e, leaf'.2.2)) ((x, belP x.2.2 e.1) :: way').reverse = (ns ++ m' ++ splitP y', (x.1, x.2.1, overK x.2.2 (belP x.2.2 e.1) 0 0 (laidP (ns ++ m').length (splitP y')))) := by
      rw [List.reverse_cons, upQ_snoc, h7]
      rfl
    rw [eq] at hu
    injection hu with hu1 hu2
    rw [List.append_assoc] at hu1
    obtain rfl := List.append_cancel_left hu1
    subst hu2
    have ex : refsP ns (h + 1) x = refsK ns h (x.2.2.take (belP x.2.2 e.1)) ++ (k.r :: (refsP ns h y ++ refsK ns h (x.2.2.drop (belP x.2.2 e.1 + 1)))) := by
      rw [refsP_succ, ← refsK_cons _ hy, ← refsK_app, ← ek]
    rw [ex] at hO
    have i1 := fr_up e h y Lk f (d + 1) way' leaf' m' y' O ty hIk hpy.2 (by omega) (by omega) h1 h7 (fun q hq => hO q (List.mem_append.2 (.inr (List.mem_cons_of_mem _ (List.mem_append.2 (.inl hq))))))
    have i2 := fr_laid h8 (by omega) (by rw [List.length_append]; omega) i1
    rw [List.append_assoc] at i2
    have oa := FrOk.old (old_refsK ka).2 (fun q hq => hO q (List.mem_append.2 (.inl hq)))
    have ob := FrOk.old (old_refsK kb).2 (fun q hq => hO q (List.mem_append.2 (.inr (List.mem_cons_of_mem _ (List.mem_append.2 (.inr hq))))))
    refine ((oa.app i2).app ob).cast ?_ (by rw [List.length_append]; omega)
    rw [refsP_succ]
    simp only [overK, Nat.sub_zero, Nat.add_zero]
    rw [refsK_app, refsK_app, (old_refsK ka).1, (old_refsK kb).1]
/-- what Put makes of a root, and what of it is new -/
theorem put_fresh {ns : List P3} {r : R} {h : Nat} {L : List PE} {x : P3} (hx : pageAt ns r = some x) (tx : Tree ns h x L) (hp : partsP x ≤ 4) (hp2 : 0 < h → 2 ≤ partsP x) (e : PE) (hI : Inc (nm L)) (hh : h < 7) :
    ∃ way leaf m r' h' x', downE ns e.1 9 r 1 = .ok (way, leaf) ∧ way.length = h ∧ Inc (leaf.2.1.map (·.1)) ∧ (∀ p ∈ way, p.2 < p.1.2.2.length ∧ p.1.2.2.length ≤ 1000) ∧ leaf.2.1.length ≤ 1000 ∧
      putP ns way leaf e = (ns ++ m, r') ∧ pageAt (ns ++ m) r' = some x' ∧ Tree (ns ++ m) h' x' (withP L e) ∧ partsP x' ≤ 4 ∧ (0 < h' → 2 ≤ partsP x') ∧ (h ≤ h' ∧ h' ≤ h + 1) ∧ m.length ≤ 2 * h + 3 ∧ (∃ j, r' = refOf j ∧ j < (ns ++ m).length) ∧
      FrOk ns.length (r :: refsP ns h x) (r' :: refsP (ns ++ m) h' x') m.length := by
  have hpage : pageE ns r 1 = .ok x := by
    unfold pageE
    rw [if_neg (by omega), hx]
    refine if_neg fun hc => ?_
    cases h with
    | zero => cases (show x = (true, L, []) from tx); cases hc.1
    | succ h => exact tx.2.2.1 hc.2
  obtain ⟨way, leaf, h1, h2, h3, h4, h5, h6, m, x', h7, h8, h9, h10⟩ := put_up e h x L 8 1 tx hI hp (by omega) (by omega)
  have fr := fr_up e h x L 8 1 way leaf m x' (r :: refsP ns h x) tx hI hp (by omega) (by omega) h1 h7 (fun q hq => List.mem_cons_of_mem _ hq)
  have hd : downE ns e.1 9 r 1 = .ok (way, leaf) := by rw [downE_ok hpage, h1]
  have hq := upQ_len way.reverse (ns, (leaf.1, withP leaf.2.1 e, leaf.2.2))
  rw [h7, List.length_append, List.length_reverse, h2] at hq
  have hmle : m.length ≤ 2 * h := by simp only at hq; omega
  have hput : putP ns way leaf e = rootP (ns ++ m) (splitP x') := by unfold putP; rw [h7]
  have hway : ∀ p ∈ way, p.2 < p.1.2.2.length ∧ p.1.2.2.length ≤ 1000 := fun p hp => ⟨(h5 p hp).1, by have := (h5 p hp).2; omega⟩
  by_cases h4' : partsP x' ≤ 4
  · have es : splitP x' = [x'] := by unfold splitP; rw [if_pos h4']
    refine ⟨way, leaf, m ++ [x'], refOf (ns ++ m).length, h, x', hd, h2, h4, hway, by omega, ?_, ?_, ?_, h4', fun h0 => ?_, ⟨Nat.le_refl _, by omega⟩, by simp only [List.length_append, List.length_singleton]; omega, ⟨(ns ++ m).length, rfl, by simp only [List.length_append, List.length_singleton]; omega⟩, ?_⟩
    · rw [hput, es, rootP, if_pos (show [x'].length = 1 from rfl), List.append_assoc]
    · rw [← List.append_assoc]; exact pageAt_new (ns ++ m) [x'] 0 x' rfl
    · rw [← List.append_assoc]; exact h8.app _
    · have := hp2 h0
      omega
    · refine (fr.new (i := (ns ++ m).length) (by rw [List.length_append]; omega)).cast ?_ (by rw [List.length_append]; rfl)
      rw [← List.append_assoc, (old_refs h x' _ h8).1]
  · have h5' : partsP x' = 5 := by omega
    obtain ⟨s1, s2, s3⟩ := split_ok h8 ⟨by omega, by omega⟩
    have frl := fr_laid h8 (by omega) (by rw [List.length_append]; omega) fr
    have es : (splitP x').length = 2 := by
      unfold splitP
      rw [if_neg h4']
      unfold halvesP
      split <;> rfl
    have e0 : ns ++ (m ++ splitP x' ++ [(false, [], laidP (ns ++ m).length (splitP x'))]) = (ns ++ m ++ splitP x') ++ [(false, [], laidP (ns ++ m).length (splitP x'))] := by simp only [List.append_assoc]
    refine ⟨way, leaf, m ++ splitP x' ++ [(false, [], laidP (ns ++ m).length (splitP x'))], refOf ((ns ++ m).length + (splitP x').length), h + 1, (false, [], laidP (ns ++ m).length (splitP x')), hd, h2, h4, hway, by omega, ?_, ?_, ⟨rfl, rfl, fun e1 => ?_, ?_⟩, ?_, fun _ => ?_, ⟨by omega, Nat.le_refl _⟩, by simp only [List.length_append, List.length_singleton]; omega, ⟨(ns ++ m).length + (splitP x').length, rfl, by simp only [List.length_append, List.length_singleton]; omega⟩, ?_⟩
    · rw [hput, rootP, if_neg (by omega)]
      simp only [List.append_assoc]
    · rw [e0]
      have := pageAt_new (ns ++ m ++ splitP x') [(false, [], laidP (ns ++ m).length (splitP x'))] 0 _ rfl
      rw [Nat.add_zero, List.length_append (bs := splitP x')] at this
      exact this
    · have := congrArg List.length e1
      rw [laidP_len, es] at this
      cases this
    · rw [e0]; exact s1.mono (pageAt_app _) (fun _ _ => Tree.mono (pageAt_app _) h _ _)
    · simp [partsP, laidP_len, es]
    · simp [partsP, laidP_len, es]
    · refine (frl.new (i := (ns ++ m).length + (splitP x').length) (by rw [List.length_append]; omega)).cast ?_ (by simp only [List.length_append, List.length_singleton])
      rw [e0, refsP_succ, (old_refsK s1).1]
end Go.Proofs.Ytnndohdiiglgmaa.trees

/- Which pages of a tree Delete laid, in pure words. -/

namespace Go.Proofs.Ytnndohdiiglgmaa.trees
set_option linter.unusedVariables false
set_option linter.unusedSimpArgs false
open Go.RowKit Go.Proofs.Ytnndohdiiglgmaa.base Go.Proofs.Ytnndohdiiglgmaa.vers Go.Proofs.Ytnndohdiiglgmaa.nodes Go.Proofs.Ytnndohdiiglgmaa.quotas

theorem fr_single {ns : List P3} {h n c : Nat} {y : P3} {L : List PE} {O : List R} (t : Tree ns h y L) (hn : n ≤ ns.length) (f : FrOk n O (refsP ns h y) c) :
    FrOk n O (refsK (ns ++ [y]) h (laidP ns.length [y])) (c + 1) := by
  have e : refsK (ns ++ [y]) h (laidP ns.length [y]) = refOf ns.length :: (refsP (ns ++ [y]) h y ++ []) := refsK_cons (k := kidP y (lowP y) ns.length) [] (pageAt_new ns [y] 0 y rfl)
  rw [e, List.append_nil, (old_refs h y L t).1]
  exact f.new hn
theorem fr_halves {ns : List P3} {h n c : Nat} {y : P3} {L : List PE} {O : List R} (t : Tree ns h y L) (hn : n ≤ ns.length) (f : FrOk n O (refsP ns h y) c) :
    FrOk n O (refsK (ns ++ halvesP y) h (laidP ns.length (halvesP y))) (c + 2) := by
  unfold halvesP
  generalize (partsP y + 1) / 2 = i
  have two : ∀ (a b : P3), refsK (ns ++ [a, b]) h (laidP ns.length [a, b]) = refOf ns.length :: (refsP (ns ++ [a, b]) h a ++ (refOf (ns.length + 1) :: (refsP (ns ++ [a, b]) h b ++ []))) := fun a b => by
    have e1 := refsK_cons (h := h) (k := kidP b (lowP b) (ns.length + 1)) [] (pageAt_new ns [a, b] 1 b rfl)
    have e2 := refsK_cons (h := h) (k := kidP a (lowP a) ns.length) [kidP b (lowP b) (ns.length + 1)] (pageAt_new ns [a, b] 0 a rfl)
    rw [e1] at e2
    exact e2
  cases h with
  | zero =>
    cases (show y = (true, L, []) from t)
    simp only [if_true]
    rw [two]
    exact (((FrOk.nil n O).new (show n ≤ ns.length + 1 by omega)).new hn).cast rfl (by have := f.1; simp only [refsP, List.countP_nil] at this; omega)
  | succ h =>
    obtain ⟨a, b, c0, d⟩ := t
    rw [← List.take_append_drop i y.2.2] at d
    obtain ⟨La, Lb, e, da, db⟩ := d.cut
    simp only [a, Bool.false_eq_true, if_false]
    rw [two, refsP_succ, refsP_succ, (old_refsK da).1, (old_refsK db).1]
    rw [refsP_succ, ← List.take_append_drop i y.2.2, refsK_app] at f
    have fa : FrOk n O (refsK ns h (y.2.2.take i)) ((refsK ns h (y.2.2.take i)).countP (isNew n)) := ⟨rfl, fun q hq => f.2 q (List.mem_append.2 (.inl hq))⟩
    have fb : FrOk n O (refsK ns h (y.2.2.drop i)) ((refsK ns h (y.2.2.drop i)).countP (isNew n)) := ⟨rfl, fun q hq => f.2 q (List.mem_append.2 (.inr hq))⟩
    have fc := f.1
    rw [List.countP_append] at fc
    exact ((fa.app ((fb.app (FrOk.nil n O)).new (show n ≤ ns.length + 1 by omega))).new hn).cast rfl (by omega)
theorem refs_one {ns : List P3} {h : Nat} {a b : P3} {La Lb : List PE} (ta : Tree ns h a La) (tb : Tree ns h b Lb) (lf : Bool) : refsP ns h (oneOf lf [a, b]) = refsP ns h a ++ refsP ns h b := by
  cases h with
  | zero => rfl
  | succ h =>
    rw [refsP_succ, refsP_succ, refsP_succ, ← refsK_app]
    simp [oneOf]
/-- two nodes put together, laid down -/
theorem fr_pair {ns : List P3} {h n c c' : Nat} {a b : P3} {La Lb : List PE} {O : List R} (ta : Tree ns h a La) (tb : Tree ns h b Lb) (lf : Bool) (hf : lf = a.1 ∨ lf = b.1) (hn : n ≤ ns.length) (fa : FrOk n O (refsP ns h a) c) (fb : FrOk n O (refsP ns h b) c') {J : List P3}
    (hJ : (if partsP (oneOf lf [a, b]) ≤ 3 then [oneOf lf [a, b]] else halvesP (oneOf lf [a, b])) = J) : FrOk n O (refsK (ns ++ J) h (laidP ns.length J)) (c + c' + J.length) := by
  have t := (one_ok ta tb lf hf).1
  have f := fa.app fb
  rw [← refs_one ta tb lf] at f
  generalize oneOf lf [a, b] = o at *
  by_cases h3 : partsP o ≤ 3
  · rw [if_pos h3] at hJ
    subst hJ
    exact fr_single t hn f
  · rw [if_neg h3] at hJ
    subst hJ
    refine (fr_halves t hn f).cast rfl ?_
    unfold halvesP
    simp only []
    split <;> rfl
/-- among kids that lay before -/
theorem fr_over {ns m J : List P3} {h : Nat} {x1 : Bool} {x2 : List PE} {a b : List K} {La Lb : List PE} {O : List R} (ka : KidsOf ns (Tree ns h) a La) (kb : KidsOf ns (Tree ns h) b Lb) (ha : ∀ q ∈ refsK ns h a, q ∈ O) (hb : ∀ q ∈ refsK ns h b, q ∈ O)
    (f : FrOk ns.length O (refsK (ns ++ m ++ J) h (laidP (ns ++ m).length J)) (m.length + J.length)) : FrOk ns.length O (refsP (ns ++ (m ++ J)) (h + 1) (x1, x2, a ++ laidP (ns ++ m).length J ++ b)) (m ++ J).length := by
  rw [List.append_assoc] at f
  refine (((FrOk.old (old_refsK ka).2 ha).app f).app (FrOk.old (old_refsK kb).2 hb)).cast ?_ (by rw [List.length_append]; omega)
  rw [refsP_succ, refsK_app, refsK_app, (old_refsK ka).1, (old_refsK kb).1]
theorem mem_kids {ns : List P3} {h : Nat} {k : K} {y : P3} {ks : List K} (hk : k ∈ ks) (hy : pageAt ns k.r = some y) : ∀ q ∈ refsP ns h y, q ∈ refsK ns h ks := fun q hq => by
  unfold refsK
  exact List.mem_flatMap.2 ⟨k, hk, by rw [hy]; exact List.mem_cons_of_mem _ hq⟩
theorem sub_kids {ns : List P3} {h : Nat} {a b : List K} (hs : ∀ k ∈ a, k ∈ b) : ∀ q ∈ refsK ns h a, q ∈ refsK ns h b := fun q hq => by
  obtain ⟨k, hk, hq⟩ := List.mem_flatMap.1 hq
  exact List.mem_flatMap.2 ⟨k, hs k hk, hq⟩
/-- what Delete lays on its way up -/
theorem fr_del {ns : List P3} (s : ByteArray) : ∀ (h : Nat) (x : P3) (L : List PE) (f d : Nat) (way : List (P3 × Nat)) (leaf : P3) (sts : List SD) (lf : Bool) (n d' : Nat) (m : List P3) (x' : P3) (O : List R), Tree ns h x L → Inc (nm L) → s ∈ nm L → partsP x ≤ 4 → (0 < h → 2 ≤ partsP x) → h ≤ f → d + h ≤ 8 →
    afterE ns s f x d = .ok (way, leaf) → neighP ns ([], true, (outP leaf.2.1 s).length, d + h) way.reverse = .ok (sts, lf, n, d') → upD (ns, (leaf.1, outP leaf.2.1 s, leaf.2.2)) sts = (ns ++ m, x') → (∀ q ∈ refsP ns h x, q ∈ O) → FrOk ns.length O (refsP (ns ++ m) h x') m.length
  | 0, x, L, f, d, way, leaf, sts, lf, n, d', m, x', O, t, hI, hs, hp, hp2, hf, hd, ha, hN, hu, hO => by
    cases (show x = (true, L, []) from t)
    rw [afterE, if_pos rfl] at ha
    injection ha with ha
    injection ha with ha1 ha2
    subst ha1
    have hl := neighP_len ns _ _ _ hN
    obtain rfl : sts = [] := List.eq_nil_of_length_eq_zero (by simpa using hl)
    have e1 := congrArg (fun s => s.1.length) hu
    simp [upD] at e1
    obtain rfl : m = [] := by cases m with | nil => rfl | cons _ _ => simp at e1
    exact FrOk.nil _ _
  | h + 1, x, L, f, d, way, leaf, sts, lf, n, d', m, x', O, t, hI, hs, hp, hp2, hf, hd, ha, hN, hu, hO => by
    obtain ⟨a, b, c, t⟩ := t
    obtain ⟨f, rfl⟩ : ∃ f', f = f' + 1 := ⟨f - 1, by omega⟩
    obtain ⟨hlt, k, La, Lk, Lb, y, hk, ek, eL, ka, kb, hy, ty, hpy, hla, hlb⟩ := t.at_ s c hI
    have hIk : Inc (nm Lk) := by
      rw [eL] at hI
      simp only [nm, List.map_append] at hI
      exact (inc_app.1 (inc_app.1 hI).1).2.1
    have hsk : s ∈ nm Lk := by
      rw [eL] at hs
      simp only [nm, List.map_append, List.mem_append] at hs
      rcases hs with (hs | hs) | hs
      · have := hla s hs
        rw [ltS_irrefl] at this
        cases this
      · exact hs
      · have := hlb s hs
        rw [ltS_irrefl] at this
        cases this
    obtain ⟨way', leaf', h1, h2, h3, h4, hsl, h5, h6, sts', m', y', hN', h7, h8, h9, h10⟩ := del_up s h y Lk f (d + 1) ty hIk hsk hpy.2 (fun _ => hpy.1) (by omega) (by omega)
    have hkr : (x.2.2[belP x.2.2 s]?.getD zK).r = k.r := by rw [hk]; rfl
    have hpl : partsP x = x.2.2.length := by simp [partsP, a]
    have hpage : pageE ns k.r (d + 1) = .ok y := Tree.page hy ty (by omega)
    have h2x := hp2 (by omega)
    rw [hpl] at h2x hp
    rw [afterE, if_neg (by simp [a]), hkr, downE_ok hpage, h1] at ha
    injection ha with ha
    injection ha with ha1 ha2
    subst ha1 ha2
    rw [List.reverse_cons, show d + (h + 1) = d + 1 + h by omega, neighP_snoc _ _ _ _ hN'] at hN
    have hUs : ∀ z, upD (ns, (leaf'.1, outP leaf'.2.1 s, leaf'.2.2)) (sts' ++ [z]) = stepD (ns ++ m', y') z := fun z => by rw [upD_snoc, h7]
    rw [refsP_succ] at hO
    have hkm : k ∈ x.2.2 := List.mem_of_getElem? hk
    have i1 := fr_del s h y Lk f (d + 1) way' leaf' sts' _ _ _ m' y' O ty hIk hsk hpy.2 (fun _ => hpy.1) (by omega) (by omega) h1 hN' h7 (fun q hq => hO q (mem_kids hkm hy q hq))
    generalize belP x.2.2 s = i at *
    have hnl : ns.length ≤ (ns ++ m').length := by rw [List.length_append]; omega
    have oa : ∀ i, ∀ q ∈ refsK ns h (x.2.2.take i), q ∈ O := fun i q hq => hO q (sub_kids (fun _ hk => List.mem_of_mem_take hk) q hq)
    have ob : ∀ i, ∀ q ∈ refsK ns h (x.2.2.drop i), q ∈ O := fun i q hq => hO q (sub_kids (fun _ hk => List.mem_of_mem_drop hk) q hq)
    by_cases h2y : 2 ≤ partsP y'
    · rw [nstep_none (by omega)] at hN
      injection hN with hN
      injection hN with hN1 hN2
      subst hN1
      rw [hUs] at hu
      have e0 : stepD (ns ++ m', y') (x, i, [], []) = (ns ++ (m' ++ [y']), (x.1, x.2.1, x.2.2.take i ++ laidP (ns ++ m').length [y'] ++ x.2.2.drop (i + 1))) := by rw [← List.append_assoc]; rfl
      rw [e0] at hu
      injection hu with hu1 hu2
      obtain rfl := List.append_cancel_left hu1
      subst hu2
      exact fr_over ka kb (oa i) (ob _) (fr_single h8 hnl i1)
    · have h1y : partsP y' = 1 := by omega
      by_cases hr : i + 1 < x.2.2.length
      · have ed : x.2.2.drop (i + 1) = x.2.2[i + 1] :: x.2.2.drop (i + 1 + 1) := List.drop_eq_getElem_cons hr
        rw [ed] at kb
        obtain ⟨Lz, Lr, z, eb, hz, tz, hzl, hpz, kr⟩ := kb
        have hpz2 : pageE ns (x.2.2[i + 1]?.getD zK).r (d + 1) = .ok z := by
          rw [List.getElem?_eq_getElem hr]
          exact Tree.page hz tz (by omega)
        have fz : FrOk ns.length O (refsP (ns ++ m') h z) 0 := by
          rw [(old_refs h z Lz tz).1]
          exact FrOk.old (old_refs h z Lz tz).2 (fun q hq => hO q (mem_kids (List.getElem_mem hr) hz q hq))
        obtain ⟨J, hJ, hkj, hjl⟩ := pair_ok h8 (tz.app m') y'.1 (.inl rfl) ⟨by omega, by omega⟩
        have fj := fr_pair h8 (tz.app m') y'.1 (.inl rfl) hnl i1 fz hJ
        rw [nstep_right (by omega) (by omega) hr hpz2 (by rw [tz.leaf, h8.leaf])] at hN
        injection hN with hN
        injection hN with hN1 hN2
        subst hN1
        rw [hUs] at hu
        have e0 : stepD (ns ++ m', y') (x, i, [], [z]) = (ns ++ (m' ++ J), (x.1, x.2.1, x.2.2.take i ++ laidP (ns ++ m').length J ++ x.2.2.drop (i + 1 + 1))) := by
          rw [← List.append_assoc]
          show (_ ++ joinP [] y' [z], _) = _
          rw [joinP_right, hJ]
          rfl
        rw [e0] at hu
        injection hu with hu1 hu2
        obtain rfl := List.append_cancel_left hu1
        subst hu2
        exact fr_over ka kr (oa i) (ob _) (fj.cast rfl (by omega))
      · obtain ⟨j, rfl⟩ : ∃ j, i = j + 1 := ⟨i - 1, by omega⟩
        have hj : j < x.2.2.length := by omega
        have et : x.2.2.take (j + 1) = x.2.2.take j ++ [x.2.2[j]] := List.take_succ_eq_append_getElem hj
        rw [et] at ka
        obtain ⟨Lc, Lz', ea, kc, kz⟩ := ka.cut
        obtain ⟨Lz, L0, z, e0, hz, tz, hzl, hpz, kn⟩ := kz
        have hpz2 : pageE ns (x.2.2[j + 1 - 1]?.getD zK).r (d + 1) = .ok z := by
          rw [Nat.add_sub_cancel, List.getElem?_eq_getElem hj]
          exact Tree.page hz tz (by omega)
        have fz : FrOk ns.length O (refsP (ns ++ m') h z) 0 := by
          rw [(old_refs h z Lz tz).1]
          exact FrOk.old (old_refs h z Lz tz).2 (fun q hq => hO q (mem_kids (List.getElem_mem hj) hz q hq))
        obtain ⟨J, hJ, hkj, hjl⟩ := pair_ok (tz.app m') h8 y'.1 (.inr rfl) ⟨by omega, by omega⟩
        have fj := fr_pair (tz.app m') h8 y'.1 (.inr rfl) hnl fz i1 hJ
        rw [nstep_left (by omega) (by omega) hr hpz2 (by rw [tz.leaf, h8.leaf])] at hN
        injection hN with hN
        injection hN with hN1 hN2
        subst hN1
        rw [hUs] at hu
        have e9 : stepD (ns ++ m', y') (x, j + 1, [z], []) = (ns ++ (m' ++ J), (x.1, x.2.1, x.2.2.take j ++ laidP (ns ++ m').length J ++ x.2.2.drop (j + 1 + 1))) := by
          rw [← List.append_assoc]
          show (_ ++ joinP [z] y' [], _) = _
          rw [joinP_left, hJ]
          rfl
        rw [e9] at hu
        injection hu with hu1 hu2
        obtain rfl := List.append_cancel_left hu1
        subst hu2
        exact fr_over kc kb (oa j) (ob _) (fj.cast rfl (by omega))
/-- what Delete makes of a root that leads to the secret, and what of it is new -/
theorem del_fresh {ns : List P3} {r : R} {h : Nat} {L : List PE} {x : P3} (hx : pageAt ns r = some x) (tx : Tree ns h x L) (hp : partsP x ≤ 4) (hp2 : 0 < h → 2 ≤ partsP x) (s : ByteArray) (hI : Inc (nm L)) (hs : s ∈ nm L) (hh : h ≤ 7) :
    ∃ way leaf sts lf n m r' h' x', downE ns s 9 r 1 = .ok (way, leaf) ∧ way.length = h ∧ leaf.1 = true ∧ Inc (leaf.2.1.map (·.1)) ∧ s ∈ nm leaf.2.1 ∧ (∀ p ∈ way, p.2 < p.1.2.2.length ∧ p.1.2.2.length ≤ 4) ∧ leaf.2.1.length ≤ 4 ∧
      neighP ns ([], true, (outP leaf.2.1 s).length, 1 + h) way.reverse = .ok (sts, lf, n, 1) ∧
      topP (upD (ns, (leaf.1, outP leaf.2.1 s, leaf.2.2)) sts) = (ns ++ m, r') ∧ pageAt (ns ++ m) r' = some x' ∧ Tree (ns ++ m) h' x' (outP L s) ∧ partsP x' ≤ 4 ∧ (0 < h' → 2 ≤ partsP x') ∧ (h' ≤ h ∧ h ≤ h' + 1) ∧ m.length ≤ 2 * h + 1 ∧ (∃ j, r' = refOf j ∧ j < (ns ++ m).length) ∧
      FrOk ns.length (r :: refsP ns h x) (r' :: refsP (ns ++ m) h' x') m.length := by
  have hpage : pageE ns r 1 = .ok x := Tree.page hx tx (by omega)
  obtain ⟨way, leaf, h1, h2, h3, h4, hsl, h5, h6, sts, m, x', hN, h7, h8, h9, h10⟩ := del_up s h x L 8 1 tx hI hs hp hp2 (by omega) (by omega)
  have fr := fr_del s h x L 8 1 way leaf sts _ _ _ m x' (r :: refsP ns h x) tx hI hs hp hp2 (by omega) (by omega) h1 hN h7 (fun q hq => List.mem_cons_of_mem _ hq)
  have hd : downE ns s 9 r 1 = .ok (way, leaf) := by rw [downE_ok hpage, h1]
  have hq := upD_len sts (ns, (leaf.1, outP leaf.2.1 s, leaf.2.2))
  have hsn := neighP_len ns _ _ _ hN
  simp only [List.length_nil, List.length_reverse] at hsn
  rw [h7] at hq
  simp only [List.length_append] at hq
  have hml : m.length ≤ 2 * h := by omega
  by_cases h1k : x'.1 = false ∧ x'.2.2.length = 1
  · cases h with
    | zero => exact absurd (h8.leaf ▸ h1k.1) (by simp)
    | succ h =>
      obtain ⟨a, b, c, d⟩ := h8
      obtain ⟨k, hk⟩ : ∃ k, x'.2.2 = [k] := List.length_eq_one_iff.1 h1k.2
      rw [hk] at d
      obtain ⟨L1, L2, y, e, hy, ty, hl, hpy, hn⟩ := d
      cases (show L2 = [] from hn)
      rw [List.append_nil] at e
      subst e
      refine ⟨way, leaf, sts, x'.1, partsP x', m, k.r, h, y, hd, h2, h3, h4, hsl, h5, h6, hN, ?_, hy, ty, hpy.2, fun _ => hpy.1, ⟨by omega, by omega⟩, by omega, pageAt_ref hy, ?_⟩
      · rw [h7, topP, if_pos h1k, hk]
        rfl
      · refine fr.cast ?_ rfl
        rw [refsP_succ, hk, refsK_cons [] hy, refsK_nil, List.append_nil]
  · refine ⟨way, leaf, sts, x'.1, partsP x', m ++ [x'], refOf (ns ++ m).length, h, x', hd, h2, h3, h4, hsl, h5, h6, hN, ?_, ?_, ?_, by omega, fun h0 => ?_, ⟨Nat.le_refl _, by omega⟩, by simp only [List.length_append, List.length_singleton]; omega, ⟨(ns ++ m).length, rfl, by simp only [List.length_append, List.length_singleton]; omega⟩, ?_⟩
    · rw [h7, topP, if_neg h1k, rootP, if_pos (show [x'].length = 1 from rfl), List.append_assoc]
    · rw [← List.append_assoc]; exact pageAt_new (ns ++ m) [x'] 0 x' rfl
    · rw [← List.append_assoc]; exact h8.app _
    · have h11 := hp2 h0
      have hf : x'.1 = false := by rw [h8.leaf]; exact decide_eq_false (by omega)
      have hpx : partsP x' = x'.2.2.length := by simp [partsP, hf]
      have : x'.2.2.length ≠ 1 := fun e => h1k ⟨hf, e⟩
      omega
    · refine (fr.new (i := (ns ++ m).length) (by rw [List.length_append]; omega)).cast ?_ (by rw [List.length_append]; rfl)
      rw [← List.append_assoc, (old_refs h x' _ h8).1]
end Go.Proofs.Ytnndohdiiglgmaa.trees
