/- slices.Backward over steps that change behind it. -/
import Derived.Test.YtnndohdiiglgmaaKDlG
import Derived.Test.YtnndohdiiglgmaaKTrAd
import Derived.Test.YtnndohdiiglgmaaKMix
import Derived.Test.YtnndohdiiglgmaaKDlA


namespace Go.Proofs.Ytnndohdiiglgmaa.trees
set_option linter.unusedVariables false
set_option linter.unusedSimpArgs false
open Go.RowKit Go.Shelf Go.Proofs.Ytnndohdiiglgmaa.base Go.Proofs.Ytnndohdiiglgmaa.vers Go.Proofs.Ytnndohdiiglgmaa.nodes Go.Proofs.Ytnndohdiiglgmaa.quotas
attribute [local go_sem] Oper.semAt_some

/-- the last k places of m, from the end -/
def desc (m k : Nat) : List Nat := (List.range k).map fun j => m - 1 - j
theorem desc_succ (m k : Nat) : desc m (k + 1) = desc m k ++ [m - 1 - k] := by simp [desc, List.range_succ]
theorem desc_len (m k : Nat) : (desc m k).length = k := by simp [desc]
/-- a row of m steps stands there, as Backward holds it -/
def RowB (Bs : Nat) (G : Nat → Prop) (A : Option Addr) (m c : Nat) (W : World) : Prop := W.cell? ⟨Bs, 0, none⟩ = some (.slice A m c) ∧ ∃ l : List St, l.length = m ∧ StF W G l A c
theorem RowB.agree {Bs : Nat} {G : Nat → Prop} {A : Option Addr} {m c : Nat} {W W' : World} (h : RowB Bs G A m c W) (hk : Agree W W' fun g => G g ∨ g = Bs) : RowB Bs G A m c W' :=
  ⟨(hk.cell (p := ⟨Bs, 0, none⟩) (.inr rfl)).trans h.1, h.2.imp fun l hl => ⟨hl.1, hl.2.agree (hk.mono fun g hg => .inl hg)⟩⟩
set_option maxRecDepth 100000 in
set_option maxHeartbeats 2000000 in
theorem back2S_in (F : Fence) (n : Nat) (hF : F.fn 107) (hro : F.round = none) (hn : 1 ≤ n) (l Bs : Nat) (G : Nat → Prop) (m : Nat) (hm : m * 112 ≤ 140737488355328) (A : Option Addr) (c : Nat) (J Jx : List (Fin m × St) → World → Prop)
    (hY : ∀ pre x W, J pre W → pre.length < m → YieldAt F (n - 1) Try.prog l #[.int .i64 ((x.1.val : Nat) : Int), x.2.v] W fun e W' =>
      (e = .returned (.bool true) ∧ J (pre ++ [x]) W' ∧ (RowB Bs G A m c W → RowB Bs G A m c W')) ∨ (e = .returned (.bool false) ∧ Jx (pre ++ [x]) W'))
    (W : World) (hK : RowB Bs G A m c W) (h0 : J [] W) :
    CallsIn F n Try.prog 107 #[.func (.yield l) #[] #[], .pointer (some ⟨Bs, 0, none⟩)] W fun e W' => (∃ v, e = .returned v) ∧
      ((∃ ys, ys.map (·.1.val) = desc m m ∧ J ys W') ∨ (∃ pre, (∃ k, k ≤ m ∧ pre.map (·.1.val) = desc m k) ∧ Jx pre W')) := by
  have hBs := hK.1
  have e0 : IntKind.i64.wrap ((m : Int) - 1) = (m : Int) - 1 := IntWalk.i64_in _ (by omega)
  refine callsIn_of_wp Try.func107 rfl hF ?_ hro
  simp only [Try.ntmps107, List.size_toArray, List.length_cons, List.length_nil, Nat.reduceAdd, Nat.reduceSub, Array.replicate_succ, Array.replicate_zero, List.push_toArray, List.append_toArray, List.nil_append, List.cons_append]
  gi_wp2
  gi_loopw [3] (fun i wr => ∃ (k r : Nat) (pre : List (Fin m × St)), k + r = m ∧ i = .int .i64 ((r : Int) - 1) ∧ pre.map (·.1.val) = desc m k ∧ J pre wr ∧ RowB Bs G A m c wr)
    (fun i _ => (intOf i + 1).toNat)
  case atStart => exact ⟨0, m, [], by omega, rfl, rfl, h0, hK⟩
  case round =>
    obtain ⟨k, r, pre, hk, rfl, hpre, hJs, hKr⟩ := hrel
    cases r with
    | zero =>
      gi_wp2
      go_end0
      have hk' : k = m := by omega
      exact ⟨⟨_, rfl⟩, .inl ⟨pre, hk' ▸ hpre, hJs⟩⟩
    | succ j =>
      have hj : (((j + 1 : Nat) : Int) - 1) = (j : Int) := by omega
      rw [hj]
      have hjl : j < m := by omega
      have hf : m - 1 - k = j := by omega
      obtain ⟨hb1, ls, hl, hS⟩ := id hKr
      obtain ⟨bk, off, rfl, _, c0, c1, c2, c3, c4, c5⟩ := hS.at_ (j := j) (by omega)
      generalize ls[j] = s at c0 c1 c2 c3 c4 c5
      have k1 : (0 : Int) ≤ (j : Int) := by omega
      have k2 : (j : Int) < (m : Int) := by omega
      have e1 : IntKind.i64.wrap ((j : Int) - 1) = (j : Int) - 1 := IntWalk.i64_in _ (by omega)
      obtain ⟨fn, tmps, assign, body, hy, hR⟩ := hY pre (⟨j, hjl⟩, s) wr hJs (by have := congrArg List.length hpre; rw [List.length_map, desc_len] at this; omega)
      dsimp only at hy
      have HK := vers.lay hk
      have HF := vers.lay hf
      have HP := vers.lay hpre
      have HR := vers.lay hKr
      clear hk hf hj hpre hKr hS hl ls
      gi_wp2
      refine hR.mono ?_
      rintro e W3 (⟨rfl, hJ3, hk3⟩ | ⟨rfl, hJx3⟩)
      · gi_wp2
        go_roundw
        case rel => exact ⟨k + 1, j, pre ++ [(⟨j, hjl⟩, s)], by have := HK.out; omega, rfl, by rw [desc_succ, HF.out, List.map_append, HP.out]; rfl, hJ3, hk3 HR.out⟩
        case measure => simp [intOf]
      · gi_wp2
        refine bodyPost_ret (results_none rfl _ _ _) rfl ?_
        exact ⟨⟨_, rfl⟩, .inr ⟨_, ⟨k + 1, by have := HK.out; omega, by rw [desc_succ, HF.out, List.map_append, HP.out]; rfl⟩, hJx3⟩⟩
theorem back2S_stops (F : Fence) (n : Nat) (hF : F.fn 107) (hro : F.round = none) (hn : 1 ≤ n) (Bs : Nat) (G : Nat → Prop) (m : Nat) (hm : m * 112 ≤ 140737488355328) (A : Option Addr) (c : Nat) (w : World) (hBs : Bs < w.heap.size) (hGl : ∀ g, G g → g < w.heap.size)
    (hK : RowB Bs G A m c w) :
    SeqStopsK F n Try.prog 107 #[.pointer (some ⟨Bs, 0, none⟩)] (fun x : Fin m × St => #[Value.int .i64 ((x.1.val : Nat) : Int), x.2.v]) (fun X Y => RowB Bs G A m c X → RowB Bs G A m c Y) (fun ys => ys.map (·.1.val) = desc m m)
      (fun pre => ∃ k, k ≤ m ∧ pre.map (·.1.val) = desc m k) m w := fun l J Jx W hW _ _ hY h0 =>
  back2S_in F n hF hro hn l Bs G m hm A c J Jx hY W (hK.agree (Agree.of_below hW fun g hg => by rcases hg with hg | rfl; exact hGl g hg; exact hBs)) h0
theorem rowB_b {Bs : Nat} {G : Nat → Prop} {A : Option Addr} {m c : Nat} {w : World} (hBs : Bs < w.heap.size) (hGl : ∀ g, G g → g < w.heap.size) (W : World) (l : Nat) (o o' : Obj) (hl : w.heap.size ≤ l) (h : W.heap[l]? = some o) (h1 : o.isCells = false) (h2 : o.isWalk = false) : RowB Bs G A m c W → RowB Bs G A m c (W.putObj l o') :=
  fun hR => hR.agree (agree_b (fun g hg => by rcases hg with hg | rfl; exact hGl g hg; exact hBs) W l o o' hl h h1 h2)
end Go.Proofs.Ytnndohdiiglgmaa.trees

/- The neighbours, step by step in any order: what the walk of neighbours makes, in pure words. -/

namespace Go.Proofs.Ytnndohdiiglgmaa.trees
set_option linter.unusedVariables false
set_option linter.unusedSimpArgs false
open Go.RowKit Go.Proofs.Ytnndohdiiglgmaa.base Go.Proofs.Ytnndohdiiglgmaa.vers Go.Proofs.Ytnndohdiiglgmaa.nodes Go.Proofs.Ytnndohdiiglgmaa.quotas

/-- neighbours ahead and behind -/
abbrev AB := List P3 × List P3
abbrev PS := P3 × Nat
def zS : PS := ((false, [], []), 0)
def bes (ns : List P3) (s : PS) (d : Nat) (y : P3) : Except Int AB := if partsP y < 2 ∧ 1 < s.1.2.2.length then besideP ns s.1.2.2 s.2 d y.1 else .ok ([], [])
def abOf (old r : AB) : AB := (if r.1 = [] then old.1 else r.1, if r.2 = [] then old.2 else r.2)
def childX (s : PS) (ab : AB) (y : P3) : P3 := (s.1.1, s.1.2.1, overK s.1.2.2 s.2 ab.1.length ab.2.length (List.replicate (joinP ab.1 y ab.2).length zK))
def nstepX (ns : List P3) (way : List PS) (st : List AB × P3) (i : Nat) : Except Int (List AB × P3) :=
  match bes ns (way[i]?.getD zS) (i + 2) st.2 with
  | .error e => .error e
  | .ok r => .ok (st.1.set i (abOf (st.1[i]?.getD ([], [])) r), childX (way[i]?.getD zS) (abOf (st.1[i]?.getD ([], [])) r) st.2)
def neighX (ns : List P3) (way : List PS) (st : List AB × P3) (l : List Nat) : Except Int (List AB × P3) := l.foldlM (nstepX ns way) st
theorem neighX_snoc {ns : List P3} {way : List PS} {st st' : List AB × P3} {l : List Nat} (i : Nat) (h : neighX ns way st l = .ok st') : neighX ns way st (l ++ [i]) = nstepX ns way st' i := by
  unfold neighX at h ⊢
  rw [List.foldlM_append, h]
  show ([i].foldlM (nstepX ns way) st') = _
  rw [List.foldlM_cons]
  cases nstepX ns way st' i <;> rfl
theorem neighX_err {ns : List P3} {way : List PS} {st : List AB × P3} {l : List Nat} {e : Int} (i : Nat) (h : neighX ns way st l = .error e) : neighX ns way st (l ++ [i]) = .error e := by
  unfold neighX at h ⊢
  rw [List.foldlM_append, h]
  rfl
/-- what may be found at a step -/
def AbOk (s : PS) (ab : AB) : Prop := (s.2 + 1 < s.1.2.2.length → ab.1 = []) ∧ (¬ s.2 + 1 < s.1.2.2.length → ab.2 = []) ∧ ab.1.length ≤ 1 ∧ ab.2.length ≤ 1 ∧ (ab.1 ≠ [] → 0 < s.2)
theorem AbOk.none (s : PS) : AbOk s ([], []) := ⟨fun _ => rfl, fun _ => rfl, by simp, by simp, fun h => (h rfl).elim⟩
theorem AbOk.of {s : PS} {old r : AB} (h : AbOk s old) (k : AbOk s r) : AbOk s (abOf old r) := by
  obtain ⟨h1, h2, h3, h4, h5⟩ := h
  obtain ⟨k1, k2, k3, k4, k5⟩ := k
  unfold abOf
  refine ⟨fun hc => ?_, fun hc => ?_, ?_, ?_, ?_⟩
  · simp only; rw [if_pos (k1 hc)]; exact h1 hc
  · simp only; rw [if_pos (k2 hc)]; exact h2 hc
  · simp only; split <;> assumption
  · simp only; split <;> assumption
  · simp only; split <;> assumption
theorem AbOk.room {s : PS} {ab : AB} (h : AbOk s ab) (hs : s.2 < s.1.2.2.length) : ab.1.length ≤ s.2 ∧ s.2 + 1 + ab.2.length ≤ s.1.2.2.length ∧ ab.1.length + ab.2.length ≤ 1 := by
  obtain ⟨h1, h2, h3, h4, h5⟩ := h
  by_cases hc : s.2 + 1 < s.1.2.2.length
  · rw [h1 hc]; simp; omega
  · rw [h2 hc]
    refine ⟨?_, by simp; omega, by simpa using h3⟩
    by_cases e : ab.1 = []
    · rw [e]; simp
    · have := h5 e; omega
theorem besideP_ok {ns : List P3} {ks : List K} {i d : Nat} {lf : Bool} {r : AB} (h : besideP ns ks i d lf = .ok r) (h2 : 1 < ks.length) (x : P3) (hx : x.2.2 = ks) : AbOk (x, i) r ∧ ∀ n ∈ r.1 ++ r.2, n.1 = lf := by
  subst hx
  unfold besideP at h
  split at h
  · cases h
  · rename_i n hn
    split at h
    · cases h
      exact ⟨AbOk.none _, fun n h => by cases h⟩
    · rename_i hl
      split at h
      · rename_i hc
        cases h
        refine ⟨⟨fun _ => rfl, fun h => (h hc).elim, by simp, by simp, fun h => (h rfl).elim⟩, fun z hz => ?_⟩
        simp at hz
        subst hz
        exact Classical.not_not.1 hl
      · rename_i hc
        cases h
        refine ⟨⟨fun h => (hc h).elim, fun _ => rfl, by simp, by simp, fun _ => ?_⟩, fun z hz => ?_⟩
        · simp only at hc ⊢; omega
        · simp at hz
          subst hz
          exact Classical.not_not.1 hl
theorem bes_ok {ns : List P3} {s : PS} {d : Nat} {y : P3} {r : AB} (h : bes ns s d y = .ok r) : AbOk s r ∧ ∀ n ∈ r.1 ++ r.2, n.1 = y.1 := by
  unfold bes at h
  split at h
  · rename_i hc
    exact besideP_ok h hc.2 s.1 rfl
  · cases h
    exact ⟨AbOk.none _, fun n h => by cases h⟩
theorem abOf_new (r : AB) : abOf ([], []) r = r := by
  obtain ⟨a, b⟩ := r
  simp only [abOf]
  congr 1 <;> (split <;> simp_all)
theorem foldl_sum (l : List P3) (n : Nat) : l.foldl (fun n y => n + partsP y) n = n + l.foldl (fun n y => n + partsP y) 0 := by
  induction l generalizing n with
  | nil => simp
  | cons x l ih => rw [List.foldl_cons, List.foldl_cons, ih (n + partsP x), ih (0 + partsP x)]; omega
theorem join_count {a b : List P3} {y : P3} (h : a.length + b.length ≤ 1) (hl : ∀ n ∈ a ++ b, n.1 = y.1) : (joinP a y b).length = if a.length + b.length = 0 then 1 else if partsP y + (a ++ b).foldl (fun n y => n + partsP y) 0 ≤ 3 then 1 else 2 := by
  have two : ∀ o : P3, (halvesP o).length = 2 := fun o => by unfold halvesP; split <;> rfl
  have hp : ∀ (u v : P3), u.1 = y.1 → v.1 = y.1 → partsP (oneOf y.1 [u, v]) = partsP u + partsP v := fun u v hu hv => by
    unfold oneOf partsP
    rw [hu, hv]
    cases y.1 <;> simp
  match a, b, h with
  | [], [], _ => rfl
  | [], [z], _ =>
    have hz : z.1 = y.1 := hl z (by simp)
    rw [joinP_right, hp y z rfl hz]
    simp only [List.length_nil, List.length_singleton, List.nil_append, List.foldl_cons, List.foldl_nil, Nat.zero_add, Nat.one_ne_zero, if_false]
    by_cases h3 : partsP y + partsP z ≤ 3
    · rw [if_pos h3, if_pos h3]
      rfl
    · rw [if_neg h3, if_neg h3]
      exact two _
  | [z], [], _ =>
    have hz : z.1 = y.1 := hl z (by simp)
    rw [joinP_left, hp z y hz rfl]
    simp only [List.length_nil, List.length_singleton, List.append_nil, List.foldl_cons, List.foldl_nil, Nat.zero_add, Nat.add_zero, Nat.one_ne_zero, if_false]
    rw [Nat.add_comm (partsP z)]
    by_cases h3 : partsP y + partsP z ≤ 3
    · rw [if_pos h3, if_pos h3]
      rfl
    · rw [if_neg h3, if_neg h3]
      exact two _
  | _ :: _ :: _, _, h => simp at h; omega
  | [_], _ :: _, h => simp at h; omega
  | [], _ :: _ :: _, h => simp at h
/-- a step with what was found -/
def sdAt (way : List PS) (abs : List AB) (i : Nat) : SD := ((way[i]?.getD zS).1, (way[i]?.getD zS).2, (abs[i]?.getD ([], [])).1, (abs[i]?.getD ([], [])).2)
theorem neighX_eq {ns : List P3} {way : List PS} (hw : ∀ x ∈ way, x.1.1 = false ∧ x.2 < x.1.2.2.length) (y : P3) : ∀ k, k ≤ way.length →
    match neighP ns ([], y.1, partsP y, way.length + 1) (way.reverse.take k) with
    | .error e => neighX ns way (List.replicate way.length ([], []), y) (desc way.length k) = .error e
    | .ok s => ∃ abs c, neighX ns way (List.replicate way.length ([], []), y) (desc way.length k) = .ok (abs, c) ∧ abs.length = way.length ∧ (∀ j, j < way.length - k → abs[j]? = some ([], [])) ∧ s = ((desc way.length k).map (sdAt way abs), c.1, partsP c, way.length + 1 - k)
  | 0, _ => ⟨_, _, rfl, by simp, fun j hj => by rw [List.getElem?_replicate, if_pos (by omega)], rfl⟩
  | k + 1, hk => by
    have ih := neighX_eq (ns := ns) hw y k (by omega)
    have hlt : way.length - 1 - k < way.length := by omega
    have ht : way.reverse.take (k + 1) = way.reverse.take k ++ [way[way.length - 1 - k]] := by
      rw [List.take_add_one, List.getElem?_reverse (by omega), List.getElem?_eq_getElem hlt]
      rfl
    have hg : way[way.length - 1 - k]?.getD zS = way[way.length - 1 - k] := by rw [List.getElem?_eq_getElem hlt]; rfl
    obtain ⟨hx1, hx2⟩ := hw _ (List.getElem_mem hlt)
    rw [ht, desc_succ]
    generalize hX : way[way.length - 1 - k] = X at *
    cases hN : neighP ns ([], y.1, partsP y, way.length + 1) (way.reverse.take k) with
    | error e =>
      rw [hN] at ih
      have : neighP ns ([], y.1, partsP y, way.length + 1) (way.reverse.take k ++ [X]) = .error e := by
        unfold neighP at hN ⊢
        rw [List.foldlM_append, hN]
        rfl
      rw [this]
      exact neighX_err _ ih
    | ok s =>
      rw [hN] at ih
      obtain ⟨abs, c, e1, e2, e3, rfl⟩ := ih
      rw [neighP_snoc ns _ _ _ hN, neighX_snoc _ e1]
      have h0 : abs[way.length - 1 - k]?.getD ([], []) = ([], []) := by rw [e3 _ (by omega)]; rfl
      have hd : way.length - 1 - k + 2 = way.length + 1 - k := by omega
      unfold nstepX
      simp only [hg, h0, abOf_new, hd]
      have hb : bes ns X (way.length + 1 - k) c = (if partsP c < 2 ∧ 1 < X.1.2.2.length then besideP ns X.1.2.2 X.2 (way.length + 1 - k) c.1 else .ok ([], [])) := rfl
      have hst : nstep ns ((desc way.length k).map (sdAt way abs), c.1, partsP c, way.length + 1 - k) X = match bes ns X (way.length + 1 - k) c with
        | .error e => .error e
        | .ok (a, b) => .ok ((desc way.length k).map (sdAt way abs) ++ [(X.1, X.2, a, b)], X.1.1, X.1.2.2.length - (a.length + 1 + b.length) + (if a.length + b.length = 0 then 1 else if partsP c + (a ++ b).foldl (fun n y => n + partsP y) 0 ≤ 3 then 1 else 2), way.length + 1 - k - 1) := by
        rw [hb]; rfl
      rw [hst]
      cases hB : bes ns X (way.length + 1 - k) c with
      | error e => rfl
      | ok r =>
        obtain ⟨hA, hL⟩ := bes_ok hB
        obtain ⟨r1, r2, r3⟩ := hA.room hx2
        refine ⟨_, _, rfl, by rw [List.length_set]; exact e2, fun j hj => ?_, ?_⟩
        · rw [List.getElem?_set_ne (by omega)]
          exact e3 j (by omega)
        · have hm : (desc way.length k).map (sdAt way (abs.set (way.length - 1 - k) r)) = (desc way.length k).map (sdAt way abs) := by
            refine List.map_congr_left fun j hj => ?_
            obtain ⟨q, hq, rfl⟩ := List.mem_map.1 hj
            rw [List.mem_range] at hq
            unfold sdAt
            rw [List.getElem?_set_ne (by omega)]
          have hl : sdAt way (abs.set (way.length - 1 - k) r) (way.length - 1 - k) = (X.1, X.2, r.1, r.2) := by
            unfold sdAt
            rw [hg, List.getElem?_set_self (by omega)]
            rfl
          have hc : partsP (childX X r c) = X.1.2.2.length - (r.1.length + 1 + r.2.length) + (if r.1.length + r.2.length = 0 then 1 else if partsP c + (r.1 ++ r.2).foldl (fun n y => n + partsP y) 0 ≤ 3 then 1 else 2) := by
            rw [← join_count r3 hL]
            unfold childX partsP overK
            simp only [hx1, Bool.false_eq_true, if_false, List.length_append, List.length_take, List.length_drop, List.length_replicate]
            omega
          rw [List.map_append, List.map_singleton, hm, hl, hc]
          obtain ⟨r1', r2'⟩ := r
          rfl
end Go.Proofs.Ytnndohdiiglgmaa.trees
