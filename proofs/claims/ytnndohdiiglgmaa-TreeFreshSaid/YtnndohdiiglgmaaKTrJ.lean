/- slices.Replace of one secret by another in a row of the call's own. -/
import Derived.Test.YtnndohdiiglgmaaKTrI
import Derived.Test.YtnndohdiiglgmaaKTrA
import Derived.Test.YtnndohdiiglgmaaKMix


namespace Go.Proofs.Ytnndohdiiglgmaa.trees
set_option linter.unusedVariables false
set_option linter.unusedSimpArgs false
open Go.RowKit Go.Proofs.Ytnndohdiiglgmaa.base Go.Proofs.Ytnndohdiiglgmaa.vers Go.Proofs.Ytnndohdiiglgmaa.nodes Go.Proofs.Ytnndohdiiglgmaa.quotas

set_option maxRecDepth 100000 in
set_option maxHeartbeats 4000000 in
theorem replace_end (g i c : Nat) (cur : Array Value) (xs cs : List Value) (q : Nat) (w : World) (hb : Blk w g 47 cur) (hcs : cur.size = c * 2) (hxs : cur.toList.take ((i + 1) * 2) = xs)
    (hnc : i + 1 ≤ c) (hcm : c ≤ maxLen) (hq : Rd w w.heap.size (some ⟨q, 0, none⟩) cs) (hc : cs.length = 2) (h1 : ∀ u ∈ cs, u.oneCell' = true) (hlen : (i + 1) * 40 ≤ 140737488355328) :
    Calls Try.prog 97 #[.slice (some ⟨g, 0, none⟩) (i + 1) c, .int .i64 (i : Int), .int .i64 ((i : Int) + 1), .slice (some ⟨q, 0, none⟩) 1 1] w (RowTo w (.slice (some ⟨g, 0, none⟩) (i + 1) c) (i + 1) (xs.take (i * 2) ++ cs ++ xs.drop ((i + 1) * 2))) := by
  obtain ⟨i0, hi0, hz0, hz1, hz2⟩ := info_parts infoE
  have hxl : xs.length = (i + 1) * 2 := by rw [← hxs, List.length_take, Array.length_toList, hcs]; omega
  have hT : cur.toList.take (i * 2) = xs.take (i * 2) := by rw [← hxs, List.take_take, Nat.min_eq_left (by omega)]
  have hown : w.ownsRow 0 47 2 (.slice (some ⟨g, 0, none⟩) i c) i (xs.take (i * 2)) := ⟨by rw [List.length_take, hxl]; omega, .inr ⟨g, c, cur, rfl, Nat.zero_le _, hb, by omega, hcm, hcs, hT⟩⟩
  have hd : xs.drop ((i + 1) * 2) = [] := List.drop_eq_nil_of_le (by omega)
  rw [hd, List.append_nil]
  have n1 : ¬ ((i : Int) = (i : Int) + 1) := by omega
  have n2 : (i : Int) + 1 ≤ (c : Int) := by omega
  have n3 : ((i : Int) + 1).toNat = i + 1 := by omega
  have n4 : (i : Int) ≤ (i : Int) + 1 := by omega
  have n5 : ¬ (c = i) := by omega
  clear hxs hT hb hcs
  generalize xs.take (i * 2) = X at hown ⊢
  go_enter Try.func97, Try.ntmps97
  go_wp2_with (at_builtin; refine wpList_bulk Try.underlying57 hi0 hz0 hz1 hz2 rfl (by decide) rfl (.tmp 32) (.tmp 33) rfl hown rfl (m := 1) (by rw [hc]) hq (fun e => by cases e) (Nat.le_refl _) h1 rfl hlen (by unfold maxLen; omega) ?_; intro v9 w4 ho9 hK9 hv9; obtain ⟨A9, c9, rfl, _⟩ := row_rdF ho9)
  go_ret
  exact ⟨_, rfl, ho9, hK9, hv9⟩

theorem clear_none (a : Addr) (c : Nat) (ty : TypeId) (u : World) : (Builtin.clear_ #[57] ty #[.slice (some a) 0 c]).run Try.prog u = .ok (.tuple #[]) u := by
  simp [Builtin.clear_, run_underlying Try.underlying57]
theorem blk_drewN {w : World} {g : Nat} {t : TypeId} {cs : Array Value} (h : Blk w g t cs) (k : Nat) : Blk (w.drewN k) g t cs := by
  induction k with
  | zero => exact h
  | succ k ih => exact ih
set_option maxHeartbeats 4000000 in
theorem replace_copies (g n i c : Nat) (cur : Array Value) (xs cs : List Value) (q : Nat) (cq : Array Value) (w : World) (hb : Blk w g 47 cur) (hcs : cur.size = c * 2) (hxs : cur.toList.take (n * 2) = xs) (h1x : ∀ u ∈ xs, u.oneCell' = true)
    (hi : i + 1 < n) (hnc : n ≤ c) (hcm : c ≤ maxLen) (kq : Blk w q 47 cq) (hcq : cq.toList = cs) (hqg : q ≠ g) (hc : cs.length = 2) (h1 : ∀ u ∈ cs, u.oneCell' = true) (hlen : n * 40 ≤ 140737488355328) (k : Nat) :
    ∃ w2 w3, (Builtin.copy_ #[57, 57] 3 #[.slice (some ⟨g, i * 2, none⟩) (n - i) (c - i), .slice (some ⟨q, 0, none⟩) 1 1]).run Try.prog (w.drewN k) = .ok (goInt (1 : Nat)) w2 ∧
      (Builtin.copy_ #[57, 57] 3 #[.slice (some ⟨g, (i + 1) * 2, none⟩) (n - (i + 1)) (c - (i + 1)), .slice (some ⟨g, (i + 1) * 2, none⟩) (n - (i + 1)) (c - (i + 1))]).run Try.prog w2.drew = .ok (goInt (n - (i + 1) : Nat)) w3 ∧
      RowTo w (.slice (some ⟨g, 0, none⟩) n c) n (xs.take (i * 2) ++ cs ++ xs.drop ((i + 1) * 2)) (.returned (.slice (some ⟨g, 0, none⟩) n c)) w3 := by
  have hxl : xs.length = n * 2 := by rw [← hxs, List.length_take, Array.length_toList, hcs]; omega
  have hq1 : ∀ j u, cs[j]? = some u → (w.drewN k).cell? ((⟨q, 0, none⟩ : Addr).add j) = some u := fun j u hj => by
    rw [add_plain, Nat.zero_add]
    rw [show (w.drewN k).cell? ⟨q, j, none⟩ = w.cell? ⟨q, j, none⟩ from rfl, kq.cell, ← Array.getElem?_toList, hcq]
    exact hj
  obtain ⟨w2, hcp1, kM, s2, hM, o2, t2, u2⟩ := run_copy_blk (w.drewN k) 57 57 3 47 g (i * 2) (n - i) (c - i) ⟨q, 0, none⟩ 1 1 2 cur 47 cs Try.underlying57 infoE2 (blk_drewN hb k) (by rw [hc, show Nat.min 1 (n - i) = 1 from Nat.min_eq_left (by omega)]) hq1 (by rw [hc, hcs]; omega) h1
  rw [show Nat.min 1 (n - i) = 1 from Nat.min_eq_left (by omega)] at hcp1
  have hYl : (xs.drop ((i + 1) * 2)).length = (n - (i + 1)) * 2 := by rw [List.length_drop, hxl]; omega
  have hXl : (xs.take (i * 2)).length = i * 2 := by rw [List.length_take, hxl]; omega
  have hT : cur.toList.take (i * 2) = xs.take (i * 2) := by rw [← hxs, List.take_take, Nat.min_eq_left (by omega)]
  have hY : ∀ j u, (xs.drop ((i + 1) * 2))[j]? = some u → w2.drew.cell? ((⟨g, (i + 1) * 2, none⟩ : Addr).add j) = some u := fun j u hj => by
    rw [add_plain, show w2.drew.cell? ⟨g, (i + 1) * 2 + j, none⟩ = w2.cell? ⟨g, (i + 1) * 2 + j, none⟩ from rfl, kM.cell, ← Array.getElem?_toList]
    have e1 : (cur.toList.take (i * 2) ++ cs).length = (i + 1) * 2 := by rw [hT]; simp only [List.length_append, hXl, hc]; omega
    rw [List.getElem?_append_right (by rw [e1]; omega), e1, show (i + 1) * 2 + j - (i + 1) * 2 = j by omega, List.getElem?_drop, hc]
    rw [List.getElem?_drop, ← hxs, List.getElem?_take] at hj
    split at hj
    · rw [show i * 2 + 2 + j = (i + 1) * 2 + j by omega]; exact hj
    · cases hj
  obtain ⟨w3, hcp2, kL, s3, hL, o3, t3, u3⟩ := run_copy_blk w2.drew 57 57 3 47 g ((i + 1) * 2) (n - (i + 1)) (c - (i + 1)) ⟨g, (i + 1) * 2, none⟩ (n - (i + 1)) (c - (i + 1)) 2 _ 47 (xs.drop ((i + 1) * 2)) Try.underlying57 infoE2 (blk_drew kM) (by rw [hYl, show Nat.min (n - (i + 1)) (n - (i + 1)) = n - (i + 1) from Nat.min_self _]) hY (by simp [hYl, hc, hcs]; omega) (fun u hu => h1x u (List.mem_of_mem_drop hu))
  rw [show Nat.min (n - (i + 1)) (n - (i + 1)) = n - (i + 1) from Nat.min_self _] at hcp2
  have hres : RowTo w (.slice (some ⟨g, 0, none⟩) n c) n (xs.take (i * 2) ++ cs ++ xs.drop ((i + 1) * 2)) (.returned (.slice (some ⟨g, 0, none⟩) n c)) w3 := by
    refine ⟨_, rfl, ⟨by simp [hXl, hYl, hc]; omega, .inr ⟨g, c, _, rfl, Nat.zero_le _, kL, hnc, hcm, ?_, ?_⟩⟩, ⟨o3.trans o2, t3.trans t2, u3.trans u2, by rw [s3]; show w.heap.size ≤ w2.heap.size; rw [s2]; exact Nat.le_refl _, fun k hk hn => ?_⟩, fun k hk => .inl hk⟩
    · simp [hYl, hc, hcs]; omega
    · have e1 : (cur.toList.take (i * 2) ++ cs).length = (i + 1) * 2 := by rw [hT]; simp only [List.length_append, hXl, hc]; omega
      have e2 : (cur.toList.take (i * 2) ++ cs ++ cur.toList.drop (i * 2 + cs.length)).take ((i + 1) * 2) = cur.toList.take (i * 2) ++ cs := by
        rw [List.take_append_of_le_length (by omega), List.take_of_length_le (by omega)]
      simp only
      rw [e2, List.take_append_of_le_length (by rw [List.length_append, e1, hYl]; omega), List.take_of_length_le (by rw [List.length_append, e1, hYl]; omega), hT]
    · have hk2 : k ≠ g := fun e => hn (by subst e; rfl)
      exact (hL k hk2).trans (hM k hk2)
  exact ⟨w2, w3, hcp1, hcp2, hres⟩

set_option maxRecDepth 100000 in
set_option maxHeartbeats 4000000 in
theorem replace_mid (g n i c : Nat) (cur : Array Value) (xs cs : List Value) (q : Nat) (cq : Array Value) (w : World) (hb : Blk w g 47 cur) (hcs : cur.size = c * 2) (hxs : cur.toList.take (n * 2) = xs) (h1x : ∀ u ∈ xs, u.oneCell' = true)
    (hi : i + 1 < n) (hnc : n ≤ c) (hcm : c ≤ maxLen) (kq : Blk w q 47 cq) (hcq : cq.toList = cs) (hqg : q ≠ g) (hc : cs.length = 2) (h1 : ∀ u ∈ cs, u.oneCell' = true) (hlen : n * 40 ≤ 140737488355328) :
    Calls Try.prog 97 #[.slice (some ⟨g, 0, none⟩) n c, .int .i64 (i : Int), .int .i64 ((i : Int) + 1), .slice (some ⟨q, 0, none⟩) 1 1] w (RowTo w (.slice (some ⟨g, 0, none⟩) n c) n (xs.take (i * 2) ++ cs ++ xs.drop ((i + 1) * 2))) := by
  have HC := vers.lay (replace_copies g n i c cur xs cs q cq w hb hcs hxs h1x hi hnc hcm kq hcq hqg hc h1 hlen)
  clear hb hcs hxs h1x kq hcq h1
  generalize xs.take (i * 2) ++ cs ++ xs.drop ((i + 1) * 2) = L at HC ⊢
  have n1 : ¬ ((i : Int) = (i : Int) + 1) := by omega
  have n2 : (i : Int) + 1 ≤ (c : Int) := by omega
  have n3 : ((i : Int) + 1).toNat = i + 1 := by omega
  have n4 : (i : Int) ≤ (i : Int) + 1 := by omega
  have n5 : ¬ (c = i) := by omega
  have n6 : ¬ ((i : Int) + 1 = (n : Int)) := by omega
  have n7 : (i : Int) ≤ (n : Int) := by omega
  have n8 : (i : Int) + 1 ≤ (n : Int) := by omega
  have n9 : ¬ (c = i + 1) := by omega
  have m0 : IntKind.i64.wrap ((i : Int) + 1) = (i : Int) + 1 := IntWalk.i64_in _ (by omega)
  have m9 : (0 : Int) ≤ (i : Int) + 1 := by omega
  have m1 : ((n - (i + 1) : Nat) : Int) = (n : Int) - ((i : Int) + 1) := by omega
  have m2 : (i : Int) + 1 + ((n : Int) - ((i : Int) + 1)) = (n : Int) := by omega
  have hcl := clear_none
  rcases Nat.lt_or_ge n c with hlt | hge
  · have m3 : ¬ (c = n) := by omega
    go_enter Try.func97, Try.ntmps97
    go_wp2_with fail
    go_quiet (fail)
    obtain ⟨w2, w3, hcp1, hcp2, hres⟩ := HC.out nq
    clear HC
    generalize w.drewN nq = w0 at hcp1 ⊢
    go_wp2_with fail
    go_region_law (refine step_copy_run2 rfl _ _ 57 57 rfl _ _ (by simp [Act.eval, Act.put]) (by simp [Act.eval, Act.put]) hcp2 ?_)
    go_wp2_with fail
    go_ret
    exact hres
  · obtain rfl : c = n := by omega
    go_enter Try.func97, Try.ntmps97
    go_wp2_with fail
    go_quiet (fail)
    obtain ⟨w2, w3, hcp1, hcp2, hres⟩ := HC.out nq
    clear HC
    generalize w.drewN nq = w0 at hcp1 ⊢
    go_wp2_with fail
    go_region_law (refine step_copy_run2 rfl _ _ 57 57 rfl _ _ (by simp [Act.eval, Act.put]) (by simp [Act.eval, Act.put]) hcp2 ?_)
    go_wp2_with fail
    go_ret
    exact hres
end Go.Proofs.Ytnndohdiiglgmaa.trees

/- tree.with: a secret in the place of the one of its name, or among the others. -/

namespace Go.Proofs.Ytnndohdiiglgmaa.trees
set_option linter.unusedVariables false
set_option linter.unusedSimpArgs false
open Go.RowKit Go.Proofs.Ytnndohdiiglgmaa.base Go.Proofs.Ytnndohdiiglgmaa.vers Go.Proofs.Ytnndohdiiglgmaa.nodes Go.Proofs.Ytnndohdiiglgmaa.quotas

theorem blk_rd {w : World} {g : Nat} {t : TypeId} {cs : Array Value} (h : Blk w g t cs) : Rd w w.heap.size (some ⟨g, 0, none⟩) cs.toList := Blk.rd h h.lt
theorem insert_any (v : Value) (n i : Nat) (xs : List Value) (cq : Array Value) (q : Nat) (w : World) (hown : w.ownsRow 0 47 2 v n xs) (hi : i ≤ n) (h1x : ∀ u ∈ xs, u.oneCell' = true)
    (kq : Blk w q 47 cq) (hqv : v.ownBlock ≠ some q) (hc : cq.toList.length = 2) (h1 : ∀ u ∈ cq.toList, u.oneCell' = true) (hlen : (n + 1) * 40 ≤ 140737488355328) :
    Calls Try.prog 99 #[v, .int .i64 (i : Int), .slice (some ⟨q, 0, none⟩) 1 1] w (RowTo w v (n + 1) (xs.take (i * 2) ++ cq.toList ++ xs.drop (i * 2))) := by
  rcases Nat.lt_or_ge i n with hlt | hge
  · obtain ⟨hx, h⟩ := hown
    rcases h with ⟨rfl, h0⟩ | ⟨g, cap, cur, rfl, _, hb, hcap, hcm, hs, ht⟩
    · omega
    · have hqg : q ≠ g := fun e => hqv (by subst e; rfl)
      rcases Nat.lt_or_ge n cap with h2 | h2
      · exact insert_room g n i cap cur xs cq.toList q cq w hb hs ht h1x hlt h2 hcm kq rfl hqg hc h1 hlen
      · obtain rfl : cap = n := by omega
        exact insert_grow g cap i cur xs cq.toList q w hb hs ht h1x hlt (blk_rd kq) hc h1 hlen
  · obtain rfl : i = n := by omega
    have hx := hown.1
    rw [List.take_of_length_le (by omega), List.drop_eq_nil_of_le (by omega), List.append_nil]
    exact insert_end v i xs cq.toList q w hown (blk_rd kq) hc h1 hlen
theorem replace_any (v : Value) (n i : Nat) (xs : List Value) (cq : Array Value) (q : Nat) (w : World) (hown : w.ownsRow 0 47 2 v n xs) (hi : i < n) (h1x : ∀ u ∈ xs, u.oneCell' = true)
    (kq : Blk w q 47 cq) (hqv : v.ownBlock ≠ some q) (hc : cq.toList.length = 2) (h1 : ∀ u ∈ cq.toList, u.oneCell' = true) (hlen : n * 40 ≤ 140737488355328) :
    Calls Try.prog 97 #[v, .int .i64 (i : Int), .int .i64 ((i : Int) + 1), .slice (some ⟨q, 0, none⟩) 1 1] w (RowTo w v n (xs.take (i * 2) ++ cq.toList ++ xs.drop ((i + 1) * 2))) := by
  obtain ⟨hx, h⟩ := hown
  rcases h with ⟨rfl, h0⟩ | ⟨g, cap, cur, rfl, _, hb, hcap, hcm, hs, ht⟩
  · omega
  · have hqg : q ≠ g := fun e => hqv (by subst e; rfl)
    rcases Nat.lt_or_ge (i + 1) n with h2 | h2
    · exact replace_mid g n i cap cur xs cq.toList q cq w hb hs ht h1x h2 hcap hcm kq rfl hqg hc h1 hlen
    · obtain rfl : n = i + 1 := by omega
      exact replace_end g i cap cur xs cq.toList q w hb hs ht hcap hcm (blk_rd kq) hc h1 hlen

theorem cellsE_take : ∀ (l : List E) (i : Nat), cellsE (l.take i) = (cellsE l).take (i * 2)
  | [], i => by simp [cellsE]
  | x :: l, 0 => by simp [cellsE]
  | x :: l, i + 1 => by
    have hl : x.cells.length = 2 := rfl
    rw [List.take_succ_cons, cellsE, cellsE, cellsE_take l i, List.take_append, List.take_of_length_le (l := x.cells) (by rw [hl]; omega), hl, show (i + 1) * 2 - 2 = i * 2 by omega]
theorem cellsE_drop : ∀ (l : List E) (i : Nat), cellsE (l.drop i) = (cellsE l).drop (i * 2)
  | [], i => by simp [cellsE]
  | x :: l, 0 => by simp
  | x :: l, i + 1 => by
    have hl : x.cells.length = 2 := rfl
    rw [List.drop_succ_cons, cellsE, cellsE_drop l i, List.drop_append, show x.cells.drop ((i + 1) * 2) = [] from List.drop_eq_nil_of_le (by rw [hl]; omega), List.nil_append, hl, show (i + 1) * 2 - 2 = i * 2 by omega]
abbrev PE := ByteArray × List V
/-- secrets, and one in the place of the one of its name, or among the others -/
def withP (l : List PE) (x : PE) : List PE :=
  let k := lbP (l.map (·.1)) x.1
  l.take k ++ x :: l.drop (if (l.map (·.1))[k]? = some x.1 then k + 1 else k)
def WithPost (w : World) (F : Nat → Prop) (l : List E) (v : Value) (x : PE) (e : Ending) (w' : World) : Prop :=
  ∃ v' l', e = .returned v' ∧ l'.map pe = withP (l.map pe) x ∧ OwnEF w' (fun g => F g ∨ (w.heap.size ≤ g ∧ g < w'.heap.size)) l' v' ∧ Keep (fun g => v.ownBlock = some g) w w'
theorem with_post {w w1 w2 : World} {F : Nat → Prop} {l : List E} {v : Value} {s : ByteArray} {y : E} {e : Ending} {k d n : Nat} (hO : OwnEF w F l v) (hF : ∀ g, F g → g < w.heap.size) (hb : Below w.heap.size w w1) (hy : OwnVF w1 (fun g => w.heap.size ≤ g ∧ g < w1.heap.size) y) (hys : y.s.size ≤ maxLen)
    (hn : (l.take k ++ y :: l.drop d).length = n) (hn40 : n * 40 ≤ 140737488355328) (hk : k = lbP ((l.map pe).map (·.1)) y.s) (hd : d = if ((l.map pe).map (·.1))[k]? = some y.s then k + 1 else k)
    (hR : RowTo w1 v n ((cellsE l).take (k * 2) ++ y.cells ++ (cellsE l).drop (d * 2)) e w2) : WithPost w F l v (pe y) e w2 := by
  obtain ⟨v', rfl, ho, hK, hv⟩ := hR
  have s1 := hb.size
  have s2 := hK.size
  have hold : Agree w w2 (fun g => F g ∧ some g ≠ v.ownBlock) := fun g hg => (hK.block g (by have := hF g hg.1; omega) (fun e => hg.2 e.symm)).trans (hb.block g (hF g hg.1))
  have hvF : ∀ g, v.ownBlock = some g → F g := hO.2.2.1
  refine ⟨v', l.take k ++ y :: l.drop d, rfl, ?_, ⟨?_, by rw [hn]; exact hn40, fun g hg => ?_, fun x hx => ?_⟩, ⟨hK.os.trans hb.os, hK.tape.trans hb.tape, hK.output.trans hb.output, by omega, fun g hg hg2 => (hK.block g (by omega) hg2).trans (hb.block g hg)⟩⟩
  · subst hd hk
    simp only [withP, List.map_append, List.map_cons, List.map_take, List.map_drop]
    rfl
  · rw [hn, cellsE_app, cellsE, cellsE_take, cellsE_drop, ← List.append_assoc]; exact ho
  · rcases hv g hg with h | h
    · exact .inl (hvF g h)
    · exact .inr ⟨by omega, h.2⟩
  · have hne : ∀ g, w1.heap.size ≤ g → v.ownBlock ≠ some g := fun g hg e => by have := hF g (hvF g e); omega
    have hx' : x = y ∨ x ∈ l := by
      rcases List.mem_append.1 hx with h | h
      · exact .inr (List.mem_of_mem_take h)
      · rcases List.mem_cons.1 h with h | h
        · exact .inl h
        · exact .inr (List.mem_of_mem_drop h)
    rcases hx' with rfl | hx'
    · refine ⟨((hy.agree (hK.agree fun g hg => ⟨hg.2, fun e => ?_⟩)).mono fun g hg => ⟨.inr ⟨hg.1, by omega⟩, fun e => ?_⟩), hys⟩
      · have := hF g (hvF g e); omega
      · rcases hv g e.symm with h | h
        · have := hF g (hvF g h); omega
        · omega
    · have h3 := hO.2.2.2 x hx'
      refine ⟨((h3.1.agree hold).mono fun g hg => ⟨.inl hg.1, fun e => ?_⟩), h3.2⟩
      rcases hv g e.symm with h | h
      · exact hg.2 h.symm
      · have := hF g hg.1; omega

theorem pe_map (l : List E) : (l.map pe).map (·.1) = l.map (·.s) := by
  rw [List.map_map]; rfl
set_option maxRecDepth 100000 in
set_option maxHeartbeats 4000000 in
theorem with_any (l : List E) (v : Value) (s : ByteArray) (vl : List V) (A : Option Addr) (c : Nat) (F : Nat → Prop) (w : World) (hO : OwnEF w F l v) (hF : ∀ g, F g → g < w.heap.size) (hV : Vs w w.heap.size vl A c) (hs : s.size ≤ maxLen) (hI : Inc (l.map (·.s))) (hlen : (l.length + 1) * 40 ≤ 140737488355328) :
    Calls Try.prog 57 #[v, .agg #[.string s, .slice A vl.length c]] w (WithPost w F l v (s, vl)) := by
  have hO' := hO
  obtain ⟨A0, c0, rfl, hEF⟩ := hO'.es
  have hE := hEF.es
  have b1 : Below w.heap.size w (w.alloc (.cells #[.string s, .slice A vl.length c] 47)) := (Below.refl _ _).alloc (Nat.le_refl _) _
  have kE := Blk.new w 47 #[.string s, .slice A vl.length c]
  have hplace := place_any l A0 c0 s _ (hE.at_world b1) hI
  have hkl : lbP (l.map (·.s)) s ≤ l.length := by simpa using lbP_le (l.map (·.s)) s
  generalize hk : lbP (l.map (·.s)) s = k at hplace hkl
  have HK := vers.lay hk
  clear hk
  by_cases hth : (l.map (·.s))[k]? = some s
  · rw [decide_eq_true hth] at hplace
    have hkl2 : k < l.length := by
      rcases Nat.lt_or_ge k l.length with h | h
      · exact h
      · rw [List.getElem?_eq_none (by simpa using h)] at hth; cases hth
    have HT := vers.lay hth
    clear hth
    have hn1 : ∀ y : E, (l.take k ++ y :: l.drop (k + 1)).length = l.length := fun y => by simp; omega
    go_enter Try.func57, Try.ntmps57
    go_wp2_with fail
    refine hplace.mono ?_
    rintro e w2 ⟨rfl, hb2⟩
    have bw2 := b1.trans (hb2.mono b1.size)
    have kE2 := kE.below hb2 kE.lt
    have e0 := kE2.cell 0
    have e1 := kE2.cell 1
    simp at e0 e1
    have lE := kE2.lt
    clear hplace
    go_wp2_with fail
    refine (copiedEntry_any s vl A c _ (hV.below bw2 |>.more bw2.size)).mono ?_
    rintro e w3 ⟨A3, c3, rfl, hy, hb3⟩
    have bw3 := bw2.trans (hb3.mono bw2.size)
    have kq := Blk.new w3 47 #[.string s, .slice A3 vl.length c3]
    have b4 : Below w3.heap.size w3 (w3.alloc (.cells #[.string s, .slice A3 vl.length c3] 47)) := (Below.refl _ _).alloc (Nat.le_refl _) _
    have bw4 := bw3.trans (b4.mono bw3.size)
    have hy4 : OwnVF (w3.alloc (.cells #[.string s, .slice A3 vl.length c3] 47)) (fun g => w.heap.size ≤ g ∧ g < (w3.alloc (.cells #[.string s, .slice A3 vl.length c3] 47)).heap.size) ⟨s, vl, A3, c3⟩ := (hy.agree (Agree.of_below b4 fun g hg => hg.2)).mono fun g hg => ⟨by have := bw2.size; omega, by simp; omega⟩
    have ho4 := row_below hO.1 bw4
    have hq4 : (Value.slice A0 l.length c0).ownBlock ≠ some w3.heap.size := fun e => by have := hF _ (hO.2.2.1 _ e); have := bw3.size; omega
    clear e0 e1 lE kE2 kE hE hEF
    go_wp2_with fail
    refine (replace_any (.slice A0 l.length c0) l.length k (cellsE l) _ w3.heap.size _ ho4 hkl2 (cellsE_one l) kq hq4 rfl (by intro u hu; simp at hu; rcases hu with rfl | rfl <;> rfl) (by omega)).mono ?_
    rintro e w5 hR
    have hWP := with_post (y := ⟨s, vl, A3, c3⟩) (k := k) (d := (k + 1)) (n := l.length) (s := s) hO hF bw4 hy4 hs (hn1 _) (by omega) (by rw [pe_map]; exact HK.out.symm) (by rw [pe_map, if_pos HT.out]) hR
    obtain ⟨v', l', rfl, hWP⟩ := hWP
    go_wp2_with fail
    go_ret
    exact ⟨v', l', rfl, hWP⟩
  · rw [decide_eq_false hth] at hplace
    have HT := vers.lay hth
    clear hth
    have hn1 : ∀ y : E, (l.take k ++ y :: l.drop k).length = (l.length + 1) := fun y => by simp; omega
    go_enter Try.func57, Try.ntmps57
    go_wp2_with fail
    refine hplace.mono ?_
    rintro e w2 ⟨rfl, hb2⟩
    have bw2 := b1.trans (hb2.mono b1.size)
    have kE2 := kE.below hb2 kE.lt
    have e0 := kE2.cell 0
    have e1 := kE2.cell 1
    simp at e0 e1
    have lE := kE2.lt
    clear hplace
    go_wp2_with fail
    refine (copiedEntry_any s vl A c _ (hV.below bw2 |>.more bw2.size)).mono ?_
    rintro e w3 ⟨A3, c3, rfl, hy, hb3⟩
    have bw3 := bw2.trans (hb3.mono bw2.size)
    have kq := Blk.new w3 47 #[.string s, .slice A3 vl.length c3]
    have b4 : Below w3.heap.size w3 (w3.alloc (.cells #[.string s, .slice A3 vl.length c3] 47)) := (Below.refl _ _).alloc (Nat.le_refl _) _
    have bw4 := bw3.trans (b4.mono bw3.size)
    have hy4 : OwnVF (w3.alloc (.cells #[.string s, .slice A3 vl.length c3] 47)) (fun g => w.heap.size ≤ g ∧ g < (w3.alloc (.cells #[.string s, .slice A3 vl.length c3] 47)).heap.size) ⟨s, vl, A3, c3⟩ := (hy.agree (Agree.of_below b4 fun g hg => hg.2)).mono fun g hg => ⟨by have := bw2.size; omega, by simp; omega⟩
    have ho4 := row_below hO.1 bw4
    have hq4 : (Value.slice A0 l.length c0).ownBlock ≠ some w3.heap.size := fun e => by have := hF _ (hO.2.2.1 _ e); have := bw3.size; omega
    clear e0 e1 lE kE2 kE hE hEF
    go_wp2_with fail
    refine (insert_any (.slice A0 l.length c0) l.length k (cellsE l) _ w3.heap.size _ ho4 hkl (cellsE_one l) kq hq4 rfl (by intro u hu; simp at hu; rcases hu with rfl | rfl <;> rfl) hlen).mono ?_
    rintro e w5 hR
    have hWP := with_post (y := ⟨s, vl, A3, c3⟩) (k := k) (d := k) (n := (l.length + 1)) (s := s) hO hF bw4 hy4 hs (hn1 _) (by omega) (by rw [pe_map]; exact HK.out.symm) (by rw [pe_map, if_neg HT.out]) hR
    obtain ⟨v', l', rfl, hWP⟩ := hWP
    go_wp2_with fail
    go_ret
    exact ⟨v', l', rfl, hWP⟩
end Go.Proofs.Ytnndohdiiglgmaa.trees

/- tree.cut: two lists of one. -/

namespace Go.Proofs.Ytnndohdiiglgmaa.trees
set_option linter.unusedVariables false
set_option linter.unusedSimpArgs false
open Go.RowKit Go.Proofs.Ytnndohdiiglgmaa.base Go.Proofs.Ytnndohdiiglgmaa.vers Go.Proofs.Ytnndohdiiglgmaa.nodes Go.Proofs.Ytnndohdiiglgmaa.quotas

theorem RdF.take {w : World} {F : Nat → Prop} {A : Option Addr} {xs : List Value} (h : RdF w F A xs) (k : Nat) : RdF w F A (xs.take k) := fun j u hj => by
  rw [List.getElem?_take] at hj
  split at hj
  · exact h j u hj
  · cases hj
theorem RdF.drop {w : World} {F : Nat → Prop} {b off : Nat} {xs : List Value} (h : RdF w F (some ⟨b, off, none⟩) xs) (k : Nat) : RdF w F (some ⟨b, off + k, none⟩) (xs.drop k) := fun j u hj => by
  rw [List.getElem?_drop] at hj
  obtain ⟨b2, off2, e, hb, hc⟩ := h _ u hj
  cases e
  exact ⟨_, _, rfl, hb, by rw [Nat.add_assoc]; exact hc⟩

set_option maxRecDepth 100000 in
set_option maxHeartbeats 2000000 in
theorem cutE_any (b off n c k : Nat) (xs : List Value) (F : Nat → Prop) (w : World) (hx : xs.length = n * 2) (hr : RdF w F (some ⟨b, off, none⟩) xs) (hF : ∀ g, F g → g < w.heap.size) (hk : k < n) (hc : n ≤ c) (h1 : ∀ u ∈ xs, u.oneCell' = true) (hn : n * 40 ≤ 140737488355328) :
    Calls Try.prog 110 #[.slice (some ⟨b, off, none⟩) n c, .int .i64 (k : Int)] w fun e w' => ∃ v1 v2, e = .returned (.tuple #[v1, v2]) ∧ w'.ownsRow w.heap.size 47 2 v1 k (xs.take (k * 2)) ∧ w'.ownsRow w.heap.size 47 2 v2 (n - k) (xs.drop (k * 2)) ∧ (∀ g, v1.ownBlock = some g → v2.ownBlock ≠ some g) ∧ Below w.heap.size w w' := by
  have n1 : (k : Int) ≤ (c : Int) := by omega
  have n2 : (k : Int) ≤ (n : Int) := by omega
  have n3 : ¬ (c = k) := by omega
  have hc1 := fun w1 (hb : Below w.heap.size w w1) => cloneE_any (some ⟨b, off, none⟩) k c (xs.take (k * 2)) F w1 (by rw [List.length_take]; omega) ((hr.agree (Agree.of_below hb hF)).take _) (fun e => by cases e) (fun u hu => h1 u (List.mem_of_mem_take hu)) (by omega)
  have hc2 := fun w1 (hb : Below w.heap.size w w1) => cloneE_any (some ⟨b, off + k * 2, none⟩) (n - k) (c - k) (xs.drop (k * 2)) F w1 (by rw [List.length_drop]; omega) ((hr.agree (Agree.of_below hb hF)).drop _) (fun e => by cases e) (fun u hu => h1 u (List.mem_of_mem_drop hu)) (by omega)
  go_enter Try.func110, Try.ntmps110
  go_wp2_with fail
  have hS0 : Below w.heap.size w w.drew := (Below.refl _ _).drew
  refine mix.region_D (fun w' => Below w.heap.size w w') (fun j => j == 9) (by kernel_rfl) ?_
  generalize w.drew = wd at hS0 ⊢
  refine mix.D_take (i := 0) (v := ?_) rfl (by kernel_rfl) (by kernel_rfl) (fun _ _ _ h => h) (Or.inl ⟨by rfl, ?_⟩) hS0 ?_
  rotate_left
  · intro w' hSw
    try simp only [List.getElem_toArray, List.getElem_cons_zero, List.getElem_cons_succ]
    go_simp
    exact rfl
  try simp only [Act.put, List.setIfInBounds_toArray, List.set_cons_zero, List.set_cons_succ, List.getElem_toArray, List.getElem_cons_zero, List.getElem_cons_succ]
  refine mix.D_take (i := 1) (v := ?_) rfl (by kernel_rfl) (by kernel_rfl) (fun _ _ _ h => h) (Or.inl ⟨by rfl, ?_⟩) hS0 ?_
  rotate_left
  · intro w' hSw
    try simp only [List.getElem_toArray, List.getElem_cons_zero, List.getElem_cons_succ]
    go_simp
    exact rfl
  try simp only [Act.put, List.setIfInBounds_toArray, List.set_cons_zero, List.set_cons_succ, List.getElem_toArray, List.getElem_cons_zero, List.getElem_cons_succ]
  refine mix.D_take (i := 2) (v := ?_) rfl (by kernel_rfl) (by kernel_rfl) (fun _ _ _ h => h) (Or.inl ⟨by rfl, ?_⟩) hS0 ?_
  rotate_left
  · intro w' hSw
    try simp only [List.getElem_toArray, List.getElem_cons_zero, List.getElem_cons_succ]
    go_simp
    exact rfl
  try simp only [Act.put, List.setIfInBounds_toArray, List.set_cons_zero, List.set_cons_succ, List.getElem_toArray, List.getElem_cons_zero, List.getElem_cons_succ]
  refine mix.D_take (i := 4) (v := ?_) rfl (by kernel_rfl) (by kernel_rfl) (fun _ _ _ h => h) (Or.inl ⟨by rfl, ?_⟩) hS0 ?_
  rotate_left
  · intro w' hSw
    try simp only [List.getElem_toArray, List.getElem_cons_zero, List.getElem_cons_succ]
    go_simp
    exact rfl
  try simp only [Act.put, List.setIfInBounds_toArray, List.set_cons_zero, List.set_cons_succ, List.getElem_toArray, List.getElem_cons_zero, List.getElem_cons_succ]
  refine mix.D_take (i := 5) (v := ?_) rfl (by kernel_rfl) (by kernel_rfl) (fun _ _ _ h => h) (Or.inl ⟨by rfl, ?_⟩) hS0 ?_
  rotate_left
  · intro w' hSw
    try simp only [List.getElem_toArray, List.getElem_cons_zero, List.getElem_cons_succ]
    go_simp
    exact rfl
  try simp only [Act.put, List.setIfInBounds_toArray, List.set_cons_zero, List.set_cons_succ, List.getElem_toArray, List.getElem_cons_zero, List.getElem_cons_succ]
  refine mix.D_take (i := 6) (v := ?_) rfl (by kernel_rfl) (by kernel_rfl) (fun _ _ _ h => h) (Or.inl ⟨by rfl, ?_⟩) hS0 ?_
  rotate_left
  · intro w' hSw
    try simp only [List.getElem_toArray, List.getElem_cons_zero, List.getElem_cons_succ]
    go_simp
    exact rfl
  try simp only [Act.put, List.setIfInBounds_toArray, List.set_cons_zero, List.set_cons_succ, List.getElem_toArray, List.getElem_cons_zero, List.getElem_cons_succ]
  refine mix.D_op (k := 3) rfl rfl (by kernel_rfl) (fun K' hK => ?_)
  simp only [List.getElem_toArray, List.getElem_cons_zero, List.getElem_cons_succ]
  go_wp2_with fail
  refine (hc1 _ hS0).mono ?_
  rintro e wb1 ⟨v1, rfl, ho1, hs1⟩
  have hb1 : Below w.heap.size w wb1 := hS0.trans (hs1.mono hS0.size)
  refine hK.out _ _ (fun _ => hb1) ?_
  clear hK K'
  try simp only [Act.put, List.setIfInBounds_toArray, List.set_cons_zero, List.set_cons_succ]
  refine mix.D_op (k := 7) rfl rfl (by kernel_rfl) (fun K' hK => ?_)
  simp only [List.getElem_toArray, List.getElem_cons_zero, List.getElem_cons_succ]
  go_wp2_with fail
  refine (hc2 _ hb1).mono ?_
  rintro e wb2 ⟨v2, rfl, ho2, hs2⟩
  have hb2 : Below w.heap.size w wb2 := hb1.trans (hs2.mono hb1.size)
  refine hK.out _ _ (fun _ => hb2) ?_
  clear hK K'
  try simp only [Act.put, List.setIfInBounds_toArray, List.set_cons_zero, List.set_cons_succ]
  refine mix.D_op (k := 8) rfl rfl (by kernel_rfl) (fun K' hK => ?_)
  simp only [List.getElem_toArray, List.getElem_cons_zero, List.getElem_cons_succ]
  go_wp2_with fail
  refine hK.out _ _ (fun _ => hb2) ?_
  clear hK K'
  try simp only [Act.put, List.setIfInBounds_toArray, List.set_cons_zero, List.set_cons_succ]
  refine mix.D_op (k := 9) rfl rfl (by kernel_rfl) (fun K' hK => ?_)
  simp only [List.getElem_toArray, List.getElem_cons_zero, List.getElem_cons_succ]
  go_wp2_with fail
  refine hK.out _ _ (fun h => by simp at h) ?_
  clear hK K'
  refine mix.D_done (by kernel_rfl) ?_ _
  try simp only [Act.put, List.setIfInBounds_toArray, List.set_cons_zero, List.set_cons_succ, List.getElem_toArray, List.getElem_cons_zero, List.getElem_cons_succ]
  go_wp2_with fail
  refine bodyPost_ret (v := .tuple #[v1, v2]) (by simp [results, Try.results110, go_sem]) rfl ⟨v1, v2, rfl, ?_, ?_, ?_, hb2⟩
  · exact ownsRow_base (row_below ho1 hs2) fun g hg => Nat.le_trans hS0.size (ho1.lt g hg).1
  · exact ownsRow_base ho2 fun g hg => Nat.le_trans hb1.size (ho2.lt g hg).1
  · intro g hg hg2
    have := ho1.lt g hg
    have := ho2.lt g hg2
    omega

set_option maxRecDepth 100000 in
set_option maxHeartbeats 2000000 in
theorem cutK_any (b off n c k : Nat) (xs : List Value) (F : Nat → Prop) (w : World) (hx : xs.length = n * 5) (hr : RdF w F (some ⟨b, off, none⟩) xs) (hF : ∀ g, F g → g < w.heap.size) (hk : k < n) (hc : n ≤ c) (h1 : ∀ u ∈ xs, u.oneCell' = true) (hn : n * 48 ≤ 140737488355328) :
    Calls Try.prog 111 #[.slice (some ⟨b, off, none⟩) n c, .int .i64 (k : Int)] w fun e w' => ∃ v1 v2, e = .returned (.tuple #[v1, v2]) ∧ w'.ownsRow w.heap.size 66 5 v1 k (xs.take (k * 5)) ∧ w'.ownsRow w.heap.size 66 5 v2 (n - k) (xs.drop (k * 5)) ∧ (∀ g, v1.ownBlock = some g → v2.ownBlock ≠ some g) ∧ Below w.heap.size w w' := by
  have n1 : (k : Int) ≤ (c : Int) := by omega
  have n2 : (k : Int) ≤ (n : Int) := by omega
  have n3 : ¬ (c = k) := by omega
  have hc1 := fun w1 (hb : Below w.heap.size w w1) => cloneK_any (some ⟨b, off, none⟩) k c (xs.take (k * 5)) F w1 (by rw [List.length_take]; omega) ((hr.agree (Agree.of_below hb hF)).take _) (fun e => by cases e) (fun u hu => h1 u (List.mem_of_mem_take hu)) (by omega)
  have hc2 := fun w1 (hb : Below w.heap.size w w1) => cloneK_any (some ⟨b, off + k * 5, none⟩) (n - k) (c - k) (xs.drop (k * 5)) F w1 (by rw [List.length_drop]; omega) ((hr.agree (Agree.of_below hb hF)).drop _) (fun e => by cases e) (fun u hu => h1 u (List.mem_of_mem_drop hu)) (by omega)
  go_enter Try.func111, Try.ntmps111
  go_wp2_with fail
  have hS0 : Below w.heap.size w w.drew := (Below.refl _ _).drew
  refine mix.region_D (fun w' => Below w.heap.size w w') (fun j => j == 9) (by kernel_rfl) ?_
  generalize w.drew = wd at hS0 ⊢
  refine mix.D_take (i := 0) (v := ?_) rfl (by kernel_rfl) (by kernel_rfl) (fun _ _ _ h => h) (Or.inl ⟨by rfl, ?_⟩) hS0 ?_
  rotate_left
  · intro w' hSw
    try simp only [List.getElem_toArray, List.getElem_cons_zero, List.getElem_cons_succ]
    go_simp
    exact rfl
  try simp only [Act.put, List.setIfInBounds_toArray, List.set_cons_zero, List.set_cons_succ, List.getElem_toArray, List.getElem_cons_zero, List.getElem_cons_succ]
  refine mix.D_take (i := 1) (v := ?_) rfl (by kernel_rfl) (by kernel_rfl) (fun _ _ _ h => h) (Or.inl ⟨by rfl, ?_⟩) hS0 ?_
  rotate_left
  · intro w' hSw
    try simp only [List.getElem_toArray, List.getElem_cons_zero, List.getElem_cons_succ]
    go_simp
    exact rfl
  try simp only [Act.put, List.setIfInBounds_toArray, List.set_cons_zero, List.set_cons_succ, List.getElem_toArray, List.getElem_cons_zero, List.getElem_cons_succ]
  refine mix.D_take (i := 2) (v := ?_) rfl (by kernel_rfl) (by kernel_rfl) (fun _ _ _ h => h) (Or.inl ⟨by rfl, ?_⟩) hS0 ?_
  rotate_left
  · intro w' hSw
    try simp only [List.getElem_toArray, List.getElem_cons_zero, List.getElem_cons_succ]
    go_simp
    exact rfl
  try simp only [Act.put, List.setIfInBounds_toArray, List.set_cons_zero, List.set_cons_succ, List.getElem_toArray, List.getElem_cons_zero, List.getElem_cons_succ]
  refine mix.D_take (i := 4) (v := ?_) rfl (by kernel_rfl) (by kernel_rfl) (fun _ _ _ h => h) (Or.inl ⟨by rfl, ?_⟩) hS0 ?_
  rotate_left
  · intro w' hSw
    try simp only [List.getElem_toArray, List.getElem_cons_zero, List.getElem_cons_succ]
    go_simp
    exact rfl
  try simp only [Act.put, List.setIfInBounds_toArray, List.set_cons_zero, List.set_cons_succ, List.getElem_toArray, List.getElem_cons_zero, List.getElem_cons_succ]
  refine mix.D_take (i := 5) (v := ?_) rfl (by kernel_rfl) (by kernel_rfl) (fun _ _ _ h => h) (Or.inl ⟨by rfl, ?_⟩) hS0 ?_
  rotate_left
  · intro w' hSw
    try simp only [List.getElem_toArray, List.getElem_cons_zero, List.getElem_cons_succ]
    go_simp
    exact rfl
  try simp only [Act.put, List.setIfInBounds_toArray, List.set_cons_zero, List.set_cons_succ, List.getElem_toArray, List.getElem_cons_zero, List.getElem_cons_succ]
  refine mix.D_take (i := 6) (v := ?_) rfl (by kernel_rfl) (by kernel_rfl) (fun _ _ _ h => h) (Or.inl ⟨by rfl, ?_⟩) hS0 ?_
  rotate_left
  · intro w' hSw
    try simp only [List.getElem_toArray, List.getElem_cons_zero, List.getElem_cons_succ]
    go_simp
    exact rfl
  try simp only [Act.put, List.setIfInBounds_toArray, List.set_cons_zero, List.set_cons_succ, List.getElem_toArray, List.getElem_cons_zero, List.getElem_cons_succ]
  refine mix.D_op (k := 3) rfl rfl (by kernel_rfl) (fun K' hK => ?_)
  simp only [List.getElem_toArray, List.getElem_cons_zero, List.getElem_cons_succ]
  go_wp2_with fail
  refine (hc1 _ hS0).mono ?_
  rintro e wb1 ⟨v1, rfl, ho1, hs1⟩
  have hb1 : Below w.heap.size w wb1 := hS0.trans (hs1.mono hS0.size)
  refine hK.out _ _ (fun _ => hb1) ?_
  clear hK K'
  try simp only [Act.put, List.setIfInBounds_toArray, List.set_cons_zero, List.set_cons_succ]
  refine mix.D_op (k := 7) rfl rfl (by kernel_rfl) (fun K' hK => ?_)
  simp only [List.getElem_toArray, List.getElem_cons_zero, List.getElem_cons_succ]
  go_wp2_with fail
  refine (hc2 _ hb1).mono ?_
  rintro e wb2 ⟨v2, rfl, ho2, hs2⟩
  have hb2 : Below w.heap.size w wb2 := hb1.trans (hs2.mono hb1.size)
  refine hK.out _ _ (fun _ => hb2) ?_
  clear hK K'
  try simp only [Act.put, List.setIfInBounds_toArray, List.set_cons_zero, List.set_cons_succ]
  refine mix.D_op (k := 8) rfl rfl (by kernel_rfl) (fun K' hK => ?_)
  simp only [List.getElem_toArray, List.getElem_cons_zero, List.getElem_cons_succ]
  go_wp2_with fail
  refine hK.out _ _ (fun _ => hb2) ?_
  clear hK K'
  try simp only [Act.put, List.setIfInBounds_toArray, List.set_cons_zero, List.set_cons_succ]
  refine mix.D_op (k := 9) rfl rfl (by kernel_rfl) (fun K' hK => ?_)
  simp only [List.getElem_toArray, List.getElem_cons_zero, List.getElem_cons_succ]
  go_wp2_with fail
  refine hK.out _ _ (fun h => by simp at h) ?_
  clear hK K'
  refine mix.D_done (by kernel_rfl) ?_ _
  try simp only [Act.put, List.setIfInBounds_toArray, List.set_cons_zero, List.set_cons_succ, List.getElem_toArray, List.getElem_cons_zero, List.getElem_cons_succ]
  go_wp2_with fail
  refine bodyPost_ret (v := .tuple #[v1, v2]) (by simp [results, Try.results111, go_sem]) rfl ⟨v1, v2, rfl, ?_, ?_, ?_, hb2⟩
  · exact ownsRow_base (row_below ho1 hs2) fun g hg => Nat.le_trans hS0.size (ho1.lt g hg).1
  · exact ownsRow_base ho2 fun g hg => Nat.le_trans hb1.size (ho2.lt g hg).1
  · intro g hg hg2
    have := ho1.lt g hg
    have := ho2.lt g hg2
    omega

end Go.Proofs.Ytnndohdiiglgmaa.trees
