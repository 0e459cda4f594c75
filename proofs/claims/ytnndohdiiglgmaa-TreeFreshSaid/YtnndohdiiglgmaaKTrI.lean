/- slices.Insert of one secret into a row of the call's own. -/
import Derived.Test.YtnndohdiiglgmaaKTrN
import Derived.Test.YtnndohdiiglgmaaKTrS
import Derived.Deep.RegionLaw


namespace Go.Proofs.Ytnndohdiiglgmaa.trees
set_option linter.unusedVariables false
set_option linter.unusedSimpArgs false
open Go.RowKit Go.Proofs.Ytnndohdiiglgmaa.base Go.Proofs.Ytnndohdiiglgmaa.vers Go.Proofs.Ytnndohdiiglgmaa.nodes Go.Proofs.Ytnndohdiiglgmaa.quotas

theorem infoE2 : (Try.prog.info? 47).map (·.size) = some 2 := by kernel_rfl
/-- what comes of a row of a call's own: the same block or a new one; all else is as it was -/
def RowTo (w : World) (v : Value) (n : Nat) (xs : List Value) (e : Ending) (w' : World) : Prop :=
  ∃ v', e = .returned v' ∧ w'.ownsRow 0 47 2 v' n xs ∧ Keep (fun g => v.ownBlock = some g) w w' ∧ ∀ g, v'.ownBlock = some g → v.ownBlock = some g ∨ (w.heap.size ≤ g ∧ g < w'.heap.size)

theorem splice_new (X Z cs Y : List Value) (i n C : Nat) (hX : X.length = i * 2) (hZ : Z.length = (C - i) * 2) (hc : cs.length = 2) (hY : Y.length = (n - i) * 2) (hi : i < n) (hC : n + 1 ≤ C) :
    (((X ++ Z).take (i * 2) ++ cs ++ (X ++ Z).drop (i * 2 + cs.length)).take ((i + 1) * 2) ++ Y ++ ((X ++ Z).take (i * 2) ++ cs ++ (X ++ Z).drop (i * 2 + cs.length)).drop ((i + 1) * 2 + Y.length)).take ((n + 1) * 2) = X ++ cs ++ Y := by
  have e1 : (X ++ Z).take (i * 2) = X := by rw [List.take_append_of_le_length (by omega), List.take_of_length_le (by omega)]
  have e2 : (X ++ Z).drop (i * 2 + cs.length) = Z.drop 2 := by rw [List.drop_append, List.drop_eq_nil_of_le (by omega), List.nil_append, hX, hc]; congr 1; omega
  rw [e1, e2]
  have e3 : (X ++ cs ++ Z.drop 2).take ((i + 1) * 2) = X ++ cs := by rw [List.take_append_of_le_length (by simp; omega), List.take_of_length_le (by simp; omega)]
  rw [e3, List.take_append_of_le_length (by simp; omega), List.take_of_length_le (by simp; omega)]
theorem splice_room (cur cs Y : List Value) (i n C : Nat) (hcur : cur.length = C * 2) (hc : cs.length = 2) (hY : Y.length = (n - i) * 2) (hi : i < n) (hC : n + 1 ≤ C) :
    ((cur.take ((i + 1) * 2) ++ Y ++ cur.drop ((i + 1) * 2 + Y.length)).take (i * 2) ++ cs ++ (cur.take ((i + 1) * 2) ++ Y ++ cur.drop ((i + 1) * 2 + Y.length)).drop (i * 2 + cs.length)).take ((n + 1) * 2) = cur.take (i * 2) ++ cs ++ Y := by
  have e1 : (cur.take ((i + 1) * 2) ++ Y ++ cur.drop ((i + 1) * 2 + Y.length)).take (i * 2) = cur.take (i * 2) := by
    rw [List.append_assoc, List.take_append_of_le_length (by simp; omega), List.take_take, Nat.min_eq_left (by omega)]
  have e2 : (cur.take ((i + 1) * 2) ++ Y ++ cur.drop ((i + 1) * 2 + Y.length)).drop (i * 2 + cs.length) = Y ++ cur.drop ((i + 1) * 2 + Y.length) := by
    rw [List.append_assoc, List.drop_append, List.drop_eq_nil_of_le (by simp; omega), List.nil_append, List.length_take, Nat.min_eq_left (by omega)]
    rw [show i * 2 + cs.length - (i + 1) * 2 = 0 by omega, List.drop_zero]
  rw [e1, e2, ← List.append_assoc, List.take_append_of_le_length (by simp; omega), List.take_of_length_le (by simp; omega)]

set_option maxRecDepth 100000 in
set_option maxHeartbeats 4000000 in
theorem insert_end (v : Value) (n : Nat) (xs cs : List Value) (q : Nat) (w : World) (hown : w.ownsRow 0 47 2 v n xs) (hq : Rd w w.heap.size (some ⟨q, 0, none⟩) cs) (hc : cs.length = 2) (h1 : ∀ u ∈ cs, u.oneCell' = true) (hlen : (n + 1) * 40 ≤ 140737488355328) :
    Calls Try.prog 99 #[v, .int .i64 (n : Int), .slice (some ⟨q, 0, none⟩) 1 1] w (RowTo w v (n + 1) (xs ++ cs)) := by
  obtain ⟨i0, hi0, hz0, hz1, hz2⟩ := info_parts infoE
  obtain ⟨A, c, rfl, hnc, hA, _⟩ := row_rdF hown
  have hcn : ∀ k : Nat, (k : Int) - 0 = k := fun k => by omega
  have n0 : (0 : Int) ≤ (n : Int) := by omega
  have hA1 : c = n ∨ c ≠ n := by omega
  rcases hA1 with rfl | hA1
  · go_enter Try.func99, Try.ntmps99
    go_wp2_with (at_builtin; refine wpList_bulk Try.underlying57 hi0 hz0 hz1 hz2 rfl (by decide) rfl (.tmp 23) (.tmp 24) rfl hown rfl (m := 1) (by rw [hc]) hq (fun e => by cases e) (Nat.le_refl _) h1 rfl hlen (by unfold maxLen; omega) ?_; intro v9 w4 ho9 hK9 hv9)
    go_ret
    exact ⟨_, rfl, ho9, hK9, hv9⟩
  · go_enter Try.func99, Try.ntmps99
    go_wp2_with (at_builtin; refine wpList_bulk Try.underlying57 hi0 hz0 hz1 hz2 rfl (by decide) rfl (.tmp 23) (.tmp 24) rfl hown rfl (m := 1) (by rw [hc]) hq (fun e => by cases e) (Nat.le_refl _) h1 rfl hlen (by unfold maxLen; omega) ?_; intro v9 w4 ho9 hK9 hv9)
    go_ret
    exact ⟨_, rfl, ho9, hK9, hv9⟩

theorem blk_drew {w : World} {g : Nat} {t : TypeId} {cs : Array Value} (h : Blk w g t cs) : Blk w.drew g t cs := h

set_option maxRecDepth 100000 in
set_option maxHeartbeats 4000000 in
theorem insert_grow (g n i : Nat) (cur : Array Value) (xs cs : List Value) (q : Nat) (w : World) (hb : Blk w g 47 cur) (hcs : cur.size = n * 2) (hxs : cur.toList.take (n * 2) = xs) (h1x : ∀ u ∈ xs, u.oneCell' = true)
    (hi : i < n) (hq : Rd w w.heap.size (some ⟨q, 0, none⟩) cs) (hc : cs.length = 2) (h1 : ∀ u ∈ cs, u.oneCell' = true) (hlen : (n + 1) * 40 ≤ 140737488355328) :
    Calls Try.prog 99 #[.slice (some ⟨g, 0, none⟩) n n, .int .i64 (i : Int), .slice (some ⟨q, 0, none⟩) 1 1] w (RowTo w (.slice (some ⟨g, 0, none⟩) n n) (n + 1) (xs.take (i * 2) ++ cs ++ xs.drop (i * 2))) := by
  obtain ⟨i0, hi0, hz0, hz1, hz2⟩ := info_parts infoE
  have hxl : xs.length = n * 2 := by rw [← hxs, List.length_take, Array.length_toList, hcs, Nat.min_self]
  have hcx : cur.toList = xs := by rw [← hxs, List.take_of_length_le (by rw [Array.length_toList, hcs]; exact Nat.le_refl _)]
  have hgc : ∀ j u, xs[j]? = some u → w.cell? ⟨g, j, none⟩ = some u := fun j u hj => by rw [hb.cell, ← Array.getElem?_toList, hcx]; exact hj
  have hC := grownCap_ge w (n + 1) n 47
  have hCm := grownCap_le_maxLen w (n + 1) n 47 (by unfold maxLen; omega)
  have hzc : (Value.agg #[.string ⟨#[]⟩, .slice none 0 0]).cells.size = 2 := rfl
  have hold : (Builtin.firstCells i0.size i (.slice (some ⟨g, 0, none⟩) i n)).run Try.prog w.drew = .ok (xs.take (i * 2)).toArray w.drew := by
    rw [hz1]
    refine run_firstCells_some w.drew 2 i ⟨g, 0, none⟩ i n (xs.take (i * 2)) (by rw [List.length_take, hxl]; omega) (fun j u hj => ?_)
    rw [add_plain, Nat.zero_add]
    refine hgc j u ?_
    rw [List.getElem?_take] at hj
    split at hj
    · exact hj
    · cases hj
  have happ := fun ty => run_append_zeros w 57 3 ty 47 i0 (Value.agg #[.string ⟨#[]⟩, .slice none 0 0]) .i64 .i64 Try.underlying57 Try.underlying3 hi0 hz0 (some ⟨g, 0, none⟩) i n (xs.take (i * 2)) hold (n + 1 - i) (by omega) (by rw [hz1]; omega) (by omega) (by omega) (by rw [hz2]; omega) (by rw [hz2, show i + (n + 1 - i) = n + 1 by omega]; exact growslice_fits (by omega) hlen)
  rw [show i + (n + 1 - i) = n + 1 by omega, show ((n + 1 - i : Nat) : Int) = (n : Int) + 1 - (i : Int) by omega] at happ
  generalize grownCap w (n + 1) n 47 = C at happ hC hCm
  have hZ1 : ((Builtin.zeroCells (Value.agg #[.string ⟨#[]⟩, .slice none 0 0]).cells (n + 1 - i)) ++ Builtin.zeroCells (Value.agg #[.string ⟨#[]⟩, .slice none 0 0]).cells (C - (n + 1))).size = (C - i) * 2 := by rw [Array.size_append, zeroCells_size, zeroCells_size, hzc]; omega
  simp only [Array.append_assoc] at happ
  generalize Builtin.zeroCells (Value.agg #[.string ⟨#[]⟩, .slice none 0 0]).cells (n + 1 - i) ++ Builtin.zeroCells (Value.agg #[.string ⟨#[]⟩, .slice none 0 0]).cells (C - (n + 1)) = Z at happ hZ1
  have kN := Blk.new w.drew 47 ((xs.take (i * 2)).toArray ++ Z)
  have bN : Below w.heap.size w (w.drew.alloc (.cells ((xs.take (i * 2)).toArray ++ Z) 47)) := (Below.refl _ _).drew.alloc (Nat.le_refl _) _
  rw [show w.drew.heap.size = w.heap.size from rfl] at kN
  have hN0 : ((xs.take (i * 2)).toArray ++ Z).size = C * 2 := by simp [hZ1, hxl]; omega
  have hNl : ((xs.take (i * 2)).toArray ++ Z).toList = xs.take (i * 2) ++ Z.toList := by simp
  generalize hw1 : w.drew.alloc (.cells ((xs.take (i * 2)).toArray ++ Z) 47) = w1 at happ kN bN
  have s1 : w1.heap.size = w.heap.size + 1 := by rw [← hw1]; simp
  clear hw1
  generalize (xs.take (i * 2)).toArray ++ Z = cur1 at kN hN0 hNl
  -- the new one
  have hq1 : ∀ j u, cs[j]? = some u → w1.cell? ((⟨q, 0, none⟩ : Addr).add j) = some u := fun j u hj => by
    obtain ⟨b, off, e, hb2, hc2⟩ := hq j u hj
    cases e
    rw [add_plain]
    exact (bN.cell (p := ⟨q, 0 + j, none⟩) hb2).trans hc2
  obtain ⟨w2, hcp1, kM, s2, hM, o2, t2, u2⟩ := run_copy_blk w1 57 57 3 47 w.heap.size (i * 2) (n + 1 - i) (C - i) ⟨q, 0, none⟩ 1 1 2 cur1 47 cs Try.underlying57 infoE2 kN (by rw [hc, show Nat.min 1 (n + 1 - i) = 1 from Nat.min_eq_left (by omega)]) hq1 (by rw [hc, hN0]; omega) h1
  rw [show Nat.min 1 (n + 1 - i) = 1 from Nat.min_eq_left (by omega)] at hcp1
  have hg1 := hb.lt
  have hY : ∀ j u, (xs.drop (i * 2))[j]? = some u → w2.drew.cell? ((⟨g, i * 2, none⟩ : Addr).add j) = some u := fun j u hj => by
    rw [add_plain]
    rw [List.getElem?_drop] at hj
    refine ((World.cell?_of_block (hM g (by omega))).trans (bN.cell (p := ⟨g, i * 2 + j, none⟩) hg1)).trans (hgc _ u hj)
  obtain ⟨w3, hcp2, kL, s3, hL, o3, t3, u3⟩ := run_copy_blk w2.drew 57 57 3 47 w.heap.size ((i + 1) * 2) (n + 1 - (i + 1)) (C - (i + 1)) ⟨g, i * 2, none⟩ (n - i) (n - i) 2 _ 47 (xs.drop (i * 2)) Try.underlying57 infoE2 (blk_drew kM) (by rw [List.length_drop, hxl, show Nat.min (n - i) (n + 1 - (i + 1)) = n - i from Nat.min_eq_left (by omega)]; omega) hY (by simp [hxl, hc, hN0]; omega) (fun u hu => h1x u (List.mem_of_mem_drop hu))
  have hres : RowTo w (.slice (some ⟨g, 0, none⟩) n n) (n + 1) (xs.take (i * 2) ++ cs ++ xs.drop (i * 2)) (.returned (.slice (some ⟨w.heap.size, 0, none⟩) (n + 1) C)) w3 := by
    have hXl : (xs.take (i * 2)).length = i * 2 := by rw [List.length_take, hxl]; omega
    have hYl : (xs.drop (i * 2)).length = (n - i) * 2 := by rw [List.length_drop, hxl]; omega
    refine ⟨_, rfl, ⟨by simp [hXl, hYl, hc]; omega, .inr ⟨w.heap.size, C, _, rfl, Nat.zero_le _, kL, hC, hCm, ?_, ?_⟩⟩, ⟨o3.trans (o2.trans bN.os), t3.trans (t2.trans bN.tape), u3.trans (u2.trans bN.output), by rw [s3]; simp [s2, s1], fun k hk hn => ?_⟩, fun k hk => ?_⟩
    · simp [hNl, hXl, hYl, hc, hZ1]; omega
    · rw [hNl]
      exact splice_new _ Z.toList cs _ i n C hXl (by simp [hZ1]) hc hYl hi hC
    · exact (hL k (by omega)).trans ((hM k (by omega)).trans (bN.block k hk))
    · simp [Value.ownBlock] at hk
      subst hk
      exact .inr ⟨Nat.le_refl _, by rw [s3]; simp [s2, s1]⟩
  clear hold hb hq hq1 hY kN kM kL
  have n1 : (i : Int) ≤ (n : Int) := by omega
  have n2 : ¬ ((i : Int) = (n : Int)) := by omega
  have n3 : ¬ (n = i) := by omega
  have n4 : ¬ (C = i) := by omega
  have n5 : ¬ (C = i + 1) := by omega
  go_enter Try.func99, Try.ntmps99
  go_wp2_with (at_builtin; refine wpList_append_known _ rfl _ _ _ _ rfl _ _ rfl rfl _ _ (happ _) ?_)
  have n6 : IntKind.i64.wrap ((i : Int) + 1) = (i : Int) + 1 := IntWalk.i64_in _ (by omega)
  have n7 : ((i : Int) + 1).toNat = i + 1 := by omega
  have n8 : (i : Int) + 1 ≤ (n : Int) + 1 := by omega
  have n9 : (0 : Int) ≤ (i : Int) + 1 := by omega
  go_region_law (refine step_copy_run2 rfl _ _ 57 57 rfl _ _ (by simp [Act.eval, Act.put]) (by simp [Act.eval, Act.put]) hcp2 ?_)
  go_wp2_with fail
  go_ret
  exact hres

set_option maxRecDepth 100000 in
set_option maxHeartbeats 4000000 in
theorem insert_room (g n i c : Nat) (cur : Array Value) (xs cs : List Value) (q : Nat) (cq : Array Value) (w : World) (hb : Blk w g 47 cur) (hcs : cur.size = c * 2) (hxs : cur.toList.take (n * 2) = xs) (h1x : ∀ u ∈ xs, u.oneCell' = true)
    (hi : i < n) (hnc : n + 1 ≤ c) (hcm : c ≤ maxLen) (kq : Blk w q 47 cq) (hcq : cq.toList = cs) (hqg : q ≠ g) (hc : cs.length = 2) (h1 : ∀ u ∈ cs, u.oneCell' = true) (hlen : (n + 1) * 40 ≤ 140737488355328) :
    Calls Try.prog 99 #[.slice (some ⟨g, 0, none⟩) n c, .int .i64 (i : Int), .slice (some ⟨q, 0, none⟩) 1 1] w (RowTo w (.slice (some ⟨g, 0, none⟩) n c) (n + 1) (xs.take (i * 2) ++ cs ++ xs.drop (i * 2))) := by
  have hxl : xs.length = n * 2 := by rw [← hxs, List.length_take, Array.length_toList, hcs]; omega
  have hgc : ∀ j u, xs[j]? = some u → w.cell? ⟨g, j, none⟩ = some u := fun j u hj => by
    rw [hb.cell, ← Array.getElem?_toList]
    rw [← hxs, List.getElem?_take] at hj
    split at hj
    · exact hj
    · cases hj
  have hov : ∀ lb cb, (callFunc 119 #[.slice (some ⟨q, 0, none⟩) 1 1, .slice (some ⟨g, (i + 1) * 2, none⟩) lb cb]).run Try.prog w = .ok (.value (.bool false)) w := fun lb cb => by
    rw [run_callFunc_extern Try.func119 (by kernel_rfl) (by kernel_rfl) (by kernel_rfl) (e := Extern.SlicesOverlaps.overlaps #[57, 57] #[4]) (by kernel_rfl),
      Lib.run_overlaps_apart w 57 4 47 Try.underlying57 2 (fun _ => by kernel_rfl) ⟨q, 0, none⟩ ⟨g, (i + 1) * 2, none⟩ 1 1 lb cb hqg 47 47 cq.size cur.size (by unfold Blk at kq; simp [World.shape?, kq]) (by unfold Blk at hb; simp [World.shape?, hb]) (by omega) (kq.frozen 0) (kq.frozen _)]
    rfl
  have hY : ∀ j u, (xs.drop (i * 2))[j]? = some u → w.drew.cell? ((⟨g, i * 2, none⟩ : Addr).add j) = some u := fun j u hj => by
    rw [add_plain]
    rw [List.getElem?_drop] at hj
    exact hgc _ u hj
  have hYl : (xs.drop (i * 2)).length = (n - i) * 2 := by rw [List.length_drop, hxl]; omega
  obtain ⟨w2, hcp1, kM, s2, hM, o2, t2, u2⟩ := run_copy_blk w.drew 57 57 3 47 g ((i + 1) * 2) (n + 1 - (i + 1)) (c - (i + 1)) ⟨g, i * 2, none⟩ (n + 1 - i) (c - i) 2 cur 47 (xs.drop (i * 2)) Try.underlying57 infoE2 (blk_drew hb) (by rw [hYl, show Nat.min (n + 1 - i) (n + 1 - (i + 1)) = n + 1 - (i + 1) from Nat.min_eq_right (by omega)]; omega) hY (by rw [hYl, hcs]; omega) (fun u hu => h1x u (List.mem_of_mem_drop hu))
  have hq1 : ∀ j u, cs[j]? = some u → w2.cell? ((⟨q, 0, none⟩ : Addr).add j) = some u := fun j u hj => by
    rw [add_plain, Nat.zero_add]
    refine (World.cell?_of_block (hM q hqg)).trans ?_
    rw [show w.drew.cell? ⟨q, j, none⟩ = w.cell? ⟨q, j, none⟩ from rfl, kq.cell, ← Array.getElem?_toList, hcq]
    exact hj
  obtain ⟨w3, hcp2, kL, s3, hL, o3, t3, u3⟩ := run_copy_blk w2 57 57 3 47 g (i * 2) (n + 1 - i) (c - i) ⟨q, 0, none⟩ 1 1 2 _ 47 cs Try.underlying57 infoE2 kM (by rw [hc, show Nat.min 1 (n + 1 - i) = 1 from Nat.min_eq_left (by omega)]) hq1 (by simp [hc, hYl, hcs]; omega) h1
  rw [show Nat.min 1 (n + 1 - i) = 1 from Nat.min_eq_left (by omega)] at hcp2
  have hres : RowTo w (.slice (some ⟨g, 0, none⟩) n c) (n + 1) (xs.take (i * 2) ++ cs ++ xs.drop (i * 2)) (.returned (.slice (some ⟨g, 0, none⟩) (n + 1) c)) w3 := by
    have hXl : (xs.take (i * 2)).length = i * 2 := by rw [List.length_take, hxl]; omega
    have hT : cur.toList.take (i * 2) = xs.take (i * 2) := by rw [← hxs, List.take_take, Nat.min_eq_left (by omega)]
    refine ⟨_, rfl, ⟨by simp [hXl, hYl, hc]; omega, .inr ⟨g, c, _, rfl, Nat.zero_le _, kL, hnc, hcm, ?_, ?_⟩⟩, ⟨o3.trans o2, t3.trans t2, u3.trans u2, by rw [s3, s2]; exact Nat.le_refl _, fun k hk hn => ?_⟩, fun k hk => ?_⟩
    · simp [hYl, hc, hcs]; omega
    · have := splice_room cur.toList cs (xs.drop (i * 2)) i n c (by rw [Array.length_toList, hcs]) hc hYl hi hnc
      rw [hT] at this
      exact this
    · have hk2 : k ≠ g := fun e => hn (by subst e; rfl)
      exact (hL k hk2).trans (hM k hk2)
    · exact .inl hk
  clear hb hq1 hY kM kL kq
  have n1 : (i : Int) ≤ (n : Int) := by omega
  have n2 : ¬ ((i : Int) = (n : Int)) := by omega
  have n3 : ¬ (c = i) := by omega
  have n4 : ¬ (c = i + 1) := by omega
  have n5 : (i : Int) ≤ (n : Int) + 1 := by omega
  have n6 : IntKind.i64.wrap ((i : Int) + 1) = (i : Int) + 1 := IntWalk.i64_in _ (by omega)
  have n7 : ((i : Int) + 1).toNat = i + 1 := by omega
  have n8 : (i : Int) + 1 ≤ (n : Int) + 1 := by omega
  have n9 : (0 : Int) ≤ (i : Int) + 1 := by omega
  have m1 : (n : Int) + 1 ≤ (c : Int) := by omega
  have m2 : ¬ ((c : Int) < (n : Int) + 1) := by omega
  have m3 : ((n : Int) + 1).toNat = n + 1 := by omega
  go_enter Try.func99, Try.ntmps99
  go_wp2_with (simp only [hov])
  go_region_law (refine step_copy_run2 rfl _ _ 57 57 rfl _ _ (by simp [Act.eval, Act.put]) (by simp [Act.eval, Act.put]) hcp1 ?_)
  go_wp2_with fail
  go_ret
  exact hres
end Go.Proofs.Ytnndohdiiglgmaa.trees
