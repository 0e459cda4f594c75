/- Accounts in a row; lists turned one by one. -/
import Derived.Test.YtoenkkbcpafanaaA14


namespace Go.Proofs.Ytoenkkbcpafanaa.segs
set_option linter.unusedVariables false
set_option linter.unusedSimpArgs false
open Go.RowKit Go.Shelf Go.Proofs.Ytoenkkbcpafanaa.base Go.Proofs.Ytoenkkbcpafanaa.trees Go.Proofs.Ytoenkkbcpafanaa.powers Go.Proofs.Ytoenkkbcpafanaa.mediums Go.Lib

/-- accounts in a row -/
def Ac (w : World) (lo ab c : Nat) (ac : List T3) : Prop := w.ownsRow lo 194 3 (.slice (some ⟨ab, 0, none⟩) ac.length c) ac.length (cellsJ ac)
section
variable {w w' : World} {lo ab c : Nat} {ac : List T3}
theorem Ac.cells (h : Ac w lo ab c ac) {i : Nat} (hi : i < ac.length) : w.cell? ⟨ab, i * 3, none⟩ = some (.int .i64 (at3 ac i).a) ∧ w.cell? ⟨ab, i * 3 + 1, none⟩ = some (.int .i64 (at3 ac i).b) ∧ w.cell? ⟨ab, i * 3 + 2, none⟩ = some (.int .i64 (at3 ac i).c) := by
  obtain ⟨c0, c1, c2⟩ := cellsJ_at ac hi
  rw [at3_eq hi]
  exact ⟨(World.ownsRow.cellAt h _ (by omega)).trans c0, (World.ownsRow.cellAt h _ (by omega)).trans c1, (World.ownsRow.cellAt h _ (by omega)).trans c2⟩
theorem Ac.below (h : Ac w lo ab c ac) (hb : Below w.heap.size w w') : Ac w' lo ab c ac := row_below h hb
theorem Ac.lt (h : Ac w lo ab c ac) : ab < w.heap.size := (World.ownsRow.lt h ab rfl).2
theorem Ac.low (h : Ac w lo ab c ac) : lo ≤ ab := (World.ownsRow.lt h ab rfl).1
theorem Ac.cap (h : Ac w lo ab c ac) : ac.length ≤ c := by
  obtain ⟨_, h1⟩ := h
  rcases h1 with ⟨h1, _⟩ | ⟨g, cap, cur, h1, _, _, hc, _⟩
  · cases h1
  · injection h1 with _ _ h3; subst h3; exact hc
theorem Ac.store (h : Ac w lo ab c ac) (j : Nat) (u : Value) {ac' : List T3} (he : (cellsJ ac).set j u = cellsJ ac') (hl : ac'.length = ac.length) : Ac (w.setCell ⟨ab, j, none⟩ u) lo ab c ac' ∧ Keep (fun k => k = ab) w (w.setCell ⟨ab, j, none⟩ u) := by
  obtain ⟨h1, h2⟩ := World.ownsRow.stored h j u
  rw [he, ← hl] at h1
  exact ⟨h1, grown_keep h2⟩
theorem Ac.keep {T : Nat → Prop} (h : Ac w lo ab c ac) (hk : Keep T w w') (hT : ¬ T ab) : Ac w' lo ab c ac := ownsRow_agree h fun g hg => by cases hg; exact hk.block _ h.lt hT
/-- an own row with something in it -/
theorem ac_shape {v : Value} {n : Nat} (h : w.ownsRow lo 194 3 v n (cellsJ ac)) (hn : n = ac.length) (h1 : 1 ≤ n) : ∃ ab c, v = .slice (some ⟨ab, 0, none⟩) ac.length c ∧ Ac w lo ab c ac := by
  subst hn
  rcases h.2 with ⟨_, h0⟩ | ⟨g, cap, cur, rfl, _⟩
  · omega
  · exact ⟨g, cap, rfl, h⟩
end
/-- the first j turned -/
def mapTo (f : T3 → T3) (ac : List T3) (j : Nat) : List T3 := (ac.take j).map f ++ ac.drop j
theorem mapTo_zero (f : T3 → T3) (ac : List T3) : mapTo f ac 0 = ac := rfl
theorem mapTo_all (f : T3 → T3) (ac : List T3) : mapTo f ac ac.length = ac.map f := by unfold mapTo; rw [List.take_length, List.drop_length, List.append_nil]
theorem mapTo_len (f : T3 → T3) (ac : List T3) (j : Nat) : (mapTo f ac j).length = ac.length := by
  unfold mapTo
  rw [List.length_append, List.length_map, List.length_take, List.length_drop]; omega
theorem mapTo_at (f : T3 → T3) (ac : List T3) {j : Nat} (hj : j < ac.length) : at3 (mapTo f ac j) j = at3 ac j := by
  unfold mapTo at3
  rw [List.getElem?_append_right (by rw [List.length_map, List.length_take]; omega), List.length_map, List.length_take, List.getElem?_drop, show j + (j - min j ac.length) = j by omega]
theorem mapTo_set (f : T3 → T3) (ac : List T3) {j : Nat} (hj : j < ac.length) : (mapTo f ac j).set j (f (at3 ac j)) = mapTo f ac (j + 1) := by
  unfold mapTo
  rw [List.set_append, if_neg (by rw [List.length_map, List.length_take]; omega), List.length_map, List.length_take, show j - min j ac.length = 0 by omega, List.drop_eq_getElem_cons hj, List.set_cons_zero, List.take_add_one, List.getElem?_eq_getElem hj, List.map_append, List.append_assoc, at3_eq hj]
  rfl
theorem mapTo_stay (f : T3 → T3) (ac : List T3) {j : Nat} (hj : j < ac.length) (h : f (at3 ac j) = at3 ac j) : mapTo f ac (j + 1) = mapTo f ac j := by
  rw [← mapTo_set f ac hj, h]
  apply List.ext_getElem?
  intro i
  by_cases e : j = i
  · subst e
    have := mapTo_at f ac hj
    rw [List.getElem?_set_self (by rw [mapTo_len]; exact hj)]
    rw [List.getElem?_eq_getElem (by rw [mapTo_len]; exact hj)]
    rw [at3_eq (by rw [mapTo_len]; exact hj)] at this
    rw [this]
  · rw [List.getElem?_set_ne e]
/-- Ps: places in a list, all ints -/
def PsF (w : World) (F : Nat → Prop) (ps : List T3) (A : Option Addr) (c : Nat) : Prop := ps.length ≤ c ∧ ps.length * 24 ≤ 140737488355328 ∧ (A = none → c = 0) ∧ RdF w F A (cellsJ ps) ∧ ∀ p ∈ ps, (-9223372036854775808 ≤ p.a ∧ p.a ≤ 9223372036854775807) ∧ (-9223372036854775808 ≤ p.b ∧ p.b ≤ 9223372036854775807) ∧ (-9223372036854775808 ≤ p.c ∧ p.c ≤ 9223372036854775807)
theorem PsF.agree {w w' : World} {F : Nat → Prop} {ps : List T3} {A : Option Addr} {c : Nat} (h : PsF w F ps A c) (hk : Agree w w' F) : PsF w' F ps A c := ⟨h.1, h.2.1, h.2.2.1, h.2.2.2.1.agree hk, h.2.2.2.2⟩
theorem PsF.at_ {w : World} {F : Nat → Prop} {ps : List T3} {A : Option Addr} {c : Nat} (h : PsF w F ps A c) {j : Nat} (hj : j < ps.length) : ∃ b off, A = some ⟨b, off, none⟩ ∧ F b ∧ w.cell? ⟨b, off + j * 3, none⟩ = some (.int .i64 ps[j].a) ∧ w.cell? ⟨b, off + j * 3 + 1, none⟩ = some (.int .i64 ps[j].b) ∧ w.cell? ⟨b, off + j * 3 + 2, none⟩ = some (.int .i64 ps[j].c) := by
  obtain ⟨c0, c1, c2⟩ := cellsJ_at ps hj
  obtain ⟨b, off, e, hb, h0⟩ := h.2.2.2.1 _ _ c0
  obtain ⟨b1, off1, e1, hb1, h1⟩ := h.2.2.2.1 _ _ c1
  obtain ⟨b2, off2, e2, hb2, h2⟩ := h.2.2.2.1 _ _ c2
  rw [e] at e1 e2
  cases e1
  cases e2
  exact ⟨b, off, e, hb, h0, by rw [Nat.add_assoc]; exact h1, by rw [Nat.add_assoc]; exact h2⟩
theorem all_take {α : Type} {f : α → Bool} {l : List α} {j : Nat} (hj : j < l.length) (h1 : (l.take j).all f = true) (h2 : f l[j] = true) : (l.take (j + 1)).all f = true := by
  rw [List.take_add_one, List.getElem?_eq_getElem hj, List.all_append, h1]; simp [h2]
theorem sums_take (ac ps : List T3) {j : Nat} (hj : j < ps.length) : sums ac (ps.take (j + 1)) = addL (sums ac (ps.take j)) ps[j] := by
  rw [List.take_add_one, List.getElem?_eq_getElem hj]; exact sums_snoc _ _ _
theorem mayB_congr {ac ac' : List T3} (hl : ac'.length = ac.length) (hb : ∀ i, (at3 ac' i).b = (at3 ac i).b) (p : T3) : mayB ac' p = mayB ac p := by unfold mayB; rw [hl, hb]
theorem liveIn_take_le {ac ps : List T3} {j : Nat} (h : (ps.take j).all (mayB ac) = true) (hu : ∀ i, i < ac.length → 0 ≤ (at3 ac i).b ∧ (at3 ac i).b ≤ 1048576) (hj : j ≤ ps.length) (i : Nat) : 0 ≤ liveIn (ps.take j) i ∧ liveIn (ps.take j) i ≤ (j : Int) * 1048576 := by
  have hm : ∀ p ∈ ps.take j, 1 ≤ p.c ∧ p.c ≤ 1048576 := fun p hp => by
    have := List.all_eq_true.1 h p hp
    rw [mayB_iff] at this
    obtain ⟨⟨h1, h2⟩, h3, h4, h5⟩ := this
    have := hu p.a.toNat (by omega)
    exact ⟨h4, by omega⟩
  refine ⟨liveIn_nonneg (fun p hp => (hm p hp).1) i, ?_⟩
  have := liveIn_le (M := 1048576) (fun p hp => ⟨by have := hm p hp; omega, (hm p hp).2⟩) i
  rw [List.length_take, Nat.min_eq_left hj] at this
  exact this
theorem free_yes {x : T3} (h : x.a = 2 ∧ x.c = 0) : freeT x = ⟨1, 0, 0⟩ := by unfold freeT; rw [if_pos h]
theorem free_no {x : T3} (h : ¬ (x.a = 2 ∧ x.c = 0)) : freeT x = x := by unfold freeT; rw [if_neg h]
theorem set_three (l : List T3) {i : Nat} (hi : i < l.length) (x : T3) : (((cellsJ l).set (i * 3) (.int .i64 x.a)).set (i * 3 + 1) (.int .i64 x.b)).set (i * 3 + 2) (.int .i64 x.c) = cellsJ (l.set i x) := by
  rw [cellsJ_set0 l hi, cellsJ_set1 _ (by simpa using hi), cellsJ_set2 _ (by simpa using hi), List.set_set, List.set_set, at3_set _ (by simpa using hi), at3_set _ (by simpa using hi)]
theorem Ac.store3 {w : World} {lo ab c : Nat} {ac : List T3} (h : Ac w lo ab c ac) {j : Nat} (hj : j < ac.length) (x : T3) :
    Ac (((w.setCell ⟨ab, j * 3, none⟩ (.int .i64 x.a)).setCell ⟨ab, j * 3 + 1, none⟩ (.int .i64 x.b)).setCell ⟨ab, j * 3 + 2, none⟩ (.int .i64 x.c)) lo ab c (ac.set j x) ∧ Keep (fun k => k = ab) w (((w.setCell ⟨ab, j * 3, none⟩ (.int .i64 x.a)).setCell ⟨ab, j * 3 + 1, none⟩ (.int .i64 x.b)).setCell ⟨ab, j * 3 + 2, none⟩ (.int .i64 x.c)) := by
  obtain ⟨h1, k1⟩ := World.ownsRow.stored h (j * 3) (.int .i64 x.a)
  obtain ⟨h2, k2⟩ := World.ownsRow.stored h1 (j * 3 + 1) (.int .i64 x.b)
  obtain ⟨h3, k3⟩ := World.ownsRow.stored h2 (j * 3 + 2) (.int .i64 x.c)
  rw [set_three ac hj x] at h3
  have hl : (ac.set j x).length = ac.length := List.length_set
  refine ⟨?_, ((grown_keep k1).trans (grown_keep k2) fun k hk _ => hk).trans (grown_keep k3) fun k hk _ => hk⟩
  unfold Ac
  rw [hl]
  exact h3
end Go.Proofs.Ytoenkkbcpafanaa.segs

/- A log made anew. -/

namespace Go.Proofs.Ytoenkkbcpafanaa.segs
set_option linter.unusedVariables false
set_option linter.unusedSimpArgs false
open Go.RowKit Go.Shelf Go.Proofs.Ytoenkkbcpafanaa.base Go.Proofs.Ytoenkkbcpafanaa.trees Go.Proofs.Ytoenkkbcpafanaa.powers Go.Proofs.Ytoenkkbcpafanaa.mediums Go.Lib
section
variable {w w' : World} {S : Nat → Prop} {p g lg ab c : Nat} {m : MS} {s : LS} {L W : Int}
/-- a list that is filled one by one -/
def filled (f : Nat → T3) (n j : Nat) : List T3 := (List.range j).map f ++ List.replicate (n - j) zT
theorem filled_zero (f : Nat → T3) (n : Nat) : filled f n 0 = List.replicate n zT := rfl
theorem filled_all (f : Nat → T3) (n : Nat) : filled f n n = (List.range n).map f := by unfold filled; rw [Nat.sub_self]; simp
theorem filled_len (f : Nat → T3) {n j : Nat} (hj : j ≤ n) : (filled f n j).length = n := by unfold filled; rw [List.length_append, List.length_map, List.length_range, List.length_replicate]; omega
theorem filled_at (f : Nat → T3) {n j : Nat} (hj : j < n) : at3 (filled f n j) j = zT := by
  unfold filled at3
  rw [List.getElem?_append_right (by rw [List.length_map, List.length_range]; omega), List.length_map, List.length_range, Nat.sub_self, List.getElem?_replicate, if_pos (by omega)]
  rfl
theorem filled_set (f : Nat → T3) {n j : Nat} (hj : j < n) : (filled f n j).set j (f j) = filled f n (j + 1) := by
  unfold filled
  rw [List.set_append, if_neg (by rw [List.length_map, List.length_range]; omega), List.length_map, List.length_range, Nat.sub_self, List.range_succ, List.map_append, List.append_assoc, show n - j = (n - (j + 1)) + 1 by omega, List.replicate_succ, List.set_cons_zero]
  rfl
theorem range_at (f : Nat → T3) {n i : Nat} (hi : i < n) : at3 ((List.range n).map f) i = f i := by
  unfold at3
  rw [List.getElem?_map, List.getElem?_range hi]
  rfl
theorem made_zeros (n : Nat) : (madeCells #[.int .i64 0, .int .i64 0, .int .i64 0] (n * 3)).toList = cellsJ (List.replicate n zT) := by
  have e1 : madeCells #[Value.int .i64 0, .int .i64 0, .int .i64 0] (n * 3) = (List.replicate (n * 3) (Value.int .i64 0)).toArray := by
    apply Array.ext'
    simp only [madeCells, Array.toList_map, Array.toList_range]
    apply List.ext_getElem
    · simp
    · intro i h1 h2
      have hm : i % 3 = 0 ∨ i % 3 = 1 ∨ i % 3 = 2 := by omega
      rcases hm with hm | hm | hm <;> simp [hm]
  rw [e1]
  have e2 : ∀ n, cellsJ (List.replicate n zT) = List.replicate (n * 3) (Value.int .i64 0) := fun n => by
    induction n with
    | zero => rfl
    | succ n ih => rw [List.replicate_succ, cellsJ, ih, show (n + 1) * 3 = n * 3 + 1 + 1 + 1 by omega, List.replicate_succ, List.replicate_succ, List.replicate_succ]; rfl
  rw [e2]
def newL (n : Nat) : LS := ⟨0, ((List.range n).map fun _ => ⟨1, 0, 0⟩).set 0 ⟨3, 0, 0⟩⟩
theorem newL_at {n i : Nat} (hn : 1 ≤ n) (hi : i < n) : at3 (newL n).ac i = if i = 0 then ⟨3, 0, 0⟩ else ⟨1, 0, 0⟩ := by
  unfold newL
  by_cases h : i = 0
  · subst h; rw [at3_set _ (by simp; omega), if_pos rfl]
  · rw [at3_ne _ (fun e => h e.symm), range_at _ hi, if_neg h]
theorem newL_len (n : Nat) : (newL n).ac.length = n := by unfold newL; simp
theorem newL_ok {n : Nat} (hn : 1 ≤ n ∧ n ≤ 4096) : OkL (newL n) := by
  refine ⟨by rw [newL_len]; exact hn, by rw [newL_len]; exact hn.1, fun i hi => ?_, fun i hi => ?_, fun i hi => ?_, fun i hi => ?_⟩ <;> rw [newL_len] at hi <;> rw [newL_at hn.1 hi]
  · show _ ∧ (_ ↔ i = 0)
    split
    · rename_i h; simp [h]
    · rename_i h; simp [h]
  · split <;> simp
  · split <;> simp
  · split <;> simp

theorem mk_ac {n : Nat} (hn : 1 ≤ n ∧ n ≤ 4096) : ∃ M : Array Value, (∀ u : World, (Instr.makeSlice 128 (.int .i64 (n : Int)) (.int .i64 (n : Int))).run Try.prog u = .ok (.slice (some ⟨u.heap.size, 0, none⟩) n n) (u.alloc (.cells M 194))) ∧
    ∀ (u : World) (base : Nat), base ≤ u.heap.size → (u.alloc (.cells M 194)).ownsRow base 194 3 (.slice (some ⟨u.heap.size, 0, none⟩) n n) n (cellsJ (List.replicate n zT)) := by
  obtain ⟨i0, hi0, hz0, hz1, hz2⟩ := @info_parts _ _ _ _ _ infoAc
  refine ⟨madeCells (Value.agg #[.int .i64 0, .int .i64 0, .int .i64 0]).cells (n * i0.size), fun u => ?_, fun u base hb => ?_⟩
  · have h := run_make (P := Try.prog) u 128 194 i0 _ Try.underlying128 hi0 hz0 .i64 .i64 (n : Int) (n : Int) (by omega) (Int.le_refl _) (by rw [hz2]; omega) (by omega)
    simpa using h
  · have h := World.ownsRow_lit (base := base) (e := 194) (size := 3) u (madeCells (Value.agg #[.int .i64 0, .int .i64 0, .int .i64 0]).cells (n * i0.size)) n hb (by unfold maxLen; omega) (by rw [hz1]; exact size_madeCells _ _)
    rw [hz1] at h ⊢
    rw [← made_zeros]
    exact h

set_option maxRecDepth 100000 in
set_option maxHeartbeats 4000000 in
theorem new_ok (hM : Md w S p g m) : Calls Try.prog 25 #[.pointer (some ⟨g, 0, none⟩)] w fun e w' => ∃ lg ab c, e = .returned (.pointer (some ⟨lg, 0, none⟩)) ∧ LgAt w' g lg ab c (newL m.segs.length) ∧ Below w.heap.size w w' ∧ w.heap.size ≤ lg ∧ w.heap.size ≤ ab := by
  obtain ⟨sb, vs, vp, hM'⟩ := id hM
  have cG := segments_ok hM'
  have hsl := hM.seglen
  rw [show vs.length = m.segs.length from hM'.len] at cG
  generalize m.segs.length = n at *
  obtain ⟨M, hmk, hrow⟩ := mk_ac hsl
  have h0 := hrow w w.heap.size (Nat.le_refl _)
  have b0 : Below w.heap.size w (w.alloc (.cells M 194)) := (Below.refl _ _).alloc (Nat.le_refl _) _
  have s0 : (w.alloc (.cells M 194)).heap.size = w.heap.size + 1 := by simp
  obtain ⟨W1, hW1⟩ : ∃ W1, w.alloc (.cells M 194) = W1 := ⟨_, rfl⟩
  rw [hW1] at h0 b0 s0
  have hHd : Blk (W1.alloc (.cells #[.pointer (some ⟨g, 0, none⟩), .int .i64 0, .slice (some ⟨w.heap.size, 0, none⟩) n n] 130)) W1.heap.size 130 #[.pointer (some ⟨g, 0, none⟩), .int .i64 0, .slice (some ⟨w.heap.size, 0, none⟩) n n] := Blk.new _ _ _
  have b1 : Below w.heap.size w (W1.alloc (.cells #[.pointer (some ⟨g, 0, none⟩), .int .i64 0, .slice (some ⟨w.heap.size, 0, none⟩) n n] 130)) := b0.alloc b0.size _
  have h1 := row_below h0 ((Below.refl W1.heap.size W1).alloc (Nat.le_refl _) (.cells #[.pointer (some ⟨g, 0, none⟩), .int .i64 0, .slice (some ⟨w.heap.size, 0, none⟩) n n] 130))
  obtain ⟨W2, hW2⟩ : ∃ W2, W1.alloc (.cells #[.pointer (some ⟨g, 0, none⟩), .int .i64 0, .slice (some ⟨w.heap.size, 0, none⟩) n n] 130) = W2 := ⟨_, rfl⟩
  rw [hW2] at hHd b1 h1
  rw [s0] at hHd
  clear hM hM' hrow h0 b0
  have HMK := powers.lay hmk
  have y0 := hHd.cell 0
  have y1 := hHd.cell 1
  have y2 := hHd.cell 2
  simp only [List.getElem?_toArray, List.getElem?_cons_zero, List.getElem?_cons_succ] at y0 y1 y2
  go_enter Try.func25, Try.ntmps25
  go_wp2_with (go_at_call 59; refine cG.mono ?_; rintro e w ⟨rfl, rfl⟩)
  have l1 := hHd.lt
  obtain ⟨a1, ha1⟩ : ∃ a1, w.heap.size = a1 := ⟨_, rfl⟩
  obtain ⟨lg, hlg⟩ : ∃ lg, w.heap.size + 1 = lg := ⟨_, rfl⟩
  have HLG := powers.lay hlg
  have HA1 := powers.lay ha1
  rw [hlg] at hHd y0 y1 y2 l1 ⊢
  rw [ha1] at hHd y2 h1 b1 hlg ⊢
  have hne : a1 ≠ lg := by omega
  have hne2 : lg ≠ a1 := by omega
  have hA0 : Ac W2 a1 a1 n (List.replicate n zT) := by unfold Ac; rw [List.length_replicate]; exact h1
  have HS : Hid (Ac W2 a1 a1 n (mapTo (fun x => ⟨1, x.b, x.c⟩) (List.replicate n zT) 0) ∧ Blk W2 lg 130 #[.pointer (some ⟨g, 0, none⟩), .int .i64 0, .slice (some ⟨a1, 0, none⟩) n n] ∧ Below a1 w W2) := powers.lay ⟨by rw [mapTo_zero]; exact hA0, hHd, b1⟩
  clear hmk hW1 hW2 HMK s0 h1 b1 hHd y0 y1 y2 l1 hA0 cG ha1 hlg
  go_loopw [18] (fun i wr => ∃ j : Nat, i = .int .i64 (j : Int) ∧ j ≤ n ∧ Hid (Ac wr a1 a1 n (mapTo (fun x => ⟨1, x.b, x.c⟩) (List.replicate n zT) j) ∧ Blk wr lg 130 #[.pointer (some ⟨g, 0, none⟩), .int .i64 0, .slice (some ⟨a1, 0, none⟩) n n] ∧ Below a1 w wr)) (fun i _ => n - (RowKit.intOf i).toNat)
  case atStart => exact ⟨0, rfl, Nat.zero_le _, HS⟩
  case round =>
    clear HS
    obtain ⟨j, rfl, hj, HR⟩ := hrel
    have e1 : IntKind.i64.wrap ((j : Int) + 1) = (j : Int) + 1 := IntWalk.i64_in _ (by omega)
    have y0 := HR.out.2.1.cell 0
    have y1 := HR.out.2.1.cell 1
    have y2 := HR.out.2.1.cell 2
    simp only [List.getElem?_toArray, List.getElem?_cons_zero, List.getElem?_cons_succ] at y0 y1 y2
    by_cases hlt : j < n
    · have hja : j < (List.replicate n zT).length := by rw [List.length_replicate]; exact hlt
      have hjm : j < (mapTo (fun x => ⟨1, x.b, x.c⟩) (List.replicate n zT) j).length := by rw [mapTo_len]; exact hja
      have v0 := (HR.out.1.cells hjm).1
      have f0 := World.ownsRow.frozenAt HR.out.1 (j * 3)
      generalize (at3 (mapTo (fun x => ⟨1, x.b, x.c⟩) (List.replicate n zT) j) j).a = tv at v0
      go_wp2_with fail
      obtain ⟨h2, k2⟩ := HR.out.1.store (j * 3) (.int .i64 1) (ac' := mapTo (fun x => ⟨1, x.b, x.c⟩) (List.replicate n zT) (j + 1)) (by rw [cellsJ_set0 _ hjm, mapTo_at _ _ hja, ← mapTo_set _ _ hja]) (by rw [mapTo_len, mapTo_len])
      have b2 : Below a1 w (wr.setCell ⟨a1, j * 3, none⟩ (.int .i64 1)) := HR.out.2.2.trans (k2.below (fun k hk => by omega) (by have := HR.out.2.2.size; have := HA1.out; omega))
      have d2 := k2.blk HR.out.2.1 hne2
      go_roundw
      case rel => exact ⟨j + 1, by go_num, hlt, powers.lay ⟨h2, d2, b2⟩⟩
      case measure => first | (simp [RowKit.intOf]; done) | (simp [RowKit.intOf]; omega) | omega
    · obtain rfl : n = j := by omega
      have hmap : mapTo (fun x => ⟨1, x.b, x.c⟩) (List.replicate n zT) n = (List.range n).map fun _ => ⟨1, 0, 0⟩ := by
        have e := mapTo_all (fun x : T3 => (⟨1, x.b, x.c⟩ : T3)) (List.replicate n zT)
        rw [List.length_replicate] at e
        rw [e]
        apply List.ext_getElem
        · simp
        · intro i h1 h2; simp
      have hA := HR.out.1
      rw [hmap] at hA
      have hlen : ((List.range n).map fun _ => (⟨1, 0, 0⟩ : T3)).length = n := by simp
      have h0n : 0 < ((List.range n).map fun _ => (⟨1, 0, 0⟩ : T3)).length := by rw [hlen]; omega
      have v0 := (hA.cells h0n).1
      have f0 := World.ownsRow.frozenAt hA (0 * 3)
      have l1 := HR.out.2.1.lt
      have l2 := hA.lt
      generalize (at3 ((List.range n).map fun _ => (⟨1, 0, 0⟩ : T3)) 0).a = tv at v0
      have q0 : 0 < n := by omega
      have q1 : (0 : Int) < (n : Int) := by omega
      go_upto_region 9 with (fail)
      have hS0 : Below wr.heap.size wr wr.drew := (Below.refl _ _).drew
      have ff : wr.drew.frozen? ⟨a1, 0, none⟩ = false := f0
      have v0' : wr.cell? ⟨a1, 0, none⟩ = some (.int .i64 tv) := v0
      refine mix.region_D (fun w' => Below wr.heap.size wr w') (fun j => j == 10) (by kernel_rfl) ?_
      generalize wr.drew = wd at hS0 ff ⊢
      refine mix.D_takeT (i := 0) (v := ?_) rfl (by kernel_rfl) (by kernel_rfl) (fun _ _ _ h => h) (Or.inl ⟨by first | rfl | simp [Region.wanted, yielded], ?_⟩) hS0 ?_
      rotate_left
      · intro w' hSw
        have z1 := (hSw.cell (p := ⟨lg, 1, none⟩) l1).trans y1
        have z2 := (hSw.cell (p := ⟨lg, 2, none⟩) l1).trans y2
        try simp only [List.getElem_toArray, List.getElem_cons_zero, List.getElem_cons_succ]
        go_simp
        exact rfl
      try simp only [Act.put, List.setIfInBounds_toArray, List.set_cons_zero, List.set_cons_succ, List.getElem_toArray, List.getElem_cons_zero, List.getElem_cons_succ]
      refine mix.D_takeT (i := 1) (v := ?_) rfl (by kernel_rfl) (by kernel_rfl) (fun _ _ _ h => h) (Or.inl ⟨by first | rfl | simp [Region.wanted, yielded], ?_⟩) hS0 ?_
      rotate_left
      · intro w' hSw
        have z1 := (hSw.cell (p := ⟨lg, 1, none⟩) l1).trans y1
        have z2 := (hSw.cell (p := ⟨lg, 2, none⟩) l1).trans y2
        try simp only [List.getElem_toArray, List.getElem_cons_zero, List.getElem_cons_succ]
        go_simp
        exact rfl
      try simp only [Act.put, List.setIfInBounds_toArray, List.set_cons_zero, List.set_cons_succ, List.getElem_toArray, List.getElem_cons_zero, List.getElem_cons_succ]
      refine mix.D_takeT (i := 2) (v := ?_) rfl (by kernel_rfl) (by kernel_rfl) (fun _ _ _ h => h) (Or.inl ⟨by first | rfl | simp [Region.wanted, yielded], ?_⟩) hS0 ?_
      rotate_left
      · intro w' hSw
        have z1 := (hSw.cell (p := ⟨lg, 1, none⟩) l1).trans y1
        have z2 := (hSw.cell (p := ⟨lg, 2, none⟩) l1).trans y2
        try simp only [List.getElem_toArray, List.getElem_cons_zero, List.getElem_cons_succ]
        go_simp
        exact rfl
      try simp only [Act.put, List.setIfInBounds_toArray, List.set_cons_zero, List.set_cons_succ, List.getElem_toArray, List.getElem_cons_zero, List.getElem_cons_succ]
      refine mix.D_takeT (i := 3) (v := ?_) rfl (by kernel_rfl) (by kernel_rfl) (fun _ _ _ h => h) (Or.inl ⟨by first | rfl | simp [Region.wanted, yielded], ?_⟩) hS0 ?_
      rotate_left
      · intro w' hSw
        have z1 := (hSw.cell (p := ⟨lg, 1, none⟩) l1).trans y1
        have z2 := (hSw.cell (p := ⟨lg, 2, none⟩) l1).trans y2
        try simp only [List.getElem_toArray, List.getElem_cons_zero, List.getElem_cons_succ]
        go_simp
        exact rfl
      try simp only [Act.put, List.setIfInBounds_toArray, List.set_cons_zero, List.set_cons_succ, List.getElem_toArray, List.getElem_cons_zero, List.getElem_cons_succ]
      refine mix.D_takeT (i := 4) (v := ?_) rfl (by kernel_rfl) (by kernel_rfl) (fun _ _ _ h => h) (Or.inl ⟨by first | rfl | simp [Region.wanted, yielded], ?_⟩) hS0 ?_
      rotate_left
      · intro w' hSw
        have z1 := (hSw.cell (p := ⟨lg, 1, none⟩) l1).trans y1
        have z2 := (hSw.cell (p := ⟨lg, 2, none⟩) l1).trans y2
        try simp only [List.getElem_toArray, List.getElem_cons_zero, List.getElem_cons_succ]
        go_simp
        exact rfl
      try simp only [Act.put, List.setIfInBounds_toArray, List.set_cons_zero, List.set_cons_succ, List.getElem_toArray, List.getElem_cons_zero, List.getElem_cons_succ]
      refine mix.D_takeT (i := 5) (v := ?_) rfl (by kernel_rfl) (by kernel_rfl) (fun _ _ _ h => h) (Or.inl ⟨by first | rfl | simp [Region.wanted, yielded], ?_⟩) hS0 ?_
      rotate_left
      · intro w' hSw
        have z1 := (hSw.cell (p := ⟨lg, 1, none⟩) l1).trans y1
        have z2 := (hSw.cell (p := ⟨lg, 2, none⟩) l1).trans y2
        try simp only [List.getElem_toArray, List.getElem_cons_zero, List.getElem_cons_succ]
        go_simp
        exact rfl
      try simp only [Act.put, List.setIfInBounds_toArray, List.set_cons_zero, List.set_cons_succ, List.getElem_toArray, List.getElem_cons_zero, List.getElem_cons_succ]
      refine mix.D_takeT (i := 6) (v := ?_) rfl (by kernel_rfl) (by kernel_rfl) (fun _ _ _ h => h) (Or.inl ⟨by first | rfl | simp [Region.wanted, yielded], ?_⟩) hS0 ?_
      rotate_left
      · intro w' hSw
        have z1 := (hSw.cell (p := ⟨lg, 1, none⟩) l1).trans y1
        have z2 := (hSw.cell (p := ⟨lg, 2, none⟩) l1).trans y2
        try simp only [List.getElem_toArray, List.getElem_cons_zero, List.getElem_cons_succ]
        go_simp
        exact rfl
      try simp only [Act.put, List.setIfInBounds_toArray, List.set_cons_zero, List.set_cons_succ, List.getElem_toArray, List.getElem_cons_zero, List.getElem_cons_succ]
      refine mix.D_takeT (i := 7) (v := ?_) rfl (by kernel_rfl) (by kernel_rfl) (fun _ _ _ h => h) (Or.inl ⟨by first | rfl | simp [Region.wanted, yielded], ?_⟩) hS0 ?_
      rotate_left
      · intro w' hSw
        have z1 := (hSw.cell (p := ⟨lg, 1, none⟩) l1).trans y1
        have z2 := (hSw.cell (p := ⟨lg, 2, none⟩) l1).trans y2
        try simp only [List.getElem_toArray, List.getElem_cons_zero, List.getElem_cons_succ]
        go_simp
        exact rfl
      try simp only [Act.put, List.setIfInBounds_toArray, List.set_cons_zero, List.set_cons_succ, List.getElem_toArray, List.getElem_cons_zero, List.getElem_cons_succ]
      refine mix.D_takeT (i := 8) (v := ?_) rfl (by kernel_rfl) (by kernel_rfl) (fun _ _ _ h => h) (Or.inl ⟨by first | rfl | simp [Region.wanted, yielded], ?_⟩) hS0 ?_
      rotate_left
      · intro w' hSw
        have z1 := (hSw.cell (p := ⟨lg, 1, none⟩) l1).trans y1
        have z2 := (hSw.cell (p := ⟨lg, 2, none⟩) l1).trans y2
        try simp only [List.getElem_toArray, List.getElem_cons_zero, List.getElem_cons_succ]
        go_simp
        exact rfl
      try simp only [Act.put, List.setIfInBounds_toArray, List.set_cons_zero, List.set_cons_succ, List.getElem_toArray, List.getElem_cons_zero, List.getElem_cons_succ]
      refine mix.D_takeT (i := 9) (v := ?_) rfl (by kernel_rfl) (by kernel_rfl) (fun _ _ _ h => h) (Or.inl ⟨by first | rfl | simp [Region.wanted, yielded], ?_⟩) hS0 ?_
      rotate_left
      · intro w' hSw
        have z1 := (hSw.cell (p := ⟨lg, 1, none⟩) l1).trans y1
        have z2 := (hSw.cell (p := ⟨lg, 2, none⟩) l1).trans y2
        try simp only [List.getElem_toArray, List.getElem_cons_zero, List.getElem_cons_succ]
        go_simp
        exact rfl
      try simp only [Act.put, List.setIfInBounds_toArray, List.set_cons_zero, List.set_cons_succ, List.getElem_toArray, List.getElem_cons_zero, List.getElem_cons_succ]
      refine mix.D_op (k := 10) rfl rfl (by kernel_rfl) (fun K' hK => ?_)
      simp only [List.getElem_toArray, List.getElem_cons_zero, List.getElem_cons_succ]
      have vv := (hS0.cell (p := ⟨a1, 0, none⟩) l2).trans v0'
      go_wp2_with fail
      refine hK.out _ _ (fun h => by simp at h) ?_
      clear hK K'
      try simp only [Act.put, List.setIfInBounds_toArray, List.set_cons_zero, List.set_cons_succ]
      refine mix.D_done (by kernel_rfl) ?_ _
      try simp only [Act.put, List.setIfInBounds_toArray, List.set_cons_zero, List.set_cons_succ, List.getElem_toArray, List.getElem_cons_zero, List.getElem_cons_succ]
      obtain ⟨h2, k2⟩ := (hA.below hS0).store (0 * 3) (.int .i64 3) (ac' := (newL n).ac) (by rw [cellsJ_set0 _ h0n]; unfold newL; rw [range_at _ q0]) (by rw [newL_len, hlen])
      rw [show 0 * 3 = 0 from rfl] at h2 k2
      have b2 : Below a1 w (wd.setCell ⟨a1, 0, none⟩ (.int .i64 3)) := (HR.out.2.2.trans (hS0.mono (by have := HR.out.2.2.size; have := HA1.out; omega))).trans (k2.below (fun k hk => by omega) (by have := HR.out.2.2.size; have := HA1.out; have := hS0.size; omega))
      have d2 := k2.blk (HR.out.2.1.below hS0 l1) hne2
      have HF : Hid (LgAt (wd.setCell ⟨a1, 0, none⟩ (.int .i64 3)) g lg a1 n (newL n)) := powers.lay ⟨by rw [newL_len]; exact d2, ownsRow_base h2 fun g _ => Nat.zero_le _, hne, newL_ok hsl⟩
      generalize wd.setCell ⟨a1, 0, none⟩ (.int .i64 3) = W9 at *
      clear h2 k2 d2
      go_wp2_with fail
      go_ret
      have := HA1.out
      have := HLG.out
      exact ⟨lg, a1, n, rfl, HF.out, below_q b2 HA1.out, by omega, by omega⟩

set_option maxRecDepth 100000 in
set_option maxHeartbeats 4000000 in
theorem new_nil (w : World) : Calls Try.prog 25 #[.pointer none] w fun e w' => e = .returned (.pointer none) ∧ w' = w := by
  go_enter Try.func25, Try.ntmps25
  go_wp2_with fail
  go_ret
  exact ⟨rfl, rfl⟩

end
end Go.Proofs.Ytoenkkbcpafanaa.segs
