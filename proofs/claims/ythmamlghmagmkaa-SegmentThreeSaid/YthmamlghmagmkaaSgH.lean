/- Settle, Begin and New. -/
import Derived.Test.YthmamlghmagmkaaSgG


namespace Go.Proofs.Ythmamlghmagmkaa.segs
set_option linter.unusedVariables false
set_option linter.unusedSimpArgs false
open Go.RowKit Go.Shelf Go.Proofs.Ythmamlghmagmkaa.base Go.Proofs.Ythmamlghmagmkaa.trees Go.Proofs.Ythmamlghmagmkaa.powers Go.Proofs.Ythmamlghmagmkaa.mediums Go.Lib

/-- right, but for what is live -/
structure OkP (q : Nat) (ac : List T3) : Prop where
  len : 1 ≤ ac.length ∧ ac.length ≤ 4096
  o : q < ac.length
  kind : ∀ i, i < ac.length → ((at3 ac i).a = 1 ∨ (at3 ac i).a = 2 ∨ (at3 ac i).a = 3) ∧ ((at3 ac i).a = 3 ↔ i = q)
  used : ∀ i, i < ac.length → 0 ≤ (at3 ac i).b ∧ (at3 ac i).b ≤ 1048576
  free : ∀ i, i < ac.length → (at3 ac i).a = 1 → (at3 ac i).b = 0
theorem OkL.p {s : LS} (h : OkL s) : OkP s.o s.ac := ⟨h.len, h.o, h.kind, h.used, fun i hi e => (h.free i hi e).1⟩
theorem settled_at {ac ps ac' : List T3} (h : settledP ac ps = some ac') : ac'.length = ac.length ∧ (ps.all (mayB ac) = true ∧ ps.Pairwise Disj) ∧ ∀ i, i < ac.length → at3 ac' i = freeT ⟨(at3 ac i).a, (at3 ac i).b, liveIn ps i⟩ := by
  unfold settledP at h
  split at h
  · rename_i hh
    have e := Option.some.inj h
    subst e
    refine ⟨by rw [List.length_map, sums_len], hh, fun i hi => ?_⟩
    rw [at3_map (by rw [sums_len]; exact hi)]
    congr 1
    have h1 := sums_ab ac ps i
    have h2 := sums_c ac ps i hi
    rw [← h1.1, ← h1.2, ← h2]
  · cases h
theorem OkP.settled {o : Nat} {ac ps ac' : List T3} (h : OkP o ac) (hl : ps.length * 24 ≤ 140737488355328) (hs : settledP ac ps = some ac') : OkL ⟨o, ac'⟩ := by
  obtain ⟨e, ⟨hm, hd⟩, ha⟩ := settled_at hs
  have hlv : ∀ i, 0 ≤ liveIn ps i ∧ liveIn ps i ≤ (ps.length : Int) * 1048576 := fun i => by
    have := liveIn_take_le (j := ps.length) (by rw [List.take_length]; exact hm) h.used (Nat.le_refl _) i
    rw [List.take_length] at this
    exact this
  have h1 : ∀ p ∈ ps, 1 ≤ p.c := fun p hp => (mayB_iff.1 (List.all_eq_true.1 hm p hp)).2.2.1
  refine ⟨by show 1 ≤ ac'.length ∧ _; rw [e]; exact h.len, by show o < ac'.length; rw [e]; exact h.o, fun i hi => ?_, fun i hi => ?_, fun i hi => ?_, fun i hi => ?_⟩ <;>
    (replace hi : i < ac'.length := hi) <;> rw [e] at hi <;> (show _; dsimp only) <;> rw [ha i hi]
  · have hk := h.kind i hi
    by_cases hf : (at3 ac i).a = 2 ∧ liveIn ps i = 0
    · rw [free_yes hf]
      exact ⟨.inl rfl, fun e => by simp at e, fun e => by have := hk.2.2 e; omega⟩
    · rw [free_no hf]; exact hk
  · by_cases hf : (at3 ac i).a = 2 ∧ liveIn ps i = 0
    · rw [free_yes hf]; simp
    · rw [free_no hf]; exact h.used i hi
  · by_cases hf : (at3 ac i).a = 2 ∧ liveIn ps i = 0
    · rw [free_yes hf]; simp
    · rw [free_no hf]; have := hlv i; dsimp only; omega
  · by_cases hf : (at3 ac i).a = 2 ∧ liveIn ps i = 0
    · rw [free_yes hf]; simp
    · rw [free_no hf]
      intro ek
      have hb := h.free i hi ek
      refine ⟨hb, (liveIn_pos h1).2 fun p hp hpi => ?_⟩
      obtain ⟨_, m3, m4, m5⟩ := mayB_iff.1 (List.all_eq_true.1 hm p hp)
      rw [hpi, hb] at m5
      omega
section
variable {w w' : World} {S : Nat → Prop} {p g lg ab c : Nat} {m : MS} {s : LS} {L W : Int}
theorem LgAt.ac (h : LgAt w g lg ab c s) : Ac w 0 ab c s.ac := h.row
/-- what Settle leaves -/
def SePost (g lg ab c : Nat) (s : LS) (ps : List T3) (w : World) (e : Ending) (w' : World) : Prop :=
  (settledP s.ac ps = none ∧ e = .returned (.int .i64 121) ∧ Below w.heap.size w w') ∨
  (∃ ac' ab' c', settledP s.ac ps = some ac' ∧ e = .returned (.int .i64 0) ∧ LgAt w' g lg ab' c' ⟨s.o, ac'⟩ ∧ Keep (fun k => k = lg) w w' ∧ w.heap.size ≤ ab')

set_option maxRecDepth 100000 in
set_option maxHeartbeats 4000000 in
theorem settle_ok (h : LgAt w g lg ab c s) (ps : List T3) (A : Option Addr) (cp : Nat) (F : Nat → Prop) (hF : ∀ k, F k → k < w.heap.size) (hP : PsF w F ps A cp) :
    Calls Try.prog 42 #[.pointer (some ⟨lg, 0, none⟩), .slice A ps.length cp] w (SePost g lg ab c s ps w) := by
  have cS := settled_ok h.ac h.ok.len h.ok.used ps A cp F hF hP
  have hps := hP.2.1
  obtain ⟨x0, x1, x2⟩ := h.x
  obtain ⟨l1, l2⟩ := h.lt
  have HH := powers.lay h
  clear hP h
  obtain ⟨pn, hpn⟩ : ∃ pn, ps.length = pn := ⟨_, rfl⟩
  have HPN := powers.lay hpn
  rw [hpn] at cS hps ⊢
  clear hpn
  go_enter Try.func42, Try.ntmps42
  go_wp2_with fail
  refine cS.mono ?_
  rintro e w1 ⟨b1, ⟨hn, rfl⟩ | ⟨ac', a1, k1, hs, hl, rfl, hr⟩⟩
  · have HN := powers.lay hn
    clear cS hn
    go_wp2_with fail
    go_ret
    exact .inl ⟨HN.out, rfl, b1⟩
  · have hd := HH.out.head.below b1 l1
    have f2 := hd.frozen 2
    have y2 := hd.cell 2
    simp only [List.getElem?_toArray, List.getElem?_cons_zero, List.getElem?_cons_succ] at y2
    have HS := powers.lay hs
    have HR := powers.lay hr
    have HL := powers.lay hl
    have hlo := hr.low
    clear cS hs hr hl x0 x1 x2
    go_wp2_with fail
    have hd2 := hd.put 2 (.slice (some ⟨a1, 0, none⟩) ac'.length k1)
    simp only [List.setIfInBounds_toArray, List.set_cons_zero, List.set_cons_succ] at hd2
    have kk := grown_keep (grown_set w1 lg 2 (.slice (some ⟨a1, 0, none⟩) ac'.length k1))
    have hne : a1 ≠ lg := by have := l1; have := hlo; omega
    have hr2 : Ac (w1.setCell ⟨lg, 2, none⟩ (.slice (some ⟨a1, 0, none⟩) ac'.length k1)) 0 a1 k1 ac' := ownsRow_base (HR.out.keep kk hne) fun g _ => Nat.zero_le _
    have kw : Keep (fun k => k = lg) w (w1.setCell ⟨lg, 2, none⟩ (.slice (some ⟨a1, 0, none⟩) ac'.length k1)) := (Keep.of_below b1).trans kk fun k hk _ => hk
    go_ret
    exact .inr ⟨ac', a1, k1, HS.out, rfl, ⟨hd2, hr2, hne, HH.out.ok.p.settled (by rw [HPN.out]; exact hps) HS.out⟩, kw, hlo⟩

/-- a list that is filled one by one -/
def filled (f : Nat → T3) (n j : Nat) : List T3 := (List.range j).map f ++ List.replicate (n - j) zT
theorem filled_zero (f : Nat → T3) (n : Nat) : filled f n 0 = List.replicate n zT := rfl
theorem filled_all (f : Nat → T3) (n : Nat) : filled f n n = (List.range n).map f := by unfold filled; rw [Nat.sub_self]; simp
theorem filled_len (f : Nat → T3) {n j : Nat} (hj : j ≤ n) : (filled f n j).length = n := by unfold filled; rw [List.length_append, List.length_map, List.length_range, List.length_replicate]; omega
theorem filled_at (f : Nat → T3) {n j : Nat} (hj : j < n) : at3 (filled f n j) j = zT := by
  unfold filled at3
  rw [List.getElem?_append_right (by rw [List.length_map, List.length_range]; omega), List.length_map, List.length_range, Nat.sub_self, List.getElem?_replicate, if_pos (by omega)]
  rfl
theorem filled_set (f : Nat → T3) {n j : Nat} (hj : j < n) : (filled f n j).set j (f j) = filled f n (j + 1) := by
  unfold filled
  rw [List.set_append, if_neg (by rw [List.length_map, List.length_range]; omega), List.length_map, List.length_range, Nat.sub_self, List.range_succ, List.map_append, List.append_assoc, show n - j = (n - (j + 1)) + 1 by omega, List.replicate_succ, List.set_cons_zero]
  rfl
theorem range_at (f : Nat → T3) {n i : Nat} (hi : i < n) : at3 ((List.range n).map f) i = f i := by
  unfold at3
  rw [List.getElem?_map, List.getElem?_range hi]
  rfl
theorem made_zeros (n : Nat) : (madeCells #[.int .i64 0, .int .i64 0, .int .i64 0] (n * 3)).toList = cellsJ (List.replicate n zT) := by
  have e1 : madeCells #[Value.int .i64 0, .int .i64 0, .int .i64 0] (n * 3) = (List.replicate (n * 3) (Value.int .i64 0)).toArray := by
    apply Array.ext'
    simp only [madeCells, Array.toList_map, Array.toList_range]
    apply List.ext_getElem
    · simp
    · intro i h1 h2
      have hm : i % 3 = 0 ∨ i % 3 = 1 ∨ i % 3 = 2 := by omega
      rcases hm with hm | hm | hm <;> simp [hm]
  rw [e1]
  have e2 : ∀ n, cellsJ (List.replicate n zT) = List.replicate (n * 3) (Value.int .i64 0) := fun n => by
    induction n with
    | zero => rfl
    | succ n ih => rw [List.replicate_succ, cellsJ, ih, show (n + 1) * 3 = n * 3 + 1 + 1 + 1 by omega, List.replicate_succ, List.replicate_succ, List.replicate_succ]; rfl
  rw [e2]
def newL (n : Nat) : LS := ⟨0, ((List.range n).map fun _ => ⟨1, 0, 0⟩).set 0 ⟨3, 0, 0⟩⟩
theorem newL_at {n i : Nat} (hn : 1 ≤ n) (hi : i < n) : at3 (newL n).ac i = if i = 0 then ⟨3, 0, 0⟩ else ⟨1, 0, 0⟩ := by
  unfold newL
  by_cases h : i = 0
  · subst h; rw [at3_set _ (by simp; omega), if_pos rfl]
  · rw [at3_ne _ (fun e => h e.symm), range_at _ hi, if_neg h]
theorem newL_len (n : Nat) : (newL n).ac.length = n := by unfold newL; simp
theorem newL_ok {n : Nat} (hn : 1 ≤ n ∧ n ≤ 4096) : OkL (newL n) := by
  refine ⟨by rw [newL_len]; exact hn, by rw [newL_len]; exact hn.1, fun i hi => ?_, fun i hi => ?_, fun i hi => ?_, fun i hi => ?_⟩ <;> rw [newL_len] at hi <;> rw [newL_at hn.1 hi]
  · show _ ∧ (_ ↔ i = 0)
    split
    · rename_i h; simp [h]
    · rename_i h; simp [h]
  · split <;> simp
  · split <;> simp
  · split <;> simp

theorem mk_ac {n : Nat} (hn : 1 ≤ n ∧ n ≤ 4096) : ∃ M : Array Value, (∀ u : World, (Instr.makeSlice 104 (.int .i64 (n : Int)) (.int .i64 (n : Int))).run Try.prog u = .ok (.slice (some ⟨u.heap.size, 0, none⟩) n n) (u.alloc (.cells M 184))) ∧
    ∀ (u : World) (base : Nat), base ≤ u.heap.size → (u.alloc (.cells M 184)).ownsRow base 184 3 (.slice (some ⟨u.heap.size, 0, none⟩) n n) n (cellsJ (List.replicate n zT)) := by
  obtain ⟨i0, hi0, hz0, hz1, hz2⟩ := @info_parts _ _ _ _ _ infoAc
  refine ⟨madeCells (Value.agg #[.int .i64 0, .int .i64 0, .int .i64 0]).cells (n * i0.size), fun u => ?_, fun u base hb => ?_⟩
  · have h := run_make (P := Try.prog) u 104 184 i0 _ Try.underlying104 hi0 hz0 .i64 .i64 (n : Int) (n : Int) (by omega) (Int.le_refl _) (by rw [hz2]; omega) (by omega)
    simpa using h
  · have h := World.ownsRow_lit (base := base) (e := 184) (size := 3) u (madeCells (Value.agg #[.int .i64 0, .int .i64 0, .int .i64 0]).cells (n * i0.size)) n hb (by unfold maxLen; omega) (by rw [hz1]; exact size_madeCells _ _)
    rw [hz1] at h ⊢
    rw [← made_zeros]
    exact h

set_option maxRecDepth 100000 in
set_option maxHeartbeats 4000000 in
theorem new_ok (hM : Md w S p g m) : Calls Try.prog 31 #[.pointer (some ⟨g, 0, none⟩)] w fun e w' => ∃ lg ab c, e = .returned (.pointer (some ⟨lg, 0, none⟩)) ∧ LgAt w' g lg ab c (newL m.segs.length) ∧ Below w.heap.size w w' ∧ w.heap.size ≤ lg ∧ w.heap.size ≤ ab := by
  obtain ⟨sb, vs, vp, hM'⟩ := id hM
  have cG := segments_ok hM'
  have hsl := hM.seglen
  rw [show vs.length = m.segs.length from hM'.len] at cG
  generalize m.segs.length = n at *
  obtain ⟨M, hmk, hrow⟩ := mk_ac hsl
  have h0 := hrow w w.heap.size (Nat.le_refl _)
  have b0 : Below w.heap.size w (w.alloc (.cells M 184)) := (Below.refl _ _).alloc (Nat.le_refl _) _
  have s0 : (w.alloc (.cells M 184)).heap.size = w.heap.size + 1 := by simp
  obtain ⟨W1, hW1⟩ : ∃ W1, w.alloc (.cells M 184) = W1 := ⟨_, rfl⟩
  rw [hW1] at h0 b0 s0
  have hHd : Blk (W1.alloc (.cells #[.pointer (some ⟨g, 0, none⟩), .int .i64 0, .slice (some ⟨w.heap.size, 0, none⟩) n n] 106)) W1.heap.size 106 #[.pointer (some ⟨g, 0, none⟩), .int .i64 0, .slice (some ⟨w.heap.size, 0, none⟩) n n] := Blk.new _ _ _
  have b1 : Below w.heap.size w (W1.alloc (.cells #[.pointer (some ⟨g, 0, none⟩), .int .i64 0, .slice (some ⟨w.heap.size, 0, none⟩) n n] 106)) := b0.alloc b0.size _
  have h1 := row_below h0 ((Below.refl W1.heap.size W1).alloc (Nat.le_refl _) (.cells #[.pointer (some ⟨g, 0, none⟩), .int .i64 0, .slice (some ⟨w.heap.size, 0, none⟩) n n] 106))
  obtain ⟨W2, hW2⟩ : ∃ W2, W1.alloc (.cells #[.pointer (some ⟨g, 0, none⟩), .int .i64 0, .slice (some ⟨w.heap.size, 0, none⟩) n n] 106) = W2 := ⟨_, rfl⟩
  rw [hW2] at hHd b1 h1
  rw [s0] at hHd
  clear hM hM' hrow h0 b0
  have HMK := powers.lay hmk
  have y0 := hHd.cell 0
  have y1 := hHd.cell 1
  have y2 := hHd.cell 2
  simp only [List.getElem?_toArray, List.getElem?_cons_zero, List.getElem?_cons_succ] at y0 y1 y2
  go_enter Try.func31, Try.ntmps31
  go_wp2_with (go_at_call 92; refine cG.mono ?_; rintro e w ⟨rfl, rfl⟩)
  have l1 := hHd.lt
  obtain ⟨a1, ha1⟩ : ∃ a1, w.heap.size = a1 := ⟨_, rfl⟩
  obtain ⟨lg, hlg⟩ : ∃ lg, w.heap.size + 1 = lg := ⟨_, rfl⟩
  have HLG := powers.lay hlg
  have HA1 := powers.lay ha1
  rw [hlg] at hHd y0 y1 y2 l1 ⊢
  rw [ha1] at hHd y2 h1 b1 hlg ⊢
  have hne : a1 ≠ lg := by omega
  have hne2 : lg ≠ a1 := by omega
  have hA0 : Ac W2 a1 a1 n (List.replicate n zT) := by unfold Ac; rw [List.length_replicate]; exact h1
  have HS : Hid (Ac W2 a1 a1 n (mapTo (fun x => ⟨1, x.b, x.c⟩) (List.replicate n zT) 0) ∧ Blk W2 lg 106 #[.pointer (some ⟨g, 0, none⟩), .int .i64 0, .slice (some ⟨a1, 0, none⟩) n n] ∧ Below a1 w W2) := powers.lay ⟨by rw [mapTo_zero]; exact hA0, hHd, b1⟩
  clear hmk hW1 hW2 HMK s0 h1 b1 hHd y0 y1 y2 l1 hA0 cG ha1 hlg
  go_loopw [18] (fun i wr => ∃ j : Nat, i = .int .i64 (j : Int) ∧ j ≤ n ∧ Hid (Ac wr a1 a1 n (mapTo (fun x => ⟨1, x.b, x.c⟩) (List.replicate n zT) j) ∧ Blk wr lg 106 #[.pointer (some ⟨g, 0, none⟩), .int .i64 0, .slice (some ⟨a1, 0, none⟩) n n] ∧ Below a1 w wr)) (fun i _ => n - (RowKit.intOf i).toNat)
  case atStart => exact ⟨0, rfl, Nat.zero_le _, HS⟩
  case round =>
    clear HS
    obtain ⟨j, rfl, hj, HR⟩ := hrel
    have e1 : IntKind.i64.wrap ((j : Int) + 1) = (j : Int) + 1 := IntWalk.i64_in _ (by omega)
    have y0 := HR.out.2.1.cell 0
    have y1 := HR.out.2.1.cell 1
    have y2 := HR.out.2.1.cell 2
    simp only [List.getElem?_toArray, List.getElem?_cons_zero, List.getElem?_cons_succ] at y0 y1 y2
    by_cases hlt : j < n
    · have hja : j < (List.replicate n zT).length := by rw [List.length_replicate]; exact hlt
      have hjm : j < (mapTo (fun x => ⟨1, x.b, x.c⟩) (List.replicate n zT) j).length := by rw [mapTo_len]; exact hja
      have v0 := (HR.out.1.cells hjm).1
      have f0 := World.ownsRow.frozenAt HR.out.1 (j * 3)
      generalize (at3 (mapTo (fun x => ⟨1, x.b, x.c⟩) (List.replicate n zT) j) j).a = tv at v0
      go_wp2_with fail
      obtain ⟨h2, k2⟩ := HR.out.1.store (j * 3) (.int .i64 1) (ac' := mapTo (fun x => ⟨1, x.b, x.c⟩) (List.replicate n zT) (j + 1)) (by rw [cellsJ_set0 _ hjm, mapTo_at _ _ hja, ← mapTo_set _ _ hja]) (by rw [mapTo_len, mapTo_len])
      have b2 : Below a1 w (wr.setCell ⟨a1, j * 3, none⟩ (.int .i64 1)) := HR.out.2.2.trans (k2.below (fun k hk => by omega) (by have := HR.out.2.2.size; have := HA1.out; omega))
      have d2 := k2.blk HR.out.2.1 hne2
      go_roundw
      case rel => exact ⟨j + 1, by go_num, hlt, powers.lay ⟨h2, d2, b2⟩⟩
      case measure => first | (simp [RowKit.intOf]; done) | (simp [RowKit.intOf]; omega) | omega
    · obtain rfl : n = j := by omega
      have hmap : mapTo (fun x => ⟨1, x.b, x.c⟩) (List.replicate n zT) n = (List.range n).map fun _ => ⟨1, 0, 0⟩ := by
        have e := mapTo_all (fun x : T3 => (⟨1, x.b, x.c⟩ : T3)) (List.replicate n zT)
        rw [List.length_replicate] at e
        rw [e]
        apply List.ext_getElem
        · simp
        · intro i h1 h2; simp
      have hA := HR.out.1
      rw [hmap] at hA
      have hlen : ((List.range n).map fun _ => (⟨1, 0, 0⟩ : T3)).length = n := by simp
      have h0n : 0 < ((List.range n).map fun _ => (⟨1, 0, 0⟩ : T3)).length := by rw [hlen]; omega
      have v0 := (hA.cells h0n).1
      have f0 := World.ownsRow.frozenAt hA (0 * 3)
      have l1 := HR.out.2.1.lt
      have l2 := hA.lt
      generalize (at3 ((List.range n).map fun _ => (⟨1, 0, 0⟩ : T3)) 0).a = tv at v0
      have q0 : 0 < n := by omega
      have q1 : (0 : Int) < (n : Int) := by omega
      go_upto_region 9 with (fail)
      have hS0 : Below wr.heap.size wr wr.drew := (Below.refl _ _).drew
      have ff : wr.drew.frozen? ⟨a1, 0, none⟩ = false := f0
      have v0' : wr.cell? ⟨a1, 0, none⟩ = some (.int .i64 tv) := v0
      refine mix.region_D (fun w' => Below wr.heap.size wr w') (fun j => j == 10) (by kernel_rfl) ?_
      generalize wr.drew = wd at hS0 ff ⊢
      refine mix.D_takeT (i := 0) (v := ?_) rfl (by kernel_rfl) (by kernel_rfl) (fun _ _ _ h => h) (Or.inl ⟨by first | rfl | simp [Region.wanted, yielded], ?_⟩) hS0 ?_
      rotate_left
      · intro w' hSw
        have z1 := (hSw.cell (p := ⟨lg, 1, none⟩) l1).trans y1
        have z2 := (hSw.cell (p := ⟨lg, 2, none⟩) l1).trans y2
        try simp only [List.getElem_toArray, List.getElem_cons_zero, List.getElem_cons_succ]
        go_simp
        exact rfl
      try simp only [Act.put, List.setIfInBounds_toArray, List.set_cons_zero, List.set_cons_succ, List.getElem_toArray, List.getElem_cons_zero, List.getElem_cons_succ]
      refine mix.D_takeT (i := 1) (v := ?_) rfl (by kernel_rfl) (by kernel_rfl) (fun _ _ _ h => h) (Or.inl ⟨by first | rfl | simp [Region.wanted, yielded], ?_⟩) hS0 ?_
      rotate_left
      · intro w' hSw
        have z1 := (hSw.cell (p := ⟨lg, 1, none⟩) l1).trans y1
        have z2 := (hSw.cell (p := ⟨lg, 2, none⟩) l1).trans y2
        try simp only [List.getElem_toArray, List.getElem_cons_zero, List.getElem_cons_succ]
        go_simp
        exact rfl
      try simp only [Act.put, List.setIfInBounds_toArray, List.set_cons_zero, List.set_cons_succ, List.getElem_toArray, List.getElem_cons_zero, List.getElem_cons_succ]
      refine mix.D_takeT (i := 2) (v := ?_) rfl (by kernel_rfl) (by kernel_rfl) (fun _ _ _ h => h) (Or.inl ⟨by first | rfl | simp [Region.wanted, yielded], ?_⟩) hS0 ?_
      rotate_left
      · intro w' hSw
        have z1 := (hSw.cell (p := ⟨lg, 1, none⟩) l1).trans y1
        have z2 := (hSw.cell (p := ⟨lg, 2, none⟩) l1).trans y2
        try simp only [List.getElem_toArray, List.getElem_cons_zero, List.getElem_cons_succ]
        go_simp
        exact rfl
      try simp only [Act.put, List.setIfInBounds_toArray, List.set_cons_zero, List.set_cons_succ, List.getElem_toArray, List.getElem_cons_zero, List.getElem_cons_succ]
      refine mix.D_takeT (i := 3) (v := ?_) rfl (by kernel_rfl) (by kernel_rfl) (fun _ _ _ h => h) (Or.inl ⟨by first | rfl | simp [Region.wanted, yielded], ?_⟩) hS0 ?_
      rotate_left
      · intro w' hSw
        have z1 := (hSw.cell (p := ⟨lg, 1, none⟩) l1).trans y1
        have z2 := (hSw.cell (p := ⟨lg, 2, none⟩) l1).trans y2
        try simp only [List.getElem_toArray, List.getElem_cons_zero, List.getElem_cons_succ]
        go_simp
        exact rfl
      try simp only [Act.put, List.setIfInBounds_toArray, List.set_cons_zero, List.set_cons_succ, List.getElem_toArray, List.getElem_cons_zero, List.getElem_cons_succ]
      refine mix.D_takeT (i := 4) (v := ?_) rfl (by kernel_rfl) (by kernel_rfl) (fun _ _ _ h => h) (Or.inl ⟨by first | rfl | simp [Region.wanted, yielded], ?_⟩) hS0 ?_
      rotate_left
      · intro w' hSw
        have z1 := (hSw.cell (p := ⟨lg, 1, none⟩) l1).trans y1
        have z2 := (hSw.cell (p := ⟨lg, 2, none⟩) l1).trans y2
        try simp only [List.getElem_toArray, List.getElem_cons_zero, List.getElem_cons_succ]
        go_simp
        exact rfl
      try simp only [Act.put, List.setIfInBounds_toArray, List.set_cons_zero, List.set_cons_succ, List.getElem_toArray, List.getElem_cons_zero, List.getElem_cons_succ]
      refine mix.D_takeT (i := 5) (v := ?_) rfl (by kernel_rfl) (by kernel_rfl) (fun _ _ _ h => h) (Or.inl ⟨by first | rfl | simp [Region.wanted, yielded], ?_⟩) hS0 ?_
      rotate_left
      · intro w' hSw
        have z1 := (hSw.cell (p := ⟨lg, 1, none⟩) l1).trans y1
        have z2 := (hSw.cell (p := ⟨lg, 2, none⟩) l1).trans y2
        try simp only [List.getElem_toArray, List.getElem_cons_zero, List.getElem_cons_succ]
        go_simp
        exact rfl
      try simp only [Act.put, List.setIfInBounds_toArray, List.set_cons_zero, List.set_cons_succ, List.getElem_toArray, List.getElem_cons_zero, List.getElem_cons_succ]
      refine mix.D_takeT (i := 6) (v := ?_) rfl (by kernel_rfl) (by kernel_rfl) (fun _ _ _ h => h) (Or.inl ⟨by first | rfl | simp [Region.wanted, yielded], ?_⟩) hS0 ?_
      rotate_left
      · intro w' hSw
        have z1 := (hSw.cell (p := ⟨lg, 1, none⟩) l1).trans y1
        have z2 := (hSw.cell (p := ⟨lg, 2, none⟩) l1).trans y2
        try simp only [List.getElem_toArray, List.getElem_cons_zero, List.getElem_cons_succ]
        go_simp
        exact rfl
      try simp only [Act.put, List.setIfInBounds_toArray, List.set_cons_zero, List.set_cons_succ, List.getElem_toArray, List.getElem_cons_zero, List.getElem_cons_succ]
      refine mix.D_takeT (i := 7) (v := ?_) rfl (by kernel_rfl) (by kernel_rfl) (fun _ _ _ h => h) (Or.inl ⟨by first | rfl | simp [Region.wanted, yielded], ?_⟩) hS0 ?_
      rotate_left
      · intro w' hSw
        have z1 := (hSw.cell (p := ⟨lg, 1, none⟩) l1).trans y1
        have z2 := (hSw.cell (p := ⟨lg, 2, none⟩) l1).trans y2
        try simp only [List.getElem_toArray, List.getElem_cons_zero, List.getElem_cons_succ]
        go_simp
        exact rfl
      try simp only [Act.put, List.setIfInBounds_toArray, List.set_cons_zero, List.set_cons_succ, List.getElem_toArray, List.getElem_cons_zero, List.getElem_cons_succ]
      refine mix.D_takeT (i := 8) (v := ?_) rfl (by kernel_rfl) (by kernel_rfl) (fun _ _ _ h => h) (Or.inl ⟨by first | rfl | simp [Region.wanted, yielded], ?_⟩) hS0 ?_
      rotate_left
      · intro w' hSw
        have z1 := (hSw.cell (p := ⟨lg, 1, none⟩) l1).trans y1
        have z2 := (hSw.cell (p := ⟨lg, 2, none⟩) l1).trans y2
        try simp only [List.getElem_toArray, List.getElem_cons_zero, List.getElem_cons_succ]
        go_simp
        exact rfl
      try simp only [Act.put, List.setIfInBounds_toArray, List.set_cons_zero, List.set_cons_succ, List.getElem_toArray, List.getElem_cons_zero, List.getElem_cons_succ]
      refine mix.D_takeT (i := 9) (v := ?_) rfl (by kernel_rfl) (by kernel_rfl) (fun _ _ _ h => h) (Or.inl ⟨by first | rfl | simp [Region.wanted, yielded], ?_⟩) hS0 ?_
      rotate_left
      · intro w' hSw
        have z1 := (hSw.cell (p := ⟨lg, 1, none⟩) l1).trans y1
        have z2 := (hSw.cell (p := ⟨lg, 2, none⟩) l1).trans y2
        try simp only [List.getElem_toArray, List.getElem_cons_zero, List.getElem_cons_succ]
        go_simp
        exact rfl
      try simp only [Act.put, List.setIfInBounds_toArray, List.set_cons_zero, List.set_cons_succ, List.getElem_toArray, List.getElem_cons_zero, List.getElem_cons_succ]
      refine mix.D_op (k := 10) rfl rfl (by kernel_rfl) (fun K' hK => ?_)
      simp only [List.getElem_toArray, List.getElem_cons_zero, List.getElem_cons_succ]
      have vv := (hS0.cell (p := ⟨a1, 0, none⟩) l2).trans v0'
      go_wp2_with fail
      refine hK.out _ _ (fun h => by simp at h) ?_
      clear hK K'
      try simp only [Act.put, List.setIfInBounds_toArray, List.set_cons_zero, List.set_cons_succ]
      refine mix.D_done (by kernel_rfl) ?_ _
      try simp only [Act.put, List.setIfInBounds_toArray, List.set_cons_zero, List.set_cons_succ, List.getElem_toArray, List.getElem_cons_zero, List.getElem_cons_succ]
      obtain ⟨h2, k2⟩ := (hA.below hS0).store (0 * 3) (.int .i64 3) (ac' := (newL n).ac) (by rw [cellsJ_set0 _ h0n]; unfold newL; rw [range_at _ q0]) (by rw [newL_len, hlen])
      rw [show 0 * 3 = 0 from rfl] at h2 k2
      have b2 : Below a1 w (wd.setCell ⟨a1, 0, none⟩ (.int .i64 3)) := (HR.out.2.2.trans (hS0.mono (by have := HR.out.2.2.size; have := HA1.out; omega))).trans (k2.below (fun k hk => by omega) (by have := HR.out.2.2.size; have := HA1.out; have := hS0.size; omega))
      have d2 := k2.blk (HR.out.2.1.below hS0 l1) hne2
      have HF : Hid (LgAt (wd.setCell ⟨a1, 0, none⟩ (.int .i64 3)) g lg a1 n (newL n)) := powers.lay ⟨by rw [newL_len]; exact d2, ownsRow_base h2 fun g _ => Nat.zero_le _, hne, newL_ok hsl⟩
      generalize wd.setCell ⟨a1, 0, none⟩ (.int .i64 3) = W9 at *
      clear h2 k2 d2
      go_wp2_with fail
      go_ret
      have := HA1.out
      have := HLG.out
      exact ⟨lg, a1, n, rfl, HF.out, below_q b2 HA1.out, by omega, by omega⟩

set_option maxRecDepth 100000 in
set_option maxHeartbeats 4000000 in
theorem new_nil (w : World) : Calls Try.prog 31 #[.pointer none] w fun e w' => e = .returned (.pointer none) ∧ w' = w := by
  go_enter Try.func31, Try.ntmps31
  go_wp2_with fail
  go_ret
  exact ⟨rfl, rfl⟩

end
end Go.Proofs.Ythmamlghmagmkaa.segs
