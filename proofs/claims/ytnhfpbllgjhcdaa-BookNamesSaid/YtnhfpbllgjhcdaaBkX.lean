/- The walk of BookNames. -/
import Derived.Test.YtnhfpbllgjhcdaaBkV
import Derived.WalkSpells
import Derived.BigQuiet
import Derived.Deep.QuietTactic


namespace Go.Proofs.Ytnhfpbllgjhcdaa.books
set_option linter.unusedVariables false
set_option linter.unusedSimpArgs false
open Go.RowKit Go.Shelf Go.Proofs.Ytnhfpbllgjhcdaa.base Go.Proofs.Ytnhfpbllgjhcdaa.quotas Go.Proofs.Ytnhfpbllgjhcdaa.vers Go.Proofs.Ytnhfpbllgjhcdaa.nodes Go.Proofs.Ytnhfpbllgjhcdaa.trees Go.Proofs.Ytnhfpbllgjhcdaa.texts

theorem hasP_eq (s t : ByteArray) : hasP s t = (decide ((t.size : Int) ≤ (s.size : Int)) && ((s.extract 0 t.size).toList == t.toList)) := by
  unfold hasP Lib.hasPrefix
  simp only [bn]
  rw [Lib.toList_data, Lib.toList_data]
  have h1 : (s.extract 0 t.size).data.toList = s.data.toList.take t.size := by
    rw [ByteArray.data_extract]; simp
  have h2 : t.data.toList.length = t.size := by simp
  have h3 : s.data.toList.length = s.size := by simp
  rw [h1]
  generalize hs : s.size = n at *
  generalize ht : t.size = m at *
  generalize s.data.toList = a at *
  generalize t.data.toList = b at *
  by_cases h : (m : Int) ≤ (n : Int)
  · rw [decide_eq_true h, Bool.true_and, Bool.eq_iff_iff, List.isPrefixOf_iff_prefix, beq_iff_eq, List.prefix_iff_eq_take, h2]
    exact eq_comm
  · rw [decide_eq_false h, Bool.false_and, Bool.eq_false_iff]
    intro h4
    have := (List.isPrefixOf_iff_prefix.1 h4).length_le
    omega
/-- how many of the first names fit -/
def fitN (N : List ByteArray) (ps : List ByteArray) (j : Nat) : Nat := ((N.take j).filter (fitP ps)).length
theorem fitN_next {N ps : List ByteArray} {j : Nat} (hj : j < N.length) : fitN N ps (j + 1) = fitN N ps j + (if fitP ps N[j] then 1 else 0) := by
  unfold fitN
  rw [List.take_succ_eq_append_getElem hj, List.filter_append, List.length_append]
  by_cases h : fitP ps N[j] = true <;> simp [h]
theorem fitN_at {N ps : List ByteArray} {j : Nat} (hj : j < N.length) (hf : fitP ps N[j] = true) : ∃ h : fitN N ps j < (N.filter (fitP ps)).length, (N.filter (fitP ps))[fitN N ps j] = N[j] := by
  have e : N.filter (fitP ps) = (N.take j).filter (fitP ps) ++ N[j] :: (N.drop (j + 1)).filter (fitP ps) := by
    conv => lhs; rw [← List.take_append_drop j N, List.filter_append, List.drop_eq_getElem_cons hj, List.filter_cons, if_pos hf]
  have hl : fitN N ps j < (N.filter (fitP ps)).length := by rw [e, List.length_append, List.length_cons]; unfold fitN; omega
  refine ⟨hl, ?_⟩
  have : (N.filter (fitP ps))[fitN N ps j]? = some N[j] := by
    rw [e]
    unfold fitN
    rw [List.getElem?_append_right (Nat.le_refl _)]
    simp
  rw [List.getElem?_eq_getElem hl] at this
  exact Option.some.inj this
theorem fitN_all (N ps : List ByteArray) : fitN N ps N.length = (N.filter (fitP ps)).length := by unfold fitN; rw [List.take_length]
def fitK (ps : List ByteArray) (s : ByteArray) (k : Nat) : Bool := (ps.length == 0) || (ps.take k).any (hasP s)
theorem fitK_next {ps : List ByteArray} {s : ByteArray} {k : Nat} (hk : k < ps.length) : fitK ps s (k + 1) = (fitK ps s k || hasP s ps[k]) := by
  unfold fitK
  rw [List.take_succ_eq_append_getElem hk, List.any_append, Bool.or_assoc]
  simp
theorem fitK_all (ps : List ByteArray) (s : ByteArray) : fitK ps s ps.length = fitP ps s := by unfold fitK fitP; rw [List.take_length]

set_option maxRecDepth 100000 in
set_option maxHeartbeats 4000000 in
theorem names_no (q : Qt) (bs : List BL) (A : Option Addr) (c : Nat) (ps : List ByteArray) (A2 : Option Addr) (c2 : Nat) (w : World) (hk : ¬ q.ok) :
    Calls Try.prog 12 #[.agg #[.int .i64 q.a, .int .i64 q.b, .int .i64 q.c, .int .i64 q.d, .int .i64 q.e, .int .i64 q.f, .int .i64 q.h], .slice A bs.length c, .slice A2 ps.length c2] w fun e w' => e = .returned (.bool true) ∧ Below w.heap.size w w' := by
  have hm := fun w' => made_no q bs A c w' hk
  have hr := fun w' => quotas.refRight_no q.a q.b q.c q.d q.e q.f q.h w' hk
  obtain ⟨kq, b0, z0⟩ := boxesQ q w
  go_enter Try.func12, Try.ntmps12
  go_wp2_with fail
  generalize (w.alloc (.cells #[.int .i64 q.a, .int .i64 q.b, .int .i64 q.c, .int .i64 q.d, .int .i64 q.e, .int .i64 q.f, .int .i64 q.h] 23)) = W at *
  refine (hm _).mono ?_
  rintro e1 w1 ⟨rfl, hb1⟩
  have b1 := b0.trans (hb1.mono b0.size)
  have kq1 := kq.below hb1 kq.lt
  obtain ⟨c0, c1, c2, c3, c4, c5, c6⟩ := qcells kq1
  go_wp2_with fail
  refine (hr _).mono ?_
  rintro e2 w2 ⟨rfl, hb2⟩
  have b2 := b1.trans (hb2.mono b1.size)
  go_wp2_with fail
  go_ret
  exact ⟨rfl, b2⟩

set_option maxRecDepth 100000 in
set_option maxHeartbeats 4000000 in
theorem names_ok (q : Qt) (bs : List BL) (A : Option Addr) (c : Nat) (ps : List ByteArray) (A2 : Option Addr) (c2 : Nat) (w : World) (hk : q.ok) (hB : Bs w w.heap.size bs A c) (hT : Ts w w.heap.size ps A2 c2) :
    Calls Try.prog 12 #[.agg #[.int .i64 q.a, .int .i64 q.b, .int .i64 q.c, .int .i64 q.d, .int .i64 q.e, .int .i64 q.f, .int .i64 q.h], .slice A bs.length c, .slice A2 ps.length c2] w fun e w' => e = .returned (.bool true) ∧ Below w.heap.size w w' := by
  have hm := fun w' (h : Bs w' w'.heap.size bs A c) => made_ok q bs A c w' hk h
  have hI := made_inv hk bs
  generalize madeP q bs = b at hm hI
  obtain ⟨L, P⟩ := b
  have hLl := hI.inv.le hk
  have hr := fun w' => quotas.refRight_ok q.a q.b q.c q.d q.e q.f q.h w' hk
  have hpl : ps.length ≤ 140737488355328 := by have := hT.2.1; omega
  simp only [] at hLl
  obtain ⟨kq, b0, z0⟩ := boxesQ q w
  go_enter Try.func12, Try.ntmps12
  go_wp2_with fail
  generalize (w.alloc (.cells #[.int .i64 q.a, .int .i64 q.b, .int .i64 q.c, .int .i64 q.d, .int .i64 q.e, .int .i64 q.f, .int .i64 q.h] 23)) = W at *
  refine (hm _ (hB.at_world b0)).mono ?_
  rintro e1 w1 ⟨bp, mp, rfl, M1⟩
  have kq1 := kq.below M1.1 kq.lt
  obtain ⟨c0, c1, c2, c3, c4, c5, c6⟩ := qcells kq1
  clear hm
  go_wp2_with fail
  refine (hr _).mono ?_
  rintro e2 w2 ⟨rfl, hb2⟩
  have M2 := M1.below hb2
  clear hr M1 hb2 c0 c1 c2 c3 c4 c5 c6 kq1
  go_wp2_with fail
  refine (MdHead.all M2 hk hI).mono ?_
  rintro e3 w3 ⟨hb3, v3, le3, rfl, hle3, hO3⟩
  simp only [] at hle3
  have M3 := M2.below hb3
  have hll : le3.length = L.length := by rw [← hle3, List.length_map]
  have HLL := vers.lay hll
  clear hll
  obtain ⟨A3, c3', rfl, E3⟩ := hO3.es
  have hn := MdHead.names M3 hk hI (Ts.nil _ _)
  rw [names_all] at hn
  simp only [List.length_nil] at hn
  clear M2
  go_wp2_with fail
  refine hn.mono ?_
  rintro e4 w4 ⟨v4, rfl, hb4, hT4⟩
  have hnl : ((nmB L).map bn).length = le3.length := by rw [HLL.out]; simp
  have M4 := M3.below hb4
  have hn2 := MdHead.names M4 hk hI (hT.at_world (b0.trans (M4.1.mono b0.size)))
  simp only [] at hn2
  clear hn
  go_wp2_with fail
  refine hn2.mono ?_
  rintro e5 w5 ⟨v5, rfl, hb5, hT5⟩
  have hT45 := hT4.below hb5
  have hE5 := (E3.agree (w' := w5) (fun g hg => (hb5.block g (by have := hb4.size; omega)).trans (hb4.block g hg.2))).es
  obtain ⟨A4, c4', rfl, hl4, hc4⟩ := txt_at hT45
  obtain ⟨A5, c5', rfl, hl5, hc5⟩ := txt_at hT5
  have hnl2 : (namesP L ps).length = ((nmB L).filter (fitP ps)).length := by unfold namesP; rw [List.length_map]
  have hsl := names_le L ps
  have bw5 := b0.trans ((M4.below hb5).1.mono b0.size)
  have hTw := hT.at_world bw5
  rw [hnl]
  have hd1 := ne_no (rfl : (le3.length : Int) = le3.length)
  have hl64 : le3.length ≤ 64 := by rw [HLL.out]; exact hLl
  clear hn2 M3 M4 hT4 hT45 hT5 hO3 E3 hb3 hb4 hb5
  obtain ⟨ns, hS0⟩ : ∃ ns, (namesP L ps).length = ns := ⟨_, rfl⟩
  rw [hS0]
  have hns64 : ns ≤ 64 := by omega
  have HS := vers.lay hS0
  clear hS0
  go_wp2_with fail
  go_loopw [41, 11] (fun i u wr => ∃ j : Nat, j ≤ le3.length ∧ i = .int .i64 (j : Int) ∧ u = .int .i64 (fitN (nmB L) ps j : Int) ∧ Below w5.heap.size w5 wr) (fun i _ _ => le3.length - (intOf i).toNat)
  case atStart => exact ⟨0, Nat.zero_le _, rfl, rfl, Below.refl _ _⟩
  case round =>
    obtain ⟨j, hj, rfl, rfl, hb⟩ := hrel
    by_cases hlt : j < le3.length
    · have hjL : j < (nmB L).length := by rw [List.length_map, ← HLL.out]; exact hlt
      obtain ⟨bk, off, rfl, hbk, x0, x1, _⟩ := (hE5.at_world hb).at_ hlt
      obtain ⟨g4, rfl, hlo4, hgl4, y4⟩ := hc4 j (by rw [hnl]; exact hlt)
      have hnj : (nmB L)[j] = le3[j].s := by
        have : nmB L = le3.map (·.s) := by rw [← hle3]; simp [pe]
        simp [this]
      have y4 : w5.cell? ⟨g4, j, none⟩ = some (.string le3[j].s) := by
        rw [y4]; simp only [List.getElem_map, hnj, encStr, bn]
      have y4r := (hb.cell (p := ⟨g4, j, none⟩) hgl4).trans y4
      have hfn := vers.lay (fitN_next (ps := ps) hjL)
      have hfa := vers.lay (fun h => fitN_at (ps := ps) hjL h)
      rw [hnj] at hfn
      have hfa2 : Hid (fitP ps le3[j].s = true → fitN (nmB L) ps j < ns ∧ ∃ g5, A5 = some ⟨g5, 0, none⟩ ∧ g5 < w5.heap.size ∧ w5.cell? ⟨g5, fitN (nmB L) ps j, none⟩ = some (.string le3[j].s)) := vers.lay fun h => by
        obtain ⟨h1, h2⟩ := hfa.out (by rw [hnj]; exact h)
        have h3 : fitN (nmB L) ps j < (namesP L ps).length := by rw [hnl2]; exact h1
        obtain ⟨g5, e5, _, hg5, hc⟩ := hc5 _ h3
        refine ⟨by rw [← HS.out]; exact h3, g5, e5, hg5, ?_⟩
        rw [hc]
        have : (namesP L ps)[fitN (nmB L) ps j] = bn le3[j].s := by
          simp only [namesP, List.getElem_map]
          rw [h2, hnj]
        rw [this]
      have hfn64 : fitN (nmB L) ps j ≤ 64 := by
        unfold fitN
        refine Nat.le_trans (List.length_filter_le _ _) ?_
        rw [List.length_take]
        omega
      clear hfa hnj
      generalize fitN (nmB L) ps j = n at *
      generalize le3[j] = x at x0 x1 y4r hfn hfa2 y4
      obtain ⟨xs, xl, xA, xc⟩ := x
      simp only [] at x0 x1 y4r hfn hfa2 y4
      have bX : Below wr.heap.size wr (wr.alloc (.cells #[.string xs, .slice xA xl.length xc] 45)) := (Below.refl _ _).alloc (Nat.le_refl _) _
      have kX := Blk.new wr 45 #[.string xs, .slice xA xl.length xc]
      have bX5 := hb.trans (bX.mono hb.size)
      have zX := bX.size
      clear y4
      by_cases hp0 : ps.length = 0
      · have d0 : ((ps.length : Int) == 0) = true := by simp [hp0]
        have HP := vers.lay hp0
        clear hp0
        generalize hWX : wr.alloc (.cells #[.string xs, .slice xA xl.length xc] 45) = WX at *
        have lX := kX.lt
        go_wp2_with fail
        go_loopw [51, 14] (fun i u wq => ∃ k : Nat, k ≤ ps.length ∧ i = .int .i64 (k : Int) ∧ u = .bool (fitK ps xs k) ∧ Below WX.heap.size WX wq) (fun i _ _ => ps.length - (intOf i).toNat)
        case atStart => exact ⟨0, Nat.zero_le _, rfl, by unfold fitK; simp [HP.out], Below.refl _ _⟩
        case round =>
          obtain ⟨k, hkl, rfl, rfl, hbq⟩ := hrel
          have bq5 := bX5.trans (hbq.mono bX5.size)
          have kq2 := kX.below hbq lX
          have xq0 := kq2.cell 0
          simp only [List.getElem?_toArray, List.getElem?_cons_zero, List.getElem?_cons_succ] at xq0
          by_cases hlt2 : k < ps.length
          · obtain ⟨bk2, off2, rfl, hbk2, z0'⟩ := (hTw.at_world bq5).at_ hlt2
            have hfk := vers.lay (fitK_next (s := xs) hlt2)
            have hpe := hasP_eq xs ps[k]
            have hps := hT.2.2.2.2 _ (List.getElem_mem hlt2)
            generalize ps[k] = t at z0' hfk hpe hps
            cases hf : fitK ps xs k with
            | true =>
              rw [hf] at hfk
              clear hf hpe
              go_wp2_with fail
              exact ⟨⟨k + 1, hlt2, by go_num, by rw [hfk.out]; rfl, hbq⟩, by simp [intOf]; omega⟩
            | false =>
              rw [hf, Bool.false_or] at hfk
              clear hf
              by_cases hle : (t.size : Int) ≤ (xs.size : Int)
              · have d7 : decide ((t.size : Int) ≤ (xs.size : Int)) = true := decide_eq_true hle
                rw [d7, Bool.true_and] at hpe
                have hle2 : t.size ≤ xs.size := by omega
                have HPE := vers.lay hpe
                clear hpe
                cases hq2 : ((xs.extract 0 t.size).toList == t.toList) with
                | true =>
                  have hfk2 := vers.lay (hfk.out.trans (HPE.out.trans hq2))
                  clear hfk HPE
                  go_wp2_with fail
                  exact ⟨⟨k + 1, hlt2, by go_num, by rw [hfk2.out], hbq⟩, by simp [intOf]; omega⟩
                | false =>
                  have hfk2 := vers.lay (hfk.out.trans (HPE.out.trans hq2))
                  clear hfk HPE
                  go_wp2_with fail
                  exact ⟨⟨k + 1, hlt2, by go_num, by rw [hfk2.out], hbq⟩, by simp [intOf]; omega⟩
              · have d7 : decide ((t.size : Int) ≤ (xs.size : Int)) = false := decide_eq_false hle
                rw [d7, Bool.false_and] at hpe
                have hfk2 := vers.lay (hfk.out.trans hpe)
                clear hfk hpe
                go_wp2_with fail
                all_goals first | (exfalso; omega) | exact ⟨⟨k + 1, hlt2, by go_num, by rw [hfk2.out], hbq⟩, by simp [intOf]; omega⟩
          · obtain rfl : k = ps.length := by omega
            rw [fitK_all]
            have yq := (hbq.cell (p := ⟨g4, j, none⟩) (by show g4 < _; have := hb.size; omega)).trans ((bX.cell (p := ⟨g4, j, none⟩) (by show g4 < _; have := hb.size; omega)).trans y4r)
            cases hf : fitP ps xs with
            | true =>
              obtain ⟨hn1, g5, rfl, hg5, hc⟩ := hfa2.out hf
              have hcq := (bq5.cell (p := ⟨g5, n, none⟩) hg5).trans hc
              have dn : decide ((ns : Int) ≤ (n : Int)) = false := decide_eq_false (by omega)
              have hfn2 : Hid (fitN (nmB L) ps (j + 1) = n + 1) := vers.lay (by rw [hfn.out, hf]; rfl)
              clear hfn hfa2 hf
              go_wp2_with fail
              go_quiet (fail)
              go_wp2_with fail
              exact ⟨⟨j + 1, hlt, by go_num, by rw [hfn2.out]; go_num, ⟨bq5.os, bq5.tape, bq5.output, bq5.size, bq5.block⟩⟩, by simp [intOf]; omega⟩
            | false =>
              have hfn2 : Hid (fitN (nmB L) ps (j + 1) = n) := vers.lay (by rw [hfn.out, hf]; rfl)
              clear hfn hfa2 hf
              go_wp2_with fail
              go_quiet (fail)
              go_wp2_with fail
              exact ⟨⟨j + 1, hlt, by go_num, by rw [hfn2.out], ⟨bq5.os, bq5.tape, bq5.output, bq5.size, bq5.block⟩⟩, by simp [intOf]; omega⟩
      · have d0 : ((ps.length : Int) == 0) = false := by simpa using hp0
        have HP := vers.lay hp0
        clear hp0
        generalize hWX : wr.alloc (.cells #[.string xs, .slice xA xl.length xc] 45) = WX at *
        have lX := kX.lt
        go_wp2_with fail
        go_loopw [51, 14] (fun i u wq => ∃ k : Nat, k ≤ ps.length ∧ i = .int .i64 (k : Int) ∧ u = .bool (fitK ps xs k) ∧ Below WX.heap.size WX wq) (fun i _ _ => ps.length - (intOf i).toNat)
        case atStart => exact ⟨0, Nat.zero_le _, rfl, by unfold fitK; simp [HP.out], Below.refl _ _⟩
        case round =>
          obtain ⟨k, hkl, rfl, rfl, hbq⟩ := hrel
          have bq5 := bX5.trans (hbq.mono bX5.size)
          have kq2 := kX.below hbq lX
          have xq0 := kq2.cell 0
          simp only [List.getElem?_toArray, List.getElem?_cons_zero, List.getElem?_cons_succ] at xq0
          by_cases hlt2 : k < ps.length
          · obtain ⟨bk2, off2, rfl, hbk2, z0'⟩ := (hTw.at_world bq5).at_ hlt2
            have hfk := vers.lay (fitK_next (s := xs) hlt2)
            have hpe := hasP_eq xs ps[k]
            have hps := hT.2.2.2.2 _ (List.getElem_mem hlt2)
            generalize ps[k] = t at z0' hfk hpe hps
            cases hf : fitK ps xs k with
            | true =>
              rw [hf] at hfk
              clear hf hpe
              go_wp2_with fail
              exact ⟨⟨k + 1, hlt2, by go_num, by rw [hfk.out]; rfl, hbq⟩, by simp [intOf]; omega⟩
            | false =>
              rw [hf, Bool.false_or] at hfk
              clear hf
              by_cases hle : (t.size : Int) ≤ (xs.size : Int)
              · have d7 : decide ((t.size : Int) ≤ (xs.size : Int)) = true := decide_eq_true hle
                rw [d7, Bool.true_and] at hpe
                have hle2 : t.size ≤ xs.size := by omega
                have HPE := vers.lay hpe
                clear hpe
                cases hq2 : ((xs.extract 0 t.size).toList == t.toList) with
                | true =>
                  have hfk2 := vers.lay (hfk.out.trans (HPE.out.trans hq2))
                  clear hfk HPE
                  go_wp2_with fail
                  exact ⟨⟨k + 1, hlt2, by go_num, by rw [hfk2.out], hbq⟩, by simp [intOf]; omega⟩
                | false =>
                  have hfk2 := vers.lay (hfk.out.trans (HPE.out.trans hq2))
                  clear hfk HPE
                  go_wp2_with fail
                  exact ⟨⟨k + 1, hlt2, by go_num, by rw [hfk2.out], hbq⟩, by simp [intOf]; omega⟩
              · have d7 : decide ((t.size : Int) ≤ (xs.size : Int)) = false := decide_eq_false hle
                rw [d7, Bool.false_and] at hpe
                have hfk2 := vers.lay (hfk.out.trans hpe)
                clear hfk hpe
                go_wp2_with fail
                all_goals first | (exfalso; omega) | exact ⟨⟨k + 1, hlt2, by go_num, by rw [hfk2.out], hbq⟩, by simp [intOf]; omega⟩
          · obtain rfl : k = ps.length := by omega
            rw [fitK_all]
            have yq := (hbq.cell (p := ⟨g4, j, none⟩) (by show g4 < _; have := hb.size; omega)).trans ((bX.cell (p := ⟨g4, j, none⟩) (by show g4 < _; have := hb.size; omega)).trans y4r)
            cases hf : fitP ps xs with
            | true =>
              obtain ⟨hn1, g5, rfl, hg5, hc⟩ := hfa2.out hf
              have hcq := (bq5.cell (p := ⟨g5, n, none⟩) hg5).trans hc
              have dn : decide ((ns : Int) ≤ (n : Int)) = false := decide_eq_false (by omega)
              have hfn2 : Hid (fitN (nmB L) ps (j + 1) = n + 1) := vers.lay (by rw [hfn.out, hf]; rfl)
              clear hfn hfa2 hf
              go_wp2_with fail
              go_quiet (fail)
              go_wp2_with fail
              exact ⟨⟨j + 1, hlt, by go_num, by rw [hfn2.out]; go_num, ⟨bq5.os, bq5.tape, bq5.output, bq5.size, bq5.block⟩⟩, by simp [intOf]; omega⟩
            | false =>
              have hfn2 : Hid (fitN (nmB L) ps (j + 1) = n) := vers.lay (by rw [hfn.out, hf]; rfl)
              clear hfn hfa2 hf
              go_wp2_with fail
              go_quiet (fail)
              go_wp2_with fail
              exact ⟨⟨j + 1, hlt, by go_num, by rw [hfn2.out], ⟨bq5.os, bq5.tape, bq5.output, bq5.size, bq5.block⟩⟩, by simp [intOf]; omega⟩
    · obtain rfl : j = le3.length := by omega
      have hall : fitN (nmB L) ps le3.length = ns := by
        have e : le3.length = (nmB L).length := by rw [HLL.out]; simp
        rw [e, fitN_all, ← HS.out, hnl2]
      rw [hall]
      have d9 := eq_yes (rfl : (ns : Int) = ns)
      go_wp2_with fail
      go_ret
      exact ⟨rfl, bw5.trans (hb.mono bw5.size)⟩

theorem law_names (q : Qt) (bs : List BL) (A : Option Addr) (c : Nat) (ps : List ByteArray) (A2 : Option Addr) (c2 : Nat) (w : World) (hB : Bs w w.heap.size bs A c) (hT : Ts w w.heap.size ps A2 c2) :
    Calls Try.prog 12 #[.agg #[.int .i64 q.a, .int .i64 q.b, .int .i64 q.c, .int .i64 q.d, .int .i64 q.e, .int .i64 q.f, .int .i64 q.h], .slice A bs.length c, .slice A2 ps.length c2] w fun e w' => e = .returned (.bool true) ∧ Below w.heap.size w w' := by
  by_cases hk : q.ok
  · exact names_ok q bs A c ps A2 c2 w hk hB hT
  · exact names_no q bs A c ps A2 c2 w hk

end Go.Proofs.Ytnhfpbllgjhcdaa.books
