/- The walk of BookQuota. -/
import Derived.Test.YtnhfpbllgjhcdaaBkV


namespace Go.Proofs.Ytnhfpbllgjhcdaa.books
set_option linter.unusedVariables false
set_option linter.unusedSimpArgs false
open Go.RowKit Go.Shelf Go.Proofs.Ytnhfpbllgjhcdaa.base Go.Proofs.Ytnhfpbllgjhcdaa.quotas Go.Proofs.Ytnhfpbllgjhcdaa.vers Go.Proofs.Ytnhfpbllgjhcdaa.nodes Go.Proofs.Ytnhfpbllgjhcdaa.trees Go.Proofs.Ytnhfpbllgjhcdaa.texts

theorem new_bad {q : Qt} (hk : q.ok) {L : List PB} (hI : Inv q L) {o : O} (h0 : rightO q o = 0) (h3 : o.k ≠ 3) : (newP q L o).bad = 0 ∨ (newP q L o).bad = 2 := by
  unfold rightO at h0
  by_cases g1 : o.k ≠ 1 ∧ o.k ≠ 2 ∧ o.k ≠ 3
  · rw [if_pos g1] at h0; cases h0
  rw [if_neg g1] at h0
  by_cases g2 : o.s.size = 0
  · rw [if_pos g2] at h0; cases h0
  rw [if_neg g2] at h0
  by_cases g3 : q.b < (o.s.size : Int)
  · rw [if_pos g3] at h0; cases h0
  rw [if_neg g3] at h0
  by_cases g4 : o.k ≠ 3 ∧ (q.c < (o.v.size : Int) ∨ q.d < (o.t.size : Int))
  · rw [if_pos g4] at h0; cases h0
  have g5 : ¬ (q.c < (o.v.size : Int) ∨ q.d < (o.t.size : Int)) := fun h => g4 ⟨h3, h⟩
  have hz : nbad q.a q.b q.c q.d q.e q.f q.h o.s ((lk L o.s).getD []) = 0 := by
    cases hl : lk L o.s with
    | some l => exact (hI.fine _ (lk_some hl)).1
    | none =>
      rw [nbad_yes hk, if_neg g2, if_neg g3, if_neg (by have := hk.2.2.2.2.1.1; simp; omega)]
      rfl
  unfold newP addP
  rw [if_neg (fun h => h hz), if_neg g5]
  split
  · exact .inr rfl
  · exact .inl rfl
theorem oneP_val3 {q : Qt} {L : List PB} {o : O} (h0 : rightO q o = 0) (h3 : o.k = 3) : (oneP q L o).2 = if (lk L o.s).isSome then 0 else 3 := by
  rw [oneP_eq, if_neg (fun h => h h0), if_pos h3]
  unfold takeP
  cases lk L o.s <;> rfl
theorem oneP_full {q : Qt} {L : List PB} {o : O} (h0 : rightO q o = 0) (h3 : o.k ≠ 3) (hl : lk L o.s = none) (ha : (L.length : Int) = q.a) : (oneP q L o).2 = 6 := by
  rw [oneP_eq, if_neg (fun h => h h0), if_neg h3]
  unfold renewP
  rw [if_pos ⟨hl, ha⟩]
theorem oneP_put {q : Qt} (hk : q.ok) {L : List PB} (hI : Inv q L) {o : O} (h0 : rightO q o = 0) (h3 : o.k ≠ 3) (hl : ¬ (lk L o.s = none ∧ (L.length : Int) = q.a)) : (oneP q L o).2 = 0 ∨ (oneP q L o).2 = 2 := by
  have hb := new_bad hk hI h0 h3
  rw [oneP_eq, if_neg (fun h => h h0), if_neg h3]
  unfold renewP
  rw [if_neg hl]
  split
  · exact hb
  · exact .inl rfl
theorem oneP_right {q : Qt} {L : List PB} {o : O} {n : Int} (h0 : rightO q o = n) (hn : n ≠ 0) : (oneP q L o).2 = n := by
  rw [oneP_eq, if_pos (by rw [h0]; exact hn), h0]
theorem sle_no {x y : ByteArray} (h : bn y < bn x) : (Op.bytesLess x.toList y.toList || x.toList == y.toList) = false := by
  rw [Go.Proofs.bytesLess_eq, Lib.toList_data, Lib.toList_data]
  have h1 : ¬ x.data.toList < y.data.toList := fun h2 => bn_irrefl _ (List.lt_trans h h2)
  have h2 : (x.data.toList == y.data.toList) = false := by
    rw [beq_eq_false_iff_ne]
    intro e
    rw [show bn y = bn x from e.symm] at h
    exact bn_irrefl _ h
  rw [decide_eq_false h1, h2]; rfl

theorem boxesQO (q : Qt) (o : O) (w : World) : Blk ((w.alloc (.cells #[.int .i64 q.a, .int .i64 q.b, .int .i64 q.c, .int .i64 q.d, .int .i64 q.e, .int .i64 q.f, .int .i64 q.h] 23)).alloc (.cells (oc o) 62)) w.heap.size 23 #[.int .i64 q.a, .int .i64 q.b, .int .i64 q.c, .int .i64 q.d, .int .i64 q.e, .int .i64 q.f, .int .i64 q.h] ∧ Blk ((w.alloc (.cells #[.int .i64 q.a, .int .i64 q.b, .int .i64 q.c, .int .i64 q.d, .int .i64 q.e, .int .i64 q.f, .int .i64 q.h] 23)).alloc (.cells (oc o) 62)) (w.heap.size + 1) 62 (oc o) ∧ Below w.heap.size w ((w.alloc (.cells #[.int .i64 q.a, .int .i64 q.b, .int .i64 q.c, .int .i64 q.d, .int .i64 q.e, .int .i64 q.f, .int .i64 q.h] 23)).alloc (.cells (oc o) 62)) ∧ ((w.alloc (.cells #[.int .i64 q.a, .int .i64 q.b, .int .i64 q.c, .int .i64 q.d, .int .i64 q.e, .int .i64 q.f, .int .i64 q.h] 23)).alloc (.cells (oc o) 62)).heap.size = w.heap.size + 2 := by
  have k1 := Blk.new (w.alloc (.cells #[.int .i64 q.a, .int .i64 q.b, .int .i64 q.c, .int .i64 q.d, .int .i64 q.e, .int .i64 q.f, .int .i64 q.h] 23)) 62 (oc o)
  simp only [World.size_alloc] at k1
  exact ⟨((Blk.new w _ _).alloc _), k1, (((Below.refl _ _).alloc (by simp <;> omega) _).alloc (by simp <;> omega) _), by simp⟩

set_option maxRecDepth 100000 in
set_option maxHeartbeats 4000000 in
theorem quota_no (q : Qt) (bs : List BL) (A : Option Addr) (c : Nat) (o : O) (w : World) (hk : ¬ q.ok) :
    Calls Try.prog 5 #[.agg #[.int .i64 q.a, .int .i64 q.b, .int .i64 q.c, .int .i64 q.d, .int .i64 q.e, .int .i64 q.f, .int .i64 q.h], .slice A bs.length c, .agg #[.int .i64 o.k, .string o.s, .string o.v, .string o.t]] w fun e w' => e = .returned (.bool true) ∧ Below w.heap.size w w' := by
  have hm := fun w' => made_no q bs A c w' hk
  have hr := fun w' => quotas.refRight_no q.a q.b q.c q.d q.e q.f q.h w' hk
  obtain ⟨kq, ko, b0, z0⟩ := boxesQO q o w
  go_enter Try.func5, Try.ntmps5
  go_wp2_with fail
  generalize ((w.alloc (.cells #[.int .i64 q.a, .int .i64 q.b, .int .i64 q.c, .int .i64 q.d, .int .i64 q.e, .int .i64 q.f, .int .i64 q.h] 23)).alloc (.cells (oc o) 62)) = W at *
  refine (hm _).mono ?_
  rintro e1 w1 ⟨rfl, hb1⟩
  have b1 := b0.trans (hb1.mono b0.size)
  have kq1 := kq.below hb1 kq.lt
  obtain ⟨c0, c1, c2, c3, c4, c5, c6⟩ := qcells kq1
  go_wp2_with fail
  refine (hr _).mono ?_
  rintro e2 w2 ⟨rfl, hb2⟩
  have b2 := b1.trans (hb2.mono b1.size)
  go_wp2_with fail
  go_ret
  exact ⟨rfl, b2⟩
/-- where the loop stands -/
def QtHead (W : World) (q : Qt) (bp mp : Nat) (B : Nat) (b : Bk) (le : List E) (v u i : Value) (wr : World) : Prop :=
  ∃ (j : Nat) (last : ByteArray), j ≤ le.length ∧ i = .int .i64 (j : Int) ∧ u = .string last ∧ MdHead W q bp mp b wr ∧ OwnEF wr (fun g => B ≤ g ∧ g < wr.heap.size) le v ∧ Hid (∀ k (h : k < le.length), j ≤ k → bn last < bn le[k].s)

set_option maxRecDepth 100000 in
set_option maxHeartbeats 4000000 in
theorem quota_ok (q : Qt) (bs : List BL) (A : Option Addr) (c : Nat) (o : O) (w : World) (hk : q.ok) (hB : Bs w w.heap.size bs A c) (ho : o.fits) :
    Calls Try.prog 5 #[.agg #[.int .i64 q.a, .int .i64 q.b, .int .i64 q.c, .int .i64 q.d, .int .i64 q.e, .int .i64 q.f, .int .i64 q.h], .slice A bs.length c, .agg #[.int .i64 o.k, .string o.s, .string o.v, .string o.t]] w fun e w' => e = .returned (.bool true) ∧ Below w.heap.size w w' := by
  have hm := fun w' (h : Bs w' w'.heap.size bs A c) => made_ok q bs A c w' hk h
  have hI := made_inv hk bs
  generalize madeP q bs = b at hm hI
  obtain ⟨L, P⟩ := b
  have hI1 := hI.inv
  simp only [] at hI1
  have hLl := hI1.le hk
  have hLa := hI1.len
  have hR := fun n (h : rightO q o = n) (h0 : n ≠ 0) => oneP_right (L := L) h h0
  have hput := fun h0 h3 hl => oneP_put hk hI1 (o := o) h0 h3 hl
  have hfull := fun h0 h3 hl ha => oneP_full (q := q) (L := L) (o := o) h0 h3 hl ha
  have hdel := fun h0 h3 => oneP_val3 (q := q) (L := L) (o := o) h0 h3
  have hbo := behind_one hk L o
  have hj := fun (W : World) (bp mp : Nat) (wr : World) (h : MdHead W q bp mp ⟨L, P⟩ wr) => h.judge_one hk hI o ho
  simp only [] at hj
  rw [hbo] at hj
  have hEe : (if (oneP q L o).2 ≠ 0 then (L, (oneP q L o).2, (0 : Int)) else ((oneP q L o).1, 0, 0)).2.1 = (oneP q L o).2 := by
    by_cases h : (oneP q L o).2 = 0
    · rw [if_neg (fun h2 => h2 h)]; exact h.symm
    · rw [if_pos h]
  rw [hEe] at hj
  generalize (if (oneP q L o).2 ≠ 0 then (L, (oneP q L o).2, (0 : Int)) else ((oneP q L o).1, 0, 0)).2.2 = E2 at hj
  clear hbo hEe
  generalize (oneP q L o).2 = E at hj hR hput hfull hdel
  have hr := fun w' => quotas.refRight_ok q.a q.b q.c q.d q.e q.f q.h w' hk
  obtain ⟨kq, ko, b0, z0⟩ := boxesQO q o w
  go_enter Try.func5, Try.ntmps5
  go_wp2_with fail
  generalize ((w.alloc (.cells #[.int .i64 q.a, .int .i64 q.b, .int .i64 q.c, .int .i64 q.d, .int .i64 q.e, .int .i64 q.f, .int .i64 q.h] 23)).alloc (.cells (oc o) 62)) = W at *
  refine (hm _ (hB.at_world b0)).mono ?_
  rintro e1 w1 ⟨bp, mp, rfl, M1⟩
  have kq1 := kq.below M1.1 kq.lt
  obtain ⟨c0, c1, c2, c3, c4, c5, c6⟩ := qcells kq1
  clear hm
  go_wp2_with fail
  refine (hr _).mono ?_
  rintro e2 w2 ⟨rfl, hb2⟩
  have M2 := M1.below hb2
  clear hr M1 hb2
  go_wp2_with fail
  refine (MdHead.all M2 hk hI).mono ?_
  rintro e3 w3 ⟨hb3, v3, le3, rfl, hle3, hO3⟩
  simp only [] at hle3
  have M3 := M2.below hb3
  have kq3 := kq.below M3.1 kq.lt
  obtain ⟨c0, c1, c2, c3, c4, c5, c6⟩ := qcells kq3
  have hll : le3.length = L.length := by rw [← hle3, List.length_map]
  obtain ⟨A3, c3', rfl, _⟩ := hO3.es
  have hn := MdHead.names M3 hk hI (Ts.nil _ _)
  rw [names_all] at hn
  simp only [List.length_nil] at hn
  have hd0 : decide (q.a < (le3.length : Int)) = false := decide_eq_false (by rw [hll]; omega)
  have hl64 : le3.length ≤ 64 := by omega
  have HLL := vers.lay hll
  clear M2 hll
  go_wp2_with fail
  refine hn.mono ?_
  rintro e4 w4 ⟨v4, rfl, hb4, hT4⟩
  obtain ⟨A4, c4', rfl, _, _⟩ := txt_at hT4
  have hnl : ((nmB L).map bn).length = le3.length := by rw [HLL.out]; simp
  rw [hnl]
  have M4 := M3.below hb4
  have hO4 := ownEF_below hO3 hb4
  have hd1 := ne_no (rfl : (le3.length : Int) = le3.length)
  clear hn M3 hT4 c0 c1 c2 c3 c4 c5 c6 kq3
  have hup : (le3.map pe).Pairwise fun x y => bn x.1 < bn y.1 := by rw [hle3]; exact hI1.up
  have hfine : ∀ x ∈ le3, books.fine q (pe x) := fun x hx => hI1.fine _ (by rw [← hle3]; exact List.mem_map.2 ⟨x, hx, rfl⟩)
  go_wp2_with fail
  go_loopw [45, 9] (fun i u wr => QtHead W q bp mp w2.heap.size ⟨L, P⟩ le3 (.slice A3 le3.length c3') u i wr) (fun i _ _ => le3.length - (intOf i).toNat)
  case atStart =>
    refine ⟨0, ⟨#[]⟩, Nat.zero_le _, rfl, rfl, M4, hO4, vers.lay fun k h _ => ?_⟩
    have := (name_ok (hfine _ (List.getElem_mem h)) hk).1
    show ([] : List UInt8) < bn le3[k].s
    cases hb : bn le3[k].s with
    | nil =>
      have h0 : (pe le3[k]).1.size = 0 := by
        have := congrArg List.length hb
        simpa [pe] using this
      exact absurd h0 this
    | cons x r => simp
  case round =>
    clear M4 hO4
    obtain ⟨j, last, hj2, rfl, rfl, hM, hO, hH⟩ := hrel
    have bwr := b0.trans (hM.1.mono b0.size)
    by_cases hlt : j < le3.length
    · obtain ⟨A9, c9, e9, E9⟩ := hO.es
      injection e9 with e91 _ e92
      subst e91 e92
      obtain ⟨bk, off, e5, hbk, x0, x1, hVj⟩ := E9.es.at_ hlt
      subst e5
      have hfj := hfine _ (List.getElem_mem hlt)
      have hlast := hH.out j hlt (Nat.le_refl _)
      have hH2 := vers.lay (show ∀ k (h : k < le3.length), j + 1 ≤ k → bn le3[j].s < bn le3[k].s from fun k h hjk => by
        have := List.pairwise_iff_getElem.1 hup j k (by simpa using hlt) (by simpa using h) (by omega)
        simpa [pe] using this)
      clear hH
      generalize le3[j] = x at x0 x1 hVj hfj hlast hH2
      obtain ⟨xs, xl, xA, xc⟩ := x
      simp only [pe] at x0 x1 hVj hfj hlast hH2
      have hsl := sle_no hlast
      have kqr := kq.below hM.1 kq.lt
      have hqlt := kqr.lt
      obtain ⟨c0, c1, c2, c3, c4, c5, c6⟩ := qcells kqr
      have bX : Below wr.heap.size wr (wr.alloc (.cells #[.string xs, .slice xA xl.length xc] 45)) := (Below.refl _ _).alloc (Nat.le_refl _) _
      have hri := vers.right_any q.a q.b q.c q.d q.e q.f q.h xs xl xA xc _ (hVj.at_world bX)
      have hrb : rb (nbad q.a q.b q.c q.d q.e q.f q.h xs xl) xl = 0 := by
        unfold rb
        rw [hfj.1, if_neg (fun h => hfj.2 (List.eq_nil_of_length_eq_zero h.2))]
      rw [hrb] at hri
      have kX := (Blk.new wr 45 #[.string xs, .slice xA xl.length xc])
      have MX := hM.below bX
      have OX := ownEF_below hO bX
      clear hrb hlast hfj
      go_wp2_with fail
      refine hri.mono ?_
      rintro e6 w6 ⟨rfl, hb6⟩
      have M6 := MX.below hb6
      have O6 := ownEF_below OX hb6
      have k6 := kX.below hb6 kX.lt
      have y0 := k6.cell 0
      simp only [List.getElem?_toArray, List.getElem?_cons_zero, List.getElem?_cons_succ] at y0
      clear hri kX MX OX
      go_wp2_with fail
      exact ⟨⟨j + 1, xs, hlt, by go_num, rfl, M6, O6, hH2⟩, by simp [intOf]; omega⟩
    · obtain rfl : j = le3.length := by omega
      have hjo := hj _ _ _ _ hM
      have kor := ko.below hM.1 ko.lt
      obtain ⟨o0, o1, o2, o3⟩ := ocells kor
      clear hH hj
      go_wp2_with fail
      refine hjo.mono ?_
      rintro e6 w6 ⟨rfl, hb6⟩
      have M6 := hM.below hb6
      have ko6 := ko.below M6.1 ko.lt
      obtain ⟨p0, p1, p2, p3⟩ := ocells ko6
      have hg := MdHead.get M6 (s := o.s) ho.2.1
      simp only [] at hg
      clear hjo o0 o1 o2 o3 kor hb6
      go_wp2_with fail
      refine hg.mono ?_
      rintro e7 w7 ⟨hb7, A7, c7, rfl, hX7⟩
      have M7 := M6.below hb7
      have ko7 := ko.below M7.1 ko.lt
      have kq7 := kq.below M7.1 kq.lt
      obtain ⟨o0, o1, o2, o3⟩ := ocells ko7
      obtain ⟨c0, c1, c2, c3, c4, c5, c6⟩ := qcells kq7
      have bwf := (b0.trans (M7.1.mono b0.size)).alloc (by have := b0.size; have := M7.1.size; omega) (.cells #[.string (getP L o.s).1, .slice A7 (getP L o.s).2.1.length c7] 45)
      have lo7 := ko7.lt
      have lq7 := kq7.lt
      have hgp : (getP L o.s).2.2 = (lk L o.s).isSome := by unfold getP; cases lk L o.s <;> rfl
      have fin7 : ∀ (u : Value), Below w.heap.size w (w7.alloc (.cells #[.string (getP L o.s).1, .slice A7 (getP L o.s).2.1.length c7] 45)) := fun _ => bwf
      generalize getP L o.s = gp at hgp bwf ⊢
      obtain ⟨g1', g2', gis⟩ := gp
      simp only [] at hgp bwf ⊢
      obtain ⟨k, s, v, t⟩ := o
      simp only [] at o0 o1 o2 o3 hR hput hfull hdel hgp
      clear hg p0 p1 p2 p3 hX7 hO hM M6 hfine hup hO3 fin7 hd0 hd1 hb7 ko7 kq7 ko6 hI hLl hLa hB
      by_cases k1 : k = 1
      · subst k1
        by_cases s0 : s.size = 0
        · have d0 := empty_yes s0
          have hE := hR 4 (by unfold rightO; rw [if_neg (fun h => h.1 rfl), if_pos s0]) (by decide)
          clear s0
          by_cases n1 : q.b < (s.size : Int)
          · have g1 : decide (q.b < (s.size : Int)) = true := decide_eq_true n1
            clear hR hput hfull hdel
            subst hE
            clear n1
            go_wp2_with fail
            go_ret
            exact ⟨rfl, bwf⟩
          · have g1 : decide (q.b < (s.size : Int)) = false := decide_eq_false n1
            by_cases n2 : q.c < (v.size : Int)
            · have g2 : decide (q.c < (v.size : Int)) = true := decide_eq_true n2
              clear hR hput hfull hdel
              subst hE
              clear n1 n2
              go_wp2_with fail
              go_ret
              exact ⟨rfl, bwf⟩
            · have g2 : decide (q.c < (v.size : Int)) = false := decide_eq_false n2
              by_cases n3 : q.d < (t.size : Int)
              · have g3 : decide (q.d < (t.size : Int)) = true := decide_eq_true n3
                clear hR hput hfull hdel
                subst hE
                clear n1 n2 n3
                go_wp2_with fail
                go_ret
                exact ⟨rfl, bwf⟩
              · have g3 : decide (q.d < (t.size : Int)) = false := decide_eq_false n3
                clear hR hput hfull hdel
                subst hE
                clear n1 n2 n3
                go_wp2_with fail
                go_ret
                exact ⟨rfl, bwf⟩
        · have d0 := empty_no s0
          by_cases n1 : q.b < (s.size : Int)
          · have g1 : decide (q.b < (s.size : Int)) = true := decide_eq_true n1
            have hE := hR 5 (by unfold rightO; rw [if_neg (fun h => h.1 rfl), if_neg s0, if_pos n1]) (by decide)
            clear hR hput hfull hdel
            subst hE
            clear n1 s0
            go_wp2_with fail
            go_ret
            exact ⟨rfl, bwf⟩
          · have g1 : decide (q.b < (s.size : Int)) = false := decide_eq_false n1
            by_cases n2 : q.c < (v.size : Int)
            · have g2 : decide (q.c < (v.size : Int)) = true := decide_eq_true n2
              have hE := hR 5 (by unfold rightO; rw [if_neg (fun h => h.1 rfl), if_neg s0, if_neg n1, if_pos ⟨show (1 : Int) ≠ 3 by decide, .inl n2⟩]) (by decide)
              clear hR hput hfull hdel
              subst hE
              clear n1 s0 n2
              go_wp2_with fail
              go_ret
              exact ⟨rfl, bwf⟩
            · have g2 : decide (q.c < (v.size : Int)) = false := decide_eq_false n2
              by_cases n3 : q.d < (t.size : Int)
              · have g3 : decide (q.d < (t.size : Int)) = true := decide_eq_true n3
                have hE := hR 5 (by unfold rightO; rw [if_neg (fun h => h.1 rfl), if_neg s0, if_neg n1, if_pos ⟨show (1 : Int) ≠ 3 by decide, .inr n3⟩]) (by decide)
                clear hR hput hfull hdel
                subst hE
                clear n1 s0 n2 n3
                go_wp2_with fail
                go_ret
                exact ⟨rfl, bwf⟩
              · have g3 : decide (q.d < (t.size : Int)) = false := decide_eq_false n3
                have h00 : rightO q ⟨1, s, v, t⟩ = 0 := by unfold rightO; rw [if_neg (fun h => h.1 rfl), if_neg s0, if_neg n1, if_neg (fun h => h.2.elim n2 n3)]
                cases hl : lk L s with
                | none =>
                  by_cases ha : (L.length : Int) = q.a
                  · have hE := hfull h00 (show (1 : Int) ≠ 3 by decide) hl ha
                    have da : ((le3.length : Int) == q.a) = true := by rw [HLL.out]; exact eq_yes ha
                    clear hR hput hfull hdel
                    subst hE
                    clear n1 s0 n2 n3 h00 ha
                    have hg3 : gis = false := by rw [hgp, hl]; rfl
                    subst hg3; clear hgp hl
                    go_wp2_with fail
                    go_ret
                    exact ⟨rfl, bwf⟩
                  · have hE := hput h00 (show (1 : Int) ≠ 3 by decide) (fun h => ha h.2)
                    have da : ((le3.length : Int) == q.a) = false := by rw [HLL.out]; exact eq_no ha
                    have f5 := eq_no (show E ≠ 5 by omega)
                    have f3 := eq_no (show E ≠ 3 by omega)
                    have f6 := eq_no (show E ≠ 6 by omega)
                    have f8 := eq_no (show E ≠ 8 by omega)
                    have f7 := ne_yes (show E ≠ 7 by omega)
                    clear hR hput hfull hdel
                    clear n1 s0 n2 n3 h00 ha hE
                    have hg3 : gis = false := by rw [hgp, hl]; rfl
                    subst hg3; clear hgp hl
                    go_wp2_with fail
                    go_ret
                    exact ⟨rfl, bwf⟩
                | some l =>
                  have hE := hput h00 (show (1 : Int) ≠ 3 by decide) (fun h => by rw [hl] at h; cases h.1)
                  have f5 := eq_no (show E ≠ 5 by omega)
                  have f3 := eq_no (show E ≠ 3 by omega)
                  have f6 := eq_no (show E ≠ 6 by omega)
                  have f8 := eq_no (show E ≠ 8 by omega)
                  have f7 := ne_yes (show E ≠ 7 by omega)
                  clear hR hput hfull hdel
                  clear n1 s0 n2 n3 h00 hE
                  have hg3 : gis = true := by rw [hgp, hl]; rfl
                  subst hg3; clear hgp hl
                  go_wp2_with fail
                  go_ret
                  exact ⟨rfl, bwf⟩
      · skip
        by_cases k2 : k = 2
        · subst k2
          by_cases s0 : s.size = 0
          · have d0 := empty_yes s0
            have hE := hR 4 (by unfold rightO; rw [if_neg (fun h => h.2.1 rfl), if_pos s0]) (by decide)
            clear s0
            by_cases n1 : q.b < (s.size : Int)
            · have g1 : decide (q.b < (s.size : Int)) = true := decide_eq_true n1
              clear hR hput hfull hdel
              subst hE
              clear n1
              go_wp2_with fail
              go_ret
              exact ⟨rfl, bwf⟩
            · have g1 : decide (q.b < (s.size : Int)) = false := decide_eq_false n1
              by_cases n2 : q.c < (v.size : Int)
              · have g2 : decide (q.c < (v.size : Int)) = true := decide_eq_true n2
                clear hR hput hfull hdel
                subst hE
                clear n1 n2
                go_wp2_with fail
                go_ret
                exact ⟨rfl, bwf⟩
              · have g2 : decide (q.c < (v.size : Int)) = false := decide_eq_false n2
                by_cases n3 : q.d < (t.size : Int)
                · have g3 : decide (q.d < (t.size : Int)) = true := decide_eq_true n3
                  clear hR hput hfull hdel
                  subst hE
                  clear n1 n2 n3
                  go_wp2_with fail
                  go_ret
                  exact ⟨rfl, bwf⟩
                · have g3 : decide (q.d < (t.size : Int)) = false := decide_eq_false n3
                  clear hR hput hfull hdel
                  subst hE
                  clear n1 n2 n3
                  go_wp2_with fail
                  go_ret
                  exact ⟨rfl, bwf⟩
          · have d0 := empty_no s0
            by_cases n1 : q.b < (s.size : Int)
            · have g1 : decide (q.b < (s.size : Int)) = true := decide_eq_true n1
              have hE := hR 5 (by unfold rightO; rw [if_neg (fun h => h.2.1 rfl), if_neg s0, if_pos n1]) (by decide)
              clear hR hput hfull hdel
              subst hE
              clear n1 s0
              go_wp2_with fail
              go_ret
              exact ⟨rfl, bwf⟩
            · have g1 : decide (q.b < (s.size : Int)) = false := decide_eq_false n1
              by_cases n2 : q.c < (v.size : Int)
              · have g2 : decide (q.c < (v.size : Int)) = true := decide_eq_true n2
                have hE := hR 5 (by unfold rightO; rw [if_neg (fun h => h.2.1 rfl), if_neg s0, if_neg n1, if_pos ⟨show (2 : Int) ≠ 3 by decide, .inl n2⟩]) (by decide)
                clear hR hput hfull hdel
                subst hE
                clear n1 s0 n2
                go_wp2_with fail
                go_ret
                exact ⟨rfl, bwf⟩
              · have g2 : decide (q.c < (v.size : Int)) = false := decide_eq_false n2
                by_cases n3 : q.d < (t.size : Int)
                · have g3 : decide (q.d < (t.size : Int)) = true := decide_eq_true n3
                  have hE := hR 5 (by unfold rightO; rw [if_neg (fun h => h.2.1 rfl), if_neg s0, if_neg n1, if_pos ⟨show (2 : Int) ≠ 3 by decide, .inr n3⟩]) (by decide)
                  clear hR hput hfull hdel
                  subst hE
                  clear n1 s0 n2 n3
                  go_wp2_with fail
                  go_ret
                  exact ⟨rfl, bwf⟩
                · have g3 : decide (q.d < (t.size : Int)) = false := decide_eq_false n3
                  have h00 : rightO q ⟨2, s, v, t⟩ = 0 := by unfold rightO; rw [if_neg (fun h => h.2.1 rfl), if_neg s0, if_neg n1, if_neg (fun h => h.2.elim n2 n3)]
                  cases hl : lk L s with
                  | none =>
                    by_cases ha : (L.length : Int) = q.a
                    · have hE := hfull h00 (show (2 : Int) ≠ 3 by decide) hl ha
                      have da : ((le3.length : Int) == q.a) = true := by rw [HLL.out]; exact eq_yes ha
                      clear hR hput hfull hdel
                      subst hE
                      clear n1 s0 n2 n3 h00 ha
                      have hg3 : gis = false := by rw [hgp, hl]; rfl
                      subst hg3; clear hgp hl
                      go_wp2_with fail
                      go_ret
                      exact ⟨rfl, bwf⟩
                    · have hE := hput h00 (show (2 : Int) ≠ 3 by decide) (fun h => ha h.2)
                      have da : ((le3.length : Int) == q.a) = false := by rw [HLL.out]; exact eq_no ha
                      have f5 := eq_no (show E ≠ 5 by omega)
                      have f3 := eq_no (show E ≠ 3 by omega)
                      have f6 := eq_no (show E ≠ 6 by omega)
                      have f8 := eq_no (show E ≠ 8 by omega)
                      have f7 := ne_yes (show E ≠ 7 by omega)
                      clear hR hput hfull hdel
                      clear n1 s0 n2 n3 h00 ha hE
                      have hg3 : gis = false := by rw [hgp, hl]; rfl
                      subst hg3; clear hgp hl
                      go_wp2_with fail
                      go_ret
                      exact ⟨rfl, bwf⟩
                  | some l =>
                    have hE := hput h00 (show (2 : Int) ≠ 3 by decide) (fun h => by rw [hl] at h; cases h.1)
                    have f5 := eq_no (show E ≠ 5 by omega)
                    have f3 := eq_no (show E ≠ 3 by omega)
                    have f6 := eq_no (show E ≠ 6 by omega)
                    have f8 := eq_no (show E ≠ 8 by omega)
                    have f7 := ne_yes (show E ≠ 7 by omega)
                    clear hR hput hfull hdel
                    clear n1 s0 n2 n3 h00 hE
                    have hg3 : gis = true := by rw [hgp, hl]; rfl
                    subst hg3; clear hgp hl
                    go_wp2_with fail
                    go_ret
                    exact ⟨rfl, bwf⟩
        · skip
          by_cases k3 : k = 3
          · subst k3
            by_cases s0 : s.size = 0
            · have d0 := empty_yes s0
              have hE := hR 4 (by unfold rightO; rw [if_neg (fun h => h.2.2 rfl), if_pos s0]) (by decide)
              clear s0
              by_cases n1 : q.b < (s.size : Int)
              · have g1 : decide (q.b < (s.size : Int)) = true := decide_eq_true n1
                clear hR hput hfull hdel
                subst hE
                clear n1
                go_wp2_with fail
                go_ret
                exact ⟨rfl, bwf⟩
              · have g1 : decide (q.b < (s.size : Int)) = false := decide_eq_false n1
                clear hR hput hfull hdel
                subst hE
                clear n1
                go_wp2_with fail
                go_ret
                exact ⟨rfl, bwf⟩
            · have d0 := empty_no s0
              by_cases n1 : q.b < (s.size : Int)
              · have g1 : decide (q.b < (s.size : Int)) = true := decide_eq_true n1
                have hE := hR 5 (by unfold rightO; rw [if_neg (fun h => h.2.2 rfl), if_neg s0, if_pos n1]) (by decide)
                clear hR hput hfull hdel
                subst hE
                clear n1 s0
                go_wp2_with fail
                go_ret
                exact ⟨rfl, bwf⟩
              · have g1 : decide (q.b < (s.size : Int)) = false := decide_eq_false n1
                have h00 : rightO q ⟨3, s, v, t⟩ = 0 := by unfold rightO; rw [if_neg (fun h => h.2.2 rfl), if_neg s0, if_neg n1, if_neg (fun h => h.1 rfl)]
                cases hl : lk L s with
                | none =>
                  have hE : E = 3 := (hdel h00 rfl).trans (by rw [hl]; rfl)
                  clear hR hput hfull hdel
                  subst hE
                  clear n1 s0 h00
                  have hg3 : gis = false := by rw [hgp, hl]; rfl
                  subst hg3; clear hgp hl
                  go_wp2_with fail
                  go_ret
                  exact ⟨rfl, bwf⟩
                | some l =>
                  have hE : E = 0 := (hdel h00 rfl).trans (by rw [hl]; rfl)
                  clear hR hput hfull hdel
                  subst hE
                  clear n1 s0 h00
                  have hg3 : gis = true := by rw [hgp, hl]; rfl
                  subst hg3; clear hgp hl
                  go_wp2_with fail
                  go_ret
                  exact ⟨rfl, bwf⟩
          · skip
            have e1 := ne_yes k3
            have e0 := eq_no k3
            have hE := hR 8 (by unfold rightO; rw [if_pos ⟨k1, k2, k3⟩]) (by decide)
            by_cases l1 : 1 ≤ k
            · have a1 : decide (1 ≤ k) = true := decide_eq_true l1
              have a2 : decide (k ≤ 3) = false := decide_eq_false (by omega)
              have a3 : decide (k < 1) = false := decide_eq_false (by omega)
              have a4 : decide (3 < k) = true := decide_eq_true (by omega)
              clear l1 k1 k2 k3
              by_cases n1 : q.b < (s.size : Int)
              · have g1 : decide (q.b < (s.size : Int)) = true := decide_eq_true n1
                clear hR hput hfull hdel
                subst hE
                clear n1
                go_wp2_with fail
                go_ret
                exact ⟨rfl, bwf⟩
              · have g1 : decide (q.b < (s.size : Int)) = false := decide_eq_false n1
                by_cases n2 : q.c < (v.size : Int)
                · have g2 : decide (q.c < (v.size : Int)) = true := decide_eq_true n2
                  clear hR hput hfull hdel
                  subst hE
                  clear n1 n2
                  go_wp2_with fail
                  go_ret
                  exact ⟨rfl, bwf⟩
                · have g2 : decide (q.c < (v.size : Int)) = false := decide_eq_false n2
                  by_cases n3 : q.d < (t.size : Int)
                  · have g3 : decide (q.d < (t.size : Int)) = true := decide_eq_true n3
                    clear hR hput hfull hdel
                    subst hE
                    clear n1 n2 n3
                    go_wp2_with fail
                    go_ret
                    exact ⟨rfl, bwf⟩
                  · have g3 : decide (q.d < (t.size : Int)) = false := decide_eq_false n3
                    clear hR hput hfull hdel
                    subst hE
                    clear n1 n2 n3
                    go_wp2_with fail
                    go_ret
                    exact ⟨rfl, bwf⟩
            · have a1 : decide (1 ≤ k) = false := decide_eq_false l1
              have a3 : decide (k < 1) = true := decide_eq_true (by omega)
              clear l1 k1 k2 k3
              by_cases n1 : q.b < (s.size : Int)
              · have g1 : decide (q.b < (s.size : Int)) = true := decide_eq_true n1
                clear hR hput hfull hdel
                subst hE
                clear n1
                go_wp2_with fail
                go_ret
                exact ⟨rfl, bwf⟩
              · have g1 : decide (q.b < (s.size : Int)) = false := decide_eq_false n1
                by_cases n2 : q.c < (v.size : Int)
                · have g2 : decide (q.c < (v.size : Int)) = true := decide_eq_true n2
                  clear hR hput hfull hdel
                  subst hE
                  clear n1 n2
                  go_wp2_with fail
                  go_ret
                  exact ⟨rfl, bwf⟩
                · have g2 : decide (q.c < (v.size : Int)) = false := decide_eq_false n2
                  by_cases n3 : q.d < (t.size : Int)
                  · have g3 : decide (q.d < (t.size : Int)) = true := decide_eq_true n3
                    clear hR hput hfull hdel
                    subst hE
                    clear n1 n2 n3
                    go_wp2_with fail
                    go_ret
                    exact ⟨rfl, bwf⟩
                  · have g3 : decide (q.d < (t.size : Int)) = false := decide_eq_false n3
                    clear hR hput hfull hdel
                    subst hE
                    clear n1 n2 n3
                    go_wp2_with fail
                    go_ret
                    exact ⟨rfl, bwf⟩

end Go.Proofs.Ytnhfpbllgjhcdaa.books
