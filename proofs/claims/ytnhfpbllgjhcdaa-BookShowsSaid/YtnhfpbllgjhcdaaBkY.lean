/- The walk of BookShows. -/
import Derived.Test.YtnhfpbllgjhcdaaBkW


namespace Go.Proofs.Ytnhfpbllgjhcdaa.books
set_option linter.unusedVariables false
set_option linter.unusedSimpArgs false
open Go.RowKit Go.Shelf Go.Proofs.Ytnhfpbllgjhcdaa.base Go.Proofs.Ytnhfpbllgjhcdaa.quotas Go.Proofs.Ytnhfpbllgjhcdaa.vers Go.Proofs.Ytnhfpbllgjhcdaa.nodes Go.Proofs.Ytnhfpbllgjhcdaa.trees Go.Proofs.Ytnhfpbllgjhcdaa.texts

theorem addP_k {a b c d e f h : Int} {s : ByteArray} {l : List V} {v t : ByteArray} {kp : Int} (h0 : (addP a b c d e f h s l v t kp).bad = 0) : (addP a b c d e f h s l v t kp).k = l.drop ((l.length : Int) + 1 - kp).toNat ++ [⟨noOf l, v, t⟩] ∧ noOf l ≤ 1073741824 ∧ (l.length : Int) ≤ e := by
  unfold addP at h0 ⊢
  by_cases h1 : nbad a b c d e f h s l ≠ 0
  · rw [if_pos h1] at h0; exact absurd h0 h1
  · rw [if_neg h1] at h0 ⊢
    by_cases h2 : c < (v.size : Int) ∨ d < (t.size : Int)
    · rw [if_pos h2] at h0; cases h0
    · rw [if_neg h2] at h0 ⊢
      by_cases h3 : 1073741824 < noOf l
      · rw [if_pos h3] at h0; cases h0
      · rw [if_neg h3]
        exact ⟨rfl, by omega, (nbad_zero (Decidable.not_not.1 h1)).2.2⟩
theorem one_new {q : Qt} {L : List PB} {o : O} (h : (oneP q L o).2 = 0) (h3 : o.k ≠ 3) : (newP q L o).bad = 0 ∧ lk (oneP q L o).1 o.s = some (newP q L o).k := by
  have he := oneP_eff h o.s
  rw [if_pos rfl] at he
  constructor
  · rw [oneP_eq] at h
    by_cases h1 : rightO q o ≠ 0
    · rw [if_pos h1] at h; exact absurd h h1
    · rw [if_neg h1, if_neg h3] at h
      unfold renewP at h
      by_cases h4 : lk L o.s = none ∧ (L.length : Int) = q.a
      · rw [if_pos h4] at h; cases h
      · rw [if_neg h4] at h
        by_cases h5 : (newP q L o).bad ≠ 0
        · rw [if_pos h5] at h; exact absurd h h5
        · exact Decidable.not_not.1 h5
  · rw [he]; unfold effP newP; rw [if_neg h3]
theorem one_del {q : Qt} {L : List PB} {o : O} (h : (oneP q L o).2 = 0) (h3 : o.k = 3) : (getP L o.s).2.2 = true ∧ (getP (oneP q L o).1 o.s).2.2 = false := by
  have he := oneP_eff h o.s
  rw [if_pos rfl] at he
  unfold effP at he
  rw [if_pos h3] at he
  constructor
  · rw [oneP_eq] at h
    by_cases h1 : rightO q o ≠ 0
    · rw [if_pos h1] at h; exact absurd h h1
    · rw [if_neg h1, if_pos h3] at h
      unfold takeP at h
      unfold getP
      cases hl : lk L o.s with
      | none => rw [hl] at h; cases h
      | some l => rfl
  · unfold getP; rw [he]
theorem one_rest {q : Qt} (hk : q.ok) {L : List PB} (hI : Inv q L) {o : O} (h : (oneP q L o).2 = 0) : del (oneP q L o).1 o.s = del L o.s :=
  up_ext (del_up (hI.one hk o).up _) (del_up hI.up _) fun u => by
    by_cases hu : u = o.s
    · rw [hu, lk_del_same, lk_del_same]
    · rw [lk_del_other hu, lk_del_other hu, oneP_eff h, if_neg hu]
theorem getP_l (L : List PB) (s : ByteArray) : (getP L s).2.1 = (lk L s).getD [] := by
  unfold getP
  cases lk L s <;> rfl
theorem noOf_last (l : List V) : noOf l = (lastV l).1.n + 1 := by
  unfold noOf lastV
  cases l.getLast? <;> rfl
theorem lastV_fits {l : List V} (h : ∀ x ∈ l, x.fits) : (lastV l).1.fits := by
  unfold lastV
  cases hl : l.getLast? with
  | none => exact ⟨⟨by decide, by decide⟩, by decide, by decide⟩
  | some x => exact h x (List.mem_of_getLast? hl)
theorem lastV_snoc (l : List V) (x : V) : lastV (l ++ [x]) = (x, true) := by
  unfold lastV
  rw [List.getLast?_concat]
theorem one_put {q : Qt} (hk : q.ok) {L : List PB} (hI : Inv q L) {o : O} (h : (oneP q L o).2 = 0) (h3 : o.k ≠ 3) : ∃ K, getP (oneP q L o).1 o.s = (o.s, K, true) ∧ lastV K = (⟨(lastV (getP L o.s).2.1).1.n + 1, o.v, o.t⟩, true) ∧ (getP L o.s).2.2 = (lastV (getP L o.s).2.1).2 ∧ (lastV (getP L o.s).2.1).1.n ≤ 1073741823 ∧ (o.k = 2 → (K.length : Int) = 1) ∧ (o.k ≠ 2 → (K.length : Int) = min (((getP L o.s).2.1.length : Int) + 1) q.e) := by
  obtain ⟨b0, e0⟩ := one_new h h3
  have hf : (getP L o.s).2.2 = (lastV (getP L o.s).2.1).2 := by
    unfold getP
    cases hl : lk L o.s with
    | none => rfl
    | some l =>
      have hne := (hI.fine _ (lk_some hl)).2
      simp only [] at hne ⊢
      unfold lastV
      cases hg : l.getLast? with
      | none => exact absurd (List.getLast?_eq_none_iff.1 hg) hne
      | some x => rfl
  refine ⟨(newP q L o).k, by unfold getP; rw [e0], ?_⟩
  rw [hf]
  rw [getP_l]
  unfold newP at b0 ⊢
  obtain ⟨k1, k2, k3⟩ := addP_k b0
  generalize (lk L o.s).getD [] = l at *
  rw [k1]
  rw [noOf_last] at k2 ⊢
  refine ⟨?_, rfl, by omega, fun h2 => ?_, fun h2 => ?_⟩
  · rw [lastV_snoc]
  · rw [if_pos h2]
    simp only [List.length_append, List.length_drop, List.length_singleton]
    omega
  · rw [if_neg h2]
    simp only [List.length_append, List.length_drop, List.length_singleton]
    have := hk.2.2.2.2.1.1
    omega
/-- the secrets of other names, out of the first few -/
def fl (s : ByteArray) (l : List E) (j : Nat) : List E := (l.take j).filter fun x => decide (x.s ≠ s)
theorem fl_yes {s : ByteArray} {l : List E} {j : Nat} (hj : j < l.length) (h : l[j].s = s) : fl s l (j + 1) = fl s l j := by
  unfold fl
  rw [List.take_succ_eq_append_getElem hj, List.filter_append]
  simp [h]
theorem fl_no {s : ByteArray} {l : List E} {j : Nat} (hj : j < l.length) (h : l[j].s ≠ s) : fl s l (j + 1) = fl s l j ++ [l[j]] := by
  unfold fl
  rw [List.take_succ_eq_append_getElem hj, List.filter_append]
  simp [h]
theorem fl_le (s : ByteArray) (l : List E) (j : Nat) : (fl s l j).length ≤ j := Nat.le_trans (List.length_filter_le _ _) (by rw [List.length_take]; omega)
theorem fl_all (s : ByteArray) (l : List E) : (fl s l l.length).map pe = del (l.map pe) s := by
  unfold fl del
  rw [List.take_length, List.filter_map]
  rfl
theorem fl_mem {s : ByteArray} {l : List E} {j : Nat} {x : E} (h : x ∈ fl s l j) : x ∈ l := List.mem_of_mem_take (List.mem_filter.1 h).1
theorem ecells {w : World} {g : Nat} {s : ByteArray} {u : Value} (h : Blk w g 45 #[.string s, u]) : w.cell? ⟨g, 0, none⟩ = some (.string s) ∧ w.cell? ⟨g, 1, none⟩ = some u := ⟨h.cell 0, h.cell 1⟩
def SwHead (W : World) (B : Nat) (l : List E) (s : ByteArray) (i u : Value) (wr : World) : Prop := ∃ j : Nat, j ≤ l.length ∧ i = .int .i64 (j : Int) ∧ Below B W wr ∧ wr.ownsRow 0 45 2 u (fl s l j).length (cellsE (fl s l j)) ∧ ∀ g, u.ownBlock = some g → B ≤ g
theorem sw_es {w : World} {v : Value} {l : List E} (h : w.ownsRow 0 45 2 v l.length (cellsE l)) (hl : l.length * 40 ≤ 140737488355328) (hx : ∀ x ∈ l, Vs w w.heap.size x.l x.A x.c ∧ x.s.size ≤ maxLen) : ∃ A c, v = .slice A l.length c ∧ Es w w.heap.size l A c := by
  obtain ⟨A, c, e, hc, hn, hr⟩ := row_rdF h
  exact ⟨A, c, e, hc, hl, hn, hr.rd, hx⟩

set_option maxRecDepth 100000 in
set_option maxHeartbeats 4000000 in
theorem shows_no (q : Qt) (bs : List BL) (A : Option Addr) (c : Nat) (o : O) (w : World) (hk : ¬ q.ok) :
    Calls Try.prog 6 #[.agg #[.int .i64 q.a, .int .i64 q.b, .int .i64 q.c, .int .i64 q.d, .int .i64 q.e, .int .i64 q.f, .int .i64 q.h], .slice A bs.length c, .agg #[.int .i64 o.k, .string o.s, .string o.v, .string o.t]] w fun e w' => e = .returned (.bool true) ∧ Below w.heap.size w w' := by
  have hm := fun w' => made_no q bs A c w' hk
  have hr := fun w' => quotas.refRight_no q.a q.b q.c q.d q.e q.f q.h w' hk
  obtain ⟨kq, ko, b0, z0⟩ := boxesQO q o w
  go_enter Try.func6, Try.ntmps6
  go_wp2_with fail
  generalize ((w.alloc (.cells #[.int .i64 q.a, .int .i64 q.b, .int .i64 q.c, .int .i64 q.d, .int .i64 q.e, .int .i64 q.f, .int .i64 q.h] 23)).alloc (.cells (oc o) 62)) = W at *
  refine (hm _).mono ?_
  rintro e1 w1 ⟨rfl, hb1⟩
  have b1 := b0.trans (hb1.mono b0.size)
  have kq1 := kq.below hb1 kq.lt
  obtain ⟨c0, c1, c2, c3, c4, c5, c6⟩ := qcells kq1
  go_wp2_with fail
  refine (hr _).mono ?_
  rintro e2 w2 ⟨rfl, hb2⟩
  have b2 := b1.trans (hb2.mono b1.size)
  go_wp2_with fail
  go_ret
  exact ⟨rfl, b2⟩

set_option maxRecDepth 100000 in
set_option maxHeartbeats 4000000 in
theorem shows_ok (q : Qt) (bs : List BL) (A : Option Addr) (c : Nat) (o : O) (w : World) (hk : q.ok) (hB : Bs w w.heap.size bs A c) (hf : o.fits) :
    Calls Try.prog 6 #[.agg #[.int .i64 q.a, .int .i64 q.b, .int .i64 q.c, .int .i64 q.d, .int .i64 q.e, .int .i64 q.f, .int .i64 q.h], .slice A bs.length c, .agg #[.int .i64 o.k, .string o.s, .string o.v, .string o.t]] w fun e w' => e = .returned (.bool true) ∧ Below w.heap.size w w' := by
  have hm := fun w' (h : Bs w' w'.heap.size bs A c) => made_ok q bs A c w' hk h
  have hI := made_inv hk bs
  generalize madeP q bs = b at hm hI
  obtain ⟨L, P⟩ := b
  have hI1 := hI.inv
  simp only [] at hI1
  have hLl := hI1.le hk
  have i5 := hI.play hk [o]
  have hj := playP_one hk ⟨L, P⟩ o
  have hp := fun (W : World) (bp mp : Nat) (wr : World) (h : MdHead W q bp mp ⟨L, P⟩ wr) => h.play_one hk hI (by omega) o hf
  have hdel := vers.lay (fun h h3 => one_del (q := q) (L := L) (o := o) h h3)
  have hput := vers.lay (fun h h3 => one_put hk hI1 (o := o) h h3)
  have hrest := vers.lay (fun h => one_rest hk hI1 (o := o) h)
  simp only [] at hj
  rw [hj] at hp i5
  clear hj
  generalize hone : oneP q L o = r at *
  obtain ⟨L', E⟩ := r
  simp only [] at hp i5 hdel hput hrest
  clear hone
  have hr := fun w' => quotas.refRight_ok q.a q.b q.c q.d q.e q.f q.h w' hk
  obtain ⟨kq, ko, b0, z0⟩ := boxesQO q o w
  have hfs := hf.2.1
  obtain ⟨ok, os, ov, ot⟩ := o
  simp only [] at *
  go_enter Try.func6, Try.ntmps6
  go_wp2_with fail
  generalize ((w.alloc (.cells #[.int .i64 q.a, .int .i64 q.b, .int .i64 q.c, .int .i64 q.d, .int .i64 q.e, .int .i64 q.f, .int .i64 q.h] 23)).alloc (.cells #[.int .i64 ok, .string os, .string ov, .string ot] 62)) = W at *
  refine (hm _ (hB.at_world b0)).mono ?_
  rintro e1 w1 ⟨bp, mp, rfl, M1⟩
  have kq1 := kq.below M1.1 kq.lt
  obtain ⟨c0, c1, c2, c3, c4, c5, c6⟩ := qcells kq1
  clear hm
  go_wp2_with fail
  refine (hr _).mono ?_
  rintro e2 w2 ⟨rfl, hb2⟩
  have M2 := M1.below hb2
  clear hr M1 hb2 c0 c1 c2 c3 c4 c5 c6 kq1
  go_wp2_with fail
  refine (MdHead.all M2 hk hI).mono ?_
  rintro e3 w3 ⟨hb3, v3, le3, rfl, hle3, hO3⟩
  simp only [] at hle3
  have M3 := M2.below hb3
  have hlt2 := M2.lt
  have zb3 := hb3.size
  have hl64 : le3.length ≤ 64 := by rw [← List.length_map (f := pe), hle3]; exact hLl
  have hle3 := vers.lay hle3
  obtain ⟨A3, c3', rfl, E3⟩ := hO3.es
  have ko3 := ko.below M3.1 ko.lt
  obtain ⟨o0, o1, o2, o3⟩ := ocells ko3
  clear M2 hO3
  go_wp2_with fail
  refine (MdHead.get M3 hfs).mono ?_
  rintro e4 w4 ⟨hb4, A4, c4, rfl, hX4⟩
  simp only [] at hX4
  have hfits := hX4.2.2.1
  have hg2 := hb4.size
  have M4 := M3.below hb4
  have E4 := E3.agree (w' := w4) (fun g hg => hb4.block g hg.2)
  generalize getP L os = r4 at *
  obtain ⟨s4, l4, h4⟩ := r4
  simp only [] at hX4 hfits
  have bX : Below w4.heap.size w4 (w4.alloc (.cells #[.string s4, .slice A4 l4.length c4] 45)) := (Below.refl _ _).alloc (Nat.le_refl _) _
  have k4 := Blk.new w4 45 #[.string s4, .slice A4 l4.length c4]
  have M4' := M4.below bX
  have E4' := E4.agree (w' := w4.alloc (.cells #[.string s4, .slice A4 l4.length c4] 45)) (fun g hg => bX.block g (by omega))
  have hX4' := hX4.agree (Agree.of_below bX fun g hg => hg.2)
  have zX := bX.size
  clear o0 o1 o2 o3 ko3 M3 E3 E4
  have lX := k4.lt
  have ko4 := ko.below M4'.1 ko.lt
  obtain ⟨o0, o1, o2, o3⟩ := ocells ko4
  clear M4 hX4
  generalize hWX : w4.alloc (.cells #[.string s4, .slice A4 l4.length c4] 45) = WX at *
  by_cases hE : E = 0
  · subst hE
    have hdel := vers.lay (hdel.out rfl)
    have hput := vers.lay (hput.out rfl)
    have hrest := vers.lay (hrest.out rfl)
    rw [if_neg (fun h => h rfl)] at hp i5
    simp only [] at hp i5
    go_wp2_with fail
    refine (hp _ _ _ _ M4').mono ?_
    rintro e5 w5 ⟨rfl, M5, hK5⟩
    have z5 := hK5.size
    have k45 := hK5.blk k4 (by omega)
    have E5 := E4'.agree (hK5.agree (fun g hg => ⟨by omega, by omega⟩))
    have X5 := hX4'.agree (hK5.agree (fun g hg => ⟨by omega, by omega⟩))
    have hL2 := i5.inv.le hk
    simp only [] at hL2
    clear hp o0 o1 o2 o3 ko4 hX4' E4' M4' k4
    have ko5 := ko.below M5.1 ko.lt
    obtain ⟨o0, o1, o2, o3⟩ := ocells ko5
    go_wp2_with fail
    refine (MdHead.get M5 hfs).mono ?_
    rintro e6 w6 ⟨hb6, A6, c6, rfl, hX6⟩
    simp only [] at hX6
    have M6 := M5.below hb6
    generalize getP L' os = r6 at *
    obtain ⟨s6, l6, h6⟩ := r6
    simp only [] at hX6 hdel hput
    have bZ : Below w6.heap.size w6 (w6.alloc (.cells #[.string s6, .slice A6 l6.length c6] 45)) := (Below.refl _ _).alloc (Nat.le_refl _) _
    have k6 := Blk.new w6 45 #[.string s6, .slice A6 l6.length c6]
    have M6 := M6.below bZ
    have bY := hb6.trans (bZ.mono hb6.size)
    have k4y := k45.below bY k45.lt
    have hE3y := (E5.agree (Agree.of_below bY fun g hg => by omega)).es
    have V4y := (X5.agree (Agree.of_below bY fun g hg => by omega)).vs.vs
    have V6y := (hX6.agree (Agree.of_below bZ fun g hg => hg.2)).vs.vs
    have koWY := ko.below M6.1 ko.lt
    have kqY := kq.below M6.1 kq.lt
    have lY := k6.lt
    clear M5 E5 X5 hX6 k45 ko5 o0 o1 o2 o3
    simp only [] at V4y V6y
    generalize hWY : w6.alloc (.cells #[.string s6, .slice A6 l6.length c6] 45) = WY at *
    go_wp2_with fail
    go_loopw [66, 15] (fun i u wr => SwHead WY WY.heap.size le3 os i u wr) (fun i _ _ => le3.length - (intOf i).toNat)
    case atStart => exact ⟨0, Nat.zero_le _, rfl, Below.refl _ _, ⟨rfl, .inl ⟨rfl, rfl⟩⟩, fun g h => by cases h⟩
    case round =>
      obtain ⟨j, hj, rfl, hb, hO, hlo⟩ := hrel
      by_cases hlt : j < le3.length
      · obtain ⟨bk, off, rfl, hbk, x0, x1, _⟩ := ((hE3y).at_world hb).at_ hlt
        have kor := koWY.below hb koWY.lt
        obtain ⟨o0, o1, o2, o3⟩ := ocells kor
        have hlo2 := kor.lt
        have hfy := vers.lay (fun h => fl_yes (s := os) hlt h)
        have hfn := vers.lay (fun h => fl_no (s := os) hlt h)
        have hle := fl_le os le3 j
        generalize le3[j] = x at x0 x1 hfy hfn
        obtain ⟨xs, xl, xA, xc⟩ := x
        simp only [] at x0 x1 hfy hfn
        have bX : Below wr.heap.size wr (wr.alloc (.cells #[.string xs, .slice xA xl.length xc] 45)) := (Below.refl _ _).alloc (Nat.le_refl _) _
        have hOX := row_below hO bX
        have kX := Blk.new wr 45 #[.string xs, .slice xA xl.length xc]
        have kob := kor.below bX kor.lt
        have zX2 := bX.size
        generalize hWZ : wr.alloc (.cells #[.string xs, .slice xA xl.length xc] 45) = WZ at *
        have lX2 := kX.lt
        have lo2 := kob.lt
        obtain ⟨y0, y1⟩ := ecells kX
        obtain ⟨p0, p1, p2, p3⟩ := ocells kob
        by_cases hs : xs = os
        · have g1 : (xs.toList == os.toList) = true := by rw [hs]; exact beq_self_eq_true _
          have g2 : (xs.toList != os.toList) = false := by unfold bne; rw [g1]; rfl
          have hfe := vers.lay (hfy.out hs)
          clear hfy hfn hs
          go_wp2_with fail
          exact ⟨⟨j + 1, hlt, by go_num, hb.trans (bX.mono hb.size), by rw [hfe.out]; exact hOX, hlo⟩, by simp [intOf]; omega⟩
        · have g1 : (xs.toList == os.toList) = false := by
            rw [beq_eq_false_iff_ne, Lib.toList_data, Lib.toList_data]
            exact fun e => hs (bn_ext e)
          have g2 : (xs.toList != os.toList) = true := by unfold bne; rw [g1]; rfl
          have hfe := vers.lay (hfn.out hs)
          clear hfy hfn hs
          have hz := hb.size
          generalize fl os le3 j = fj at *
          go_wp2_with (at_builtin; refine wp_secret (e := ⟨xs, xl, xA, xc⟩) rfl _ _ rfl hOX rfl rfl rfl (by omega) ?_; intro v9 w9 ho9 hk9 hv9 hz9)
          have bX9 := hb.trans (bX.mono hz)
          exact ⟨⟨j + 1, hlt, by go_num, bX9.trans (hk9.below hlo bX9.size), by rw [hfe.out]; exact ho9, fun g hg => by rcases hv9 g hg with h | h; exact hlo g h; exact Nat.le_trans bX9.size h.1⟩, by simp [intOf]; omega⟩
      · obtain rfl : j = le3.length := by omega
        have bL := hb
        have hO1 := hO
        have Mr := M6.below hb
        clear hb hO hlo
        go_wp2_with fail
        refine (MdHead.all Mr hk i5).mono ?_
        rintro e7 w7 ⟨hb7, v7, le7, rfl, hle7, hO7⟩
        simp only [] at hle7
        have hl7 : le7.length ≤ 64 := by rw [← List.length_map (f := pe), hle7]; exact hL2
        have hle7 := vers.lay hle7
        obtain ⟨A7, c7, rfl, E7⟩ := hO7.es
        have hE7 := E7.es
        have kow7 := koWY.below (bL.trans (hb7.mono bL.size)) koWY.lt
        have hz7 := hb7.size
        clear hO7 Mr
        go_wp2_with fail
        go_loopw [83, 16] (fun i u wr => SwHead w7 w7.heap.size le7 os i u wr) (fun i _ _ => le7.length - (intOf i).toNat)
        case atStart => exact ⟨0, Nat.zero_le _, rfl, Below.refl _ _, ⟨rfl, .inl ⟨rfl, rfl⟩⟩, fun g h => by cases h⟩
        case round =>
          obtain ⟨j, hj, rfl, hb, hO, hlo⟩ := hrel
          by_cases hlt : j < le7.length
          · obtain ⟨bk, off, rfl, hbk, x0, x1, _⟩ := ((hE7).at_world hb).at_ hlt
            have kor := kow7.below hb kow7.lt
            obtain ⟨o0, o1, o2, o3⟩ := ocells kor
            have hlo2 := kor.lt
            have hfy := vers.lay (fun h => fl_yes (s := os) hlt h)
            have hfn := vers.lay (fun h => fl_no (s := os) hlt h)
            have hle := fl_le os le7 j
            generalize le7[j] = x at x0 x1 hfy hfn
            obtain ⟨xs, xl, xA, xc⟩ := x
            simp only [] at x0 x1 hfy hfn
            have bX : Below wr.heap.size wr (wr.alloc (.cells #[.string xs, .slice xA xl.length xc] 45)) := (Below.refl _ _).alloc (Nat.le_refl _) _
            have hOX := row_below hO bX
            have kX := Blk.new wr 45 #[.string xs, .slice xA xl.length xc]
            have kob := kor.below bX kor.lt
            have zX2 := bX.size
            generalize hWZ : wr.alloc (.cells #[.string xs, .slice xA xl.length xc] 45) = WZ at *
            have lX2 := kX.lt
            have lo2 := kob.lt
            obtain ⟨y0, y1⟩ := ecells kX
            obtain ⟨p0, p1, p2, p3⟩ := ocells kob
            by_cases hs : xs = os
            · have g1 : (xs.toList == os.toList) = true := by rw [hs]; exact beq_self_eq_true _
              have g2 : (xs.toList != os.toList) = false := by unfold bne; rw [g1]; rfl
              have hfe := vers.lay (hfy.out hs)
              clear hfy hfn hs
              go_wp2_with fail
              exact ⟨⟨j + 1, hlt, by go_num, hb.trans (bX.mono hb.size), by rw [hfe.out]; exact hOX, hlo⟩, by simp [intOf]; omega⟩
            · have g1 : (xs.toList == os.toList) = false := by
                rw [beq_eq_false_iff_ne, Lib.toList_data, Lib.toList_data]
                exact fun e => hs (bn_ext e)
              have g2 : (xs.toList != os.toList) = true := by unfold bne; rw [g1]; rfl
              have hfe := vers.lay (hfn.out hs)
              clear hfy hfn hs
              have hz := hb.size
              generalize fl os le7 j = fj at *
              go_wp2_with (at_builtin; refine wp_secret (e := ⟨xs, xl, xA, xc⟩) rfl _ _ rfl hOX rfl rfl rfl (by omega) ?_; intro v9 w9 ho9 hk9 hv9 hz9)
              have bX9 := hb.trans (bX.mono hz)
              exact ⟨⟨j + 1, hlt, by go_num, bX9.trans (hk9.below hlo bX9.size), by rw [hfe.out]; exact ho9, fun g hg => by rcases hv9 g hg with h | h; exact hlo g h; exact Nat.le_trans bX9.size h.1⟩, by simp [intOf]; omega⟩
          · obtain rfl : j = le7.length := by omega
            have hEf := hE7.at_world hb
            obtain ⟨A9, c9, rfl, ES9⟩ := sw_es hO (by have := fl_le os le7 le7.length; omega) (fun x hx => hEf.2.2.2.2 x (fl_mem hx))
            have bq := hb7.trans (hb.mono hb7.size)
            have hO1' := row_below hO1 bq
            have hE3f := (hE3y.at_world bL).at_world bq
            obtain ⟨A8, c8, rfl, ES8⟩ := sw_es hO1' (by have := fl_le os le3 le3.length; omega) (fun x hx => hE3f.2.2.2.2 x (fl_mem hx))
            have hlk := likeAll_any _ _ A8 A9 c8 c9 _ ES8 ES9
            rw [fl_all, fl_all, hle3.out, hle7.out, hrest.out trivial, decide_eq_true rfl] at hlk
            have bYq := bL.trans (bq.mono bL.size)
            clear ES8 ES9 hO hO1 hO1' hE3f hEf hE3y hlo
            generalize (fl os le3 le3.length).length = n8 at *
            generalize (fl os le7 le7.length).length = n9 at *
            go_wp2_with fail
            refine hlk.mono ?_
            rintro e10 w10 ⟨rfl, hb10⟩
            clear hlk
            have b5f := bY.trans ((bYq.trans (hb10.mono bYq.size)).mono bY.size)
            have bYf := bYq.trans (hb10.mono bYq.size)
            have bwf := b0.trans ((M6.1.trans (bYf.mono M6.1.size)).mono b0.size)
            have zf := hb10.size
            have zq := bYq.size
            have kof := koWY.below bYf koWY.lt
            have kqf := kqY.below bYf kqY.lt
            have k4f := k4y.below bYf k4y.lt
            have k6f := k6.below bYf lY
            obtain ⟨o0, o1, o2, o3⟩ := ocells kof
            obtain ⟨x40, x41⟩ := ecells k4f
            obtain ⟨x60, x61⟩ := ecells k6f
            have c4q := kqf.cell 4
            simp only [List.getElem?_toArray, List.getElem?_cons_zero, List.getElem?_cons_succ] at c4q
            have lkq := kqf.lt
            have lko := kof.lt
            have lk4 := k4f.lt
            have lk6 := k6f.lt
            have V4 := V4y.at_world bYf
            have V6 := V6y.at_world bYf
            clear hb hb7 hb10 bq bL M6 E7 hE7 V4y V6y bY
            by_cases h3 : ok = 3
            · have d3 := eq_yes h3
              obtain ⟨rfl, rfl⟩ := hdel.out trivial h3
              go_wp2_with fail
              go_ret
              exact ⟨rfl, bwf⟩
            · have d3 := eq_no h3
              obtain ⟨K, hK, hlast, h42, hn4, hover, hput2⟩ := hput.out trivial h3
              injection hK with hK1 hK2
              injection hK2 with hK2 hK3
              subst hK1 hK2 hK3
              have hl4 := fun w h => lastIs s4 l4 A4 c4 w h
              have hl6 := lastIs s6 l6 A6 c6 w10 V6
              rw [hlast] at hl6
              have hf4 := (lastV_fits hfits).1
              clear hlast hdel hput
              generalize lastV l4 = y4 at *
              obtain ⟨⟨n4, v4, t4⟩, g4⟩ := y4
              simp only [V.val] at hl4 hl6 h42 hn4 hf4
              subst h42
              have gb : (h4 != h4) = false := by cases h4 <;> rfl
              have hl4n : l4.length ≤ 140737488355328 := by have := V4.2.1; omega
              have hl6n : l6.length ≤ 140737488355328 := by have := V6.2.1; omega
              have HOV := vers.lay hover
              have HPU := vers.lay hput2
              clear hover hput2 h3 V6
              go_wp2_with fail
              refine hl6.mono ?_
              rintro e11 w11 ⟨rfl, hb11⟩
              clear hl6
              have bV := hb11.trans ((Below.refl _ _).alloc hb11.size (.cells #[.int .i64 (n4 + 1), .string ov, .string ot] 68))
              have kV := Blk.new w11 68 #[.int .i64 (n4 + 1), .string ov, .string ot]
              have hzV := bV.size
              generalize hWV : w11.alloc (.cells #[.int .i64 (n4 + 1), .string ov, .string ot] 68) = WV at *
              have lV := kV.lt
              have z11 := hb11.size
              have kov := kof.below bV kof.lt
              have kqv := kqf.below bV kqf.lt
              have k4v := k4f.below bV k4f.lt
              have k6v := k6f.below bV k6f.lt
              have lkov := kov.lt
              have lkqv := kqv.lt
              have lk4v := k4v.lt
              have lk6v := k6v.lt
              clear o0 o1 o2 o3 x40 x41 x60 x61 c4q kof kqf k4f k6f
              obtain ⟨o0, o1, o2, o3⟩ := ocells kov
              obtain ⟨x40, x41⟩ := ecells k4v
              obtain ⟨x60, x61⟩ := ecells k6v
              have v0 := kV.cell 0
              have v1 := kV.cell 1
              have v2 := kV.cell 2
              simp only [List.getElem?_toArray, List.getElem?_cons_zero, List.getElem?_cons_succ] at v0 v1 v2
              go_wp2_with fail
              refine (hl4 _ (V4.at_world bV)).mono ?_
              rintro e12 w12 ⟨rfl, hb12⟩
              clear hl4
              have bU := hb12.trans ((Below.refl _ _).alloc hb12.size (.cells #[.int .i64 n4, .string v4, .string t4] 68))
              have kU := Blk.new w12 68 #[.int .i64 n4, .string v4, .string t4]
              have hzU := bU.size
              generalize hWU : w12.alloc (.cells #[.int .i64 n4, .string v4, .string t4] 68) = WU at *
              have lU := kU.lt
              have z12 := hb12.size
              have kou := kov.below bU kov.lt
              have kqu := kqv.below bU kqv.lt
              have k4u := k4v.below bU k4v.lt
              have k6u := k6v.below bU k6v.lt
              have kVu := kV.below bU kV.lt
              have lkou := kou.lt
              have lkqu := kqu.lt
              have lk4u := k4u.lt
              have lk6u := k6u.lt
              have lVu := kVu.lt
              clear o0 o1 o2 o3 x40 x41 x60 x61 v0 v1 v2 kov kqv k4v k6v kV
              obtain ⟨o0, o1, o2, o3⟩ := ocells kou
              obtain ⟨x40, x41⟩ := ecells k4u
              obtain ⟨x60, x61⟩ := ecells k6u
              have c4q := kqu.cell 4
              have v0 := kVu.cell 0
              have u0 := kU.cell 0
              simp only [List.getElem?_toArray, List.getElem?_cons_zero, List.getElem?_cons_succ] at v0 u0 c4q
              have bwu := bwf.trans ((bV.trans (bU.mono hzV)).mono bwf.size)
              have gn := ne_no (rfl : n4 + 1 = n4 + 1)
              by_cases h2 : ok = 2
              · have d2 := eq_yes h2
                have f2 := eq_yes (HOV.out h2)
                clear h2
                go_wp2_with fail
                go_ret
                exact ⟨rfl, bwu⟩
              · have d2 := eq_no h2
                have f2 := HPU.out h2
                clear h2
                go_wp2_with fail
                go_ret
                exact ⟨rfl, bwu⟩
  · have f1 := ne_yes hE
    rw [if_pos hE] at hp i5
    simp only [] at hp i5
    clear hdel hput hrest
    go_wp2_with fail
    refine (hp _ _ _ _ M4').mono ?_
    rintro e5 w5 ⟨rfl, M5, hK5⟩
    have z5 := hK5.size
    have E5 := E4'.agree (hK5.agree (fun g hg => ⟨by omega, by omega⟩))
    clear hp o0 o1 o2 o3 ko4 hX4' E4' M4' k4
    go_wp2_with fail
    refine (MdHead.all M5 hk hI).mono ?_
    rintro e6 w6 ⟨hb6, v6, le6, rfl, hle6, hO6⟩
    have E6 := (E5.agree (Agree.of_below hb6 fun g hg => by omega)).es
    obtain ⟨A6, c6, rfl, F6⟩ := hO6.es
    have hlk := likeAll_any le6 le3 A6 A3 c6 c3' w6 F6.es E6
    simp only [] at hle6
    rw [hle6, hle3.out, decide_eq_true rfl] at hlk
    have M6 := M5.below hb6
    clear E6 F6 E5 hO6
    go_wp2_with fail
    refine hlk.mono ?_
    rintro e7 w7 ⟨rfl, hb7⟩
    go_wp2_with fail
    go_ret
    exact ⟨rfl, b0.trans ((M6.1.trans (hb7.mono M6.1.size)).mono b0.size)⟩

theorem law_shows (q : Qt) (bs : List BL) (A : Option Addr) (c : Nat) (o : O) (w : World) (hB : Bs w w.heap.size bs A c) (hf : o.fits) :
    Calls Try.prog 6 #[.agg #[.int .i64 q.a, .int .i64 q.b, .int .i64 q.c, .int .i64 q.d, .int .i64 q.e, .int .i64 q.f, .int .i64 q.h], .slice A bs.length c, .agg #[.int .i64 o.k, .string o.s, .string o.v, .string o.t]] w fun e w' => e = .returned (.bool true) ∧ Below w.heap.size w w' := by
  by_cases hk : q.ok
  · exact shows_ok q bs A c o w hk hB hf
  · exact shows_no q bs A c o w hk

end Go.Proofs.Ytnhfpbllgjhcdaa.books
