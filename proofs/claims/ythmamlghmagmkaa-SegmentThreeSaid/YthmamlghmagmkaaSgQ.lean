/- SegmentThree. -/
import Derived.Test.YthmamlghmagmkaaSgN
import Derived.Deep.CutBlock


namespace Go.Proofs.Ythmamlghmagmkaa.segs
set_option linter.unusedVariables false
set_option linter.unusedSimpArgs false
open Go.RowKit Go.Shelf Go.Proofs.Ythmamlghmagmkaa.base Go.Proofs.Ythmamlghmagmkaa.trees Go.Proofs.Ythmamlghmagmkaa.powers Go.Proofs.Ythmamlghmagmkaa.mediums Go.Lib

set_option maxRecDepth 100000 in
set_option maxHeartbeats 16000000 in
theorem law_three (a0 a1 : Int) (l : List SO) (A : Option Addr) (cc : Nat) (w : World) (hX : Os w w.heap.size l A cc) :
    Calls Try.prog 7 #[.int .i64 a0, .int .i64 a1, .slice A l.length cc] w fun e w' => e = .returned (.bool true) ∧ Below w.heap.size w w' := by
  have hk1 := pkS_lt a0 12 (by omega)
  have hp1 := fun wx => pickS_ok a0 12 (by omega) (by omega) wx
  rw [show ((12 : Nat) : Int) = 12 from rfl] at hp1
  have hk2 := pkS_lt a1 100 (by omega)
  have hp2 := fun wx => pickS_ok a1 100 (by omega) (by omega) wx
  rw [show ((100 : Nat) : Int) = 100 from rfl] at hp2
  have h0 := awakeS_ok w
  have hl1 : l.length * 64 ≤ 140737488355328 := hX.2.1
  generalize pkS a0 12 = x at hk1 hp1
  generalize pkS a1 100 = y at hk2 hp2
  have e1 : IntKind.i64.wrap (1 + (x : Int)) = ((1 + x : Nat) : Int) := by rw [IntWalk.i64_in _ (by omega)]; omega
  have e2 : IntKind.i64.wrap (1 + (y : Int)) = ((1 + y : Nat) : Int) := by rw [IntWalk.i64_in _ (by omega)]; omega
  obtain ⟨n, hn⟩ : ∃ n, 1 + x = n := ⟨_, rfl⟩
  obtain ⟨z, hz⟩ : ∃ z, 1 + y = z := ⟨_, rfl⟩
  rw [hn] at e1
  rw [hz] at e2
  have hn2 : 1 ≤ n ∧ n ≤ 12 := by omega
  have hz2 : 1 ≤ z ∧ z ≤ 100 := by omega
  clear hn hz hk1 hk2
  go_enter Try.func7, Try.ntmps7
  go_wp2_with fail
  refine h0.mono ?_
  rintro e w1 ⟨rfl, b1⟩
  clear h0
  go_wp2_with fail
  refine (hp1 _).mono ?_
  rintro e w1 ⟨rfl, rfl⟩
  clear hp1
  go_wp2_with fail
  refine (hp2 _).mono ?_
  rintro e w1 ⟨rfl, rfl⟩
  clear hp2
  have cF := fresh_ok n z (by omega) (by omega) w1
  go_wp2_with fail
  refine cF.mono ?_
  clear cF e1 e2
  rintro e w2 ⟨S, p, g, lg, ab, c, rfl, T⟩
  have R0 : Hid (Th w1 w2 p g lg ab c n z 0 (newM n z) (newL n) [] [] [] (.slice none 0 0) (.slice none 0 0)) := powers.lay (Th.new T hn2.1)
  have HB1 := powers.lay b1
  clear T b1
  go_wp2_with fail
  go_loopw [11, 9, 10] (fun i vp vt wx => ∃ j : Nat, i = .int .i64 (j : Int) ∧ j ≤ l.length ∧ ∃ (ab c : Nat) (m : MS) (s : LS) (L : List (T3 × ByteArray)), Hid (Th w1 wx p g lg ab c n z j m s L (L.map (·.1)) (L.map (·.2)) vp vt)) (fun i _ _ _ => l.length - (RowKit.intOf i).toNat)
  case atStart => exact ⟨0, rfl, Nat.zero_le _, _, _, _, _, [], R0⟩
  case round =>
    as_aux_lemma =>
    clear R0
    obtain ⟨j, rfl, hj, ab, c, m, s, L, HT⟩ := hrel
    have ej : IntKind.i64.wrap ((j : Int) + 1) = (j : Int) + 1 := IntWalk.i64_in _ (by omega)
    by_cases hlt : j < l.length
    · obtain ⟨b, off, rfl, hbk, x0, x1, x2, x3, x4⟩ := (hX.below (HB1.out.trans (HT.out.hb.mono HB1.out.size))).at_ hlt
      have hbs : (l[j]).s.size ≤ maxLen := (hX.2.2.2.2 _ (List.getElem_mem hlt)).2.1
      have hbk2 : b < wr.heap.size := by have := HB1.out.size; have := HT.out.hb.size; omega
      have HX := powers.lay hX
      clear hX
      have n1 : j + 1 ≤ l.length := hlt
      have d1 : decide ((j : Int) < (l.length : Int)) = true := decide_eq_true (by omega)
      have d2 : decide (j < l.length) = true := decide_eq_true hlt
      generalize l[j] = oo at *
      obtain ⟨k, bs, oa, ob, ol, olA, olc⟩ := oo
      simp only at x0 x1 x2 x3 x4 hbs
      unfold maxLen at hbs
      clear hlt
      have bB : Below wr.heap.size wr (wr.alloc (.cells #[.int .i64 k, .string bs, .int .i64 oa, .int .i64 ob, .slice olA ol.length olc] 87)) := (Below.refl _ _).alloc (Nat.le_refl _) _
      have kA := Blk.new wr 87 #[.int .i64 k, .string bs, .int .i64 oa, .int .i64 ob, .slice olA ol.length olc]
      have T3 := HT.out.below bB
      obtain ⟨W3, hW3⟩ : ∃ W3, wr.alloc (.cells #[.int .i64 k, .string bs, .int .i64 oa, .int .i64 ob, .slice olA ol.length olc] 87) = W3 := ⟨_, rfl⟩
      obtain ⟨q, hqd⟩ : ∃ q, wr.heap.size = q := ⟨_, rfl⟩
      rw [hW3] at T3 kA bB
      have HQ := powers.lay hqd
      rw [hqd] at kA
      have f0 := kA.frozen 0
      have f1 := kA.frozen 1
      have f2 := kA.frozen 2
      have f3 := kA.frozen 3
      have f4 := kA.frozen 4
      have g0 := kA.cell 0
      have g1 := kA.cell 1
      have g2 := kA.cell 2
      simp only [List.getElem?_toArray, List.getElem?_cons_zero, List.getElem?_cons_succ] at g0 g1 g2
      have c1 := free_ok T3.log
      clear f0 f1 f2 f3 f4 g0 g1 g2
      go_wp2_with fail
      refine c1.mono ?_
      clear c1
      rintro e w4 ⟨v, rfl, ho, b4⟩
      obtain ⟨FA, fc, rfl, hfc, hFr⟩ := nsPost_slice ho
      have T4 := T3.below b4
      have c1 := open_ok T4.log
      obtain ⟨U, hU⟩ : ∃ U, (at3 s.ac s.o).b = U := ⟨_, rfl⟩
      obtain ⟨fl, hfl⟩ : ∃ fl, those s.ac 1 = fl := ⟨_, rfl⟩
      rw [hU] at c1
      rw [hfl] at hFr
      rw [hfl]
      have HU := powers.lay hU
      have HFL := powers.lay hfl
      have hflen : fl.length ≤ 4096 := by
        have h1 := parted T4.log.ok
        have h3 := T4.log.ok.len
        rw [hfl] at h1
        omega
      obtain ⟨fn, hfn⟩ : ∃ fn, fl.length = fn := ⟨_, rfl⟩
      rw [hfn]
      have HFN := powers.lay hfn
      clear hU hfl hfn
      clear ho x0 x1 x2 x3 x4 hW3
      go_wp2_with fail
      refine c1.mono ?_
      clear c1
      rintro e w5 ⟨rfl, b5⟩
      have T5 := T4.below b5
      have kA5 := (kA.below b4 kA.lt).below b5 (by have := kA.lt; have := b4.size; omega)
      have hFr5 := hFr.agree (Agree.of_below b5 fun k hk => hk.2)
      have hb5 : Below wr.heap.size wr w5 := by
        refine bB.trans ((b4.trans (b5.mono b4.size)).mono ?_)
        exact bB.size
      have hB3 := bB.size
      have hB4 := b4.size
      have hB5 := b5.size
      have g0 := kA5.cell 0
      have g1 := kA5.cell 1
      have g2 := kA5.cell 2
      simp only [List.getElem?_toArray, List.getElem?_cons_zero, List.getElem?_cons_succ] at g0 g1 g2
      clear kA T3 T4 b4 b5 bB hFr
      go_upto_block 2 with (fail)
      go_cut [9, 10] from 46 to 209 (fun vp vt wx => ∃ (ab c : Nat) (m : MS) (s : LS) (L : List (T3 × ByteArray)), Hid (Th w1 wx p g lg ab c n z (j + 1) m s L (L.map (·.1)) (L.map (·.2)) vp vt))
      case first =>
        as_aux_lemma =>
        by_cases hk1 : k = 1
        · obtain rfl := hk1
          have cA := HT.out.append hb5 (by omega) bs (by omega)
          clear T5
          go_wp2_with fail
          refine cA.mono ?_
          clear cA
          rintro e w6 ⟨hsz6, ag, hor⟩
          have ag6 : w5.heap.size ≤ w6.heap.size ∧ w4.heap.size ≤ w6.heap.size := ⟨hsz6, by omega⟩
          have kA6 : Blk w6 q 87 #[.int .i64 1, .string bs, .int .i64 oa, .int .i64 ob, .slice olA ol.length olc] := (ag q ⟨by have := HQ.out; omega, kA5.lt⟩).trans kA5
          have hFr6 := hFr5.agree (ag.mono fun k hk => ⟨by omega, by omega⟩)
          clear kA5 hFr5 ag g0 g1 g2
          rcases hor with ⟨v, E, hE, rfl, T6⟩ | ⟨jj, of, v, AO, hv, rfl, T6⟩
          · obtain ⟨pa, pb, pc⟩ := v
            have dE : decide (E = 0) = false := decide_eq_false hE
            have dE2 : (E == 0) = false := by simp [hE]
            have b7 : Below w6.heap.size w6 (w6.alloc (.cells #[.int .i64 pa, .int .i64 pb, .int .i64 pc] 95)) := (Below.refl _ _).alloc (Nat.le_refl _) _
            have kP := Blk.new w6 95 #[.int .i64 pa, .int .i64 pb, .int .i64 pc]
            have T7 := T6.below b7
            obtain ⟨W7, hW7⟩ : ∃ W7, w6.alloc (.cells #[.int .i64 pa, .int .i64 pb, .int .i64 pc] 95) = W7 := ⟨_, rfl⟩
            obtain ⟨qp, hqp⟩ : ∃ qp, w6.heap.size = qp := ⟨_, rfl⟩
            rw [hW7] at T7 kP b7
            have HQP := powers.lay hqp
            rw [hqp] at kP
            have f0 := kP.frozen 0
            have f1 := kP.frozen 1
            have f2 := kP.frozen 2
            obtain ⟨h0, h1, h2⟩ := kP.c3
            have hB6 := b7.size
            have c1 := open_ok T7.log
            rw [HU.out] at c1
            have hFr7 := hFr6.agree (Agree.of_below b7 fun k hk => by have := ag6.2; omega)
            clear T6 b7
            go_wp2_with fail
            refine c1.mono ?_
            clear c1
            rintro e w8 ⟨rfl, b8⟩
            have T8 := T7.below b8
            have hB7 := b8.size
            have hFr8 := hFr7.agree (Agree.of_below b8 fun k hk => by have := ag6.2; omega)
            have c1 := free_ok T8.log
            rw [HFL.out] at c1
            clear T7 b8 hFr7 kP f0 f1 f2 h0 h1 h2 hW7 hE
            go_wp2_with fail
            refine c1.mono ?_
            clear c1
            rintro e w9 ⟨v9, rfl, ho9, b9⟩
            obtain ⟨A9, c9, rfl, _, hR9⟩ := nsPost_slice ho9
            have hB8 := b9.size
            have T9 := T8.below b9
            have c1 := sameN_ok fl fl A9 FA c9 fc w9 hR9.rd (hFr8.agree (Agree.of_below b9 fun k hk => by have := ag6.2; omega)).rd (by omega) (by omega)
            rw [decide_eq_true (rfl : fl = fl), HFN.out] at c1
            rw [HFN.out]
            clear T8 b9 hFr8 ho9 hR9
            go_wp2_with fail
            refine c1.mono ?_
            clear c1
            rintro e w10 ⟨rfl, b10⟩
            have T10 := powers.lay ((T9.below b10).more (show j ≤ j + 1 by omega))
            clear T9 b10
            go_wp2_with fail
            go_meet
            exact ⟨_, _, _, _, _, T10⟩
          · obtain ⟨pa, pb, pc⟩ := v
            have HV := powers.lay hv
            clear hv
            have b7 : Below w6.heap.size w6 (w6.alloc (.cells #[.int .i64 pa, .int .i64 pb, .int .i64 pc] 95)) := (Below.refl _ _).alloc (Nat.le_refl _) _
            have kP := Blk.new w6 95 #[.int .i64 pa, .int .i64 pb, .int .i64 pc]
            have T7 := T6.below b7
            obtain ⟨W7, hW7⟩ : ∃ W7, w6.alloc (.cells #[.int .i64 pa, .int .i64 pb, .int .i64 pc] 95) = W7 := ⟨_, rfl⟩
            obtain ⟨qp, hqp⟩ : ∃ qp, w6.heap.size = qp := ⟨_, rfl⟩
            rw [hW7] at T7 kP b7
            have HQP := powers.lay hqp
            rw [hqp] at kP
            have f0 := kP.frozen 0
            have f1 := kP.frozen 1
            have f2 := kP.frozen 2
            obtain ⟨h0, h1, h2⟩ := kP.c3
            have hB6 := b7.size
            have c1 := open_ok T7.log
            have hu2 : (at3 (rollU s jj bs.size).ac (rollU s jj bs.size).o).b = (of : Int) + (bs.size : Int) := by
              show (at3 (rollU s jj bs.size).ac jj).b = _
              rw [rollU_at HT.out.log.ok AO.jlt, ← AO.use]
              dsimp only
              rw [if_pos rfl]
            have ho2 : (rollU s jj bs.size).o = jj := rfl
            rw [hu2, ho2] at c1
            have hfit := AO.fit
            have hms : m.size = z := HT.out.size
            have ew : IntKind.i64.wrap ((of : Int) + (bs.size : Int)) = (of : Int) + (bs.size : Int) := IntWalk.i64_in _ (by omega)
            have hFr7 := hFr6.agree (Agree.of_below b7 fun k hk => by have := ag6.2; omega)
            have kA7 := kA6.below b7 kA6.lt
            have hlenP : (List.length (L.map (·.1)) + 1) * 24 ≤ 140737488355328 := by rw [List.length_map]; have := HT.out.cnt; omega
            have hLj := HT.out.cnt
            have HVP := powers.lay (fun k (e : Value.ownBlock _ = some k) => (HT.out.own1.lt k e).2)
            have HAO := powers.lay AO
            clear T6 b7 AO hu2 ho2
            go_wp2_with fail
            refine c1.mono ?_
            clear c1
            rintro e w8 ⟨rfl, b8⟩
            have T8 := T7.below b8
            have hFr8 := hFr7.agree (Agree.of_below b8 fun k hk => by have := ag6.2; omega)
            have kA8 := kA7.below b8 kA7.lt
            have kP8 := kP.below b8 kP.lt
            have hv := HV.out
            simp only [T3.mk.injEq] at hv
            obtain ⟨rfl, rfl, rfl⟩ := hv
            obtain ⟨y0, y1, y2⟩ := kP8.c3
            have g0 := kA8.cell 0
            have g1 := kA8.cell 1
            have g2 := kA8.cell 2
            simp only [List.getElem?_toArray, List.getElem?_cons_zero, List.getElem?_cons_succ] at g0 g1 g2
            clear T7 b8 hFr7 kA7 kP f0 f1 f2 h0 h1 h2 hW7 HV
            have HL := powers.lay hLj
            by_cases hw : jj = s.o
            · subst hw
              have hUo : U = (of : Int) := by rw [← HU.out]; exact HAO.out.use
              subst hUo
              clear hFr8
              go_upto_region 24 with (fail)
              · exact absurd ‹some undef = some (Value.bool _)› (by simp [undef])
              · exact absurd ‹some undef = some (Value.bool _)› (by simp [undef])
              go_upto_region 25 with (at_builtin; refine wp_pl (e := ⟨(s.o : Int), (of : Int), (bs.size : Int)⟩) rfl _ _ rfl rfl T8.own1 rfl rfl rfl hlenP ?_; intro v9 w9 ho9 hk9 hv9 hz9)
              have T9 := T8.push1 ho9 hk9 hv9
              have kA9 := hk9.blk kA8 (fun e => by have := HVP.out q e; omega)
              have g0 := kA9.cell 0
              have g1 := kA9.cell 1
              have g2 := kA9.cell 2
              simp only [List.getElem?_toArray, List.getElem?_cons_zero, List.getElem?_cons_succ] at g0 g1 g2
              have hlenT : (List.length (L.map (·.2)) + 1) * 16 ≤ 140737488355328 := by rw [List.length_map]; omega
              clear T8 kA8 ho9 hk9 hv9 hlenP kP8 y0 y1 y2
              go_wp2_with (at_builtin; refine wp_tx (e := bs) rfl _ _ rfl rfl T9.own2 rfl rfl rfl hlenT ?_; intro v10 w10 ho10 hk10 hv10 hz10)
              have T10 := powers.lay (T9.push2 ho10 hk10 hv10)
              clear T9 ho10 hk10 hv10
              rw [show L.map (·.1) ++ [(⟨(s.o : Int), (of : Int), (bs.size : Int)⟩ : T3)] = (L ++ [((⟨(s.o : Int), (of : Int), (bs.size : Int)⟩ : T3), bs)]).map (·.1) by rw [List.map_append]; rfl, show L.map (·.2) ++ [bs] = (L ++ [((⟨(s.o : Int), (of : Int), (bs.size : Int)⟩ : T3), bs)]).map (·.2) by rw [List.map_append]; rfl] at T10
              go_meet
              exact ⟨_, _, _, _, _, T10⟩
            · have hw1 := hw
              obtain ⟨hw1', hw2, hw3⟩ : m.size < ((at3 s.ac s.o).b + (bs.size : Int)) ∧ first s.ac 1 = some jj ∧ of = 0 := by
                rcases HAO.out.where_ with e | e
                · exact absurd e hw
                · exact e
              have hne : jj ≠ s.o := fun e => hw1 e
              have q1 : decide ((jj : Int) = (s.o : Int)) = false := decide_eq_false (by omega)
              have q1' : ((jj : Int) == (s.o : Int)) = false := by simp; omega
              obtain ⟨t, hth⟩ := those_first hw2
              rw [HFL.out] at hth
              have hfn1 : 1 ≤ fn := by rw [← HFN.out, hth]; simp
              have q2 : decide ((fn : Int) = 0) = false := decide_eq_false (by omega)
              have q2' : ((fn : Int) == 0) = false := by simp; omega
              have q3 : decide (0 < fn) = true := decide_eq_true (by omega)
              obtain ⟨fb, fo, rfl, hfb, hf0⟩ := hFr8 0 (.int .i64 (jj : Int)) (by rw [hth]; rfl)
              have hf1 := hf0
              rw [Nat.add_zero] at hf1
              have e7 : IntKind.i64.wrap ((z : Int) - U) = (z : Int) - U := IntWalk.i64_in _ (by have h1 := HT.out.log.ok.used s.o HT.out.log.ok.o; rw [HU.out] at h1; omega)
              have q4 : decide ((bs.size : Int) ≤ (z : Int) - U) = false := decide_eq_false (by rw [HU.out] at hw1'; omega)
              obtain rfl := hw3
              have c1 := kind_ok T8.log (s.o : Int)
              have hkd : kindI (rollU s jj bs.size) (s.o : Int) = 2 := by
                have hso := HT.out.log.ok.o
                unfold kindI
                rw [rollU_len, if_pos ⟨by omega, by omega⟩, Int.toNat_natCast, rollU_at HT.out.log.ok HAO.out.jlt]
                dsimp only
                rw [if_neg hne, if_pos rfl]
              rw [hkd] at c1
              clear hFr8 hth hkd
              go_upto_region 24 with (go_at_call 41; refine c1.mono ?_; clear c1; rintro e w8 ⟨rfl, rfl⟩)
              go_upto_region 25 with (at_builtin; refine wp_pl (e := ⟨(jj : Int), ((0 : Nat) : Int), (bs.size : Int)⟩) rfl _ _ rfl rfl T8.own1 rfl rfl rfl hlenP ?_; intro v9 w9 ho9 hk9 hv9 hz9)
              have T9 := T8.push1 ho9 hk9 hv9
              have kA9 := hk9.blk kA8 (fun e => by have := HVP.out q e; omega)
              have g0 := kA9.cell 0
              have g1 := kA9.cell 1
              have g2 := kA9.cell 2
              simp only [List.getElem?_toArray, List.getElem?_cons_zero, List.getElem?_cons_succ] at g0 g1 g2
              have hlenT : (List.length (L.map (·.2)) + 1) * 16 ≤ 140737488355328 := by rw [List.length_map]; omega
              clear T8 kA8 ho9 hk9 hv9 hlenP kP8 y0 y1 y2
              go_wp2_with (at_builtin; refine wp_tx (e := bs) rfl _ _ rfl rfl T9.own2 rfl rfl rfl hlenT ?_; intro v10 w10 ho10 hk10 hv10 hz10)
              have T10 := powers.lay (T9.push2 ho10 hk10 hv10)
              clear T9 ho10 hk10 hv10
              rw [show L.map (·.1) ++ [(⟨(jj : Int), ((0 : Nat) : Int), (bs.size : Int)⟩ : T3)] = (L ++ [((⟨(jj : Int), ((0 : Nat) : Int), (bs.size : Int)⟩ : T3), bs)]).map (·.1) by rw [List.map_append]; rfl, show L.map (·.2) ++ [bs] = (L ++ [((⟨(jj : Int), ((0 : Nat) : Int), (bs.size : Int)⟩ : T3), bs)]).map (·.2) by rw [List.map_append]; rfl] at T10
              go_meet
              exact ⟨_, _, _, _, _, T10⟩
        · by_cases hk2 : k = 2
          · obtain rfl := hk2
            obtain ⟨A1, q1, A2, q2, e1, e2⟩ := T5.forms
            subst e1
            subst e2
            have hr := pkS_lt oa 3 (by omega)
            have hp3 := fun wx => pickS_ok oa 3 (by omega) (by omega) wx
            rw [show ((3 : Nat) : Int) = 3 from rfl] at hp3
            generalize pkS oa 3 = r at hr hp3
            have hLj := HT.out.cnt
            clear g0 g1 g2 hFr5
            go_wp2_with fail
            go_loopw [20, 21, 22] (fun kv ov i wx => ∃ t : Nat, i = .int .i64 (t : Int) ∧ t ≤ L.length ∧ Hid (Kp w5 wx (keepI r (L.map (·.1)) t) (keepI r (L.map (·.2)) t) kv ov)) (fun _ _ i _ => L.length - (RowKit.intOf i).toNat)
            case atStart => exact ⟨0, rfl, Nat.zero_le _, powers.lay (Kp.nil w5)⟩
            case round =>
              as_aux_lemma =>
              obtain ⟨t, rfl, ht, HK⟩ := hrel
              have et : IntKind.i64.wrap ((t : Int) + 1) = (t : Int) + 1 := IntWalk.i64_in _ (by omega)
              by_cases hlt : t < L.length
              · have n2 : t + 1 ≤ L.length := hlt
                have d3 : decide ((t : Int) < (L.length : Int)) = true := decide_eq_true (by omega)
                have d4 : decide (t < L.length) = true := decide_eq_true hlt
                have kAr := kA5.below HK.out.hb kA5.lt
                have g0 := kAr.cell 0
                have g1 := kAr.cell 1
                have g2 := kAr.cell 2
                simp only [List.getElem?_toArray, List.getElem?_cons_zero, List.getElem?_cons_succ] at g0 g1 g2
                have tm : Int.tmod (t : Int) 3 = ((t % 3 : Nat) : Int) := rfl
                have tm' : IntKind.i64.wrap ((t % 3 : Nat) : Int) = ((t % 3 : Nat) : Int) := IntWalk.i64_in _ (by omega)
                by_cases hm : t % 3 = r
                · have q5 : decide (((t % 3 : Nat) : Int) = (r : Int)) = true := decide_eq_true (by omega)
                  have q6 : (((t % 3 : Nat) : Int) == (r : Int)) = true := by simp; omega
                  have q7 : decide (t % 3 = r) = true := decide_eq_true hm
                  have HK2 : Hid (Kp w5 wr (keepI r (L.map (·.1)) (t + 1)) (keepI r (L.map (·.2)) (t + 1)) _ _) := powers.lay (by rw [keepI_no hm, keepI_no hm]; exact HK.out)
                  clear HK hlt hm
                  generalize t % 3 = tr at *
                  go_wp2_with fail
                  refine (hp3 _).mono ?_
                  rintro e w7 ⟨rfl, rfl⟩
                  go_wp2_with fail
                  go_roundw
                  case rel => exact ⟨t + 1, by go_num, n2, HK2⟩
                  case measure => first | (simp [RowKit.intOf]; done) | (simp [RowKit.intOf]; omega) | omega
                · have q5 : decide (((t % 3 : Nat) : Int) = (r : Int)) = false := decide_eq_false (by omega)
                  have q6 : (((t % 3 : Nat) : Int) == (r : Int)) = false := by simp; omega
                  have q7 : decide (t % 3 = r) = false := decide_eq_false hm
                  obtain ⟨B1, p1, B2, p2, b1, o1, b2, o2, e1, e2, e3, e4, hb1, hb2, x0, x1, x2, x3⟩ := T5.cells hlt
                  cases e1
                  cases e2
                  subst e3
                  subst e4
                  have ht1 : t < (L.map (·.1)).length := by rw [List.length_map]; exact hlt
                  have ht2 : t < (L.map (·.2)).length := by rw [List.length_map]; exact hlt
                  have ky1 := keepI_yes hm ht1
                  have ky2 := keepI_yes hm ht2
                  rw [List.getElem_map] at ky1 ky2
                  have z0 := (HK.out.hb.cell (p := ⟨b1, o1 + t * 3, none⟩) hb1).trans x0
                  have z1 := (HK.out.hb.cell (p := ⟨b1, o1 + t * 3 + 1, none⟩) hb1).trans x1
                  have z2 := (HK.out.hb.cell (p := ⟨b1, o1 + t * 3 + 2, none⟩) hb1).trans x2
                  have z3 := (HK.out.hb.cell (p := ⟨b2, o2 + t, none⟩) hb2).trans x3
                  have hkl1 := keepI_len r (L.map (·.1)) t
                  have hkl2 := keepI_len r (L.map (·.2)) t
                  have hlenP : (List.length (keepI r (L.map (·.1)) t) + 1) * 24 ≤ 140737488355328 := by omega
                  have hlenT : (List.length (keepI r (L.map (·.2)) t) + 1) * 16 ≤ 140737488355328 := by omega
                  have HKY1 := powers.lay ky1
                  have HKY2 := powers.lay ky2
                  have hbs1 : b1 < wr.heap.size := by have := HK.out.hb.size; omega
                  have hbs2 : b2 < wr.heap.size := by have := HK.out.hb.size; omega
                  generalize keepI r (L.map (·.1)) t = kp1 at *
                  generalize keepI r (L.map (·.2)) t = kp2 at *
                  generalize L[t] = x at *
                  obtain ⟨⟨xa, xb, xc⟩, xt⟩ := x
                  simp only at z0 z1 z2 z3 HKY1 HKY2
                  have HM := powers.lay hm
                  have HLT := powers.lay hlt
                  clear x0 x1 x2 x3 ky1 ky2 hm hlt ht1 ht2
                  generalize t % 3 = tr at *
                  go_wp2_with fail
                  refine (hp3 _).mono ?_
                  rintro e w7 ⟨rfl, rfl⟩
                  go_upto_region 35 with (at_builtin; refine wp_pl (e := ⟨xa, xb, xc⟩) rfl _ _ rfl rfl HK.out.own1 rfl rfl rfl hlenP ?_; intro v9 w9 ho9 hk9 hv9 hz9)
                  have K9 := HK.out.push1 ho9 hk9 hv9
                  have z4 := (K9.hb.cell (p := ⟨b2, o2 + t, none⟩) hb2).trans ((HK.out.hb.cell (p := ⟨b2, o2 + t, none⟩) hb2).symm.trans z3)
                  have hbs3 : b2 < w9.heap.size := by have := K9.hb.size; omega
                  clear HK ho9 hk9 hv9 z0 z1 z2 z3
                  go_wp2_with (at_builtin; refine wp_tx (e := xt) rfl _ _ rfl rfl K9.own2 rfl rfl rfl hlenT ?_; intro v10 w10 ho10 hk10 hv10 hz10)
                  have K10 := powers.lay (K9.push2 ho10 hk10 hv10)
                  clear K9 ho10 hk10 hv10
                  go_roundw
                  case rel => exact ⟨t + 1, by go_num, n2, by rw [HKY1.out, HKY2.out]; exact K10⟩
                  case measure => first | (simp [RowKit.intOf]; done) | (simp [RowKit.intOf]; omega) | omega
              · obtain rfl : t = L.length := by omega
                have d3 : decide ((L.length : Int) < (L.length : Int)) = false := decide_eq_false (by omega)
                obtain ⟨A3, c3, rfl, cS⟩ := T5.settle (L' := keepI r L L.length) (by rw [← keepI_map, ← keepI_map]; exact HK.out) ((keepI_sub r L L.length).trans (List.take_sublist _ _)) (by omega)
                clear HK hlt
                go_wp2_with fail
                refine cS.mono ?_
                clear cS
                rintro e w7 ⟨rfl, s7, ab7, c7, T7⟩
                have T8 := powers.lay (T7.more (show j ≤ j + 1 by omega))
                clear T7
                go_wp2_with fail
                go_meet
                exact ⟨_, _, _, _, _, T8⟩
          · by_cases hk3 : k = 3
            · obtain rfl := hk3
              obtain ⟨A1, q1, A2, q2, e1, e2⟩ := T5.forms
              subst e1
              subst e2
              have hr := pkS_lt oa 3 (by omega)
              have hp3 := fun wx => pickS_ok oa 3 (by omega) (by omega) wx
              rw [show ((3 : Nat) : Int) = 3 from rfl] at hp3
              generalize pkS oa 3 = r at hr hp3
              have hLj := HT.out.cnt
              clear g0 g1 g2 hFr5
              go_wp2_with fail
              go_loopw [20, 21, 22] (fun kv ov i wx => ∃ t : Nat, i = .int .i64 (t : Int) ∧ t ≤ L.length ∧ Hid (Kp w5 wx (keepI r (L.map (·.1)) t) (keepI r (L.map (·.2)) t) kv ov)) (fun _ _ i _ => L.length - (RowKit.intOf i).toNat)
              case atStart => exact ⟨0, rfl, Nat.zero_le _, powers.lay (Kp.nil w5)⟩
              case round =>
                as_aux_lemma =>
                obtain ⟨t, rfl, ht, HK⟩ := hrel
                have et : IntKind.i64.wrap ((t : Int) + 1) = (t : Int) + 1 := IntWalk.i64_in _ (by omega)
                by_cases hlt : t < L.length
                · have n2 : t + 1 ≤ L.length := hlt
                  have d3 : decide ((t : Int) < (L.length : Int)) = true := decide_eq_true (by omega)
                  have d4 : decide (t < L.length) = true := decide_eq_true hlt
                  have kAr := kA5.below HK.out.hb kA5.lt
                  have g0 := kAr.cell 0
                  have g1 := kAr.cell 1
                  have g2 := kAr.cell 2
                  simp only [List.getElem?_toArray, List.getElem?_cons_zero, List.getElem?_cons_succ] at g0 g1 g2
                  have tm : Int.tmod (t : Int) 3 = ((t % 3 : Nat) : Int) := rfl
                  have tm' : IntKind.i64.wrap ((t % 3 : Nat) : Int) = ((t % 3 : Nat) : Int) := IntWalk.i64_in _ (by omega)
                  by_cases hm : t % 3 = r
                  · have q5 : decide (((t % 3 : Nat) : Int) = (r : Int)) = true := decide_eq_true (by omega)
                    have q6 : (((t % 3 : Nat) : Int) == (r : Int)) = true := by simp; omega
                    have q7 : decide (t % 3 = r) = true := decide_eq_true hm
                    have HK2 : Hid (Kp w5 wr (keepI r (L.map (·.1)) (t + 1)) (keepI r (L.map (·.2)) (t + 1)) _ _) := powers.lay (by rw [keepI_no hm, keepI_no hm]; exact HK.out)
                    clear HK hlt hm
                    generalize t % 3 = tr at *
                    go_wp2_with fail
                    refine (hp3 _).mono ?_
                    rintro e w7 ⟨rfl, rfl⟩
                    go_wp2_with fail
                    go_roundw
                    case rel => exact ⟨t + 1, by go_num, n2, HK2⟩
                    case measure => first | (simp [RowKit.intOf]; done) | (simp [RowKit.intOf]; omega) | omega
                  · have q5 : decide (((t % 3 : Nat) : Int) = (r : Int)) = false := decide_eq_false (by omega)
                    have q6 : (((t % 3 : Nat) : Int) == (r : Int)) = false := by simp; omega
                    have q7 : decide (t % 3 = r) = false := decide_eq_false hm
                    obtain ⟨B1, p1, B2, p2, b1, o1, b2, o2, e1, e2, e3, e4, hb1, hb2, x0, x1, x2, x3⟩ := T5.cells hlt
                    cases e1
                    cases e2
                    subst e3
                    subst e4
                    have ht1 : t < (L.map (·.1)).length := by rw [List.length_map]; exact hlt
                    have ht2 : t < (L.map (·.2)).length := by rw [List.length_map]; exact hlt
                    have ky1 := keepI_yes hm ht1
                    have ky2 := keepI_yes hm ht2
                    rw [List.getElem_map] at ky1 ky2
                    have z0 := (HK.out.hb.cell (p := ⟨b1, o1 + t * 3, none⟩) hb1).trans x0
                    have z1 := (HK.out.hb.cell (p := ⟨b1, o1 + t * 3 + 1, none⟩) hb1).trans x1
                    have z2 := (HK.out.hb.cell (p := ⟨b1, o1 + t * 3 + 2, none⟩) hb1).trans x2
                    have z3 := (HK.out.hb.cell (p := ⟨b2, o2 + t, none⟩) hb2).trans x3
                    have hkl1 := keepI_len r (L.map (·.1)) t
                    have hkl2 := keepI_len r (L.map (·.2)) t
                    have hlenP : (List.length (keepI r (L.map (·.1)) t) + 1) * 24 ≤ 140737488355328 := by omega
                    have hlenT : (List.length (keepI r (L.map (·.2)) t) + 1) * 16 ≤ 140737488355328 := by omega
                    have HKY1 := powers.lay ky1
                    have HKY2 := powers.lay ky2
                    have hbs1 : b1 < wr.heap.size := by have := HK.out.hb.size; omega
                    have hbs2 : b2 < wr.heap.size := by have := HK.out.hb.size; omega
                    generalize keepI r (L.map (·.1)) t = kp1 at *
                    generalize keepI r (L.map (·.2)) t = kp2 at *
                    generalize L[t] = x at *
                    obtain ⟨⟨xa, xb, xc⟩, xt⟩ := x
                    simp only at z0 z1 z2 z3 HKY1 HKY2
                    have HM := powers.lay hm
                    have HLT := powers.lay hlt
                    clear x0 x1 x2 x3 ky1 ky2 hm hlt ht1 ht2
                    generalize t % 3 = tr at *
                    go_wp2_with fail
                    refine (hp3 _).mono ?_
                    rintro e w7 ⟨rfl, rfl⟩
                    go_upto_region 35 with (at_builtin; refine wp_pl (e := ⟨xa, xb, xc⟩) rfl _ _ rfl rfl HK.out.own1 rfl rfl rfl hlenP ?_; intro v9 w9 ho9 hk9 hv9 hz9)
                    have K9 := HK.out.push1 ho9 hk9 hv9
                    have z4 := (K9.hb.cell (p := ⟨b2, o2 + t, none⟩) hb2).trans ((HK.out.hb.cell (p := ⟨b2, o2 + t, none⟩) hb2).symm.trans z3)
                    have hbs3 : b2 < w9.heap.size := by have := K9.hb.size; omega
                    clear HK ho9 hk9 hv9 z0 z1 z2 z3
                    go_wp2_with (at_builtin; refine wp_tx (e := xt) rfl _ _ rfl rfl K9.own2 rfl rfl rfl hlenT ?_; intro v10 w10 ho10 hk10 hv10 hz10)
                    have K10 := powers.lay (K9.push2 ho10 hk10 hv10)
                    clear K9 ho10 hk10 hv10
                    go_roundw
                    case rel => exact ⟨t + 1, by go_num, n2, by rw [HKY1.out, HKY2.out]; exact K10⟩
                    case measure => first | (simp [RowKit.intOf]; done) | (simp [RowKit.intOf]; omega) | omega
                · obtain rfl : t = L.length := by omega
                  have d3 : decide ((L.length : Int) < (L.length : Int)) = false := decide_eq_false (by omega)
                  obtain ⟨A3, c3, rfl, cS⟩ := T5.settle (L' := keepI r L L.length) (by rw [← keepI_map, ← keepI_map]; exact HK.out) ((keepI_sub r L L.length).trans (List.take_sublist _ _)) (by omega)
                  clear HK hlt
                  go_wp2_with fail
                  refine cS.mono ?_
                  clear cS
                  rintro e w7 ⟨rfl, s7, ab7, c7, T7⟩
                  have T8 := powers.lay (T7.more (show j ≤ j + 1 by omega))
                  clear T7
                  go_wp2_with fail
                  go_meet
                  exact ⟨_, _, _, _, _, T8⟩
            · have q1 : decide (k = 1) = false := decide_eq_false hk1
              have q2 : decide (k = 2) = false := decide_eq_false hk2
              have q3 : decide (k = 3) = false := decide_eq_false hk3
              have q1' : (k == 1) = false := by simp [hk1]
              have q2' : (k == 2) = false := by simp [hk2]
              have q3' : (k == 3) = false := by simp [hk3]
              have T8 := powers.lay (T5.more (show j ≤ j + 1 by omega))
              clear g0 g1 g2
              go_wp2_with fail
              go_meet
              exact ⟨_, _, _, _, _, T8⟩
      case rest =>
      as_aux_lemma =>
      obtain ⟨ab2, c2, m2, s2, L2, HT6⟩ := hcut
      clear T5 kA5 hFr5 g0 g1 g2 hb5 hB3 hB4 hB5 HU HFL HFN hflen
      obtain ⟨A1, q1, A2, q2, e1, e2⟩ := HT6.out.forms
      subst e1
      subst e2
      have T6 := HT6.out
      have hlg := T6.log
      have hok := hlg.ok
      have hln : s2.ac.length = n := T6.len
      have hso : s2.o < n := by rw [← hln]; exact hok.o
      have hL2 := T6.cnt
      go_wp2_with fail
      go_loopw [24, 25] (fun a i wx => ∃ x cnt : Int, i = .int .i64 x ∧ a = .int .i64 cnt ∧ (-1 ≤ x ∧ x ≤ (n : Int) + 1) ∧ (cnt = if (s2.o : Int) < x then 1 else 0) ∧ wx = wc) (fun _ i _ => ((n : Int) + 1 - RowKit.intOf i).toNat)
      case atStart => exact ⟨-1, 0, rfl, rfl, by omega, by rw [if_neg (by omega)], by first | rfl | trivial⟩
      case round =>
        as_aux_lemma =>
        obtain ⟨x, cnt, rfl, rfl, hx, hcnt, rfl⟩ := hrel
        by_cases hle : x ≤ n
        · have ex : IntKind.i64.wrap (x + 1) = x + 1 := IntWalk.i64_in _ (by omega)
          have d3 : decide (x ≤ (n : Int)) = true := decide_eq_true hle
          have cK := kind_ok hlg x
          have cL := live_ok hlg x
          by_cases hin : 0 ≤ x ∧ x < (n : Int)
          · have hin1 := hin.1
            have hin2 := hin.2
            have d4 : decide (x < 0) = false := decide_eq_false (by omega)
            have d5 : decide ((n : Int) ≤ x) = false := decide_eq_false (by omega)
            obtain ⟨i, rfl⟩ := Int.eq_ofNat_of_zero_le hin.1
            have hki : kindI s2 (i : Int) = (at3 s2.ac i).a := by unfold kindI; rw [hln, if_pos hin]; rfl
            have hli : liveI s2 (i : Int) = (at3 s2.ac i).c := by unfold liveI; rw [hln, if_pos hin]; rfl
            have hkind := hok.kind i (by omega)
            rw [hki] at cK
            rw [hli] at cL
            have HC := powers.lay hcnt
            rcases hkind.1 with e | e | e
            · rw [e] at cK
              rw [(hok.free i (by omega) e).2] at cL
              have hc2 : cnt = if (s2.o : Int) < (i : Int) + 1 then 1 else 0 := by
                have : i ≠ s2.o := fun e2 => by have := hkind.2.2 e2; omega
                rw [hcnt]
                by_cases h : (s2.o : Int) < (i : Int)
                · rw [if_pos h, if_pos (by omega)]
                · rw [if_neg h, if_neg (by omega)]
              clear hki hli hkind hcnt e hin
              have HC2 := powers.lay hc2
              clear hc2
              go_wp2_with (first | (go_at_call 41; refine cK.mono ?_; clear cK; rintro e wx ⟨rfl, rfl⟩) | (go_at_call 43; refine cL.mono ?_; clear cL; rintro e wx ⟨rfl, rfl⟩))
              go_roundw
              case rel => exact ⟨(i : Int) + 1, cnt, by go_num, rfl, by omega, HC2.out, by first | rfl | trivial⟩
              case measure => first | (simp [RowKit.intOf]; done) | (simp [RowKit.intOf]; omega) | omega
            · rw [e] at cK
              have hc2 : cnt = if (s2.o : Int) < (i : Int) + 1 then 1 else 0 := by
                have : i ≠ s2.o := fun e2 => by have := hkind.2.2 e2; omega
                rw [hcnt]
                by_cases h : (s2.o : Int) < (i : Int)
                · rw [if_pos h, if_pos (by omega)]
                · rw [if_neg h, if_neg (by omega)]
              clear hki hli hkind hcnt e hin cL
              have HC2 := powers.lay hc2
              clear hc2
              go_wp2_with (go_at_call 41; refine cK.mono ?_; clear cK; rintro e wx ⟨rfl, rfl⟩)
              go_roundw
              case rel => exact ⟨(i : Int) + 1, cnt, by go_num, rfl, by omega, HC2.out, by first | rfl | trivial⟩
              case measure => first | (simp [RowKit.intOf]; done) | (simp [RowKit.intOf]; omega) | omega
            · rw [e] at cK
              have hio : i = s2.o := hkind.2.1 e
              have hc0 : cnt = 0 := by rw [hcnt, if_neg (by omega)]
              subst hc0
              have hc2 : (1 : Int) = if (s2.o : Int) < (i : Int) + 1 then 1 else 0 := by rw [if_pos (by omega)]
              clear hki hli hkind hcnt e hin cL HC
              have HC2 := powers.lay hc2
              clear hc2 hio
              go_wp2_with (go_at_call 41; refine cK.mono ?_; clear cK; rintro e wx ⟨rfl, rfl⟩)
              go_roundw
              case rel => exact ⟨(i : Int) + 1, 1, by go_num, by first | rfl | go_num, by omega, HC2.out, by first | rfl | trivial⟩
              case measure => first | (simp [RowKit.intOf]; done) | (simp [RowKit.intOf]; omega) | omega
          · have hki : kindI s2 x = 0 := by unfold kindI; rw [hln, if_neg hin]
            have hli : liveI s2 x = 0 := by unfold liveI; rw [hln, if_neg hin]
            rw [hki] at cK
            rw [hli] at cL
            have hc2 : cnt = if (s2.o : Int) < x + 1 then 1 else 0 := by
              rw [hcnt]
              by_cases h : (s2.o : Int) < x
              · rw [if_pos h, if_pos (by omega)]
              · rw [if_neg h, if_neg (by omega)]
            have HC2 := powers.lay hc2
            clear hki hli hcnt hc2
            by_cases h0 : x < 0
            · have d4 : decide (x < 0) = true := decide_eq_true h0
              obtain rfl : x = -1 := by omega
              clear hin h0 ex d3 d4
              go_wp2_with (first | (go_at_call 41; refine cK.mono ?_; clear cK; rintro e wx ⟨rfl, rfl⟩) | (go_at_call 43; refine cL.mono ?_; clear cL; rintro e wx ⟨rfl, rfl⟩))
              go_roundw
              case rel => exact ⟨0, cnt, by first | rfl | go_num, rfl, by omega, HC2.out, by first | rfl | trivial⟩
              case measure => first | (simp [RowKit.intOf]; done) | (simp [RowKit.intOf]; omega) | omega
            · have d4 : decide (x < 0) = false := decide_eq_false h0
              have d5 : decide ((n : Int) ≤ x) = true := decide_eq_true (by omega)
              clear hin
              go_wp2_with (first | (go_at_call 41; refine cK.mono ?_; clear cK; rintro e wx ⟨rfl, rfl⟩) | (go_at_call 43; refine cL.mono ?_; clear cL; rintro e wx ⟨rfl, rfl⟩))
              go_roundw
              case rel => exact ⟨x + 1, cnt, by go_num, rfl, by omega, HC2.out, by first | rfl | trivial⟩
              case measure => first | (simp [RowKit.intOf]; done) | (simp [RowKit.intOf]; omega) | omega
        · have hc1 : cnt = 1 := by rw [hcnt, if_pos (by omega)]
          subst hc1
          have d3 : decide (x ≤ (n : Int)) = false := decide_eq_false hle
          clear hcnt hle hx
          have c1 := free_ok hlg
          go_wp2_with fail
          refine c1.mono ?_
          clear c1
          rintro e w8 ⟨v8, rfl, ho8, b8⟩
          obtain ⟨A8, c8, rfl, _⟩ := own_slice ho8
          have T8 := T6.below b8
          have c1 := sealed_ok T8.log
          clear ho8
          go_wp2_with fail
          refine c1.mono ?_
          clear c1
          rintro e w9 ⟨v9, rfl, ho9, b9⟩
          obtain ⟨A9, c9, rfl, _⟩ := own_slice ho9
          have T9 := T8.below b9
          have hpart := parted hok
          generalize (those s2.ac 1).length = f1 at *
          generalize (those s2.ac 2).length = f2 at *
          have e5 : IntKind.i64.wrap ((f1 : Int) + (f2 : Int)) = (f1 : Int) + (f2 : Int) := IntWalk.i64_in _ (by omega)
          have e6 : IntKind.i64.wrap ((f1 : Int) + (f2 : Int) + 1) = (n : Int) := by rw [IntWalk.i64_in _ (by omega)]; omega
          clear ho9 b8 b9 T8 T6 hpart d3 hlg hok
          go_wp2_with fail
          go_loopw [27] (fun i wx => ∃ t : Nat, i = .int .i64 (t : Int) ∧ t ≤ L2.length ∧ Hid (Below w9.heap.size w9 wx)) (fun i _ => L2.length - (RowKit.intOf i).toNat)
          case atStart => exact ⟨0, rfl, Nat.zero_le _, powers.lay (Below.refl _ _)⟩
          case round =>
            as_aux_lemma =>
            obtain ⟨t, rfl, ht, HW⟩ := hrel
            have et : IntKind.i64.wrap ((t : Int) + 1) = (t : Int) + 1 := IntWalk.i64_in _ (by omega)
            by_cases hlt : t < L2.length
            · have n2 : t + 1 ≤ L2.length := hlt
              have d3 : decide ((t : Int) < (L2.length : Int)) = true := decide_eq_true (by omega)
              have d4 : decide (t < L2.length) = true := decide_eq_true hlt
              obtain ⟨B1, p1, B2, p2, b1, o1, b2, o2, e1, e2, e3, e4, hb1, hb2, x0, x1, x2, x3⟩ := T9.cells hlt
              cases e1
              cases e2
              subst e3
              subst e4
              have z0 := (HW.out.cell (p := ⟨b1, o1 + t * 3, none⟩) hb1).trans x0
              have z1 := (HW.out.cell (p := ⟨b1, o1 + t * 3 + 1, none⟩) hb1).trans x1
              have z2 := (HW.out.cell (p := ⟨b1, o1 + t * 3 + 2, none⟩) hb1).trans x2
              have z3 := (HW.out.cell (p := ⟨b2, o2 + t, none⟩) hb2).trans x3
              obtain ⟨cR, kk, hkk, cK⟩ := T9.reads (List.getElem_mem hlt)
              have hbs1 : b1 < wr.heap.size := by have := HW.out.size; omega
              have hbs2 : b2 < wr.heap.size := by have := HW.out.size; omega
              generalize L2[t] = x at *
              obtain ⟨⟨xa, xb, xc⟩, xt⟩ := x
              simp only at z0 z1 z2 z3 cR cK
              have d5 : decide (kk = 1) = false := decide_eq_false hkk
              have d6 : (kk == 1) = false := by simp [hkk]
              obtain ⟨xl0, xl1, xl2⟩ := (T9.below HW.out).log.x
              clear x0 x1 x2 x3 hlt
              have hlgl : lg < wr.heap.size := by have := T9.log.lt.1; have := HW.out.size; omega
              go_upto_region 58 with (fail)
              obtain ⟨N, hN, hM⟩ := powers.norms (fun wx => Below wr.heap.size wr wx) wr (Below.refl _ _)
              have hne : Nonempty World := ⟨wr⟩
              have m0 := fun n => ((hN n).cell (p := ⟨b1, o1 + t * 3, none⟩) hbs1).trans z0
              have m1 := fun n => ((hN n).cell (p := ⟨b1, o1 + t * 3 + 1, none⟩) hbs1).trans z1
              have m2 := fun n => ((hN n).cell (p := ⟨b1, o1 + t * 3 + 2, none⟩) hbs1).trans z2
              have mg := fun n => ((hN n).cell (p := ⟨lg, 0, none⟩) hlgl).trans xl0
              have cR2 := fun n => cR _ (HW.out.trans ((hN n).mono HW.out.size))
              refine powers.region_class N (by kernel_rfl) (by kernel_rfl) (hM _ (Below.refl _ wr).drew) ?_
              repeat (go_big_quiet_step (first | (go_at_call 45; exact powers.call_same (cR2 _))))
              refine wpQuiet_nil ?_
              rintro _ ⟨n9, rfl⟩
              have hS0 := hN n9
              generalize N n9 = wd at hS0 ⊢
              clear m0 m1 m2 mg cR2 hM hN N n9 hne
              have z4 := (hS0.cell (p := ⟨b2, o2 + t, none⟩) hbs2).trans z3
              have z5 := (hS0.cell (p := ⟨b1, o1 + t * 3, none⟩) hbs1).trans z0
              have hbs3 : b1 < wd.heap.size := by have := hS0.size; omega
              have hbs4 : b2 < wd.heap.size := by have := hS0.size; omega
              have cK2 := cK _ (HW.out.trans (hS0.mono HW.out.size))
              have HW2 := powers.lay (HW.out.trans (hS0.mono HW.out.size))
              clear cK cR z0 z1 z2 z3
              go_wp2_with (go_at_call 41; refine cK2.mono ?_; clear cK2; rintro e wx ⟨rfl, rfl⟩)
              go_roundw
              case rel => exact ⟨t + 1, by go_num, n2, HW2⟩
              case measure => first | (simp [RowKit.intOf]; done) | (simp [RowKit.intOf]; omega) | omega
            · obtain rfl : t = L2.length := by omega
              have d3 : decide ((L2.length : Int) < (L2.length : Int)) = false := decide_eq_false (by omega)
              have HT10 := powers.lay (T9.below HW.out)
              clear T9 hlt
              go_wp2_with fail
              go_roundw
              case rel => exact ⟨j + 1, by go_num, n1, _, _, _, _, L2, HT10⟩
              case measure => first | (simp [RowKit.intOf]; done) | (simp [RowKit.intOf]; omega) | omega
    · obtain rfl : l.length = j := by omega
      have hfin := HB1.out.trans (HT.out.hb.mono HB1.out.size)
      have d1 : decide ((l.length : Int) < (l.length : Int)) = false := decide_eq_false (by omega)
      clear HT
      go_wp2_with fail
      go_ret
      exact ⟨rfl, hfin⟩

end Go.Proofs.Ythmamlghmagmkaa.segs
