/- SegmentFrees. -/
import Derived.Test.YtblfacodfmbodaaSgK


namespace Go.Proofs.Ytblfacodfmbodaa.segs
set_option linter.unusedVariables false
set_option linter.unusedSimpArgs false
open Go.RowKit Go.Shelf Go.Proofs.Ytblfacodfmbodaa.base Go.Proofs.Ytblfacodfmbodaa.trees Go.Proofs.Ytblfacodfmbodaa.powers Go.Proofs.Ytblfacodfmbodaa.mediums Go.Lib

theorem InvM.settled {m : MS} {s : LS} {ps ac' : List T3} (h : InvM m s) (hs : settledP s.ac ps = some ac') : InvM m ⟨s.o, ac'⟩ := by
  obtain ⟨e, _, ha⟩ := settled_at hs
  refine ⟨e.trans h.1, h.2.1, fun i hi => ?_⟩
  replace hi : i < ac'.length := hi
  rw [e] at hi
  show (at3 ac' i).b ≤ _
  rw [ha i hi]
  have := h.2.2 i hi
  by_cases hf : (at3 s.ac i).a = 2 ∧ liveIn ps i = 0
  · rw [free_yes hf]; exact Int.natCast_nonneg _
  · rw [free_no hf]; exact this
/-- Settle -/
theorem RoomAt.settle {w0 w : World} {p g lg ab c size past : Nat} {m : MS} {s : LS} (h : RoomAt w0 w p g lg ab c size past m s) (ps : List T3) (A : Option Addr) (cp : Nat) (F : Nat → Prop) (hF : ∀ k, F k → k < w.heap.size) (hP : PsF w F ps A cp) :
    Calls Try.prog 40 #[.pointer (some ⟨lg, 0, none⟩), .slice A ps.length cp] w fun e w' => (settledP s.ac ps = none ∧ e = .returned (.int .i64 121) ∧ Below w.heap.size w w') ∨
      (∃ ac' ab' c', settledP s.ac ps = some ac' ∧ e = .returned (.int .i64 0) ∧ RoomAt w0 w' p g lg ab' c' size past m ⟨s.o, ac'⟩ ∧ Keep (fun k => k = lg) w w') := by
  obtain ⟨⟨S, W, h1⟩, h2, h3, h4⟩ := h
  refine (settle_ok h1.log ps A cp F hF hP).mono ?_
  rintro e w' (⟨a, b, d⟩ | ⟨ac', ab', c', hs, he, hl, hk, hab⟩)
  · exact .inl ⟨a, b, d⟩
  · have hlen := (settled_at hs).1
    exact .inr ⟨ac', ab', c', hs, he, ⟨⟨S, W, h1.turn hl (hk.mono fun k hk _ => .inl hk) (.inr hab) hlen⟩, h2.settled hs, h3, h4⟩, hk⟩
theorem psF_nil (w : World) (F : Nat → Prop) : PsF w F [] none 0 := ⟨Nat.le_refl _, by simp, fun _ => rfl, RdF.nil _ _ _, fun x hx => by cases hx⟩
theorem settle_nil {s : LS} (h : OkL s) : ∃ ac', settledP s.ac [] = some ac' ∧ those ac' 2 = [] ∧ (those ac' 1).length + 1 = s.ac.length := by
  obtain ⟨ac', hs⟩ : ∃ ac', settledP s.ac [] = some ac' := ⟨_, by unfold settledP; exact if_pos ⟨rfl, List.Pairwise.nil⟩⟩
  obtain ⟨e, _, ha⟩ := settled_at hs
  have ok := h.p.settled (ps := []) (by simp) hs
  have h2 : those ac' 2 = [] := by
    rw [List.eq_nil_iff_forall_not_mem]
    intro i hi
    obtain ⟨h1, h2⟩ := mem_those.1 hi
    rw [e] at h1
    rw [ha i h1] at h2
    by_cases hf : (at3 s.ac i).a = 2 ∧ liveIn [] i = 0
    · rw [free_yes hf] at h2; simp at h2
    · rw [free_no hf] at h2; exact hf ⟨h2, rfl⟩
  refine ⟨ac', hs, h2, ?_⟩
  have := parted ok
  rw [h2] at this
  simp only [List.length_nil, Nat.add_zero] at this
  rw [this]
  exact e
theorem roomE_cases (size : Nat) (s : LS) (n : Nat) : roomE size s n = 0 ∨ roomE size s n = 2 ∨ (roomE size s n = 140 ∧ fc s = 0) := by
  unfold roomE
  split
  · exact .inr (.inl rfl)
  · split
    · exact .inl rfl
    · split
      · rename_i h
        rcases firstI_cases s.ac with ⟨_, e⟩ | ⟨j, e, _⟩
        · refine .inr (.inr ⟨rfl, ?_⟩)
          unfold fc
          rw [first_none.1 e]
          rfl
        · omega
      · exact .inl rfl

set_option maxRecDepth 100000 in
set_option maxHeartbeats 8000000 in
theorem law_frees (a0 a1 : Int) (l : List ByteArray) (A : Option Addr) (cc : Nat) (w : World) (hT : Ts w w.heap.size l A cc) :
    Calls Try.prog 10 #[.int .i64 a0, .int .i64 a1, .slice A l.length cc] w fun e w' => e = .returned (.bool true) ∧ Below w.heap.size w w' := by
  have hl : l.length ≤ 140737488355328 := by have := hT.2.1; omega
  go_enter Try.func10, Try.ntmps10
  go_upto_region 1 with (fail)
  go_cut [25] from 20 to 24 (fun x wx => ∃ bb : Bool, x = .bool bb ∧ Hid (bb = false → 1 ≤ a0 ∧ a0 ≤ 20) ∧ w = wx)
  case first =>
    by_cases h1 : a0 < 1
    · have d1 : decide (a0 < 1) = true := decide_eq_true h1
      clear h1
      go_wp2_with fail
      go_meet
      exact ⟨true, rfl, powers.lay (fun h => by cases h), rfl⟩
    · have d1 : decide (a0 < 1) = false := decide_eq_false h1
      by_cases h2 : 20 < a0
      · have d2 : decide (20 < a0) = true := decide_eq_true h2
        clear h2
        go_wp2_with fail
        go_meet
        exact ⟨true, rfl, powers.lay (fun h => by cases h), rfl⟩
      · have d2 : decide (20 < a0) = false := decide_eq_false h2
        have HB : Hid (1 ≤ a0 ∧ a0 ≤ 20) := powers.lay ⟨by omega, by omega⟩
        clear h1 h2
        go_wp2_with fail
        go_meet
        exact ⟨false, rfl, powers.lay (fun _ => HB.out), rfl⟩
  case rest =>
  obtain ⟨bb, rfl, HB, rfl⟩ := hcut
  go_upto_if 25 with (fail)
  go_cut [0] from 20 to 25 (fun x wx => ∃ m : Nat, (1 ≤ m ∧ m ≤ 20) ∧ x = .int .i64 (m : Int) ∧ w = wx)
  case first =>
    cases bb with
    | true =>
      go_wp2_with fail
      go_meet
      exact ⟨4, by omega, rfl, rfl⟩
    | false =>
      obtain ⟨m, rfl⟩ := Int.eq_ofNat_of_zero_le (show 0 ≤ a0 by have := HB.out rfl; omega)
      have hm := HB.out rfl
      clear HB
      go_wp2_with fail
      go_meet
      exact ⟨m, by omega, rfl, rfl⟩
  case rest =>
  clear HB
  obtain ⟨n, hn, rfl, rfl⟩ := hcut
  go_upto_region 3 with (fail)
  go_cut [31] from 26 to 30 (fun x wx => ∃ bb : Bool, x = .bool bb ∧ Hid (bb = false → 1 ≤ a1 ∧ a1 ≤ 60) ∧ w = wx)
  case first =>
    by_cases h1 : a1 < 1
    · have d1 : decide (a1 < 1) = true := decide_eq_true h1
      clear h1
      go_wp2_with fail
      go_meet
      exact ⟨true, rfl, powers.lay (fun h => by cases h), rfl⟩
    · have d1 : decide (a1 < 1) = false := decide_eq_false h1
      by_cases h2 : 60 < a1
      · have d2 : decide (60 < a1) = true := decide_eq_true h2
        clear h2
        go_wp2_with fail
        go_meet
        exact ⟨true, rfl, powers.lay (fun h => by cases h), rfl⟩
      · have d2 : decide (60 < a1) = false := decide_eq_false h2
        have HB : Hid (1 ≤ a1 ∧ a1 ≤ 60) := powers.lay ⟨by omega, by omega⟩
        clear h1 h2
        go_wp2_with fail
        go_meet
        exact ⟨false, rfl, powers.lay (fun _ => HB.out), rfl⟩
  case rest =>
  obtain ⟨bb, rfl, HB, rfl⟩ := hcut
  go_upto_if 31 with (fail)
  go_cut [1] from 26 to 31 (fun x wx => ∃ m : Nat, (1 ≤ m ∧ m ≤ 60) ∧ x = .int .i64 (m : Int) ∧ w = wx)
  case first =>
    cases bb with
    | true =>
      go_wp2_with fail
      go_meet
      exact ⟨12, by omega, rfl, rfl⟩
    | false =>
      obtain ⟨m, rfl⟩ := Int.eq_ofNat_of_zero_le (show 0 ≤ a1 by have := HB.out rfl; omega)
      have hm := HB.out rfl
      clear HB
      go_wp2_with fail
      go_meet
      exact ⟨m, by omega, rfl, rfl⟩
  case rest =>
  clear HB
  obtain ⟨z, hz, rfl, rfl⟩ := hcut
  have c1 := powers.new_ok w
  go_wp2_with fail
  refine c1.mono ?_
  clear c1
  rintro e w1 ⟨rfl, k1, b1, z1⟩
  have c2 := mnew_ok w.heap.size n z (by omega) (by omega) w1 (by omega)
  go_wp2_with fail
  refine c2.mono ?_
  clear c2
  rintro e w2 ⟨g, rfl, m2, b2⟩
  have k2 := k1.below b2 k1.lt
  have c3 := segs.new_ok m2
  go_wp2_with fail
  refine c3.mono ?_
  clear c3
  rintro e w3 ⟨lg, ab0, c0, rfl, l3, b3, q1, q2⟩
  rw [show (newM n z).segs.length = n by simp [newM]] at l3
  have s1 := b1.size
  have s2 := b2.size
  have T : Sg w.heap.size w w3 (fun k => w1.heap.size ≤ k ∧ k < w2.heap.size) w.heap.size g lg ab0 c0 (newM n z) (newL n) (-1) 0 :=
    ⟨m2.below b3, k2.below b3 k2.lt, by unfold In; omega, l3, ⟨⟨fun h => by omega, by omega⟩, fun h => by omega, by omega⟩, fun k hk => by rcases hk with h | h | h | h <;> omega, b1.trans ((b2.trans (b3.mono s2)).mono s1), Nat.le_refl _, by rw [newL_len]; simp [newM]⟩
  have R0 : Hid (RoomAt w w3 w.heap.size g lg ab0 c0 z 0 (newM n z) (newL n) ∧ (newM n z).past.length = 0 ∧ 0 ≤ 0 ∧ (newM n z).segs.length = n) := powers.lay ⟨⟨⟨_, 0, T⟩, inv_new _ _ (by omega), rfl, by simp [newM]⟩, by simp [newM], Nat.le_refl _, by simp [newM]⟩
  clear m2 b2 b3 k1 k2 l3 b1 z1 T q1 q2 s1 s2
  go_wp2_with fail
  go_loopw [49, 10] (fun i d wr => ∃ (j dn ab c : Nat) (m : MS) (s : LS), i = .int .i64 (j : Int) ∧ d = .int .i64 (dn : Int) ∧ j ≤ l.length ∧ j ≤ 60 ∧ Hid (RoomAt w wr w.heap.size g lg ab c z j m s ∧ m.past.length = dn ∧ dn ≤ j ∧ m.segs.length = n)) (fun i _ _ => l.length - (RowKit.intOf i).toNat)
  case atStart => exact ⟨0, 0, _, _, _, _, rfl, rfl, Nat.zero_le _, Nat.zero_le _, R0⟩
  case round =>
    clear R0
    obtain ⟨j, dn, ab, c, m, s, rfl, rfl, hj, hj2, HR⟩ := hrel
    have e1 : IntKind.i64.wrap ((j : Int) + 1) = (j : Int) + 1 := IntWalk.i64_in _ (by omega)
    by_cases hlt : j < l.length
    · obtain ⟨b, off, rfl, hbk, x0, hsz⟩ := (hT.below HR.out.1.hb).at_ hlt
      have n1 : j + 1 ≤ l.length := hlt
      have HT := powers.lay hT
      clear hT
      generalize l[j] = t at *
      unfold maxLen at hsz
      have d3 : decide (j < l.length) = true := decide_eq_true hlt
      by_cases h60 : j < 60
      · have d1 : decide (60 ≤ (j : Int)) = false := decide_eq_false (by omega)
        have d2 : decide (60 ≤ j) = false := decide_eq_false (by omega)
        have n2 : j + 1 ≤ 60 := h60
        have c1 := open_ok HR.out.1.ok.2
        generalize hU : (at3 s.ac s.o).b = U at *
        have HU := powers.lay hU
        clear hU hlt h60
        go_wp2_with fail
        refine c1.mono ?_
        clear c1
        rintro e w4 ⟨rfl, b4⟩
        have R4 := HR.out.1.below b4
        have c1 := free_ok R4.ok.2
        go_wp2_with fail
        refine c1.mono ?_
        clear c1
        rintro e w5 ⟨v, rfl, ho, b5⟩
        obtain ⟨VA, vc, rfl, _⟩ := own_slice ho
        have R5 := R4.below b5
        have HP := powers.lay HR.out.2
        rw [show (those s.ac 1).length = fc s from rfl]
        clear R4 HR ho b4 b5
        have cA := R5.append (by omega) t (by omega)
        have hfc : fc s ≤ 4096 := by have h1 := parted R5.ok.1; have h3 := R5.ok.1.len; unfold fc; omega
        rcases ap_on R5.ok.1 R5.inv t with ⟨hE, pE, pV, pM, pS, pL⟩ | ⟨_, jj, oo, AO⟩
        · rw [pE, pM, pS] at cA
          rcases roomE_cases m.size s t.size with h | h | ⟨h, hf0⟩
          · exact absurd h hE
          · rw [h] at cA
            clear hE pE pV pM pS pL h
            generalize apV m s (-1) t = pv at cA
            obtain ⟨pa, pb, pc⟩ := pv
            go_wp2_with fail
            refine cA.mono ?_
            clear cA
            rintro e w6 ⟨rfl, R6⟩
            have b7 : Below w6.heap.size w6 (w6.alloc (.cells #[.int .i64 pa, .int .i64 pb, .int .i64 pc] 95)) := (Below.refl _ _).alloc (Nat.le_refl _) _
            have kA := Blk.new w6 95 #[.int .i64 pa, .int .i64 pb, .int .i64 pc]
            have R7 := R6.below b7
            obtain ⟨W7, hW7⟩ : ∃ W7, w6.alloc (.cells #[.int .i64 pa, .int .i64 pb, .int .i64 pc] 95) = W7 := ⟨_, rfl⟩
            obtain ⟨q, hqd⟩ : ∃ q, w6.heap.size = q := ⟨_, rfl⟩
            rw [hW7] at R7 kA
            rw [hqd] at kA
            have f0 := kA.frozen 0
            have f1 := kA.frozen 1
            have f2 := kA.frozen 2
            obtain ⟨g0, g1, g2⟩ := kA.c3
            clear b7
            have c1 := open_ok R7.ok.2
            rw [HU.out] at c1
            clear R5 R6
            go_wp2_with fail
            refine c1.mono ?_
            clear c1
            rintro e w8 ⟨rfl, b8⟩
            have R8 := R7.below b8
            obtain ⟨S8, W8, T8⟩ := id R8.sg
            have cC := count_any T8.md
            rw [HP.out.1] at cC
            have HR9 : Hid (RoomAt w w8 w.heap.size g lg ab c z (j + 1) m s ∧ m.past.length = dn ∧ dn ≤ j + 1 ∧ m.segs.length = n) := powers.lay ⟨R8, HP.out.1, by have := HP.out.2.1; omega, HP.out.2.2⟩
            clear R7 R8 T8 kA f0 f1 f2 g0 g1 g2 hW7 hqd b8 HP HU
            by_cases h7 : j % 7 = 6
            · have t7 : Int.tmod (j : Int) 7 = 6 := by rw [show Int.tmod (j : Int) 7 = ((j % 7 : Nat) : Int) from rfl, h7]; rfl
              have t7' : IntKind.i64.wrap 6 = 6 := rfl
              obtain ⟨ac', hs, hn2, hn1⟩ := settle_nil HR9.out.1.ok.1
              have cS := HR9.out.1.settle [] none 0 (fun _ => False) (fun k h => h.elim) (psF_nil _ _)
              change Calls _ _ #[_, .slice none 0 0] _ _ at cS
              have HN := powers.lay (show s.ac.length = n from HR9.out.1.inv.1.trans HR9.out.2.2.2)
              clear h7
              go_wp2_with (go_at_call 47; refine cC.mono ?_; rintro e w8 ⟨rfl, rfl⟩)
              refine cS.mono ?_
              clear cS
              rintro e w11 (⟨hbad, _, _⟩ | ⟨ac2, ab2, c2, hs2, rfl, R11, _⟩)
              · rw [hs] at hbad; cases hbad
              · rw [hs] at hs2
                obtain rfl := Option.some.inj hs2
                have HP := powers.lay HR9.out.2
                clear HR9 hs hs2
                have c1 := sealed_ok R11.ok.2
                go_wp2_with fail
                refine c1.mono ?_
                clear c1
                rintro e w12 ⟨v1, rfl, ho1, b12⟩
                obtain ⟨V1, vc1, rfl, _⟩ := own_slice ho1
                have e0 : (those ac' 2).length = 0 := by rw [hn2]; rfl
                rw [show (those (LS.mk s.o ac').ac 2).length = 0 from e0]
                have R12 := R11.below b12
                have c1 := free_ok R12.ok.2
                clear R11 b12 ho1
                go_wp2_with fail
                refine c1.mono ?_
                clear c1
                rintro e w13 ⟨v2, rfl, ho2, b13⟩
                obtain ⟨V2, vc2, rfl, _⟩ := own_slice ho2
                rw [show (those (LS.mk s.o ac').ac 1).length = (those ac' 1).length from rfl]
                have R13 := R12.below b13
                have hn3 : ((those ac' 1).length : Int) = (n : Int) - 1 := by have := HN.out; omega
                generalize (those ac' 1).length = f1 at *
                have q1 : decide ((f1 : Int) = (n : Int) - 1) = true := decide_eq_true hn3
                have q2 : ((f1 : Int) == (n : Int) - 1) = true := by rw [hn3]; exact beq_self_eq_true _
                have e9 : IntKind.i64.wrap ((n : Int) - 1) = (n : Int) - 1 := IntWalk.i64_in _ (by omega)
                have c1 := kind_ok R13.ok.2 (s.o : Int)
                have hk3 : kindI ⟨s.o, ac'⟩ (s.o : Int) = 3 := by
                  have ho : s.o < ac'.length := R13.ok.1.o
                  unfold kindI
                  have hc : 0 ≤ (s.o : Int) ∧ (s.o : Int) < ((LS.mk s.o ac').ac.length : Int) := ⟨by omega, by show (s.o : Int) < (ac'.length : Int); omega⟩
                  rw [if_pos hc, Int.toNat_natCast]
                  exact (R13.ok.1.kind _ ho).2.2 rfl
                rw [hk3] at c1
                have HR13 : Hid (RoomAt w w13 w.heap.size g lg ab2 c2 z (j + 1) m ⟨s.o, ac'⟩ ∧ m.past.length = dn ∧ dn ≤ j + 1 ∧ m.segs.length = n) := powers.lay ⟨R13, HP.out⟩
                clear R12 R13 b13 ho2 hn1 hn2 hk3 e0 HP
                go_wp2_with (go_at_call 39; refine c1.mono ?_; rintro e w13 ⟨rfl, rfl⟩)
                go_roundw
                case rel => exact ⟨j + 1, dn, _, _, _, _, by go_num, by go_num, n1, n2, HR13⟩
                case measure => first | (simp [RowKit.intOf]; done) | (simp [RowKit.intOf]; omega) | omega
            · have t7 : Int.tmod (j : Int) 7 = ((j % 7 : Nat) : Int) := rfl
              have t8 : (((j % 7 : Nat) : Int) == 6) = false := by simp; omega
              have t9 : decide (((j % 7 : Nat) : Int) = 6) = false := decide_eq_false (by omega)
              have t10 : decide (j % 7 = 6) = false := decide_eq_false h7
              have hq7 : j % 7 ≤ 6 := by omega
              clear h7
              generalize j % 7 = r7 at *
              go_wp2_with (go_at_call 47; refine cC.mono ?_; rintro e w8 ⟨rfl, rfl⟩)
              go_roundw
              case rel => exact ⟨j + 1, dn, _, _, _, _, by go_num, by go_num, n1, n2, HR9⟩
              case measure => first | (simp [RowKit.intOf]; done) | (simp [RowKit.intOf]; omega) | omega
          · rw [h] at cA
            rw [hf0]
            clear hE pE pV pM pS pL h hf0
            generalize apV m s (-1) t = pv at cA
            obtain ⟨pa, pb, pc⟩ := pv
            go_wp2_with fail
            refine cA.mono ?_
            clear cA
            rintro e w6 ⟨rfl, R6⟩
            have b7 : Below w6.heap.size w6 (w6.alloc (.cells #[.int .i64 pa, .int .i64 pb, .int .i64 pc] 95)) := (Below.refl _ _).alloc (Nat.le_refl _) _
            have kA := Blk.new w6 95 #[.int .i64 pa, .int .i64 pb, .int .i64 pc]
            have R7 := R6.below b7
            obtain ⟨W7, hW7⟩ : ∃ W7, w6.alloc (.cells #[.int .i64 pa, .int .i64 pb, .int .i64 pc] 95) = W7 := ⟨_, rfl⟩
            obtain ⟨q, hqd⟩ : ∃ q, w6.heap.size = q := ⟨_, rfl⟩
            rw [hW7] at R7 kA
            rw [hqd] at kA
            have f0 := kA.frozen 0
            have f1 := kA.frozen 1
            have f2 := kA.frozen 2
            obtain ⟨g0, g1, g2⟩ := kA.c3
            clear b7
            have c1 := open_ok R7.ok.2
            rw [HU.out] at c1
            clear R5 R6
            go_wp2_with fail
            refine c1.mono ?_
            clear c1
            rintro e w8 ⟨rfl, b8⟩
            have R8 := R7.below b8
            obtain ⟨S8, W8, T8⟩ := id R8.sg
            have cC := count_any T8.md
            rw [HP.out.1] at cC
            have HR9 : Hid (RoomAt w w8 w.heap.size g lg ab c z (j + 1) m s ∧ m.past.length = dn ∧ dn ≤ j + 1 ∧ m.segs.length = n) := powers.lay ⟨R8, HP.out.1, by have := HP.out.2.1; omega, HP.out.2.2⟩
            clear R7 R8 T8 kA f0 f1 f2 g0 g1 g2 hW7 hqd b8 HP HU
            by_cases h7 : j % 7 = 6
            · have t7 : Int.tmod (j : Int) 7 = 6 := by rw [show Int.tmod (j : Int) 7 = ((j % 7 : Nat) : Int) from rfl, h7]; rfl
              have t7' : IntKind.i64.wrap 6 = 6 := rfl
              obtain ⟨ac', hs, hn2, hn1⟩ := settle_nil HR9.out.1.ok.1
              have cS := HR9.out.1.settle [] none 0 (fun _ => False) (fun k h => h.elim) (psF_nil _ _)
              change Calls _ _ #[_, .slice none 0 0] _ _ at cS
              have HN := powers.lay (show s.ac.length = n from HR9.out.1.inv.1.trans HR9.out.2.2.2)
              clear h7
              go_wp2_with (go_at_call 47; refine cC.mono ?_; rintro e w8 ⟨rfl, rfl⟩)
              refine cS.mono ?_
              clear cS
              rintro e w11 (⟨hbad, _, _⟩ | ⟨ac2, ab2, c2, hs2, rfl, R11, _⟩)
              · rw [hs] at hbad; cases hbad
              · rw [hs] at hs2
                obtain rfl := Option.some.inj hs2
                have HP := powers.lay HR9.out.2
                clear HR9 hs hs2
                have c1 := sealed_ok R11.ok.2
                go_wp2_with fail
                refine c1.mono ?_
                clear c1
                rintro e w12 ⟨v1, rfl, ho1, b12⟩
                obtain ⟨V1, vc1, rfl, _⟩ := own_slice ho1
                have e0 : (those ac' 2).length = 0 := by rw [hn2]; rfl
                rw [show (those (LS.mk s.o ac').ac 2).length = 0 from e0]
                have R12 := R11.below b12
                have c1 := free_ok R12.ok.2
                clear R11 b12 ho1
                go_wp2_with fail
                refine c1.mono ?_
                clear c1
                rintro e w13 ⟨v2, rfl, ho2, b13⟩
                obtain ⟨V2, vc2, rfl, _⟩ := own_slice ho2
                rw [show (those (LS.mk s.o ac').ac 1).length = (those ac' 1).length from rfl]
                have R13 := R12.below b13
                have hn3 : ((those ac' 1).length : Int) = (n : Int) - 1 := by have := HN.out; omega
                generalize (those ac' 1).length = f1 at *
                have q1 : decide ((f1 : Int) = (n : Int) - 1) = true := decide_eq_true hn3
                have q2 : ((f1 : Int) == (n : Int) - 1) = true := by rw [hn3]; exact beq_self_eq_true _
                have e9 : IntKind.i64.wrap ((n : Int) - 1) = (n : Int) - 1 := IntWalk.i64_in _ (by omega)
                have c1 := kind_ok R13.ok.2 (s.o : Int)
                have hk3 : kindI ⟨s.o, ac'⟩ (s.o : Int) = 3 := by
                  have ho : s.o < ac'.length := R13.ok.1.o
                  unfold kindI
                  have hc : 0 ≤ (s.o : Int) ∧ (s.o : Int) < ((LS.mk s.o ac').ac.length : Int) := ⟨by omega, by show (s.o : Int) < (ac'.length : Int); omega⟩
                  rw [if_pos hc, Int.toNat_natCast]
                  exact (R13.ok.1.kind _ ho).2.2 rfl
                rw [hk3] at c1
                have HR13 : Hid (RoomAt w w13 w.heap.size g lg ab2 c2 z (j + 1) m ⟨s.o, ac'⟩ ∧ m.past.length = dn ∧ dn ≤ j + 1 ∧ m.segs.length = n) := powers.lay ⟨R13, HP.out⟩
                clear R12 R13 b13 ho2 hn1 hn2 hk3 e0 HP
                go_wp2_with (go_at_call 39; refine c1.mono ?_; rintro e w13 ⟨rfl, rfl⟩)
                go_roundw
                case rel => exact ⟨j + 1, dn, _, _, _, _, by go_num, by go_num, n1, n2, HR13⟩
                case measure => first | (simp [RowKit.intOf]; done) | (simp [RowKit.intOf]; omega) | omega
            · have t7 : Int.tmod (j : Int) 7 = ((j % 7 : Nat) : Int) := rfl
              have t8 : (((j % 7 : Nat) : Int) == 6) = false := by simp; omega
              have t9 : decide (((j % 7 : Nat) : Int) = 6) = false := decide_eq_false (by omega)
              have t10 : decide (j % 7 = 6) = false := decide_eq_false h7
              have hq7 : j % 7 ≤ 6 := by omega
              clear h7
              generalize j % 7 = r7 at *
              go_wp2_with (go_at_call 47; refine cC.mono ?_; rintro e w8 ⟨rfl, rfl⟩)
              go_roundw
              case rel => exact ⟨j + 1, dn, _, _, _, _, by go_num, by go_num, n1, n2, HR9⟩
              case measure => first | (simp [RowKit.intOf]; done) | (simp [RowKit.intOf]; omega) | omega
        · have HV := powers.lay AO.V
          rw [AO.E, AO.M, AO.S] at cA
          have hUo := powers.lay (show (at3 (rollU s jj t.size).ac (rollU s jj t.size).o).b = (oo : Int) + (t.size : Int) by
            show (at3 (rollU s jj t.size).ac jj).b = _
            rw [rollU_at R5.ok.1 AO.jlt, ← AO.use]
            dsimp only
            rw [if_pos rfl])
          have hsz2 := AO.fit
          have hps := AO.past
          have hms : m.size = z := R5.size
          have hsegs : (putM m jj oo t).segs.length = m.segs.length := putM_len _ _ _ _
          have HPS := powers.lay hps
          have HSG := powers.lay hsegs
          have hrs : rollU s jj t.size = ⟨jj, (rollU s jj t.size).ac⟩ := rfl
          have HRS := powers.lay (show (rollU s jj t.size).o = jj from rfl)
          clear AO hps hsegs hrs
          generalize apV m s (-1) t = pv at *
          obtain ⟨pa, pb, pc⟩ := pv
          generalize putM m jj oo t = m9 at *
          generalize rollU s jj t.size = s9 at *
          go_wp2_with fail
          refine cA.mono ?_
          clear cA
          rintro e w6 ⟨rfl, R6⟩
          have b7 : Below w6.heap.size w6 (w6.alloc (.cells #[.int .i64 pa, .int .i64 pb, .int .i64 pc] 95)) := (Below.refl _ _).alloc (Nat.le_refl _) _
          have kA := Blk.new w6 95 #[.int .i64 pa, .int .i64 pb, .int .i64 pc]
          have R7 := R6.below b7
          obtain ⟨W7, hW7⟩ : ∃ W7, w6.alloc (.cells #[.int .i64 pa, .int .i64 pb, .int .i64 pc] 95) = W7 := ⟨_, rfl⟩
          obtain ⟨q, hqd⟩ : ∃ q, w6.heap.size = q := ⟨_, rfl⟩
          rw [hW7] at R7 kA
          rw [hqd] at kA
          have f0 := kA.frozen 0
          have f1 := kA.frozen 1
          have f2 := kA.frozen 2
          obtain ⟨g0, g1, g2⟩ := kA.c3
          clear b7
          have c1 := open_ok R7.ok.2
          rw [hUo.out, HRS.out] at c1
          have e4 : IntKind.i64.wrap ((dn : Int) + 1) = (dn : Int) + 1 := IntWalk.i64_in _ (by have := HP.out.2.1; omega)
          clear R5 R6
          go_wp2_with fail
          refine c1.mono ?_
          clear c1
          rintro e w8 ⟨rfl, b8⟩
          have R8 := R7.below b8
          have kA8 := kA.below b8 kA.lt
          have hv := HV.out
          simp only [T3.mk.injEq] at hv
          obtain ⟨rfl, rfl, rfl⟩ := hv
          obtain ⟨S8, W8, T8⟩ := id R8.sg
          have cC := count_any T8.md
          rw [HPS.out, HP.out.1] at cC
          obtain ⟨y0, y1, y2⟩ := kA8.c3
          have ew : IntKind.i64.wrap ((oo : Int) + (t.size : Int)) = (oo : Int) + (t.size : Int) := IntWalk.i64_in _ (by omega)
          have HR9 : Hid (RoomAt w w8 w.heap.size g lg ab c z (j + 1) m9 s9 ∧ m9.past.length = dn + 1 ∧ dn + 1 ≤ j + 1 ∧ m9.segs.length = n) := powers.lay ⟨R8, by rw [HPS.out, HP.out.1], by have := HP.out.2.1; omega, by rw [HSG.out]; exact HP.out.2.2⟩
          have HSO := powers.lay HRS.out
          clear R7 R8 T8 kA kA8 f0 f1 f2 g0 g1 g2 hW7 hqd b8 hms hsz2 HP HPS HSG HRS hUo HV
          rw [show ((dn + 1 : Nat) : Int) = (dn : Int) + 1 by omega] at cC
          by_cases h7 : j % 7 = 6
          · have t7 : Int.tmod (j : Int) 7 = 6 := by rw [show Int.tmod (j : Int) 7 = ((j % 7 : Nat) : Int) from rfl, h7]; rfl
            have t7' : IntKind.i64.wrap 6 = 6 := rfl
            obtain ⟨ac', hs, hn2, hn1⟩ := settle_nil HR9.out.1.ok.1
            have cS := HR9.out.1.settle [] none 0 (fun _ => False) (fun k h => h.elim) (psF_nil _ _)
            change Calls _ _ #[_, .slice none 0 0] _ _ at cS
            have HN := powers.lay (show s9.ac.length = n from HR9.out.1.inv.1.trans HR9.out.2.2.2)
            clear h7
            go_wp2_with (go_at_call 47; refine cC.mono ?_; rintro e w8 ⟨rfl, rfl⟩)
            refine cS.mono ?_
            clear cS
            rintro e w11 (⟨hbad, _, _⟩ | ⟨ac2, ab2, c2, hs2, rfl, R11, _⟩)
            · rw [hs] at hbad; cases hbad
            · rw [hs] at hs2
              obtain rfl := Option.some.inj hs2
              have HP := powers.lay HR9.out.2
              clear HR9 hs hs2
              rw [HSO.out] at R11
              have c1 := sealed_ok R11.ok.2
              go_wp2_with fail
              refine c1.mono ?_
              clear c1
              rintro e w12 ⟨v1, rfl, ho1, b12⟩
              obtain ⟨V1, vc1, rfl, _⟩ := own_slice ho1
              have e0 : (those ac' 2).length = 0 := by rw [hn2]; rfl
              rw [show (those (LS.mk jj ac').ac 2).length = 0 from e0]
              have R12 := R11.below b12
              have c1 := free_ok R12.ok.2
              clear R11 b12 ho1
              go_wp2_with fail
              refine c1.mono ?_
              clear c1
              rintro e w13 ⟨v2, rfl, ho2, b13⟩
              obtain ⟨V2, vc2, rfl, _⟩ := own_slice ho2
              rw [show (those (LS.mk jj ac').ac 1).length = (those ac' 1).length from rfl]
              have R13 := R12.below b13
              have hn3 : ((those ac' 1).length : Int) = (n : Int) - 1 := by have := HN.out; omega
              generalize (those ac' 1).length = f1 at *
              have q1 : decide ((f1 : Int) = (n : Int) - 1) = true := decide_eq_true hn3
              have q2 : ((f1 : Int) == (n : Int) - 1) = true := by rw [hn3]; exact beq_self_eq_true _
              have e9 : IntKind.i64.wrap ((n : Int) - 1) = (n : Int) - 1 := IntWalk.i64_in _ (by omega)
              have c1 := kind_ok R13.ok.2 (jj : Int)
              have hk3 : kindI ⟨jj, ac'⟩ (jj : Int) = 3 := by
                have ho : jj < ac'.length := R13.ok.1.o
                unfold kindI
                have hc : 0 ≤ (jj : Int) ∧ (jj : Int) < ((LS.mk jj ac').ac.length : Int) := ⟨by omega, by show (jj : Int) < (ac'.length : Int); omega⟩
                rw [if_pos hc, Int.toNat_natCast]
                exact (R13.ok.1.kind _ ho).2.2 rfl
              rw [hk3] at c1
              have HR13 : Hid (RoomAt w w13 w.heap.size g lg ab2 c2 z (j + 1) m9 ⟨jj, ac'⟩ ∧ m9.past.length = (dn + 1) ∧ (dn + 1) ≤ j + 1 ∧ m9.segs.length = n) := powers.lay ⟨R13, HP.out⟩
              clear R12 R13 b13 ho2 hn1 hn2 hk3 e0 HP
              go_wp2_with (go_at_call 39; refine c1.mono ?_; rintro e w13 ⟨rfl, rfl⟩)
              go_roundw
              case rel => exact ⟨j + 1, (dn + 1), _, _, _, _, by go_num, by go_num, n1, n2, HR13⟩
              case measure => first | (simp [RowKit.intOf]; done) | (simp [RowKit.intOf]; omega) | omega
          · have t7 : Int.tmod (j : Int) 7 = ((j % 7 : Nat) : Int) := rfl
            have t8 : (((j % 7 : Nat) : Int) == 6) = false := by simp; omega
            have t9 : decide (((j % 7 : Nat) : Int) = 6) = false := decide_eq_false (by omega)
            have t10 : decide (j % 7 = 6) = false := decide_eq_false h7
            have hq7 : j % 7 ≤ 6 := by omega
            clear h7
            generalize j % 7 = r7 at *
            go_wp2_with (go_at_call 47; refine cC.mono ?_; rintro e w8 ⟨rfl, rfl⟩)
            go_roundw
            case rel => exact ⟨j + 1, (dn + 1), _, _, _, _, by go_num, by go_num, n1, n2, HR9⟩
            case measure => first | (simp [RowKit.intOf]; done) | (simp [RowKit.intOf]; omega) | omega
      · have d1 : decide (60 ≤ (j : Int)) = true := decide_eq_true (by omega)
        have d2 : decide (60 ≤ j) = true := decide_eq_true (by omega)
        have hfin := HR.out.1.hb
        clear HR
        go_wp2_with fail
        go_ret
        exact ⟨rfl, hfin⟩
    · obtain rfl : l.length = j := by omega
      have hfin := HR.out.1.hb
      clear HR
      go_wp2_with fail
      go_ret
      exact ⟨rfl, hfin⟩

end Go.Proofs.Ytblfacodfmbodaa.segs
