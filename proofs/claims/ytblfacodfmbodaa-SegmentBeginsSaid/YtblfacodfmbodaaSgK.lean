/- SegmentRoom. -/
import Derived.Test.YtblfacodfmbodaaSgJ


namespace Go.Proofs.Ytblfacodfmbodaa.segs
set_option linter.unusedVariables false
set_option linter.unusedSimpArgs false
open Go.RowKit Go.Shelf Go.Proofs.Ytblfacodfmbodaa.base Go.Proofs.Ytblfacodfmbodaa.trees Go.Proofs.Ytblfacodfmbodaa.powers Go.Proofs.Ytblfacodfmbodaa.mediums Go.Lib

/-- how many segments are free -/
def fc (s : LS) : Nat := (those s.ac 1).length
/-- what holds behind some appends -/
structure RoomAt (w0 w : World) (p g lg ab c size : Nat) (past : Nat) (m : MS) (s : LS) : Prop where
  sg : ∃ S W, Sg w0.heap.size w0 w S p g lg ab c m s (-1) W
  inv : InvM m s
  size : m.size = size
  past : m.past.length ≤ past
theorem RoomAt.below {w0 w w' : World} {p g lg ab c size past : Nat} {m : MS} {s : LS} (h : RoomAt w0 w p g lg ab c size past m s) (hb : Below w.heap.size w w') : RoomAt w0 w' p g lg ab c size past m s := by
  obtain ⟨⟨S, W, h1⟩, h2, h3, h4⟩ := h
  exact ⟨⟨S, W, h1.below hb⟩, h2, h3, h4⟩
theorem RoomAt.hb {w0 w : World} {p g lg ab c size past : Nat} {m : MS} {s : LS} (h : RoomAt w0 w p g lg ab c size past m s) : Below w0.heap.size w0 w := by
  obtain ⟨⟨S, W, h1⟩, _⟩ := h
  exact h1.hb
theorem RoomAt.ok {w0 w : World} {p g lg ab c size past : Nat} {m : MS} {s : LS} (h : RoomAt w0 w p g lg ab c size past m s) : OkL s ∧ LgAt w g lg ab c s := by
  obtain ⟨⟨S, W, h1⟩, _⟩ := h
  exact ⟨h1.log.ok, h1.log⟩
/-- an append -/
theorem RoomAt.append {w0 w : World} {p g lg ab c size past : Nat} {m : MS} {s : LS} (h : RoomAt w0 w p g lg ab c size past m s) (hp : past ≤ 1000) (b : ByteArray) (hbs : b.size ≤ 9223372036854775807) :
    Calls Try.prog 37 #[.pointer (some ⟨lg, 0, none⟩), .string b] w fun e w' => e = .returned (.tuple #[(apV m s (-1) b).v, .int .i64 (apE m s (-1) b)]) ∧ RoomAt w0 w' p g lg ab c size (past + 1) (apM m s (-1) b) (apS m s (-1) b) := by
  obtain ⟨⟨S, W, h1⟩, h2, h3, h4⟩ := h
  refine (append_any h1 b hbs (by omega)).mono ?_
  rintro e w' ⟨rfl, S', T, _, _⟩
  refine ⟨rfl, ?_⟩
  rcases ap_on h1.log.ok h2 b with ⟨_, _, _, eM, eS, eL⟩ | ⟨_, j, o, A⟩
  · rw [eM, eS, eL] at T
    rw [eM, eS]
    exact ⟨⟨S', _, T⟩, h2, h3, by omega⟩
  · rw [A.M, A.S, A.L] at T
    rw [A.M, A.S]
    exact ⟨⟨S', _, T⟩, A.inv, h3, by rw [A.past]; omega⟩
/-- one fewer is free, or as many as before -/
theorem fc_app {m : MS} {s : LS} (h : OkL s) (hi : InvM m s) (b : ByteArray) : fc s ≤ fc (apS m s (-1) b) + 1 := by
  unfold fc
  rcases ap_on h hi b with ⟨_, _, _, _, eS, _⟩ | ⟨_, j, o, A⟩
  · rw [eS]; omega
  · rw [A.S]
    rcases A.free h with ⟨_, e⟩ | ⟨_, e⟩
    · rw [e]; omega
    · omega
/-- of f free ones at the beginning r are taken by k rows -/
def RoomP (q f k : Nat) (s : LS) : Prop := fc s ≤ f ∧ (fc s = f ∨ ∃ i : Nat, 1 ≤ i ∧ (at3 s.ac s.o).b ≤ (i : Int) * (q : Int) ∧ 4 * (f - fc s - 1) + i ≤ k)
theorem RoomP.start (q : Nat) (s : LS) : RoomP q (fc s) 0 s := ⟨Nat.le_refl _, .inl rfl⟩
theorem RoomP.most {q f k : Nat} {s : LS} (h : RoomP q f k s) : 4 * (f - fc s) ≤ k + 3 := by
  obtain ⟨h1, h2 | ⟨i, h2, h3, h4⟩⟩ := h <;> omega
theorem RoomP.step {q f k : Nat} {m : MS} {s : LS} (h : RoomP q f k s) (hs : OkL s) (hi : InvM m s) (hq : m.size = 4 * q) (hf : 101 < f) (hk : k ≤ 399) (b : ByteArray) (hb : 1 ≤ b.size ∧ b.size ≤ q) :
    apE m s (-1) b = 0 ∧ RoomP q f (k + 1) (apS m s (-1) b) := by
  have hm := h.most
  rcases ap_on hs hi b with ⟨hE, e1, _⟩ | ⟨_, j, o, A⟩
  · exfalso
    unfold roomE at hE
    rw [if_neg (by omega)] at hE
    split at hE
    · exact hE rfl
    · split at hE
      · rename_i h3
        rcases firstI_cases s.ac with ⟨_, e⟩ | ⟨j, e, _⟩
        · have := first_none.1 e
          unfold fc at hm
          rw [this] at hm
          simp at hm
          omega
        · omega
      · exact hE rfl
  · refine ⟨A.E, ?_⟩
    rw [A.S]
    have hfr := A.free hs
    have hob : (at3 (rollU s j b.size).ac (rollU s j b.size).o).b = (o : Int) + (b.size : Int) := by
      show (at3 (rollU s j b.size).ac j).b = _
      rw [rollU_at hs A.jlt, ← A.use]
      dsimp only
      rw [if_pos rfl]
    obtain ⟨h1, h2⟩ := h
    rcases hfr with ⟨ej, e⟩ | ⟨ej, e⟩
    · have hfe : fc (rollU s j b.size) = fc s := by unfold fc; rw [e]
      refine ⟨by omega, ?_⟩
      rcases h2 with h2 | ⟨i, h2, h3, h4⟩
      · exact .inl (by omega)
      · refine .inr ⟨i + 1, by omega, ?_, by omega⟩
        rw [hob]
        have : (at3 s.ac s.o).b = (o : Int) := by rw [← ej]; exact A.use
        rw [this] at h3
        have e2 : ((i + 1 : Nat) : Int) * (q : Int) = (i : Int) * (q : Int) + (q : Int) := by rw [Int.natCast_add, Int.add_mul]; omega
        omega
    · have hfe : fc (rollU s j b.size) + 1 = fc s := e
      refine ⟨by omega, .inr ⟨1, Nat.le_refl _, ?_, ?_⟩⟩
      · rw [hob]
        rcases A.where_ with e3 | ⟨_, _, e3⟩
        · exact absurd e3 ej
        · rw [e3]; omega
      · rcases h2 with h2 | ⟨i, h2, h3, h4⟩
        · omega
        · rcases A.where_ with e3 | ⟨e4, _, e3⟩
          · exact absurd e3 ej
          · have hi4 : 4 ≤ i := by
              rcases Nat.lt_or_ge i 4 with hlt | hge
              · exfalso
                have : (i : Int) * (q : Int) ≤ 3 * (q : Int) := Int.mul_le_mul_of_nonneg_right (by omega) (by omega)
                omega
              · exact hge
            omega

set_option maxRecDepth 100000 in
set_option maxHeartbeats 8000000 in
theorem law_room (a0 : Int) (l1 : List ByteArray) (A1 : Option Addr) (c1 : Nat) (l2 : List ByteArray) (A2 : Option Addr) (c2 : Nat) (w : World) (hT1 : Ts w w.heap.size l1 A1 c1) (hT2 : Ts w w.heap.size l2 A2 c2) :
    Calls Try.prog 8 #[.int .i64 a0, .slice A1 l1.length c1, .slice A2 l2.length c2] w fun e w' => e = .returned (.bool true) ∧ Below w.heap.size w w' := by
  have hk := pkS_lt a0 50 (by omega)
  have hpk := fun wx => pickS_ok a0 50 (by omega) (by omega) wx
  rw [show ((50 : Nat) : Int) = 50 from rfl] at hpk
  have h0 := awakeS_ok w
  have hl1 : l1.length ≤ 140737488355328 := by have := hT1.2.1; omega
  have hl2 : l2.length ≤ 140737488355328 := by have := hT2.2.1; omega
  generalize pkS a0 50 = z at hk hpk
  have e1 : IntKind.i64.wrap (1 + (z : Int)) = 1 + (z : Int) := IntWalk.i64_in _ (by omega)
  have e2 : IntKind.i64.wrap (4 * (1 + (z : Int))) = 4 * (1 + (z : Int)) := IntWalk.i64_in _ (by omega)
  go_enter Try.func8, Try.ntmps8
  go_wp2_with fail
  refine h0.mono ?_
  rintro e w1 ⟨rfl, b1⟩
  clear h0
  go_wp2_with fail
  refine (hpk _).mono ?_
  rintro e w1 ⟨rfl, rfl⟩
  clear hpk
  have cF := fresh_ok 200 (4 * (1 + z)) (by omega) (by omega) w1
  rw [show ((200 : Nat) : Int) = 200 from rfl, show ((4 * (1 + z) : Nat) : Int) = 4 * (1 + (z : Int)) by omega] at cF
  go_wp2_with fail
  refine cF.mono ?_
  clear cF
  rintro e w2 ⟨S, p, g, lg, ab, c, rfl, T⟩
  have R0 : Hid (RoomAt w1 w2 p g lg ab c (4 * (1 + z)) 0 (newM 200 (4 * (1 + z))) (newL 200) ∧ 199 ≤ fc (newL 200) + 0) := powers.lay ⟨⟨⟨S, 0, T⟩, inv_new _ _ (by omega), rfl, by simp [newM]⟩, by
    have := parted T.log.ok
    rw [newL_len] at this
    have h2 : those (newL 200).ac 2 = [] := by
      rw [List.eq_nil_iff_forall_not_mem]
      intro i hi
      obtain ⟨h1, h2⟩ := mem_those.1 hi
      rw [newL_len] at h1
      rw [newL_at (by omega) h1] at h2
      split at h2 <;> simp at h2
    rw [h2] at this
    unfold fc
    simp at this
    omega⟩
  have HB1 := powers.lay b1
  clear T e1 e2 b1
  go_wp2_with fail
  go_loopw [9] (fun i wr => ∃ (j : Nat) (m : MS) (s : LS), i = .int .i64 (j : Int) ∧ j ≤ l1.length ∧ j ≤ 90 ∧ Hid (RoomAt w1 wr p g lg ab c (4 * (1 + z)) j m s ∧ 199 ≤ fc s + j)) (fun i _ => l1.length - (RowKit.intOf i).toNat)
  case atStart => exact ⟨0, _, _, rfl, Nat.zero_le _, Nat.zero_le _, R0⟩
  case round =>
    clear R0
    obtain ⟨j, m, s, rfl, hj, hj2, HR⟩ := hrel
    have e1 : IntKind.i64.wrap ((j : Int) + 1) = (j : Int) + 1 := IntWalk.i64_in _ (by omega)
    by_cases hlt : j < l1.length ∧ j < 90
    · obtain ⟨b, off, rfl, hbk, x0, hsz⟩ := (hT1.below (HB1.out.trans (HR.out.1.hb.mono HB1.out.size))).at_ hlt.1
      have HT1 := powers.lay hT1
      have HT2 := powers.lay hT2
      clear hT1 hT2
      have n1 := hlt.1
      have n2 := hlt.2
      have d1 : decide ((j : Int) < (l1.length : Int)) = true := decide_eq_true (by omega)
      have d2 : decide ((j : Int) < 90) = true := decide_eq_true (by omega)
      have d3 : decide (j < l1.length) = true := decide_eq_true n1
      have d4 : decide (j < 90) = true := decide_eq_true n2
      generalize l1[j] = t at *
      have cA := HR.out.1.append (by omega) t (by unfold maxLen at hsz; omega)
      have HF := powers.lay (fc_app HR.out.1.ok.1 HR.out.1.inv t)
      generalize apV m s (-1) t = pv at *
      generalize apE m s (-1) t = pe at *
      clear hlt
      go_wp2_with fail
      refine cA.mono ?_
      clear cA
      rintro e w3 ⟨rfl, R3⟩
      have HR3 : Hid (RoomAt w1 w3 p g lg ab c (4 * (1 + z)) (j + 1) (apM m s (-1) t) (apS m s (-1) t) ∧ 199 ≤ fc (apS m s (-1) t) + (j + 1)) := powers.lay ⟨R3, by have := HR.out.2; have := HF.out; omega⟩
      clear R3
      go_wp2_with fail
      go_roundw
      case rel => exact ⟨j + 1, _, _, by go_num, n1, n2, HR3⟩
      case measure => first | (simp [RowKit.intOf]; done) | (simp [RowKit.intOf]; omega) | omega
    · by_cases h : j < l1.length
      · have d1 : decide ((j : Int) < (l1.length : Int)) = true := decide_eq_true (by omega)
        have d3 : decide (j < l1.length) = true := decide_eq_true h
        have d2 : decide ((j : Int) < 90) = false := decide_eq_false (by omega)
        have d4 : decide (j < 90) = false := decide_eq_false (by omega)
        have cF := free_ok HR.out.1.ok.2
        go_wp2_with fail
        refine cF.mono ?_
        clear cF d1 d3 hlt h
        rintro e w3 ⟨v, rfl, ho, b3⟩
        obtain ⟨VA, vc, rfl, _⟩ := own_slice ho
        have hfc : 109 ≤ fc s := by have := HR.out.2; omega
        have hfc2 : fc s ≤ 4096 := by have h1 := parted HR.out.1.ok.1; have h3 := HR.out.1.ok.1.len; unfold fc; omega
        have HS : Hid (RoomAt w1 w3 p g lg ab c (4 * (1 + z)) (90 + 0) m s ∧ RoomP (1 + z) (fc s) 0 s) := powers.lay ⟨by
          obtain ⟨q1, q2, q3, q4⟩ := HR.out.1.below b3
          exact ⟨q1, q2, q3, by omega⟩, RoomP.start _ _⟩
        generalize hff : fc s = f at *
        rw [show (those s.ac 1).length = f from hff]
        clear hff ho b3 HR
        have HT1 := powers.lay hT1
        have HT2 := powers.lay hT2
        clear hT1 hT2 hj hj2 e1
        go_wp2_with fail
        go_loopw [11, 12] (fun a i wr => ∃ (k j : Nat) (m : MS) (s : LS), a = .int .i64 (k : Int) ∧ i = .int .i64 (j : Int) ∧ k ≤ j ∧ j ≤ l2.length ∧ j ≤ 400 ∧ Hid (RoomAt w1 wr p g lg ab c (4 * (1 + z)) (90 + k) m s ∧ RoomP (1 + z) f k s)) (fun _ i _ => l2.length - (RowKit.intOf i).toNat)
        case atStart => exact ⟨0, 0, _, _, rfl, rfl, Nat.le_refl _, Nat.zero_le _, Nat.zero_le _, HS⟩
        case round =>
          clear HS
          obtain ⟨k, j, m, s, rfl, rfl, hkj, hj, hj2, HR⟩ := hrel
          have e1 : IntKind.i64.wrap ((j : Int) + 1) = (j : Int) + 1 := IntWalk.i64_in _ (by omega)
          by_cases hlt : j < l2.length ∧ j < 400
          · obtain ⟨b, off, rfl, hbk, x0, hsz⟩ := (HT2.out.below (HB1.out.trans (HR.out.1.hb.mono HB1.out.size))).at_ hlt.1
            have n1 := hlt.1
            have n2 := hlt.2
            have d1 : decide ((j : Int) < (l2.length : Int)) = true := decide_eq_true (by omega)
            have d2 : decide ((j : Int) < 400) = true := decide_eq_true (by omega)
            have d3 : decide (j < l2.length) = true := decide_eq_true n1
            have d4 : decide (j < 400) = true := decide_eq_true n2
            have eq4 : Int.tdiv (4 * (1 + (z : Int))) 4 = 1 + (z : Int) := by rw [Int.mul_tdiv_cancel_left _ (by decide)]
            generalize l2[j] = t at *
            unfold maxLen at hsz
            clear hlt
            by_cases h0 : t.size = 0
            · rw [empty_of h0] at x0
              clear h0
              go_wp2_with fail
              go_roundw
              case rel => exact ⟨k, j + 1, _, _, rfl, by go_num, by omega, n1, n2, HR⟩
              case measure => first | (simp [RowKit.intOf]; done) | (simp [RowKit.intOf]; omega) | omega
            · have q0 := isEmpty_no h0
              have q1 : decide (t = (⟨#[]⟩ : ByteArray)) = false := decide_eq_false (some_ne h0)
              by_cases h2 : 1 + z < t.size
              · have d5 : decide (1 + (z : Int) < (t.size : Int)) = true := decide_eq_true (by omega)
                clear h0
                go_wp2_with fail
                go_roundw
                case rel => exact ⟨k, j + 1, _, _, rfl, by go_num, by omega, n1, n2, HR⟩
                case measure => first | (simp [RowKit.intOf]; done) | (simp [RowKit.intOf]; omega) | omega
              · have d5 : decide (1 + (z : Int) < (t.size : Int)) = false := decide_eq_false (by omega)
                have hst := HR.out.2.step HR.out.1.ok.1 HR.out.1.inv HR.out.1.size (by omega) (by omega) t (by omega)
                have cA := HR.out.1.append (by omega) t (by omega)
                rw [hst.1] at cA
                have HP := powers.lay hst.2
                generalize hpv : apV m s (-1) t = pv at *
                generalize apM m s (-1) t = m' at *
                generalize apS m s (-1) t = s' at *
                obtain ⟨pa, pb, pc⟩ := pv
                clear hst hpv h0
                go_wp2_with fail
                refine cA.mono ?_
                clear cA x0
                rintro e w4 ⟨rfl, R4⟩
                have b5 : Below w4.heap.size w4 (w4.alloc (.cells #[.int .i64 pa, .int .i64 pb, .int .i64 pc] 95)) := (Below.refl _ _).alloc (Nat.le_refl _) _
                have R5 := R4.below b5
                obtain ⟨W5, hW5⟩ : ∃ W5, w4.alloc (.cells #[.int .i64 pa, .int .i64 pb, .int .i64 pc] 95) = W5 := ⟨_, rfl⟩
                rw [hW5] at R5
                have e4 : IntKind.i64.wrap ((k : Int) + 1) = (k : Int) + 1 := IntWalk.i64_in _ (by omega)
                have cF2 := free_ok R5.ok.2
                have hm := HP.out.most
                have hle := HP.out.1
                clear b5
                go_wp2_with fail
                refine cF2.mono ?_
                clear cF2
                rintro e w6 ⟨v, rfl, ho, b6⟩
                obtain ⟨VA2, vc2, rfl, _⟩ := own_slice ho
                have HR6 : Hid (RoomAt w1 w6 p g lg ab c (4 * (1 + z)) (90 + (k + 1)) m' s' ∧ RoomP (1 + z) f (k + 1) s') := powers.lay ⟨R5.below b6, HP.out⟩
                clear R4 R5 hW5 b6 HP ho
                change fc s' ≤ f at hle
                generalize hfs : fc s' = f' at *
                rw [show (those s'.ac 1).length = f' from hfs]
                have e5 : IntKind.i64.wrap ((f : Int) - (f' : Int)) = (f : Int) - (f' : Int) := IntWalk.i64_in _ (by omega)
                have e6 : IntKind.i64.wrap ((k : Int) + 1 + 3) = (k : Int) + 1 + 3 := IntWalk.i64_in _ (by omega)
                have e7 : Int.tdiv ((k : Int) + 1 + 3) 4 = (((k + 4) / 4 : Nat) : Int) := by
                  rw [show (k : Int) + 1 + 3 = ((k + 4 : Nat) : Int) by omega]; rfl
                have d6 : decide ((((k + 4) / 4 : Nat) : Int) < (f : Int) - (f' : Int)) = false := decide_eq_false (by omega)
                clear hfs hm
                have hkq : (k + 4) / 4 ≤ 200 := by omega
                generalize (k + 4) / 4 = kq at *
                go_wp2_with fail
                go_roundw
                case rel => exact ⟨k + 1, j + 1, _, _, by go_num, by go_num, by omega, n1, n2, HR6⟩
                case measure => first | (simp [RowKit.intOf]; done) | (simp [RowKit.intOf]; omega) | omega
          · have hfin : Below w.heap.size w wr := HB1.out.trans (HR.out.1.hb.mono HB1.out.size)
            by_cases h : j < l2.length
            · have d1 : decide ((j : Int) < (l2.length : Int)) = true := decide_eq_true (by omega)
              have d3 : decide (j < l2.length) = true := decide_eq_true h
              have d2 : decide ((j : Int) < 400) = false := decide_eq_false (by omega)
              have d4 : decide (j < 400) = false := decide_eq_false (by omega)
              go_wp2_with fail
              go_ret
              exact ⟨rfl, hfin⟩
            · have d1 : decide ((j : Int) < (l2.length : Int)) = false := decide_eq_false (by omega)
              have d3 : decide (j < l2.length) = false := decide_eq_false h
              go_wp2_with fail
              go_ret
              exact ⟨rfl, hfin⟩
      · have d1 : decide ((j : Int) < (l1.length : Int)) = false := decide_eq_false (by omega)
        have d3 : decide (j < l1.length) = false := decide_eq_false h
        have cF := free_ok HR.out.1.ok.2
        go_wp2_with fail
        refine cF.mono ?_
        clear cF d1 d3 hlt h
        rintro e w3 ⟨v, rfl, ho, b3⟩
        obtain ⟨VA, vc, rfl, _⟩ := own_slice ho
        have hfc : 109 ≤ fc s := by have := HR.out.2; omega
        have hfc2 : fc s ≤ 4096 := by have h1 := parted HR.out.1.ok.1; have h3 := HR.out.1.ok.1.len; unfold fc; omega
        have HS : Hid (RoomAt w1 w3 p g lg ab c (4 * (1 + z)) (90 + 0) m s ∧ RoomP (1 + z) (fc s) 0 s) := powers.lay ⟨by
          obtain ⟨q1, q2, q3, q4⟩ := HR.out.1.below b3
          exact ⟨q1, q2, q3, by omega⟩, RoomP.start _ _⟩
        generalize hff : fc s = f at *
        rw [show (those s.ac 1).length = f from hff]
        clear hff ho b3 HR
        have HT1 := powers.lay hT1
        have HT2 := powers.lay hT2
        clear hT1 hT2 hj hj2 e1
        go_wp2_with fail
        go_loopw [11, 12] (fun a i wr => ∃ (k j : Nat) (m : MS) (s : LS), a = .int .i64 (k : Int) ∧ i = .int .i64 (j : Int) ∧ k ≤ j ∧ j ≤ l2.length ∧ j ≤ 400 ∧ Hid (RoomAt w1 wr p g lg ab c (4 * (1 + z)) (90 + k) m s ∧ RoomP (1 + z) f k s)) (fun _ i _ => l2.length - (RowKit.intOf i).toNat)
        case atStart => exact ⟨0, 0, _, _, rfl, rfl, Nat.le_refl _, Nat.zero_le _, Nat.zero_le _, HS⟩
        case round =>
          clear HS
          obtain ⟨k, j, m, s, rfl, rfl, hkj, hj, hj2, HR⟩ := hrel
          have e1 : IntKind.i64.wrap ((j : Int) + 1) = (j : Int) + 1 := IntWalk.i64_in _ (by omega)
          by_cases hlt : j < l2.length ∧ j < 400
          · obtain ⟨b, off, rfl, hbk, x0, hsz⟩ := (HT2.out.below (HB1.out.trans (HR.out.1.hb.mono HB1.out.size))).at_ hlt.1
            have n1 := hlt.1
            have n2 := hlt.2
            have d1 : decide ((j : Int) < (l2.length : Int)) = true := decide_eq_true (by omega)
            have d2 : decide ((j : Int) < 400) = true := decide_eq_true (by omega)
            have d3 : decide (j < l2.length) = true := decide_eq_true n1
            have d4 : decide (j < 400) = true := decide_eq_true n2
            have eq4 : Int.tdiv (4 * (1 + (z : Int))) 4 = 1 + (z : Int) := by rw [Int.mul_tdiv_cancel_left _ (by decide)]
            generalize l2[j] = t at *
            unfold maxLen at hsz
            clear hlt
            by_cases h0 : t.size = 0
            · rw [empty_of h0] at x0
              clear h0
              go_wp2_with fail
              go_roundw
              case rel => exact ⟨k, j + 1, _, _, rfl, by go_num, by omega, n1, n2, HR⟩
              case measure => first | (simp [RowKit.intOf]; done) | (simp [RowKit.intOf]; omega) | omega
            · have q0 := isEmpty_no h0
              have q1 : decide (t = (⟨#[]⟩ : ByteArray)) = false := decide_eq_false (some_ne h0)
              by_cases h2 : 1 + z < t.size
              · have d5 : decide (1 + (z : Int) < (t.size : Int)) = true := decide_eq_true (by omega)
                clear h0
                go_wp2_with fail
                go_roundw
                case rel => exact ⟨k, j + 1, _, _, rfl, by go_num, by omega, n1, n2, HR⟩
                case measure => first | (simp [RowKit.intOf]; done) | (simp [RowKit.intOf]; omega) | omega
              · have d5 : decide (1 + (z : Int) < (t.size : Int)) = false := decide_eq_false (by omega)
                have hst := HR.out.2.step HR.out.1.ok.1 HR.out.1.inv HR.out.1.size (by omega) (by omega) t (by omega)
                have cA := HR.out.1.append (by omega) t (by omega)
                rw [hst.1] at cA
                have HP := powers.lay hst.2
                generalize hpv : apV m s (-1) t = pv at *
                generalize apM m s (-1) t = m' at *
                generalize apS m s (-1) t = s' at *
                obtain ⟨pa, pb, pc⟩ := pv
                clear hst hpv h0
                go_wp2_with fail
                refine cA.mono ?_
                clear cA x0
                rintro e w4 ⟨rfl, R4⟩
                have b5 : Below w4.heap.size w4 (w4.alloc (.cells #[.int .i64 pa, .int .i64 pb, .int .i64 pc] 95)) := (Below.refl _ _).alloc (Nat.le_refl _) _
                have R5 := R4.below b5
                obtain ⟨W5, hW5⟩ : ∃ W5, w4.alloc (.cells #[.int .i64 pa, .int .i64 pb, .int .i64 pc] 95) = W5 := ⟨_, rfl⟩
                rw [hW5] at R5
                have e4 : IntKind.i64.wrap ((k : Int) + 1) = (k : Int) + 1 := IntWalk.i64_in _ (by omega)
                have cF2 := free_ok R5.ok.2
                have hm := HP.out.most
                have hle := HP.out.1
                clear b5
                go_wp2_with fail
                refine cF2.mono ?_
                clear cF2
                rintro e w6 ⟨v, rfl, ho, b6⟩
                obtain ⟨VA2, vc2, rfl, _⟩ := own_slice ho
                have HR6 : Hid (RoomAt w1 w6 p g lg ab c (4 * (1 + z)) (90 + (k + 1)) m' s' ∧ RoomP (1 + z) f (k + 1) s') := powers.lay ⟨R5.below b6, HP.out⟩
                clear R4 R5 hW5 b6 HP ho
                change fc s' ≤ f at hle
                generalize hfs : fc s' = f' at *
                rw [show (those s'.ac 1).length = f' from hfs]
                have e5 : IntKind.i64.wrap ((f : Int) - (f' : Int)) = (f : Int) - (f' : Int) := IntWalk.i64_in _ (by omega)
                have e6 : IntKind.i64.wrap ((k : Int) + 1 + 3) = (k : Int) + 1 + 3 := IntWalk.i64_in _ (by omega)
                have e7 : Int.tdiv ((k : Int) + 1 + 3) 4 = (((k + 4) / 4 : Nat) : Int) := by
                  rw [show (k : Int) + 1 + 3 = ((k + 4 : Nat) : Int) by omega]; rfl
                have d6 : decide ((((k + 4) / 4 : Nat) : Int) < (f : Int) - (f' : Int)) = false := decide_eq_false (by omega)
                clear hfs hm
                have hkq : (k + 4) / 4 ≤ 200 := by omega
                generalize (k + 4) / 4 = kq at *
                go_wp2_with fail
                go_roundw
                case rel => exact ⟨k + 1, j + 1, _, _, by go_num, by go_num, by omega, n1, n2, HR6⟩
                case measure => first | (simp [RowKit.intOf]; done) | (simp [RowKit.intOf]; omega) | omega
          · have hfin : Below w.heap.size w wr := HB1.out.trans (HR.out.1.hb.mono HB1.out.size)
            by_cases h : j < l2.length
            · have d1 : decide ((j : Int) < (l2.length : Int)) = true := decide_eq_true (by omega)
              have d3 : decide (j < l2.length) = true := decide_eq_true h
              have d2 : decide ((j : Int) < 400) = false := decide_eq_false (by omega)
              have d4 : decide (j < 400) = false := decide_eq_false (by omega)
              go_wp2_with fail
              go_ret
              exact ⟨rfl, hfin⟩
            · have d1 : decide ((j : Int) < (l2.length : Int)) = false := decide_eq_false (by omega)
              have d3 : decide (j < l2.length) = false := decide_eq_false h
              go_wp2_with fail
              go_ret
              exact ⟨rfl, hfin⟩

end Go.Proofs.Ytblfacodfmbodaa.segs
