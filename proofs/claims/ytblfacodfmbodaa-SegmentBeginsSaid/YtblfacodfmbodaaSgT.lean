/- SegmentBegins. -/
import Derived.Test.YtblfacodfmbodaaSgS


namespace Go.Proofs.Ytblfacodfmbodaa.segs
set_option linter.unusedVariables false
set_option linter.unusedSimpArgs false
open Go.RowKit Go.Shelf Go.Proofs.Ytblfacodfmbodaa.base Go.Proofs.Ytblfacodfmbodaa.trees Go.Proofs.Ytblfacodfmbodaa.powers Go.Proofs.Ytblfacodfmbodaa.mediums Go.Lib

/-- how much is used in the first k -/
def uTo (ac : List T3) : Nat → Int
  | 0 => 0
  | k + 1 => uTo ac k + (at3 ac k).b
theorem uTo_le {ac : List T3} {z : Int} (h : ∀ i, (at3 ac i).b ≤ z) : ∀ k : Nat, uTo ac k ≤ (k : Int) * z
  | 0 => by simp [uTo]
  | k + 1 => by
    have := uTo_le h k
    have := h k
    rw [uTo, show ((k + 1 : Nat) : Int) * z = (k : Int) * z + z by rw [Int.natCast_add, Int.add_mul]; omega]
    omega
theorem uTo_nn {ac : List T3} (h : ∀ i, 0 ≤ (at3 ac i).b) : ∀ k : Nat, 0 ≤ uTo ac k
  | 0 => by simp [uTo]
  | k + 1 => by have := uTo_nn h k; have := h k; rw [uTo]; omega
theorem uTo_add {ac ac' : List T3} {j : Nat} {d : Int} (h : ∀ i, (at3 ac' i).b = (at3 ac i).b + (if j = i then d else 0)) : ∀ k : Nat, uTo ac' k = uTo ac k + (if j < k then d else 0)
  | 0 => by simp [uTo]
  | k + 1 => by
    rw [uTo, uTo, uTo_add h k, h k]
    by_cases h1 : j < k
    · rw [if_pos h1, if_neg (by omega), if_pos (by omega)]; omega
    · by_cases h2 : j = k
      · rw [if_neg h1, if_pos h2, if_pos (by omega)]; omega
      · rw [if_neg h1, if_neg h2, if_neg (by omega)]; omega
/-- two logs on one medium: b goes on, a stands -/
structure Tw (w1 w : World) (p g lg ab c lgb abb cb n z pn : Nat) (m : MS) (sa sb : LS) : Prop where
  sg : ∃ S W, Sg w1.heap.size w1 w S p g lgb abb cb m sb (-1) W ∧ ¬ SB4 S p lgb abb lg ∧ ¬ SB4 S p lgb abb ab
  a : LgAt w g lg ab c sa
  inv : InvM m sb
  size : m.size = z
  segs : m.segs.length = n
  most : (m.past.length : Int) ≤ (pn : Int) + uTo sb.ac n
section
variable {w1 w w' : World} {p g lg ab c lgb abb cb n z pn : Nat} {m : MS} {sa sb : LS}
theorem Tw.below (h : Tw w1 w p g lg ab c lgb abb cb n z pn m sa sb) (hb : Below w.heap.size w w') : Tw w1 w' p g lg ab c lgb abb cb n z pn m sa sb := by
  obtain ⟨S, W, h1, h2, h3⟩ := h.sg
  exact ⟨⟨S, W, h1.below hb, h2, h3⟩, h.a.below hb, h.inv, h.size, h.segs, h.most⟩
theorem Tw.log (h : Tw w1 w p g lg ab c lgb abb cb n z pn m sa sb) : LgAt w g lgb abb cb sb := by
  obtain ⟨S, W, h1, h2⟩ := h.sg
  exact h1.log
theorem Tw.hb (h : Tw w1 w p g lg ab c lgb abb cb n z pn m sa sb) : Below w1.heap.size w1 w := by
  obtain ⟨S, W, h1, h2⟩ := h.sg
  exact h1.hb
theorem Tw.append (h : Tw w1 w p g lg ab c lgb abb cb n z pn m sa sb) (hn : n ≤ 12 ∧ z ≤ 100) (hp : pn * 64 ≤ 140737488355328) (b : ByteArray) (hbs : b.size ≤ 9223372036854775807) :
    Calls Try.prog 37 #[.pointer (some ⟨lgb, 0, none⟩), .string b] w fun e w' => ∃ (v : T3) (E : Int) (m' : MS) (s' : LS), e = .returned (.tuple #[v.v, .int .i64 E]) ∧ (E = 0 → v.a = (sb.o : Int) → v.b = (at3 sb.ac sb.o).b) ∧ Tw w1 w' p g lg ab c lgb abb cb n z pn m' sa s' := by
  obtain ⟨S, W, h1, h2, h3⟩ := h.sg
  have hlt := h1.lt
  have hok := h1.log.ok
  have hsz : ∀ i, (at3 sb.ac i).b ≤ (z : Int) := fun i => by
    by_cases hi : i < sb.ac.length
    · have h4 := h.inv.2.2 i hi
      have h5 := h.inv.2.1 i
      have := h.size
      omega
    · rw [at3_out (by omega)]
      exact Int.natCast_nonneg _
  have hmost := h.most
  have hu := uTo_le hsz n
  have hnz : (n : Int) * (z : Int) ≤ 12 * 100 := Int.mul_le_mul (by omega) (by omega) (by omega) (by omega)
  refine (append_any h1 b hbs (by omega)).mono ?_
  rintro e w' ⟨rfl, S', T, hS', hk⟩
  have far : ∀ k, k < w.heap.size → ¬ SB4 S p lgb abb k → ¬ SB4 S' p lgb abb k := fun k hkl hk2 hx => by
    rcases hx with hx | hx
    · rcases hS' k hx with hx | hx
      · exact hk2 (.inl hx)
      · omega
    · exact hk2 (.inr hx)
  have ha : LgAt w' g lg ab c sa := h.a.keep hk h2 h3
  have f1 := far lg h.a.lt.1 h2
  have f2 := far ab h.a.lt.2 h3
  rcases ap_on hok h.inv b with ⟨hE, e1, e2, eM, eS, eL⟩ | ⟨_, j, q, A⟩
  · rw [eM, eS, eL] at T
    exact ⟨_, _, m, sb, rfl, fun h0 => absurd (e1.symm.trans h0) hE, ⟨⟨S', _, T, f1, f2⟩, ha, h.inv, h.size, h.segs, h.most⟩⟩
  · rw [A.M, A.S, A.L] at T
    refine ⟨_, _, _, _, rfl, fun _ hv => ?_, ⟨⟨S', _, T, f1, f2⟩, ha, A.inv, h.size, by rw [putM_len]; exact h.segs, ?_⟩⟩
    · rw [A.V] at hv ⊢
      dsimp only at hv ⊢
      have : j = sb.o := by omega
      rw [← this]
      exact A.use.symm
    · rw [A.past]
      have hadd := uTo_add (ac := sb.ac) (ac' := (rollU sb j b.size).ac) (j := j) (d := (b.size : Int)) (fun i => by
        rw [rollU_at hok A.jlt]
        dsimp only
        by_cases hi : j = i
        · rw [if_pos hi, if_pos hi]
        · rw [if_neg hi, if_neg hi]; omega) n
      have hjn : j < n := by have h4 := A.jlt; have h5 := h.inv.1; have h6 := h.segs; omega
      rw [hadd, if_pos hjn]
      have := A.n
      omega
/-- b is begun beside a -/
theorem Tw.begun {w0 : World} {S : Nat → Prop} {W : Int} {s : LS} (h : Sg w1.heap.size w1 w S p g lg ab c m sa (-1) W) (hlb : w.heap.size ≤ lgb) (hl : LgAt w0 g lgb abb cb s) (hb : Below w.heap.size w w0) {w2 : World} {abb' cb' : Nat} (hl2 : LgAt w2 g lgb abb' cb' sb) (hk : Keep (fun k => k = lgb) w0 w2) (hab : w0.heap.size ≤ abb') (hi : InvM m sb) (hz : m.size = z) (hs : m.segs.length = n) (hp : m.past.length ≤ pn) (hu : ∀ i, 0 ≤ (at3 sb.ac i).b) (hlen : sb.ac.length = m.segs.length) :
    Tw w1 w2 p g lg ab c lgb abb' cb' n z pn m sa sb := by
  have hlt := h.lt
  have h0 := h.below hb
  have hsz := hb.size
  have hle := h.hb.size
  have hle2 := h.le
  have nl : ∀ k, SB4 S p lg ab k → ¬ k = lgb := fun k hk e => by have := hlt k hk; omega
  have h2 := h0.keep hk nl (fun k e => by omega)
  have hfar : ∀ k, SB4 S p lg ab k → k < w.heap.size := hlt
  have n1 : ¬ S lgb := fun e => by have := hlt lgb (.inl e); omega
  have n2 : lgb ≠ p := fun e => by have := hlt lgb (.inr (.inl e)); omega
  have n3 : ¬ S abb' := fun e => by have := hlt abb' (.inl e); omega
  have n4 : abb' ≠ p := fun e => by have := hlt abb' (.inr (.inl e)); omega
  have nu := uTo_nn hu n
  refine ⟨⟨S, W, ⟨h2.md, h2.pw, h2.inL, hl2, ⟨⟨n1, n2⟩, n3, n4⟩, fun k hk2 => ?_, h2.hb, h2.le, hlen⟩, fun hx => ?_, fun hx => ?_⟩, h2.log, hi, hz, hs, by omega⟩
  · rcases hk2 with e | e | e | e
    · exact h.lo k (.inl e)
    · exact h.lo k (.inr (.inl e))
    · omega
    · omega
  · have hlg := hlt lg (.inr (.inr (.inl rfl)))
    rcases hx with e | e | e | e
    · exact h.far.1.1 e
    · exact h.far.1.2 e
    · omega
    · omega
  · have hab2 := hlt ab (.inr (.inr (.inr rfl)))
    rcases hx with e | e | e | e
    · exact h.far.2.1 e
    · exact h.far.2.2 e
    · omega
    · omega
end

set_option maxRecDepth 100000 in
set_option maxHeartbeats 16000000 in
theorem law_begins (bg bz : Int) (l : List SO) (A : Option Addr) (cc : Nat) (l2 : List ByteArray) (A2 : Option Addr) (cc2 : Nat) (w : World) (hX : Os w w.heap.size l A cc) (hX2 : Ts w w.heap.size l2 A2 cc2) :
    Calls Try.prog 9 #[.agg #[.int .i64 bg, .int .i64 bz, .slice A l.length cc, .slice A2 l2.length cc2]] w fun e w' => e = .returned (.bool true) ∧ Below w.heap.size w w' := by
  have hk1 := pkS_lt bg 12 (by omega)
  have hp1 := fun wx => pickS_ok bg 12 (by omega) (by omega) wx
  rw [show ((12 : Nat) : Int) = 12 from rfl] at hp1
  have hk2 := pkS_lt bz 100 (by omega)
  have hp2 := fun wx => pickS_ok bz 100 (by omega) (by omega) wx
  rw [show ((100 : Nat) : Int) = 100 from rfl] at hp2
  have hl1 : l.length * 64 ≤ 140737488355328 := hX.2.1
  have hl2 : l2.length * 16 ≤ 140737488355328 := by have := hX2.2.1; omega
  generalize pkS bg 12 = x at hk1 hp1
  generalize pkS bz 100 = y at hk2 hp2
  have e1 : IntKind.i64.wrap (1 + (x : Int)) = ((1 + x : Nat) : Int) := by rw [IntWalk.i64_in _ (by omega)]; omega
  have e2 : IntKind.i64.wrap (1 + (y : Int)) = ((1 + y : Nat) : Int) := by rw [IntWalk.i64_in _ (by omega)]; omega
  obtain ⟨n, hn⟩ : ∃ n, 1 + x = n := ⟨_, rfl⟩
  obtain ⟨z, hz⟩ : ∃ z, 1 + y = z := ⟨_, rfl⟩
  rw [hn] at e1
  rw [hz] at e2
  have hn2 : 1 ≤ n ∧ n ≤ 12 := by omega
  have hz2 : 1 ≤ z ∧ z ≤ 100 := by omega
  clear hn hz hk1 hk2
  have bZ : Below w.heap.size w (w.alloc (.cells #[.int .i64 bg, .int .i64 bz, .slice A l.length cc, .slice A2 l2.length cc2] 109)) := (Below.refl _ _).alloc (Nat.le_refl _) _
  have kZ := Blk.new w 109 #[.int .i64 bg, .int .i64 bz, .slice A l.length cc, .slice A2 l2.length cc2]
  have lZ : w.heap.size < (w.alloc (.cells #[.int .i64 bg, .int .i64 bz, .slice A l.length cc, .slice A2 l2.length cc2] 109)).heap.size := by simp
  go_enter Try.func9, Try.ntmps9
  generalize hWZ : w.alloc (.cells #[.int .i64 bg, .int .i64 bz, .slice A l.length cc, .slice A2 l2.length cc2] 109) = WZ at *
  have h0 := awakeS_ok WZ
  go_wp2_with fail
  refine h0.mono ?_
  rintro e w1 ⟨rfl, b1⟩
  have k1 := kZ.below b1 lZ
  have hb1 := bZ.trans (b1.mono bZ.size)
  have l1 := k1.lt
  clear h0 kZ b1 bZ
  have y0 := k1.cell 0
  have y1 := k1.cell 1
  have y2 := k1.cell 2
  have y3 := k1.cell 3
  simp only [List.getElem?_toArray, List.getElem?_cons_zero, List.getElem?_cons_succ] at y0 y1 y2 y3
  have c1 := powers.new_ok w1
  clear hWZ
  go_wp2_with fail
  refine (hp1 _).mono ?_
  rintro e w1 ⟨rfl, rfl⟩
  clear hp1
  go_wp2_with fail
  refine (hp2 _).mono ?_
  rintro e w1 ⟨rfl, rfl⟩
  clear hp2
  go_wp2_with fail
  refine c1.mono ?_
  clear c1
  rintro e wp ⟨rfl, k2, b2, z2⟩
  obtain ⟨p, hp⟩ : ∃ p, w1.heap.size = p := ⟨_, rfl⟩
  have c2 := mnew_ok w1.heap.size n z (by omega) (by omega) wp (by omega)
  rw [hp] at c2 k2 ⊢
  clear y0 y1 y2 y3 e1 e2
  go_wp2_with fail
  refine c2.mono ?_
  clear c2
  rintro e wm ⟨g, rfl, m2, b3⟩
  have k3 := k2.below b3 k2.lt
  have c3 := segs.new_ok m2
  go_wp2_with fail
  refine c3.mono ?_
  clear c3
  rintro e wl ⟨lg, ab0, c0, rfl, l3, b4, q1, q2⟩
  rw [show (newM n z).segs.length = n by simp [newM]] at l3
  have s1 := b2.size
  have s2 := b3.size
  have T : Sg w1.heap.size w1 wl (fun k => wp.heap.size ≤ k ∧ k < wm.heap.size) p g lg ab0 c0 (newM n z) (newL n) (-1) 0 :=
    ⟨m2.below b4, k3.below b4 k3.lt, by unfold In; omega, l3, ⟨⟨fun h => by omega, by omega⟩, fun h => by omega, by omega⟩, fun k hk => by rcases hk with h | h | h | h <;> omega, b2.trans ((b3.trans (b4.mono s2)).mono s1), Nat.le_refl _, by rw [newL_len]; simp [newM]⟩
  have R0 : Hid (Th w1 wl p g lg ab0 c0 n z 0 (newM n z) (newL n) [] [] [] (.slice none 0 0) (.slice none 0 0)) := powers.lay (Th.new T hn2.1)
  have HBA := powers.lay hb1
  have HX := powers.lay hX
  have HX2 := powers.lay hX2
  clear T hb1 k1 k2 k3 m2 l3 b2 b3 b4 z2 q1 q2 s1 s2 hX hX2 hp lZ l1
  go_wp2_with fail
  go_loopw [12, 11] (fun i vp wx => ∃ j : Nat, i = .int .i64 (j : Int) ∧ j ≤ l.length ∧ ∃ (ab c : Nat) (m : MS) (s : LS) (L : List (T3 × ByteArray)), Hid (Th w1 wx p g lg ab c n z j m s L (L.map (·.1)) [] vp (.slice none 0 0))) (fun i _ _ => l.length - (RowKit.intOf i).toNat)
  case atStart => exact ⟨0, rfl, Nat.zero_le _, _, _, _, _, [], R0⟩
  case round =>
    clear R0
    obtain ⟨j, rfl, hj, ab, c, m, s, L, HT⟩ := hrel
    have ej : IntKind.i64.wrap ((j : Int) + 1) = (j : Int) + 1 := IntWalk.i64_in _ (by omega)
    by_cases hlt : j < l.length
    · obtain ⟨b, off, rfl, hbk, x0, x1, x2, _, _⟩ := (HX.out.below (HBA.out.trans (HT.out.hb.mono HBA.out.size))).at_ hlt
      have hbs : (l[j]).s.size ≤ maxLen := (HX.out.2.2.2.2 _ (List.getElem_mem hlt)).2.1
      have hbk2 : b < wr.heap.size := by have := HBA.out.size; have := HT.out.hb.size; omega
      have n1 : j + 1 ≤ l.length := hlt
      have d1 : decide ((j : Int) < (l.length : Int)) = true := decide_eq_true (by omega)
      have d2 : decide (j < l.length) = true := decide_eq_true hlt
      generalize l[j] = oo at *
      obtain ⟨k, bs, oa, ob, ol, olA, olc⟩ := oo
      simp only at x0 x1 x2 hbs
      unfold maxLen at hbs
      clear hlt
      by_cases hk1 : k = 1
      · obtain rfl := hk1
        have cA := HT.out.append (Below.refl _ _) (by omega) bs (by omega)
        go_wp2_with fail
        refine cA.mono ?_
        clear cA x0 x1 x2
        rintro e w6 ⟨_, _, hor⟩
        rcases hor with ⟨v, E, hE, rfl, T6⟩ | ⟨jj, of, v, AO, hv, rfl, T6⟩
        · obtain ⟨pa, pb, pc⟩ := v
          have dE : decide (E = 0) = false := decide_eq_false hE
          have dE2 : (E == 0) = false := by simp [hE]
          have b7 : Below w6.heap.size w6 (w6.alloc (.cells #[.int .i64 pa, .int .i64 pb, .int .i64 pc] 95)) := (Below.refl _ _).alloc (Nat.le_refl _) _
          have kP := Blk.new w6 95 #[.int .i64 pa, .int .i64 pb, .int .i64 pc]
          have T7 := T6.below b7
          obtain ⟨W7, hW7⟩ : ∃ W7, w6.alloc (.cells #[.int .i64 pa, .int .i64 pb, .int .i64 pc] 95) = W7 := ⟨_, rfl⟩
          obtain ⟨qp, hqp⟩ : ∃ qp, w6.heap.size = qp := ⟨_, rfl⟩
          rw [hW7] at T7 kP b7
          have HQP := powers.lay hqp
          rw [hqp] at kP
          have f0 := kP.frozen 0
          have f1 := kP.frozen 1
          have f2 := kP.frozen 2
          obtain ⟨h0, h1, h2⟩ := kP.c3
          have hB6 := b7.size
          have T8 := powers.lay (T7.more (show j ≤ j + 1 by omega))
          clear T6 T7 b7 kP
          go_wp2_with fail
          go_roundw
          case rel => exact ⟨j + 1, by go_num, n1, _, _, _, _, _, T8⟩
          case measure => first | (simp [RowKit.intOf]; done) | (simp [RowKit.intOf]; omega) | omega
        · obtain ⟨pa, pb, pc⟩ := v
          have HV := powers.lay hv
          clear hv
          have b7 : Below w6.heap.size w6 (w6.alloc (.cells #[.int .i64 pa, .int .i64 pb, .int .i64 pc] 95)) := (Below.refl _ _).alloc (Nat.le_refl _) _
          have kP := Blk.new w6 95 #[.int .i64 pa, .int .i64 pb, .int .i64 pc]
          have T7 := T6.below b7
          obtain ⟨W7, hW7⟩ : ∃ W7, w6.alloc (.cells #[.int .i64 pa, .int .i64 pb, .int .i64 pc] 95) = W7 := ⟨_, rfl⟩
          obtain ⟨qp, hqp⟩ : ∃ qp, w6.heap.size = qp := ⟨_, rfl⟩
          rw [hW7] at T7 kP b7
          have HQP := powers.lay hqp
          rw [hqp] at kP
          have f0 := kP.frozen 0
          have f1 := kP.frozen 1
          have f2 := kP.frozen 2
          obtain ⟨h0, h1, h2⟩ := kP.c3
          have hB6 := b7.size
          have hlenP : (List.length (L.map (·.1)) + 1) * 24 ≤ 140737488355328 := by rw [List.length_map]; have := HT.out.cnt; omega
          clear T6 b7 AO
          go_upto_region 19 with (fail)
          have hv := HV.out
          simp only [T3.mk.injEq] at hv
          obtain ⟨rfl, rfl, rfl⟩ := hv
          clear f0 f1 f2 hW7
          go_wp2_with (at_builtin; refine wp_pl (e := ⟨(jj : Int), (of : Int), (bs.size : Int)⟩) rfl _ _ rfl rfl T7.own1 rfl rfl rfl hlenP ?_; intro v9 w9 ho9 hk9 hv9 hz9)
          have T9 := powers.lay (T7.push1 ho9 hk9 hv9)
          rw [show L.map (·.1) ++ [(⟨(jj : Int), (of : Int), (bs.size : Int)⟩ : T3)] = (L ++ [((⟨(jj : Int), (of : Int), (bs.size : Int)⟩ : T3), bs)]).map (·.1) by rw [List.map_append]; rfl] at T9
          clear T7 ho9 hk9 hv9
          go_roundw
          case rel => exact ⟨j + 1, by go_num, n1, _, _, _, _, _, T9⟩
          case measure => first | (simp [RowKit.intOf]; done) | (simp [RowKit.intOf]; omega) | omega
      · have q1' : decide (k = 1) = false := decide_eq_false hk1
        have q2' : (k == 1) = false := by simp [hk1]
        have T5 := HT.out
        obtain ⟨A1, q1, e1⟩ : ∃ A1 q1, _ = Value.slice A1 L.length q1 := by
          obtain ⟨A1, q1, e, _⟩ := row_rdF T5.own1
          rw [List.length_map] at e
          exact ⟨A1, q1, e⟩
        subst e1
        have hr := pkS_lt oa 3 (by omega)
        have hp3 := fun wx => pickS_ok oa 3 (by omega) (by omega) wx
        rw [show ((3 : Nat) : Int) = 3 from rfl] at hp3
        generalize pkS oa 3 = r at hr hp3
        have hLj := T5.cnt
        obtain ⟨W5, hW5⟩ : ∃ W5, wr = W5 := ⟨_, rfl⟩
        have T5' : Th w1 W5 p g lg ab c n z j m s L (L.map (·.1)) [] (.slice A1 L.length q1) (.slice none 0 0) := by rw [← hW5]; exact T5
        have x2' : W5.cell? ⟨b, off + j * 5 + 2, none⟩ = some (.int .i64 oa) := by rw [← hW5]; exact x2
        have hbk3 : b < W5.heap.size := by rw [← hW5]; exact hbk2
        have K0 : Kp W5 wr [] [] (.slice none 0 0) (.slice none 0 0) := by rw [hW5]; exact Kp.nil W5
        have HK0 := powers.lay K0
        clear T5 HT K0 hW5 x1
        go_wp2_with fail
        go_loopw [15, 16] (fun kv i wx => ∃ t : Nat, i = .int .i64 (t : Int) ∧ t ≤ L.length ∧ Hid (Kp W5 wx (keepI r (L.map (·.1)) t) [] kv (.slice none 0 0))) (fun _ i _ => L.length - (RowKit.intOf i).toNat)
        case atStart => exact ⟨0, rfl, Nat.zero_le _, HK0⟩
        case round =>
          clear HK0 x0 x2
          obtain ⟨t, rfl, ht, HK⟩ := hrel
          have et : IntKind.i64.wrap ((t : Int) + 1) = (t : Int) + 1 := IntWalk.i64_in _ (by omega)
          by_cases hlt : t < L.length
          · have n2 : t + 1 ≤ L.length := hlt
            have d3 : decide ((t : Int) < (L.length : Int)) = true := decide_eq_true (by omega)
            have d4 : decide (t < L.length) = true := decide_eq_true hlt
            have x2 := (HK.out.hb.cell (p := ⟨b, off + j * 5 + 2, none⟩) hbk3).trans x2'
            have hbk4 : b < wr.heap.size := by have := HK.out.hb.size; omega
            have tm : Int.tmod (t : Int) 3 = ((t % 3 : Nat) : Int) := rfl
            have tm' : IntKind.i64.wrap ((t % 3 : Nat) : Int) = ((t % 3 : Nat) : Int) := IntWalk.i64_in _ (by omega)
            by_cases hm : t % 3 = r
            · have q5 : decide (((t % 3 : Nat) : Int) = (r : Int)) = true := decide_eq_true (by omega)
              have q6 : (((t % 3 : Nat) : Int) == (r : Int)) = true := by simp; omega
              have q7 : decide (t % 3 = r) = true := decide_eq_true hm
              have HK2 : Hid (Kp W5 wr (keepI r (L.map (·.1)) (t + 1)) [] _ _) := powers.lay (by rw [keepI_no hm]; exact HK.out)
              clear HK hlt hm
              generalize t % 3 = tr at *
              go_wp2_with fail
              refine (hp3 _).mono ?_
              rintro e w7 ⟨rfl, rfl⟩
              go_wp2_with fail
              go_roundw
              case rel => exact ⟨t + 1, by go_num, n2, HK2⟩
              case measure => first | (simp [RowKit.intOf]; done) | (simp [RowKit.intOf]; omega) | omega
            · have q5 : decide (((t % 3 : Nat) : Int) = (r : Int)) = false := decide_eq_false (by omega)
              have q6 : (((t % 3 : Nat) : Int) == (r : Int)) = false := by simp; omega
              have q7 : decide (t % 3 = r) = false := decide_eq_false hm
              obtain ⟨B1, p1, e1, r1⟩ : ∃ B1 p1, Value.slice A1 L.length q1 = .slice B1 L.length p1 ∧ RdF W5 (fun g => (Value.slice A1 L.length q1).ownBlock = some g) B1 (cellsJ (L.map (·.1))) := by
                obtain ⟨B1, p1, e, _, _, r1⟩ := row_rdF T5'.own1
                rw [List.length_map] at e
                exact ⟨B1, p1, e, r1⟩
              cases e1
              have ht1 : t < (L.map (·.1)).length := by rw [List.length_map]; exact hlt
              obtain ⟨s0, s1, s2⟩ := cellsJ_at (L.map (·.1)) ht1
              rw [List.getElem_map] at s0 s1 s2
              obtain ⟨b1, o1, ea, hb1, y0⟩ := r1 _ _ s0
              obtain ⟨b1', o1', ea', _, y1⟩ := r1 _ _ s1
              obtain ⟨b1'', o1'', ea'', _, y2⟩ := r1 _ _ s2
              rw [ea] at ea' ea''
              cases ea'
              cases ea''
              subst ea
              rw [← Nat.add_assoc] at y1 y2
              have hb1' := World.block_lt_of_cell? W5 _ y0
              have ky1 := keepI_yes hm ht1
              rw [List.getElem_map] at ky1
              have z0 := (HK.out.hb.cell (p := ⟨b1, o1 + t * 3, none⟩) hb1').trans y0
              have z1 := (HK.out.hb.cell (p := ⟨b1, o1 + t * 3 + 1, none⟩) hb1').trans y1
              have z2 := (HK.out.hb.cell (p := ⟨b1, o1 + t * 3 + 2, none⟩) hb1').trans y2
              have hkl1 := keepI_len r (L.map (·.1)) t
              have hlenP : (List.length (keepI r (L.map (·.1)) t) + 1) * 24 ≤ 140737488355328 := by omega
              have HKY1 := powers.lay ky1
              have hbs1 : b1 < wr.heap.size := by have := HK.out.hb.size; dsimp only at hb1'; omega
              generalize keepI r (L.map (·.1)) t = kp1 at *
              generalize L[t] = x at *
              obtain ⟨⟨xa, xb, xc⟩, xt⟩ := x
              simp only at z0 z1 z2 HKY1
              clear y0 y1 y2 s0 s1 s2 r1 ky1 hm hlt ht1
              generalize t % 3 = tr at *
              go_wp2_with fail
              refine (hp3 _).mono ?_
              rintro e w7 ⟨rfl, rfl⟩
              go_wp2_with (at_builtin; refine wp_pl (e := ⟨xa, xb, xc⟩) rfl _ _ rfl rfl HK.out.own1 rfl rfl rfl hlenP ?_; intro v9 w9 ho9 hk9 hv9 hz9)
              have K9 := powers.lay (HK.out.push1 ho9 hk9 hv9)
              clear HK ho9 hk9 hv9 z0 z1 z2
              go_roundw
              case rel => exact ⟨t + 1, by go_num, n2, by rw [HKY1.out]; exact K9⟩
              case measure => first | (simp [RowKit.intOf]; done) | (simp [RowKit.intOf]; omega) | omega
          · obtain rfl : t = L.length := by omega
            have d3 : decide ((L.length : Int) < (L.length : Int)) = false := decide_eq_false (by omega)
            obtain ⟨A3, c3, rfl, cS⟩ := T5'.settle1 (L' := keepI r L L.length) (by rw [← keepI_map]; exact HK.out) ((keepI_sub r L L.length).trans (List.take_sublist _ _)) (by omega)
            clear HK hlt
            go_wp2_with fail
            refine cS.mono ?_
            clear cS
            rintro e w7 ⟨rfl, s7, ab7, c7, T7⟩
            have T8 := powers.lay (T7.more (show j ≤ j + 1 by omega))
            clear T7
            go_wp2_with fail
            go_roundw
            case rel => exact ⟨j + 1, by go_num, n1, _, _, _, _, _, T8⟩
            case measure => first | (simp [RowKit.intOf]; done) | (simp [RowKit.intOf]; omega) | omega
    · obtain rfl : l.length = j := by omega
      have d1 : decide ((l.length : Int) < (l.length : Int)) = false := decide_eq_false (by omega)
      obtain ⟨A1, q1, e1, cS⟩ := HT.out.settleAll (by omega)
      subst e1
      have H0 := HT.out
      go_wp2_with fail
      refine cS.mono ?_
      clear cS
      rintro e w4 ⟨rfl, ac', ab', c', hset, T4⟩
      have HSET := powers.lay hset
      obtain ⟨S4, W4, G4, _⟩ := id T4.sg
      have cN := segs.new_ok G4.md
      rw [T4.segs] at cN
      have hbs := begun_same H0.log.ok H0.inv H0.pl hset T4.log.ok T4.pl
      obtain ⟨acB, hB, hSame, hInvB, hu0, hu1⟩ := hbs
      obtain ⟨PA, pcp, ep, hP4⟩ := T4.psF (by omega)
      cases ep
      have hvpl : ∀ k, Value.ownBlock (.slice A1 L.length q1) = some k → k < w4.heap.size := fun k hk => (T4.own1.lt k hk).2
      have HT4 := powers.lay T4
      have HG4 := powers.lay G4
      have HB2 := powers.lay hB
      have HSame := powers.lay hSame
      have HInvB := powers.lay hInvB
      have HP4 := powers.lay hP4
      clear hset hB hSame hInvB hP4 H0 HT T4 G4
      go_wp2_with fail
      refine cN.mono ?_
      clear cN
      rintro e w5 ⟨lgb, abb, cb, rfl, l5, b5, hlg5, hab5⟩
      have T5 := HT4.out.below b5
      have c1 := open_ok T5.log
      obtain ⟨U, hU⟩ : ∃ U, (at3 (LS.mk s.o ac').ac (LS.mk s.o ac').o).b = U := ⟨_, rfl⟩
      rw [hU] at c1
      have hb5 := b5.size
      change (at3 ac' s.o).b = U at hU
      rw [hU] at hu0 hu1 HB2
      have HU := powers.lay hU
      have HB5 := powers.lay b5
      clear hU b5 T5
      go_wp2_with fail
      refine c1.mono ?_
      clear c1
      rintro e w6 ⟨rfl, b6⟩
      have hb6 := b6.size
      have HB6 := powers.lay (HB5.out.trans (b6.mono hb5))
      have HB6Y := powers.lay b6
      have l6 := l5.below b6
      have G6 := HG4.out.below HB6.out
      have cB := begin_ok G6.md l6 (by rw [newL_len]; exact HT4.out.segs.symm) s.o (by have h1 := HT4.out.log.ok.o; have h2 := HT4.out.len; have h3 := HT4.out.segs; dsimp only at h1 h2; omega) U ⟨hu0, hu1⟩ (L.map (·.1)) A1 q1 (fun k => Value.ownBlock (.slice A1 L.length q1) = some k) (fun k hk => by have := hvpl k hk; omega) (HP4.out.agree (Agree.of_below HB6.out hvpl))
      rw [List.length_map] at cB
      have HL5 := powers.lay l5
      clear b6 l6 G6 l5
      go_wp2_with fail
      refine cB.mono ?_
      clear cB
      rintro e w7 (⟨hbad, _⟩ | ⟨acB', abb2, cb2, hs2, rfl, l7, k7, hab7⟩)
      · rw [show (LS.mk s.o (foundP m s.o U)).ac = foundP m s.o U from rfl, HB2.out] at hbad; cases hbad
      rw [show (LS.mk s.o (foundP m s.o U)).ac = foundP m s.o U from rfl, HB2.out] at hs2
      obtain rfl := Option.some.inj hs2
      have hTw : Tw w1 w7 p g lg ab' c' lgb abb2 cb2 n z l.length m ⟨s.o, ac'⟩ ⟨s.o, acB⟩ := Tw.begun HG4.out hlg5 (HL5.out.below (HB6Y.out)) HB6.out l7 k7 hab7 HInvB.out HT4.out.size HT4.out.segs HT4.out.past (fun i => by
        by_cases hi : i < acB.length
        · exact (l7.ok.used i hi).1
        · show 0 ≤ (at3 acB i).b
          rw [at3_out (by omega)]; exact Int.le_refl _) HInvB.out.1
      have HTw := powers.lay hTw
      have hlnA : ac'.length = n := HT4.out.len
      clear hTw hs2 k7 l7
      obtain ⟨sa, hsa⟩ : ∃ sa, LS.mk s.o ac' = sa := ⟨_, rfl⟩
      obtain ⟨sb, hsb⟩ : ∃ sb, LS.mk s.o acB = sb := ⟨_, rfl⟩
      rw [hsa] at HSame
      rw [hsa] at HTw
      rw [hsb] at HSame HTw
      have hla : sa.ac.length = n := by rw [← hsa]; exact hlnA
      clear hsa hsb HT4 HG4 HSET HB2 HInvB HP4 HL5 HB5 HB6 HB6Y HU
      go_wp2_with fail
      go_loopw [20] (fun i wx => ∃ t : Nat, i = .int .i64 (t : Int) ∧ t ≤ n ∧ wx = w7) (fun i _ => n - (RowKit.intOf i).toNat)
      case atStart => exact ⟨0, rfl, Nat.zero_le _, by first | rfl | trivial⟩
      case round =>
        obtain ⟨t, rfl, ht, rfl⟩ := hrel
        have et : IntKind.i64.wrap ((t : Int) + 1) = (t : Int) + 1 := IntWalk.i64_in _ (by omega)
        by_cases hlt : t < n
        · have n2 : t + 1 ≤ n := hlt
          have d3 : decide ((t : Int) < (n : Int)) = true := decide_eq_true (by omega)
          have d4 : decide (t < n) = true := decide_eq_true hlt
          have cKa := kind_ok HTw.out.a (t : Int)
          have cKb := kind_ok HTw.out.log (t : Int)
          have cLa := live_ok HTw.out.a (t : Int)
          have cLb := live_ok HTw.out.log (t : Int)
          rw [HSame.out.kindI] at cKb
          rw [HSame.out.liveI] at cLb
          generalize kindI sa (t : Int) = kk at *
          generalize liveI sa (t : Int) = ll at *
          clear hlt
          go_wp2_with (first | (go_at_call 39; first | (refine cKa.mono ?_; clear cKa; rintro e wx ⟨rfl, rfl⟩) | (refine cKb.mono ?_; clear cKb; rintro e wx ⟨rfl, rfl⟩)) | (go_at_call 41; first | (refine cLa.mono ?_; clear cLa; rintro e wx ⟨rfl, rfl⟩) | (refine cLb.mono ?_; clear cLb; rintro e wx ⟨rfl, rfl⟩)))
          go_roundw
          case rel => exact ⟨t + 1, by go_num, n2, by first | rfl | trivial⟩
          case measure => first | (simp [RowKit.intOf]; done) | (simp [RowKit.intOf]; omega) | omega
        · obtain rfl : t = n := by omega
          have d3 : decide ((t : Int) < (t : Int)) = false := decide_eq_false (by omega)
          clear hlt
          go_wp2_with fail
          go_loopw [21] (fun i wx => ∃ j : Nat, i = .int .i64 (j : Int) ∧ j ≤ l2.length ∧ ∃ (m : MS) (sb : LS), Hid (Tw w1 wx p g lg ab' c' lgb abb2 cb2 t z l.length m sa sb) ∧ Hid (j = 0 → Same sa sb)) (fun i _ => l2.length - (RowKit.intOf i).toNat)
          case atStart => exact ⟨0, rfl, Nat.zero_le _, _, _, HTw, powers.lay (fun _ => HSame.out)⟩
          case round =>
            clear HTw HSame
            obtain ⟨j, rfl, hj, m, sb, HT, HSm⟩ := hrel
            have ej : IntKind.i64.wrap ((j : Int) + 1) = (j : Int) + 1 := IntWalk.i64_in _ (by omega)
            by_cases hlt : j < l2.length
            · obtain ⟨b, off, rfl, hbk, x0, hsz⟩ := (HX2.out.below (HBA.out.trans (HT.out.hb.mono HBA.out.size))).at_ hlt
              have hbk2 : b < wr.heap.size := by have := HBA.out.size; have := HT.out.hb.size; omega
              have n2 : j + 1 ≤ l2.length := hlt
              have d3 : decide ((j : Int) < (l2.length : Int)) = true := decide_eq_true (by omega)
              have d4 : decide (j < l2.length) = true := decide_eq_true hlt
              generalize l2[j] = t at *
              unfold maxLen at hsz
              clear hlt
              have c1 := open_ok HT.out.log
              obtain ⟨U, hU⟩ : ∃ U, (at3 sb.ac sb.o).b = U := ⟨_, rfl⟩
              rw [hU] at c1
              have HU := powers.lay hU
              clear hU
              go_wp2_with fail
              refine c1.mono ?_
              clear c1
              rintro e w4 ⟨rfl, b4⟩
              have T4 := HT.out.below b4
              have c1 := open_ok T4.a
              obtain ⟨V, hV⟩ : ∃ V, (at3 sa.ac sa.o).b = V := ⟨_, rfl⟩
              rw [hV] at c1
              have HV := powers.lay hV
              have hb4 := b4.size
              have x1 := (b4.cell (p := ⟨b, off + j, none⟩) hbk2).trans x0
              clear hV b4 x0
              go_wp2_with fail
              refine c1.mono ?_
              clear c1
              rintro e w5 ⟨rfl, b5⟩
              have T5 := T4.below b5
              have c1 := free_ok T5.a
              have hb5 := b5.size
              have x2 := (b5.cell (p := ⟨b, off + j, none⟩) (by show b < _; omega)).trans x1
              have hoo : j = 0 → (sb.o : Int) = (sa.o : Int) ∧ U = V := fun h0 => by
                have hs := HSm.out h0
                rw [← HU.out, ← HV.out, hs.u, hs.o]
                exact ⟨rfl, rfl⟩
              have HOO := powers.lay hoo
              have hfe : j = 0 → those sa.ac 1 = those sb.ac 1 := fun h0 => ((HSm.out h0).those 1).symm
              have HFE := powers.lay hfe
              have hla : (those sa.ac 1).length ≤ 4096 := by have h1 := parted T5.a.ok; have h3 := T5.a.ok.len; omega
              have hlb : (those sb.ac 1).length ≤ 4096 := by have h1 := parted T5.log.ok; have h3 := T5.log.ok.len; omega
              clear b5 x1 T4 hoo hfe
              by_cases hj0 : j = 0
              · subst hj0
                obtain ⟨e6, e7⟩ := HOO.out rfl
                have HFE0 := powers.lay (HFE.out rfl)
                have e6' : sb.o = sa.o := by omega
                subst e7
                obtain ⟨so, hso⟩ : ∃ so, sa.o = so := ⟨_, rfl⟩
                go_wp2_with fail
                refine c1.mono ?_
                clear c1
                rintro e w6 ⟨v6, rfl, ho6, b6⟩
                obtain ⟨A6, c6, rfl, _, hR6⟩ := nsPost_slice ho6
                have T6 := T5.below b6
                have c1 := free_ok T6.log
                have hb6 := b6.size
                have x3 := (b6.cell (p := ⟨b, off + 0, none⟩) (by show b < _; omega)).trans x2
                clear ho6 b6 T5 x2
                go_wp2_with fail
                refine c1.mono ?_
                clear c1
                rintro e w7 ⟨v7, rfl, ho7, b7⟩
                obtain ⟨A7, c7, rfl, _, hR7⟩ := nsPost_slice ho7
                have T7 := T6.below b7
                have c1 := sameN_ok (those sa.ac 1) (those sb.ac 1) A6 A7 c6 c7 w7 (hR6.agree (Agree.of_below b7 fun k hk => hk.2)).rd hR7.rd (by omega) (by omega)
                have hb7 := b7.size
                have x4 := (b7.cell (p := ⟨b, off + 0, none⟩) (by show b < _; omega)).trans x3
                clear ho7 b7 T6 x3 hR6 hR7
                rw [decide_eq_true HFE0.out] at c1
                go_wp2_with fail
                refine c1.mono ?_
                clear c1
                rintro e w8 ⟨rfl, b8⟩
                have T8 := T7.below b8
                have hb8 := b8.size
                have x5 := (b8.cell (p := ⟨b, off + 0, none⟩) (by show b < _; omega)).trans x4
                have cA := T8.append ⟨by omega, by omega⟩ (by omega) t (by omega)
                rw [HU.out] at cA
                clear T7 b8 x4
                have x6 := x5
                rw [Nat.add_zero] at x6
                go_wp2_with fail
                refine cA.mono ?_
                clear cA x5 x6
                rintro e w9 ⟨v, E, m9, s9, rfl, hv, T9⟩
                obtain ⟨pa, pb, pc⟩ := v
                dsimp only at hv
                have HVV := powers.lay hv
                clear hv
                have b10 : Below w9.heap.size w9 (w9.alloc (.cells #[.int .i64 pa, .int .i64 pb, .int .i64 pc] 95)) := (Below.refl _ _).alloc (Nat.le_refl _) _
                have kP := Blk.new w9 95 #[.int .i64 pa, .int .i64 pb, .int .i64 pc]
                have T10 := T9.below b10
                obtain ⟨W10, hW10⟩ : ∃ W10, w9.alloc (.cells #[.int .i64 pa, .int .i64 pb, .int .i64 pc] 95) = W10 := ⟨_, rfl⟩
                obtain ⟨qp, hqp⟩ : ∃ qp, w9.heap.size = qp := ⟨_, rfl⟩
                rw [hW10] at T10 kP b10
                have HQP := powers.lay hqp
                rw [hqp] at kP
                have f0 := kP.frozen 0
                have f1 := kP.frozen 1
                have f2 := kP.frozen 2
                obtain ⟨h0, h1, h2⟩ := kP.c3
                have hB10 := b10.size
                have HT10 := powers.lay T10
                have HS10 : Hid (0 + 1 = 0 → Same sa s9) := powers.lay (fun h => by omega)
                clear T9 T10 b10 T8 HT
                by_cases hE : E = 0
                · subst hE
                  have HV2 := HVV.out rfl
                  by_cases hp : pa = (so : Int)
                  · have hpb := HV2 (by rw [e6', hso]; exact hp)
                    subst hp
                    subst hpb
                    clear HV2
                    go_wp2_with fail
                    go_roundw
                    case rel => exact ⟨0 + 1, by go_num, n2, _, _, HT10, HS10⟩
                    case measure => first | (simp [RowKit.intOf]; done) | (simp [RowKit.intOf]; omega) | omega
                  · have q5 : decide (pa = (so : Int)) = false := decide_eq_false hp
                    have q6 : (pa == (so : Int)) = false := by simp [hp]
                    clear HV2
                    go_wp2_with fail
                    go_roundw
                    case rel => exact ⟨0 + 1, by go_num, n2, _, _, HT10, HS10⟩
                    case measure => first | (simp [RowKit.intOf]; done) | (simp [RowKit.intOf]; omega) | omega
                · have dE : decide (E = 0) = false := decide_eq_false hE
                  have dE2 : (E == 0) = false := by simp [hE]
                  go_wp2_with fail
                  go_roundw
                  case rel => exact ⟨0 + 1, by go_num, n2, _, _, HT10, HS10⟩
                  case measure => first | (simp [RowKit.intOf]; done) | (simp [RowKit.intOf]; omega) | omega
              · have i0 : decide ((j : Int) = 0) = false := decide_eq_false (by omega)
                have i1 : ((j : Int) == 0) = false := by simp; omega
                have i2 : decide (j = 0) = false := decide_eq_false hj0
                go_wp2_with fail
                refine c1.mono ?_
                clear c1
                rintro e w6 ⟨v6, rfl, ho6, b6⟩
                obtain ⟨A6, c6, rfl, _, hR6⟩ := nsPost_slice ho6
                have T6 := T5.below b6
                have c1 := free_ok T6.log
                have hb6 := b6.size
                have x3 := (b6.cell (p := ⟨b, off + j, none⟩) (by show b < _; omega)).trans x2
                clear ho6 b6 T5 x2
                go_wp2_with fail
                refine c1.mono ?_
                clear c1
                rintro e w7 ⟨v7, rfl, ho7, b7⟩
                obtain ⟨A7, c7, rfl, _, hR7⟩ := nsPost_slice ho7
                have T7 := T6.below b7
                have c1 := sameN_ok (those sa.ac 1) (those sb.ac 1) A6 A7 c6 c7 w7 (hR6.agree (Agree.of_below b7 fun k hk => hk.2)).rd hR7.rd (by omega) (by omega)
                have hb7 := b7.size
                have x4 := (b7.cell (p := ⟨b, off + j, none⟩) (by show b < _; omega)).trans x3
                clear ho7 b7 T6 x3 hR6 hR7
                generalize decide (those sa.ac 1 = those sb.ac 1) = R at c1
                cases R
                · go_wp2_with fail
                  refine c1.mono ?_
                  clear c1
                  rintro e w8 ⟨rfl, b8⟩
                  have T8 := T7.below b8
                  have hb8 := b8.size
                  have x5 := (b8.cell (p := ⟨b, off + j, none⟩) (by show b < _; omega)).trans x4
                  have cA := T8.append ⟨by omega, by omega⟩ (by omega) t (by omega)
                  rw [HU.out] at cA
                  clear T7 b8 x4
                  go_wp2_with fail
                  refine cA.mono ?_
                  clear cA x5
                  rintro e w9 ⟨v, E, m9, s9, rfl, hv, T9⟩
                  obtain ⟨pa, pb, pc⟩ := v
                  dsimp only at hv
                  have HVV := powers.lay hv
                  clear hv
                  have b10 : Below w9.heap.size w9 (w9.alloc (.cells #[.int .i64 pa, .int .i64 pb, .int .i64 pc] 95)) := (Below.refl _ _).alloc (Nat.le_refl _) _
                  have kP := Blk.new w9 95 #[.int .i64 pa, .int .i64 pb, .int .i64 pc]
                  have T10 := T9.below b10
                  obtain ⟨W10, hW10⟩ : ∃ W10, w9.alloc (.cells #[.int .i64 pa, .int .i64 pb, .int .i64 pc] 95) = W10 := ⟨_, rfl⟩
                  obtain ⟨qp, hqp⟩ : ∃ qp, w9.heap.size = qp := ⟨_, rfl⟩
                  rw [hW10] at T10 kP b10
                  have HQP := powers.lay hqp
                  rw [hqp] at kP
                  have f0 := kP.frozen 0
                  have f1 := kP.frozen 1
                  have f2 := kP.frozen 2
                  obtain ⟨h0, h1, h2⟩ := kP.c3
                  have hB10 := b10.size
                  have HT10 := powers.lay T10
                  have HS10 : Hid (j + 1 = 0 → Same sa s9) := powers.lay (fun h => by omega)
                  clear T9 T10 b10 T8 HT
                  by_cases hE : E = 0
                  · subst hE
                    have HV2 := HVV.out rfl
                    by_cases hp : pa = (sb.o : Int)
                    · have hpb := HV2 hp
                      subst hp
                      subst hpb
                      clear HV2
                      go_wp2_with fail
                      go_roundw
                      case rel => exact ⟨j + 1, by go_num, n2, _, _, HT10, HS10⟩
                      case measure => first | (simp [RowKit.intOf]; done) | (simp [RowKit.intOf]; omega) | omega
                    · have q5 : decide (pa = (sb.o : Int)) = false := decide_eq_false hp
                      have q6 : (pa == (sb.o : Int)) = false := by simp [hp]
                      clear HV2
                      go_wp2_with fail
                      go_roundw
                      case rel => exact ⟨j + 1, by go_num, n2, _, _, HT10, HS10⟩
                      case measure => first | (simp [RowKit.intOf]; done) | (simp [RowKit.intOf]; omega) | omega
                  · have dE : decide (E = 0) = false := decide_eq_false hE
                    have dE2 : (E == 0) = false := by simp [hE]
                    go_wp2_with fail
                    go_roundw
                    case rel => exact ⟨j + 1, by go_num, n2, _, _, HT10, HS10⟩
                    case measure => first | (simp [RowKit.intOf]; done) | (simp [RowKit.intOf]; omega) | omega
                · go_wp2_with fail
                  refine c1.mono ?_
                  clear c1
                  rintro e w8 ⟨rfl, b8⟩
                  have T8 := T7.below b8
                  have hb8 := b8.size
                  have x5 := (b8.cell (p := ⟨b, off + j, none⟩) (by show b < _; omega)).trans x4
                  have cA := T8.append ⟨by omega, by omega⟩ (by omega) t (by omega)
                  rw [HU.out] at cA
                  clear T7 b8 x4
                  go_wp2_with fail
                  refine cA.mono ?_
                  clear cA x5
                  rintro e w9 ⟨v, E, m9, s9, rfl, hv, T9⟩
                  obtain ⟨pa, pb, pc⟩ := v
                  dsimp only at hv
                  have HVV := powers.lay hv
                  clear hv
                  have b10 : Below w9.heap.size w9 (w9.alloc (.cells #[.int .i64 pa, .int .i64 pb, .int .i64 pc] 95)) := (Below.refl _ _).alloc (Nat.le_refl _) _
                  have kP := Blk.new w9 95 #[.int .i64 pa, .int .i64 pb, .int .i64 pc]
                  have T10 := T9.below b10
                  obtain ⟨W10, hW10⟩ : ∃ W10, w9.alloc (.cells #[.int .i64 pa, .int .i64 pb, .int .i64 pc] 95) = W10 := ⟨_, rfl⟩
                  obtain ⟨qp, hqp⟩ : ∃ qp, w9.heap.size = qp := ⟨_, rfl⟩
                  rw [hW10] at T10 kP b10
                  have HQP := powers.lay hqp
                  rw [hqp] at kP
                  have f0 := kP.frozen 0
                  have f1 := kP.frozen 1
                  have f2 := kP.frozen 2
                  obtain ⟨h0, h1, h2⟩ := kP.c3
                  have hB10 := b10.size
                  have HT10 := powers.lay T10
                  have HS10 : Hid (j + 1 = 0 → Same sa s9) := powers.lay (fun h => by omega)
                  clear T9 T10 b10 T8 HT
                  by_cases hE : E = 0
                  · subst hE
                    have HV2 := HVV.out rfl
                    by_cases hp : pa = (sb.o : Int)
                    · have hpb := HV2 hp
                      subst hp
                      subst hpb
                      clear HV2
                      go_wp2_with fail
                      go_roundw
                      case rel => exact ⟨j + 1, by go_num, n2, _, _, HT10, HS10⟩
                      case measure => first | (simp [RowKit.intOf]; done) | (simp [RowKit.intOf]; omega) | omega
                    · have q5 : decide (pa = (sb.o : Int)) = false := decide_eq_false hp
                      have q6 : (pa == (sb.o : Int)) = false := by simp [hp]
                      clear HV2
                      go_wp2_with fail
                      go_roundw
                      case rel => exact ⟨j + 1, by go_num, n2, _, _, HT10, HS10⟩
                      case measure => first | (simp [RowKit.intOf]; done) | (simp [RowKit.intOf]; omega) | omega
                  · have dE : decide (E = 0) = false := decide_eq_false hE
                    have dE2 : (E == 0) = false := by simp [hE]
                    go_wp2_with fail
                    go_roundw
                    case rel => exact ⟨j + 1, by go_num, n2, _, _, HT10, HS10⟩
                    case measure => first | (simp [RowKit.intOf]; done) | (simp [RowKit.intOf]; omega) | omega
            · obtain rfl : j = l2.length := by omega
              have d3 : decide ((l2.length : Int) < (l2.length : Int)) = false := decide_eq_false (by omega)
              have T4 := HT.out
              have c1 := free_ok T4.log
              clear hlt
              go_wp2_with fail
              refine c1.mono ?_
              clear c1
              rintro e w8 ⟨v8, rfl, ho8, b8⟩
              obtain ⟨A8, c8, rfl, _⟩ := own_slice ho8
              have T8 := T4.below b8
              have c1 := sealed_ok T8.log
              clear ho8
              go_wp2_with fail
              refine c1.mono ?_
              clear c1
              rintro e w9 ⟨v9, rfl, ho9, b9⟩
              obtain ⟨A9, c9, rfl, _⟩ := own_slice ho9
              have T9 := T8.below b9
              have hpart := parted T9.log.ok
              have hln := T9.log.ok.len
              have hln2 : sb.ac.length = t := T9.inv.1.trans T9.segs
              have hfin := HBA.out.trans (T9.hb.mono HBA.out.size)
              generalize (those sb.ac 1).length = f1 at *
              generalize (those sb.ac 2).length = f2 at *
              have e5 : IntKind.i64.wrap ((f1 : Int) + (f2 : Int)) = (f1 : Int) + (f2 : Int) := IntWalk.i64_in _ (by omega)
              have e6 : IntKind.i64.wrap ((f1 : Int) + (f2 : Int) + 1) = (t : Int) := by rw [IntWalk.i64_in _ (by omega)]; omega
              clear ho9 b8 b9 T8 T9 T4 hpart d3 hln hln2 HT
              go_wp2_with fail
              go_ret
              exact ⟨rfl, hfin⟩

end Go.Proofs.Ytblfacodfmbodaa.segs
