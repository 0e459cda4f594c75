/- settled and Settle. -/
import Derived.Test.YthmamlghmagmkaaSgF


namespace Go.Proofs.Ythmamlghmagmkaa.segs
set_option linter.unusedVariables false
set_option linter.unusedSimpArgs false
open Go.RowKit Go.Shelf Go.Proofs.Ythmamlghmagmkaa.base Go.Proofs.Ythmamlghmagmkaa.trees Go.Proofs.Ythmamlghmagmkaa.powers Go.Proofs.Ythmamlghmagmkaa.mediums Go.Lib

/-- the first j turned -/
def mapTo (f : T3 → T3) (ac : List T3) (j : Nat) : List T3 := (ac.take j).map f ++ ac.drop j
theorem mapTo_zero (f : T3 → T3) (ac : List T3) : mapTo f ac 0 = ac := rfl
theorem mapTo_all (f : T3 → T3) (ac : List T3) : mapTo f ac ac.length = ac.map f := by unfold mapTo; rw [List.take_length, List.drop_length, List.append_nil]
theorem mapTo_len (f : T3 → T3) (ac : List T3) (j : Nat) : (mapTo f ac j).length = ac.length := by
  unfold mapTo
  rw [List.length_append, List.length_map, List.length_take, List.length_drop]; omega
theorem mapTo_at (f : T3 → T3) (ac : List T3) {j : Nat} (hj : j < ac.length) : at3 (mapTo f ac j) j = at3 ac j := by
  unfold mapTo at3
  rw [List.getElem?_append_right (by rw [List.length_map, List.length_take]; omega), List.length_map, List.length_take, List.getElem?_drop, show j + (j - min j ac.length) = j by omega]
theorem mapTo_set (f : T3 → T3) (ac : List T3) {j : Nat} (hj : j < ac.length) : (mapTo f ac j).set j (f (at3 ac j)) = mapTo f ac (j + 1) := by
  unfold mapTo
  rw [List.set_append, if_neg (by rw [List.length_map, List.length_take]; omega), List.length_map, List.length_take, show j - min j ac.length = 0 by omega, List.drop_eq_getElem_cons hj, List.set_cons_zero, List.take_add_one, List.getElem?_eq_getElem hj, List.map_append, List.append_assoc, at3_eq hj]
  rfl
theorem mapTo_stay (f : T3 → T3) (ac : List T3) {j : Nat} (hj : j < ac.length) (h : f (at3 ac j) = at3 ac j) : mapTo f ac (j + 1) = mapTo f ac j := by
  rw [← mapTo_set f ac hj, h]
  apply List.ext_getElem?
  intro i
  by_cases e : j = i
  · subst e
    have := mapTo_at f ac hj
    rw [List.getElem?_set_self (by rw [mapTo_len]; exact hj)]
    rw [List.getElem?_eq_getElem (by rw [mapTo_len]; exact hj)]
    rw [at3_eq (by rw [mapTo_len]; exact hj)] at this
    rw [this]
  · rw [List.getElem?_set_ne e]
/-- Ps: places in a list, all ints -/
def PsF (w : World) (F : Nat → Prop) (ps : List T3) (A : Option Addr) (c : Nat) : Prop := ps.length ≤ c ∧ ps.length * 24 ≤ 140737488355328 ∧ (A = none → c = 0) ∧ RdF w F A (cellsJ ps) ∧ ∀ p ∈ ps, (-9223372036854775808 ≤ p.a ∧ p.a ≤ 9223372036854775807) ∧ (-9223372036854775808 ≤ p.b ∧ p.b ≤ 9223372036854775807) ∧ (-9223372036854775808 ≤ p.c ∧ p.c ≤ 9223372036854775807)
theorem PsF.agree {w w' : World} {F : Nat → Prop} {ps : List T3} {A : Option Addr} {c : Nat} (h : PsF w F ps A c) (hk : Agree w w' F) : PsF w' F ps A c := ⟨h.1, h.2.1, h.2.2.1, h.2.2.2.1.agree hk, h.2.2.2.2⟩
theorem PsF.at_ {w : World} {F : Nat → Prop} {ps : List T3} {A : Option Addr} {c : Nat} (h : PsF w F ps A c) {j : Nat} (hj : j < ps.length) : ∃ b off, A = some ⟨b, off, none⟩ ∧ F b ∧ w.cell? ⟨b, off + j * 3, none⟩ = some (.int .i64 ps[j].a) ∧ w.cell? ⟨b, off + j * 3 + 1, none⟩ = some (.int .i64 ps[j].b) ∧ w.cell? ⟨b, off + j * 3 + 2, none⟩ = some (.int .i64 ps[j].c) := by
  obtain ⟨c0, c1, c2⟩ := cellsJ_at ps hj
  obtain ⟨b, off, e, hb, h0⟩ := h.2.2.2.1 _ _ c0
  obtain ⟨b1, off1, e1, hb1, h1⟩ := h.2.2.2.1 _ _ c1
  obtain ⟨b2, off2, e2, hb2, h2⟩ := h.2.2.2.1 _ _ c2
  rw [e] at e1 e2
  cases e1
  cases e2
  exact ⟨b, off, e, hb, h0, by rw [Nat.add_assoc]; exact h1, by rw [Nat.add_assoc]; exact h2⟩
theorem all_take {α : Type} {f : α → Bool} {l : List α} {j : Nat} (hj : j < l.length) (h1 : (l.take j).all f = true) (h2 : f l[j] = true) : (l.take (j + 1)).all f = true := by
  rw [List.take_add_one, List.getElem?_eq_getElem hj, List.all_append, h1]; simp [h2]
theorem sums_take (ac ps : List T3) {j : Nat} (hj : j < ps.length) : sums ac (ps.take (j + 1)) = addL (sums ac (ps.take j)) ps[j] := by
  rw [List.take_add_one, List.getElem?_eq_getElem hj]; exact sums_snoc _ _ _
theorem mayB_congr {ac ac' : List T3} (hl : ac'.length = ac.length) (hb : ∀ i, (at3 ac' i).b = (at3 ac i).b) (p : T3) : mayB ac' p = mayB ac p := by unfold mayB; rw [hl, hb]
theorem liveIn_take_le {ac ps : List T3} {j : Nat} (h : (ps.take j).all (mayB ac) = true) (hu : ∀ i, i < ac.length → 0 ≤ (at3 ac i).b ∧ (at3 ac i).b ≤ 1048576) (hj : j ≤ ps.length) (i : Nat) : 0 ≤ liveIn (ps.take j) i ∧ liveIn (ps.take j) i ≤ (j : Int) * 1048576 := by
  have hm : ∀ p ∈ ps.take j, 1 ≤ p.c ∧ p.c ≤ 1048576 := fun p hp => by
    have := List.all_eq_true.1 h p hp
    rw [mayB_iff] at this
    obtain ⟨⟨h1, h2⟩, h3, h4, h5⟩ := this
    have := hu p.a.toNat (by omega)
    exact ⟨h4, by omega⟩
  refine ⟨liveIn_nonneg (fun p hp => (hm p hp).1) i, ?_⟩
  have := liveIn_le (M := 1048576) (fun p hp => ⟨by have := hm p hp; omega, (hm p hp).2⟩) i
  rw [List.length_take, Nat.min_eq_left hj] at this
  exact this
theorem free_yes {x : T3} (h : x.a = 2 ∧ x.c = 0) : freeT x = ⟨1, 0, 0⟩ := by unfold freeT; rw [if_pos h]
theorem free_no {x : T3} (h : ¬ (x.a = 2 ∧ x.c = 0)) : freeT x = x := by unfold freeT; rw [if_neg h]
theorem set_three (l : List T3) {i : Nat} (hi : i < l.length) (x : T3) : (((cellsJ l).set (i * 3) (.int .i64 x.a)).set (i * 3 + 1) (.int .i64 x.b)).set (i * 3 + 2) (.int .i64 x.c) = cellsJ (l.set i x) := by
  rw [cellsJ_set0 l hi, cellsJ_set1 _ (by simpa using hi), cellsJ_set2 _ (by simpa using hi), List.set_set, List.set_set, at3_set _ (by simpa using hi), at3_set _ (by simpa using hi)]
theorem Ac.store3 {w : World} {lo ab c : Nat} {ac : List T3} (h : Ac w lo ab c ac) {j : Nat} (hj : j < ac.length) (x : T3) :
    Ac (((w.setCell ⟨ab, j * 3, none⟩ (.int .i64 x.a)).setCell ⟨ab, j * 3 + 1, none⟩ (.int .i64 x.b)).setCell ⟨ab, j * 3 + 2, none⟩ (.int .i64 x.c)) lo ab c (ac.set j x) ∧ Keep (fun k => k = ab) w (((w.setCell ⟨ab, j * 3, none⟩ (.int .i64 x.a)).setCell ⟨ab, j * 3 + 1, none⟩ (.int .i64 x.b)).setCell ⟨ab, j * 3 + 2, none⟩ (.int .i64 x.c)) := by
  obtain ⟨h1, k1⟩ := World.ownsRow.stored h (j * 3) (.int .i64 x.a)
  obtain ⟨h2, k2⟩ := World.ownsRow.stored h1 (j * 3 + 1) (.int .i64 x.b)
  obtain ⟨h3, k3⟩ := World.ownsRow.stored h2 (j * 3 + 2) (.int .i64 x.c)
  rw [set_three ac hj x] at h3
  have hl : (ac.set j x).length = ac.length := List.length_set
  refine ⟨?_, ((grown_keep k1).trans (grown_keep k2) fun k hk _ => hk).trans (grown_keep k3) fun k hk _ => hk⟩
  unfold Ac
  rw [hl]
  exact h3
/-- what settled answers -/
def StPost (ac ps : List T3) (w : World) (e : Ending) (w' : World) : Prop := Below w.heap.size w w' ∧
  ((settledP ac ps = none ∧ e = .returned (.tuple #[.slice none 0 0, .bool false])) ∨
   (∃ ac' ab' c', settledP ac ps = some ac' ∧ ac'.length = ac.length ∧ e = .returned (.tuple #[.slice (some ⟨ab', 0, none⟩) ac'.length c', .bool true]) ∧ Ac w' w.heap.size ab' c' ac'))

set_option maxRecDepth 100000 in
set_option maxHeartbeats 4000000 in
theorem settled_ok {w : World} {lo ab c : Nat} {ac : List T3} (h : Ac w lo ab c ac) (hl : 1 ≤ ac.length ∧ ac.length ≤ 4096) (hu : ∀ i, i < ac.length → 0 ≤ (at3 ac i).b ∧ (at3 ac i).b ≤ 1048576) (ps : List T3) (A : Option Addr) (cp : Nat) (F : Nat → Prop) (hF : ∀ k, F k → k < w.heap.size) (hP : PsF w F ps A cp) :
    Calls Try.prog 115 #[.slice (some ⟨ab, 0, none⟩) ac.length c, .slice A ps.length cp] w (StPost ac ps w) := by
  obtain ⟨A0, c0, e0, hc0, hA0, hr0⟩ := row_rdF h
  cases e0
  have cC := cloneA_any (some ⟨ab, 0, none⟩) ac.length c (cellsJ ac) _ w (cellsJ_len ac) hr0 (fun h => by cases h) (cellsJ_one ac) (by omega)
  have hps := hP.2.1
  have hpc := hP.1
  have hpA := hP.2.2.1
  have HP := powers.lay hP
  obtain ⟨n, hn⟩ : ∃ n, ac.length = n := ⟨_, rfl⟩
  have HN := powers.lay hn
  have HU := powers.lay hu
  obtain ⟨pn, hpn⟩ : ∃ pn, ps.length = pn := ⟨_, rfl⟩
  have HPN := powers.lay hpn
  rw [hn] at cC hl ⊢
  rw [hpn] at hps hpc ⊢
  clear hr0 hA0 hn hpn hP hu
  go_enter Try.func115, Try.ntmps115
  go_wp2_with fail
  refine cC.mono ?_
  rintro e w1 ⟨v, rfl, ho, b1⟩
  clear cC
  obtain ⟨a1, k1, rfl, h1⟩ := ac_shape ho HN.out.symm hl.1
  rw [HN.out]
  clear ho
  go_wp2_with fail
  go_loopw [16] (fun i wr => ∃ j : Nat, i = .int .i64 (j : Int) ∧ j ≤ n ∧ Hid (Ac wr w.heap.size a1 k1 (mapTo noL ac j) ∧ Below w.heap.size w wr)) (fun i _ => n - (RowKit.intOf i).toNat)
  case atStart => exact ⟨0, rfl, Nat.zero_le _, powers.lay ⟨by rw [mapTo_zero]; exact h1, b1⟩⟩
  case round =>
    clear h1 b1
    obtain ⟨j, rfl, hj, HR⟩ := hrel
    have e1 : IntKind.i64.wrap ((j : Int) + 1) = (j : Int) + 1 := IntWalk.i64_in _ (by omega)
    by_cases hlt : j < n
    · have hja : j < ac.length := by rw [HN.out]; exact hlt
      have hjm : j < (mapTo noL ac j).length := by rw [mapTo_len]; exact hja
      have y2 := (HR.out.1.cells hjm).2.2
      have f2 := World.ownsRow.frozenAt HR.out.1 (j * 3 + 2)
      have hcap := HR.out.1.cap
      rw [mapTo_len, HN.out] at hcap
      go_wp2_with fail
      obtain ⟨h2, k2⟩ := HR.out.1.store (j * 3 + 2) (.int .i64 0) (ac' := mapTo noL ac (j + 1)) (by rw [cellsJ_set2 _ hjm, mapTo_at noL ac hja, ← mapTo_set noL ac hja]; rfl) (by rw [mapTo_len, mapTo_len])
      have hlo := HR.out.1.low
      have b2 : Below w.heap.size w (wr.setCell ⟨a1, j * 3 + 2, none⟩ (.int .i64 0)) := HR.out.2.trans (k2.below (fun k hk => by rw [hk]; exact hlo) HR.out.2.size)
      go_roundw
      case rel => exact ⟨j + 1, by go_num, hlt, powers.lay ⟨h2, b2⟩⟩
      case measure => first | (simp [RowKit.intOf]; done) | (simp [RowKit.intOf]; omega) | omega
    · obtain rfl : n = j := by omega
      have HR1 : Hid (Ac wr w.heap.size a1 k1 (sums ac (ps.take 0)) ∧ Below w.heap.size w wr ∧ (ps.take 0).all (mayB ac) = true) := powers.lay ⟨by
        have := HR.out.1
        rw [← HN.out, mapTo_all] at this
        exact this, HR.out.2, rfl⟩
      clear HR
      go_wp2_with fail
      go_loopw [26] (fun i wx => ∃ j : Nat, i = .int .i64 (j : Int) ∧ j ≤ pn ∧ Hid (Ac wx w.heap.size a1 k1 (sums ac (ps.take j)) ∧ Below w.heap.size w wx ∧ (ps.take j).all (mayB ac) = true)) (fun i _ => pn - (RowKit.intOf i).toNat)
      case atStart => exact ⟨0, rfl, Nat.zero_le _, HR1⟩
      case round =>
        clear HR1
        obtain ⟨j, rfl, hj, HR⟩ := hrel
        have e1 : IntKind.i64.wrap ((j : Int) + 1) = (j : Int) + 1 := IntWalk.i64_in _ (by omega)
        by_cases hlt : j < pn
        · have hjp : j < ps.length := by rw [HPN.out]; exact hlt
          obtain ⟨bk, off, rfl, hbk, x0, x1, x2⟩ := (HP.out.agree (Agree.of_below HR.out.2.1 hF)).at_ hjp
          have hpr := HP.out.2.2.2.2 _ (List.getElem_mem hjp)
          have HAL := powers.lay (fun h => all_take hjp HR.out.2.2 h)
          have HSM := powers.lay (sums_take ac ps hjp)
          have hmb : mayB (sums ac (ps.take j)) ps[j] = mayB ac ps[j] := mayB_congr (sums_len _ _) (fun i => (sums_ab _ _ i).2) _
          have hin := List.getElem_mem hjp
          have HIN := powers.lay hin
          generalize ps[j] = x at *
          obtain ⟨xa, xb, xc⟩ := x
          simp only [] at x0 x1 x2
          have kA := Blk.new wr 95 #[.int .i64 xa, .int .i64 xb, .int .i64 xc]
          have bA : Below wr.heap.size wr (wr.alloc (.cells #[.int .i64 xa, .int .i64 xb, .int .i64 xc] 95)) := (Below.refl _ _).alloc (Nat.le_refl _) _
          have lZ : wr.heap.size < (wr.alloc (.cells #[.int .i64 xa, .int .i64 xb, .int .i64 xc] 95)).heap.size := by simp
          obtain ⟨WA, hWA⟩ : ∃ WA, wr.alloc (.cells #[.int .i64 xa, .int .i64 xb, .int .i64 xc] 95) = WA := ⟨_, rfl⟩
          rw [hWA] at kA bA lZ
          have hAc := HR.out.1.below bA
          have hbW : Below w.heap.size w WA := HR.out.2.1.trans (bA.mono HR.out.2.1.size)
          obtain ⟨y0, y1, y2⟩ := kA.c3
          have cM := may_any hAc (by rw [sums_len, HN.out]; exact hl.2) (fun i hi => by rw [(sums_ab ac _ i).2]; exact HU.out i (by rw [sums_len] at hi; exact hi)) ⟨xa, xb, xc⟩ hpr
          rw [hmb, sums_len, HN.out] at cM
          by_cases hm : mayB ac ⟨xa, xb, xc⟩ = true
          · rw [hm] at cM
            have HM := powers.lay hm
            clear hm hmb hin
            go_wp2_with fail
            refine cM.mono ?_
            rintro e W2 ⟨rfl, b2⟩
            clear cM
            obtain ⟨⟨m1, m2⟩, m3, m4, m5⟩ := mayB_iff.1 HM.out
            simp only at m1 m2 m3 m4 m5
            obtain ⟨k, rfl⟩ := Int.eq_ofNat_of_zero_le m1
            rw [HN.out] at m2
            have hk : k < n := by omega
            have hka : k < ac.length := by rw [HN.out]; exact hk
            have hks : k < (sums ac (ps.take j)).length := by rw [sums_len]; exact hka
            have huk := HU.out k hka
            rw [Int.toNat_natCast] at m5
            have h2 := hAc.below b2
            have vk := (h2.cells hks).2.2
            have fk := World.ownsRow.frozenAt h2 (k * 3 + 2)
            have lk := h2.lt
            have hcap := h2.cap
            rw [sums_len, HN.out] at hcap
            have hcb := liveIn_take_le HR.out.2.2 HU.out (by rw [HPN.out]; exact hj) k
            have hcc := sums_c ac (ps.take j) k hka
            have hv2 : (at3 (sums ac (ps.take j)) k).c = liveIn (ps.take j) k := hcc
            rw [hv2] at vk
            have HCC := powers.lay hv2
            clear hcc hv2
            generalize liveIn (ps.take j) k = cc at *
            have ew : IntKind.i64.wrap (cc + xc) = cc + xc := IntWalk.i64_in _ (by omega)
            have kA2 := kA.below b2 kA.lt
            have l2 := kA2.lt
            have hbW2 := hbW.trans (b2.mono hbW.size)
            clear y0 y1 y2 x0 x1 x2 m1 m2 m5 hcb kA hAc hbW b2 hWA bA
            generalize wr.heap.size = q at *
            obtain ⟨y0, y1, y2⟩ := kA2.c3
            go_upto_region 12 with (fail)
            have hS0 : Below W2.heap.size W2 W2.drew := (Below.refl _ _).drew
            have fk2 : W2.drew.frozen? ⟨a1, k * 3 + 2, none⟩ = false := fk
            refine mix.region_D (fun w' => Below W2.heap.size W2 w') (fun j => j == 11) (by kernel_rfl) ?_
            generalize W2.drew = wd at hS0 fk2 ⊢
            refine mix.D_takeT (i := 0) (v := ?_) rfl (by kernel_rfl) (by kernel_rfl) (fun _ _ _ h => h) (Or.inl ⟨by first | rfl | simp [Region.wanted, yielded], ?_⟩) hS0 ?_
            rotate_left
            · intro w' hSw
              have z0 := (hSw.cell (p := ⟨q, 0, none⟩) l2).trans y0
              have z1 := (hSw.cell (p := ⟨q, 2, none⟩) l2).trans y2
              have z2 := (hSw.cell (p := ⟨a1, k * 3 + 2, none⟩) lk).trans vk
              try simp only [List.getElem_toArray, List.getElem_cons_zero, List.getElem_cons_succ]
              go_simp
              exact rfl
            try simp only [Act.put, List.setIfInBounds_toArray, List.set_cons_zero, List.set_cons_succ, List.getElem_toArray, List.getElem_cons_zero, List.getElem_cons_succ]
            refine mix.D_takeT (i := 1) (v := ?_) rfl (by kernel_rfl) (by kernel_rfl) (fun _ _ _ h => h) (Or.inl ⟨by first | rfl | simp [Region.wanted, yielded], ?_⟩) hS0 ?_
            rotate_left
            · intro w' hSw
              have z0 := (hSw.cell (p := ⟨q, 0, none⟩) l2).trans y0
              have z1 := (hSw.cell (p := ⟨q, 2, none⟩) l2).trans y2
              have z2 := (hSw.cell (p := ⟨a1, k * 3 + 2, none⟩) lk).trans vk
              try simp only [List.getElem_toArray, List.getElem_cons_zero, List.getElem_cons_succ]
              go_simp
              exact rfl
            try simp only [Act.put, List.setIfInBounds_toArray, List.set_cons_zero, List.set_cons_succ, List.getElem_toArray, List.getElem_cons_zero, List.getElem_cons_succ]
            refine mix.D_takeT (i := 2) (v := ?_) rfl (by kernel_rfl) (by kernel_rfl) (fun _ _ _ h => h) (Or.inl ⟨by first | rfl | simp [Region.wanted, yielded], ?_⟩) hS0 ?_
            rotate_left
            · intro w' hSw
              have z0 := (hSw.cell (p := ⟨q, 0, none⟩) l2).trans y0
              have z1 := (hSw.cell (p := ⟨q, 2, none⟩) l2).trans y2
              have z2 := (hSw.cell (p := ⟨a1, k * 3 + 2, none⟩) lk).trans vk
              try simp only [List.getElem_toArray, List.getElem_cons_zero, List.getElem_cons_succ]
              go_simp
              exact rfl
            try simp only [Act.put, List.setIfInBounds_toArray, List.set_cons_zero, List.set_cons_succ, List.getElem_toArray, List.getElem_cons_zero, List.getElem_cons_succ]
            refine mix.D_takeT (i := 3) (v := ?_) rfl (by kernel_rfl) (by kernel_rfl) (fun _ _ _ h => h) (Or.inl ⟨by first | rfl | simp [Region.wanted, yielded], ?_⟩) hS0 ?_
            rotate_left
            · intro w' hSw
              have z0 := (hSw.cell (p := ⟨q, 0, none⟩) l2).trans y0
              have z1 := (hSw.cell (p := ⟨q, 2, none⟩) l2).trans y2
              have z2 := (hSw.cell (p := ⟨a1, k * 3 + 2, none⟩) lk).trans vk
              try simp only [List.getElem_toArray, List.getElem_cons_zero, List.getElem_cons_succ]
              go_simp
              exact rfl
            try simp only [Act.put, List.setIfInBounds_toArray, List.set_cons_zero, List.set_cons_succ, List.getElem_toArray, List.getElem_cons_zero, List.getElem_cons_succ]
            refine mix.D_takeT (i := 4) (v := ?_) rfl (by kernel_rfl) (by kernel_rfl) (fun _ _ _ h => h) (Or.inl ⟨by first | rfl | simp [Region.wanted, yielded], ?_⟩) hS0 ?_
            rotate_left
            · intro w' hSw
              have z0 := (hSw.cell (p := ⟨q, 0, none⟩) l2).trans y0
              have z1 := (hSw.cell (p := ⟨q, 2, none⟩) l2).trans y2
              have z2 := (hSw.cell (p := ⟨a1, k * 3 + 2, none⟩) lk).trans vk
              try simp only [List.getElem_toArray, List.getElem_cons_zero, List.getElem_cons_succ]
              go_simp
              exact rfl
            try simp only [Act.put, List.setIfInBounds_toArray, List.set_cons_zero, List.set_cons_succ, List.getElem_toArray, List.getElem_cons_zero, List.getElem_cons_succ]
            refine mix.D_takeT (i := 5) (v := ?_) rfl (by kernel_rfl) (by kernel_rfl) (fun _ _ _ h => h) (Or.inl ⟨by first | rfl | simp [Region.wanted, yielded], ?_⟩) hS0 ?_
            rotate_left
            · intro w' hSw
              have z0 := (hSw.cell (p := ⟨q, 0, none⟩) l2).trans y0
              have z1 := (hSw.cell (p := ⟨q, 2, none⟩) l2).trans y2
              have z2 := (hSw.cell (p := ⟨a1, k * 3 + 2, none⟩) lk).trans vk
              try simp only [List.getElem_toArray, List.getElem_cons_zero, List.getElem_cons_succ]
              go_simp
              exact rfl
            try simp only [Act.put, List.setIfInBounds_toArray, List.set_cons_zero, List.set_cons_succ, List.getElem_toArray, List.getElem_cons_zero, List.getElem_cons_succ]
            refine mix.D_takeT (i := 6) (v := ?_) rfl (by kernel_rfl) (by kernel_rfl) (fun _ _ _ h => h) (Or.inl ⟨by first | rfl | simp [Region.wanted, yielded], ?_⟩) hS0 ?_
            rotate_left
            · intro w' hSw
              have z0 := (hSw.cell (p := ⟨q, 0, none⟩) l2).trans y0
              have z1 := (hSw.cell (p := ⟨q, 2, none⟩) l2).trans y2
              have z2 := (hSw.cell (p := ⟨a1, k * 3 + 2, none⟩) lk).trans vk
              try simp only [List.getElem_toArray, List.getElem_cons_zero, List.getElem_cons_succ]
              go_simp
              exact rfl
            try simp only [Act.put, List.setIfInBounds_toArray, List.set_cons_zero, List.set_cons_succ, List.getElem_toArray, List.getElem_cons_zero, List.getElem_cons_succ]
            refine mix.D_takeT (i := 7) (v := ?_) rfl (by kernel_rfl) (by kernel_rfl) (fun _ _ _ h => h) (Or.inl ⟨by first | rfl | simp [Region.wanted, yielded], ?_⟩) hS0 ?_
            rotate_left
            · intro w' hSw
              have z0 := (hSw.cell (p := ⟨q, 0, none⟩) l2).trans y0
              have z1 := (hSw.cell (p := ⟨q, 2, none⟩) l2).trans y2
              have z2 := (hSw.cell (p := ⟨a1, k * 3 + 2, none⟩) lk).trans vk
              try simp only [List.getElem_toArray, List.getElem_cons_zero, List.getElem_cons_succ]
              go_simp
              exact rfl
            try simp only [Act.put, List.setIfInBounds_toArray, List.set_cons_zero, List.set_cons_succ, List.getElem_toArray, List.getElem_cons_zero, List.getElem_cons_succ]
            refine mix.D_takeT (i := 8) (v := ?_) rfl (by kernel_rfl) (by kernel_rfl) (fun _ _ _ h => h) (Or.inl ⟨by first | rfl | simp [Region.wanted, yielded], ?_⟩) hS0 ?_
            rotate_left
            · intro w' hSw
              have z0 := (hSw.cell (p := ⟨q, 0, none⟩) l2).trans y0
              have z1 := (hSw.cell (p := ⟨q, 2, none⟩) l2).trans y2
              have z2 := (hSw.cell (p := ⟨a1, k * 3 + 2, none⟩) lk).trans vk
              try simp only [List.getElem_toArray, List.getElem_cons_zero, List.getElem_cons_succ]
              go_simp
              exact rfl
            try simp only [Act.put, List.setIfInBounds_toArray, List.set_cons_zero, List.set_cons_succ, List.getElem_toArray, List.getElem_cons_zero, List.getElem_cons_succ]
            refine mix.D_takeT (i := 9) (v := ?_) rfl (by kernel_rfl) (by kernel_rfl) (fun _ _ _ h => h) (Or.inl ⟨by first | rfl | simp [Region.wanted, yielded], ?_⟩) hS0 ?_
            rotate_left
            · intro w' hSw
              have z0 := (hSw.cell (p := ⟨q, 0, none⟩) l2).trans y0
              have z1 := (hSw.cell (p := ⟨q, 2, none⟩) l2).trans y2
              have z2 := (hSw.cell (p := ⟨a1, k * 3 + 2, none⟩) lk).trans vk
              try simp only [List.getElem_toArray, List.getElem_cons_zero, List.getElem_cons_succ]
              go_simp
              exact rfl
            try simp only [Act.put, List.setIfInBounds_toArray, List.set_cons_zero, List.set_cons_succ, List.getElem_toArray, List.getElem_cons_zero, List.getElem_cons_succ]
            refine mix.D_takeT (i := 10) (v := ?_) rfl (by kernel_rfl) (by kernel_rfl) (fun _ _ _ h => h) (Or.inl ⟨by first | rfl | simp [Region.wanted, yielded], ?_⟩) hS0 ?_
            rotate_left
            · intro w' hSw
              have z0 := (hSw.cell (p := ⟨q, 0, none⟩) l2).trans y0
              have z1 := (hSw.cell (p := ⟨q, 2, none⟩) l2).trans y2
              have z2 := (hSw.cell (p := ⟨a1, k * 3 + 2, none⟩) lk).trans vk
              try simp only [List.getElem_toArray, List.getElem_cons_zero, List.getElem_cons_succ]
              go_simp
              exact rfl
            try simp only [Act.put, List.setIfInBounds_toArray, List.set_cons_zero, List.set_cons_succ, List.getElem_toArray, List.getElem_cons_zero, List.getElem_cons_succ]
            refine mix.D_op (k := 11) rfl rfl (by kernel_rfl) (fun K' hK => ?_)
            simp only [List.getElem_toArray, List.getElem_cons_zero, List.getElem_cons_succ]
            have v2 := (hS0.cell (p := ⟨a1, k * 3 + 2, none⟩) lk).trans vk
            go_wp2_with fail
            refine hK.out _ _ (fun h => by simp at h) ?_
            clear hK K'
            try simp only [Act.put, List.setIfInBounds_toArray, List.set_cons_zero, List.set_cons_succ]
            refine mix.D_done (by kernel_rfl) ?_ _
            try simp only [Act.put, List.setIfInBounds_toArray, List.set_cons_zero, List.set_cons_succ, List.getElem_toArray, List.getElem_cons_zero, List.getElem_cons_succ]
            obtain ⟨h3, k3⟩ := (h2.below hS0).store (k * 3 + 2) (.int .i64 (cc + xc)) (ac' := sums ac (ps.take (j + 1))) (by rw [cellsJ_set2 _ hks, HSM.out]; unfold addL; simp only [Int.toNat_natCast]; rw [HCC.out]) (by rw [sums_len, sums_len])
            have hlo := h2.low
            have b3 : Below w.heap.size w (wd.setCell ⟨a1, k * 3 + 2, none⟩ (.int .i64 (cc + xc))) := (hbW2.trans (hS0.mono hbW2.size)).trans (k3.below (fun k hk => by rw [hk]; exact hlo) (by have := hbW2.size; have := hS0.size; omega))
            have HR9 : Hid (Ac (wd.setCell ⟨a1, k * 3 + 2, none⟩ (.int .i64 (cc + xc))) w.heap.size a1 k1 (sums ac (ps.take (j + 1))) ∧ Below w.heap.size w (wd.setCell ⟨a1, k * 3 + 2, none⟩ (.int .i64 (cc + xc))) ∧ (ps.take (j + 1)).all (mayB ac) = true) := powers.lay ⟨h3, b3, HAL.out HM.out⟩
            generalize wd.setCell ⟨a1, k * 3 + 2, none⟩ (.int .i64 (cc + xc)) = W9 at *
            clear h3 k3 b3 HR
            go_wp2_with fail
            exact ⟨⟨j + 1, by go_num, hlt, HR9⟩, by first | (simp [RowKit.intOf]; done) | (simp [RowKit.intOf]; omega) | omega⟩
          · rw [Bool.eq_false_iff.2 hm] at cM
            have HF : Hid (settledP ac ps = none) := powers.lay (by
              unfold settledP
              exact if_neg fun hh => hm (List.all_eq_true.1 hh.1 _ HIN.out))
            clear hm hmb hin
            go_wp2_with fail
            refine cM.mono ?_
            rintro e W2 ⟨rfl, b2⟩
            have hbW2 := hbW.trans (b2.mono hbW.size)
            clear cM
            go_wp2_with fail
            refine bodyPost_ret (v := .tuple #[.slice none 0 0, .bool false]) (by simp [results, Try.results115, go_sem]) rfl ⟨hbW2, .inl ⟨HF.out, rfl⟩⟩
        · obtain rfl : pn = j := by omega
          have HR2 : Hid (Ac wr w.heap.size a1 k1 (sums ac ps) ∧ Below w.heap.size w wr ∧ ps.all (mayB ac) = true) := powers.lay (by
            have := HR.out
            rw [List.take_of_length_le (by rw [HPN.out]; exact Nat.le_refl _)] at this
            exact this)
          clear HR
          have hPw := HP.out.agree (Agree.of_below HR2.out.2.1 hF)
          have cO := overlap_ok ps A cp F wr hPw.2.2.2.1 hPw.2.2.1 hPw.1 hPw.2.1 (fun p hp => by
            obtain ⟨⟨m1, m2⟩, m3, m4, m5⟩ := mayB_iff.1 (List.all_eq_true.1 HR2.out.2.2 p hp)
            have := HU.out p.a.toNat (by omega)
            exact ⟨m3, m4, by omega⟩)
          rw [HPN.out] at cO
          by_cases hpw : ps.Pairwise Disj
          · have HS : Hid (settledP ac ps = some ((sums ac ps).map freeT)) := powers.lay (by unfold settledP; exact if_pos ⟨HR2.out.2.2, hpw⟩)
            rw [decide_eq_true hpw] at cO
            change Calls _ _ _ _ (fun e w' => e = .returned (.bool false) ∧ _) at cO
            clear hpw hPw
            go_wp2_with fail
            refine cO.mono ?_
            rintro e W2 ⟨rfl, b2⟩
            clear cO
            have HR3 : Hid (Ac W2 w.heap.size a1 k1 (mapTo freeT (sums ac ps) 0) ∧ Below w.heap.size w W2) := powers.lay ⟨by rw [mapTo_zero]; exact HR2.out.1.below b2, HR2.out.2.1.trans (b2.mono HR2.out.2.1.size)⟩
            clear HR2 b2
            go_wp2_with fail
            go_loopw [50] (fun i wx => ∃ j : Nat, i = .int .i64 (j : Int) ∧ j ≤ n ∧ Hid (Ac wx w.heap.size a1 k1 (mapTo freeT (sums ac ps) j) ∧ Below w.heap.size w wx)) (fun i _ => n - (RowKit.intOf i).toNat)
            case atStart => exact ⟨0, rfl, Nat.zero_le _, HR3⟩
            case round =>
              clear HR3
              obtain ⟨j, rfl, hj, HR⟩ := hrel
              have e1 : IntKind.i64.wrap ((j : Int) + 1) = (j : Int) + 1 := IntWalk.i64_in _ (by omega)
              by_cases hlt : j < n
              · have hjs : j < (sums ac ps).length := by rw [sums_len, HN.out]; exact hlt
                have hjm : j < (mapTo freeT (sums ac ps) j).length := by rw [mapTo_len]; exact hjs
                obtain ⟨x0, x1, x2⟩ := HR.out.1.cells hjm
                rw [mapTo_at freeT (sums ac ps) hjs] at x0 x1 x2
                have HST := powers.lay (mapTo_stay freeT (sums ac ps) hjs)
                have HSE := powers.lay (mapTo_set freeT (sums ac ps) hjs)
                have hcap := HR.out.1.cap
                rw [mapTo_len, sums_len, HN.out] at hcap
                generalize at3 (sums ac ps) j = x at *
                obtain ⟨xa, xb, xc⟩ := x
                simp only [] at x0 x1 x2
                have kA := Blk.new wr 184 #[.int .i64 xa, .int .i64 xb, .int .i64 xc]
                have bA : Below wr.heap.size wr (wr.alloc (.cells #[.int .i64 xa, .int .i64 xb, .int .i64 xc] 184)) := (Below.refl _ _).alloc (Nat.le_refl _) _
                have lZ : wr.heap.size < (wr.alloc (.cells #[.int .i64 xa, .int .i64 xb, .int .i64 xc] 184)).heap.size := by simp
                obtain ⟨WA, hWA⟩ : ∃ WA, wr.alloc (.cells #[.int .i64 xa, .int .i64 xb, .int .i64 xc] 184) = WA := ⟨_, rfl⟩
                rw [hWA] at kA bA lZ
                have hAc := HR.out.1.below bA
                have hbW : Below w.heap.size w WA := HR.out.2.trans (bA.mono HR.out.2.size)
                obtain ⟨y0, y1, y2⟩ := kA.c3
                have fb0 := kA.frozen 0
                have fb1 := kA.frozen 1
                have fb2 := kA.frozen 2
                by_cases hx : xa = 2 ∧ xc = 0
                · have hfe := free_yes (x := ⟨xa, xb, xc⟩) hx
                  have d1 : decide (xa = 2) = true := decide_eq_true hx.1
                  have d2 : (xa == 2) = true := by simp [hx.1]
                  have d3 : decide (xc = 0) = true := decide_eq_true hx.2
                  have d4 : (xc == 0) = true := by simp [hx.2]
                  clear hx
                  have HFE := powers.lay hfe
                  obtain ⟨v0, v1, v2⟩ := hAc.cells hjm
                  have f0 := World.ownsRow.frozenAt hAc (j * 3)
                  have f1 := World.ownsRow.frozenAt hAc (j * 3 + 1)
                  have f2 := World.ownsRow.frozenAt hAc (j * 3 + 2)
                  generalize at3 (mapTo freeT (sums ac ps) j) j = tt at *
                  clear hfe
                  go_wp2_with fail
                  obtain ⟨h3, k3⟩ := hAc.store3 hjm ⟨1, 0, 0⟩
                  have hlo := hAc.low
                  have b3 := hbW.trans (k3.below (fun k hk => by rw [hk]; exact hlo) hbW.size)
                  have hs9 : (mapTo freeT (sums ac ps) j).set j ⟨1, 0, 0⟩ = mapTo freeT (sums ac ps) (j + 1) := by rw [← HFE.out]; exact HSE.out
                  rw [hs9] at h3
                  go_roundw
                  case rel => exact ⟨j + 1, by go_num, hlt, powers.lay ⟨h3, b3⟩⟩
                  case measure => first | (simp [RowKit.intOf]; done) | (simp [RowKit.intOf]; omega) | omega
                · have hfe := free_no (x := ⟨xa, xb, xc⟩) hx
                  have HR4 : Hid (Ac WA w.heap.size a1 k1 (mapTo freeT (sums ac ps) (j + 1)) ∧ Below w.heap.size w WA) := powers.lay ⟨by rw [HST.out hfe]; exact hAc, hbW⟩
                  clear hfe
                  by_cases h2 : xa = 2
                  · subst h2
                    have h0 : ¬ xc = 0 := fun e => hx ⟨rfl, e⟩
                    have d1 : decide (xc = 0) = false := decide_eq_false h0
                    have d2 : (xc == 0) = false := by simp [h0]
                    clear hx h0
                    go_wp2_with fail
                    go_roundw
                    case rel => exact ⟨j + 1, by go_num, hlt, HR4⟩
                    case measure => first | (simp [RowKit.intOf]; done) | (simp [RowKit.intOf]; omega) | omega
                  · have d1 : decide (xa = 2) = false := decide_eq_false h2
                    have d2 : (xa == 2) = false := by simp [h2]
                    clear hx h2
                    go_wp2_with fail
                    go_roundw
                    case rel => exact ⟨j + 1, by go_num, hlt, HR4⟩
                    case measure => first | (simp [RowKit.intOf]; done) | (simp [RowKit.intOf]; omega) | omega
              · obtain rfl : n = j := by omega
                have hfin := HR.out.1
                have hlm : (mapTo freeT (sums ac ps) n).length = n := by rw [mapTo_len, sums_len, HN.out]
                have hall : mapTo freeT (sums ac ps) n = (sums ac ps).map freeT := by rw [← mapTo_all]; congr 1; rw [sums_len, HN.out]
                rw [hall] at hfin hlm
                have HL := powers.lay hlm
                have hfb := HR.out.2
                clear HR hlm hall
                go_wp2_with fail
                refine bodyPost_ret (v := .tuple #[.slice (some ⟨a1, 0, none⟩) n k1, .bool true]) (by simp [results, Try.results115, go_sem]) rfl ⟨hfb, .inr ⟨_, a1, k1, HS.out, by rw [HL.out, HN.out], by rw [HL.out], hfin⟩⟩
          · have HF : Hid (settledP ac ps = none) := powers.lay (by unfold settledP; exact if_neg fun hh => hpw hh.2)
            rw [decide_eq_false hpw] at cO
            change Calls _ _ _ _ (fun e w' => e = .returned (.bool true) ∧ _) at cO
            clear hpw hPw
            go_wp2_with fail
            refine cO.mono ?_
            rintro e W2 ⟨rfl, b2⟩
            have hbW2 := HR2.out.2.1.trans (b2.mono HR2.out.2.1.size)
            clear cO
            go_wp2_with fail
            refine bodyPost_ret (v := .tuple #[.slice none 0 0, .bool false]) (by simp [results, Try.results115, go_sem]) rfl ⟨hbW2, .inl ⟨HF.out, rfl⟩⟩

end Go.Proofs.Ythmamlghmagmkaa.segs
