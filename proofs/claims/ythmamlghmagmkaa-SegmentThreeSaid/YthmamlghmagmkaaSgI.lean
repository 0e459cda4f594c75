/- pick, sameInts, fresh and awake of segment's laws. -/
import Derived.Test.YthmamlghmagmkaaSgH
import Derived.Test.YthmamlghmagmkaaPwC


namespace Go.Proofs.Ythmamlghmagmkaa.segs
set_option linter.unusedVariables false
set_option linter.unusedSimpArgs false
open Go.RowKit Go.Shelf Go.Proofs.Ythmamlghmagmkaa.base Go.Proofs.Ythmamlghmagmkaa.trees Go.Proofs.Ythmamlghmagmkaa.powers Go.Proofs.Ythmamlghmagmkaa.mediums Go.Lib

def pkS (c : Int) (n : Nat) : Nat := (if Int.tmod c n < 0 then Int.tmod c n + n else Int.tmod c n).toNat
theorem pkS_lt (c : Int) (n : Nat) (hn : 0 < n) : pkS c n < n := by
  have l2 : Int.tmod c n < (n : Int) := Int.tmod_lt_of_pos c (by omega)
  unfold pkS
  split <;> omega

set_option maxRecDepth 100000 in
set_option maxHeartbeats 4000000 in
theorem pickS_ok (c : Int) (n : Nat) (hn : 0 < n) (hn3 : n ≤ 3000) (w : World) :
    Calls Try.prog 29 #[.int .i64 c, .int .i64 (n : Int)] w fun e w' => e = .returned (.int .i64 (pkS c n : Int)) ∧ w' = w := by
  have hz : (n : Int) ≠ 0 := by omega
  have l1 : -(n : Int) < Int.tmod c n := Int.lt_tmod_of_pos c (by omega)
  have l2 : Int.tmod c n < (n : Int) := Int.tmod_lt_of_pos c (by omega)
  by_cases h : Int.tmod c n < 0
  · have hm := powers.lay (show (pkS c n : Int) = Int.tmod c n + n by unfold pkS; rw [if_pos h]; omega)
    go_enter Try.func29, Try.ntmps29
    go_wp2_with fail
    go_ret
    exact ⟨by rw [hm.out]; rfl, rfl⟩
  · have hm := powers.lay (show (pkS c n : Int) = Int.tmod c n by unfold pkS; rw [if_neg h]; omega)
    go_enter Try.func29, Try.ntmps29
    go_wp2_with fail
    go_ret
    exact ⟨by rw [hm.out]; rfl, rfl⟩

abbrev ints (l : List Nat) : List Value := l.map fun i : Nat => Value.int .i64 (i : Int)
theorem take_next {l1 l2 : List Nat} {j : Nat} (h1 : j < l1.length) (h2 : j < l2.length) (ht : l1.take j = l2.take j) (he : l1[j] = l2[j]) : l1.take (j + 1) = l2.take (j + 1) := by
  rw [List.take_add_one, List.take_add_one, List.getElem?_eq_getElem h1, List.getElem?_eq_getElem h2, ht, he]
theorem nsPost_slice {l : List Nat} {w w' : World} {v : Value} (h : w'.ownsRow w.heap.size 3 1 v l.length (ints l)) : ∃ A c, v = .slice A l.length c ∧ l.length ≤ c ∧ RdF w' (fun k => w.heap.size ≤ k ∧ k < w'.heap.size) A (ints l) := by
  obtain ⟨A, c, e, h1, h2, h3⟩ := row_rdF h
  exact ⟨A, c, e, h1, h3.mono fun k hk => h.lt k hk⟩

set_option maxRecDepth 100000 in
set_option maxHeartbeats 4000000 in
theorem sameN_ok (l1 l2 : List Nat) (A1 A2 : Option Addr) (c1 c2 : Nat) (w : World) (h1 : Rd w w.heap.size A1 (ints l1)) (h2 : Rd w w.heap.size A2 (ints l2)) (hl1 : l1.length ≤ 5000) (hl2 : l2.length ≤ 5000) :
    Calls Try.prog 40 #[.slice A1 l1.length c1, .slice A2 l2.length c2] w fun e w' => e = .returned (.bool (decide (l1 = l2))) ∧ Below w.heap.size w w' := by
  obtain ⟨R, hR⟩ : ∃ R, decide (l1 = l2) = R := ⟨_, rfl⟩
  have HR := powers.lay hR
  rw [hR]
  clear hR
  by_cases hlen : l1.length = l2.length
  · have HL := powers.lay hlen
    obtain ⟨n, hn⟩ : ∃ n, l1.length = n := ⟨_, rfl⟩
    have HN := powers.lay hn
    have hn2 : l2.length = n := by rw [← hlen, hn]
    have HN2 := powers.lay hn2
    rw [hn, hn2]
    rw [hn] at hl1
    clear hlen hn hn2 hl2
    go_enter Try.func40, Try.ntmps40
    go_wp2_with fail
    go_loopw [5] (fun i wr => ∃ j : Nat, i = .int .i64 (j : Int) ∧ j ≤ n ∧ Below w.heap.size w wr ∧ Hid (l1.take j = l2.take j)) (fun i _ => n - (RowKit.intOf i).toNat)
    case atStart => exact ⟨0, rfl, Nat.zero_le _, Below.refl _ _, powers.lay rfl⟩
    case round =>
      obtain ⟨j, rfl, hj, hb, HT⟩ := hrel
      by_cases hlt : j < n
      · have j1 : j < l1.length := by rw [HN.out]; exact hlt
        have j2 : j < l2.length := by rw [HN2.out]; exact hlt
        obtain ⟨b1, o1, e1, hb1, x1⟩ := h1.at_ (k := j) (by rw [List.length_map]; exact j1)
        obtain ⟨b2, o2, e2, hb2, x2⟩ := h2.at_ (k := j) (by rw [List.length_map]; exact j2)
        rw [List.getElem_map] at x1 x2
        have y1 := (hb.cell (p := ⟨b1, o1 + j, none⟩) hb1).trans x1
        have y2 := (hb.cell (p := ⟨b2, o2 + j, none⟩) hb2).trans x2
        have l1' : b1 < wr.heap.size := by have := hb.size; omega
        have l2' : b2 < wr.heap.size := by have := hb.size; omega
        have ej : IntKind.i64.wrap ((j : Int) + 1) = (j : Int) + 1 := IntWalk.i64_in _ (by omega)
        have HTN := powers.lay (fun he : l1[j] = l2[j] => take_next j1 j2 HT.out he)
        have HNE := powers.lay (show l1[j] ≠ l2[j] → R = false from fun hne => by rw [← HR.out]; exact decide_eq_false fun e => hne (by simp only [e]))
        generalize l1[j] = u at *
        generalize l2[j] = v at *
        subst e1
        subst e2
        clear x1 x2 h1 h2
        have hS0 : Below wr.heap.size wr wr.drew := (Below.refl _ _).drew
        have hbd := hb.trans (hS0.mono hb.size)
        by_cases huv : u = v
        · have d1 : decide ((u : Int) = (v : Int)) = true := decide_eq_true (by omega)
          have d2 : decide (u = v) = true := decide_eq_true huv
          have d3 : ((u : Int) == (v : Int)) = true := by simp [huv]
          have HT2 := powers.lay (HTN.out huv)
          clear huv HTN HNE HT
          go_upto_region 6 with (fail)
          refine mix.region_D (fun w' => Below wr.heap.size wr w') (fun _ => false) (by kernel_rfl) ?_
          generalize wr.drew = wd at hS0 hbd ⊢
          refine mix.D_take (i := 0) (v := ?_) rfl (by kernel_rfl) (by kernel_rfl) (fun _ _ _ h => h) (Or.inl ⟨by first | rfl | simp [Region.wanted, yielded], ?_⟩) hS0 ?_
          rotate_left
          · intro w' hSw
            have z1 := (hSw.cell (p := ⟨b1, o1 + j, none⟩) l1').trans y1
            have z2 := (hSw.cell (p := ⟨b2, o2 + j, none⟩) l2').trans y2
            try simp only [List.getElem_toArray, List.getElem_cons_zero, List.getElem_cons_succ]
            go_simp
            exact rfl
          try simp only [Act.put, List.setIfInBounds_toArray, List.set_cons_zero, List.set_cons_succ, List.getElem_toArray, List.getElem_cons_zero, List.getElem_cons_succ]
          refine mix.D_take (i := 1) (v := ?_) rfl (by kernel_rfl) (by kernel_rfl) (fun _ _ _ h => h) (Or.inl ⟨by first | rfl | simp [Region.wanted, yielded], ?_⟩) hS0 ?_
          rotate_left
          · intro w' hSw
            have z1 := (hSw.cell (p := ⟨b1, o1 + j, none⟩) l1').trans y1
            have z2 := (hSw.cell (p := ⟨b2, o2 + j, none⟩) l2').trans y2
            try simp only [List.getElem_toArray, List.getElem_cons_zero, List.getElem_cons_succ]
            go_simp
            exact rfl
          try simp only [Act.put, List.setIfInBounds_toArray, List.set_cons_zero, List.set_cons_succ, List.getElem_toArray, List.getElem_cons_zero, List.getElem_cons_succ]
          refine mix.D_take (i := 2) (v := ?_) rfl (by kernel_rfl) (by kernel_rfl) (fun _ _ _ h => h) (Or.inl ⟨by first | rfl | simp [Region.wanted, yielded], ?_⟩) hS0 ?_
          rotate_left
          · intro w' hSw
            have z1 := (hSw.cell (p := ⟨b1, o1 + j, none⟩) l1').trans y1
            have z2 := (hSw.cell (p := ⟨b2, o2 + j, none⟩) l2').trans y2
            try simp only [List.getElem_toArray, List.getElem_cons_zero, List.getElem_cons_succ]
            go_simp
            exact rfl
          try simp only [Act.put, List.setIfInBounds_toArray, List.set_cons_zero, List.set_cons_succ, List.getElem_toArray, List.getElem_cons_zero, List.getElem_cons_succ]
          refine mix.D_take (i := 3) (v := ?_) rfl (by kernel_rfl) (by kernel_rfl) (fun _ _ _ h => h) (Or.inl ⟨by first | rfl | simp [Region.wanted, yielded], ?_⟩) hS0 ?_
          rotate_left
          · intro w' hSw
            have z1 := (hSw.cell (p := ⟨b1, o1 + j, none⟩) l1').trans y1
            have z2 := (hSw.cell (p := ⟨b2, o2 + j, none⟩) l2').trans y2
            try simp only [List.getElem_toArray, List.getElem_cons_zero, List.getElem_cons_succ]
            go_simp
            exact rfl
          try simp only [Act.put, List.setIfInBounds_toArray, List.set_cons_zero, List.set_cons_succ, List.getElem_toArray, List.getElem_cons_zero, List.getElem_cons_succ]
          refine mix.D_take (i := 4) (v := ?_) rfl (by kernel_rfl) (by kernel_rfl) (fun _ _ _ h => h) (Or.inl ⟨by first | rfl | simp [Region.wanted, yielded], ?_⟩) hS0 ?_
          rotate_left
          · intro w' hSw
            have z1 := (hSw.cell (p := ⟨b1, o1 + j, none⟩) l1').trans y1
            have z2 := (hSw.cell (p := ⟨b2, o2 + j, none⟩) l2').trans y2
            try simp only [List.getElem_toArray, List.getElem_cons_zero, List.getElem_cons_succ]
            go_simp
            exact rfl
          try simp only [Act.put, List.setIfInBounds_toArray, List.set_cons_zero, List.set_cons_succ, List.getElem_toArray, List.getElem_cons_zero, List.getElem_cons_succ]
          refine mix.D_take (i := 5) (v := ?_) rfl (by kernel_rfl) (by kernel_rfl) (fun _ _ _ h => h) (Or.inl ⟨by first | rfl | simp [Region.wanted, yielded], ?_⟩) hS0 ?_
          rotate_left
          · intro w' hSw
            have z1 := (hSw.cell (p := ⟨b1, o1 + j, none⟩) l1').trans y1
            have z2 := (hSw.cell (p := ⟨b2, o2 + j, none⟩) l2').trans y2
            try simp only [List.getElem_toArray, List.getElem_cons_zero, List.getElem_cons_succ]
            go_simp
            exact rfl
          try simp only [Act.put, List.setIfInBounds_toArray, List.set_cons_zero, List.set_cons_succ, List.getElem_toArray, List.getElem_cons_zero, List.getElem_cons_succ]
          refine mix.D_take (i := 6) (v := ?_) rfl (by kernel_rfl) (by kernel_rfl) (fun _ _ _ h => h) (Or.inl ⟨by first | rfl | simp [Region.wanted, yielded], ?_⟩) hS0 ?_
          rotate_left
          · intro w' hSw
            have z1 := (hSw.cell (p := ⟨b1, o1 + j, none⟩) l1').trans y1
            have z2 := (hSw.cell (p := ⟨b2, o2 + j, none⟩) l2').trans y2
            try simp only [List.getElem_toArray, List.getElem_cons_zero, List.getElem_cons_succ]
            go_simp
            exact rfl
          try simp only [Act.put, List.setIfInBounds_toArray, List.set_cons_zero, List.set_cons_succ, List.getElem_toArray, List.getElem_cons_zero, List.getElem_cons_succ]
          refine mix.D_take (i := 7) (v := ?_) rfl (by kernel_rfl) (by kernel_rfl) (fun _ _ _ h => h) (Or.inl ⟨by first | rfl | simp [Region.wanted, yielded], ?_⟩) hS0 ?_
          rotate_left
          · intro w' hSw
            have z1 := (hSw.cell (p := ⟨b1, o1 + j, none⟩) l1').trans y1
            have z2 := (hSw.cell (p := ⟨b2, o2 + j, none⟩) l2').trans y2
            try simp only [List.getElem_toArray, List.getElem_cons_zero, List.getElem_cons_succ]
            go_simp
            exact rfl
          try simp only [Act.put, List.setIfInBounds_toArray, List.set_cons_zero, List.set_cons_succ, List.getElem_toArray, List.getElem_cons_zero, List.getElem_cons_succ]
          refine mix.D_take (i := 8) (v := ?_) rfl (by kernel_rfl) (by kernel_rfl) (fun _ _ _ h => h) (Or.inl ⟨by first | rfl | simp [Region.wanted, yielded], ?_⟩) hS0 ?_
          rotate_left
          · intro w' hSw
            have z1 := (hSw.cell (p := ⟨b1, o1 + j, none⟩) l1').trans y1
            have z2 := (hSw.cell (p := ⟨b2, o2 + j, none⟩) l2').trans y2
            try simp only [List.getElem_toArray, List.getElem_cons_zero, List.getElem_cons_succ]
            go_simp
            exact rfl
          try simp only [Act.put, List.setIfInBounds_toArray, List.set_cons_zero, List.set_cons_succ, List.getElem_toArray, List.getElem_cons_zero, List.getElem_cons_succ]
          refine mix.D_done (by kernel_rfl) ?_ _
          try simp only [Act.put, List.setIfInBounds_toArray, List.set_cons_zero, List.set_cons_succ, List.getElem_toArray, List.getElem_cons_zero, List.getElem_cons_succ]
          go_wp2_with fail
          go_roundw
          case rel => exact ⟨j + 1, by go_num, hlt, hbd, HT2⟩
          case measure => first | (simp [RowKit.intOf]; done) | (simp [RowKit.intOf]; omega) | omega
        · have d1 : decide ((u : Int) = (v : Int)) = false := decide_eq_false (by omega)
          have d2 : decide (u = v) = false := decide_eq_false huv
          have d3 : ((u : Int) == (v : Int)) = false := by simp; omega
          have HF := powers.lay (HNE.out huv)
          clear HTN HNE HT
          go_upto_region 6 with (fail)
          refine mix.region_D (fun w' => Below wr.heap.size wr w') (fun _ => false) (by kernel_rfl) ?_
          generalize wr.drew = wd at hS0 hbd ⊢
          refine mix.D_take (i := 0) (v := ?_) rfl (by kernel_rfl) (by kernel_rfl) (fun _ _ _ h => h) (Or.inl ⟨by first | rfl | simp [Region.wanted, yielded], ?_⟩) hS0 ?_
          rotate_left
          · intro w' hSw
            have z1 := (hSw.cell (p := ⟨b1, o1 + j, none⟩) l1').trans y1
            have z2 := (hSw.cell (p := ⟨b2, o2 + j, none⟩) l2').trans y2
            try simp only [List.getElem_toArray, List.getElem_cons_zero, List.getElem_cons_succ]
            go_simp
            exact rfl
          try simp only [Act.put, List.setIfInBounds_toArray, List.set_cons_zero, List.set_cons_succ, List.getElem_toArray, List.getElem_cons_zero, List.getElem_cons_succ]
          refine mix.D_take (i := 1) (v := ?_) rfl (by kernel_rfl) (by kernel_rfl) (fun _ _ _ h => h) (Or.inl ⟨by first | rfl | simp [Region.wanted, yielded], ?_⟩) hS0 ?_
          rotate_left
          · intro w' hSw
            have z1 := (hSw.cell (p := ⟨b1, o1 + j, none⟩) l1').trans y1
            have z2 := (hSw.cell (p := ⟨b2, o2 + j, none⟩) l2').trans y2
            try simp only [List.getElem_toArray, List.getElem_cons_zero, List.getElem_cons_succ]
            go_simp
            exact rfl
          try simp only [Act.put, List.setIfInBounds_toArray, List.set_cons_zero, List.set_cons_succ, List.getElem_toArray, List.getElem_cons_zero, List.getElem_cons_succ]
          refine mix.D_take (i := 2) (v := ?_) rfl (by kernel_rfl) (by kernel_rfl) (fun _ _ _ h => h) (Or.inl ⟨by first | rfl | simp [Region.wanted, yielded], ?_⟩) hS0 ?_
          rotate_left
          · intro w' hSw
            have z1 := (hSw.cell (p := ⟨b1, o1 + j, none⟩) l1').trans y1
            have z2 := (hSw.cell (p := ⟨b2, o2 + j, none⟩) l2').trans y2
            try simp only [List.getElem_toArray, List.getElem_cons_zero, List.getElem_cons_succ]
            go_simp
            exact rfl
          try simp only [Act.put, List.setIfInBounds_toArray, List.set_cons_zero, List.set_cons_succ, List.getElem_toArray, List.getElem_cons_zero, List.getElem_cons_succ]
          refine mix.D_take (i := 3) (v := ?_) rfl (by kernel_rfl) (by kernel_rfl) (fun _ _ _ h => h) (Or.inl ⟨by first | rfl | simp [Region.wanted, yielded], ?_⟩) hS0 ?_
          rotate_left
          · intro w' hSw
            have z1 := (hSw.cell (p := ⟨b1, o1 + j, none⟩) l1').trans y1
            have z2 := (hSw.cell (p := ⟨b2, o2 + j, none⟩) l2').trans y2
            try simp only [List.getElem_toArray, List.getElem_cons_zero, List.getElem_cons_succ]
            go_simp
            exact rfl
          try simp only [Act.put, List.setIfInBounds_toArray, List.set_cons_zero, List.set_cons_succ, List.getElem_toArray, List.getElem_cons_zero, List.getElem_cons_succ]
          refine mix.D_take (i := 4) (v := ?_) rfl (by kernel_rfl) (by kernel_rfl) (fun _ _ _ h => h) (Or.inl ⟨by first | rfl | simp [Region.wanted, yielded], ?_⟩) hS0 ?_
          rotate_left
          · intro w' hSw
            have z1 := (hSw.cell (p := ⟨b1, o1 + j, none⟩) l1').trans y1
            have z2 := (hSw.cell (p := ⟨b2, o2 + j, none⟩) l2').trans y2
            try simp only [List.getElem_toArray, List.getElem_cons_zero, List.getElem_cons_succ]
            go_simp
            exact rfl
          try simp only [Act.put, List.setIfInBounds_toArray, List.set_cons_zero, List.set_cons_succ, List.getElem_toArray, List.getElem_cons_zero, List.getElem_cons_succ]
          refine mix.D_take (i := 5) (v := ?_) rfl (by kernel_rfl) (by kernel_rfl) (fun _ _ _ h => h) (Or.inl ⟨by first | rfl | simp [Region.wanted, yielded], ?_⟩) hS0 ?_
          rotate_left
          · intro w' hSw
            have z1 := (hSw.cell (p := ⟨b1, o1 + j, none⟩) l1').trans y1
            have z2 := (hSw.cell (p := ⟨b2, o2 + j, none⟩) l2').trans y2
            try simp only [List.getElem_toArray, List.getElem_cons_zero, List.getElem_cons_succ]
            go_simp
            exact rfl
          try simp only [Act.put, List.setIfInBounds_toArray, List.set_cons_zero, List.set_cons_succ, List.getElem_toArray, List.getElem_cons_zero, List.getElem_cons_succ]
          refine mix.D_take (i := 6) (v := ?_) rfl (by kernel_rfl) (by kernel_rfl) (fun _ _ _ h => h) (Or.inl ⟨by first | rfl | simp [Region.wanted, yielded], ?_⟩) hS0 ?_
          rotate_left
          · intro w' hSw
            have z1 := (hSw.cell (p := ⟨b1, o1 + j, none⟩) l1').trans y1
            have z2 := (hSw.cell (p := ⟨b2, o2 + j, none⟩) l2').trans y2
            try simp only [List.getElem_toArray, List.getElem_cons_zero, List.getElem_cons_succ]
            go_simp
            exact rfl
          try simp only [Act.put, List.setIfInBounds_toArray, List.set_cons_zero, List.set_cons_succ, List.getElem_toArray, List.getElem_cons_zero, List.getElem_cons_succ]
          refine mix.D_take (i := 7) (v := ?_) rfl (by kernel_rfl) (by kernel_rfl) (fun _ _ _ h => h) (Or.inl ⟨by first | rfl | simp [Region.wanted, yielded], ?_⟩) hS0 ?_
          rotate_left
          · intro w' hSw
            have z1 := (hSw.cell (p := ⟨b1, o1 + j, none⟩) l1').trans y1
            have z2 := (hSw.cell (p := ⟨b2, o2 + j, none⟩) l2').trans y2
            try simp only [List.getElem_toArray, List.getElem_cons_zero, List.getElem_cons_succ]
            go_simp
            exact rfl
          try simp only [Act.put, List.setIfInBounds_toArray, List.set_cons_zero, List.set_cons_succ, List.getElem_toArray, List.getElem_cons_zero, List.getElem_cons_succ]
          refine mix.D_take (i := 8) (v := ?_) rfl (by kernel_rfl) (by kernel_rfl) (fun _ _ _ h => h) (Or.inl ⟨by first | rfl | simp [Region.wanted, yielded], ?_⟩) hS0 ?_
          rotate_left
          · intro w' hSw
            have z1 := (hSw.cell (p := ⟨b1, o1 + j, none⟩) l1').trans y1
            have z2 := (hSw.cell (p := ⟨b2, o2 + j, none⟩) l2').trans y2
            try simp only [List.getElem_toArray, List.getElem_cons_zero, List.getElem_cons_succ]
            go_simp
            exact rfl
          try simp only [Act.put, List.setIfInBounds_toArray, List.set_cons_zero, List.set_cons_succ, List.getElem_toArray, List.getElem_cons_zero, List.getElem_cons_succ]
          refine mix.D_done (by kernel_rfl) ?_ _
          try simp only [Act.put, List.setIfInBounds_toArray, List.set_cons_zero, List.set_cons_succ, List.getElem_toArray, List.getElem_cons_zero, List.getElem_cons_succ]
          go_wp2_with fail
          go_ret
          exact ⟨by rw [HF.out]; rfl, hbd⟩
      · obtain rfl : n = j := by omega
        have HF : Hid (R = true) := powers.lay (by
          rw [← HR.out]
          have := HT.out
          rw [List.take_of_length_le (by rw [HN.out]; exact Nat.le_refl _), List.take_of_length_le (by rw [HN2.out]; exact Nat.le_refl _)] at this
          exact decide_eq_true this)
        clear h1 h2
        go_wp2_with fail
        go_ret
        exact ⟨by rw [HF.out]; rfl, hb⟩
  · have HF : Hid (R = false) := powers.lay (by rw [← HR.out]; exact decide_eq_false fun e => hlen (by rw [e]))
    have d1 : decide ((l1.length : Int) = (l2.length : Int)) = false := decide_eq_false (by omega)
    have d2 : decide (l1.length = l2.length) = false := decide_eq_false hlen
    have d3 : ((l1.length : Int) == (l2.length : Int)) = false := by simp; omega
    generalize l1.length = n1 at *
    generalize l2.length = n2 at *
    clear h1 h2
    go_enter Try.func40, Try.ntmps40
    go_wp2_with fail
    go_ret
    exact ⟨by rw [HF.out]; rfl, Below.refl _ _⟩

set_option maxRecDepth 100000 in
set_option maxHeartbeats 4000000 in
theorem fresh_ok (n size : Nat) (hn : 1 ≤ n ∧ n ≤ 4096) (hs : 1 ≤ size ∧ size ≤ 1048576) (w : World) :
    Calls Try.prog 30 #[.int .i64 (n : Int), .int .i64 (size : Int)] w fun e w' => ∃ S p g lg ab c, e = .returned (.pointer (some ⟨lg, 0, none⟩)) ∧ Sg w.heap.size w w' S p g lg ab c (newM n size) (newL n) (-1) 0 := by
  have c1 := powers.new_ok w
  go_enter Try.func30, Try.ntmps30
  go_wp2_with fail
  refine c1.mono ?_
  clear c1
  rintro e w1 ⟨rfl, k1, b1, z1⟩
  have c2 := mnew_ok w.heap.size n size hn hs w1 (by omega)
  go_wp2_with fail
  refine c2.mono ?_
  clear c2
  rintro e w2 ⟨g, rfl, m2, b2⟩
  have k2 := k1.below b2 k1.lt
  have c3 := segs.new_ok m2
  go_wp2_with fail
  refine c3.mono ?_
  clear c3
  rintro e w3 ⟨lg, ab, c, rfl, l3, b3, q1, q2⟩
  rw [show (newM n size).segs.length = n by simp [newM]] at l3
  have s1 := b1.size
  have s2 := b2.size
  have T : Sg w.heap.size w w3 (fun k => w1.heap.size ≤ k ∧ k < w2.heap.size) w.heap.size g lg ab c (newM n size) (newL n) (-1) 0 :=
    ⟨m2.below b3, k2.below b3 k2.lt, by unfold In; omega, l3, ⟨⟨fun h => by omega, by omega⟩, fun h => by omega, by omega⟩, fun k hk => by rcases hk with h | h | h | h <;> omega, b1.trans ((b2.trans (b3.mono s2)).mono s1), Nat.le_refl _, by rw [newL_len]; simp [newM]⟩
  clear m2 b2 b3 k1 k2 l3 b1 z1
  go_wp2_with fail
  go_ret
  exact ⟨_, _, _, _, _, _, rfl, T⟩

abbrev sAbc : ByteArray := ⟨#[97, 98, 99]⟩
abbrev sDe : ByteArray := ⟨#[100, 101]⟩
def wM1 : MS := apM (newM 3 4) (newL 3) (-1) sAbc
def wS1 : LS := apS (newM 3 4) (newL 3) (-1) sAbc
def wM2 : MS := apM wM1 wS1 (-1) sDe
def wS2 : LS := apS wM1 wS1 (-1) sDe
theorem ww1 : apE (newM 3 4) (newL 3) (-1) sAbc = 0 ∧ apV (newM 3 4) (newL 3) (-1) sAbc = ⟨0, 0, 3⟩ ∧ apL (newM 3 4) (newL 3) (-1) sAbc = -1 := by decide +kernel
theorem ww2 : apE wM1 wS1 (-1) sDe = 0 ∧ apV wM1 wS1 (-1) sDe = ⟨1, 0, 2⟩ ∧ apL wM1 wS1 (-1) sDe = -1 := by decide +kernel
theorem ww3 : wS2.o = 1 ∧ (at3 wS2.ac 1).b = 2 ∧ kindI wS2 0 = 2 ∧ wM2.past.length = 2 ∧ wM1.past.length = 1 := by decide +kernel

set_option maxRecDepth 100000 in
set_option maxHeartbeats 4000000 in
theorem awakeS_ok (w : World) : Calls Try.prog 28 #[] w fun e w' => e = .returned (.bool true) ∧ Below w.heap.size w w' := by
  have c1 := fresh_ok 3 4 (by omega) (by omega) w
  change Calls _ _ #[.int .i64 3, .int .i64 4] _ _ at c1
  go_enter Try.func28, Try.ntmps28
  go_wp2_with fail
  refine c1.mono ?_
  clear c1
  rintro e w1 ⟨S, p, g, lg, ab, c, rfl, T1⟩
  have c2 := append_any T1 sAbc (by decide) (by simp [newM])
  change Calls _ _ #[_, .string ⟨#[97, 98, 99]⟩] _ _ at c2
  go_wp2_with fail
  refine c2.mono ?_
  clear c2
  rintro e w2 ⟨rfl, S2, T2, _, _⟩
  rw [ww1.1, ww1.2.1]
  rw [ww1.2.2] at T2
  change Sg _ _ _ _ _ _ _ _ _ wM1 wS1 _ _ at T2
  have b3 : Below w2.heap.size w2 (w2.alloc (.cells #[.int .i64 0, .int .i64 0, .int .i64 3] 95)) := (Below.refl _ _).alloc (Nat.le_refl _) _
  have kA := Blk.new w2 95 #[.int .i64 0, .int .i64 0, .int .i64 3]
  have T3 := T2.below b3
  obtain ⟨W3, hW3⟩ : ∃ W3, w2.alloc (.cells #[.int .i64 0, .int .i64 0, .int .i64 3] 95) = W3 := ⟨_, rfl⟩
  obtain ⟨q, hq⟩ : ∃ q, w2.heap.size = q := ⟨_, rfl⟩
  have hqS : ∀ k, SB4 S2 p lg ab k → k ≠ q := fun k hk e => by have := T2.lt k hk; omega
  rw [hW3, hq] at kA
  rw [hW3] at T3 b3
  have f0 := kA.frozen 0
  have f1 := kA.frozen 1
  have f2 := kA.frozen 2
  obtain ⟨g0, g1, g2⟩ := kA.c3
  clear T1 T2
  have c2 := append_any T3 sDe (by decide) (by rw [ww3.2.2.2.2]; omega)
  change Calls _ _ #[_, .string ⟨#[100, 101]⟩] _ _ at c2
  go_wp2_with fail
  refine c2.mono ?_
  clear c2
  rintro e w4 ⟨rfl, S4, T4, _, K4⟩
  rw [ww2.1, ww2.2.1]
  rw [ww2.2.2] at T4
  change Sg _ _ _ _ _ _ _ _ _ wM2 wS2 _ _ at T4
  have kA4 := K4.blk kA (fun h => hqS q h rfl)
  have b5 : Below w4.heap.size w4 (w4.alloc (.cells #[.int .i64 1, .int .i64 0, .int .i64 2] 95)) := (Below.refl _ _).alloc (Nat.le_refl _) _
  have kB := Blk.new w4 95 #[.int .i64 1, .int .i64 0, .int .i64 2]
  have T5 := T4.below b5
  have kA5 := kA4.below b5 kA4.lt
  obtain ⟨W5, hW5⟩ : ∃ W5, w4.alloc (.cells #[.int .i64 1, .int .i64 0, .int .i64 2] 95) = W5 := ⟨_, rfl⟩
  obtain ⟨r, hr⟩ : ∃ r, w4.heap.size = r := ⟨_, rfl⟩
  rw [hW5, hr] at kB
  rw [hW5] at T5 b5 kA5
  clear T3 T4 kA kA4 f0 f1 f2 g0 g1 g2
  have f0 := kB.frozen 0
  have f1 := kB.frozen 1
  have f2 := kB.frozen 2
  obtain ⟨g0, g1, g2⟩ := kB.c3
  have cO := open_ok T5.log
  rw [ww3.1, ww3.2.1] at cO
  go_wp2_with fail
  refine cO.mono ?_
  clear cO f0 f1 f2 g0 g1 g2
  rintro e w6 ⟨rfl, b6⟩
  have T6 := T5.below b6
  have kA6 := kA5.below b6 kA5.lt
  have kB6 := kB.below b6 kB.lt
  clear T5 kA5 kB b5 b6
  obtain ⟨y0, y1, y2⟩ := kA6.c3
  obtain ⟨z0, z1, z2⟩ := kB6.c3
  have cK := kind_ok T6.log 0
  rw [ww3.2.2.1] at cK
  have cC := count_any T6.md
  rw [ww3.2.2.2.1] at cC
  change Calls _ _ _ _ (fun e w' => e = .returned (.int .i64 2) ∧ w' = w6) at cC
  obtain ⟨x0, x1, x2⟩ := T6.log.x
  have hfin := T6.hb
  clear T6 kA6 kB6 hW3 hW5 hq hr hqS
  go_wp2_with (first | (go_at_call 41; refine cK.mono ?_; rintro e wa ⟨rfl, rfl⟩) | (go_at_call 89; refine cC.mono ?_; rintro e wa ⟨rfl, rfl⟩))
  go_ret
  exact ⟨rfl, hfin⟩

end Go.Proofs.Ythmamlghmagmkaa.segs
