/- The law ListUnion. -/
import Derived.Test.YtchghlbiongccaaKLsK


namespace Go.Proofs.Ytchghlbiongccaa.trees
set_option linter.unusedVariables false
set_option linter.unusedSimpArgs false
open Go.RowKit Go.Shelf Go.Proofs.Ytchghlbiongccaa.base Go.Proofs.Ytchghlbiongccaa.quotas Go.Proofs.Ytchghlbiongccaa.vers Go.Proofs.Ytchghlbiongccaa.nodes
theorem ts_new {w : World} {q : Nat} {l : List ByteArray} (h : Blk w q 9 (sts l).toArray) (hl : l.length ≤ 1000) (hs : ∀ x ∈ l, x.size ≤ maxLen) : Ts w w.heap.size l (some ⟨q, 0, none⟩) l.length := ⟨Nat.le_refl _, by omega, (fun e => by cases e), Blk.rd h h.lt, hs⟩
theorem map_filt (le : List E) (f : ByteArray → Bool) : (le.filter fun x => f x.s).map (·.s) = (le.map (·.s)).filter f := by
  rw [List.filter_map]
  rfl
theorem fit1 (a s : ByteArray) : fitP [a] s = hasP s a := by simp [fitP]
theorem fit2 (a b s : ByteArray) : fitP [a, b] s = (hasP s a || hasP s b) := by simp [fitP]
theorem fit3 (a b : ByteArray) : fitP [b, a, b] = fitP [a, b] := by
  funext s
  simp only [fitP, List.length_cons, List.any_cons, List.any_nil]
  cases hasP s a <;> cases hasP s b <;> rfl
theorem union_len (N : List ByteArray) (a b : ByteArray) : (N.filter (fitP [a, b])).length ≤ (N.filter (fitP [a])).length + (N.filter (fitP [b])).length := by
  induction N with
  | nil => simp
  | cons x N ih =>
    simp only [List.filter_cons, fit1, fit2]
    cases hasP x a <;> cases hasP x b <;> simp <;> omega
structure Uni (N X Y M : List ByteArray) : Prop where
  inc : Inc M
  either : ∀ s ∈ M, s ∈ X ∨ s ∈ Y
  x : ∀ s ∈ X, s ∈ M
  y : ∀ s ∈ Y, s ∈ M
  len : M.length ≤ X.length + Y.length
theorem uni (N : List ByteArray) (hI : Inc N) (a b : ByteArray) : Uni N (N.filter (fitP [a])) (N.filter (fitP [b])) (N.filter (fitP [a, b])) where
  inc := hI.sublist List.filter_sublist
  either := fun s hs => by
    obtain ⟨h1, h2⟩ := List.mem_filter.1 hs
    rw [fit2, Bool.or_eq_true] at h2
    exact h2.elim (fun h => .inl (List.mem_filter.2 ⟨h1, by rw [fit1]; exact h⟩)) (fun h => .inr (List.mem_filter.2 ⟨h1, by rw [fit1]; exact h⟩))
  x := fun s hs => by
    obtain ⟨h1, h2⟩ := List.mem_filter.1 hs
    rw [fit1] at h2
    exact List.mem_filter.2 ⟨h1, by rw [fit2, h2]; rfl⟩
  y := fun s hs => by
    obtain ⟨h1, h2⟩ := List.mem_filter.1 hs
    rw [fit1] at h2
    exact List.mem_filter.2 ⟨h1, by rw [fit2, h2, Bool.or_true]⟩
  len := union_len N a b

set_option maxRecDepth 100000 in
set_option maxHeartbeats 8000000 in
theorem law_listUnion (l : List E) (A : Option Addr) (c : Nat) (ta tb : ByteArray) (w : World) (hE : Es w w.heap.size l A c) (ha : ta.size ≤ maxLen) (hb : tb.size ≤ maxLen) :
    Calls Try.prog 9 #[.slice A l.length c, .string ta, .string tb] w fun e w' => e = .returned (.bool true) ∧ Below w.heap.size w w' := by
  have hg := grown_ok l A c w hE
  obtain ⟨le, hle⟩ : ∃ le, le = growE l (min l.length 50) := ⟨_, rfl⟩
  rw [← hle] at hg
  have HE := vers.lay hE
  clear hle hE
  go_enter Try.func9, Try.ntmps9
  go_wp2_with fail
  refine hg.mono ?_
  rintro e w1 ⟨h, S, ns, r, ht, v, rfl, hb1, hh, hlo, hroot, hht, hfit, hrow, hown, hlen, hinc, hmem⟩
  clear hg
  have hSh1 : Shown w1 h S ns r ht (le.map pe) := ⟨hh, hroot, hht, hfit, by rw [List.length_map]; exact hlen⟩
  obtain ⟨Av, cv, rfl, hv1, hv2, hv3⟩ := row_rdF hrow
  have hle1 : Es w1 w1.heap.size le Av cv := ⟨hv1, by omega, hv2, hv3.rd, fun x hx => ⟨((HE.out.2.2.2.2 x (hmem x hx)).1.below hb1).more hb1.size, (HE.out.2.2.2.2 x (hmem x hx)).2⟩⟩
  clear hh hlo hroot hht hfit hrow hown hmem hv1 hv2 hv3
  obtain ⟨rk, rg, ro, rn⟩ := r
  have b2 : Below w1.heap.size w1 (w1.alloc (.cells #[.int .u64 (rk : Int), .int .i64 rg, .int .i64 ro, .int .i64 rn] 44)) := (Below.refl _ _).alloc (Nat.le_refl _) _
  have kR := Blk.new w1 44 #[.int .u64 (rk : Int), .int .i64 rg, .int .i64 ro, .int .i64 rn]
  have hSh := hSh1.below b2
  have hle2 := hle1.at_world b2
  have hb2 := hb1.trans (b2.mono hb1.size)
  have lR : w1.heap.size < (w1.alloc (.cells #[.int .u64 (rk : Int), .int .i64 rg, .int .i64 ro, .int .i64 rn] 44)).heap.size := kR.lt
  generalize hW2 : w1.alloc (.cells #[.int .u64 (rk : Int), .int .i64 rg, .int .i64 ro, .int .i64 rn] 44) = w2 at *
  have z0 := kR.cell 0
  have z1 := kR.cell 1
  have z2 := kR.cell 2
  have z3 := kR.cell 3
  simp only [List.getElem?_toArray, List.getElem?_cons_zero, List.getElem?_cons_succ] at z0 z1 z2 z3
  clear hSh1 hle1 hb1 b2
  clear z0 z1 z2 z3
  have kRc0 := kR.cell 0
  have kRc1 := kR.cell 1
  have kRc2 := kR.cell 2
  have kRc3 := kR.cell 3
  simp only [List.getElem?_toArray, List.getElem?_cons_zero, List.getElem?_cons_succ] at kRc0 kRc1 kRc2 kRc3
  have kRlt := kR.lt
  have hU := uni (le.map (·.s)) hinc ta tb
  have hNl : (le.map (·.s)).length ≤ 50 := by rw [List.length_map]; exact hlen
  have bb : Below w2.heap.size w2 (w2.alloc (.cells #[.string ta] 9)) := (Below.refl _ _).alloc (Nat.le_refl _) _
  have kq := Blk.new w2 9 #[.string ta]
  have lq : w2.heap.size < (w2.alloc (.cells #[.string ta] 9)).heap.size := kq.lt
  generalize hW_w3 : w2.alloc (.cells #[.string ta] 9) = w3 at *
  have hb2_w3 := hb2.trans (bb.mono hb2.size)
  have hSh_w3 := hSh.below bb
  have kR_w3 := kR.below bb kR.lt
  clear bb hb2 hSh kR
  have htq := ts_new (l := [ta]) kq (by simp) (by intro x hx; simp only [List.mem_cons, List.not_mem_nil, or_false] at hx; rcases hx with rfl <;> assumption)
  have hcall := listNames_ok h S ns ⟨rk, rg, ro, rn⟩ ht (le.map pe) [ta] (some ⟨w2.heap.size, 0, none⟩) 1 _ hSh_w3 htq
  rw [names_of, map_filt] at hcall
  have hml : ((le.map (·.s)).filter (fitP [ta])).length ≤ 50 := Nat.le_trans (List.length_filter_le _ _) hNl
  generalize (le.map (·.s)).filter (fitP [ta]) = X at *
  go_wp2_with fail
  refine hcall.mono ?_
  rintro e w4 ⟨vx, rfl, hb_w4, hto⟩
  obtain ⟨Ax, cx, rfl, hTx⟩ := hto.ts (by omega)
  clear hcall kq lq htq hto kRc0 kRc1 kRc2 kRc3 kRlt
  have hb2_w4 := hb2_w3.trans (hb_w4.mono hb2_w3.size)
  have hSh_w4 := hSh_w3.below hb_w4
  have kR_w4 := kR_w3.below hb_w4 kR_w3.lt
  clear hb2_w3 hSh_w3 kR_w3
  have kRc0 := kR_w4.cell 0
  have kRc1 := kR_w4.cell 1
  have kRc2 := kR_w4.cell 2
  have kRc3 := kR_w4.cell 3
  simp only [List.getElem?_toArray, List.getElem?_cons_zero, List.getElem?_cons_succ] at kRc0 kRc1 kRc2 kRc3
  have kRlt := kR_w4.lt
  have hlx := hml
  clear hml
  have bb : Below w4.heap.size w4 (w4.alloc (.cells #[.string tb] 9)) := (Below.refl _ _).alloc (Nat.le_refl _) _
  have kq := Blk.new w4 9 #[.string tb]
  have lq : w4.heap.size < (w4.alloc (.cells #[.string tb] 9)).heap.size := kq.lt
  generalize hW_w5 : w4.alloc (.cells #[.string tb] 9) = w5 at *
  have hb2_w5 := hb2_w4.trans (bb.mono hb2_w4.size)
  have hSh_w5 := hSh_w4.below bb
  have kR_w5 := kR_w4.below bb kR_w4.lt
  have hTx_w5 := hTx.at_world bb
  clear bb hb2_w4 hSh_w4 kR_w4 hTx
  have htq := ts_new (l := [tb]) kq (by simp) (by intro x hx; simp only [List.mem_cons, List.not_mem_nil, or_false] at hx; rcases hx with rfl <;> assumption)
  have hcall := listNames_ok h S ns ⟨rk, rg, ro, rn⟩ ht (le.map pe) [tb] (some ⟨w4.heap.size, 0, none⟩) 1 _ hSh_w5 htq
  rw [names_of, map_filt] at hcall
  have hml : ((le.map (·.s)).filter (fitP [tb])).length ≤ 50 := Nat.le_trans (List.length_filter_le _ _) hNl
  generalize (le.map (·.s)).filter (fitP [tb]) = Y at *
  go_wp2_with fail
  refine hcall.mono ?_
  rintro e w6 ⟨vy, rfl, hb_w6, hto⟩
  obtain ⟨Ay, cy, rfl, hTy⟩ := hto.ts (by omega)
  clear hcall kq lq htq hto kRc0 kRc1 kRc2 kRc3 kRlt
  have hb2_w6 := hb2_w5.trans (hb_w6.mono hb2_w5.size)
  have hSh_w6 := hSh_w5.below hb_w6
  have kR_w6 := kR_w5.below hb_w6 kR_w5.lt
  have hTx_w6 := hTx_w5.at_world hb_w6
  clear hb2_w5 hSh_w5 kR_w5 hTx_w5
  have kRc0 := kR_w6.cell 0
  have kRc1 := kR_w6.cell 1
  have kRc2 := kR_w6.cell 2
  have kRc3 := kR_w6.cell 3
  simp only [List.getElem?_toArray, List.getElem?_cons_zero, List.getElem?_cons_succ] at kRc0 kRc1 kRc2 kRc3
  have kRlt := kR_w6.lt
  have hly := hml
  clear hml
  obtain ⟨M, hMe⟩ : ∃ M, (le.map (·.s)).filter (fitP [ta, tb]) = M := ⟨_, rfl⟩
  rw [hMe] at hU
  have bb : Below w6.heap.size w6 (w6.alloc (.cells #[.string ta, .string tb] 9)) := (Below.refl _ _).alloc (Nat.le_refl _) _
  have kq := Blk.new w6 9 #[.string ta, .string tb]
  have lq : w6.heap.size < (w6.alloc (.cells #[.string ta, .string tb] 9)).heap.size := kq.lt
  generalize hW_w7 : w6.alloc (.cells #[.string ta, .string tb] 9) = w7 at *
  have hb2_w7 := hb2_w6.trans (bb.mono hb2_w6.size)
  have hSh_w7 := hSh_w6.below bb
  have kR_w7 := kR_w6.below bb kR_w6.lt
  have hTx_w7 := hTx_w6.at_world bb
  have hTy_w7 := hTy.at_world bb
  clear bb hb2_w6 hSh_w6 kR_w6 hTx_w6 hTy
  have htq := ts_new (l := [ta, tb]) kq (by simp) (by intro x hx; simp only [List.mem_cons, List.not_mem_nil, or_false] at hx; rcases hx with rfl | rfl <;> assumption)
  have hcall := listNames_ok h S ns ⟨rk, rg, ro, rn⟩ ht (le.map pe) [ta, tb] (some ⟨w6.heap.size, 0, none⟩) 2 _ hSh_w7 htq
  rw [names_of, map_filt] at hcall
  have hml : ((le.map (·.s)).filter (fitP [ta, tb])).length ≤ 50 := Nat.le_trans (List.length_filter_le _ _) hNl
  rw [hMe] at hcall hml
  go_wp2_with fail
  refine hcall.mono ?_
  rintro e w8 ⟨vm, rfl, hb_w8, hto⟩
  obtain ⟨Am, cm, rfl, hTm⟩ := hto.ts (by omega)
  clear hcall kq lq htq hto kRc0 kRc1 kRc2 kRc3 kRlt
  have hb2_w8 := hb2_w7.trans (hb_w8.mono hb2_w7.size)
  have hSh_w8 := hSh_w7.below hb_w8
  have kR_w8 := kR_w7.below hb_w8 kR_w7.lt
  have hTx_w8 := hTx_w7.at_world hb_w8
  have hTy_w8 := hTy_w7.at_world hb_w8
  clear hb2_w7 hSh_w7 kR_w7 hTx_w7 hTy_w7
  have kRc0 := kR_w8.cell 0
  have kRc1 := kR_w8.cell 1
  have kRc2 := kR_w8.cell 2
  have kRc3 := kR_w8.cell 3
  simp only [List.getElem?_toArray, List.getElem?_cons_zero, List.getElem?_cons_succ] at kRc0 kRc1 kRc2 kRc3
  have kRlt := kR_w8.lt
  have hlm := hml
  clear hml
  have bb : Below w8.heap.size w8 (w8.alloc (.cells #[.string tb, .string ta, .string tb] 9)) := (Below.refl _ _).alloc (Nat.le_refl _) _
  have kq := Blk.new w8 9 #[.string tb, .string ta, .string tb]
  have lq : w8.heap.size < (w8.alloc (.cells #[.string tb, .string ta, .string tb] 9)).heap.size := kq.lt
  generalize hW_w9 : w8.alloc (.cells #[.string tb, .string ta, .string tb] 9) = w9 at *
  have hb2_w9 := hb2_w8.trans (bb.mono hb2_w8.size)
  have hSh_w9 := hSh_w8.below bb
  have kR_w9 := kR_w8.below bb kR_w8.lt
  have hTx_w9 := hTx_w8.at_world bb
  have hTy_w9 := hTy_w8.at_world bb
  have hTm_w9 := hTm.at_world bb
  clear bb hb2_w8 hSh_w8 kR_w8 hTx_w8 hTy_w8 hTm
  have htq := ts_new (l := [tb, ta, tb]) kq (by simp) (by intro x hx; simp only [List.mem_cons, List.not_mem_nil, or_false] at hx; rcases hx with rfl | rfl | rfl <;> assumption)
  have hcall := listNames_ok h S ns ⟨rk, rg, ro, rn⟩ ht (le.map pe) [tb, ta, tb] (some ⟨w8.heap.size, 0, none⟩) 3 _ hSh_w9 htq
  rw [names_of, map_filt] at hcall
  rw [fit3] at hcall
  have hml : ((le.map (·.s)).filter (fitP [ta, tb])).length ≤ 50 := Nat.le_trans (List.length_filter_le _ _) hNl
  have HM := vers.lay hMe
  rw [hMe] at hcall hml
  clear hMe
  go_wp2_with fail
  refine hcall.mono ?_
  rintro e wa ⟨vr, rfl, hb_wa, hto⟩
  obtain ⟨Ar, cr, rfl, hTr⟩ := hto.ts (by omega)
  clear hcall kq lq htq hto kRc0 kRc1 kRc2 kRc3 kRlt
  have hb2_wa := hb2_w9.trans (hb_wa.mono hb2_w9.size)
  have hSh_wa := hSh_w9.below hb_wa
  have kR_wa := kR_w9.below hb_wa kR_w9.lt
  have hTx_wa := hTx_w9.at_world hb_wa
  have hTy_wa := hTy_w9.at_world hb_wa
  have hTm_wa := hTm_w9.at_world hb_wa
  clear hb2_w9 hSh_w9 kR_w9 hTx_w9 hTy_w9 hTm_w9
  have kRc0 := kR_wa.cell 0
  have kRc1 := kR_wa.cell 1
  have kRc2 := kR_wa.cell 2
  have kRc3 := kR_wa.cell 3
  simp only [List.getElem?_toArray, List.getElem?_cons_zero, List.getElem?_cons_succ] at kRc0 kRc1 kRc2 kRc3
  have kRlt := kR_wa.lt
  have hlr := hml
  clear hml
  have hcall := sameTexts_ok M Am Ar cm cr _ hTm_wa hTr
  go_wp2_with fail
  refine hcall.mono ?_
  rintro e wb ⟨rfl, hb_wb⟩
  clear hcall kRc0 kRc1 kRc2 kRc3 kRlt
  have hb2_wb := hb2_wa.trans (hb_wb.mono hb2_wa.size)
  have hSh_wb := hSh_wa.below hb_wb
  have kR_wb := kR_wa.below hb_wb kR_wa.lt
  have hTx_wb := hTx_wa.at_world hb_wb
  have hTy_wb := hTy_wa.at_world hb_wb
  have hTm_wb := hTm_wa.at_world hb_wb
  have hTr_wb := hTr.at_world hb_wb
  clear hb2_wa hSh_wa kR_wa hTx_wa hTy_wa hTm_wa hTr
  clear kR_wb hSh_wb hTr_wb
  have HU := vers.lay hU
  clear hU
  go_wp2_with fail
  go_loopw [93] (fun i wr => ∃ j : Nat, j ≤ M.length ∧ i = .int .i64 (j : Int) ∧ wr = wb) (fun i _ => M.length - (intOf i).toNat)
  case atStart => exact ⟨0, Nat.zero_le _, rfl, rfl⟩
  case round =>
    obtain ⟨j, hj, rfl, rfl⟩ := hrel
    by_cases hlt : j < M.length
    · obtain ⟨bk, off, rfl, hbk, x0⟩ := hTm_wb.at_ hlt
      have hei := HU.out.either _ (List.getElem_mem hlt)
      cases j with
      | zero =>
        simp only [Nat.add_zero] at x0
        generalize M[0] = s at *
        have hc1 := in_ok X Ax cx s _ hTx_wb
        have hc2 := in_ok Y Ay cy s _ hTy_wb
        rcases hei with hx | hy
        · rw [inL_iff.2 hx] at hc1
          clear hc2 hx
          go_wp2_with (first | (go_at_call 45; refine hc1.mono ?_; rintro e wq ⟨rfl, rfl⟩))
          exact ⟨⟨0 + 1, hlt, by go_num, by trivial⟩, by first | (simp [intOf]; done) | (simp [intOf]; omega) | omega⟩
        · rw [inL_iff.2 hy] at hc2
          cases hin : inL s X with
          | true =>
            rw [hin] at hc1
            clear hc2 hy hin
            go_wp2_with (first | (go_at_call 45; refine hc1.mono ?_; rintro e wq ⟨rfl, rfl⟩))
            exact ⟨⟨0 + 1, hlt, by go_num, by trivial⟩, by first | (simp [intOf]; done) | (simp [intOf]; omega) | omega⟩
          | false =>
            rw [hin] at hc1
            clear hy hin
            go_wp2_with (first | (go_at_call 45; refine hc1.mono ?_; rintro e wq ⟨rfl, rfl⟩; clear hc1) | (go_at_call 45; refine hc2.mono ?_; rintro e wq ⟨rfl, rfl⟩))
            exact ⟨⟨0 + 1, hlt, by go_num, by trivial⟩, by first | (simp [intOf]; done) | (simp [intOf]; omega) | omega⟩
      | succ k =>
        have hlk : k < M.length := by omega
        obtain ⟨bk2, off2, e2, hbk2, x2⟩ := hTm_wb.at_ hlk
        injection e2 with e2
        injection e2 with e3 e4
        subst e3 e4
        have hlts : ltS M[k] M[k + 1] = true := (List.pairwise_iff_getElem.1 HU.out.inc) k (k + 1) hlk hlt (by omega)
        generalize M[k + 1] = s at *
        generalize M[k] = sp at *
        obtain ⟨g1, g2, g3, g4⟩ := clt hlts
        clear hlts
        have hc1 := in_ok X Ax cx s _ hTx_wb
        have hc2 := in_ok Y Ay cy s _ hTy_wb
        rcases hei with hx | hy
        · rw [inL_iff.2 hx] at hc1
          clear hc2 hx
          go_wp2_with (first | (go_at_call 45; refine hc1.mono ?_; rintro e wq ⟨rfl, rfl⟩))
          exact ⟨⟨(k + 1) + 1, hlt, by go_num, by trivial⟩, by first | (simp [intOf]; done) | (simp [intOf]; omega) | omega⟩
        · rw [inL_iff.2 hy] at hc2
          cases hin : inL s X with
          | true =>
            rw [hin] at hc1
            clear hc2 hy hin
            go_wp2_with (first | (go_at_call 45; refine hc1.mono ?_; rintro e wq ⟨rfl, rfl⟩))
            exact ⟨⟨(k + 1) + 1, hlt, by go_num, by trivial⟩, by first | (simp [intOf]; done) | (simp [intOf]; omega) | omega⟩
          | false =>
            rw [hin] at hc1
            clear hy hin
            go_wp2_with (first | (go_at_call 45; refine hc1.mono ?_; rintro e wq ⟨rfl, rfl⟩; clear hc1) | (go_at_call 45; refine hc2.mono ?_; rintro e wq ⟨rfl, rfl⟩))
            exact ⟨⟨(k + 1) + 1, hlt, by go_num, by trivial⟩, by first | (simp [intOf]; done) | (simp [intOf]; omega) | omega⟩
    · obtain rfl : j = M.length := by omega
      go_wp2_with fail
      go_loopw [124] (fun i w9 => ∃ j : Nat, j ≤ X.length ∧ i = .int .i64 (j : Int) ∧ w9 = wr) (fun i _ => X.length - (intOf i).toNat)
      case atStart => exact ⟨0, Nat.zero_le _, rfl, rfl⟩
      case round =>
        obtain ⟨j, hj, rfl, rfl⟩ := hrel
        by_cases hlt : j < X.length
        · obtain ⟨bk, off, rfl, hbk, x0⟩ := hTx_wb.at_ hlt
          have hc1 := in_ok M Am cm X[j] _ hTm_wb
          rw [inL_iff.2 (HU.out.x _ (List.getElem_mem hlt))] at hc1
          generalize X[j] = s at *
          go_wp2_with (first | (go_at_call 45; refine hc1.mono ?_; rintro e wq ⟨rfl, rfl⟩))
          exact ⟨⟨j + 1, hlt, by go_num, by trivial⟩, by first | (simp [intOf]; done) | (simp [intOf]; omega) | omega⟩
        · obtain rfl : j = X.length := by omega
          go_wp2_with fail
          go_loopw [135] (fun i w9 => ∃ j : Nat, j ≤ Y.length ∧ i = .int .i64 (j : Int) ∧ w9 = wr) (fun i _ => Y.length - (intOf i).toNat)
          case atStart => exact ⟨0, Nat.zero_le _, rfl, rfl⟩
          case round =>
            obtain ⟨j, hj, rfl, rfl⟩ := hrel
            by_cases hlt : j < Y.length
            · obtain ⟨bk, off, rfl, hbk, x0⟩ := hTy_wb.at_ hlt
              have hc1 := in_ok M Am cm Y[j] _ hTm_wb
              rw [inL_iff.2 (HU.out.y _ (List.getElem_mem hlt))] at hc1
              generalize Y[j] = s at *
              go_wp2_with (first | (go_at_call 45; refine hc1.mono ?_; rintro e wq ⟨rfl, rfl⟩))
              exact ⟨⟨j + 1, hlt, by go_num, by trivial⟩, by first | (simp [intOf]; done) | (simp [intOf]; omega) | omega⟩
            · obtain rfl : j = Y.length := by omega
              have hle9 := HU.out.len
              have hd9 : decide ((M.length : Int) ≤ (X.length : Int) + (Y.length : Int)) = true := decide_eq_true (by omega)
              go_wp2_with fail
              go_ret
              exact ⟨by first | rfl | simp, hb2_wb⟩

end Go.Proofs.Ytchghlbiongccaa.trees
