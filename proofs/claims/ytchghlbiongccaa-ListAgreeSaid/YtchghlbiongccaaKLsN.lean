/- The law ListAgree. -/
import Derived.Test.YtchghlbiongccaaKLsM


namespace Go.Proofs.Ytchghlbiongccaa.trees
set_option linter.unusedVariables false
set_option linter.unusedSimpArgs false
open Go.RowKit Go.Shelf Go.Proofs.Ytchghlbiongccaa.base Go.Proofs.Ytchghlbiongccaa.quotas Go.Proofs.Ytchghlbiongccaa.vers Go.Proofs.Ytchghlbiongccaa.nodes
theorem hasP_iff (s t : ByteArray) : hasP s t = true ↔ t.data.toList <+: s.data.toList := by
  unfold hasP
  rw [Lib.toList_data, Lib.toList_data]
  have h1 : (s.extract 0 t.size).data.toList = s.data.toList.take t.size := by rw [ByteArray.data_extract]; simp
  have h2 : t.data.toList.length = t.size := by simp
  have h3 : s.data.toList.length = s.size := by simp
  rw [h1, Bool.and_eq_true, decide_eq_true_iff, beq_iff_eq, List.prefix_iff_eq_take, h2]
  constructor
  · rintro ⟨_, h⟩; exact h.symm
  · intro h
    refine ⟨?_, h.symm⟩
    have := congrArg List.length h
    rw [List.length_take, h2] at this
    omega
theorem pre_not_lt : ∀ (p x : List UInt8), p <+: x → ¬ x < p
  | [], x, _ => List.not_lt_nil x
  | a :: p, [], h => absurd h.length_le (by simp)
  | a :: p, b :: x, h => by
    obtain ⟨rfl, h'⟩ := List.cons_prefix_cons.1 h
    rw [List.cons_lt_cons_iff]
    intro h2
    rcases h2 with h2 | ⟨_, h2⟩
    · exact UInt8.lt_irrefl _ h2
    · exact pre_not_lt p x h' h2
theorem pre_between : ∀ (p x y : List UInt8), p <+: y → ¬ x < p → x < y → p <+: x
  | [], x, y, _, _, _ => List.nil_prefix
  | a :: p, x, [], h, _, _ => absurd h.length_le (by simp)
  | a :: p, [], b :: y, _, h1, _ => absurd (List.nil_lt_cons a p) h1
  | a :: p, c :: x, b :: y, h, h1, h2 => by
    obtain ⟨rfl, h'⟩ := List.cons_prefix_cons.1 h
    rw [List.cons_lt_cons_iff] at h1 h2
    rcases h2 with h2 | ⟨rfl, h2⟩
    · exact absurd (.inl h2) h1
    · exact List.cons_prefix_cons.2 ⟨rfl, pre_between p x y h' (fun h3 => h1 (.inr ⟨rfl, h3⟩)) h2⟩
theorem names_prefix (t : ByteArray) : ∀ N : List ByteArray, Inc N → (N.filter fun s => hasP s t) <+: N.filter fun s => !ltS s t
  | [], _ => List.prefix_rfl
  | x :: N, h => by
    obtain ⟨h1, h2⟩ := List.pairwise_cons.1 h
    have ih := names_prefix t N h2
    by_cases hx : ltS x t = true
    · have hp : hasP x t = false := by
        rw [Bool.eq_false_iff]
        intro h3
        exact pre_not_lt _ _ ((hasP_iff x t).1 h3) (ltS_iff.1 hx)
      rw [List.filter_cons, List.filter_cons, hp, hx]
      exact ih
    · have hx' : ltS x t = false := by simpa using hx
      by_cases hp : hasP x t = true
      · rw [List.filter_cons, List.filter_cons, hp, hx']
        exact List.cons_prefix_cons.2 ⟨rfl, ih⟩
      · have hp' : hasP x t = false := by simpa using hp
        have hno : (N.filter fun s => hasP s t) = [] := by
          rw [List.filter_eq_nil_iff]
          intro y hy h3
          refine hp ((hasP_iff x t).2 (pre_between _ _ _ ((hasP_iff y t).1 h3) ?_ (ltS_iff.1 (h1 y hy))))
          intro h4
          exact hx (ltS_iff.2 h4)
        rw [List.filter_cons, hp', hno]
        exact List.nil_prefix
theorem inR_open (t s : ByteArray) : inR t ⟨#[]⟩ s = !ltS s t := by
  unfold inR
  rw [decide_eq_true (show (ByteArray.mk #[]).size = 0 from rfl), Bool.true_or, Bool.and_true]
theorem ltS_none (s : ByteArray) : ltS s ⟨#[]⟩ = false := decide_eq_false (List.not_lt_nil _)
theorem inR_below {t s : ByteArray} (h : t.size ≠ 0) : inR ⟨#[]⟩ t s = ltS s t := by
  unfold inR
  rw [ltS_none, decide_eq_false h]
  simp
theorem split_at {t : ByteArray} (h : t.size ≠ 0) : ∀ L : List PE, Inc (nm L) → (L.filter fun y => inR ⟨#[]⟩ t y.1) ++ (L.filter fun y => inR t ⟨#[]⟩ y.1) = L
  | [], _ => rfl
  | x :: L, hI => by
    obtain ⟨h1, h2⟩ := List.pairwise_cons.1 (show Inc (x.1 :: nm L) from hI)
    have ih := split_at h L h2
    by_cases hx : ltS x.1 t = true
    · rw [List.filter_cons, List.filter_cons, if_pos (by rw [inR_below h]; exact hx), if_neg (by rw [inR_open, hx]; decide), List.cons_append, ih]
    · have hx' : ltS x.1 t = false := by simpa using hx
      have hall : ∀ y ∈ L, ltS y.1 t = false := fun y hy => by
        rw [Bool.eq_false_iff]
        intro h3
        have := ltS_trans (h1 y.1 (List.mem_map.2 ⟨y, hy, rfl⟩)) h3
        rw [hx'] at this
        cases this
      have e1 : (L.filter fun y => inR ⟨#[]⟩ t y.1) = [] := List.filter_eq_nil_iff.2 fun y hy => by rw [inR_below h, hall y hy]; decide
      have e2 : (L.filter fun y => inR t ⟨#[]⟩ y.1) = L := List.filter_eq_self.2 fun y hy => by rw [inR_open, hall y hy]; rfl
      rw [List.filter_cons, List.filter_cons, if_neg (by rw [inR_below h, hx']; decide), if_pos (by rw [inR_open, hx']; rfl), e1, e2]
      rfl
theorem floor_at {L : List PE} (hI : Inc (nm L)) {k : Nat} (hk : k < L.length) : lastP (L.filter fun y => upTo L[k].1 y.1) = (L[k], true) := by
  have e : L = L.take k ++ L[k] :: L.drop (k + 1) := by rw [← List.drop_eq_getElem_cons hk, List.take_append_drop]
  have hd : ((L.drop (k + 1)).filter fun y => upTo L[k].1 y.1) = [] := List.filter_eq_nil_iff.2 fun y hy => by
    obtain ⟨i, hi, rfl⟩ := List.mem_iff_getElem.1 hy
    have hkn : k < (nm L).length := by simpa [nm] using hk
    have hin : k + 1 + i < (nm L).length := by simp [nm]; rw [List.length_drop] at hi; omega
    have h1 : ltS (nm L)[k] (nm L)[k + 1 + i] = true := (List.pairwise_iff_getElem.1 hI) k (k + 1 + i) hkn hin (by omega)
    simp only [nm, List.getElem_map] at h1
    unfold upTo
    rw [List.getElem_drop, h1]
    decide
  have hf : (L.filter fun y => upTo L[k].1 y.1) = ((L.take k).filter fun y => upTo L[k].1 y.1) ++ [L[k]] := by
    have h2 : ∀ f : PE → Bool, f L[k] = true → (L.drop (k + 1)).filter f = [] → L.filter f = (L.take k).filter f ++ [L[k]] := fun f h3 h4 => by
      conv => lhs; rw [e]
      rw [List.filter_append, List.filter_cons, if_pos h3, h4]
    exact h2 _ (by unfold upTo; rw [ltS_irrefl]; rfl) hd
  rw [hf, lastP_snoc]
theorem fit0 (s : ByteArray) : fitP [] s = true := rfl

set_option maxRecDepth 100000 in
set_option maxHeartbeats 8000000 in
theorem law_listAgree (l : List E) (A : Option Addr) (c : Nat) (ta tb : ByteArray) (w : World) (hE : Es w w.heap.size l A c) (ha : ta.size ≤ maxLen) :
    Calls Try.prog 7 #[.slice A l.length c, .string ta, .string tb] w fun e w' => e = .returned (.bool true) ∧ Below w.heap.size w w' := by
  have hg := grown_ok l A c w hE
  obtain ⟨le, hle⟩ : ∃ le, le = growE l (min l.length 50) := ⟨_, rfl⟩
  rw [← hle] at hg
  have HE := vers.lay hE
  clear hle hE
  go_enter Try.func7, Try.ntmps7
  go_wp2_with fail
  refine hg.mono ?_
  rintro e w1 ⟨h, S, ns, r, ht, v, rfl, hb1, hh, hlo, hroot, hht, hfit, hrow, hown, hlen, hinc, hmem⟩
  clear hg
  have hSh1 : Shown w1 h S ns r ht (le.map pe) := ⟨hh, hroot, hht, hfit, by rw [List.length_map]; exact hlen⟩
  obtain ⟨Av, cv, rfl, hv1, hv2, hv3⟩ := row_rdF hrow
  have hle1 : Es w1 w1.heap.size le Av cv := ⟨hv1, by omega, hv2, hv3.rd, fun x hx => ⟨((HE.out.2.2.2.2 x (hmem x hx)).1.below hb1).more hb1.size, (HE.out.2.2.2.2 x (hmem x hx)).2⟩⟩
  clear hh hlo hroot hht hfit hrow hown hmem hv1 hv2 hv3
  obtain ⟨rk, rg, ro, rn⟩ := r
  have b2 : Below w1.heap.size w1 (w1.alloc (.cells #[.int .u64 (rk : Int), .int .i64 rg, .int .i64 ro, .int .i64 rn] 44)) := (Below.refl _ _).alloc (Nat.le_refl _) _
  have kR := Blk.new w1 44 #[.int .u64 (rk : Int), .int .i64 rg, .int .i64 ro, .int .i64 rn]
  have hSh := hSh1.below b2
  have hle2 := hle1.at_world b2
  have hb2 := hb1.trans (b2.mono hb1.size)
  have lR : w1.heap.size < (w1.alloc (.cells #[.int .u64 (rk : Int), .int .i64 rg, .int .i64 ro, .int .i64 rn] 44)).heap.size := kR.lt
  generalize hW2 : w1.alloc (.cells #[.int .u64 (rk : Int), .int .i64 rg, .int .i64 ro, .int .i64 rn] 44) = w2 at *
  have z0 := kR.cell 0
  have z1 := kR.cell 1
  have z2 := kR.cell 2
  have z3 := kR.cell 3
  simp only [List.getElem?_toArray, List.getElem?_cons_zero, List.getElem?_cons_succ] at z0 z1 z2 z3
  clear hSh1 hle1 hb1 b2
  clear z0 z1 z2 z3
  have kRc0 := kR.cell 0
  have kRc1 := kR.cell 1
  have kRc2 := kR.cell 2
  have kRc3 := kR.cell 3
  simp only [List.getElem?_toArray, List.getElem?_cons_zero, List.getElem?_cons_succ] at kRc0 kRc1 kRc2 kRc3
  have kRlt := kR.lt
  have hNl : (le.map (·.s)).length ≤ 50 := by rw [List.length_map]; exact hlen
  have HINC := vers.lay hinc
  clear hinc
  have bb : Below w2.heap.size w2 (w2.alloc (.cells #[.string ta] 9)) := (Below.refl _ _).alloc (Nat.le_refl _) _
  have kq := Blk.new w2 9 #[.string ta]
  have lq : w2.heap.size < (w2.alloc (.cells #[.string ta] 9)).heap.size := kq.lt
  generalize hW_w3 : w2.alloc (.cells #[.string ta] 9) = w3 at *
  have hb2_w3 := hb2.trans (bb.mono hb2.size)
  have hle2_w3 := hle2.at_world bb
  have hSh_w3 := hSh.below bb
  have kR_w3 := kR.below bb kR.lt
  clear bb hb2 hle2 hSh kR
  have htq := ts_new (l := [ta]) kq (by simp) (by intro x hx; simp only [List.mem_cons, List.not_mem_nil, or_false] at hx; rw [hx]; exact ha)
  have hcall := listNames_ok h S ns ⟨rk, rg, ro, rn⟩ ht (le.map pe) [ta] (some ⟨w2.heap.size, 0, none⟩) 1 _ hSh_w3 htq
  rw [names_of, map_filt] at hcall
  rw [show fitP [ta] = fun s => hasP s ta from funext fun s => fit1 ta s] at hcall
  have hpre := names_prefix ta _ HINC.out
  have hml : ((le.map (·.s)).filter fun s => hasP s ta).length ≤ 50 := Nat.le_trans (List.length_filter_le _ _) hNl
  generalize ((le.map (·.s)).filter fun s => hasP s ta) = X at *
  go_wp2_with fail
  refine hcall.mono ?_
  rintro e w4 ⟨vx, rfl, hb_w4, hto⟩
  obtain ⟨Ax, cx, rfl, hTx⟩ := hto.ts (by omega)
  clear hcall kq lq htq hto kRc0 kRc1 kRc2 kRc3 kRlt
  have hb2_w4 := hb2_w3.trans (hb_w4.mono hb2_w3.size)
  have hle2_w4 := hle2_w3.at_world hb_w4
  have hSh_w4 := hSh_w3.below hb_w4
  have kR_w4 := kR_w3.below hb_w4 kR_w3.lt
  clear hb2_w3 hle2_w3 hSh_w3 kR_w3
  have kRc0 := kR_w4.cell 0
  have kRc1 := kR_w4.cell 1
  have kRc2 := kR_w4.cell 2
  have kRc3 := kR_w4.cell 3
  simp only [List.getElem?_toArray, List.getElem?_cons_zero, List.getElem?_cons_succ] at kRc0 kRc1 kRc2 kRc3
  have kRlt := kR_w4.lt
  have hcall := listRange_ok h S ns ⟨rk, rg, ro, rn⟩ ht (le.map pe) ta ⟨#[]⟩ _ hSh_w4
  go_wp2_with fail
  refine hcall.mono ?_
  rintro e w5 ⟨hb_w5, vf, lf, rfl, hlf, hrowf, hownf, helf⟩
  have hnf : lf.length ≤ 50 := by rw [← List.length_map (f := pe), hlf]; exact Nat.le_trans (List.length_filter_le _ _) (by rw [List.length_map]; exact hlen)
  obtain ⟨Af, cf, rfl, hEf⟩ := AskPost.es hrowf helf (by omega)
  have HLf := vers.lay hlf
  clear hcall hrowf hownf helf hlf kRc0 kRc1 kRc2 kRc3 kRlt
  have hb2_w5 := hb2_w4.trans (hb_w5.mono hb2_w4.size)
  have hle2_w5 := hle2_w4.at_world hb_w5
  have hSh_w5 := hSh_w4.below hb_w5
  have kR_w5 := kR_w4.below hb_w5 kR_w4.lt
  have hTx_w5 := hTx.at_world hb_w5
  clear hb2_w4 hle2_w4 hSh_w4 kR_w4 hTx
  have kRc0 := kR_w5.cell 0
  have kRc1 := kR_w5.cell 1
  have kRc2 := kR_w5.cell 2
  have kRc3 := kR_w5.cell 3
  simp only [List.getElem?_toArray, List.getElem?_cons_zero, List.getElem?_cons_succ] at kRc0 kRc1 kRc2 kRc3
  have kRlt := kR_w5.lt
  have hpre2 : X <+: lf.map (·.s) := by
    have h1 : lf.map (·.s) = (le.map (·.s)).filter fun s => !ltS s ta := by
      rw [← pe_map, HLf.out, ← filtE_pe, pe_map, map_filt]
      exact congrArg (fun f => List.filter f (le.map (·.s))) (funext fun s => inR_open ta s)
    rw [h1]; exact hpre
  have hxf : X.length ≤ lf.length := by have := hpre2.length_le; rwa [List.length_map] at this
  have HPRE := vers.lay hpre2
  clear hpre hpre2
  have d9 : decide ((lf.length : Int) < (X.length : Int)) = false := decide_eq_false (by omega)
  go_wp2_with fail
  go_loopw [73] (fun i wr => ∃ j : Nat, j ≤ X.length ∧ i = .int .i64 (j : Int) ∧ wr = w5) (fun i _ => X.length - (intOf i).toNat)
  case atStart => exact ⟨0, Nat.zero_le _, rfl, rfl⟩
  case round =>
    obtain ⟨j, hj, rfl, rfl⟩ := hrel
    by_cases hlt : j < X.length
    · obtain ⟨bk, off, rfl, hbk, x0⟩ := hTx_w5.at_ hlt
      have hltf : j < lf.length := by omega
      obtain ⟨bk2, off2, rfl, hbk2, y0, y1, _⟩ := hEf.at_ hltf
      have hxe : X[j] = lf[j].s := by
        have := HPRE.out.getElem hlt
        rw [List.getElem_map] at this
        exact this
      rw [hxe] at x0
      clear hxe
      generalize lf[j] = y at *
      go_wp2_with fail
      exact ⟨⟨j + 1, hlt, by go_num, by trivial⟩, by first | (simp [intOf]; done) | (simp [intOf]; omega) | omega⟩
    · obtain rfl : j = X.length := by omega
      clear hj hlt d9 hxf HPRE
      have hcall := listNames_ok h S ns ⟨rk, rg, ro, rn⟩ ht (le.map pe) [] none 0 _ hSh_w5 (Ts.nil _ _)
      rw [names_of, show (le.filter fun x => fitP [] x.s) = le from List.filter_eq_self.2 fun _ _ => rfl] at hcall
      go_wp2_with fail
      refine hcall.mono ?_
      rintro e w7 ⟨vn, rfl, hb_w7, hto⟩
      obtain ⟨An, cn, rfl, hTn⟩ := hto.ts (by omega)
      clear hcall hto kRc0 kRc1 kRc2 kRc3 kRlt hTx_w5 hEf
      have hb2_w7 := hb2_w5.trans (hb_w7.mono hb2_w5.size)
      have hle2_w7 := hle2_w5.at_world hb_w7
      have hSh_w7 := hSh_w5.below hb_w7
      have kR_w7 := kR_w5.below hb_w7 kR_w5.lt
      clear hb2_w5 hle2_w5 hSh_w5 kR_w5
      have kRc0 := kR_w7.cell 0
      have kRc1 := kR_w7.cell 1
      have kRc2 := kR_w7.cell 2
      have kRc3 := kR_w7.cell 3
      simp only [List.getElem?_toArray, List.getElem?_cons_zero, List.getElem?_cons_succ] at kRc0 kRc1 kRc2 kRc3
      have kRlt := kR_w7.lt
      have hcall := listCount_ok h S ns ⟨rk, rg, ro, rn⟩ ht (le.map pe) _ hSh_w7
      rw [List.length_map] at hcall
      rw [List.length_map] at *
      go_wp2_with fail
      refine hcall.mono ?_
      rintro e w8 ⟨rfl, hb_w8⟩
      clear hcall kRc0 kRc1 kRc2 kRc3 kRlt
      have hb2_w8 := hb2_w7.trans (hb_w8.mono hb2_w7.size)
      have hle2_w8 := hle2_w7.at_world hb_w8
      have hSh_w8 := hSh_w7.below hb_w8
      have kR_w8 := kR_w7.below hb_w8 kR_w7.lt
      have hTn_w8 := hTn.at_world hb_w8
      clear hb2_w7 hle2_w7 hSh_w7 kR_w7 hTn
      go_wp2_with fail
      go_loopw [121] (fun i wr => ∃ j : Nat, j ≤ le.length ∧ i = .int .i64 (j : Int) ∧ Below w8.heap.size w8 wr) (fun i _ => le.length - (intOf i).toNat)
      case atStart => exact ⟨0, Nat.zero_le _, rfl, Below.refl _ _⟩
      case round =>
        obtain ⟨j, hj, rfl, hbr⟩ := hrel
        have hb2_wr := hb2_w8.trans (hbr.mono hb2_w8.size)
        have hle2_wr := hle2_w8.at_world hbr
        have hSh_wr := hSh_w8.below hbr
        have kR_wr := kR_w8.below hbr kR_w8.lt
        have hTn_wr := hTn_w8.at_world hbr
        clear hb2_w8 hle2_w8 hSh_w8 kR_w8 hTn_w8
        by_cases hlt : j < le.length
        · have hltn : j < (le.map (·.s)).length := by rw [List.length_map]; exact hlt
          obtain ⟨bk, off, rfl, hbk, x0⟩ := hTn_wr.at_ hltn
          obtain ⟨bk2, off2, rfl, hbk2, y0, y1, _⟩ := hle2_wr.at_ hlt
          have hn1 := nthP_yes (la := le) rfl hlt
          have hf1 := floor_at (L := le.map pe) (show Inc (nm (le.map pe)) by unfold nm; rw [pe_map]; exact HINC.out) (k := j) (by rw [List.length_map]; exact hlt)
          simp only [List.getElem_map] at x0 hf1
          have hcN := fun wx hs => listNth_ok h S ns ⟨rk, rg, ro, rn⟩ ht (le.map pe) (j : Int) wx hs (by omega)
          have hcF := fun wx hs => listFloor_ok h S ns ⟨rk, rg, ro, rn⟩ ht (le.map pe) le[j].s wx hs
          rw [hn1] at hcN
          rw [show (pe le[j]).1 = le[j].s from rfl] at hf1
          rw [hf1] at hcF
          clear hn1 hf1
          generalize le[j] = y at *
          clear hltn
          obtain ⟨ys, yl, yA, yc⟩ := y
          simp only [] at x0 y0 y1 hcN hcF
          have kRc0 := kR_wr.cell 0
          have kRc1 := kR_wr.cell 1
          have kRc2 := kR_wr.cell 2
          have kRc3 := kR_wr.cell 3
          simp only [List.getElem?_toArray, List.getElem?_cons_zero, List.getElem?_cons_succ] at kRc0 kRc1 kRc2 kRc3
          have kRlt := kR_wr.lt
          have hbq : Below wr.heap.size wr wr := Below.refl _ _
          have hcall := hcN _ hSh_wr
          go_wp2_with fail
          refine hcall.mono ?_
          rintro e w9 ⟨hb_w9, xp, rfl, hxp, hvp, hsp⟩
          clear hcall kRc0 kRc1 kRc2 kRc3 kRlt
          have hb2_w9 := hb2_wr.trans (hb_w9.mono hb2_wr.size)
          have hle2_w9 := hle2_wr.at_world hb_w9
          have hSh_w9 := hSh_wr.below hb_w9
          have kR_w9 := kR_wr.below hb_w9 kR_wr.lt
          have hTn_w9 := hTn_wr.at_world hb_w9
          have hbq_w9 := hbq.trans (hb_w9.mono hbq.size)
          clear hb2_wr hle2_wr hSh_wr kR_wr hTn_wr hbq
          obtain ⟨sp, lp, Ap, cp⟩ := xp
          injection hxp with hxa hxb
          simp only [] at hxa
          subst hxa
          clear hxb hsp hvp
          have bb : Below w9.heap.size w9 (w9.alloc (.cells #[.string sp, .slice Ap lp.length cp] 58)) := (Below.refl _ _).alloc (Nat.le_refl _) _
          have kxp := Blk.new w9 58 #[.string sp, .slice Ap lp.length cp]
          obtain ⟨wa, hwa⟩ : ∃ W, W = w9.alloc (.cells #[.string sp, .slice Ap lp.length cp] 58) := ⟨_, rfl⟩
          rw [← hwa] at bb kxp
          have hb2_wa := hb2_w9.trans (bb.mono hb2_w9.size)
          have hle2_wa := hle2_w9.at_world bb
          have hSh_wa := hSh_w9.below bb
          have kR_wa := kR_w9.below bb kR_w9.lt
          have hTn_wa := hTn_w9.at_world bb
          have hbq_wa := hbq_w9.trans (bb.mono hbq_w9.size)
          clear bb hb2_w9 hle2_w9 hSh_w9 kR_w9 hTn_w9 hbq_w9
          have hW_wa := hwa.symm
          clear hwa
          have kRc0 := kR_wa.cell 0
          have kRc1 := kR_wa.cell 1
          have kRc2 := kR_wa.cell 2
          have kRc3 := kR_wa.cell 3
          simp only [List.getElem?_toArray, List.getElem?_cons_zero, List.getElem?_cons_succ] at kRc0 kRc1 kRc2 kRc3
          have kRlt := kR_wa.lt
          have kxpc0 := kxp.cell 0
          have kxpc1 := kxp.cell 1
          simp only [List.getElem?_toArray, List.getElem?_cons_zero, List.getElem?_cons_succ] at kxpc0 kxpc1
          have kxplt := kxp.lt
          have hcall := hcF _ hSh_wa
          go_wp2_with fail
          refine hcall.mono ?_
          rintro e wb ⟨hb_wb, xq, rfl, hxq, hvq, hsq⟩
          clear hcall kRc0 kRc1 kRc2 kRc3 kRlt kxpc0 kxpc1 kxplt
          have hb2_wb := hb2_wa.trans (hb_wb.mono hb2_wa.size)
          have hle2_wb := hle2_wa.at_world hb_wb
          have hSh_wb := hSh_wa.below hb_wb
          have kR_wb := kR_wa.below hb_wb kR_wa.lt
          have hTn_wb := hTn_wa.at_world hb_wb
          have hbq_wb := hbq_wa.trans (hb_wb.mono hbq_wa.size)
          have kxp_wb := kxp.below hb_wb kxp.lt
          clear hb2_wa hle2_wa hSh_wa kR_wa hTn_wa hbq_wa kxp
          obtain ⟨sq, lq, Aq, cq⟩ := xq
          injection hxq with hxa hxb
          simp only [] at hxa
          subst hxa
          clear hxb hsq hvq
          have bb : Below wb.heap.size wb (wb.alloc (.cells #[.string sq, .slice Aq lq.length cq] 58)) := (Below.refl _ _).alloc (Nat.le_refl _) _
          have kxq := Blk.new wb 58 #[.string sq, .slice Aq lq.length cq]
          obtain ⟨wc, hwc⟩ : ∃ W, W = wb.alloc (.cells #[.string sq, .slice Aq lq.length cq] 58) := ⟨_, rfl⟩
          rw [← hwc] at bb kxq
          have hb2_wc := hb2_wb.trans (bb.mono hb2_wb.size)
          have hle2_wc := hle2_wb.at_world bb
          have hSh_wc := hSh_wb.below bb
          have kR_wc := kR_wb.below bb kR_wb.lt
          have hTn_wc := hTn_wb.at_world bb
          have hbq_wc := hbq_wb.trans (bb.mono hbq_wb.size)
          have kxp_wc := kxp_wb.below bb kxp_wb.lt
          clear bb hb2_wb hle2_wb hSh_wb kR_wb hTn_wb hbq_wb kxp_wb
          have hW_wc := hwc.symm
          clear hwc
          have kRc0 := kR_wc.cell 0
          have kRc1 := kR_wc.cell 1
          have kRc2 := kR_wc.cell 2
          have kRc3 := kR_wc.cell 3
          simp only [List.getElem?_toArray, List.getElem?_cons_zero, List.getElem?_cons_succ] at kRc0 kRc1 kRc2 kRc3
          have kRlt := kR_wc.lt
          have kxpc0 := kxp_wc.cell 0
          have kxpc1 := kxp_wc.cell 1
          simp only [List.getElem?_toArray, List.getElem?_cons_zero, List.getElem?_cons_succ] at kxpc0 kxpc1
          have kxplt := kxp_wc.lt
          have kxqc0 := kxq.cell 0
          have kxqc1 := kxq.cell 1
          simp only [List.getElem?_toArray, List.getElem?_cons_zero, List.getElem?_cons_succ] at kxqc0 kxqc1
          have kxqlt := kxq.lt
          have y0c := (hbq_wc.cell (p := ⟨bk2, off2 + j * 2, none⟩) hbk2).trans y0
          clear x0 y0 y1
          have hbz := hbr.trans (hbq_wc.mono hbr.size)
          go_wp2_with fail
          exact ⟨⟨j + 1, hlt, by go_num, hbz⟩, by first | (simp [intOf]; done) | (simp [intOf]; omega) | omega⟩
        · obtain rfl : j = le.length := by omega
          clear hj hlt
          have kRc0 := kR_wr.cell 0
          have kRc1 := kR_wr.cell 1
          have kRc2 := kR_wr.cell 2
          have kRc3 := kR_wr.cell 3
          simp only [List.getElem?_toArray, List.getElem?_cons_zero, List.getElem?_cons_succ] at kRc0 kRc1 kRc2 kRc3
          have kRlt := kR_wr.lt
          by_cases hat : tb.size = 0
          · obtain rfl : tb = ⟨#[]⟩ := by
              cases tb with
              | mk d => have : d.size = 0 := hat; simp only [ByteArray.mk.injEq]; exact Array.eq_empty_of_size_eq_zero this
            go_wp2_with fail
            go_ret
            exact ⟨by first | rfl | simp, hb2_wr⟩
          · have g6 : (tb.toList == ([] : List UInt8)) = false := by
              rw [beq_eq_false_iff_ne, Lib.toList_data]
              intro h
              apply hat
              have : tb.data.size = 0 := by rw [← Array.length_toList, h]; rfl
              exact this
            have g7 : (tb.toList == (ByteArray.mk #[]).toList) = false := by
              rw [beq_eq_false_iff_ne, Lib.toList_data, Lib.toList_data]
              intro h
              apply hat
              have : tb.data.size = 0 := by rw [← Array.length_toList, h]; rfl
              exact this
            have HSP := vers.lay (split_at hat (le.map pe) (show Inc (nm (le.map pe)) by unfold nm; rw [pe_map]; exact HINC.out))
            clear hat
            have hcall := listRange_ok h S ns ⟨rk, rg, ro, rn⟩ ht (le.map pe) ⟨#[]⟩ tb _ hSh_wr
            go_wp2_with fail
            refine hcall.mono ?_
            rintro e w9 ⟨hb_w9, vl, ll, rfl, hll, hrowl, hownl, hell⟩
            have hnl : ll.length ≤ 50 := by rw [← List.length_map (f := pe), hll]; exact Nat.le_trans (List.length_filter_le _ _) (by rw [List.length_map]; exact hlen)
            obtain ⟨Al, cl, rfl, hEl⟩ := AskPost.es hrowl hell (by omega)
            have HLl := vers.lay hll
            clear hcall hrowl hownl hell hll kRc0 kRc1 kRc2 kRc3 kRlt
            have hb2_w9 := hb2_wr.trans (hb_w9.mono hb2_wr.size)
            have hle2_w9 := hle2_wr.at_world hb_w9
            have hSh_w9 := hSh_wr.below hb_w9
            have kR_w9 := kR_wr.below hb_w9 kR_wr.lt
            have hTn_w9 := hTn_wr.at_world hb_w9
            clear hb2_wr hle2_wr hSh_wr kR_wr hTn_wr
            have kRc0 := kR_w9.cell 0
            have kRc1 := kR_w9.cell 1
            have kRc2 := kR_w9.cell 2
            have kRc3 := kR_w9.cell 3
            simp only [List.getElem?_toArray, List.getElem?_cons_zero, List.getElem?_cons_succ] at kRc0 kRc1 kRc2 kRc3
            have kRlt := kR_w9.lt
            have hcall := listRange_ok h S ns ⟨rk, rg, ro, rn⟩ ht (le.map pe) tb ⟨#[]⟩ _ hSh_w9
            go_wp2_with fail
            refine hcall.mono ?_
            rintro e wa ⟨hb_wa, vr, lr, rfl, hlr, hrowr, hownr, helr⟩
            have hnr : lr.length ≤ 50 := by rw [← List.length_map (f := pe), hlr]; exact Nat.le_trans (List.length_filter_le _ _) (by rw [List.length_map]; exact hlen)
            obtain ⟨Ar, cr, rfl, hEr⟩ := AskPost.es hrowr helr (by omega)
            have HLr := vers.lay hlr
            clear hcall hrowr hownr helr hlr kRc0 kRc1 kRc2 kRc3 kRlt
            have hb2_wa := hb2_w9.trans (hb_wa.mono hb2_w9.size)
            have hle2_wa := hle2_w9.at_world hb_wa
            have hSh_wa := hSh_w9.below hb_wa
            have kR_wa := kR_w9.below hb_wa kR_w9.lt
            have hTn_wa := hTn_w9.at_world hb_wa
            have hEl_wa := hEl.at_world hb_wa
            clear hb2_w9 hle2_w9 hSh_w9 kR_w9 hTn_w9 hEl
            have kRc0 := kR_wa.cell 0
            have kRc1 := kR_wa.cell 1
            have kRc2 := kR_wa.cell 2
            have kRc3 := kR_wa.cell 3
            simp only [List.getElem?_toArray, List.getElem?_cons_zero, List.getElem?_cons_succ] at kRc0 kRc1 kRc2 kRc3
            have kRlt := kR_wa.lt
            have b0 : Below wa.heap.size wa (wa.alloc (.cells #[] 58)) := (Below.refl _ _).alloc (Nat.le_refl _) _
            have r0 : (wa.alloc (.cells #[] 58)).ownsRow 0 58 2 (.slice (some ⟨wa.heap.size, 0, none⟩) 0 0) 0 (cellsE []) := ⟨rfl, .inr ⟨wa.heap.size, 0, #[], rfl, Nat.zero_le _, heap_alloc_new wa _, Nat.le_refl _, Nat.zero_le _, rfl, rfl⟩⟩
            have hEl0 := hEl_wa.below b0
            have hEr0 := hEr.below b0
            have z0 : wa.heap.size < (wa.alloc (.cells #[] 58)).heap.size := by simp
            obtain ⟨wb, hwb⟩ : ∃ W, W = wa.alloc (.cells #[] 58) := ⟨_, rfl⟩
            rw [← hwb] at b0 r0 hEl0 hEr0 z0
            have hW_wb := hwb.symm
            clear hwb
            obtain ⟨i0, hi0, hz0, hz1, hz2⟩ := info_parts infoEn
            have hcl1 : (cellsE ll).length = ll.length * 2 := by rw [cellsE_len, Nat.mul_comm]
            have hcl2 : (cellsE lr).length = lr.length * 2 := by rw [cellsE_len, Nat.mul_comm]
            have HCL := vers.lay (⟨hcl1, hcl2⟩ : _ ∧ _)
            clear hcl1 hcl2 kRc0 kRc1 kRc2 kRc3 kRlt
            go_wp2_with (first | (at_builtin; refine wpList_bulk Try.underlying39 hi0 hz0 hz1 hz2 rfl (by decide) rfl _ _ rfl r0 rfl (m := ll.length) HCL.out.1 hEl0.2.2.2.1 hEl0.2.2.1 hEl0.1 (cellsE_one _) rfl (by omega) (by unfold maxLen; omega) ?_; intro v8 w8' ho8 hk8 hv8; have hk8b : Below wa.heap.size wb w8' := hk8.below (fun g hg => by cases hg; exact Nat.le_refl _) (Nat.le_of_lt z0); have hEr8 := hEr0.below hk8b) | (at_builtin; refine wpList_bulk Try.underlying39 hi0 hz0 hz1 hz2 rfl (by decide) rfl _ _ rfl ho8 rfl (m := lr.length) HCL.out.2 hEr8.2.2.2.1 hEr8.2.2.1 hEr8.1 (cellsE_one _) rfl (by omega) (by unfold maxLen; omega) ?_; intro v9 w9' ho9 hk9 hv9))
            have hk9b : Below wa.heap.size w8' w9' := hk9.below (fun g hg => (hv8 g hg).elim (fun h => by cases h; exact Nat.le_refl _) (fun h => by omega)) (by have := hk8b.size; omega)
            have hb89 := hk8b.trans hk9b
            have hEl9 := hEl0.below hb89
            have hEr9 := hEr8.below hk9b
            have b09 := b0.trans hb89
            have hle9 := hle2_wa.at_world b09
            obtain ⟨A9, c9, rfl, hr1, hr2, hr3⟩ := row_rdF ho9
            have hE9 : Es w9' w9'.heap.size (ll ++ lr) A9 c9 := ⟨by rw [List.length_append]; omega, by rw [List.length_append]; omega, hr2, by rw [cellsE_app]; exact hr3.rd, fun x hx => (List.mem_append.1 hx).elim (fun h => ⟨(hEl9.2.2.2.2 x h).1.more b09.size, (hEl9.2.2.2.2 x h).2⟩) (fun h => ⟨(hEr9.2.2.2.2 x h).1.more b09.size, (hEr9.2.2.2.2 x h).2⟩)⟩
            have hcall := likeAll_any (ll ++ lr) le A9 Av c9 cv w9' hE9 hle9
            rw [decide_eq_true (show (ll ++ lr).map pe = le.map pe by rw [List.map_append, HLl.out, HLr.out, HSP.out]), List.length_append] at hcall
            rw [show 0 + ll.length + lr.length = ll.length + lr.length by omega]
            refine hcall.mono ?_
            rintro e wz ⟨rfl, hbz⟩
            go_wp2_with fail
            go_ret
            exact ⟨by first | rfl | simp, hb2_wa.trans ((b09.trans (hbz.mono b09.size)).mono hb2_wa.size)⟩

end Go.Proofs.Ytchghlbiongccaa.trees
