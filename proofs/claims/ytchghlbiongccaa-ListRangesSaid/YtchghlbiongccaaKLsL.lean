/- The law ListRanges. -/
import Derived.Test.YtchghlbiongccaaKLsK


namespace Go.Proofs.Ytchghlbiongccaa.trees
set_option linter.unusedVariables false
set_option linter.unusedSimpArgs false
open Go.RowKit Go.Shelf Go.Proofs.Ytchghlbiongccaa.base Go.Proofs.Ytchghlbiongccaa.quotas Go.Proofs.Ytchghlbiongccaa.vers Go.Proofs.Ytchghlbiongccaa.nodes

set_option maxRecDepth 100000 in
set_option maxHeartbeats 8000000 in
theorem law_listRanges (l : List E) (A : Option Addr) (c : Nat) (ta tb : ByteArray) (n : Int) (w : World) (hE : Es w w.heap.size l A c) (hn : -9223372036854775808 ≤ n ∧ n ≤ 9223372036854775807) :
    Calls Try.prog 6 #[.slice A l.length c, .string ta, .string tb, .int .i64 n] w fun e w' => e = .returned (.bool true) ∧ Below w.heap.size w w' := by
  have hg := grown_ok l A c w hE
  obtain ⟨le, hle⟩ : ∃ le, le = growE l (min l.length 50) := ⟨_, rfl⟩
  rw [← hle] at hg
  have HE := vers.lay hE
  clear hle hE
  go_enter Try.func6, Try.ntmps6
  go_wp2_with fail
  refine hg.mono ?_
  rintro e w1 ⟨h, S, ns, r, ht, v, rfl, hb1, hh, hlo, hroot, hht, hfit, hrow, hown, hlen, hinc, hmem⟩
  clear hg
  have hSh1 : Shown w1 h S ns r ht (le.map pe) := ⟨hh, hroot, hht, hfit, by rw [List.length_map]; exact hlen⟩
  obtain ⟨Av, cv, rfl, hv1, hv2, hv3⟩ := row_rdF hrow
  have hle1 : Es w1 w1.heap.size le Av cv := ⟨hv1, by omega, hv2, hv3.rd, fun x hx => ⟨((HE.out.2.2.2.2 x (hmem x hx)).1.below hb1).more hb1.size, (HE.out.2.2.2.2 x (hmem x hx)).2⟩⟩
  clear hh hlo hroot hht hfit hrow hown hmem hv1 hv2 hv3
  obtain ⟨rk, rg, ro, rn⟩ := r
  have b2 : Below w1.heap.size w1 (w1.alloc (.cells #[.int .u64 (rk : Int), .int .i64 rg, .int .i64 ro, .int .i64 rn] 44)) := (Below.refl _ _).alloc (Nat.le_refl _) _
  have kR := Blk.new w1 44 #[.int .u64 (rk : Int), .int .i64 rg, .int .i64 ro, .int .i64 rn]
  have hSh := hSh1.below b2
  have hle2 := hle1.at_world b2
  have hb2 := hb1.trans (b2.mono hb1.size)
  have lR : w1.heap.size < (w1.alloc (.cells #[.int .u64 (rk : Int), .int .i64 rg, .int .i64 ro, .int .i64 rn] 44)).heap.size := kR.lt
  generalize hW2 : w1.alloc (.cells #[.int .u64 (rk : Int), .int .i64 rg, .int .i64 ro, .int .i64 rn] 44) = w2 at *
  have z0 := kR.cell 0
  have z1 := kR.cell 1
  have z2 := kR.cell 2
  have z3 := kR.cell 3
  simp only [List.getElem?_toArray, List.getElem?_cons_zero, List.getElem?_cons_succ] at z0 z1 z2 z3
  clear hSh1 hle1 hb1 b2
  clear z0 z1 z2 z3
  have kRc0 := kR.cell 0
  have kRc1 := kR.cell 1
  have kRc2 := kR.cell 2
  have kRc3 := kR.cell 3
  simp only [List.getElem?_toArray, List.getElem?_cons_zero, List.getElem?_cons_succ] at kRc0 kRc1 kRc2 kRc3
  have kRlt := kR.lt
  have hcall := listRange_ok h S ns ⟨rk, rg, ro, rn⟩ ht (le.map pe) ta tb w2 hSh
  go_wp2_with fail
  refine hcall.mono ?_
  rintro e w3 ⟨hb3, va, la, rfl, hla, hrowA, hownA, helA⟩
  have hla9 : la.length ≤ 50 := by rw [← List.length_map (f := pe), hla]; exact Nat.le_trans (List.length_filter_le _ _) (by rw [List.length_map]; exact hlen)
  obtain ⟨Aa, ca, rfl, hEa⟩ := AskPost.es hrowA helA (by omega)
  have HLA := vers.lay hla
  clear hcall hrowA hownA helA hla kRc0 kRc1 kRc2 kRc3 kRlt
  have hb2_w3 := hb2.trans (hb3.mono hb2.size)
  have hle2_w3 := hle2.at_world hb3
  have hSh_w3 := hSh.below hb3
  have kR_w3 := kR.below hb3 kR.lt
  clear hb2 hle2 hSh kR
  have kRc0 := kR_w3.cell 0
  have kRc1 := kR_w3.cell 1
  have kRc2 := kR_w3.cell 2
  have kRc3 := kR_w3.cell 3
  simp only [List.getElem?_toArray, List.getElem?_cons_zero, List.getElem?_cons_succ] at kRc0 kRc1 kRc2 kRc3
  have kRlt := kR_w3.lt
  have hcall := listCount_ok h S ns ⟨rk, rg, ro, rn⟩ ht (le.map pe) _ hSh_w3
  go_wp2_with fail
  refine hcall.mono ?_
  rintro e w4 ⟨rfl, hb4⟩
  clear hcall kRc0 kRc1 kRc2 kRc3 kRlt
  have hb2_w4 := hb2_w3.trans (hb4.mono hb2_w3.size)
  have hle2_w4 := hle2_w3.at_world hb4
  have hSh_w4 := hSh_w3.below hb4
  have kR_w4 := kR_w3.below hb4 kR_w3.lt
  have hEa_w4 := hEa.at_world hb4
  clear hb2_w3 hle2_w3 hSh_w3 kR_w3 hEa
  have kRc0 := kR_w4.cell 0
  have kRc1 := kR_w4.cell 1
  have kRc2 := kR_w4.cell 2
  have kRc3 := kR_w4.cell 3
  simp only [List.getElem?_toArray, List.getElem?_cons_zero, List.getElem?_cons_succ] at kRc0 kRc1 kRc2 kRc3
  have kRlt := kR_w4.lt
  rw [List.length_map]
  obtain ⟨zx, hzx⟩ : ∃ z, z = nthP (le.map pe) n := ⟨_, rfl⟩
  have hcall := listNth_ok h S ns ⟨rk, rg, ro, rn⟩ ht (le.map pe) n _ hSh_w4 hn
  rw [← hzx] at hcall
  have HZx := vers.lay hzx
  clear hzx
  go_wp2_with fail
  refine hcall.mono ?_
  rintro e w5 ⟨hb_w5, xx, rfl, hxx, hvx, hsx⟩
  clear hcall kRc0 kRc1 kRc2 kRc3 kRlt
  have hb2_w5 := hb2_w4.trans (hb_w5.mono hb2_w4.size)
  have hle2_w5 := hle2_w4.at_world hb_w5
  have hSh_w5 := hSh_w4.below hb_w5
  have kR_w5 := kR_w4.below hb_w5 kR_w4.lt
  have hEa_w5 := hEa_w4.at_world hb_w5
  clear hb2_w4 hle2_w4 hSh_w4 kR_w4 hEa_w4
  obtain ⟨sx, lx, Ax, cx⟩ := xx
  obtain ⟨px, bx9⟩ := zx
  simp only [] at hxx hvx hsx ⊢
  have HXx := vers.lay hxx
  clear hxx hsx
  have bb : Below w5.heap.size w5 (w5.alloc (.cells #[.string sx, .slice Ax lx.length cx] 58)) := (Below.refl _ _).alloc (Nat.le_refl _) _
  have kxx := Blk.new w5 58 #[.string sx, .slice Ax lx.length cx]
  obtain ⟨w6, hw6⟩ : ∃ W, W = w5.alloc (.cells #[.string sx, .slice Ax lx.length cx] 58) := ⟨_, rfl⟩
  rw [← hw6] at bb kxx
  have hb2_w6 := hb2_w5.trans (bb.mono hb2_w5.size)
  have hle2_w6 := hle2_w5.at_world bb
  have hSh_w6 := hSh_w5.below bb
  have kR_w6 := kR_w5.below bb kR_w5.lt
  have hEa_w6 := hEa_w5.at_world bb
  have hvx_w6 := (hvx.below bb).more bb.size
  clear bb hb2_w5 hle2_w5 hSh_w5 kR_w5 hEa_w5 hvx
  have hW_w6 := hw6.symm
  clear hw6
  have kRc0 := kR_w6.cell 0
  have kRc1 := kR_w6.cell 1
  have kRc2 := kR_w6.cell 2
  have kRc3 := kR_w6.cell 3
  simp only [List.getElem?_toArray, List.getElem?_cons_zero, List.getElem?_cons_succ] at kRc0 kRc1 kRc2 kRc3
  have kRlt := kR_w6.lt
  have kxxc0 := kxx.cell 0
  have kxxc1 := kxx.cell 1
  simp only [List.getElem?_toArray, List.getElem?_cons_zero, List.getElem?_cons_succ] at kxxc0 kxxc1
  have kxxlt := kxx.lt
  obtain ⟨zy, hzy⟩ : ∃ z, z = nthP (le.map pe) n := ⟨_, rfl⟩
  have hcall := refNth_ok le Av cv n _ hle2_w6 (by omega) hn
  rw [← hzy] at hcall
  have HZy := vers.lay hzy
  clear hzy
  go_wp2_with fail
  refine hcall.mono ?_
  rintro e w7 ⟨hb_w7, xy, rfl, hxy, hvy, hsy⟩
  clear hcall kRc0 kRc1 kRc2 kRc3 kRlt kxxc0 kxxc1 kxxlt
  have hb2_w7 := hb2_w6.trans (hb_w7.mono hb2_w6.size)
  have hle2_w7 := hle2_w6.at_world hb_w7
  have hSh_w7 := hSh_w6.below hb_w7
  have kR_w7 := kR_w6.below hb_w7 kR_w6.lt
  have hEa_w7 := hEa_w6.at_world hb_w7
  have hvx_w7 := (hvx_w6.below hb_w7).more hb_w7.size
  have kxx_w7 := kxx.below hb_w7 kxx.lt
  clear hb2_w6 hle2_w6 hSh_w6 kR_w6 hEa_w6 hvx_w6 kxx
  obtain ⟨sy, ly, Ay, cy⟩ := xy
  obtain ⟨py, by9⟩ := zy
  simp only [] at hxy hvy hsy ⊢
  have HXy := vers.lay hxy
  clear hxy hsy
  have bb : Below w7.heap.size w7 (w7.alloc (.cells #[.string sy, .slice Ay ly.length cy] 58)) := (Below.refl _ _).alloc (Nat.le_refl _) _
  have kxy := Blk.new w7 58 #[.string sy, .slice Ay ly.length cy]
  obtain ⟨w8, hw8⟩ : ∃ W, W = w7.alloc (.cells #[.string sy, .slice Ay ly.length cy] 58) := ⟨_, rfl⟩
  rw [← hw8] at bb kxy
  have hb2_w8 := hb2_w7.trans (bb.mono hb2_w7.size)
  have hle2_w8 := hle2_w7.at_world bb
  have hSh_w8 := hSh_w7.below bb
  have kR_w8 := kR_w7.below bb kR_w7.lt
  have hEa_w8 := hEa_w7.at_world bb
  have hvx_w8 := (hvx_w7.below bb).more bb.size
  have kxx_w8 := kxx_w7.below bb kxx_w7.lt
  have hvy_w8 := (hvy.below bb).more bb.size
  clear bb hb2_w7 hle2_w7 hSh_w7 kR_w7 hEa_w7 hvx_w7 kxx_w7 hvy
  have hW_w8 := hw8.symm
  clear hw8
  have kRc0 := kR_w8.cell 0
  have kRc1 := kR_w8.cell 1
  have kRc2 := kR_w8.cell 2
  have kRc3 := kR_w8.cell 3
  simp only [List.getElem?_toArray, List.getElem?_cons_zero, List.getElem?_cons_succ] at kRc0 kRc1 kRc2 kRc3
  have kRlt := kR_w8.lt
  have kxxc0 := kxx_w8.cell 0
  have kxxc1 := kxx_w8.cell 1
  simp only [List.getElem?_toArray, List.getElem?_cons_zero, List.getElem?_cons_succ] at kxxc0 kxxc1
  have kxxlt := kxx_w8.lt
  have kxyc0 := kxy.cell 0
  have kxyc1 := kxy.cell 1
  simp only [List.getElem?_toArray, List.getElem?_cons_zero, List.getElem?_cons_succ] at kxyc0 kxyc1
  have kxylt := kxy.lt
  obtain ⟨zz, hzz⟩ : ∃ z, z = lastP ((le.map pe).filter fun y => upTo ta y.1) := ⟨_, rfl⟩
  have hcall := listFloor_ok h S ns ⟨rk, rg, ro, rn⟩ ht (le.map pe) ta _ hSh_w8
  rw [← hzz] at hcall
  have HZz := vers.lay hzz
  clear hzz
  go_wp2_with fail
  refine hcall.mono ?_
  rintro e w9 ⟨hb_w9, xz, rfl, hxz, hvz, hsz⟩
  clear hcall kRc0 kRc1 kRc2 kRc3 kRlt kxxc0 kxxc1 kxxlt kxyc0 kxyc1 kxylt
  have hb2_w9 := hb2_w8.trans (hb_w9.mono hb2_w8.size)
  have hle2_w9 := hle2_w8.at_world hb_w9
  have hSh_w9 := hSh_w8.below hb_w9
  have kR_w9 := kR_w8.below hb_w9 kR_w8.lt
  have hEa_w9 := hEa_w8.at_world hb_w9
  have hvx_w9 := (hvx_w8.below hb_w9).more hb_w9.size
  have kxx_w9 := kxx_w8.below hb_w9 kxx_w8.lt
  have hvy_w9 := (hvy_w8.below hb_w9).more hb_w9.size
  have kxy_w9 := kxy.below hb_w9 kxy.lt
  clear hb2_w8 hle2_w8 hSh_w8 kR_w8 hEa_w8 hvx_w8 kxx_w8 hvy_w8 kxy
  obtain ⟨sz, lz, Az, cz⟩ := xz
  obtain ⟨pz, bz9⟩ := zz
  simp only [] at hxz hvz hsz ⊢
  have HXz := vers.lay hxz
  clear hxz hsz
  have bb : Below w9.heap.size w9 (w9.alloc (.cells #[.string sz, .slice Az lz.length cz] 58)) := (Below.refl _ _).alloc (Nat.le_refl _) _
  have kxz := Blk.new w9 58 #[.string sz, .slice Az lz.length cz]
  obtain ⟨wa, hwa⟩ : ∃ W, W = w9.alloc (.cells #[.string sz, .slice Az lz.length cz] 58) := ⟨_, rfl⟩
  rw [← hwa] at bb kxz
  have hb2_wa := hb2_w9.trans (bb.mono hb2_w9.size)
  have hle2_wa := hle2_w9.at_world bb
  have hSh_wa := hSh_w9.below bb
  have kR_wa := kR_w9.below bb kR_w9.lt
  have hEa_wa := hEa_w9.at_world bb
  have hvx_wa := (hvx_w9.below bb).more bb.size
  have kxx_wa := kxx_w9.below bb kxx_w9.lt
  have hvy_wa := (hvy_w9.below bb).more bb.size
  have kxy_wa := kxy_w9.below bb kxy_w9.lt
  have hvz_wa := (hvz.below bb).more bb.size
  clear bb hb2_w9 hle2_w9 hSh_w9 kR_w9 hEa_w9 hvx_w9 kxx_w9 hvy_w9 kxy_w9 hvz
  have hW_wa := hwa.symm
  clear hwa
  have kRc0 := kR_wa.cell 0
  have kRc1 := kR_wa.cell 1
  have kRc2 := kR_wa.cell 2
  have kRc3 := kR_wa.cell 3
  simp only [List.getElem?_toArray, List.getElem?_cons_zero, List.getElem?_cons_succ] at kRc0 kRc1 kRc2 kRc3
  have kRlt := kR_wa.lt
  have kxxc0 := kxx_wa.cell 0
  have kxxc1 := kxx_wa.cell 1
  simp only [List.getElem?_toArray, List.getElem?_cons_zero, List.getElem?_cons_succ] at kxxc0 kxxc1
  have kxxlt := kxx_wa.lt
  have kxyc0 := kxy_wa.cell 0
  have kxyc1 := kxy_wa.cell 1
  simp only [List.getElem?_toArray, List.getElem?_cons_zero, List.getElem?_cons_succ] at kxyc0 kxyc1
  have kxylt := kxy_wa.lt
  have kxzc0 := kxz.cell 0
  have kxzc1 := kxz.cell 1
  simp only [List.getElem?_toArray, List.getElem?_cons_zero, List.getElem?_cons_succ] at kxzc0 kxzc1
  have kxzlt := kxz.lt
  obtain ⟨zt, hzt⟩ : ∃ z, z = lastP ((le.map pe).filter fun y => upTo ta y.1) := ⟨_, rfl⟩
  have hcall := refFloor_ok le Av cv ta _ hle2_wa (by omega)
  rw [← hzt] at hcall
  have HZt := vers.lay hzt
  clear hzt
  go_wp2_with fail
  refine hcall.mono ?_
  rintro e wb ⟨hb_wb, xt, rfl, hxt, hvt, hst⟩
  clear hcall kRc0 kRc1 kRc2 kRc3 kRlt kxxc0 kxxc1 kxxlt kxyc0 kxyc1 kxylt kxzc0 kxzc1 kxzlt
  have hb2_wb := hb2_wa.trans (hb_wb.mono hb2_wa.size)
  have hle2_wb := hle2_wa.at_world hb_wb
  have hSh_wb := hSh_wa.below hb_wb
  have kR_wb := kR_wa.below hb_wb kR_wa.lt
  have hEa_wb := hEa_wa.at_world hb_wb
  have hvx_wb := (hvx_wa.below hb_wb).more hb_wb.size
  have kxx_wb := kxx_wa.below hb_wb kxx_wa.lt
  have hvy_wb := (hvy_wa.below hb_wb).more hb_wb.size
  have kxy_wb := kxy_wa.below hb_wb kxy_wa.lt
  have hvz_wb := (hvz_wa.below hb_wb).more hb_wb.size
  have kxz_wb := kxz.below hb_wb kxz.lt
  clear hb2_wa hle2_wa hSh_wa kR_wa hEa_wa hvx_wa kxx_wa hvy_wa kxy_wa hvz_wa kxz
  obtain ⟨st, lt, At, ct⟩ := xt
  obtain ⟨pt, bt9⟩ := zt
  simp only [] at hxt hvt hst ⊢
  have HXt := vers.lay hxt
  clear hxt hst
  have bb : Below wb.heap.size wb (wb.alloc (.cells #[.string st, .slice At lt.length ct] 58)) := (Below.refl _ _).alloc (Nat.le_refl _) _
  have kxt := Blk.new wb 58 #[.string st, .slice At lt.length ct]
  obtain ⟨wc, hwc⟩ : ∃ W, W = wb.alloc (.cells #[.string st, .slice At lt.length ct] 58) := ⟨_, rfl⟩
  rw [← hwc] at bb kxt
  have hb2_wc := hb2_wb.trans (bb.mono hb2_wb.size)
  have hle2_wc := hle2_wb.at_world bb
  have hSh_wc := hSh_wb.below bb
  have kR_wc := kR_wb.below bb kR_wb.lt
  have hEa_wc := hEa_wb.at_world bb
  have hvx_wc := (hvx_wb.below bb).more bb.size
  have kxx_wc := kxx_wb.below bb kxx_wb.lt
  have hvy_wc := (hvy_wb.below bb).more bb.size
  have kxy_wc := kxy_wb.below bb kxy_wb.lt
  have hvz_wc := (hvz_wb.below bb).more bb.size
  have kxz_wc := kxz_wb.below bb kxz_wb.lt
  have hvt_wc := (hvt.below bb).more bb.size
  clear bb hb2_wb hle2_wb hSh_wb kR_wb hEa_wb hvx_wb kxx_wb hvy_wb kxy_wb hvz_wb kxz_wb hvt
  have hW_wc := hwc.symm
  clear hwc
  have kRc0 := kR_wc.cell 0
  have kRc1 := kR_wc.cell 1
  have kRc2 := kR_wc.cell 2
  have kRc3 := kR_wc.cell 3
  simp only [List.getElem?_toArray, List.getElem?_cons_zero, List.getElem?_cons_succ] at kRc0 kRc1 kRc2 kRc3
  have kRlt := kR_wc.lt
  have kxxc0 := kxx_wc.cell 0
  have kxxc1 := kxx_wc.cell 1
  simp only [List.getElem?_toArray, List.getElem?_cons_zero, List.getElem?_cons_succ] at kxxc0 kxxc1
  have kxxlt := kxx_wc.lt
  have kxyc0 := kxy_wc.cell 0
  have kxyc1 := kxy_wc.cell 1
  simp only [List.getElem?_toArray, List.getElem?_cons_zero, List.getElem?_cons_succ] at kxyc0 kxyc1
  have kxylt := kxy_wc.lt
  have kxzc0 := kxz_wc.cell 0
  have kxzc1 := kxz_wc.cell 1
  simp only [List.getElem?_toArray, List.getElem?_cons_zero, List.getElem?_cons_succ] at kxzc0 kxzc1
  have kxzlt := kxz_wc.lt
  have kxtc0 := kxt.cell 0
  have kxtc1 := kxt.cell 1
  simp only [List.getElem?_toArray, List.getElem?_cons_zero, List.getElem?_cons_succ] at kxtc0 kxtc1
  have kxtlt := kxt.lt
  have HP : px = py ∧ bx9 = by9 ∧ pz = pt ∧ bz9 = bt9 := by
    have h1 := HZx.out.trans HZy.out.symm
    have h2 := HZz.out.trans HZt.out.symm
    injection h1 with h1 h3
    injection h2 with h2 h4
    exact ⟨h1, h3, h2, h4⟩
  obtain ⟨rfl, rfl, rfl, rfl⟩ := HP
  clear HZx HZy HZz HZt
  have HS1 : sx = sy ∧ lx = ly := by
    have h1 := HXx.out.trans HXy.out.symm
    injection h1 with h1 h2
    exact ⟨h1, h2⟩
  have HS2 : sz = st ∧ lz = lt := by
    have h1 := HXz.out.trans HXt.out.symm
    injection h1 with h1 h2
    exact ⟨h1, h2⟩
  obtain ⟨rfl, rfl⟩ := HS1
  obtain ⟨rfl, rfl⟩ := HS2
  clear HXx HXy HXz HXt
  have hcall := refRange_ok le Av cv ta tb _ hle2_wc (by omega)
  have HFE := vers.lay (filtE_pe (inR ta tb) le)
  have hfl : (le.filter fun x => inR ta tb x.s).length ≤ 50 := Nat.le_trans (List.length_filter_le _ _) hlen
  have hsz := fun x (hx : x ∈ le.filter fun x => inR ta tb x.s) => (hle2_wc).2.2.2.2 x (List.mem_filter.1 hx).1
  obtain ⟨lb, hlb⟩ : ∃ lb, lb = le.filter fun x => inR ta tb x.s := ⟨_, rfl⟩
  rw [← hlb] at hcall HFE hfl hsz
  clear hlb
  go_wp2_with fail
  refine hcall.mono ?_
  rintro e wd ⟨vb, rfl, hb_wd, hrowB, _⟩
  obtain ⟨Ab, cb, rfl, hr1, hr2, hr3⟩ := row_rdF hrowB
  have hEb : Es wd wd.heap.size lb Ab cb := ⟨hr1, by omega, hr2, hr3.rd, fun x hx => ⟨((hsz x hx).1.below hb_wd).more hb_wd.size, (hsz x hx).2⟩⟩
  clear hcall hrowB hr1 hr2 hr3 hsz kxxc0 kxxc1 kxxlt kxyc0 kxyc1 kxylt kxzc0 kxzc1 kxzlt kxtc0 kxtc1 kxtlt kRc0 kRc1 kRc2 kRc3 kRlt
  have hb2_wd := hb2_wc.trans (hb_wd.mono hb2_wc.size)
  have hle2_wd := hle2_wc.at_world hb_wd
  have hSh_wd := hSh_wc.below hb_wd
  have kR_wd := kR_wc.below hb_wd kR_wc.lt
  have hEa_wd := hEa_wc.at_world hb_wd
  have hvx_wd := (hvx_wc.below hb_wd).more hb_wd.size
  have kxx_wd := kxx_wc.below hb_wd kxx_wc.lt
  have hvy_wd := (hvy_wc.below hb_wd).more hb_wd.size
  have kxy_wd := kxy_wc.below hb_wd kxy_wc.lt
  have hvz_wd := (hvz_wc.below hb_wd).more hb_wd.size
  have kxz_wd := kxz_wc.below hb_wd kxz_wc.lt
  have hvt_wd := (hvt_wc.below hb_wd).more hb_wd.size
  have kxt_wd := kxt.below hb_wd kxt.lt
  clear hb2_wc hle2_wc hSh_wc kR_wc hEa_wc hvx_wc kxx_wc hvy_wc kxy_wc hvz_wc kxz_wc hvt_wc kxt
  have kxxc0 := kxx_wd.cell 0
  have kxxc1 := kxx_wd.cell 1
  simp only [List.getElem?_toArray, List.getElem?_cons_zero, List.getElem?_cons_succ] at kxxc0 kxxc1
  have kxxlt := kxx_wd.lt
  have kxyc0 := kxy_wd.cell 0
  have kxyc1 := kxy_wd.cell 1
  simp only [List.getElem?_toArray, List.getElem?_cons_zero, List.getElem?_cons_succ] at kxyc0 kxyc1
  have kxylt := kxy_wd.lt
  have kxzc0 := kxz_wd.cell 0
  have kxzc1 := kxz_wd.cell 1
  simp only [List.getElem?_toArray, List.getElem?_cons_zero, List.getElem?_cons_succ] at kxzc0 kxzc1
  have kxzlt := kxz_wd.lt
  have kxtc0 := kxt_wd.cell 0
  have kxtc1 := kxt_wd.cell 1
  simp only [List.getElem?_toArray, List.getElem?_cons_zero, List.getElem?_cons_succ] at kxtc0 kxtc1
  have kxtlt := kxt_wd.lt
  have hcall := likeAll_any la lb Aa Ab ca cb wd hEa_wd hEb
  rw [decide_eq_true (show la.map pe = lb.map pe by rw [HLA.out, HFE.out])] at hcall
  go_wp2_with fail
  refine hcall.mono ?_
  rintro e we ⟨rfl, hb_we⟩
  clear hcall kxxc0 kxxc1 kxxlt kxyc0 kxyc1 kxylt kxzc0 kxzc1 kxzlt kxtc0 kxtc1 kxtlt
  have hb2_we := hb2_wd.trans (hb_we.mono hb2_wd.size)
  have hle2_we := hle2_wd.at_world hb_we
  have hSh_we := hSh_wd.below hb_we
  have kR_we := kR_wd.below hb_we kR_wd.lt
  have hEa_we := hEa_wd.at_world hb_we
  have hvx_we := (hvx_wd.below hb_we).more hb_we.size
  have kxx_we := kxx_wd.below hb_we kxx_wd.lt
  have hvy_we := (hvy_wd.below hb_we).more hb_we.size
  have kxy_we := kxy_wd.below hb_we kxy_wd.lt
  have hvz_we := (hvz_wd.below hb_we).more hb_we.size
  have kxz_we := kxz_wd.below hb_we kxz_wd.lt
  have hvt_we := (hvt_wd.below hb_we).more hb_we.size
  have kxt_we := kxt_wd.below hb_we kxt_wd.lt
  have hEb_we := hEb.at_world hb_we
  clear hb2_wd hle2_wd hSh_wd kR_wd hEa_wd hvx_wd kxx_wd hvy_wd kxy_wd hvz_wd kxz_wd hvt_wd kxt_wd hEb
  have kxxc0 := kxx_we.cell 0
  have kxxc1 := kxx_we.cell 1
  simp only [List.getElem?_toArray, List.getElem?_cons_zero, List.getElem?_cons_succ] at kxxc0 kxxc1
  have kxxlt := kxx_we.lt
  have kxyc0 := kxy_we.cell 0
  have kxyc1 := kxy_we.cell 1
  simp only [List.getElem?_toArray, List.getElem?_cons_zero, List.getElem?_cons_succ] at kxyc0 kxyc1
  have kxylt := kxy_we.lt
  have kxzc0 := kxz_we.cell 0
  have kxzc1 := kxz_we.cell 1
  simp only [List.getElem?_toArray, List.getElem?_cons_zero, List.getElem?_cons_succ] at kxzc0 kxzc1
  have kxzlt := kxz_we.lt
  have kxtc0 := kxt_we.cell 0
  have kxtc1 := kxt_we.cell 1
  simp only [List.getElem?_toArray, List.getElem?_cons_zero, List.getElem?_cons_succ] at kxtc0 kxtc1
  have kxtlt := kxt_we.lt
  have hcall := like_any sx sx lx lx Ax Ay cx cy _ hvx_we hvy_we
  simp only [decide_true, Bool.and_true] at hcall
  go_wp2_with fail
  refine hcall.mono ?_
  rintro e wf ⟨rfl, hb_wf⟩
  clear hcall kxxc0 kxxc1 kxxlt kxyc0 kxyc1 kxylt kxzc0 kxzc1 kxzlt kxtc0 kxtc1 kxtlt
  have hb2_wf := hb2_we.trans (hb_wf.mono hb2_we.size)
  have hle2_wf := hle2_we.at_world hb_wf
  have hSh_wf := hSh_we.below hb_wf
  have kR_wf := kR_we.below hb_wf kR_we.lt
  have hEa_wf := hEa_we.at_world hb_wf
  have hvx_wf := (hvx_we.below hb_wf).more hb_wf.size
  have kxx_wf := kxx_we.below hb_wf kxx_we.lt
  have hvy_wf := (hvy_we.below hb_wf).more hb_wf.size
  have kxy_wf := kxy_we.below hb_wf kxy_we.lt
  have hvz_wf := (hvz_we.below hb_wf).more hb_wf.size
  have kxz_wf := kxz_we.below hb_wf kxz_we.lt
  have hvt_wf := (hvt_we.below hb_wf).more hb_wf.size
  have kxt_wf := kxt_we.below hb_wf kxt_we.lt
  have hEb_wf := hEb_we.at_world hb_wf
  clear hb2_we hle2_we hSh_we kR_we hEa_we hvx_we kxx_we hvy_we kxy_we hvz_we kxz_we hvt_we kxt_we hEb_we
  have kxxc0 := kxx_wf.cell 0
  have kxxc1 := kxx_wf.cell 1
  simp only [List.getElem?_toArray, List.getElem?_cons_zero, List.getElem?_cons_succ] at kxxc0 kxxc1
  have kxxlt := kxx_wf.lt
  have kxyc0 := kxy_wf.cell 0
  have kxyc1 := kxy_wf.cell 1
  simp only [List.getElem?_toArray, List.getElem?_cons_zero, List.getElem?_cons_succ] at kxyc0 kxyc1
  have kxylt := kxy_wf.lt
  have kxzc0 := kxz_wf.cell 0
  have kxzc1 := kxz_wf.cell 1
  simp only [List.getElem?_toArray, List.getElem?_cons_zero, List.getElem?_cons_succ] at kxzc0 kxzc1
  have kxzlt := kxz_wf.lt
  have kxtc0 := kxt_wf.cell 0
  have kxtc1 := kxt_wf.cell 1
  simp only [List.getElem?_toArray, List.getElem?_cons_zero, List.getElem?_cons_succ] at kxtc0 kxtc1
  have kxtlt := kxt_wf.lt
  have hcall := like_any sz sz lz lz Az At cz ct _ hvz_wf hvt_wf
  simp only [decide_true, Bool.and_true] at hcall
  go_wp2_with fail
  refine hcall.mono ?_
  rintro e wg ⟨rfl, hb_wg⟩
  clear hcall kxxc0 kxxc1 kxxlt kxyc0 kxyc1 kxylt kxzc0 kxzc1 kxzlt kxtc0 kxtc1 kxtlt
  have hb2_wg := hb2_wf.trans (hb_wg.mono hb2_wf.size)
  have hle2_wg := hle2_wf.at_world hb_wg
  have hSh_wg := hSh_wf.below hb_wg
  have kR_wg := kR_wf.below hb_wg kR_wf.lt
  have hEa_wg := hEa_wf.at_world hb_wg
  have hvx_wg := (hvx_wf.below hb_wg).more hb_wg.size
  have kxx_wg := kxx_wf.below hb_wg kxx_wf.lt
  have hvy_wg := (hvy_wf.below hb_wg).more hb_wg.size
  have kxy_wg := kxy_wf.below hb_wg kxy_wf.lt
  have hvz_wg := (hvz_wf.below hb_wg).more hb_wg.size
  have kxz_wg := kxz_wf.below hb_wg kxz_wf.lt
  have hvt_wg := (hvt_wf.below hb_wg).more hb_wg.size
  have kxt_wg := kxt_wf.below hb_wg kxt_wf.lt
  have hEb_wg := hEb_wf.at_world hb_wg
  clear hb2_wf hle2_wf hSh_wf kR_wf hEa_wf hvx_wf kxx_wf hvy_wf kxy_wf hvz_wf kxz_wf hvt_wf kxt_wf hEb_wf
  have kxxc0 := kxx_wg.cell 0
  have kxxc1 := kxx_wg.cell 1
  simp only [List.getElem?_toArray, List.getElem?_cons_zero, List.getElem?_cons_succ] at kxxc0 kxxc1
  have kxxlt := kxx_wg.lt
  have kxyc0 := kxy_wg.cell 0
  have kxyc1 := kxy_wg.cell 1
  simp only [List.getElem?_toArray, List.getElem?_cons_zero, List.getElem?_cons_succ] at kxyc0 kxyc1
  have kxylt := kxy_wg.lt
  have kxzc0 := kxz_wg.cell 0
  have kxzc1 := kxz_wg.cell 1
  simp only [List.getElem?_toArray, List.getElem?_cons_zero, List.getElem?_cons_succ] at kxzc0 kxzc1
  have kxzlt := kxz_wg.lt
  have kxtc0 := kxt_wg.cell 0
  have kxtc1 := kxt_wg.cell 1
  simp only [List.getElem?_toArray, List.getElem?_cons_zero, List.getElem?_cons_succ] at kxtc0 kxtc1
  have kxtlt := kxt_wg.lt
  go_wp2_with fail
  go_ret
  exact ⟨by simp, hb2_wg⟩

end Go.Proofs.Ytchghlbiongccaa.trees
