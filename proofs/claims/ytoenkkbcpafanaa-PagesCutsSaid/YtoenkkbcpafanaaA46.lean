/- PagesCuts. -/
import Derived.Test.YtoenkkbcpafanaaA44
import Derived.Test.YtoenkkbcpafanaaA45
import Derived.Deep.CutBlock
import Derived.Deep.DeepCutAuto


namespace Go.Proofs.Ytoenkkbcpafanaa.pags
set_option linter.unusedVariables false
set_option linter.unusedSimpArgs false
open Go.RowKit Go.Proofs.Ytoenkkbcpafanaa.base Go.Proofs.Ytoenkkbcpafanaa.vers Go.Proofs.Ytoenkkbcpafanaa.nodes Go.Proofs.Ytoenkkbcpafanaa.trees Go.Proofs.Ytoenkkbcpafanaa.quotas Go.Proofs.Ytoenkkbcpafanaa.mediums Go.Proofs.Ytoenkkbcpafanaa.segs Go.Proofs.Ytoenkkbcpafanaa.caches Go.Proofs.Ytoenkkbcpafanaa.dice Go.Lib
theorem Pg.base {B : Nat} {w w0 wr : World} {q : Q7} {x : PL} {v : PV} (h : Pg B w0 wr q x v) (hb : Below w.heap.size w w0) (hB : w.heap.size ≤ B) : Pg w.heap.size w wr q x v :=
  ⟨h.blk, h.dice.mono hB, ⟨h.sg.md, h.sg.pw, h.sg.inL, h.sg.log, h.sg.far, fun k hk => Nat.le_trans hB (h.sg.lo k hk), hb.trans (h.sg.hb.mono hB), Nat.le_refl _, h.sg.len⟩, h.ca, Nat.le_trans hB h.ppB, fun b hb => Nat.le_trans hB (h.zB b hb), h.a1, h.a2, h.a3⟩

set_option maxRecDepth 100000 in
set_option maxHeartbeats 16000000 in
theorem cuts_no (a b c d e f h : Int) (zs : List Int) (A : Option Addr) (cz : Nat) (l : List N) (A2 : Option Addr) (c2 : Nat) (n : Int) (w : World) (hz : Ds w w.heap.size zs A cz) (hl : Ns w w.heap.size l A2 c2) (hk : ¬ ok a b c d e f h) :
    Calls Try.prog 9 #[.agg #[.int .i64 a, .int .i64 b, .int .i64 c, .int .i64 d, .int .i64 e, .int .i64 f, .int .i64 h], .slice A zs.length cz, .slice A2 l.length c2, .int .i64 n] w fun x w' => x = .returned (.bool true) ∧ Below w.heap.size w w' := by
  clear hl
  have HDs := vers.lay (hz.take 40)
  have hcut := fun wx (hb : Below w.heap.size w wx) => cut_any zs A cz 40 (by omega) wx (hz.at_world hb)
  rw [show ((40 : Nat) : Int) = 40 from rfl] at hcut
  have hlz : (zs.take 40).length ≤ 40 := by rw [List.length_take]; omega
  generalize zs.take 40 = ZS at *
  have HZL := vers.lay hlz
  clear hlz
  have hcut0 := hcut
  have b0 : Below w.heap.size w (w.alloc (.cells #[.int .i64 a, .int .i64 b, .int .i64 c, .int .i64 d, .int .i64 e, .int .i64 f, .int .i64 h] 113)) := (Below.refl _ _).alloc (Nat.le_refl _) _
  have k0 := Blk.new w 113 #[.int .i64 a, .int .i64 b, .int .i64 c, .int .i64 d, .int .i64 e, .int .i64 f, .int .i64 h]
  go_enter Try.func9, Try.ntmps9
  go_upto_region 1 with (fail)
  generalize w.alloc (.cells #[.int .i64 a, .int .i64 b, .int .i64 c, .int .i64 d, .int .i64 e, .int .i64 f, .int .i64 h] 113) = W0 at b0 k0 ⊢
  obtain ⟨qb, hqb⟩ : ∃ qb, w.heap.size = qb := ⟨_, rfl⟩
  rw [hqb] at k0 ⊢
  have HQB := vers.lay hqb
  clear hqb
  have hql := k0.lt
  have HK0 := vers.lay k0
  have HB0 := vers.lay b0
  obtain ⟨g0, g1, g2, g3, g4, g5, g6⟩ : W0.cell? ⟨qb, 0, none⟩ = _ ∧ W0.cell? ⟨qb, 1, none⟩ = _ ∧ W0.cell? ⟨qb, 2, none⟩ = _ ∧ W0.cell? ⟨qb, 3, none⟩ = _ ∧ W0.cell? ⟨qb, 4, none⟩ = _ ∧ W0.cell? ⟨qb, 5, none⟩ = _ ∧ W0.cell? ⟨qb, 6, none⟩ = _ := ⟨k0.cell 0, k0.cell 1, k0.cell 2, k0.cell 3, k0.cell 4, k0.cell 5, k0.cell 6⟩
  simp only [List.getElem?_toArray, List.getElem?_cons_zero, List.getElem?_cons_succ] at g0 g1 g2 g3 g4 g5 g6
  have hcut := fun wx (hb : Below W0.heap.size W0 wx) => hcut0 wx (HB0.out.trans (hb.mono HB0.out.size))
  clear k0 b0 hz
  have hmade := fun wx (hb : Below W0.heap.size W0 wx) => made_no a b c d e f h 12 (by omega) ZS A cz wx (by have hbb := HB0.out.trans (hb.mono HB0.out.size); exact ⟨(HDs.out.1.below hbb).more hbb.size, HDs.out.2⟩) (by have := HZL.out; omega) hk
  rw [show ((12 : Nat) : Int) = 12 from rfl] at hmade
  have hS0 : Below W0.heap.size W0 W0.drew := (Below.refl _ _).drew
  refine mix.region_D (fun w' => Below W0.heap.size W0 w') (fun _ => false) (by kernel_rfl) ?_
  generalize W0.drew = Wd at *
  refine mix.D_takeT (i := 0) (v := ?_) rfl (by kernel_rfl) (by kernel_rfl) (fun _ _ _ h => h) (Or.inl ⟨by first | rfl | simp [Region.wanted, yielded], ?_⟩) hS0 ?_
  rotate_left
  · intro w' hSw
    have z0 := (hSw.cell (p := ⟨qb, 0, none⟩) hql).trans g0
    have z1 := (hSw.cell (p := ⟨qb, 1, none⟩) hql).trans g1
    have z2 := (hSw.cell (p := ⟨qb, 2, none⟩) hql).trans g2
    have z3 := (hSw.cell (p := ⟨qb, 3, none⟩) hql).trans g3
    have z4 := (hSw.cell (p := ⟨qb, 4, none⟩) hql).trans g4
    have z5 := (hSw.cell (p := ⟨qb, 5, none⟩) hql).trans g5
    have z6 := (hSw.cell (p := ⟨qb, 6, none⟩) hql).trans g6
    try simp only [List.getElem_toArray, List.getElem_cons_zero, List.getElem_cons_succ]
    go_simp
    exact rfl
  try simp only [Act.put, List.setIfInBounds_toArray, List.set_cons_zero, List.set_cons_succ, List.getElem_toArray, List.getElem_cons_zero, List.getElem_cons_succ]
  refine mix.D_takeT (i := 1) (v := ?_) rfl (by kernel_rfl) (by kernel_rfl) (fun _ _ _ h => h) (Or.inl ⟨by first | rfl | simp [Region.wanted, yielded], ?_⟩) hS0 ?_
  rotate_left
  · intro w' hSw
    have z0 := (hSw.cell (p := ⟨qb, 0, none⟩) hql).trans g0
    have z1 := (hSw.cell (p := ⟨qb, 1, none⟩) hql).trans g1
    have z2 := (hSw.cell (p := ⟨qb, 2, none⟩) hql).trans g2
    have z3 := (hSw.cell (p := ⟨qb, 3, none⟩) hql).trans g3
    have z4 := (hSw.cell (p := ⟨qb, 4, none⟩) hql).trans g4
    have z5 := (hSw.cell (p := ⟨qb, 5, none⟩) hql).trans g5
    have z6 := (hSw.cell (p := ⟨qb, 6, none⟩) hql).trans g6
    try simp only [List.getElem_toArray, List.getElem_cons_zero, List.getElem_cons_succ]
    go_simp
    exact rfl
  try simp only [Act.put, List.setIfInBounds_toArray, List.set_cons_zero, List.set_cons_succ, List.getElem_toArray, List.getElem_cons_zero, List.getElem_cons_succ]
  refine mix.D_op (k := 2) rfl rfl (by kernel_rfl) (fun K' hK => ?_)
  simp only [List.getElem_toArray, List.getElem_cons_zero, List.getElem_cons_succ]
  go_wp2_with fail
  refine (hcut Wd hS0).mono ?_
  rintro x w2 ⟨rfl, rfl⟩
  refine hK.out _ _ (fun _ => hS0) ?_
  clear hK K'
  try simp only [Act.put, List.setIfInBounds_toArray, List.set_cons_zero, List.set_cons_succ]
  refine mix.D_op (k := 3) rfl rfl (by kernel_rfl) (fun K' hK => ?_)
  simp only [List.getElem_toArray, List.getElem_cons_zero, List.getElem_cons_succ]
  go_wp2_with fail
  refine (hmade _ hS0).mono ?_
  rintro x w3 ⟨rfl, hb3⟩
  have hs3 : Below W0.heap.size W0 w3 := hS0.trans (hb3.mono hS0.size)
  refine hK.out _ _ (fun _ => hs3) ?_
  clear hK K'
  try simp only [Act.put, List.setIfInBounds_toArray, List.set_cons_zero, List.set_cons_succ]
  refine mix.D_takeT (i := 4) (v := ?_) rfl (by kernel_rfl) (by kernel_rfl) (fun _ _ _ h => h) (Or.inl ⟨by first | rfl | simp [Region.wanted, yielded], ?_⟩) hs3 ?_
  rotate_left
  · intro w' hSw
    have z0 := (hSw.cell (p := ⟨qb, 0, none⟩) hql).trans g0
    have z1 := (hSw.cell (p := ⟨qb, 1, none⟩) hql).trans g1
    have z2 := (hSw.cell (p := ⟨qb, 2, none⟩) hql).trans g2
    have z3 := (hSw.cell (p := ⟨qb, 3, none⟩) hql).trans g3
    have z4 := (hSw.cell (p := ⟨qb, 4, none⟩) hql).trans g4
    have z5 := (hSw.cell (p := ⟨qb, 5, none⟩) hql).trans g5
    have z6 := (hSw.cell (p := ⟨qb, 6, none⟩) hql).trans g6
    try simp only [List.getElem_toArray, List.getElem_cons_zero, List.getElem_cons_succ]
    go_simp
    exact rfl
  try simp only [Act.put, List.setIfInBounds_toArray, List.set_cons_zero, List.set_cons_succ, List.getElem_toArray, List.getElem_cons_zero, List.getElem_cons_succ]
  refine mix.D_done (by kernel_rfl) ?_ _
  try simp only [Act.put, List.setIfInBounds_toArray, List.set_cons_zero, List.set_cons_succ, List.getElem_toArray, List.getElem_cons_zero, List.getElem_cons_succ]
  have hRR := fun wx => refRight_no a b c d e f h wx hk
  have y0 := (hs3.cell (p := ⟨qb, 0, none⟩) hql).trans g0
  have y1 := (hs3.cell (p := ⟨qb, 1, none⟩) hql).trans g1
  have y2 := (hs3.cell (p := ⟨qb, 2, none⟩) hql).trans g2
  have y3 := (hs3.cell (p := ⟨qb, 3, none⟩) hql).trans g3
  have y4 := (hs3.cell (p := ⟨qb, 4, none⟩) hql).trans g4
  have y5 := (hs3.cell (p := ⟨qb, 5, none⟩) hql).trans g5
  have y6 := (hs3.cell (p := ⟨qb, 6, none⟩) hql).trans g6
  clear g0 g1 g2 g3 g4 g5 g6 hmade hcut hcut0
  go_wp2_with (go_at_call 58; refine (hRR w3).mono ?_; rintro x w4 ⟨rfl, hb4⟩)
  go_ret
  exact ⟨rfl, HB0.out.trans ((hs3.trans (hb4.mono hs3.size)).mono HB0.out.size)⟩

set_option maxRecDepth 100000 in
set_option maxHeartbeats 16000000 in
theorem cuts_ok (a b c d e f h : Int) (zs : List Int) (A : Option Addr) (cz : Nat) (l : List N) (A2 : Option Addr) (c2 : Nat) (n : Int) (w : World) (hz : Ds w w.heap.size zs A cz) (hl : Ns w w.heap.size l A2 c2) (hk : ok a b c d e f h) :
    Calls Try.prog 9 #[.agg #[.int .i64 a, .int .i64 b, .int .i64 c, .int .i64 d, .int .i64 e, .int .i64 f, .int .i64 h], .slice A zs.length cz, .slice A2 l.length c2, .int .i64 n] w fun x w' => x = .returned (.bool true) ∧ Below w.heap.size w w' := by
  have HDs := vers.lay (hz.take 40)
  have hcut := fun wx (hb : Below w.heap.size w wx) => cut_any zs A cz 40 (by omega) wx (hz.at_world hb)
  rw [show ((40 : Nat) : Int) = 40 from rfl] at hcut
  have hlz : (zs.take 40).length ≤ 40 := by rw [List.length_take]; omega
  generalize zs.take 40 = ZS at *
  have HZL := vers.lay hlz
  clear hlz
  have hcut0 := hcut
  have b0 : Below w.heap.size w (w.alloc (.cells #[.int .i64 a, .int .i64 b, .int .i64 c, .int .i64 d, .int .i64 e, .int .i64 f, .int .i64 h] 113)) := (Below.refl _ _).alloc (Nat.le_refl _) _
  have k0 := Blk.new w 113 #[.int .i64 a, .int .i64 b, .int .i64 c, .int .i64 d, .int .i64 e, .int .i64 f, .int .i64 h]
  go_enter Try.func9, Try.ntmps9
  go_upto_region 1 with (fail)
  generalize w.alloc (.cells #[.int .i64 a, .int .i64 b, .int .i64 c, .int .i64 d, .int .i64 e, .int .i64 f, .int .i64 h] 113) = W0 at b0 k0 ⊢
  obtain ⟨qb, hqb⟩ : ∃ qb, w.heap.size = qb := ⟨_, rfl⟩
  rw [hqb] at k0 ⊢
  have HQB := vers.lay hqb
  clear hqb
  have hql := k0.lt
  have HK0 := vers.lay k0
  have HB0 := vers.lay b0
  obtain ⟨g0, g1, g2, g3, g4, g5, g6⟩ : W0.cell? ⟨qb, 0, none⟩ = _ ∧ W0.cell? ⟨qb, 1, none⟩ = _ ∧ W0.cell? ⟨qb, 2, none⟩ = _ ∧ W0.cell? ⟨qb, 3, none⟩ = _ ∧ W0.cell? ⟨qb, 4, none⟩ = _ ∧ W0.cell? ⟨qb, 5, none⟩ = _ ∧ W0.cell? ⟨qb, 6, none⟩ = _ := ⟨k0.cell 0, k0.cell 1, k0.cell 2, k0.cell 3, k0.cell 4, k0.cell 5, k0.cell 6⟩
  simp only [List.getElem?_toArray, List.getElem?_cons_zero, List.getElem?_cons_succ] at g0 g1 g2 g3 g4 g5 g6
  have hcut := fun wx (hb : Below W0.heap.size W0 wx) => hcut0 wx (HB0.out.trans (hb.mono HB0.out.size))
  clear k0 b0 hz
  have hmade := fun wx (hb : Below W0.heap.size W0 wx) => made_ok a b c d e f h 12 (by omega) ZS A cz wx (by have hbb := HB0.out.trans (hb.mono HB0.out.size); exact ⟨(HDs.out.1.below hbb).more hbb.size, HDs.out.2⟩) (by have := HZL.out; omega) hk
  rw [show ((12 : Nat) : Int) = 12 from rfl] at hmade
  obtain ⟨ps, hps⟩ := Int.eq_ofNat_of_zero_le (show 0 ≤ pg b c d e by have := pg_in2 hk.2.1 hk.2.2.1 hk.2.2.2.1 hk.2.2.2.2.1; omega)
  have hpin := pg_in2 hk.2.1 hk.2.2.1 hk.2.2.2.1 hk.2.2.2.2.1
  have HPS := vers.lay (show (ps : Int) = pg b c d e from hps.symm)
  have hps5 : ps ≤ 5000 := by omega
  rw [show (pg b c d e).toNat = ps by omega] at hmade
  clear hps hpin
  have hS0 : Below W0.heap.size W0 W0.drew := (Below.refl _ _).drew
  refine mix.region_D (fun w' => Below W0.heap.size W0 w') (fun _ => false) (by kernel_rfl) ?_
  generalize W0.drew = Wd at *
  refine mix.D_takeT (i := 0) (v := ?_) rfl (by kernel_rfl) (by kernel_rfl) (fun _ _ _ h => h) (Or.inl ⟨by first | rfl | simp [Region.wanted, yielded], ?_⟩) hS0 ?_
  rotate_left
  · intro w' hSw
    have z0 := (hSw.cell (p := ⟨qb, 0, none⟩) hql).trans g0
    have z1 := (hSw.cell (p := ⟨qb, 1, none⟩) hql).trans g1
    have z2 := (hSw.cell (p := ⟨qb, 2, none⟩) hql).trans g2
    have z3 := (hSw.cell (p := ⟨qb, 3, none⟩) hql).trans g3
    have z4 := (hSw.cell (p := ⟨qb, 4, none⟩) hql).trans g4
    have z5 := (hSw.cell (p := ⟨qb, 5, none⟩) hql).trans g5
    have z6 := (hSw.cell (p := ⟨qb, 6, none⟩) hql).trans g6
    try simp only [List.getElem_toArray, List.getElem_cons_zero, List.getElem_cons_succ]
    go_simp
    exact rfl
  try simp only [Act.put, List.setIfInBounds_toArray, List.set_cons_zero, List.set_cons_succ, List.getElem_toArray, List.getElem_cons_zero, List.getElem_cons_succ]
  refine mix.D_takeT (i := 1) (v := ?_) rfl (by kernel_rfl) (by kernel_rfl) (fun _ _ _ h => h) (Or.inl ⟨by first | rfl | simp [Region.wanted, yielded], ?_⟩) hS0 ?_
  rotate_left
  · intro w' hSw
    have z0 := (hSw.cell (p := ⟨qb, 0, none⟩) hql).trans g0
    have z1 := (hSw.cell (p := ⟨qb, 1, none⟩) hql).trans g1
    have z2 := (hSw.cell (p := ⟨qb, 2, none⟩) hql).trans g2
    have z3 := (hSw.cell (p := ⟨qb, 3, none⟩) hql).trans g3
    have z4 := (hSw.cell (p := ⟨qb, 4, none⟩) hql).trans g4
    have z5 := (hSw.cell (p := ⟨qb, 5, none⟩) hql).trans g5
    have z6 := (hSw.cell (p := ⟨qb, 6, none⟩) hql).trans g6
    try simp only [List.getElem_toArray, List.getElem_cons_zero, List.getElem_cons_succ]
    go_simp
    exact rfl
  try simp only [Act.put, List.setIfInBounds_toArray, List.set_cons_zero, List.set_cons_succ, List.getElem_toArray, List.getElem_cons_zero, List.getElem_cons_succ]
  refine mix.D_op (k := 2) rfl rfl (by kernel_rfl) (fun K' hK => ?_)
  simp only [List.getElem_toArray, List.getElem_cons_zero, List.getElem_cons_succ]
  go_wp2_with fail
  refine (hcut Wd hS0).mono ?_
  rintro x w2 ⟨rfl, rfl⟩
  refine hK.out _ _ (fun _ => hS0) ?_
  clear hK K'
  try simp only [Act.put, List.setIfInBounds_toArray, List.set_cons_zero, List.set_cons_succ]
  refine mix.D_op (k := 3) rfl rfl (by kernel_rfl) (fun K' hK => ?_)
  simp only [List.getElem_toArray, List.getElem_cons_zero, List.getElem_cons_succ]
  go_wp2_with fail
  refine (hmade _ hS0).mono ?_
  rintro x w3 ⟨y, rfl, hP3⟩
  have hb3 := hP3.hb
  have hs3 : Below W0.heap.size W0 w3 := hS0.trans (hb3.mono hS0.size)
  refine hK.out _ _ (fun _ => hs3) ?_
  clear hK K'
  try simp only [Act.put, List.setIfInBounds_toArray, List.set_cons_zero, List.set_cons_succ]
  refine mix.D_takeT (i := 4) (v := ?_) rfl (by kernel_rfl) (by kernel_rfl) (fun _ _ _ h => h) (Or.inl ⟨by first | rfl | simp [Region.wanted, yielded], ?_⟩) hs3 ?_
  rotate_left
  · intro w' hSw
    have z0 := (hSw.cell (p := ⟨qb, 0, none⟩) hql).trans g0
    have z1 := (hSw.cell (p := ⟨qb, 1, none⟩) hql).trans g1
    have z2 := (hSw.cell (p := ⟨qb, 2, none⟩) hql).trans g2
    have z3 := (hSw.cell (p := ⟨qb, 3, none⟩) hql).trans g3
    have z4 := (hSw.cell (p := ⟨qb, 4, none⟩) hql).trans g4
    have z5 := (hSw.cell (p := ⟨qb, 5, none⟩) hql).trans g5
    have z6 := (hSw.cell (p := ⟨qb, 6, none⟩) hql).trans g6
    try simp only [List.getElem_toArray, List.getElem_cons_zero, List.getElem_cons_succ]
    go_simp
    exact rfl
  try simp only [Act.put, List.setIfInBounds_toArray, List.set_cons_zero, List.set_cons_succ, List.getElem_toArray, List.getElem_cons_zero, List.getElem_cons_succ]
  refine mix.D_done (by kernel_rfl) ?_ _
  try simp only [Act.put, List.setIfInBounds_toArray, List.set_cons_zero, List.set_cons_succ, List.getElem_toArray, List.getElem_cons_zero, List.getElem_cons_succ]
  have hPg := hP3.base (w := w) (HB0.out.trans (hS0.mono HB0.out.size)) (by have := HB0.out.size; have := hS0.size; omega)
  have hqT : ¬ y.T qb := fun ee => by have := hP3.tB qb ee; have := hS0.size; omega
  have kq3 := HK0.out.below hs3 HK0.out.lt
  have hRR := fun wx => refRight_ok a b c d e f h wx hk
  have y0 := (hs3.cell (p := ⟨qb, 0, none⟩) hql).trans g0
  have y1 := (hs3.cell (p := ⟨qb, 1, none⟩) hql).trans g1
  have y2 := (hs3.cell (p := ⟨qb, 2, none⟩) hql).trans g2
  have y3 := (hs3.cell (p := ⟨qb, 3, none⟩) hql).trans g3
  have y4 := (hs3.cell (p := ⟨qb, 4, none⟩) hql).trans g4
  have y5 := (hs3.cell (p := ⟨qb, 5, none⟩) hql).trans g5
  have y6 := (hs3.cell (p := ⟨qb, 6, none⟩) hql).trans g6
  have HPG := vers.lay hPg
  have HQT := vers.lay hqT
  have HKQ := vers.lay kq3
  clear g0 g1 g2 g3 g4 g5 g6 hmade hcut hP3 hPg hqT kq3 hql hs3 hb3 hS0
  go_upto_region 6 with (go_at_call 58; refine (hRR w3).mono ?_; rintro x w4 ⟨rfl, hb4⟩)
  have HPG4 := vers.lay (HPG.out.below hb4)
  have HKQ4 := vers.lay (HKQ.out.below hb4 HKQ.out.lt)
  clear y0 y1 y2 y3 y4 y5 y6 hRR hb4
  go_cut [32] from 27 to 31 (fun x wx => ∃ bb : Bool, x = .bool bb ∧ Hid (bb = false → 0 ≤ n ∧ n ≤ 30) ∧ w4 = wx)
  case first =>
    by_cases h1 : n < 0
    · have d1 : decide (n < 0) = true := decide_eq_true h1
      clear h1
      go_wp2_with fail
      go_meet
      exact ⟨true, rfl, vers.lay (fun h => by cases h), rfl⟩
    · have d1 : decide (n < 0) = false := decide_eq_false h1
      by_cases h2 : 30 < n
      · have d2 : decide (30 < n) = true := decide_eq_true h2
        clear h1 h2
        go_wp2_with fail
        go_meet
        exact ⟨true, rfl, vers.lay (fun h => by cases h), rfl⟩
      · have d2 : decide (30 < n) = false := decide_eq_false h2
        have HB := vers.lay (And.intro h1 h2)
        clear h1 h2
        go_wp2_with fail
        go_meet
        exact ⟨false, rfl, vers.lay (fun _ => by have := HB.out; omega), rfl⟩
  case rest =>
  obtain ⟨bb, rfl, HB, rfl⟩ := hcut
  go_upto_if 32 with (fail)
  go_cut [3] from 27 to 32 (fun x wx => ∃ m : Nat, m ≤ 30 ∧ x = .int .i64 (m : Int) ∧ w4 = wx)
  case first =>
    cases bb with
    | true =>
      go_wp2_with fail
      go_meet
      exact ⟨3, by omega, rfl, rfl⟩
    | false =>
      obtain ⟨m, rfl⟩ := Int.eq_ofNat_of_zero_le (show 0 ≤ n by have := HB.out rfl; omega)
      go_wp2_with fail
      go_meet
      exact ⟨m, by have := HB.out (by trivial); omega, rfl, rfl⟩
  case rest =>
  clear HB
  obtain ⟨nn, hnn, rfl, rfl⟩ := hcut
  have y0 := HPG4.out.blk.cell 0
  have y1 := HPG4.out.sg.log.head.cell 0
  obtain ⟨sb9, vs9, vp9, hM9⟩ := HPG4.out.sg.md
  have y2 := hM9.head.cell 0
  simp only [List.getElem?_toArray, List.getElem?_cons_zero, List.getElem?_cons_succ] at y0 y1 y2
  have hct := powers.cut_ok (nn : Int) HPG4.out.sg.pw HPG4.out.sg.inL
  simp only at hct
  rw [show powers.cutL (-1) (nn : Int) = (nn : Int) by unfold powers.cutL; rw [if_neg (by decide)]; omega] at hct
  clear hM9
  go_upto_region 9 with (go_at_call 64; refine hct.mono ?_; rintro x w5 ⟨rfl, hbP, hsP⟩)
  have hcc := HPG4.out.cut (L' := (nn : Int)) hbP ⟨by omega, by omega⟩ hsP
  have H5 := vers.lay (show CI w w5 ⟨a, b, c, d, e, f, h⟩ qb y ps nn 0 ZS y.S y.Z ⟨ZS, 0, newM 12 (4 * ps), newL 12, (nn : Int), 0, h.toNat, 0, 0, []⟩ from ⟨hcc.1, hcc.2.blk HKQ4.out HQT.out, HQT.out, CP.start ps nn ZS h.toNat (by omega)⟩)
  clear hct hcc hbP hsP y0 y1 y2
  have hlen : l.length ≤ 140737488355328 := by have := hl.2.1; omega
  go_wp2_with fail
  go_loopw [10, 11, 47] (fun s10 s11 i wx => ∃ (j t : Nat) (S Z : Nat → Prop) (v : PV), i = .int .i64 (j : Int) ∧ s10 = .int .i64 ((min t nn : Nat) : Int) ∧ s11 = .int .i64 (t : Int) ∧ j ≤ l.length ∧ t ≤ j ∧ j ≤ 20 ∧ Hid (CI w wx ⟨a, b, c, d, e, f, h⟩ qb y ps nn t ZS S Z v)) (fun _ _ i _ => l.length - (RowKit.intOf i).toNat)
  case atStart => exact ⟨0, 0, _, _, _, rfl, (by rw [show min 0 nn = 0 by omega]; rfl), rfl, Nat.zero_le _, Nat.le_refl _, by omega, H5⟩
  case round =>
    as_aux_lemma =>
    clear H5 HPG HPG4 HKQ HKQ4
    obtain ⟨j, t, S, Z, v, rfl, rfl, rfl, hj, htj, hj20, HR⟩ := hrel
    by_cases hlt : j < l.length
    · by_cases h20 : j < 20
      · obtain ⟨b9, off, rfl, hb9, x0, x1, x2⟩ := (hl.below HR.out.pg.hb).at_ hlt
        have hNj := hl.2.2.2.2 _ (List.getElem_mem hlt)
        generalize l[j] = yy at x0 x1 x2 hNj
        obtain ⟨lf, es, ks, nA, nc, nQ, nm⟩ := yy
        simp only at x0 x1 x2 hNj
        have HN0 := vers.lay hNj
        have n1' : j + 1 ≤ l.length := hlt
        have hbl : b9 < wr.heap.size := Nat.lt_of_lt_of_le hb9 HR.out.pg.hb.size
        have d1 : decide ((j : Int) < (l.length : Int)) = true := decide_eq_true (by omega)
        have d2 : decide (j < l.length) = true := decide_eq_true hlt
        have d3 : decide ((20 : Int) ≤ (j : Int)) = false := decide_eq_false (by omega)
        have ej : IntKind.i64.wrap ((j : Int) + 1) = (j : Int) + 1 := IntWalk.i64_in _ (by omega)
        have et : IntKind.i64.wrap ((t : Int) + 1) = (t : Int) + 1 := IntWalk.i64_in _ (by omega)
        have em : IntKind.i64.wrap (((min t nn : Nat) : Int) + 1) = ((min t nn : Nat) : Int) + 1 := IntWalk.i64_in _ (by omega)
        have ed : IntKind.i64.wrap ((t : Int) + 1 - 1) = (t : Int) := by rw [show (t : Int) + 1 - 1 = (t : Int) by omega]; exact IntWalk.i64_in _ (by omega)
        have HMM := vers.lay (show ((min t nn : Nat) : Int) = ((min t nn : Nat) : Int) from rfl)
        have HEJ := vers.lay (And.intro hj (And.intro htj hj20))
        obtain ⟨mm, hmm⟩ : ∃ mm, min t nn = mm := ⟨_, rfl⟩
        have HM := vers.lay hmm
        rw [hmm] at em ⊢
        clear hmm hNj hlt hj hb9
        have bN : Below wr.heap.size wr (wr.alloc (.cells #[.bool lf, .slice nA es.length nc, .slice nQ ks.length nm] 87)) := (Below.refl _ _).alloc (Nat.le_refl _) _
        have kN := Blk.new wr 87 #[.bool lf, .slice nA es.length nc, .slice nQ ks.length nm]
        go_upto_region 14 with (fail)
        have H1 := vers.lay (HR.out.below bN)
        generalize wr.alloc (.cells #[.bool lf, .slice nA es.length nc, .slice nQ ks.length nm] 87) = W1 at bN kN H1 ⊢
        obtain ⟨nb, hnb⟩ : ∃ nb, wr.heap.size = nb := ⟨_, rfl⟩
        have hnT : ¬ PL.T { y with S := S, Z := Z } nb := fun e => by have := HR.out.pg.tlt nb e; omega
        rw [hnb] at kN ⊢
        have HNT := vers.lay hnT
        have HKN := vers.lay kN
        obtain ⟨n0, n1, n2⟩ : _ ∧ _ ∧ _ := And.intro (kN.cell 0) (And.intro (kN.cell 1) (kN.cell 2))
        simp only [List.getElem?_toArray, List.getElem?_cons_zero, List.getElem?_cons_succ] at n0 n1 n2
        have hw := write_ok w.heap.size w W1 ⟨a, b, c, d, e, f, h⟩ { y with S := S, Z := Z } v H1.out.pg (by rw [H1.out.cp.zs]; exact HDs.out.2.2.2) (by rw [H1.out.cp.k]; omega) (by rw [H1.out.cp.past]; omega) (by rw [H1.out.cp.size]; omega) lf es ks nA nc nQ nm (fun b => b < w.heap.size) ⟨EsF.of (HN0.out.1.below H1.out.pg.hb), KsF.of (HN0.out.2.below H1.out.pg.hb)⟩ (fun b hb => ⟨Nat.lt_of_lt_of_le hb H1.out.pg.hb.size, fun e => by have := H1.out.pg.tB b e; omega⟩)
        simp only at hw
        clear x0 x1 x2 bN kN hnb hnT hbl
        go_upto_region 15 with (go_at_call 65; refine hw.mono ?_; intro e w2 hp2; obtain ⟨nE, ⟨rk, rg, ro, rn⟩, S2, Z2, v2, rfl, hP2, hK2, hS2, hZ2, hW2⟩ := hp2)
        have kN2 := hK2.blk HKN.out HNT.out
        have hcp := H1.out.cp.next (by omega) HPS.out H1.out.pg.sg.log.ok HDs.out.2.2.2 (fun x hx => HN0.out.2.2.2.2.2 x hx) hW2
        have bR : Below w2.heap.size w2 (w2.alloc (.cells #[.int .u64 (rk : Int), .int .i64 rg, .int .i64 ro, .int .i64 rn] 27)) := (Below.refl _ _).alloc (Nat.le_refl _) _
        have kR := Blk.new w2 27 #[.int .u64 (rk : Int), .int .i64 rg, .int .i64 ro, .int .i64 rn]
        have kN3 := kN2.below bR kN2.lt
        have HST := vers.lay (And.intro hP2 (And.intro hK2 (And.intro hS2 hZ2)))
        generalize w2.alloc (.cells #[.int .u64 (rk : Int), .int .i64 rg, .int .i64 ro, .int .i64 rn] 27) = W3 at bR kR kN3 ⊢
        obtain ⟨rb, hrb⟩ : ∃ rb, w2.heap.size = rb := ⟨_, rfl⟩
        rw [hrb] at kR ⊢
        have HBR := vers.lay bR
        have HKR := vers.lay kR
        have HKN3 := vers.lay kN3
        clear hw hP2 hK2 hS2 hZ2 hW2 kN2 hrb bR kN3 kR n0 n1 n2
        have hRN := fun wx (hb : Below w.heap.size w wx) => refNode_any a b c d e f h lf es ks nA nc nQ nm wx ((HN0.out.1.below hb).more hb.size) ((HN0.out.2.below hb).more hb.size)
        rw [show ndbad a b c d e f h lf es ks = pgE ⟨a, b, c, d, e, f, h⟩ lf es ks from rfl] at hRN
        rcases hcp with ⟨hE, hnE, hC⟩ | ⟨hE, htn, hnE, hrk, hC⟩ | ⟨hE, htn, hnE, hr, hC⟩
        · have H3 := vers.lay ((H1.out.step HST.out.1 HST.out.2.1 HST.out.2.2.1 HST.out.2.2.2 hC).below HBR.out)
          obtain ⟨ee, hee⟩ : ∃ ee, pgE ⟨a, b, c, d, e, f, h⟩ lf es ks = ee := ⟨_, rfl⟩
          rw [hee] at hE hnE hRN
          subst hnE
          have q1 : (nE == 0) = false := by simp [hE]
          have q2 : decide (nE = 0) = false := decide_eq_false hE
          clear hC hee
          obtain ⟨hql, g0, g1, g2, g3, g4, g5, g6⟩ := H3.out.cells
          simp only at g0 g1 g2 g3 g4 g5 g6
          obtain ⟨n0, n1, n2⟩ : _ ∧ _ ∧ _ := And.intro (HKN3.out.cell 0) (And.intro (HKN3.out.cell 1) (HKN3.out.cell 2))
          simp only [List.getElem?_toArray, List.getElem?_cons_zero, List.getElem?_cons_succ] at n0 n1 n2
          have hR1 := hRN W3 H3.out.pg.hb
          go_upto_region 16 with (go_at_call 66; refine hR1.mono ?_; rintro e w4 ⟨rfl, hb4⟩)
          have H4 := vers.lay (H3.out.below hb4)
          have kN4 := HKN3.out.below hb4 HKN3.out.lt
          clear n0 n1 n2 hR1
          clear hql g0 g1 g2 g3 g4 g5 g6
          obtain ⟨hql, g0, g1, g2, g3, g4, g5, g6⟩ := H4.out.cells
          simp only at g0 g1 g2 g3 g4 g5 g6
          obtain ⟨n0, n1, n2⟩ : _ ∧ _ ∧ _ := And.intro (kN4.cell 0) (And.intro (kN4.cell 1) (kN4.cell 2))
          simp only [List.getElem?_toArray, List.getElem?_cons_zero, List.getElem?_cons_succ] at n0 n1 n2
          have hR2 := hRN w4 H4.out.pg.hb
          clear kN4 hb4
          go_wp2_with (go_at_call 66; refine hR2.mono ?_; rintro e w5 ⟨rfl, hb5⟩)
          have H5 := vers.lay (H4.out.below hb5)
          go_roundw
          case rel => exact ⟨j + 1, t, _, _, _, by go_num, by rw [HM.out], rfl, n1', by omega, by omega, H5⟩
          case measure => first | (simp [RowKit.intOf]; done) | (simp [RowKit.intOf]; omega) | omega
        · have H3 := vers.lay ((H1.out.step HST.out.1 HST.out.2.1 HST.out.2.2.1 HST.out.2.2.2 hC).below HBR.out)
          subst hnE
          rw [hE] at hRN
          have hmt : mm = t := by have := HM.out; omega
          have p1 : decide ((t : Int) + 1 ≤ (nn : Int)) = true := decide_eq_true (by omega)
          have p2 : decide (t + 1 ≤ nn) = true := decide_eq_true (by omega)
          clear hC hE
          obtain ⟨hql, g0, g1, g2, g3, g4, g5, g6⟩ := H3.out.cells
          simp only at g0 g1 g2 g3 g4 g5 g6
          obtain ⟨n0, n1, n2⟩ : _ ∧ _ ∧ _ := And.intro (HKN3.out.cell 0) (And.intro (HKN3.out.cell 1) (HKN3.out.cell 2))
          simp only [List.getElem?_toArray, List.getElem?_cons_zero, List.getElem?_cons_succ] at n0 n1 n2
          have hR1 := hRN W3 H3.out.pg.hb
          go_upto_region 21 with (go_at_call 66; refine hR1.mono ?_; rintro e w4 ⟨rfl, hb4⟩)
          have H4 := vers.lay (H3.out.below hb4)
          have kR4 := HKR.out.below hb4 HKR.out.lt
          have r0 := kR4.cell 0
          have hrl := kR4.lt
          simp only [List.getElem?_toArray, List.getElem?_cons_zero, List.getElem?_cons_succ] at r0
          have hct := fun wx (hbx : Below w4.heap.size w4 wx) => hcut0 wx (H4.out.below hbx).pg.hb
          have hdr := fun wx (hbx : Below w4.heap.size w4 wx) => dice.draw_ok A cz w.heap.size ZS t wx (HDs.out.1.below (H4.out.below hbx).pg.hb) (by omega)
          rw [← hrk] at hdr
          clear n0 n1 n2 hR1 kR4 hb4
          clear hql g0 g1 g2 g3 g4 g5 g6
          have hS0 : Below w4.heap.size w4 w4.drew := (Below.refl _ _).drew
          refine mix.region_D (fun w' => Below w4.heap.size w4 w') (fun _ => false) (by kernel_rfl) ?_
          generalize w4.drew = Wd at *
          refine mix.D_takeT (i := 0) (v := ?_) rfl (by kernel_rfl) (by kernel_rfl) (fun _ _ _ h => h) (Or.inl ⟨by first | rfl | simp [Region.wanted, yielded], ?_⟩) hS0 ?_
          rotate_left
          · intro w' hSw
            have z0 := (hSw.cell (p := ⟨rb, 0, none⟩) hrl).trans r0
            try simp only [List.getElem_toArray, List.getElem_cons_zero, List.getElem_cons_succ]
            go_simp
            exact rfl
          try simp only [Act.put, List.setIfInBounds_toArray, List.set_cons_zero, List.set_cons_succ, List.getElem_toArray, List.getElem_cons_zero, List.getElem_cons_succ]
          refine mix.D_takeT (i := 1) (v := ?_) rfl (by kernel_rfl) (by kernel_rfl) (fun _ _ _ h => h) (Or.inl ⟨by first | rfl | simp [Region.wanted, yielded], ?_⟩) hS0 ?_
          rotate_left
          · intro w' hSw
            have z0 := (hSw.cell (p := ⟨rb, 0, none⟩) hrl).trans r0
            try simp only [List.getElem_toArray, List.getElem_cons_zero, List.getElem_cons_succ]
            go_simp
            exact rfl
          try simp only [Act.put, List.setIfInBounds_toArray, List.set_cons_zero, List.set_cons_succ, List.getElem_toArray, List.getElem_cons_zero, List.getElem_cons_succ]
          refine mix.D_takeT (i := 2) (v := ?_) rfl (by kernel_rfl) (by kernel_rfl) (fun _ _ _ h => h) (Or.inl ⟨by first | rfl | simp [Region.wanted, yielded], ?_⟩) hS0 ?_
          rotate_left
          · intro w' hSw
            have z0 := (hSw.cell (p := ⟨rb, 0, none⟩) hrl).trans r0
            try simp only [List.getElem_toArray, List.getElem_cons_zero, List.getElem_cons_succ]
            go_simp
            exact rfl
          try simp only [Act.put, List.setIfInBounds_toArray, List.set_cons_zero, List.set_cons_succ, List.getElem_toArray, List.getElem_cons_zero, List.getElem_cons_succ]
          refine mix.D_takeT (i := 3) (v := ?_) rfl (by kernel_rfl) (by kernel_rfl) (fun _ _ _ h => h) (Or.inl ⟨by first | rfl | simp [Region.wanted, yielded], ?_⟩) hS0 ?_
          rotate_left
          · intro w' hSw
            have z0 := (hSw.cell (p := ⟨rb, 0, none⟩) hrl).trans r0
            try simp only [List.getElem_toArray, List.getElem_cons_zero, List.getElem_cons_succ]
            go_simp
            exact rfl
          try simp only [Act.put, List.setIfInBounds_toArray, List.set_cons_zero, List.set_cons_succ, List.getElem_toArray, List.getElem_cons_zero, List.getElem_cons_succ]
          refine mix.D_takeT (i := 4) (v := ?_) rfl (by kernel_rfl) (by kernel_rfl) (fun _ _ _ h => h) (Or.inl ⟨by first | rfl | simp [Region.wanted, yielded], ?_⟩) hS0 ?_
          rotate_left
          · intro w' hSw
            have z0 := (hSw.cell (p := ⟨rb, 0, none⟩) hrl).trans r0
            try simp only [List.getElem_toArray, List.getElem_cons_zero, List.getElem_cons_succ]
            go_simp
            exact rfl
          try simp only [Act.put, List.setIfInBounds_toArray, List.set_cons_zero, List.set_cons_succ, List.getElem_toArray, List.getElem_cons_zero, List.getElem_cons_succ]
          refine mix.D_takeT (i := 5) (v := ?_) rfl (by kernel_rfl) (by kernel_rfl) (fun _ _ _ h => h) (Or.inl ⟨by first | rfl | simp [Region.wanted, yielded], ?_⟩) hS0 ?_
          rotate_left
          · intro w' hSw
            have z0 := (hSw.cell (p := ⟨rb, 0, none⟩) hrl).trans r0
            try simp only [List.getElem_toArray, List.getElem_cons_zero, List.getElem_cons_succ]
            go_simp
            exact rfl
          try simp only [Act.put, List.setIfInBounds_toArray, List.set_cons_zero, List.set_cons_succ, List.getElem_toArray, List.getElem_cons_zero, List.getElem_cons_succ]
          refine mix.D_takeT (i := 7) (v := ?_) rfl (by kernel_rfl) (by kernel_rfl) (fun _ _ _ h => h) (Or.inl ⟨by first | rfl | simp [Region.wanted, yielded], ?_⟩) hS0 ?_
          rotate_left
          · intro w' hSw
            have z0 := (hSw.cell (p := ⟨rb, 0, none⟩) hrl).trans r0
            try simp only [List.getElem_toArray, List.getElem_cons_zero, List.getElem_cons_succ]
            go_simp
            exact rfl
          try simp only [Act.put, List.setIfInBounds_toArray, List.set_cons_zero, List.set_cons_succ, List.getElem_toArray, List.getElem_cons_zero, List.getElem_cons_succ]
          refine mix.D_takeT (i := 8) (v := ?_) rfl (by kernel_rfl) (by kernel_rfl) (fun _ _ _ h => h) (Or.inl ⟨by first | rfl | simp [Region.wanted, yielded], ?_⟩) hS0 ?_
          rotate_left
          · intro w' hSw
            have z0 := (hSw.cell (p := ⟨rb, 0, none⟩) hrl).trans r0
            try simp only [List.getElem_toArray, List.getElem_cons_zero, List.getElem_cons_succ]
            go_simp
            exact rfl
          try simp only [Act.put, List.setIfInBounds_toArray, List.set_cons_zero, List.set_cons_succ, List.getElem_toArray, List.getElem_cons_zero, List.getElem_cons_succ]
          refine mix.D_opW (k := 6) rfl (by kernel_rfl) (by first | rfl | simp [Region.wanted, yielded]) (fun K' hK => ?_)
          simp only [List.getElem_toArray, List.getElem_cons_zero, List.getElem_cons_succ]
          go_wp2_with fail
          refine (hct _ hS0).mono ?_
          rintro e w6 ⟨rfl, rfl⟩
          refine hK.out _ _ (fun _ => hS0) ?_
          clear hK K'
          try simp only [Act.put, List.setIfInBounds_toArray, List.set_cons_zero, List.set_cons_succ]
          refine mix.D_opW (k := 9) rfl (by kernel_rfl) (by first | rfl | simp [Region.wanted, yielded]) (fun K' hK => ?_)
          simp only [List.getElem_toArray, List.getElem_cons_zero, List.getElem_cons_succ]
          go_wp2_with fail
          refine (hdr _ hS0).mono ?_
          rintro e w7 ⟨rfl, rfl⟩
          refine hK.out _ _ (fun _ => hS0) ?_
          clear hK K'
          try simp only [Act.put, List.setIfInBounds_toArray, List.set_cons_zero, List.set_cons_succ]
          refine mix.D_takeT (i := 10) (v := ?_) rfl (by kernel_rfl) (by kernel_rfl) (fun _ _ _ h => h) (Or.inl ⟨by first | rfl | simp [Region.wanted, yielded], ?_⟩) hS0 ?_
          rotate_left
          · intro w' hSw
            have z0 := (hSw.cell (p := ⟨rb, 0, none⟩) hrl).trans r0
            try simp only [List.getElem_toArray, List.getElem_cons_zero, List.getElem_cons_succ]
            go_simp
            exact rfl
          try simp only [Act.put, List.setIfInBounds_toArray, List.set_cons_zero, List.set_cons_succ, List.getElem_toArray, List.getElem_cons_zero, List.getElem_cons_succ]
          refine mix.D_takeT (i := 11) (v := ?_) rfl (by kernel_rfl) (by kernel_rfl) (fun _ _ _ h => h) (Or.inl ⟨by first | rfl | simp [Region.wanted, yielded], ?_⟩) hS0 ?_
          rotate_left
          · intro w' hSw
            have z0 := (hSw.cell (p := ⟨rb, 0, none⟩) hrl).trans r0
            try simp only [List.getElem_toArray, List.getElem_cons_zero, List.getElem_cons_succ]
            go_simp
            exact rfl
          try simp only [Act.put, List.setIfInBounds_toArray, List.set_cons_zero, List.set_cons_succ, List.getElem_toArray, List.getElem_cons_zero, List.getElem_cons_succ]
          refine mix.D_done (by kernel_rfl) ?_ _
          try simp only [Act.put, List.setIfInBounds_toArray, List.set_cons_zero, List.set_cons_succ, List.getElem_toArray, List.getElem_cons_zero, List.getElem_cons_succ]
          have H5 := vers.lay (H4.out.below hS0)
          clear hct hdr r0 hrl
          go_wp2_with fail
          go_roundw
          case rel => exact ⟨j + 1, t + 1, _, _, _, by go_num, (by rw [show min (t + 1) nn = mm + 1 by have := HM.out; omega]; exact congrArg (Value.int .i64) (by have := HM.out; omega)), rfl, n1', by omega, by omega, H5⟩
          case measure => first | (simp [RowKit.intOf]; done) | (simp [RowKit.intOf]; omega) | omega
        · have H3 := vers.lay ((H1.out.step HST.out.1 HST.out.2.1 HST.out.2.2.1 HST.out.2.2.2 hC).below HBR.out)
          subst hnE
          rw [hE] at hRN
          obtain ⟨rfl, rfl, rfl, rfl⟩ : rk = 0 ∧ rg = 0 ∧ ro = 0 ∧ rn = 0 := by
            unfold zR at hr
            injection hr with h1 h2 h3 h4
            exact ⟨h1, h2, h3, h4⟩
          have p1 : decide ((t : Int) + 1 ≤ (nn : Int)) = false := decide_eq_false (by omega)
          have p2 : decide (t + 1 ≤ nn) = false := decide_eq_false (by omega)
          clear hC hE hr
          obtain ⟨hql, g0, g1, g2, g3, g4, g5, g6⟩ := H3.out.cells
          simp only at g0 g1 g2 g3 g4 g5 g6
          obtain ⟨n0, n1, n2⟩ : _ ∧ _ ∧ _ := And.intro (HKN3.out.cell 0) (And.intro (HKN3.out.cell 1) (HKN3.out.cell 2))
          simp only [List.getElem?_toArray, List.getElem?_cons_zero, List.getElem?_cons_succ] at n0 n1 n2
          have hR1 := hRN W3 H3.out.pg.hb
          go_upto_region 23 with (go_at_call 66; refine hR1.mono ?_; rintro e w4 ⟨rfl, hb4⟩)
          have H4 := vers.lay (H3.out.below hb4)
          have kR4 := HKR.out.below hb4 HKR.out.lt
          obtain ⟨r0, r1, r2, r3⟩ : w4.cell? ⟨rb, 0, none⟩ = _ ∧ w4.cell? ⟨rb, 1, none⟩ = _ ∧ w4.cell? ⟨rb, 2, none⟩ = _ ∧ w4.cell? ⟨rb, 3, none⟩ = _ := ⟨kR4.cell 0, kR4.cell 1, kR4.cell 2, kR4.cell 3⟩
          simp only [List.getElem?_toArray, List.getElem?_cons_zero, List.getElem?_cons_succ] at r0 r1 r2 r3
          clear n0 n1 n2 hR1 kR4 hb4
          clear hql g0 g1 g2 g3 g4 g5 g6
          go_wp2_with fail
          go_roundw
          case rel => exact ⟨j + 1, t + 1, _, _, _, by go_num, (by rw [show min (t + 1) nn = mm by have := HM.out; omega]), rfl, n1', by omega, by omega, H4⟩
          case measure => first | (simp [RowKit.intOf]; done) | (simp [RowKit.intOf]; omega) | omega
      · obtain rfl : j = 20 := by omega
        obtain ⟨b9, off, rfl, hb9, x0, x1, x2⟩ := (hl.below HR.out.pg.hb).at_ hlt
        have hbl : b9 < wr.heap.size := Nat.lt_of_lt_of_le hb9 HR.out.pg.hb.size
        have d1 : decide (((20 : Nat) : Int) < (l.length : Int)) = true := decide_eq_true (by omega)
        have d2 : decide (20 < l.length) = true := decide_eq_true hlt
        have d3 : decide ((20 : Int) < (l.length : Int)) = true := decide_eq_true (by omega)
        generalize l[20] = yy at x0 x1 x2
        obtain ⟨lf, es, ks, nA, nc, nQ, nm⟩ := yy
        simp only at x0 x1 x2
        have bN : Below wr.heap.size wr (wr.alloc (.cells #[.bool lf, .slice nA es.length nc, .slice nQ ks.length nm] 87)) := (Below.refl _ _).alloc (Nat.le_refl _) _
        have H1 := vers.lay (HR.out.below bN)
        go_upto_region 26 with (fail)
        generalize wr.alloc (.cells #[.bool lf, .slice nA es.length nc, .slice nQ ks.length nm] 87) = W1 at bN H1 ⊢
        clear x0 x1 x2 bN
        obtain ⟨sb9, vs9, vp9, hM9⟩ := H1.out.pg.sg.md
        have hcn := count_ok hM9
        have htk := dice.taken_ok _ _ _ _ _ _ H1.out.pg.dice
        have y0 := H1.out.pg.blk.cell 0
        have y2 := H1.out.pg.blk.cell 2
        have y3 := H1.out.pg.sg.log.head.cell 0
        simp only [List.getElem?_toArray, List.getElem?_cons_zero, List.getElem?_cons_succ] at y0 y2 y3
        rw [H1.out.cp.past] at hcn
        rw [H1.out.cp.k] at htk
        simp only at hcn htk y0 y2 y3
        have hfin := H1.out.pg.hb
        clear hM9
        go_wp2_with (first | (go_at_call 68; refine hcn.mono ?_; rintro e w9 ⟨rfl, rfl⟩) | (go_at_call 60; refine htk.mono ?_; rintro e w9 ⟨rfl, rfl⟩))
        go_ret
        exact ⟨rfl, hfin⟩
    · obtain rfl : j = l.length := by omega
      have d1 : decide ((l.length : Int) < (l.length : Int)) = false := decide_eq_false (by omega)
      obtain ⟨sb9, vs9, vp9, hM9⟩ := HR.out.pg.sg.md
      have hcn := count_ok hM9
      have htk := dice.taken_ok _ _ _ _ _ _ HR.out.pg.dice
      have y0 := HR.out.pg.blk.cell 0
      have y2 := HR.out.pg.blk.cell 2
      have y3 := HR.out.pg.sg.log.head.cell 0
      simp only [List.getElem?_toArray, List.getElem?_cons_zero, List.getElem?_cons_succ] at y0 y2 y3
      rw [HR.out.cp.past] at hcn
      rw [HR.out.cp.k] at htk
      simp only at hcn htk y0 y2 y3
      have hfin := HR.out.pg.hb
      clear hM9
      go_wp2_with (first | (go_at_call 68; refine hcn.mono ?_; rintro e w9 ⟨rfl, rfl⟩) | (go_at_call 60; refine htk.mono ?_; rintro e w9 ⟨rfl, rfl⟩))
      go_ret
      exact ⟨rfl, hfin⟩

theorem law_cuts (a b c d e f h : Int) (zs : List Int) (A : Option Addr) (cz : Nat) (l : List N) (A2 : Option Addr) (c2 : Nat) (n : Int) (w : World) (hz : Ds w w.heap.size zs A cz) (hl : Ns w w.heap.size l A2 c2) :
    Calls Try.prog 9 #[.agg #[.int .i64 a, .int .i64 b, .int .i64 c, .int .i64 d, .int .i64 e, .int .i64 f, .int .i64 h], .slice A zs.length cz, .slice A2 l.length c2, .int .i64 n] w fun x w' => x = .returned (.bool true) ∧ Below w.heap.size w w' := by
  by_cases hk : ok a b c d e f h
  · exact cuts_ok a b c d e f h zs A cz l A2 c2 n w hz hl hk
  · exact cuts_no a b c d e f h zs A cz l A2 c2 n w hz hl hk
end Go.Proofs.Ytoenkkbcpafanaa.pags
