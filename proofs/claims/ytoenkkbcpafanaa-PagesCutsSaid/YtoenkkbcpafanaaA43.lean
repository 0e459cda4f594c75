/- The laws' cut and made. -/
import Derived.Test.YtoenkkbcpafanaaA25
import Derived.Test.YtoenkkbcpafanaaA42
import Derived.Test.YtoenkkbcpafanaaA40
import Derived.Test.YtoenkkbcpafanaaA11


namespace Go.Proofs.Ytoenkkbcpafanaa.pags
set_option linter.unusedVariables false
set_option linter.unusedSimpArgs false
open Go.RowKit Go.Proofs.Ytoenkkbcpafanaa.base Go.Proofs.Ytoenkkbcpafanaa.trees Go.Proofs.Ytoenkkbcpafanaa.quotas Go.Proofs.Ytoenkkbcpafanaa.mediums Go.Proofs.Ytoenkkbcpafanaa.segs Go.Proofs.Ytoenkkbcpafanaa.caches Go.Proofs.Ytoenkkbcpafanaa.dice Go.Lib
/-- a row of draws that came in -/
def Ds (w : World) (B : Nat) (zs : List Int) (A : Option Addr) (c : Nat) : Prop := Rd w B A (zs.map (Value.int .u64)) ∧ zs.length ≤ c ∧ zs.length ≤ maxLen ∧ ∀ k ∈ zs, 0 ≤ k ∧ k < 18446744073709551616
theorem Ds.at_world {w wr : World} {zs : List Int} {A : Option Addr} {c : Nat} (h : Ds w w.heap.size zs A c) (hb : Below w.heap.size w wr) : Ds wr wr.heap.size zs A c := ⟨(h.1.below hb).more hb.size, h.2⟩
theorem Ds.take {w : World} {B : Nat} {zs : List Int} {A : Option Addr} {c : Nat} (h : Ds w B zs A c) (n : Nat) : Ds w B (zs.take n) A c :=
  ⟨fun j u hj => h.1 j u (by rw [List.getElem?_map, List.getElem?_take] at hj; rw [List.getElem?_map]; split at hj; exact hj; simp at hj), by have := h.2.1; rw [List.length_take]; omega, by have := h.2.2.1; rw [List.length_take]; omega, fun k hk => h.2.2.2 k (List.mem_of_mem_take hk)⟩
theorem draws_of_row {w : World} {a : Option Addr} {len cap : Nat} {zs : List Int}
    (h : (a = none ∧ len = 0 ∧ cap = 0 ∧ zs = []) ∨
      ∃ x, a = some x ∧ len ≤ cap ∧ cap ≤ maxLen ∧ zs.length = cap ∧ (∀ i, i < zs.length → w.cell? (x.add i) = some (.int .u64 (zs.getD i 0))) ∧ ∀ n ∈ zs, (Lit.int .u64 n).wf = true) :
    ∃ ks : List Int, len = ks.length ∧ Ds w w.heap.size ks a cap := by
  have r := of_row h
  refine ⟨zs.take len, r.2.1.symm, r.1, by rw [r.2.1]; exact r.2.2.1, by rw [r.2.1]; exact r.2.2.2.2.1, fun k hk => ?_⟩
  have hw := r.2.2.2.2.2 k hk
  have e1 : IntKind.u64.min = 0 := rfl
  have e2 : IntKind.u64.max = 18446744073709551615 := rfl
  simp [Lit.wf, IntKind.has] at hw
  omega

set_option maxRecDepth 100000 in
set_option maxHeartbeats 8000000 in
theorem cut_any (zs : List Int) (A : Option Addr) (c m : Nat) (hm : m ≤ 100) (w : World) (hT : Ds w w.heap.size zs A c) :
    Calls Try.prog 63 #[.slice A zs.length c, .int .i64 (m : Int)] w fun e w' => e = .returned (.slice A (zs.take m).length c) ∧ w' = w := by
  have hlc := hT.2.1
  clear hT
  by_cases hlt : m < zs.length
  · have d0 : decide ((m : Int) < (zs.length : Int)) = true := decide_eq_true (by omega)
    have hkc : m ≤ c := by omega
    have hl2 : (zs.take m).length = m := by rw [List.length_take]; omega
    go_enter Try.func63, Try.ntmps63
    go_wp2_with fail
    go_ret
    exact ⟨by rw [hl2]; rfl, rfl⟩
  · have d0 : decide ((m : Int) < (zs.length : Int)) = false := decide_eq_false (by omega)
    have hl2 : zs.take m = zs := List.take_of_length_le (by omega)
    go_enter Try.func63, Try.ntmps63
    go_wp2_with fail
    go_ret
    exact ⟨by rw [hl2]; rfl, rfl⟩
theorem pg_in2 {b c d e : Int} (h2 : 1 ≤ b ∧ b ≤ 16) (h3 : 0 ≤ c ∧ c ≤ 32) (h4 : 0 ≤ d ∧ d ≤ 16) (h5 : 1 ≤ e ∧ e ≤ 4) : 15 ≤ pg b c d e ∧ pg b c d e ≤ 5000 := by
  obtain ⟨k1, k2⟩ := prod_in h3 h4 h5
  unfold pg most
  split <;> omega
/-- behind made's beginning -/
structure MkI (w wr : World) (pb g n sb rm : Nat) (zs : List Int) (cp cg gd gl m0 m1 m2 : Nat) : Prop where
  below : Below w.heap.size w wr
  pw : Blk wr pb 219 (powers.PC (-1) 0)
  md : Md wr (fun k => m0 ≤ k ∧ k < m1) pb g (newM n sb)
  ca : Ca wr cp cg (fun k => m1 ≤ k ∧ k < m2) rm 0 0 []
  dice : IsDice wr m2 gd gl zs 0
  sz : w.heap.size < pb ∧ pb < m0 ∧ m0 ≤ m1 ∧ m1 ≤ m2 ∧ m1 ≤ wr.heap.size ∧ m2 ≤ wr.heap.size

set_option maxRecDepth 100000 in
set_option maxHeartbeats 8000000 in
theorem made_no (a b c d e f h : Int) (n : Nat) (hn : 1 ≤ n ∧ n ≤ 4096) (zs : List Int) (A : Option Addr) (cz : Nat) (w : World) (hT : Ds w w.heap.size zs A cz) (hzl : zs.length ≤ 100000) (hk : ¬ ok a b c d e f h) :
    Calls Try.prog 62 #[.agg #[.int .i64 a, .int .i64 b, .int .i64 c, .int .i64 d, .int .i64 e, .int .i64 f, .int .i64 h], .int .i64 (n : Int), .slice A zs.length cz] w fun x w' => x = .returned (.pointer none) ∧ Below w.heap.size w w' := by
  obtain ⟨zz, hzz⟩ : ∃ zz : Int, zz = 0 := ⟨0, rfl⟩
  have hsb : Num 124 a b c d e f h zz := by have := refSegBytes_of a b c d e f h 0 ⟨by omega, by omega⟩ (refPage_no a b c d e f h hk); rw [hzz]; simpa using this
  obtain ⟨sb, hsb1⟩ : ∃ sb : Nat, sb = 1 := ⟨1, rfl⟩
  have hmx : max (1 : Int) zz = (sb : Int) := by rw [hsb1, hzz]; rfl
  clear hzz
  have hsz : 1 ≤ sb ∧ sb ≤ 1048576 := by omega
  have HSB := vers.lay hsb1
  clear hsb1
  obtain ⟨rm, hrm, hrm2⟩ : ∃ rm : Nat, min (max h 0) 32 = (rm : Int) ∧ rm ≤ 32 := ⟨(min (max h 0) 32).toNat, by omega, by omega⟩
  have b0 : Below w.heap.size w (w.alloc (.cells #[.int .i64 a, .int .i64 b, .int .i64 c, .int .i64 d, .int .i64 e, .int .i64 f, .int .i64 h] 113)) := (Below.refl _ _).alloc (Nat.le_refl _) _
  have k0 := Blk.new w 113 #[.int .i64 a, .int .i64 b, .int .i64 c, .int .i64 d, .int .i64 e, .int .i64 f, .int .i64 h]
  go_enter Try.func62, Try.ntmps62
  go_upto_region 1 with (fail)
  generalize w.alloc (.cells #[.int .i64 a, .int .i64 b, .int .i64 c, .int .i64 d, .int .i64 e, .int .i64 f, .int .i64 h] 113) = W0 at b0 k0 ⊢
  obtain ⟨qb, hqb⟩ : ∃ qb, w.heap.size = qb := ⟨_, rfl⟩
  rw [hqb] at k0 ⊢
  have hql := k0.lt
  obtain ⟨g0, g1, g2, g3, g4, g5, g6⟩ : W0.cell? ⟨qb, 0, none⟩ = _ ∧ W0.cell? ⟨qb, 1, none⟩ = _ ∧ W0.cell? ⟨qb, 2, none⟩ = _ ∧ W0.cell? ⟨qb, 3, none⟩ = _ ∧ W0.cell? ⟨qb, 4, none⟩ = _ ∧ W0.cell? ⟨qb, 5, none⟩ = _ ∧ W0.cell? ⟨qb, 6, none⟩ = _ := ⟨k0.cell 0, k0.cell 1, k0.cell 2, k0.cell 3, k0.cell 4, k0.cell 5, k0.cell 6⟩
  simp only [List.getElem?_toArray, List.getElem?_cons_zero, List.getElem?_cons_succ] at g0 g1 g2 g3 g4 g5 g6
  have hS0 : Below W0.heap.size W0 W0.drew := (Below.refl _ _).drew
  refine mix.region_D (fun w' => Below W0.heap.size W0 w') (fun _ => false) (by kernel_rfl) ?_
  generalize W0.drew = Wd at *
  refine mix.D_takeT (i := 1) (v := ?_) rfl (by kernel_rfl) (by kernel_rfl) (fun _ _ _ h => h) (Or.inl ⟨by first | rfl | simp [Region.wanted, yielded], ?_⟩) hS0 ?_
  rotate_left
  · intro w' hSw
    have z0 := (hSw.cell (p := ⟨qb, 0, none⟩) hql).trans g0
    have z1 := (hSw.cell (p := ⟨qb, 1, none⟩) hql).trans g1
    have z2 := (hSw.cell (p := ⟨qb, 2, none⟩) hql).trans g2
    have z3 := (hSw.cell (p := ⟨qb, 3, none⟩) hql).trans g3
    have z4 := (hSw.cell (p := ⟨qb, 4, none⟩) hql).trans g4
    have z5 := (hSw.cell (p := ⟨qb, 5, none⟩) hql).trans g5
    have z6 := (hSw.cell (p := ⟨qb, 6, none⟩) hql).trans g6
    try simp only [List.getElem_toArray, List.getElem_cons_zero, List.getElem_cons_succ]
    go_simp
    exact rfl
  try simp only [Act.put, List.setIfInBounds_toArray, List.set_cons_zero, List.set_cons_succ, List.getElem_toArray, List.getElem_cons_zero, List.getElem_cons_succ]
  refine mix.D_takeT (i := 2) (v := ?_) rfl (by kernel_rfl) (by kernel_rfl) (fun _ _ _ h => h) (Or.inl ⟨by first | rfl | simp [Region.wanted, yielded], ?_⟩) hS0 ?_
  rotate_left
  · intro w' hSw
    have z0 := (hSw.cell (p := ⟨qb, 0, none⟩) hql).trans g0
    have z1 := (hSw.cell (p := ⟨qb, 1, none⟩) hql).trans g1
    have z2 := (hSw.cell (p := ⟨qb, 2, none⟩) hql).trans g2
    have z3 := (hSw.cell (p := ⟨qb, 3, none⟩) hql).trans g3
    have z4 := (hSw.cell (p := ⟨qb, 4, none⟩) hql).trans g4
    have z5 := (hSw.cell (p := ⟨qb, 5, none⟩) hql).trans g5
    have z6 := (hSw.cell (p := ⟨qb, 6, none⟩) hql).trans g6
    try simp only [List.getElem_toArray, List.getElem_cons_zero, List.getElem_cons_succ]
    go_simp
    exact rfl
  try simp only [Act.put, List.setIfInBounds_toArray, List.set_cons_zero, List.set_cons_succ, List.getElem_toArray, List.getElem_cons_zero, List.getElem_cons_succ]
  refine mix.D_op (k := 0) rfl rfl (by kernel_rfl) (fun K' hK => ?_)
  simp only [List.getElem_toArray, List.getElem_cons_zero, List.getElem_cons_succ]
  go_wp2_with fail
  refine (powers.new_ok Wd).mono ?_
  rintro x w1 ⟨rfl, hP1, hb1, hz1⟩
  have hs1 : Below W0.heap.size W0 w1 := hS0.trans (hb1.mono hS0.size)
  refine hK.out _ _ (fun _ => hs1) ?_
  clear hK K'
  try simp only [Act.put, List.setIfInBounds_toArray, List.set_cons_zero, List.set_cons_succ]
  refine mix.D_op (k := 3) rfl rfl (by kernel_rfl) (fun K' hK => ?_)
  simp only [List.getElem_toArray, List.getElem_cons_zero, List.getElem_cons_succ]
  go_wp2_with fail
  refine (hsb w1).mono ?_
  rintro x w2 ⟨rfl, hb2⟩
  have hs2 : Below W0.heap.size W0 w2 := hs1.trans (hb2.mono hs1.size)
  refine hK.out _ _ (fun _ => hs2) ?_
  clear hK K'
  try simp only [Act.put, List.setIfInBounds_toArray, List.set_cons_zero, List.set_cons_succ]
  refine mix.D_op (k := 4) rfl rfl (by kernel_rfl) (fun K' hK => ?_)
  simp only [List.getElem_toArray, List.getElem_cons_zero, List.getElem_cons_succ]
  go_wp2_with fail
  refine hK.out _ _ (fun _ => hs2) ?_
  clear hK K'
  try simp only [Act.put, List.setIfInBounds_toArray, List.set_cons_zero, List.set_cons_succ]
  refine mix.D_op (k := 5) rfl rfl (by kernel_rfl) (fun K' hK => ?_)
  simp only [List.getElem_toArray, List.getElem_cons_zero, List.getElem_cons_succ]
  go_wp2_with fail
  try rw [hmx]
  refine (mnew_ok Wd.heap.size n sb hn hsz w2 (by have := hb2.size; omega)).mono ?_
  rintro x w3 ⟨g, rfl, hM3, hb3⟩
  have hs3 : Below W0.heap.size W0 w3 := hs2.trans (hb3.mono hs2.size)
  refine hK.out _ _ (fun _ => hs3) ?_
  clear hK K'
  try simp only [Act.put, List.setIfInBounds_toArray, List.set_cons_zero, List.set_cons_succ]
  refine mix.D_takeT (i := 6) (v := ?_) rfl (by kernel_rfl) (by kernel_rfl) (fun _ _ _ h => h) (Or.inl ⟨by first | rfl | simp [Region.wanted, yielded], ?_⟩) hs3 ?_
  rotate_left
  · intro w' hSw
    have z0 := (hSw.cell (p := ⟨qb, 0, none⟩) hql).trans g0
    have z1 := (hSw.cell (p := ⟨qb, 1, none⟩) hql).trans g1
    have z2 := (hSw.cell (p := ⟨qb, 2, none⟩) hql).trans g2
    have z3 := (hSw.cell (p := ⟨qb, 3, none⟩) hql).trans g3
    have z4 := (hSw.cell (p := ⟨qb, 4, none⟩) hql).trans g4
    have z5 := (hSw.cell (p := ⟨qb, 5, none⟩) hql).trans g5
    have z6 := (hSw.cell (p := ⟨qb, 6, none⟩) hql).trans g6
    try simp only [List.getElem_toArray, List.getElem_cons_zero, List.getElem_cons_succ]
    go_simp
    exact rfl
  try simp only [Act.put, List.setIfInBounds_toArray, List.set_cons_zero, List.set_cons_succ, List.getElem_toArray, List.getElem_cons_zero, List.getElem_cons_succ]
  refine mix.D_takeT (i := 7) (v := ?_) rfl (by kernel_rfl) (by kernel_rfl) (fun _ _ _ h => h) (Or.inl ⟨by first | rfl | simp [Region.wanted, yielded], ?_⟩) hs3 ?_
  rotate_left
  · intro w' hSw
    have z0 := (hSw.cell (p := ⟨qb, 0, none⟩) hql).trans g0
    have z1 := (hSw.cell (p := ⟨qb, 1, none⟩) hql).trans g1
    have z2 := (hSw.cell (p := ⟨qb, 2, none⟩) hql).trans g2
    have z3 := (hSw.cell (p := ⟨qb, 3, none⟩) hql).trans g3
    have z4 := (hSw.cell (p := ⟨qb, 4, none⟩) hql).trans g4
    have z5 := (hSw.cell (p := ⟨qb, 5, none⟩) hql).trans g5
    have z6 := (hSw.cell (p := ⟨qb, 6, none⟩) hql).trans g6
    try simp only [List.getElem_toArray, List.getElem_cons_zero, List.getElem_cons_succ]
    go_simp
    exact rfl
  try simp only [Act.put, List.setIfInBounds_toArray, List.set_cons_zero, List.set_cons_succ, List.getElem_toArray, List.getElem_cons_zero, List.getElem_cons_succ]
  refine mix.D_takeT (i := 8) (v := ?_) rfl (by kernel_rfl) (by kernel_rfl) (fun _ _ _ h => h) (Or.inl ⟨by first | rfl | simp [Region.wanted, yielded], ?_⟩) hs3 ?_
  rotate_left
  · intro w' hSw
    have z0 := (hSw.cell (p := ⟨qb, 0, none⟩) hql).trans g0
    have z1 := (hSw.cell (p := ⟨qb, 1, none⟩) hql).trans g1
    have z2 := (hSw.cell (p := ⟨qb, 2, none⟩) hql).trans g2
    have z3 := (hSw.cell (p := ⟨qb, 3, none⟩) hql).trans g3
    have z4 := (hSw.cell (p := ⟨qb, 4, none⟩) hql).trans g4
    have z5 := (hSw.cell (p := ⟨qb, 5, none⟩) hql).trans g5
    have z6 := (hSw.cell (p := ⟨qb, 6, none⟩) hql).trans g6
    try simp only [List.getElem_toArray, List.getElem_cons_zero, List.getElem_cons_succ]
    go_simp
    exact rfl
  try simp only [Act.put, List.setIfInBounds_toArray, List.set_cons_zero, List.set_cons_succ, List.getElem_toArray, List.getElem_cons_zero, List.getElem_cons_succ]
  refine mix.D_takeT (i := 9) (v := ?_) rfl (by kernel_rfl) (by kernel_rfl) (fun _ _ _ h => h) (Or.inl ⟨by first | rfl | simp [Region.wanted, yielded], ?_⟩) hs3 ?_
  rotate_left
  · intro w' hSw
    have z0 := (hSw.cell (p := ⟨qb, 0, none⟩) hql).trans g0
    have z1 := (hSw.cell (p := ⟨qb, 1, none⟩) hql).trans g1
    have z2 := (hSw.cell (p := ⟨qb, 2, none⟩) hql).trans g2
    have z3 := (hSw.cell (p := ⟨qb, 3, none⟩) hql).trans g3
    have z4 := (hSw.cell (p := ⟨qb, 4, none⟩) hql).trans g4
    have z5 := (hSw.cell (p := ⟨qb, 5, none⟩) hql).trans g5
    have z6 := (hSw.cell (p := ⟨qb, 6, none⟩) hql).trans g6
    try simp only [List.getElem_toArray, List.getElem_cons_zero, List.getElem_cons_succ]
    go_simp
    exact rfl
  try simp only [Act.put, List.setIfInBounds_toArray, List.set_cons_zero, List.set_cons_succ, List.getElem_toArray, List.getElem_cons_zero, List.getElem_cons_succ]
  refine mix.D_takeT (i := 10) (v := ?_) rfl (by kernel_rfl) (by kernel_rfl) (fun _ _ _ h => h) (Or.inl ⟨by first | rfl | simp [Region.wanted, yielded], ?_⟩) hs3 ?_
  rotate_left
  · intro w' hSw
    have z0 := (hSw.cell (p := ⟨qb, 0, none⟩) hql).trans g0
    have z1 := (hSw.cell (p := ⟨qb, 1, none⟩) hql).trans g1
    have z2 := (hSw.cell (p := ⟨qb, 2, none⟩) hql).trans g2
    have z3 := (hSw.cell (p := ⟨qb, 3, none⟩) hql).trans g3
    have z4 := (hSw.cell (p := ⟨qb, 4, none⟩) hql).trans g4
    have z5 := (hSw.cell (p := ⟨qb, 5, none⟩) hql).trans g5
    have z6 := (hSw.cell (p := ⟨qb, 6, none⟩) hql).trans g6
    try simp only [List.getElem_toArray, List.getElem_cons_zero, List.getElem_cons_succ]
    go_simp
    exact rfl
  try simp only [Act.put, List.setIfInBounds_toArray, List.set_cons_zero, List.set_cons_succ, List.getElem_toArray, List.getElem_cons_zero, List.getElem_cons_succ]
  refine mix.D_done (by kernel_rfl) ?_ _
  try simp only [Act.put, List.setIfInBounds_toArray, List.set_cons_zero, List.set_cons_succ, List.getElem_toArray, List.getElem_cons_zero, List.getElem_cons_succ]
  obtain ⟨pb, hpb⟩ : ∃ pb, Wd.heap.size = pb := ⟨_, rfl⟩
  rw [hpb] at hP1 hM3 ⊢
  have g6' := (hs3.cell (p := ⟨qb, 6, none⟩) hql).trans g6
  have hcn := caches.new_ok rm w3 hrm2

  go_upto_region 3 with (go_at_call 31; refine hcn.mono ?_; rintro x w4 ⟨cp, cg, rfl, hC4, hb4⟩)
  have hbA : Below w.heap.size w w4 := b0.trans ((hs3.trans (hb4.mono hs3.size)).mono b0.size)
  have hdn := dice.new_ok A cz zs w4 (hT.at_world hbA).1 hzl
  go_upto_region 4 with (go_at_call 56; refine hdn.mono ?_; rintro x W5 ⟨gd, gl, rfl, hD5, hb5⟩)
  have hB5 : Below W0.heap.size W0 W5 := (hs3.trans (hb4.mono hs3.size)).trans (hb5.mono (hs3.trans (hb4.mono hs3.size)).size)
  have H5 := vers.lay (show MkI w W5 pb g n sb rm zs cp cg gd gl w2.heap.size w3.heap.size w4.heap.size from by
    have e1 : Below w1.heap.size w1 W5 := ((hb2.trans (hb3.mono hb2.size)).trans (hb4.mono (hb2.trans (hb3.mono hb2.size)).size)).trans (hb5.mono ((hb2.trans (hb3.mono hb2.size)).trans (hb4.mono (hb2.trans (hb3.mono hb2.size)).size)).size)
    have e3 : Below w3.heap.size w3 W5 := hb4.trans (hb5.mono hb4.size)
    obtain ⟨sb9, vs, vp, hM⟩ := hM3
    have s1 := hS0.size; have s2 := hb2.size; have s3 := hb3.size; have s4 := hb4.size; have s5 := hb5.size; have s0 := b0.size
    refine ⟨b0.trans (hB5.mono b0.size), hP1.below e1 hP1.lt, ⟨sb9, vs, vp, hM.agree (fun k hk => e3.block k hk.2) e3.size⟩, hC4.below hb5, hD5, ?_⟩
    omega)
  obtain ⟨y0, y1, y2, y3, y4, y5, y6⟩ : W5.cell? ⟨qb, 0, none⟩ = _ ∧ W5.cell? ⟨qb, 1, none⟩ = _ ∧ W5.cell? ⟨qb, 2, none⟩ = _ ∧ W5.cell? ⟨qb, 3, none⟩ = _ ∧ W5.cell? ⟨qb, 4, none⟩ = _ ∧ W5.cell? ⟨qb, 5, none⟩ = _ ∧ W5.cell? ⟨qb, 6, none⟩ = _ := ⟨(hB5.cell hql).trans g0, (hB5.cell hql).trans g1, (hB5.cell hql).trans g2, (hB5.cell hql).trans g3, (hB5.cell hql).trans g4, (hB5.cell hql).trans g5, (hB5.cell hql).trans g6⟩
  have hql5 : qb < W5.heap.size := Nat.lt_of_lt_of_le hql hB5.size
  clear hcn hdn hsb hmx g0 g1 g2 g3 g4 g5 g6 g6' hP1 hM3 hC4 hD5 hT hs1 hs2 hs3 hb1 hb2 hb3 hb4 hb5 hbA hB5 hS0 b0 k0 hql hz1 hpb hqb
  have g0 := y0
  have g1 := y1
  have g2 := y2
  have g3 := y3
  have g4 := y4
  have g5 := y5
  have g6 := y6
  have hql := hql5
  clear y0 y1 y2 y3 y4 y5 y6 hql5
  have HM := vers.lay H5.out.md
  have HS := vers.lay (show w3.heap.size ≤ W5.heap.size from H5.out.sz.2.2.2.2.1)
  go_upto_region 6 with (fail)
  have hS0 : Below W5.heap.size W5 W5.drew := (Below.refl _ _).drew
  refine mix.region_D (fun w' => Below W5.heap.size W5 w') (fun _ => false) (by kernel_rfl) ?_
  generalize W5.drew = Wd at *
  refine mix.D_takeT (i := 0) (v := ?_) rfl (by kernel_rfl) (by kernel_rfl) (fun _ _ _ h => h) (Or.inl ⟨by first | rfl | simp [Region.wanted, yielded], ?_⟩) hS0 ?_
  rotate_left
  · intro w' hSw
    have z0 := (hSw.cell (p := ⟨qb, 0, none⟩) hql).trans g0
    have z1 := (hSw.cell (p := ⟨qb, 1, none⟩) hql).trans g1
    have z2 := (hSw.cell (p := ⟨qb, 2, none⟩) hql).trans g2
    have z3 := (hSw.cell (p := ⟨qb, 3, none⟩) hql).trans g3
    have z4 := (hSw.cell (p := ⟨qb, 4, none⟩) hql).trans g4
    have z5 := (hSw.cell (p := ⟨qb, 5, none⟩) hql).trans g5
    have z6 := (hSw.cell (p := ⟨qb, 6, none⟩) hql).trans g6
    try simp only [List.getElem_toArray, List.getElem_cons_zero, List.getElem_cons_succ]
    go_simp
    exact rfl
  try simp only [Act.put, List.setIfInBounds_toArray, List.set_cons_zero, List.set_cons_succ, List.getElem_toArray, List.getElem_cons_zero, List.getElem_cons_succ]
  refine mix.D_takeT (i := 1) (v := ?_) rfl (by kernel_rfl) (by kernel_rfl) (fun _ _ _ h => h) (Or.inl ⟨by first | rfl | simp [Region.wanted, yielded], ?_⟩) hS0 ?_
  rotate_left
  · intro w' hSw
    have z0 := (hSw.cell (p := ⟨qb, 0, none⟩) hql).trans g0
    have z1 := (hSw.cell (p := ⟨qb, 1, none⟩) hql).trans g1
    have z2 := (hSw.cell (p := ⟨qb, 2, none⟩) hql).trans g2
    have z3 := (hSw.cell (p := ⟨qb, 3, none⟩) hql).trans g3
    have z4 := (hSw.cell (p := ⟨qb, 4, none⟩) hql).trans g4
    have z5 := (hSw.cell (p := ⟨qb, 5, none⟩) hql).trans g5
    have z6 := (hSw.cell (p := ⟨qb, 6, none⟩) hql).trans g6
    try simp only [List.getElem_toArray, List.getElem_cons_zero, List.getElem_cons_succ]
    go_simp
    exact rfl
  try simp only [Act.put, List.setIfInBounds_toArray, List.set_cons_zero, List.set_cons_succ, List.getElem_toArray, List.getElem_cons_zero, List.getElem_cons_succ]
  refine mix.D_takeT (i := 3) (v := ?_) rfl (by kernel_rfl) (by kernel_rfl) (fun _ _ _ h => h) (Or.inl ⟨by first | rfl | simp [Region.wanted, yielded], ?_⟩) hS0 ?_
  rotate_left
  · intro w' hSw
    have z0 := (hSw.cell (p := ⟨qb, 0, none⟩) hql).trans g0
    have z1 := (hSw.cell (p := ⟨qb, 1, none⟩) hql).trans g1
    have z2 := (hSw.cell (p := ⟨qb, 2, none⟩) hql).trans g2
    have z3 := (hSw.cell (p := ⟨qb, 3, none⟩) hql).trans g3
    have z4 := (hSw.cell (p := ⟨qb, 4, none⟩) hql).trans g4
    have z5 := (hSw.cell (p := ⟨qb, 5, none⟩) hql).trans g5
    have z6 := (hSw.cell (p := ⟨qb, 6, none⟩) hql).trans g6
    try simp only [List.getElem_toArray, List.getElem_cons_zero, List.getElem_cons_succ]
    go_simp
    exact rfl
  try simp only [Act.put, List.setIfInBounds_toArray, List.set_cons_zero, List.set_cons_succ, List.getElem_toArray, List.getElem_cons_zero, List.getElem_cons_succ]
  refine mix.D_takeT (i := 4) (v := ?_) rfl (by kernel_rfl) (by kernel_rfl) (fun _ _ _ h => h) (Or.inl ⟨by first | rfl | simp [Region.wanted, yielded], ?_⟩) hS0 ?_
  rotate_left
  · intro w' hSw
    have z0 := (hSw.cell (p := ⟨qb, 0, none⟩) hql).trans g0
    have z1 := (hSw.cell (p := ⟨qb, 1, none⟩) hql).trans g1
    have z2 := (hSw.cell (p := ⟨qb, 2, none⟩) hql).trans g2
    have z3 := (hSw.cell (p := ⟨qb, 3, none⟩) hql).trans g3
    have z4 := (hSw.cell (p := ⟨qb, 4, none⟩) hql).trans g4
    have z5 := (hSw.cell (p := ⟨qb, 5, none⟩) hql).trans g5
    have z6 := (hSw.cell (p := ⟨qb, 6, none⟩) hql).trans g6
    try simp only [List.getElem_toArray, List.getElem_cons_zero, List.getElem_cons_succ]
    go_simp
    exact rfl
  try simp only [Act.put, List.setIfInBounds_toArray, List.set_cons_zero, List.set_cons_succ, List.getElem_toArray, List.getElem_cons_zero, List.getElem_cons_succ]
  refine mix.D_op (k := 2) rfl rfl (by kernel_rfl) (fun K' hK => ?_)
  simp only [List.getElem_toArray, List.getElem_cons_zero, List.getElem_cons_succ]
  go_wp2_with fail
  have hM6 : Md Wd (fun k => w2.heap.size ≤ k ∧ k < w3.heap.size) pb g (newM n sb) := by
    obtain ⟨sb9, vs, vp, hM⟩ := HM.out
    exact ⟨sb9, vs, vp, hM.agree (fun k hk => hS0.block k (by have := HS.out; omega)) hS0.size⟩
  refine (segs.new_ok hM6).mono ?_
  rintro x w6 ⟨lg, ab, c6, rfl, hL6, hb6, hl6, ha6⟩
  have hs6 : Below W5.heap.size W5 w6 := hS0.trans (hb6.mono hS0.size)
  refine hK.out _ _ (fun _ => hs6) ?_
  clear hK K'
  try simp only [Act.put, List.setIfInBounds_toArray, List.set_cons_zero, List.set_cons_succ]
  refine mix.D_op (k := 5) rfl rfl (by kernel_rfl) (fun K' hK => ?_)
  simp only [List.getElem_toArray, List.getElem_cons_zero, List.getElem_cons_succ]
  go_wp2_with fail
  refine (pnew_no a b c d e f h (some ⟨lg, 0, none⟩) (some ⟨cp, 0, none⟩) (some ⟨gd, 0, none⟩) w6 hk).mono ?_
  rintro x w7 ⟨rfl, hb7⟩
  have hs7 : Below W5.heap.size W5 w7 := hs6.trans (hb7.mono hs6.size)
  refine hK.out _ _ (fun _ => hs7) ?_
  clear hK K'
  try simp only [Act.put, List.setIfInBounds_toArray, List.set_cons_zero, List.set_cons_succ]
  refine mix.D_takeT (i := 6) (v := ?_) rfl (by kernel_rfl) (by kernel_rfl) (fun _ _ _ h => h) (Or.inl ⟨by first | rfl | simp [Region.wanted, yielded], ?_⟩) hs7 ?_
  rotate_left
  · intro w' hSw
    have z0 := (hSw.cell (p := ⟨qb, 0, none⟩) hql).trans g0
    have z1 := (hSw.cell (p := ⟨qb, 1, none⟩) hql).trans g1
    have z2 := (hSw.cell (p := ⟨qb, 2, none⟩) hql).trans g2
    have z3 := (hSw.cell (p := ⟨qb, 3, none⟩) hql).trans g3
    have z4 := (hSw.cell (p := ⟨qb, 4, none⟩) hql).trans g4
    have z5 := (hSw.cell (p := ⟨qb, 5, none⟩) hql).trans g5
    have z6 := (hSw.cell (p := ⟨qb, 6, none⟩) hql).trans g6
    try simp only [List.getElem_toArray, List.getElem_cons_zero, List.getElem_cons_succ]
    go_simp
    exact rfl
  try simp only [Act.put, List.setIfInBounds_toArray, List.set_cons_zero, List.set_cons_succ, List.getElem_toArray, List.getElem_cons_zero, List.getElem_cons_succ]
  refine mix.D_takeT (i := 7) (v := ?_) rfl (by kernel_rfl) (by kernel_rfl) (fun _ _ _ h => h) (Or.inl ⟨by first | rfl | simp [Region.wanted, yielded], ?_⟩) hs7 ?_
  rotate_left
  · intro w' hSw
    have z0 := (hSw.cell (p := ⟨qb, 0, none⟩) hql).trans g0
    have z1 := (hSw.cell (p := ⟨qb, 1, none⟩) hql).trans g1
    have z2 := (hSw.cell (p := ⟨qb, 2, none⟩) hql).trans g2
    have z3 := (hSw.cell (p := ⟨qb, 3, none⟩) hql).trans g3
    have z4 := (hSw.cell (p := ⟨qb, 4, none⟩) hql).trans g4
    have z5 := (hSw.cell (p := ⟨qb, 5, none⟩) hql).trans g5
    have z6 := (hSw.cell (p := ⟨qb, 6, none⟩) hql).trans g6
    try simp only [List.getElem_toArray, List.getElem_cons_zero, List.getElem_cons_succ]
    go_simp
    exact rfl
  try simp only [Act.put, List.setIfInBounds_toArray, List.set_cons_zero, List.set_cons_succ, List.getElem_toArray, List.getElem_cons_zero, List.getElem_cons_succ]
  refine mix.D_takeT (i := 8) (v := ?_) rfl (by kernel_rfl) (by kernel_rfl) (fun _ _ _ h => h) (Or.inl ⟨by first | rfl | simp [Region.wanted, yielded], ?_⟩) hs7 ?_
  rotate_left
  · intro w' hSw
    have z0 := (hSw.cell (p := ⟨qb, 0, none⟩) hql).trans g0
    have z1 := (hSw.cell (p := ⟨qb, 1, none⟩) hql).trans g1
    have z2 := (hSw.cell (p := ⟨qb, 2, none⟩) hql).trans g2
    have z3 := (hSw.cell (p := ⟨qb, 3, none⟩) hql).trans g3
    have z4 := (hSw.cell (p := ⟨qb, 4, none⟩) hql).trans g4
    have z5 := (hSw.cell (p := ⟨qb, 5, none⟩) hql).trans g5
    have z6 := (hSw.cell (p := ⟨qb, 6, none⟩) hql).trans g6
    try simp only [List.getElem_toArray, List.getElem_cons_zero, List.getElem_cons_succ]
    go_simp
    exact rfl
  try simp only [Act.put, List.setIfInBounds_toArray, List.set_cons_zero, List.set_cons_succ, List.getElem_toArray, List.getElem_cons_zero, List.getElem_cons_succ]
  refine mix.D_takeT (i := 9) (v := ?_) rfl (by kernel_rfl) (by kernel_rfl) (fun _ _ _ h => h) (Or.inl ⟨by first | rfl | simp [Region.wanted, yielded], ?_⟩) hs7 ?_
  rotate_left
  · intro w' hSw
    have z0 := (hSw.cell (p := ⟨qb, 0, none⟩) hql).trans g0
    have z1 := (hSw.cell (p := ⟨qb, 1, none⟩) hql).trans g1
    have z2 := (hSw.cell (p := ⟨qb, 2, none⟩) hql).trans g2
    have z3 := (hSw.cell (p := ⟨qb, 3, none⟩) hql).trans g3
    have z4 := (hSw.cell (p := ⟨qb, 4, none⟩) hql).trans g4
    have z5 := (hSw.cell (p := ⟨qb, 5, none⟩) hql).trans g5
    have z6 := (hSw.cell (p := ⟨qb, 6, none⟩) hql).trans g6
    try simp only [List.getElem_toArray, List.getElem_cons_zero, List.getElem_cons_succ]
    go_simp
    exact rfl
  try simp only [Act.put, List.setIfInBounds_toArray, List.set_cons_zero, List.set_cons_succ, List.getElem_toArray, List.getElem_cons_zero, List.getElem_cons_succ]
  refine mix.D_takeT (i := 10) (v := ?_) rfl (by kernel_rfl) (by kernel_rfl) (fun _ _ _ h => h) (Or.inl ⟨by first | rfl | simp [Region.wanted, yielded], ?_⟩) hs7 ?_
  rotate_left
  · intro w' hSw
    have z0 := (hSw.cell (p := ⟨qb, 0, none⟩) hql).trans g0
    have z1 := (hSw.cell (p := ⟨qb, 1, none⟩) hql).trans g1
    have z2 := (hSw.cell (p := ⟨qb, 2, none⟩) hql).trans g2
    have z3 := (hSw.cell (p := ⟨qb, 3, none⟩) hql).trans g3
    have z4 := (hSw.cell (p := ⟨qb, 4, none⟩) hql).trans g4
    have z5 := (hSw.cell (p := ⟨qb, 5, none⟩) hql).trans g5
    have z6 := (hSw.cell (p := ⟨qb, 6, none⟩) hql).trans g6
    try simp only [List.getElem_toArray, List.getElem_cons_zero, List.getElem_cons_succ]
    go_simp
    exact rfl
  try simp only [Act.put, List.setIfInBounds_toArray, List.set_cons_zero, List.set_cons_succ, List.getElem_toArray, List.getElem_cons_zero, List.getElem_cons_succ]
  refine mix.D_done (by kernel_rfl) ?_ _
  try simp only [Act.put, List.setIfInBounds_toArray, List.set_cons_zero, List.set_cons_succ, List.getElem_toArray, List.getElem_cons_zero, List.getElem_cons_succ]
  clear g0 g1 g2 g3 g4 g5 g6
  go_wp2_with fail
  go_ret
  exact ⟨rfl, H5.out.below.trans (hs7.mono H5.out.below.size)⟩

set_option maxRecDepth 100000 in
set_option maxHeartbeats 8000000 in
theorem made_ok (a b c d e f h : Int) (n : Nat) (hn : 1 ≤ n ∧ n ≤ 4096) (zs : List Int) (A : Option Addr) (cz : Nat) (w : World) (hT : Ds w w.heap.size zs A cz) (hzl : zs.length ≤ 100000) (hk : ok a b c d e f h) :
    Calls Try.prog 62 #[.agg #[.int .i64 a, .int .i64 b, .int .i64 c, .int .i64 d, .int .i64 e, .int .i64 f, .int .i64 h], .int .i64 (n : Int), .slice A zs.length cz] w fun x w' => ∃ y : PL, x = .returned (.pointer (some ⟨y.pp, 0, none⟩)) ∧ Pg w.heap.size w w' ⟨a, b, c, d, e, f, h⟩ y ⟨zs, 0, newM n (4 * (pg b c d e).toNat), newL n, -1, 0, h.toNat, 0, 0, []⟩ := by
  obtain ⟨ps, hps⟩ := Int.eq_ofNat_of_zero_le (show 0 ≤ pg b c d e by have := pg_in2 hk.2.1 hk.2.2.1 hk.2.2.2.1 hk.2.2.2.2.1; omega)
  have hpin := pg_in2 hk.2.1 hk.2.2.1 hk.2.2.2.1 hk.2.2.2.2.1
  obtain ⟨sb, hsb1⟩ : ∃ sb : Nat, sb = 4 * ps := ⟨_, rfl⟩
  have hsb : Num 124 a b c d e f h (sb : Int) := by have := refSegBytes_of a b c d e f h _ ⟨by omega, by omega⟩ (refPage_ok a b c d e f h hk); rw [show 4 * pg b c d e = (sb : Int) by omega] at this; exact this
  have hmx : max (1 : Int) (sb : Int) = (sb : Int) := by omega
  have hsz : 1 ≤ sb ∧ sb ≤ 1048576 := by omega
  obtain ⟨rm, hrm, hrm2⟩ : ∃ rm : Nat, min (max h 0) 32 = (rm : Int) ∧ rm ≤ 32 := ⟨(min (max h 0) 32).toNat, by omega, by omega⟩
  have hrm3 : rm = h.toNat := by have := hk.2.2.2.2.2.2; omega
  rw [show 4 * (pg b c d e).toNat = sb by omega, ← hrm3]
  clear hrm3 hpin hps hsb1
  have b0 : Below w.heap.size w (w.alloc (.cells #[.int .i64 a, .int .i64 b, .int .i64 c, .int .i64 d, .int .i64 e, .int .i64 f, .int .i64 h] 113)) := (Below.refl _ _).alloc (Nat.le_refl _) _
  have k0 := Blk.new w 113 #[.int .i64 a, .int .i64 b, .int .i64 c, .int .i64 d, .int .i64 e, .int .i64 f, .int .i64 h]
  go_enter Try.func62, Try.ntmps62
  go_upto_region 1 with (fail)
  generalize w.alloc (.cells #[.int .i64 a, .int .i64 b, .int .i64 c, .int .i64 d, .int .i64 e, .int .i64 f, .int .i64 h] 113) = W0 at b0 k0 ⊢
  obtain ⟨qb, hqb⟩ : ∃ qb, w.heap.size = qb := ⟨_, rfl⟩
  rw [hqb] at k0 ⊢
  have hql := k0.lt
  obtain ⟨g0, g1, g2, g3, g4, g5, g6⟩ : W0.cell? ⟨qb, 0, none⟩ = _ ∧ W0.cell? ⟨qb, 1, none⟩ = _ ∧ W0.cell? ⟨qb, 2, none⟩ = _ ∧ W0.cell? ⟨qb, 3, none⟩ = _ ∧ W0.cell? ⟨qb, 4, none⟩ = _ ∧ W0.cell? ⟨qb, 5, none⟩ = _ ∧ W0.cell? ⟨qb, 6, none⟩ = _ := ⟨k0.cell 0, k0.cell 1, k0.cell 2, k0.cell 3, k0.cell 4, k0.cell 5, k0.cell 6⟩
  simp only [List.getElem?_toArray, List.getElem?_cons_zero, List.getElem?_cons_succ] at g0 g1 g2 g3 g4 g5 g6
  have hS0 : Below W0.heap.size W0 W0.drew := (Below.refl _ _).drew
  refine mix.region_D (fun w' => Below W0.heap.size W0 w') (fun _ => false) (by kernel_rfl) ?_
  generalize W0.drew = Wd at *
  refine mix.D_takeT (i := 1) (v := ?_) rfl (by kernel_rfl) (by kernel_rfl) (fun _ _ _ h => h) (Or.inl ⟨by first | rfl | simp [Region.wanted, yielded], ?_⟩) hS0 ?_
  rotate_left
  · intro w' hSw
    have z0 := (hSw.cell (p := ⟨qb, 0, none⟩) hql).trans g0
    have z1 := (hSw.cell (p := ⟨qb, 1, none⟩) hql).trans g1
    have z2 := (hSw.cell (p := ⟨qb, 2, none⟩) hql).trans g2
    have z3 := (hSw.cell (p := ⟨qb, 3, none⟩) hql).trans g3
    have z4 := (hSw.cell (p := ⟨qb, 4, none⟩) hql).trans g4
    have z5 := (hSw.cell (p := ⟨qb, 5, none⟩) hql).trans g5
    have z6 := (hSw.cell (p := ⟨qb, 6, none⟩) hql).trans g6
    try simp only [List.getElem_toArray, List.getElem_cons_zero, List.getElem_cons_succ]
    go_simp
    exact rfl
  try simp only [Act.put, List.setIfInBounds_toArray, List.set_cons_zero, List.set_cons_succ, List.getElem_toArray, List.getElem_cons_zero, List.getElem_cons_succ]
  refine mix.D_takeT (i := 2) (v := ?_) rfl (by kernel_rfl) (by kernel_rfl) (fun _ _ _ h => h) (Or.inl ⟨by first | rfl | simp [Region.wanted, yielded], ?_⟩) hS0 ?_
  rotate_left
  · intro w' hSw
    have z0 := (hSw.cell (p := ⟨qb, 0, none⟩) hql).trans g0
    have z1 := (hSw.cell (p := ⟨qb, 1, none⟩) hql).trans g1
    have z2 := (hSw.cell (p := ⟨qb, 2, none⟩) hql).trans g2
    have z3 := (hSw.cell (p := ⟨qb, 3, none⟩) hql).trans g3
    have z4 := (hSw.cell (p := ⟨qb, 4, none⟩) hql).trans g4
    have z5 := (hSw.cell (p := ⟨qb, 5, none⟩) hql).trans g5
    have z6 := (hSw.cell (p := ⟨qb, 6, none⟩) hql).trans g6
    try simp only [List.getElem_toArray, List.getElem_cons_zero, List.getElem_cons_succ]
    go_simp
    exact rfl
  try simp only [Act.put, List.setIfInBounds_toArray, List.set_cons_zero, List.set_cons_succ, List.getElem_toArray, List.getElem_cons_zero, List.getElem_cons_succ]
  refine mix.D_op (k := 0) rfl rfl (by kernel_rfl) (fun K' hK => ?_)
  simp only [List.getElem_toArray, List.getElem_cons_zero, List.getElem_cons_succ]
  go_wp2_with fail
  refine (powers.new_ok Wd).mono ?_
  rintro x w1 ⟨rfl, hP1, hb1, hz1⟩
  have hs1 : Below W0.heap.size W0 w1 := hS0.trans (hb1.mono hS0.size)
  refine hK.out _ _ (fun _ => hs1) ?_
  clear hK K'
  try simp only [Act.put, List.setIfInBounds_toArray, List.set_cons_zero, List.set_cons_succ]
  refine mix.D_op (k := 3) rfl rfl (by kernel_rfl) (fun K' hK => ?_)
  simp only [List.getElem_toArray, List.getElem_cons_zero, List.getElem_cons_succ]
  go_wp2_with fail
  refine (hsb w1).mono ?_
  rintro x w2 ⟨rfl, hb2⟩
  have hs2 : Below W0.heap.size W0 w2 := hs1.trans (hb2.mono hs1.size)
  refine hK.out _ _ (fun _ => hs2) ?_
  clear hK K'
  try simp only [Act.put, List.setIfInBounds_toArray, List.set_cons_zero, List.set_cons_succ]
  refine mix.D_op (k := 4) rfl rfl (by kernel_rfl) (fun K' hK => ?_)
  simp only [List.getElem_toArray, List.getElem_cons_zero, List.getElem_cons_succ]
  go_wp2_with fail
  refine hK.out _ _ (fun _ => hs2) ?_
  clear hK K'
  try simp only [Act.put, List.setIfInBounds_toArray, List.set_cons_zero, List.set_cons_succ]
  refine mix.D_op (k := 5) rfl rfl (by kernel_rfl) (fun K' hK => ?_)
  simp only [List.getElem_toArray, List.getElem_cons_zero, List.getElem_cons_succ]
  go_wp2_with fail
  try rw [hmx]
  refine (mnew_ok Wd.heap.size n sb hn hsz w2 (by have := hb2.size; omega)).mono ?_
  rintro x w3 ⟨g, rfl, hM3, hb3⟩
  have hs3 : Below W0.heap.size W0 w3 := hs2.trans (hb3.mono hs2.size)
  refine hK.out _ _ (fun _ => hs3) ?_
  clear hK K'
  try simp only [Act.put, List.setIfInBounds_toArray, List.set_cons_zero, List.set_cons_succ]
  refine mix.D_takeT (i := 6) (v := ?_) rfl (by kernel_rfl) (by kernel_rfl) (fun _ _ _ h => h) (Or.inl ⟨by first | rfl | simp [Region.wanted, yielded], ?_⟩) hs3 ?_
  rotate_left
  · intro w' hSw
    have z0 := (hSw.cell (p := ⟨qb, 0, none⟩) hql).trans g0
    have z1 := (hSw.cell (p := ⟨qb, 1, none⟩) hql).trans g1
    have z2 := (hSw.cell (p := ⟨qb, 2, none⟩) hql).trans g2
    have z3 := (hSw.cell (p := ⟨qb, 3, none⟩) hql).trans g3
    have z4 := (hSw.cell (p := ⟨qb, 4, none⟩) hql).trans g4
    have z5 := (hSw.cell (p := ⟨qb, 5, none⟩) hql).trans g5
    have z6 := (hSw.cell (p := ⟨qb, 6, none⟩) hql).trans g6
    try simp only [List.getElem_toArray, List.getElem_cons_zero, List.getElem_cons_succ]
    go_simp
    exact rfl
  try simp only [Act.put, List.setIfInBounds_toArray, List.set_cons_zero, List.set_cons_succ, List.getElem_toArray, List.getElem_cons_zero, List.getElem_cons_succ]
  refine mix.D_takeT (i := 7) (v := ?_) rfl (by kernel_rfl) (by kernel_rfl) (fun _ _ _ h => h) (Or.inl ⟨by first | rfl | simp [Region.wanted, yielded], ?_⟩) hs3 ?_
  rotate_left
  · intro w' hSw
    have z0 := (hSw.cell (p := ⟨qb, 0, none⟩) hql).trans g0
    have z1 := (hSw.cell (p := ⟨qb, 1, none⟩) hql).trans g1
    have z2 := (hSw.cell (p := ⟨qb, 2, none⟩) hql).trans g2
    have z3 := (hSw.cell (p := ⟨qb, 3, none⟩) hql).trans g3
    have z4 := (hSw.cell (p := ⟨qb, 4, none⟩) hql).trans g4
    have z5 := (hSw.cell (p := ⟨qb, 5, none⟩) hql).trans g5
    have z6 := (hSw.cell (p := ⟨qb, 6, none⟩) hql).trans g6
    try simp only [List.getElem_toArray, List.getElem_cons_zero, List.getElem_cons_succ]
    go_simp
    exact rfl
  try simp only [Act.put, List.setIfInBounds_toArray, List.set_cons_zero, List.set_cons_succ, List.getElem_toArray, List.getElem_cons_zero, List.getElem_cons_succ]
  refine mix.D_takeT (i := 8) (v := ?_) rfl (by kernel_rfl) (by kernel_rfl) (fun _ _ _ h => h) (Or.inl ⟨by first | rfl | simp [Region.wanted, yielded], ?_⟩) hs3 ?_
  rotate_left
  · intro w' hSw
    have z0 := (hSw.cell (p := ⟨qb, 0, none⟩) hql).trans g0
    have z1 := (hSw.cell (p := ⟨qb, 1, none⟩) hql).trans g1
    have z2 := (hSw.cell (p := ⟨qb, 2, none⟩) hql).trans g2
    have z3 := (hSw.cell (p := ⟨qb, 3, none⟩) hql).trans g3
    have z4 := (hSw.cell (p := ⟨qb, 4, none⟩) hql).trans g4
    have z5 := (hSw.cell (p := ⟨qb, 5, none⟩) hql).trans g5
    have z6 := (hSw.cell (p := ⟨qb, 6, none⟩) hql).trans g6
    try simp only [List.getElem_toArray, List.getElem_cons_zero, List.getElem_cons_succ]
    go_simp
    exact rfl
  try simp only [Act.put, List.setIfInBounds_toArray, List.set_cons_zero, List.set_cons_succ, List.getElem_toArray, List.getElem_cons_zero, List.getElem_cons_succ]
  refine mix.D_takeT (i := 9) (v := ?_) rfl (by kernel_rfl) (by kernel_rfl) (fun _ _ _ h => h) (Or.inl ⟨by first | rfl | simp [Region.wanted, yielded], ?_⟩) hs3 ?_
  rotate_left
  · intro w' hSw
    have z0 := (hSw.cell (p := ⟨qb, 0, none⟩) hql).trans g0
    have z1 := (hSw.cell (p := ⟨qb, 1, none⟩) hql).trans g1
    have z2 := (hSw.cell (p := ⟨qb, 2, none⟩) hql).trans g2
    have z3 := (hSw.cell (p := ⟨qb, 3, none⟩) hql).trans g3
    have z4 := (hSw.cell (p := ⟨qb, 4, none⟩) hql).trans g4
    have z5 := (hSw.cell (p := ⟨qb, 5, none⟩) hql).trans g5
    have z6 := (hSw.cell (p := ⟨qb, 6, none⟩) hql).trans g6
    try simp only [List.getElem_toArray, List.getElem_cons_zero, List.getElem_cons_succ]
    go_simp
    exact rfl
  try simp only [Act.put, List.setIfInBounds_toArray, List.set_cons_zero, List.set_cons_succ, List.getElem_toArray, List.getElem_cons_zero, List.getElem_cons_succ]
  refine mix.D_takeT (i := 10) (v := ?_) rfl (by kernel_rfl) (by kernel_rfl) (fun _ _ _ h => h) (Or.inl ⟨by first | rfl | simp [Region.wanted, yielded], ?_⟩) hs3 ?_
  rotate_left
  · intro w' hSw
    have z0 := (hSw.cell (p := ⟨qb, 0, none⟩) hql).trans g0
    have z1 := (hSw.cell (p := ⟨qb, 1, none⟩) hql).trans g1
    have z2 := (hSw.cell (p := ⟨qb, 2, none⟩) hql).trans g2
    have z3 := (hSw.cell (p := ⟨qb, 3, none⟩) hql).trans g3
    have z4 := (hSw.cell (p := ⟨qb, 4, none⟩) hql).trans g4
    have z5 := (hSw.cell (p := ⟨qb, 5, none⟩) hql).trans g5
    have z6 := (hSw.cell (p := ⟨qb, 6, none⟩) hql).trans g6
    try simp only [List.getElem_toArray, List.getElem_cons_zero, List.getElem_cons_succ]
    go_simp
    exact rfl
  try simp only [Act.put, List.setIfInBounds_toArray, List.set_cons_zero, List.set_cons_succ, List.getElem_toArray, List.getElem_cons_zero, List.getElem_cons_succ]
  refine mix.D_done (by kernel_rfl) ?_ _
  try simp only [Act.put, List.setIfInBounds_toArray, List.set_cons_zero, List.set_cons_succ, List.getElem_toArray, List.getElem_cons_zero, List.getElem_cons_succ]
  obtain ⟨pb, hpb⟩ : ∃ pb, Wd.heap.size = pb := ⟨_, rfl⟩
  rw [hpb] at hP1 hM3 ⊢
  have g6' := (hs3.cell (p := ⟨qb, 6, none⟩) hql).trans g6
  have hcn := caches.new_ok rm w3 hrm2

  go_upto_region 3 with (go_at_call 31; refine hcn.mono ?_; rintro x w4 ⟨cp, cg, rfl, hC4, hb4⟩)
  have hbA : Below w.heap.size w w4 := b0.trans ((hs3.trans (hb4.mono hs3.size)).mono b0.size)
  have hdn := dice.new_ok A cz zs w4 (hT.at_world hbA).1 hzl
  go_upto_region 4 with (go_at_call 56; refine hdn.mono ?_; rintro x W5 ⟨gd, gl, rfl, hD5, hb5⟩)
  have hB5 : Below W0.heap.size W0 W5 := (hs3.trans (hb4.mono hs3.size)).trans (hb5.mono (hs3.trans (hb4.mono hs3.size)).size)
  have H5 := vers.lay (show MkI w W5 pb g n sb rm zs cp cg gd gl w2.heap.size w3.heap.size w4.heap.size from by
    have e1 : Below w1.heap.size w1 W5 := ((hb2.trans (hb3.mono hb2.size)).trans (hb4.mono (hb2.trans (hb3.mono hb2.size)).size)).trans (hb5.mono ((hb2.trans (hb3.mono hb2.size)).trans (hb4.mono (hb2.trans (hb3.mono hb2.size)).size)).size)
    have e3 : Below w3.heap.size w3 W5 := hb4.trans (hb5.mono hb4.size)
    obtain ⟨sb9, vs, vp, hM⟩ := hM3
    have s1 := hS0.size; have s2 := hb2.size; have s3 := hb3.size; have s4 := hb4.size; have s5 := hb5.size; have s0 := b0.size
    refine ⟨b0.trans (hB5.mono b0.size), hP1.below e1 hP1.lt, ⟨sb9, vs, vp, hM.agree (fun k hk => e3.block k hk.2) e3.size⟩, hC4.below hb5, hD5, ?_⟩
    omega)
  obtain ⟨y0, y1, y2, y3, y4, y5, y6⟩ : W5.cell? ⟨qb, 0, none⟩ = _ ∧ W5.cell? ⟨qb, 1, none⟩ = _ ∧ W5.cell? ⟨qb, 2, none⟩ = _ ∧ W5.cell? ⟨qb, 3, none⟩ = _ ∧ W5.cell? ⟨qb, 4, none⟩ = _ ∧ W5.cell? ⟨qb, 5, none⟩ = _ ∧ W5.cell? ⟨qb, 6, none⟩ = _ := ⟨(hB5.cell hql).trans g0, (hB5.cell hql).trans g1, (hB5.cell hql).trans g2, (hB5.cell hql).trans g3, (hB5.cell hql).trans g4, (hB5.cell hql).trans g5, (hB5.cell hql).trans g6⟩
  have hql5 : qb < W5.heap.size := Nat.lt_of_lt_of_le hql hB5.size
  clear hcn hdn hsb hmx g0 g1 g2 g3 g4 g5 g6 g6' hP1 hM3 hC4 hD5 hT hs1 hs2 hs3 hb1 hb2 hb3 hb4 hb5 hbA hB5 hS0 b0 k0 hql hz1 hpb hqb
  have g0 := y0
  have g1 := y1
  have g2 := y2
  have g3 := y3
  have g4 := y4
  have g5 := y5
  have g6 := y6
  have hql := hql5
  clear y0 y1 y2 y3 y4 y5 y6 hql5
  have HM := vers.lay H5.out.md
  have HS := vers.lay (show w3.heap.size ≤ W5.heap.size from H5.out.sz.2.2.2.2.1)
  go_upto_region 6 with (fail)
  have hS0 : Below W5.heap.size W5 W5.drew := (Below.refl _ _).drew
  refine mix.region_D (fun w' => Below W5.heap.size W5 w') (fun _ => false) (by kernel_rfl) ?_
  generalize W5.drew = Wd at *
  refine mix.D_takeT (i := 0) (v := ?_) rfl (by kernel_rfl) (by kernel_rfl) (fun _ _ _ h => h) (Or.inl ⟨by first | rfl | simp [Region.wanted, yielded], ?_⟩) hS0 ?_
  rotate_left
  · intro w' hSw
    have z0 := (hSw.cell (p := ⟨qb, 0, none⟩) hql).trans g0
    have z1 := (hSw.cell (p := ⟨qb, 1, none⟩) hql).trans g1
    have z2 := (hSw.cell (p := ⟨qb, 2, none⟩) hql).trans g2
    have z3 := (hSw.cell (p := ⟨qb, 3, none⟩) hql).trans g3
    have z4 := (hSw.cell (p := ⟨qb, 4, none⟩) hql).trans g4
    have z5 := (hSw.cell (p := ⟨qb, 5, none⟩) hql).trans g5
    have z6 := (hSw.cell (p := ⟨qb, 6, none⟩) hql).trans g6
    try simp only [List.getElem_toArray, List.getElem_cons_zero, List.getElem_cons_succ]
    go_simp
    exact rfl
  try simp only [Act.put, List.setIfInBounds_toArray, List.set_cons_zero, List.set_cons_succ, List.getElem_toArray, List.getElem_cons_zero, List.getElem_cons_succ]
  refine mix.D_takeT (i := 1) (v := ?_) rfl (by kernel_rfl) (by kernel_rfl) (fun _ _ _ h => h) (Or.inl ⟨by first | rfl | simp [Region.wanted, yielded], ?_⟩) hS0 ?_
  rotate_left
  · intro w' hSw
    have z0 := (hSw.cell (p := ⟨qb, 0, none⟩) hql).trans g0
    have z1 := (hSw.cell (p := ⟨qb, 1, none⟩) hql).trans g1
    have z2 := (hSw.cell (p := ⟨qb, 2, none⟩) hql).trans g2
    have z3 := (hSw.cell (p := ⟨qb, 3, none⟩) hql).trans g3
    have z4 := (hSw.cell (p := ⟨qb, 4, none⟩) hql).trans g4
    have z5 := (hSw.cell (p := ⟨qb, 5, none⟩) hql).trans g5
    have z6 := (hSw.cell (p := ⟨qb, 6, none⟩) hql).trans g6
    try simp only [List.getElem_toArray, List.getElem_cons_zero, List.getElem_cons_succ]
    go_simp
    exact rfl
  try simp only [Act.put, List.setIfInBounds_toArray, List.set_cons_zero, List.set_cons_succ, List.getElem_toArray, List.getElem_cons_zero, List.getElem_cons_succ]
  refine mix.D_takeT (i := 3) (v := ?_) rfl (by kernel_rfl) (by kernel_rfl) (fun _ _ _ h => h) (Or.inl ⟨by first | rfl | simp [Region.wanted, yielded], ?_⟩) hS0 ?_
  rotate_left
  · intro w' hSw
    have z0 := (hSw.cell (p := ⟨qb, 0, none⟩) hql).trans g0
    have z1 := (hSw.cell (p := ⟨qb, 1, none⟩) hql).trans g1
    have z2 := (hSw.cell (p := ⟨qb, 2, none⟩) hql).trans g2
    have z3 := (hSw.cell (p := ⟨qb, 3, none⟩) hql).trans g3
    have z4 := (hSw.cell (p := ⟨qb, 4, none⟩) hql).trans g4
    have z5 := (hSw.cell (p := ⟨qb, 5, none⟩) hql).trans g5
    have z6 := (hSw.cell (p := ⟨qb, 6, none⟩) hql).trans g6
    try simp only [List.getElem_toArray, List.getElem_cons_zero, List.getElem_cons_succ]
    go_simp
    exact rfl
  try simp only [Act.put, List.setIfInBounds_toArray, List.set_cons_zero, List.set_cons_succ, List.getElem_toArray, List.getElem_cons_zero, List.getElem_cons_succ]
  refine mix.D_takeT (i := 4) (v := ?_) rfl (by kernel_rfl) (by kernel_rfl) (fun _ _ _ h => h) (Or.inl ⟨by first | rfl | simp [Region.wanted, yielded], ?_⟩) hS0 ?_
  rotate_left
  · intro w' hSw
    have z0 := (hSw.cell (p := ⟨qb, 0, none⟩) hql).trans g0
    have z1 := (hSw.cell (p := ⟨qb, 1, none⟩) hql).trans g1
    have z2 := (hSw.cell (p := ⟨qb, 2, none⟩) hql).trans g2
    have z3 := (hSw.cell (p := ⟨qb, 3, none⟩) hql).trans g3
    have z4 := (hSw.cell (p := ⟨qb, 4, none⟩) hql).trans g4
    have z5 := (hSw.cell (p := ⟨qb, 5, none⟩) hql).trans g5
    have z6 := (hSw.cell (p := ⟨qb, 6, none⟩) hql).trans g6
    try simp only [List.getElem_toArray, List.getElem_cons_zero, List.getElem_cons_succ]
    go_simp
    exact rfl
  try simp only [Act.put, List.setIfInBounds_toArray, List.set_cons_zero, List.set_cons_succ, List.getElem_toArray, List.getElem_cons_zero, List.getElem_cons_succ]
  refine mix.D_op (k := 2) rfl rfl (by kernel_rfl) (fun K' hK => ?_)
  simp only [List.getElem_toArray, List.getElem_cons_zero, List.getElem_cons_succ]
  go_wp2_with fail
  have hM6 : Md Wd (fun k => w2.heap.size ≤ k ∧ k < w3.heap.size) pb g (newM n sb) := by
    obtain ⟨sb9, vs, vp, hM⟩ := HM.out
    exact ⟨sb9, vs, vp, hM.agree (fun k hk => hS0.block k (by have := HS.out; omega)) hS0.size⟩
  refine (segs.new_ok hM6).mono ?_
  rintro x w6 ⟨lg, ab, c6, rfl, hL6, hb6, hl6, ha6⟩
  have hs6 : Below W5.heap.size W5 w6 := hS0.trans (hb6.mono hS0.size)
  refine hK.out _ _ (fun _ => hs6) ?_
  clear hK K'
  try simp only [Act.put, List.setIfInBounds_toArray, List.set_cons_zero, List.set_cons_succ]
  refine mix.D_op (k := 5) rfl rfl (by kernel_rfl) (fun K' hK => ?_)
  simp only [List.getElem_toArray, List.getElem_cons_zero, List.getElem_cons_succ]
  go_wp2_with fail
  refine (pnew_ok a b c d e f h ⟨lg, 0, none⟩ ⟨cp, 0, none⟩ ⟨gd, 0, none⟩ w6 hk).mono ?_
  rintro x w7 ⟨pp, rfl, hpp7, hB7, hb7⟩
  have hs7 : Below W5.heap.size W5 w7 := hs6.trans (hb7.mono hs6.size)
  refine hK.out _ _ (fun _ => hs7) ?_
  clear hK K'
  try simp only [Act.put, List.setIfInBounds_toArray, List.set_cons_zero, List.set_cons_succ]
  refine mix.D_takeT (i := 6) (v := ?_) rfl (by kernel_rfl) (by kernel_rfl) (fun _ _ _ h => h) (Or.inl ⟨by first | rfl | simp [Region.wanted, yielded], ?_⟩) hs7 ?_
  rotate_left
  · intro w' hSw
    have z0 := (hSw.cell (p := ⟨qb, 0, none⟩) hql).trans g0
    have z1 := (hSw.cell (p := ⟨qb, 1, none⟩) hql).trans g1
    have z2 := (hSw.cell (p := ⟨qb, 2, none⟩) hql).trans g2
    have z3 := (hSw.cell (p := ⟨qb, 3, none⟩) hql).trans g3
    have z4 := (hSw.cell (p := ⟨qb, 4, none⟩) hql).trans g4
    have z5 := (hSw.cell (p := ⟨qb, 5, none⟩) hql).trans g5
    have z6 := (hSw.cell (p := ⟨qb, 6, none⟩) hql).trans g6
    try simp only [List.getElem_toArray, List.getElem_cons_zero, List.getElem_cons_succ]
    go_simp
    exact rfl
  try simp only [Act.put, List.setIfInBounds_toArray, List.set_cons_zero, List.set_cons_succ, List.getElem_toArray, List.getElem_cons_zero, List.getElem_cons_succ]
  refine mix.D_takeT (i := 7) (v := ?_) rfl (by kernel_rfl) (by kernel_rfl) (fun _ _ _ h => h) (Or.inl ⟨by first | rfl | simp [Region.wanted, yielded], ?_⟩) hs7 ?_
  rotate_left
  · intro w' hSw
    have z0 := (hSw.cell (p := ⟨qb, 0, none⟩) hql).trans g0
    have z1 := (hSw.cell (p := ⟨qb, 1, none⟩) hql).trans g1
    have z2 := (hSw.cell (p := ⟨qb, 2, none⟩) hql).trans g2
    have z3 := (hSw.cell (p := ⟨qb, 3, none⟩) hql).trans g3
    have z4 := (hSw.cell (p := ⟨qb, 4, none⟩) hql).trans g4
    have z5 := (hSw.cell (p := ⟨qb, 5, none⟩) hql).trans g5
    have z6 := (hSw.cell (p := ⟨qb, 6, none⟩) hql).trans g6
    try simp only [List.getElem_toArray, List.getElem_cons_zero, List.getElem_cons_succ]
    go_simp
    exact rfl
  try simp only [Act.put, List.setIfInBounds_toArray, List.set_cons_zero, List.set_cons_succ, List.getElem_toArray, List.getElem_cons_zero, List.getElem_cons_succ]
  refine mix.D_takeT (i := 8) (v := ?_) rfl (by kernel_rfl) (by kernel_rfl) (fun _ _ _ h => h) (Or.inl ⟨by first | rfl | simp [Region.wanted, yielded], ?_⟩) hs7 ?_
  rotate_left
  · intro w' hSw
    have z0 := (hSw.cell (p := ⟨qb, 0, none⟩) hql).trans g0
    have z1 := (hSw.cell (p := ⟨qb, 1, none⟩) hql).trans g1
    have z2 := (hSw.cell (p := ⟨qb, 2, none⟩) hql).trans g2
    have z3 := (hSw.cell (p := ⟨qb, 3, none⟩) hql).trans g3
    have z4 := (hSw.cell (p := ⟨qb, 4, none⟩) hql).trans g4
    have z5 := (hSw.cell (p := ⟨qb, 5, none⟩) hql).trans g5
    have z6 := (hSw.cell (p := ⟨qb, 6, none⟩) hql).trans g6
    try simp only [List.getElem_toArray, List.getElem_cons_zero, List.getElem_cons_succ]
    go_simp
    exact rfl
  try simp only [Act.put, List.setIfInBounds_toArray, List.set_cons_zero, List.set_cons_succ, List.getElem_toArray, List.getElem_cons_zero, List.getElem_cons_succ]
  refine mix.D_takeT (i := 9) (v := ?_) rfl (by kernel_rfl) (by kernel_rfl) (fun _ _ _ h => h) (Or.inl ⟨by first | rfl | simp [Region.wanted, yielded], ?_⟩) hs7 ?_
  rotate_left
  · intro w' hSw
    have z0 := (hSw.cell (p := ⟨qb, 0, none⟩) hql).trans g0
    have z1 := (hSw.cell (p := ⟨qb, 1, none⟩) hql).trans g1
    have z2 := (hSw.cell (p := ⟨qb, 2, none⟩) hql).trans g2
    have z3 := (hSw.cell (p := ⟨qb, 3, none⟩) hql).trans g3
    have z4 := (hSw.cell (p := ⟨qb, 4, none⟩) hql).trans g4
    have z5 := (hSw.cell (p := ⟨qb, 5, none⟩) hql).trans g5
    have z6 := (hSw.cell (p := ⟨qb, 6, none⟩) hql).trans g6
    try simp only [List.getElem_toArray, List.getElem_cons_zero, List.getElem_cons_succ]
    go_simp
    exact rfl
  try simp only [Act.put, List.setIfInBounds_toArray, List.set_cons_zero, List.set_cons_succ, List.getElem_toArray, List.getElem_cons_zero, List.getElem_cons_succ]
  refine mix.D_takeT (i := 10) (v := ?_) rfl (by kernel_rfl) (by kernel_rfl) (fun _ _ _ h => h) (Or.inl ⟨by first | rfl | simp [Region.wanted, yielded], ?_⟩) hs7 ?_
  rotate_left
  · intro w' hSw
    have z0 := (hSw.cell (p := ⟨qb, 0, none⟩) hql).trans g0
    have z1 := (hSw.cell (p := ⟨qb, 1, none⟩) hql).trans g1
    have z2 := (hSw.cell (p := ⟨qb, 2, none⟩) hql).trans g2
    have z3 := (hSw.cell (p := ⟨qb, 3, none⟩) hql).trans g3
    have z4 := (hSw.cell (p := ⟨qb, 4, none⟩) hql).trans g4
    have z5 := (hSw.cell (p := ⟨qb, 5, none⟩) hql).trans g5
    have z6 := (hSw.cell (p := ⟨qb, 6, none⟩) hql).trans g6
    try simp only [List.getElem_toArray, List.getElem_cons_zero, List.getElem_cons_succ]
    go_simp
    exact rfl
  try simp only [Act.put, List.setIfInBounds_toArray, List.set_cons_zero, List.set_cons_succ, List.getElem_toArray, List.getElem_cons_zero, List.getElem_cons_succ]
  refine mix.D_done (by kernel_rfl) ?_ _
  try simp only [Act.put, List.setIfInBounds_toArray, List.set_cons_zero, List.set_cons_succ, List.getElem_toArray, List.getElem_cons_zero, List.getElem_cons_succ]
  clear g0 g1 g2 g3 g4 g5 g6
  go_wp2_with fail
  go_ret
  have z5 := H5.out
  obtain ⟨q1, q2, q3, q4, q5, q6⟩ := z5.sz
  have hbw : Below w.heap.size w w7 := z5.below.trans (hs7.mono z5.below.size)
  have t6 := hs6.size
  have t7 := hs7.size
  have t0 := hS0.size
  have tw := z5.below.size
  have hL7 := hL6.below hb7
  rw [show (newM n sb).segs.length = n from List.length_replicate ..] at hL7
  obtain ⟨tl1, tl2⟩ := hL6.lt
  have tp := hB7.lt
  have td := z5.dice.self.lt
  have te := z5.dice.list.lt
  have tf := z5.dice.low
  have tg := z5.dice.lowl
  have tpw := z5.pw.lt
  obtain ⟨sb9, vs, vp, hM9⟩ := z5.md
  have hm7 : Md w7 (fun k => w2.heap.size ≤ k ∧ k < w3.heap.size) pb g (newM n sb) := ⟨sb9, vs, vp, hM9.agree (fun k hk => hs7.block k (by omega)) hs7.size⟩
  refine ⟨⟨pp, gd, gl, pb, g, lg, ab, c6, cp, cg, fun k => w2.heap.size ≤ k ∧ k < w3.heap.size, fun k => w3.heap.size ≤ k ∧ k < w4.heap.size⟩, rfl, ⟨hB7, (z5.dice.keep (hs7.block _ td) (hs7.block _ te)).mono (by omega), ⟨hm7, z5.pw.below hs7 tpw, (show powers.In (-1) from ⟨by decide, by decide⟩), hL7, ⟨⟨fun e => by have h1 : lg < w3.heap.size := e.2; omega, by simp only; omega⟩, ⟨fun e => by have h1 : ab < w3.heap.size := e.2; omega, by simp only; omega⟩⟩, fun k hk => ?_, hbw, Nat.le_refl _, ?_⟩, z5.ca.below hs7, ?_, fun b hb => ?_, ⟨fun e => ?_, fun e => ?_, fun e => ?_⟩, fun b hb => ⟨fun e => ?_, fun e => ?_⟩, fun b hb e => ?_⟩⟩
  · rcases hk with e | e | e | e
    · have := e.1; omega
    · simp only at e; omega
    · simp only at e; omega
    · simp only at e; omega
  · show (newL n).ac.length = (newM n sb).segs.length
    simp [newL, newM]
  · show w.heap.size ≤ pp
    omega
  · have := hb.1
    omega
  · rcases e with e | e <;> simp only at e <;> omega
  · rcases e with e | e | e | e
    · have := e.2; simp only at this; omega
    · simp only at e; omega
    · simp only at e; omega
    · simp only at e; omega
  · have := e.2
    simp only at this
    omega
  · rcases hb with h1 | h1 <;> simp only at h1 <;> rcases e with e | e | e | e
    · have := e.2; omega
    · simp only at e; omega
    · simp only at e; omega
    · simp only at e; omega
    · have := e.2; omega
    · simp only at e; omega
    · simp only at e; omega
    · simp only at e; omega
  · rcases hb with h1 | h1 <;> simp only at h1 <;> (have := e.2; omega)
  · have h2 := e.1
    have h3 := e.2
    rcases hb with h1 | h1 | h1 | h1
    · have := h1.2; omega
    · simp only at h1; omega
    · simp only at h1; omega
    · simp only at h1; omega

end Go.Proofs.Ytoenkkbcpafanaa.pags
