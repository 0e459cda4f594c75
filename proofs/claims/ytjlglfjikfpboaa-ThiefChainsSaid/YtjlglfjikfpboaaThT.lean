/- ThiefGets: the walk. -/
import Derived.Test.YtjlglfjikfpboaaThM
import Derived.Test.YtjlglfjikfpboaaThS


namespace Go.Proofs.Ytjlglfjikfpboaa.mix
set_option linter.unusedVariables false
set_option linter.unusedSimpArgs false
open Go.RowKit Go.Proofs.Ytjlglfjikfpboaa.base
section
variable {P : Program} {ops : Array Oper} {md : Region.Mode} {S : World → Prop} {D : Nat → Bool} {Q : Exit → Act → World → Prop}
theorem D_opG {k : Nat} {o : Oper} {fuel : Nat} {listed : Array Bool} {a : Act} {w : World} (ho : ops[k]? = some o) (hr : (Region.ready md ops listed == [k]) = true) (hw : Region.wanted o (yielded ops a.tmps) = true)
    (h : ∀ K' : Act → World → Prop, Shut (∀ a' w', (D k = false → S w') → wpAnyD P md ops Q S D fuel (listed.setIfInBounds k true) a' w' → K' a' w') → Oper.wp P o a w K' Q) : wpAnyD P md ops Q S D (fuel + 1) listed a w :=
  D_one ho hr (fun K' hK => by rw [if_pos hw]; exact h K' hK)
end
end Go.Proofs.Ytjlglfjikfpboaa.mix
namespace Go.Proofs.Ytjlglfjikfpboaa.thiefs
open Go.RowKit Go.Shelf Go.Lib Go.Proofs.Ytjlglfjikfpboaa.base Go.Proofs.Ytjlglfjikfpboaa.tm Go.Proofs.Ytjlglfjikfpboaa.lies Go.Proofs.Ytjlglfjikfpboaa.copies Go.Proofs.Ytjlglfjikfpboaa.reads Go.Proofs.Ytjlglfjikfpboaa.texts

set_option maxRecDepth 100000 in
set_option maxHeartbeats 2000000 in
theorem law_gets (l : List ByteArray) (A : Option Addr) (c : Nat) (s : ByteArray) (w : World) (hT : Ts w w.heap.size l A c) (hs : s.size ≤ maxLen) :
    Calls Try.prog 3 #[.slice A l.length c, .string s] w fun e w' => e = .returned (.bool true) ∧ Below w.heap.size w w' := by
  go_enter Try.func3, Try.ntmps3
  go_wp2_with fail
  refine (short_any l A c 60 w hT (by omega)).mono ?_
  rintro e w0 ⟨c1, rfl, hL, rfl⟩
  have h60 : (l.take 60).length ≤ 60 := by rw [List.length_take]; omega
  generalize l.take 60 = L at *
  clear hT
  go_wp2_with fail
  refine (from_ok L A c1 w0 hL (by omega)).mono ?_
  rintro e w1 ⟨K0, A0, D0, u0, u1, u2, F, rfl, hb1, lo0, hok, hR1⟩
  obtain ⟨R0, m0, d0, e0⟩ := ints_shape hR1.k
  obtain ⟨R1, m1, d1, e1⟩ := txt_shape hR1.a
  obtain ⟨R2, d2, xs2, e2, hdc, _, _, _⟩ := hR1.d.rd
  subst e0; subst e1; subst e2
  have hDl : D0.length ≤ 1000000 := by have h1 := len_le_size D0; have h2 := hok.cnt; have h3 := pcs_size L; omega
  have bW := (Below.refl w1.heap.size w1).alloc (Nat.le_refl _) (.cells #[.slice R0 m0 d0, .slice R1 m1 d1, .slice R2 D0.length d2] 27)
  have hz := Blk.new w1 27 #[.slice R0 m0 d0, .slice R1 m1 d1, .slice R2 D0.length d2]
  have hLW := (hL.now hb1).now bW
  have hRW := hR1.below bW
  have bb0 := hb1.trans (bW.mono hb1.size)
  obtain ⟨bb, hBB⟩ : ∃ bb, decide (bn s ∈ A0) = bb := ⟨_, rfl⟩
  have HBB := lies.lay hBB
  clear hBB hR1
  go_wp2_with fail
  generalize w1.alloc (.cells #[.slice R0 m0 d0, .slice R1 m1 d1, .slice R2 D0.length d2] 27) = W at *
  have z0 := hz.cell 0
  have z1 := hz.cell 1
  have z2 := hz.cell 2
  simp at z0 z1 z2
  have hzl := hz.lt
  have hS0 : Below W.heap.size W W.drew := (Below.refl _ _).drew
  refine mix.region_D (fun w' => Below W.heap.size W w') (fun _ => false) (by kernel_rfl) ?_
  generalize W.drew = Wd at hS0 ⊢
  refine mix.D_take (i := 0) (v := ?_) rfl (by kernel_rfl) (by kernel_rfl) (fun _ _ _ h => h) (Or.inl ⟨by first | rfl | simp [Region.wanted, yielded], ?_⟩) hS0 ?_
  rotate_left
  · intro w' hSw
    have y0 := (hSw.cell (p := ⟨w1.heap.size, 0, none⟩) hzl).trans z0
    have y1 := (hSw.cell (p := ⟨w1.heap.size, 1, none⟩) hzl).trans z1
    have y2 := (hSw.cell (p := ⟨w1.heap.size, 2, none⟩) hzl).trans z2
    try simp only [List.getElem_toArray, List.getElem_cons_zero]
    go_simp
    exact rfl
  try simp only [Act.put, List.setIfInBounds_toArray, List.set_cons_zero, List.set_cons_succ, List.getElem_toArray, List.getElem_cons_zero]
  refine mix.D_take (i := 2) (v := ?_) rfl (by kernel_rfl) (by kernel_rfl) (fun _ _ _ h => h) (Or.inl ⟨by first | rfl | simp [Region.wanted, yielded], ?_⟩) hS0 ?_
  rotate_left
  · intro w' hSw
    have y0 := (hSw.cell (p := ⟨w1.heap.size, 0, none⟩) hzl).trans z0
    have y1 := (hSw.cell (p := ⟨w1.heap.size, 1, none⟩) hzl).trans z1
    have y2 := (hSw.cell (p := ⟨w1.heap.size, 2, none⟩) hzl).trans z2
    try simp only [List.getElem_toArray, List.getElem_cons_zero, List.getElem_cons_succ]
    go_simp
    exact rfl
  try simp only [Act.put, List.setIfInBounds_toArray, List.set_cons_zero, List.set_cons_succ, List.getElem_toArray, List.getElem_cons_zero, List.getElem_cons_succ]
  refine mix.D_take (i := 3) (v := ?_) rfl (by kernel_rfl) (by kernel_rfl) (fun _ _ _ h => h) (Or.inl ⟨by first | rfl | simp [Region.wanted, yielded], ?_⟩) hS0 ?_
  rotate_left
  · intro w' hSw
    have y0 := (hSw.cell (p := ⟨w1.heap.size, 0, none⟩) hzl).trans z0
    have y1 := (hSw.cell (p := ⟨w1.heap.size, 1, none⟩) hzl).trans z1
    have y2 := (hSw.cell (p := ⟨w1.heap.size, 2, none⟩) hzl).trans z2
    try simp only [List.getElem_toArray, List.getElem_cons_zero, List.getElem_cons_succ]
    go_simp
    exact rfl
  try simp only [Act.put, List.setIfInBounds_toArray, List.set_cons_zero, List.set_cons_succ, List.getElem_toArray, List.getElem_cons_zero, List.getElem_cons_succ]
  refine mix.D_op (k := 1) rfl rfl (by kernel_rfl) (fun K' hK => ?_)
  simp only [List.getElem_toArray, List.getElem_cons_zero, List.getElem_cons_succ]
  go_wp2_with fail
  refine (keys_ok L A c1 _ (hLW.now hS0) (by omega)).mono ?_
  rintro e x1 ⟨K3, A3, m3, v3, rfl, lo3, ⟨ky3, up3⟩, cn3, hc1⟩
  have hd1 : Below W.heap.size W x1 := hS0.trans (hc1.mono hS0.size)
  obtain rfl : K3 = K0 := lo3.eqK lo0 up3 hok.upK
  refine hK.out _ _ (fun _ => hd1) ?_
  clear hK K'
  try simp only [Act.put, List.setIfInBounds_toArray, List.set_cons_zero, List.set_cons_succ]
  refine mix.D_op (k := 4) rfl rfl (by kernel_rfl) (fun K' hK => ?_)
  simp only [List.getElem_toArray, List.getElem_cons_zero, List.getElem_cons_succ]
  go_wp2_with fail
  refine (sameKeys_any v3 (.slice R0 m0 d0) K3 _ ky3 (hRW.below hd1).k).mono ?_
  rintro e x2 ⟨rfl, hc2⟩
  have hd2 : Below W.heap.size W x2 := hd1.trans (hc2.mono hd1.size)
  refine hK.out _ _ (fun _ => hd2) ?_
  clear hK K'
  try simp only [Act.put, List.setIfInBounds_toArray, List.set_cons_zero, List.set_cons_succ]
  refine mix.D_take (i := 5) (v := ?_) rfl (by kernel_rfl) (by kernel_rfl) (fun _ _ _ h => h) (Or.inl ⟨by first | rfl | simp [Region.wanted, yielded], ?_⟩) hd2 ?_
  rotate_left
  · intro w' hSw
    have y0 := (hSw.cell (p := ⟨w1.heap.size, 0, none⟩) hzl).trans z0
    have y1 := (hSw.cell (p := ⟨w1.heap.size, 1, none⟩) hzl).trans z1
    have y2 := (hSw.cell (p := ⟨w1.heap.size, 2, none⟩) hzl).trans z2
    try simp only [List.getElem_toArray, List.getElem_cons_zero, List.getElem_cons_succ]
    go_simp
    exact rfl
  try simp only [Act.put, List.setIfInBounds_toArray, List.set_cons_zero, List.set_cons_succ, List.getElem_toArray, List.getElem_cons_zero, List.getElem_cons_succ]
  refine mix.D_take (i := 6) (v := ?_) rfl (by kernel_rfl) (by kernel_rfl) (fun _ _ _ h => h) (Or.inl ⟨by first | rfl | simp [Region.wanted, yielded], ?_⟩) hd2 ?_
  rotate_left
  · intro w' hSw
    have y0 := (hSw.cell (p := ⟨w1.heap.size, 0, none⟩) hzl).trans z0
    have y1 := (hSw.cell (p := ⟨w1.heap.size, 1, none⟩) hzl).trans z1
    have y2 := (hSw.cell (p := ⟨w1.heap.size, 2, none⟩) hzl).trans z2
    try simp only [List.getElem_toArray, List.getElem_cons_zero, List.getElem_cons_succ]
    go_simp
    exact rfl
  try simp only [Act.put, List.setIfInBounds_toArray, List.set_cons_zero, List.set_cons_succ, List.getElem_toArray, List.getElem_cons_zero, List.getElem_cons_succ]
  refine mix.D_take (i := 8) (v := ?_) rfl (by kernel_rfl) (by kernel_rfl) (fun _ _ _ h => h) (Or.inl ⟨by first | rfl | simp [Region.wanted, yielded], ?_⟩) hd2 ?_
  rotate_left
  · intro w' hSw
    have y0 := (hSw.cell (p := ⟨w1.heap.size, 0, none⟩) hzl).trans z0
    have y1 := (hSw.cell (p := ⟨w1.heap.size, 1, none⟩) hzl).trans z1
    have y2 := (hSw.cell (p := ⟨w1.heap.size, 2, none⟩) hzl).trans z2
    try simp only [List.getElem_toArray, List.getElem_cons_zero, List.getElem_cons_succ]
    go_simp
    exact rfl
  try simp only [Act.put, List.setIfInBounds_toArray, List.set_cons_zero, List.set_cons_succ, List.getElem_toArray, List.getElem_cons_zero, List.getElem_cons_succ]
  refine mix.D_take (i := 9) (v := ?_) rfl (by kernel_rfl) (by kernel_rfl) (fun _ _ _ h => h) (Or.inl ⟨by first | rfl | simp [Region.wanted, yielded], ?_⟩) hd2 ?_
  rotate_left
  · intro w' hSw
    have y0 := (hSw.cell (p := ⟨w1.heap.size, 0, none⟩) hzl).trans z0
    have y1 := (hSw.cell (p := ⟨w1.heap.size, 1, none⟩) hzl).trans z1
    have y2 := (hSw.cell (p := ⟨w1.heap.size, 2, none⟩) hzl).trans z2
    try simp only [List.getElem_toArray, List.getElem_cons_zero, List.getElem_cons_succ]
    go_simp
    exact rfl
  try simp only [Act.put, List.setIfInBounds_toArray, List.set_cons_zero, List.set_cons_succ, List.getElem_toArray, List.getElem_cons_zero, List.getElem_cons_succ]
  refine mix.D_opG (k := 7) rfl (by kernel_rfl) (by first | rfl | simp [Region.wanted, yielded]) (fun K' hK => ?_)
  simp only [List.getElem_toArray, List.getElem_cons_zero, List.getElem_cons_succ]
  go_wp2_with fail
  refine (atoms_ok L A c1 _ (hLW.now hd2) (by omega)).mono ?_
  rintro e x3 ⟨K4, A4, m4, v4, rfl, lo4, ⟨tx4, up4⟩, cn4, hc3⟩
  have hd3 : Below W.heap.size W x3 := hd2.trans (hc3.mono hd2.size)
  obtain rfl : A4 = A0 := lo4.eqA lo0 up4 hok.upA
  refine hK.out _ _ (fun _ => hd3) ?_
  clear hK K'
  try simp only [Act.put, List.setIfInBounds_toArray, List.set_cons_zero, List.set_cons_succ]
  refine mix.D_opG (k := 10) rfl (by kernel_rfl) (by first | rfl | simp [Region.wanted, yielded]) (fun K' hK => ?_)
  simp only [List.getElem_toArray, List.getElem_cons_zero, List.getElem_cons_succ]
  go_wp2_with fail
  refine (sameTexts_any v4 (.slice R1 m1 d1) 0 0 A4 _ tx4 (hRW.below hd3).a).mono ?_
  rintro e x4 ⟨rfl, hc4⟩
  have hd4 : Below W.heap.size W x4 := hd3.trans (hc4.mono hd3.size)
  refine hK.out _ _ (fun _ => hd4) ?_
  clear hK K'
  try simp only [Act.put, List.setIfInBounds_toArray, List.set_cons_zero, List.set_cons_succ]
  refine mix.D_take (i := 11) (v := ?_) rfl (by kernel_rfl) (by kernel_rfl) (fun _ _ _ h => h) (Or.inl ⟨by first | rfl | simp [Region.wanted, yielded], ?_⟩) hd4 ?_
  rotate_left
  · intro w' hSw
    have y0 := (hSw.cell (p := ⟨w1.heap.size, 0, none⟩) hzl).trans z0
    have y1 := (hSw.cell (p := ⟨w1.heap.size, 1, none⟩) hzl).trans z1
    have y2 := (hSw.cell (p := ⟨w1.heap.size, 2, none⟩) hzl).trans z2
    try simp only [List.getElem_toArray, List.getElem_cons_zero, List.getElem_cons_succ]
    go_simp
    exact rfl
  try simp only [Act.put, List.setIfInBounds_toArray, List.set_cons_zero, List.set_cons_succ, List.getElem_toArray, List.getElem_cons_zero, List.getElem_cons_succ]
  refine mix.D_take (i := 12) (v := ?_) rfl (by kernel_rfl) (by kernel_rfl) (fun _ _ _ h => h) (Or.inl ⟨by first | rfl | simp [Region.wanted, yielded], ?_⟩) hd4 ?_
  rotate_left
  · intro w' hSw
    have y0 := (hSw.cell (p := ⟨w1.heap.size, 0, none⟩) hzl).trans z0
    have y1 := (hSw.cell (p := ⟨w1.heap.size, 1, none⟩) hzl).trans z1
    have y2 := (hSw.cell (p := ⟨w1.heap.size, 2, none⟩) hzl).trans z2
    try simp only [List.getElem_toArray, List.getElem_cons_zero, List.getElem_cons_succ]
    go_simp
    exact rfl
  try simp only [Act.put, List.setIfInBounds_toArray, List.set_cons_zero, List.set_cons_succ, List.getElem_toArray, List.getElem_cons_zero, List.getElem_cons_succ]
  refine mix.D_take (i := 13) (v := ?_) rfl (by kernel_rfl) (by kernel_rfl) (fun _ _ _ h => h) (Or.inl ⟨by first | rfl | simp [Region.wanted, yielded], ?_⟩) hd4 ?_
  rotate_left
  · intro w' hSw
    have y0 := (hSw.cell (p := ⟨w1.heap.size, 0, none⟩) hzl).trans z0
    have y1 := (hSw.cell (p := ⟨w1.heap.size, 1, none⟩) hzl).trans z1
    have y2 := (hSw.cell (p := ⟨w1.heap.size, 2, none⟩) hzl).trans z2
    try simp only [List.getElem_toArray, List.getElem_cons_zero, List.getElem_cons_succ]
    go_simp
    exact rfl
  try simp only [Act.put, List.setIfInBounds_toArray, List.set_cons_zero, List.set_cons_succ, List.getElem_toArray, List.getElem_cons_zero, List.getElem_cons_succ]
  refine mix.D_take (i := 15) (v := ?_) rfl (by kernel_rfl) (by kernel_rfl) (fun _ _ _ h => h) (Or.inl ⟨by first | rfl | simp [Region.wanted, yielded], ?_⟩) hd4 ?_
  rotate_left
  · intro w' hSw
    have y0 := (hSw.cell (p := ⟨w1.heap.size, 0, none⟩) hzl).trans z0
    have y1 := (hSw.cell (p := ⟨w1.heap.size, 1, none⟩) hzl).trans z1
    have y2 := (hSw.cell (p := ⟨w1.heap.size, 2, none⟩) hzl).trans z2
    try simp only [List.getElem_toArray, List.getElem_cons_zero, List.getElem_cons_succ]
    go_simp
    exact rfl
  try simp only [Act.put, List.setIfInBounds_toArray, List.set_cons_zero, List.set_cons_succ, List.getElem_toArray, List.getElem_cons_zero, List.getElem_cons_succ]
  refine mix.D_take (i := 16) (v := ?_) rfl (by kernel_rfl) (by kernel_rfl) (fun _ _ _ h => h) (Or.inl ⟨by first | rfl | simp [Region.wanted, yielded], ?_⟩) hd4 ?_
  rotate_left
  · intro w' hSw
    have y0 := (hSw.cell (p := ⟨w1.heap.size, 0, none⟩) hzl).trans z0
    have y1 := (hSw.cell (p := ⟨w1.heap.size, 1, none⟩) hzl).trans z1
    have y2 := (hSw.cell (p := ⟨w1.heap.size, 2, none⟩) hzl).trans z2
    try simp only [List.getElem_toArray, List.getElem_cons_zero, List.getElem_cons_succ]
    go_simp
    exact rfl
  try simp only [Act.put, List.setIfInBounds_toArray, List.set_cons_zero, List.set_cons_succ, List.getElem_toArray, List.getElem_cons_zero, List.getElem_cons_succ]
  refine mix.D_take (i := 17) (v := ?_) rfl (by kernel_rfl) (by kernel_rfl) (fun _ _ _ h => h) (Or.inl ⟨by first | rfl | simp [Region.wanted, yielded], ?_⟩) hd4 ?_
  rotate_left
  · intro w' hSw
    have y0 := (hSw.cell (p := ⟨w1.heap.size, 0, none⟩) hzl).trans z0
    have y1 := (hSw.cell (p := ⟨w1.heap.size, 1, none⟩) hzl).trans z1
    have y2 := (hSw.cell (p := ⟨w1.heap.size, 2, none⟩) hzl).trans z2
    try simp only [List.getElem_toArray, List.getElem_cons_zero, List.getElem_cons_succ]
    go_simp
    exact rfl
  try simp only [Act.put, List.setIfInBounds_toArray, List.set_cons_zero, List.set_cons_succ, List.getElem_toArray, List.getElem_cons_zero, List.getElem_cons_succ]
  refine mix.D_opG (k := 14) rfl (by kernel_rfl) (by first | rfl | simp [Region.wanted, yielded]) (fun K' hK => ?_)
  simp only [List.getElem_toArray, List.getElem_cons_zero, List.getElem_cons_succ]
  go_wp2_with fail
  refine (shut_ok L A c1 _ (hLW.now hd4) (by omega)).mono ?_
  rintro e x5 ⟨K5, A5, m5, rfl, cn5, lo5, hc5⟩
  have hd5 : Below W.heap.size W x5 := hd4.trans (hc5.mono hd4.size)
  obtain rfl : m5 = D0.length := lo5.eqM lo0
  refine hK.out _ _ (fun _ => hd5) ?_
  clear hK K'
  try simp only [Act.put, List.setIfInBounds_toArray, List.set_cons_zero, List.set_cons_succ]
  refine mix.D_take (i := 18) (v := ?_) rfl (by kernel_rfl) (by kernel_rfl) (fun _ _ _ h => h) (Or.inl ⟨by first | rfl | simp [Region.wanted, yielded], ?_⟩) hd5 ?_
  rotate_left
  · intro w' hSw
    have y0 := (hSw.cell (p := ⟨w1.heap.size, 0, none⟩) hzl).trans z0
    have y1 := (hSw.cell (p := ⟨w1.heap.size, 1, none⟩) hzl).trans z1
    have y2 := (hSw.cell (p := ⟨w1.heap.size, 2, none⟩) hzl).trans z2
    try simp only [List.getElem_toArray, List.getElem_cons_zero, List.getElem_cons_succ]
    go_simp
    exact rfl
  try simp only [Act.put, List.setIfInBounds_toArray, List.set_cons_zero, List.set_cons_succ, List.getElem_toArray, List.getElem_cons_zero, List.getElem_cons_succ]
  refine mix.D_take (i := 19) (v := ?_) rfl (by kernel_rfl) (by kernel_rfl) (fun _ _ _ h => h) (Or.inl ⟨by first | rfl | simp [Region.wanted, yielded], ?_⟩) hd5 ?_
  rotate_left
  · intro w' hSw
    have y0 := (hSw.cell (p := ⟨w1.heap.size, 0, none⟩) hzl).trans z0
    have y1 := (hSw.cell (p := ⟨w1.heap.size, 1, none⟩) hzl).trans z1
    have y2 := (hSw.cell (p := ⟨w1.heap.size, 2, none⟩) hzl).trans z2
    try simp only [List.getElem_toArray, List.getElem_cons_zero, List.getElem_cons_succ]
    go_simp
    exact rfl
  try simp only [Act.put, List.setIfInBounds_toArray, List.set_cons_zero, List.set_cons_succ, List.getElem_toArray, List.getElem_cons_zero, List.getElem_cons_succ]
  refine mix.D_take (i := 20) (v := ?_) rfl (by kernel_rfl) (by kernel_rfl) (fun _ _ _ h => h) (Or.inl ⟨by first | rfl | simp [Region.wanted, yielded], ?_⟩) hd5 ?_
  rotate_left
  · intro w' hSw
    have y0 := (hSw.cell (p := ⟨w1.heap.size, 0, none⟩) hzl).trans z0
    have y1 := (hSw.cell (p := ⟨w1.heap.size, 1, none⟩) hzl).trans z1
    have y2 := (hSw.cell (p := ⟨w1.heap.size, 2, none⟩) hzl).trans z2
    try simp only [List.getElem_toArray, List.getElem_cons_zero, List.getElem_cons_succ]
    go_simp
    exact rfl
  try simp only [Act.put, List.setIfInBounds_toArray, List.set_cons_zero, List.set_cons_succ, List.getElem_toArray, List.getElem_cons_zero, List.getElem_cons_succ]
  refine mix.D_take (i := 21) (v := ?_) rfl (by kernel_rfl) (by kernel_rfl) (fun _ _ _ h => h) (Or.inl ⟨by first | rfl | simp [Region.wanted, yielded], ?_⟩) hd5 ?_
  rotate_left
  · intro w' hSw
    have y0 := (hSw.cell (p := ⟨w1.heap.size, 0, none⟩) hzl).trans z0
    have y1 := (hSw.cell (p := ⟨w1.heap.size, 1, none⟩) hzl).trans z1
    have y2 := (hSw.cell (p := ⟨w1.heap.size, 2, none⟩) hzl).trans z2
    try simp only [List.getElem_toArray, List.getElem_cons_zero, List.getElem_cons_succ]
    go_simp
    exact rfl
  try simp only [Act.put, List.setIfInBounds_toArray, List.set_cons_zero, List.set_cons_succ, List.getElem_toArray, List.getElem_cons_zero, List.getElem_cons_succ]
  refine mix.D_take (i := 22) (v := ?_) rfl (by kernel_rfl) (by kernel_rfl) (fun _ _ _ h => h) (Or.inl ⟨by first | rfl | simp [Region.wanted, yielded], ?_⟩) hd5 ?_
  rotate_left
  · intro w' hSw
    have y0 := (hSw.cell (p := ⟨w1.heap.size, 0, none⟩) hzl).trans z0
    have y1 := (hSw.cell (p := ⟨w1.heap.size, 1, none⟩) hzl).trans z1
    have y2 := (hSw.cell (p := ⟨w1.heap.size, 2, none⟩) hzl).trans z2
    try simp only [List.getElem_toArray, List.getElem_cons_zero, List.getElem_cons_succ]
    go_simp
    exact rfl
  try simp only [Act.put, List.setIfInBounds_toArray, List.set_cons_zero, List.set_cons_succ, List.getElem_toArray, List.getElem_cons_zero, List.getElem_cons_succ]
  refine mix.D_take (i := 24) (v := ?_) rfl (by kernel_rfl) (by kernel_rfl) (fun _ _ _ h => h) (Or.inl ⟨by first | rfl | simp [Region.wanted, yielded], ?_⟩) hd5 ?_
  rotate_left
  · intro w' hSw
    have y0 := (hSw.cell (p := ⟨w1.heap.size, 0, none⟩) hzl).trans z0
    have y1 := (hSw.cell (p := ⟨w1.heap.size, 1, none⟩) hzl).trans z1
    have y2 := (hSw.cell (p := ⟨w1.heap.size, 2, none⟩) hzl).trans z2
    try simp only [List.getElem_toArray, List.getElem_cons_zero, List.getElem_cons_succ]
    go_simp
    exact rfl
  try simp only [Act.put, List.setIfInBounds_toArray, List.set_cons_zero, List.set_cons_succ, List.getElem_toArray, List.getElem_cons_zero, List.getElem_cons_succ]
  refine mix.D_take (i := 25) (v := ?_) rfl (by kernel_rfl) (by kernel_rfl) (fun _ _ _ h => h) (Or.inl ⟨by first | rfl | simp [Region.wanted, yielded], ?_⟩) hd5 ?_
  rotate_left
  · intro w' hSw
    have y0 := (hSw.cell (p := ⟨w1.heap.size, 0, none⟩) hzl).trans z0
    have y1 := (hSw.cell (p := ⟨w1.heap.size, 1, none⟩) hzl).trans z1
    have y2 := (hSw.cell (p := ⟨w1.heap.size, 2, none⟩) hzl).trans z2
    try simp only [List.getElem_toArray, List.getElem_cons_zero, List.getElem_cons_succ]
    go_simp
    exact rfl
  try simp only [Act.put, List.setIfInBounds_toArray, List.set_cons_zero, List.set_cons_succ, List.getElem_toArray, List.getElem_cons_zero, List.getElem_cons_succ]
  refine mix.D_take (i := 26) (v := ?_) rfl (by kernel_rfl) (by kernel_rfl) (fun _ _ _ h => h) (Or.inl ⟨by first | rfl | simp [Region.wanted, yielded], ?_⟩) hd5 ?_
  rotate_left
  · intro w' hSw
    have y0 := (hSw.cell (p := ⟨w1.heap.size, 0, none⟩) hzl).trans z0
    have y1 := (hSw.cell (p := ⟨w1.heap.size, 1, none⟩) hzl).trans z1
    have y2 := (hSw.cell (p := ⟨w1.heap.size, 2, none⟩) hzl).trans z2
    try simp only [List.getElem_toArray, List.getElem_cons_zero, List.getElem_cons_succ]
    go_simp
    exact rfl
  try simp only [Act.put, List.setIfInBounds_toArray, List.set_cons_zero, List.set_cons_succ, List.getElem_toArray, List.getElem_cons_zero, List.getElem_cons_succ]
  refine mix.D_opG (k := 23) rfl (by kernel_rfl) (by first | rfl | simp [Region.wanted, yielded]) (fun K' hK => ?_)
  simp only [List.getElem_toArray, List.getElem_cons_zero, List.getElem_cons_succ]
  go_wp2_with fail
  refine (has_ok s L A c1 _ (hLW.now hd5) (by omega) hs).mono ?_
  rintro e x6 ⟨K6, A6, m6, rfl, lo6, hc6⟩
  have hd6 : Below W.heap.size W x6 := hd5.trans (hc6.mono hd5.size)
  have hbb : decide (bn s ∈ A6) = bb := by rw [← HBB.out]; exact decide_eq_decide.2 ((lo6.same lo0).2.1 (bn s))
  rw [hbb]
  refine hK.out _ _ (fun _ => hd6) ?_
  clear hK K'
  try simp only [Act.put, List.setIfInBounds_toArray, List.set_cons_zero, List.set_cons_succ]
  refine mix.D_opG (k := 27) rfl (by kernel_rfl) (by first | rfl | simp [Region.wanted, yielded]) (fun K' hK => ?_)
  simp only [List.getElem_toArray, List.getElem_cons_zero, List.getElem_cons_succ]
  go_wp2_with fail
  refine (in_any (.slice R1 m1 d1) 0 A4 s _ (hRW.below hd6).a).mono ?_
  rintro e x7 ⟨rfl, hww⟩
  have hd7 : Below W.heap.size W x7 := hww ▸ hd6
  rw [tm.toList_eq, HBB.out]
  refine hK.out _ _ (fun _ => hd7) ?_
  clear hK K'
  try simp only [Act.put, List.setIfInBounds_toArray, List.set_cons_zero, List.set_cons_succ]
  refine mix.D_take (i := 28) (v := ?_) rfl (by kernel_rfl) (by kernel_rfl) (fun _ _ _ h => h) (Or.inl ⟨by first | rfl | simp [Region.wanted, yielded], ?_⟩) hd7 ?_
  rotate_left
  · intro w' hSw
    have y0 := (hSw.cell (p := ⟨w1.heap.size, 0, none⟩) hzl).trans z0
    have y1 := (hSw.cell (p := ⟨w1.heap.size, 1, none⟩) hzl).trans z1
    have y2 := (hSw.cell (p := ⟨w1.heap.size, 2, none⟩) hzl).trans z2
    try simp only [List.getElem_toArray, List.getElem_cons_zero, List.getElem_cons_succ]
    go_simp
    exact rfl
  try simp only [Act.put, List.setIfInBounds_toArray, List.set_cons_zero, List.set_cons_succ, List.getElem_toArray, List.getElem_cons_zero, List.getElem_cons_succ]
  refine mix.D_take (i := 29) (v := ?_) rfl (by kernel_rfl) (by kernel_rfl) (fun _ _ _ h => h) (Or.inl ⟨by first | rfl | simp [Region.wanted, yielded], ?_⟩) hd7 ?_
  rotate_left
  · intro w' hSw
    have y0 := (hSw.cell (p := ⟨w1.heap.size, 0, none⟩) hzl).trans z0
    have y1 := (hSw.cell (p := ⟨w1.heap.size, 1, none⟩) hzl).trans z1
    have y2 := (hSw.cell (p := ⟨w1.heap.size, 2, none⟩) hzl).trans z2
    try simp only [List.getElem_toArray, List.getElem_cons_zero, List.getElem_cons_succ]
    go_simp
    exact rfl
  try simp only [Act.put, List.setIfInBounds_toArray, List.set_cons_zero, List.set_cons_succ, List.getElem_toArray, List.getElem_cons_zero, List.getElem_cons_succ]
  refine mix.D_take (i := 30) (v := ?_) rfl (by kernel_rfl) (by kernel_rfl) (fun _ _ _ h => h) (Or.inl ⟨by first | rfl | simp [Region.wanted, yielded], ?_⟩) hd7 ?_
  rotate_left
  · intro w' hSw
    have y0 := (hSw.cell (p := ⟨w1.heap.size, 0, none⟩) hzl).trans z0
    have y1 := (hSw.cell (p := ⟨w1.heap.size, 1, none⟩) hzl).trans z1
    have y2 := (hSw.cell (p := ⟨w1.heap.size, 2, none⟩) hzl).trans z2
    try simp only [List.getElem_toArray, List.getElem_cons_zero, List.getElem_cons_succ]
    go_simp
    exact rfl
  try simp only [Act.put, List.setIfInBounds_toArray, List.set_cons_zero, List.set_cons_succ, List.getElem_toArray, List.getElem_cons_zero, List.getElem_cons_succ]
  refine mix.D_done (by kernel_rfl) ?_ _
  go_wp2_with fail
  go_ret
  exact ⟨by first | rfl | simp, bb0.trans (hd7.mono bb0.size)⟩

end Go.Proofs.Ytjlglfjikfpboaa.thiefs
