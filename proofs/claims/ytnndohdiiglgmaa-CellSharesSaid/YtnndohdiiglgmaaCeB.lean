/- A cell's New and write. -/
import Derived.Test.YtnndohdiiglgmaaCeA
import Derived.Test.YtnndohdiiglgmaaMixE
import Derived.Deep.Cut
import Derived.Great.Walk
import Derived.Great.BuildSlice


namespace Go.Proofs.Ytnndohdiiglgmaa.cells
set_option linter.unusedVariables false
set_option linter.unusedSimpArgs false
open Go.RowKit Go.Proofs.Ytnndohdiiglgmaa.base Go.Proofs.Ytnndohdiiglgmaa.powers Go.Lib
section
variable {w : World} {p g : Nat} {c : CS} {L W : Int}

set_option maxRecDepth 100000 in
set_option maxHeartbeats 4000000 in
theorem new_yes (w : World) (p : Nat) (hp : p < w.heap.size) :
    Calls Try.prog 28 #[.pointer (some ⟨p, 0, none⟩)] w fun e w' => e = .returned (.pointer (some ⟨w.heap.size, 0, none⟩)) ∧ Ce w' p w.heap.size ⟨⟨#[]⟩, ⟨#[]⟩, 0⟩ ∧ Below w.heap.size w w' ∧ w'.heap.size = w.heap.size + 1 := by
  have hz := run_zCell p
  have kb := Blk.new w 89 (zCell p)
  have bb := (Below.refl w.heap.size w).alloc (Nat.le_refl _) (.cells (zCell p) 89)
  have sz : (w.alloc (.cells (zCell p) 89)).heap.size = w.heap.size + 1 := by simp
  have hC : Ce (w.alloc (.cells (zCell p) 89)) p w.heap.size ⟨⟨#[]⟩, ⟨#[]⟩, 0⟩ := by
    obtain ⟨z0, z1, z2, z3⟩ := zCell_at p
    exact ⟨⟨_, kb, zCell_size p⟩, (kb.cell 0).trans z0, (kb.cell 403).trans z3, (kb.cell 201).trans z1, (kb.cell 402).trans z2, fun i hi => absurd hi (Nat.not_lt_zero i), fun i hi => absurd hi (Nat.not_lt_zero i), Nat.zero_le _, Nat.zero_le _, by omega⟩
  clear kb hz
  go_enter Try.func28, Try.ntmps28
  go_upto_region 3 with (fail)
  refine wp_region_lit ?_
  refine Great.wpList_runTo rfl (some 5) rfl (.pointer (some ⟨p, 0, none⟩)) w (by rfl) ?_
  refine wpList_buildTo rfl _ _ rfl (some 6) rfl (zCell p) (by kernel_rfl) ?_
  refine Great.wpList_boxTo rfl _ _ rfl (some 7) rfl _ rfl (zCell p) rfl ?_
  refine Great.wpList_runTo rfl (some 2) rfl (.pointer (some ⟨w.heap.size, 0, none⟩)) _ (by rfl) ?_
  refine wpList_nil ?_
  simp only [Act.put, List.setIfInBounds_toArray, List.set_cons_zero, List.set_cons_succ]
  go_wp2_with fail
  go_ret
  exact ⟨rfl, hC, bb, sz⟩

set_option maxRecDepth 100000 in
set_option maxHeartbeats 4000000 in
theorem write0 (h : Ce w p g c) (hp : Blk w p 144 (PC L W)) (hI : In L) (b : ByteArray) (hb : b.size ≤ 200) :
    Calls Try.prog 74 #[.pointer (some ⟨g, 0, none⟩), .int .i64 0, .string b] w fun e w' => e = .returned (.int .i64 (eSp L)) ∧ Blk w' p 144 (PC (spL L) (wSp L W)) ∧ Ce w' p g (if L = 0 then c else c.put 0 b) ∧ St (two p g) w w' := by
  have hc := spend_ok hp hI
  have hz := run_zRoom
  have x0 := h.ptr
  by_cases hL : L = 0
  · subst hL
    rw [show eSp 0 = 110 by decide] at hc ⊢
    have HC := powers.lay h
    clear h hz
    go_enter Try.func74, Try.ntmps74
    go_wp2_with fail
    refine hc.mono ?_
    rintro e w1 ⟨rfl, k1, s1⟩
    go_wp2_with fail
    go_ret
    exact ⟨rfl, k1, by simpa using HC.out.keep s1 HC.out.ne, s1.mono fun k h => .inl h⟩
  · rw [show eSp L = 0 by unfold eSp; rw [if_neg hL]] at hc ⊢
    rw [if_neg hL]
    have HC := powers.lay h
    clear h hL
    go_enter Try.func74, Try.ntmps74
    go_wp2_with fail
    refine hc.mono ?_
    rintro e w1 ⟨rfl, k1, s1⟩
    have h1 := HC.out.keep s1 HC.out.ne
    have hz1 := h1.zero 0 1 (by omega) rfl
    have hth := h1.there (o := 1) (n := zRoom.size) (by rw [zRoom, Array.size_push, Array.size_replicate]; omega)
    have sz1 := St.setCells (g := g) (S := one g) rfl zRoom.toList 1 w1 (St.refl _ _)
    clear hz h1
    go_upto_region 4 with (fail)
    refine wp_region_lit ?_
    refine Great.wpList_runTo rfl (some 16) rfl (.pointer (some ⟨g, 0, none⟩)) w1 (by rfl) ?_
    refine Great.wpList_runTo rfl (some 17) rfl (.int .i64 0) w1 (by rfl) ?_
    refine wpList_buildTo rfl _ _ rfl (some 18) rfl zRoom (by kernel_rfl) ?_
    refine Great.wpList_runTo rfl (some 19) rfl (.pointer (some ⟨g, 0, none⟩)) w1 (by rfl) ?_
    refine Great.wpList_runTo rfl (some 20) rfl (.pointer (some ⟨g, 1, none⟩)) w1 (by rfl) ?_
    refine Great.wpList_runTo rfl (some 21) rfl (.pointer (some ⟨g, 1, none⟩)) w1 (by rfl) ?_
    refine wpList_store_mid rfl _ _ _ rfl g 1 zRoom rfl rfl hth sizeRoom oneRoom ?_
    refine wpList_nil ?_
    simp only [Act.put, List.setIfInBounds_toArray, List.set_cons_zero, List.set_cons_succ]
    generalize w1.setCells g 1 zRoom.toList = W2 at hz1 sz1 ⊢
    clear hth
    go_upto_region 5 with (fail)
    have hz2 : Cz W2.drew p g c 0 := hz1.agree rfl
    have sz2 : St (one g) w1 W2.drew := sz1.drew
    clear hz1 sz1
    refine mix.region_D (fun _ => True) (fun _ => false) (by kernel_rfl) ?_
    generalize W2.drew = Wd at hz2 sz2 ⊢
    obtain ⟨hfin, ⟨v2, x2⟩, f2, x3, f3⟩ := hz2.put_ok (o := 1) (u := 201) (by omega) rfl rfl b hb
    have hth : ∀ j, j < b.size → (Wd.cell? ⟨g, 1 + j, none⟩).isSome = true ∧ Wd.frozen? ⟨g, 1 + j, none⟩ = false := fun j hj => by
      obtain ⟨cs, hB, hs⟩ := hz2.blk
      exact ⟨by rw [hB.cell, Array.getElem?_eq_getElem (by omega)]; rfl, hB.frozen _⟩
    have hcp := fun ty => run_copy_string (P := Try.prog) Wd 152 9 ty 5 g 1 200 200 b Try.underlying152 sizeU8 hb (fun j hj => (hth j hj).1) (fun j hj => (hth j hj).2)
    have sf := ((St.setCells (g := g) (S := one g) rfl (b.data.toList.map fun x => Value.int .u8 (x.toNat : Int)) 1 _ sz2).set (g := g) rfl 201 (.int .i64 (b.size : Int))).set (g := g) rfl 403 (.int .i64 (nx c.D))
    clear hth hz2 sz2
    refine mix.D_take (i := 0) (v := ?_) rfl (by kernel_rfl) (by kernel_rfl) (fun _ _ _ h => h) (Or.inl ⟨by rfl, ?_⟩) trivial ?_
    rotate_left
    · intro w' _
      try simp only [List.getElem_toArray, List.getElem_cons_zero, List.getElem_cons_succ]
      go_simp
      exact rfl
    try simp only [Act.put, List.setIfInBounds_toArray, List.set_cons_zero, List.set_cons_succ, List.getElem_toArray, List.getElem_cons_zero, List.getElem_cons_succ]
    refine mix.D_take (i := 1) (v := ?_) rfl (by kernel_rfl) (by kernel_rfl) (fun _ _ _ h => h) (Or.inl ⟨by rfl, ?_⟩) trivial ?_
    rotate_left
    · intro w' _
      try simp only [List.getElem_toArray, List.getElem_cons_zero, List.getElem_cons_succ]
      go_simp
      exact rfl
    try simp only [Act.put, List.setIfInBounds_toArray, List.set_cons_zero, List.set_cons_succ, List.getElem_toArray, List.getElem_cons_zero, List.getElem_cons_succ]
    refine mix.D_take (i := 2) (v := ?_) rfl (by kernel_rfl) (by kernel_rfl) (fun _ _ _ h => h) (Or.inl ⟨by rfl, ?_⟩) trivial ?_
    rotate_left
    · intro w' _
      try simp only [List.getElem_toArray, List.getElem_cons_zero, List.getElem_cons_succ]
      go_simp
      exact rfl
    try simp only [Act.put, List.setIfInBounds_toArray, List.set_cons_zero, List.set_cons_succ, List.getElem_toArray, List.getElem_cons_zero, List.getElem_cons_succ]
    refine mix.D_take (i := 3) (v := ?_) rfl (by kernel_rfl) (by kernel_rfl) (fun _ _ _ h => h) (Or.inl ⟨by rfl, ?_⟩) trivial ?_
    rotate_left
    · intro w' _
      try simp only [List.getElem_toArray, List.getElem_cons_zero, List.getElem_cons_succ]
      go_simp
      exact rfl
    try simp only [Act.put, List.setIfInBounds_toArray, List.set_cons_zero, List.set_cons_succ, List.getElem_toArray, List.getElem_cons_zero, List.getElem_cons_succ]
    refine mix.D_take (i := 4) (v := ?_) rfl (by kernel_rfl) (by kernel_rfl) (fun _ _ _ h => h) (Or.inl ⟨by rfl, ?_⟩) trivial ?_
    rotate_left
    · intro w' _
      try simp only [List.getElem_toArray, List.getElem_cons_zero, List.getElem_cons_succ]
      go_simp
      exact rfl
    try simp only [Act.put, List.setIfInBounds_toArray, List.set_cons_zero, List.set_cons_succ, List.getElem_toArray, List.getElem_cons_zero, List.getElem_cons_succ]
    refine mix.D_take (i := 5) (v := ?_) rfl (by kernel_rfl) (by kernel_rfl) (fun _ _ _ h => h) (Or.inl ⟨by rfl, ?_⟩) trivial ?_
    rotate_left
    · intro w' _
      try simp only [List.getElem_toArray, List.getElem_cons_zero, List.getElem_cons_succ]
      go_simp
      exact rfl
    try simp only [Act.put, List.setIfInBounds_toArray, List.set_cons_zero, List.set_cons_succ, List.getElem_toArray, List.getElem_cons_zero, List.getElem_cons_succ]
    refine mix.D_take (i := 6) (v := ?_) rfl (by kernel_rfl) (by kernel_rfl) (fun _ _ _ h => h) (Or.inl ⟨by rfl, ?_⟩) trivial ?_
    rotate_left
    · intro w' _
      try simp only [List.getElem_toArray, List.getElem_cons_zero, List.getElem_cons_succ]
      go_simp
      exact rfl
    try simp only [Act.put, List.setIfInBounds_toArray, List.set_cons_zero, List.set_cons_succ, List.getElem_toArray, List.getElem_cons_zero, List.getElem_cons_succ]
    refine mix.D_take (i := 7) (v := ?_) rfl (by kernel_rfl) (by kernel_rfl) (fun _ _ _ h => h) (Or.inl ⟨by rfl, ?_⟩) trivial ?_
    rotate_left
    · intro w' _
      try simp only [List.getElem_toArray, List.getElem_cons_zero, List.getElem_cons_succ]
      go_simp
      exact rfl
    try simp only [Act.put, List.setIfInBounds_toArray, List.set_cons_zero, List.set_cons_succ, List.getElem_toArray, List.getElem_cons_zero, List.getElem_cons_succ]
    refine mix.D_take (i := 8) (v := ?_) rfl (by kernel_rfl) (by kernel_rfl) (fun _ _ _ h => h) (Or.inl ⟨by rfl, ?_⟩) trivial ?_
    rotate_left
    · intro w' _
      try simp only [List.getElem_toArray, List.getElem_cons_zero, List.getElem_cons_succ]
      go_simp
      exact rfl
    try simp only [Act.put, List.setIfInBounds_toArray, List.set_cons_zero, List.set_cons_succ, List.getElem_toArray, List.getElem_cons_zero, List.getElem_cons_succ]
    refine mix.D_take (i := 9) (v := ?_) rfl (by kernel_rfl) (by kernel_rfl) (fun _ _ _ h => h) (Or.inl ⟨by rfl, ?_⟩) trivial ?_
    rotate_left
    · intro w' _
      try simp only [List.getElem_toArray, List.getElem_cons_zero, List.getElem_cons_succ]
      go_simp
      exact rfl
    try simp only [Act.put, List.setIfInBounds_toArray, List.set_cons_zero, List.set_cons_succ, List.getElem_toArray, List.getElem_cons_zero, List.getElem_cons_succ]
    refine mix.D_take (i := 11) (v := ?_) rfl (by kernel_rfl) (by kernel_rfl) (fun _ _ _ h => h) (Or.inl ⟨by rfl, ?_⟩) trivial ?_
    rotate_left
    · intro w' _
      try simp only [List.getElem_toArray, List.getElem_cons_zero, List.getElem_cons_succ]
      go_simp
      exact rfl
    try simp only [Act.put, List.setIfInBounds_toArray, List.set_cons_zero, List.set_cons_succ, List.getElem_toArray, List.getElem_cons_zero, List.getElem_cons_succ]
    refine mix.D_take (i := 12) (v := ?_) rfl (by kernel_rfl) (by kernel_rfl) (fun _ _ _ h => h) (Or.inl ⟨by rfl, ?_⟩) trivial ?_
    rotate_left
    · intro w' _
      try simp only [List.getElem_toArray, List.getElem_cons_zero, List.getElem_cons_succ]
      go_simp
      exact rfl
    try simp only [Act.put, List.setIfInBounds_toArray, List.set_cons_zero, List.set_cons_succ, List.getElem_toArray, List.getElem_cons_zero, List.getElem_cons_succ]
    refine mix.D_op (k := 10) rfl rfl (by kernel_rfl) (fun K' hK => ?_)
    simp only [List.getElem_toArray, List.getElem_cons_zero, List.getElem_cons_succ]
    go_wp2_with fail
    refine hK.out _ _ (fun _ => trivial) ?_
    clear hK K' hcp
    try simp only [Act.put, List.setIfInBounds_toArray, List.set_cons_zero, List.set_cons_succ]
    refine mix.D_take (i := 13) (v := ?_) rfl (by kernel_rfl) (by kernel_rfl) (fun _ _ _ h => h) (Or.inl ⟨by rfl, ?_⟩) trivial ?_
    rotate_left
    · intro w' _
      try simp only [List.getElem_toArray, List.getElem_cons_zero, List.getElem_cons_succ]
      go_simp
      exact rfl
    try simp only [Act.put, List.setIfInBounds_toArray, List.set_cons_zero, List.set_cons_succ, List.getElem_toArray, List.getElem_cons_zero, List.getElem_cons_succ]
    refine mix.D_take (i := 14) (v := ?_) rfl (by kernel_rfl) (by kernel_rfl) (fun _ _ _ h => h) (Or.inl ⟨by rfl, ?_⟩) trivial ?_
    rotate_left
    · intro w' _
      try simp only [List.getElem_toArray, List.getElem_cons_zero, List.getElem_cons_succ]
      go_simp
      exact rfl
    try simp only [Act.put, List.setIfInBounds_toArray, List.set_cons_zero, List.set_cons_succ, List.getElem_toArray, List.getElem_cons_zero, List.getElem_cons_succ]
    refine mix.D_op (k := 15) rfl rfl (by kernel_rfl) (fun K' hK => ?_)
    simp only [List.getElem_toArray, List.getElem_cons_zero, List.getElem_cons_succ]
    go_wp2_with fail
    refine hK.out _ _ (fun _ => trivial) ?_
    clear hK K'
    refine mix.D_done (by kernel_rfl) ?_ _
    try simp only [Act.put, List.setIfInBounds_toArray, List.set_cons_zero, List.set_cons_succ]
    have H9 := powers.lay (And.intro hfin sf)
    clear hfin sf x2 f2
    generalize ((Wd.setCells g 1 (b.data.toList.map fun x => Value.int .u8 (x.toNat : Int))).setCell ⟨g, 201, none⟩ (.int .i64 (b.size : Int))) = W7 at *
    go_wp2_with fail
    go_ret
    obtain ⟨hfin, sf⟩ := H9.out
    have hne := HC.out.ne
    exact ⟨rfl, sf.blk k1 (fun h => hne h.symm), hfin, (s1.mono fun k h => .inl h).trans (sf.mono fun k h => .inr h)⟩

set_option maxRecDepth 100000 in
set_option maxHeartbeats 4000000 in
theorem write1 (h : Ce w p g c) (hp : Blk w p 144 (PC L W)) (hI : In L) (b : ByteArray) (hb : b.size ≤ 200) :
    Calls Try.prog 74 #[.pointer (some ⟨g, 0, none⟩), .int .i64 1, .string b] w fun e w' => e = .returned (.int .i64 (eSp L)) ∧ Blk w' p 144 (PC (spL L) (wSp L W)) ∧ Ce w' p g (if L = 0 then c else c.put 1 b) ∧ St (two p g) w w' := by
  have hc := spend_ok hp hI
  have hz := run_zRoom
  have x0 := h.ptr
  by_cases hL : L = 0
  · subst hL
    rw [show eSp 0 = 110 by decide] at hc ⊢
    have HC := powers.lay h
    clear h hz
    go_enter Try.func74, Try.ntmps74
    go_wp2_with fail
    refine hc.mono ?_
    rintro e w1 ⟨rfl, k1, s1⟩
    go_wp2_with fail
    go_ret
    exact ⟨rfl, k1, by simpa using HC.out.keep s1 HC.out.ne, s1.mono fun k h => .inl h⟩
  · rw [show eSp L = 0 by unfold eSp; rw [if_neg hL]] at hc ⊢
    rw [if_neg hL]
    have HC := powers.lay h
    clear h hL
    go_enter Try.func74, Try.ntmps74
    go_wp2_with fail
    refine hc.mono ?_
    rintro e w1 ⟨rfl, k1, s1⟩
    have h1 := HC.out.keep s1 HC.out.ne
    have hz1 := h1.zero 1 202 (by omega) rfl
    have hth := h1.there (o := 202) (n := zRoom.size) (by rw [zRoom, Array.size_push, Array.size_replicate]; omega)
    have sz1 := St.setCells (g := g) (S := one g) rfl zRoom.toList 202 w1 (St.refl _ _)
    clear hz h1
    go_upto_region 4 with (fail)
    refine wp_region_lit ?_
    refine Great.wpList_runTo rfl (some 16) rfl (.pointer (some ⟨g, 0, none⟩)) w1 (by rfl) ?_
    refine Great.wpList_runTo rfl (some 17) rfl (.int .i64 1) w1 (by rfl) ?_
    refine wpList_buildTo rfl _ _ rfl (some 18) rfl zRoom (by kernel_rfl) ?_
    refine Great.wpList_runTo rfl (some 19) rfl (.pointer (some ⟨g, 0, none⟩)) w1 (by rfl) ?_
    refine Great.wpList_runTo rfl (some 20) rfl (.pointer (some ⟨g, 1, none⟩)) w1 (by rfl) ?_
    refine Great.wpList_runTo rfl (some 21) rfl (.pointer (some ⟨g, 202, none⟩)) w1 (by rfl) ?_
    refine wpList_store_mid rfl _ _ _ rfl g 202 zRoom rfl rfl hth sizeRoom oneRoom ?_
    refine wpList_nil ?_
    simp only [Act.put, List.setIfInBounds_toArray, List.set_cons_zero, List.set_cons_succ]
    generalize w1.setCells g 202 zRoom.toList = W2 at hz1 sz1 ⊢
    clear hth
    go_upto_region 5 with (fail)
    have hz2 : Cz W2.drew p g c 1 := hz1.agree rfl
    have sz2 : St (one g) w1 W2.drew := sz1.drew
    clear hz1 sz1
    refine mix.region_D (fun _ => True) (fun _ => false) (by kernel_rfl) ?_
    generalize W2.drew = Wd at hz2 sz2 ⊢
    obtain ⟨hfin, ⟨v2, x2⟩, f2, x3, f3⟩ := hz2.put_ok (o := 202) (u := 402) (by omega) rfl rfl b hb
    have hth : ∀ j, j < b.size → (Wd.cell? ⟨g, 202 + j, none⟩).isSome = true ∧ Wd.frozen? ⟨g, 202 + j, none⟩ = false := fun j hj => by
      obtain ⟨cs, hB, hs⟩ := hz2.blk
      exact ⟨by rw [hB.cell, Array.getElem?_eq_getElem (by omega)]; rfl, hB.frozen _⟩
    have hcp := fun ty => run_copy_string (P := Try.prog) Wd 152 9 ty 5 g 202 200 200 b Try.underlying152 sizeU8 hb (fun j hj => (hth j hj).1) (fun j hj => (hth j hj).2)
    have sf := ((St.setCells (g := g) (S := one g) rfl (b.data.toList.map fun x => Value.int .u8 (x.toNat : Int)) 202 _ sz2).set (g := g) rfl 402 (.int .i64 (b.size : Int))).set (g := g) rfl 403 (.int .i64 (nx c.D))
    clear hth hz2 sz2
    refine mix.D_take (i := 0) (v := ?_) rfl (by kernel_rfl) (by kernel_rfl) (fun _ _ _ h => h) (Or.inl ⟨by rfl, ?_⟩) trivial ?_
    rotate_left
    · intro w' _
      try simp only [List.getElem_toArray, List.getElem_cons_zero, List.getElem_cons_succ]
      go_simp
      exact rfl
    try simp only [Act.put, List.setIfInBounds_toArray, List.set_cons_zero, List.set_cons_succ, List.getElem_toArray, List.getElem_cons_zero, List.getElem_cons_succ]
    refine mix.D_take (i := 1) (v := ?_) rfl (by kernel_rfl) (by kernel_rfl) (fun _ _ _ h => h) (Or.inl ⟨by rfl, ?_⟩) trivial ?_
    rotate_left
    · intro w' _
      try simp only [List.getElem_toArray, List.getElem_cons_zero, List.getElem_cons_succ]
      go_simp
      exact rfl
    try simp only [Act.put, List.setIfInBounds_toArray, List.set_cons_zero, List.set_cons_succ, List.getElem_toArray, List.getElem_cons_zero, List.getElem_cons_succ]
    refine mix.D_take (i := 2) (v := ?_) rfl (by kernel_rfl) (by kernel_rfl) (fun _ _ _ h => h) (Or.inl ⟨by rfl, ?_⟩) trivial ?_
    rotate_left
    · intro w' _
      try simp only [List.getElem_toArray, List.getElem_cons_zero, List.getElem_cons_succ]
      go_simp
      exact rfl
    try simp only [Act.put, List.setIfInBounds_toArray, List.set_cons_zero, List.set_cons_succ, List.getElem_toArray, List.getElem_cons_zero, List.getElem_cons_succ]
    refine mix.D_take (i := 3) (v := ?_) rfl (by kernel_rfl) (by kernel_rfl) (fun _ _ _ h => h) (Or.inl ⟨by rfl, ?_⟩) trivial ?_
    rotate_left
    · intro w' _
      try simp only [List.getElem_toArray, List.getElem_cons_zero, List.getElem_cons_succ]
      go_simp
      exact rfl
    try simp only [Act.put, List.setIfInBounds_toArray, List.set_cons_zero, List.set_cons_succ, List.getElem_toArray, List.getElem_cons_zero, List.getElem_cons_succ]
    refine mix.D_take (i := 4) (v := ?_) rfl (by kernel_rfl) (by kernel_rfl) (fun _ _ _ h => h) (Or.inl ⟨by rfl, ?_⟩) trivial ?_
    rotate_left
    · intro w' _
      try simp only [List.getElem_toArray, List.getElem_cons_zero, List.getElem_cons_succ]
      go_simp
      exact rfl
    try simp only [Act.put, List.setIfInBounds_toArray, List.set_cons_zero, List.set_cons_succ, List.getElem_toArray, List.getElem_cons_zero, List.getElem_cons_succ]
    refine mix.D_take (i := 5) (v := ?_) rfl (by kernel_rfl) (by kernel_rfl) (fun _ _ _ h => h) (Or.inl ⟨by rfl, ?_⟩) trivial ?_
    rotate_left
    · intro w' _
      try simp only [List.getElem_toArray, List.getElem_cons_zero, List.getElem_cons_succ]
      go_simp
      exact rfl
    try simp only [Act.put, List.setIfInBounds_toArray, List.set_cons_zero, List.set_cons_succ, List.getElem_toArray, List.getElem_cons_zero, List.getElem_cons_succ]
    refine mix.D_take (i := 6) (v := ?_) rfl (by kernel_rfl) (by kernel_rfl) (fun _ _ _ h => h) (Or.inl ⟨by rfl, ?_⟩) trivial ?_
    rotate_left
    · intro w' _
      try simp only [List.getElem_toArray, List.getElem_cons_zero, List.getElem_cons_succ]
      go_simp
      exact rfl
    try simp only [Act.put, List.setIfInBounds_toArray, List.set_cons_zero, List.set_cons_succ, List.getElem_toArray, List.getElem_cons_zero, List.getElem_cons_succ]
    refine mix.D_take (i := 7) (v := ?_) rfl (by kernel_rfl) (by kernel_rfl) (fun _ _ _ h => h) (Or.inl ⟨by rfl, ?_⟩) trivial ?_
    rotate_left
    · intro w' _
      try simp only [List.getElem_toArray, List.getElem_cons_zero, List.getElem_cons_succ]
      go_simp
      exact rfl
    try simp only [Act.put, List.setIfInBounds_toArray, List.set_cons_zero, List.set_cons_succ, List.getElem_toArray, List.getElem_cons_zero, List.getElem_cons_succ]
    refine mix.D_take (i := 8) (v := ?_) rfl (by kernel_rfl) (by kernel_rfl) (fun _ _ _ h => h) (Or.inl ⟨by rfl, ?_⟩) trivial ?_
    rotate_left
    · intro w' _
      try simp only [List.getElem_toArray, List.getElem_cons_zero, List.getElem_cons_succ]
      go_simp
      exact rfl
    try simp only [Act.put, List.setIfInBounds_toArray, List.set_cons_zero, List.set_cons_succ, List.getElem_toArray, List.getElem_cons_zero, List.getElem_cons_succ]
    refine mix.D_take (i := 9) (v := ?_) rfl (by kernel_rfl) (by kernel_rfl) (fun _ _ _ h => h) (Or.inl ⟨by rfl, ?_⟩) trivial ?_
    rotate_left
    · intro w' _
      try simp only [List.getElem_toArray, List.getElem_cons_zero, List.getElem_cons_succ]
      go_simp
      exact rfl
    try simp only [Act.put, List.setIfInBounds_toArray, List.set_cons_zero, List.set_cons_succ, List.getElem_toArray, List.getElem_cons_zero, List.getElem_cons_succ]
    refine mix.D_take (i := 11) (v := ?_) rfl (by kernel_rfl) (by kernel_rfl) (fun _ _ _ h => h) (Or.inl ⟨by rfl, ?_⟩) trivial ?_
    rotate_left
    · intro w' _
      try simp only [List.getElem_toArray, List.getElem_cons_zero, List.getElem_cons_succ]
      go_simp
      exact rfl
    try simp only [Act.put, List.setIfInBounds_toArray, List.set_cons_zero, List.set_cons_succ, List.getElem_toArray, List.getElem_cons_zero, List.getElem_cons_succ]
    refine mix.D_take (i := 12) (v := ?_) rfl (by kernel_rfl) (by kernel_rfl) (fun _ _ _ h => h) (Or.inl ⟨by rfl, ?_⟩) trivial ?_
    rotate_left
    · intro w' _
      try simp only [List.getElem_toArray, List.getElem_cons_zero, List.getElem_cons_succ]
      go_simp
      exact rfl
    try simp only [Act.put, List.setIfInBounds_toArray, List.set_cons_zero, List.set_cons_succ, List.getElem_toArray, List.getElem_cons_zero, List.getElem_cons_succ]
    refine mix.D_op (k := 10) rfl rfl (by kernel_rfl) (fun K' hK => ?_)
    simp only [List.getElem_toArray, List.getElem_cons_zero, List.getElem_cons_succ]
    go_wp2_with fail
    refine hK.out _ _ (fun _ => trivial) ?_
    clear hK K' hcp
    try simp only [Act.put, List.setIfInBounds_toArray, List.set_cons_zero, List.set_cons_succ]
    refine mix.D_take (i := 13) (v := ?_) rfl (by kernel_rfl) (by kernel_rfl) (fun _ _ _ h => h) (Or.inl ⟨by rfl, ?_⟩) trivial ?_
    rotate_left
    · intro w' _
      try simp only [List.getElem_toArray, List.getElem_cons_zero, List.getElem_cons_succ]
      go_simp
      exact rfl
    try simp only [Act.put, List.setIfInBounds_toArray, List.set_cons_zero, List.set_cons_succ, List.getElem_toArray, List.getElem_cons_zero, List.getElem_cons_succ]
    refine mix.D_take (i := 14) (v := ?_) rfl (by kernel_rfl) (by kernel_rfl) (fun _ _ _ h => h) (Or.inl ⟨by rfl, ?_⟩) trivial ?_
    rotate_left
    · intro w' _
      try simp only [List.getElem_toArray, List.getElem_cons_zero, List.getElem_cons_succ]
      go_simp
      exact rfl
    try simp only [Act.put, List.setIfInBounds_toArray, List.set_cons_zero, List.set_cons_succ, List.getElem_toArray, List.getElem_cons_zero, List.getElem_cons_succ]
    refine mix.D_op (k := 15) rfl rfl (by kernel_rfl) (fun K' hK => ?_)
    simp only [List.getElem_toArray, List.getElem_cons_zero, List.getElem_cons_succ]
    go_wp2_with fail
    refine hK.out _ _ (fun _ => trivial) ?_
    clear hK K'
    refine mix.D_done (by kernel_rfl) ?_ _
    try simp only [Act.put, List.setIfInBounds_toArray, List.set_cons_zero, List.set_cons_succ]
    have H9 := powers.lay (And.intro hfin sf)
    clear hfin sf x2 f2
    generalize ((Wd.setCells g 202 (b.data.toList.map fun x => Value.int .u8 (x.toNat : Int))).setCell ⟨g, 402, none⟩ (.int .i64 (b.size : Int))) = W7 at *
    go_wp2_with fail
    go_ret
    obtain ⟨hfin, sf⟩ := H9.out
    have hne := HC.out.ne
    exact ⟨rfl, sf.blk k1 (fun h => hne h.symm), hfin, (s1.mono fun k h => .inl h).trans (sf.mono fun k h => .inr h)⟩

end
end Go.Proofs.Ytnndohdiiglgmaa.cells
