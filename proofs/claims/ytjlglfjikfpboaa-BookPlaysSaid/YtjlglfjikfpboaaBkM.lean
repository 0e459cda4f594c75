/- book's Gone. -/
import Derived.Test.YtjlglfjikfpboaaBkL


namespace Go.Proofs.Ytjlglfjikfpboaa.books
set_option linter.unusedVariables false
set_option linter.unusedSimpArgs false
open Go.RowKit Go.Shelf Go.Proofs.Ytjlglfjikfpboaa.base Go.Proofs.Ytjlglfjikfpboaa.quotas Go.Proofs.Ytjlglfjikfpboaa.vers Go.Proofs.Ytjlglfjikfpboaa.nodes Go.Proofs.Ytjlglfjikfpboaa.trees Go.Proofs.Ytjlglfjikfpboaa.texts

/-- all texts of secrets -/
def allP : List PB → List ByteArray
  | [] => []
  | x :: l => (x.1 :: vts x.2) ++ allP l
theorem allE_pe (l : List E) : allE l = allP (l.map pe) := by
  induction l with
  | nil => rfl
  | cons x l ih => rw [allE, List.map_cons, allP, ih]; rfl
/-- what went, and stands nowhere -/
def goneP (b : Bk) : List (List UInt8) := b.P.filter fun v => !decide (v ∈ fin (allP b.L))
theorem DT_has (P : List (List UInt8)) (x : ByteArray) : Maps.has (DT P) (ks x) = decide (bn x ∈ P) := by
  unfold DT
  rw [Maps.has_eq]
  induction P with
  | nil => rfl
  | cons y r ih =>
    rw [List.map_cons, List.any_cons, ih]
    simp only [Lit.sameKey, List.mem_cons]
    by_cases h : y = bn x
    · simp [h]
    · have h2 : ¬ bn x = y := fun e => h e.symm
      simp [h, h2]
theorem bas_bn (P : List (List UInt8)) : (bas P).map bn = P := by
  unfold bas
  rw [List.map_map]
  exact (List.map_congr_left fun x _ => ba_bn x).trans (List.map_id _)
theorem bas_mem {P : List (List UInt8)} {x : ByteArray} : x ∈ bas P ↔ bn x ∈ P := by
  constructor
  · intro h
    obtain ⟨y, hy, rfl⟩ := List.mem_map.1 h
    rwa [ba_bn]
  · intro h
    exact List.mem_map.2 ⟨bn x, h, bn_ext (ba_bn _)⟩
theorem gone_eq (P : List (List UInt8)) (g : List UInt8 → Bool) : (((bas P).filter fun x => g (bn x)).map bn) = P.filter g := by
  rw [← bas_bn P, List.filter_map, bas_bn]
  rfl
def GnHead (w w1 : World) (mp : Nat) (P : List (List UInt8)) (ok : ByteArray → Bool) (u : Value) (wr : World) : Prop :=
  ∃ (left : Lit → Bool) (cnt : Nat) (out : List ByteArray), wr.ranges Try.prog 9 (unitElem (H := Value)) mp w1.heap.size P.length (DT P) left cnt ∧ wr.ownsRow 0 9 1 u out.length (sts out) ∧ (∀ g, u.ownBlock = some g → w1.heap.size < g) ∧ Below w1.heap.size w1 wr ∧ Hid (Coll (bas P) ok left cnt out)

set_option maxRecDepth 100000 in
set_option maxHeartbeats 2000000 in
theorem gone_ok (bp mp : Nat) (q : Qt) (Z : Nat → Prop) (b : Bk) (w : World) (hB : BAt w q bp mp Z b) (hup : Up b.L) (hlen : b.L.length ≤ 1000000) (hlenP : b.P.length ≤ 1000000) (hall : (allP b.L).length ≤ 4000000) :
    Calls Try.prog 78 #[.pointer (some ⟨bp, 0, none⟩)] w fun e w' => ∃ v, e = .returned v ∧ Below w.heap.size w w' ∧ Txt w' w.heap.size v (goneP b) := by
  obtain ⟨ms, Y, e1, ⟨es, hpe, hown, hV, hY⟩, hT, hP, e5, e6, e7, e8⟩ := hB
  obtain ⟨L, P⟩ := b
  simp only [] at hpe hT hP hup hlen hlenP hall
  subst hpe
  rw [List.length_map] at hlen
  have ha := all_own bp ms mp q es Y w e1 hown hV hup hlen
  have lB := e1.lt
  have lM := hT.lt
  have x8 := e1.cell 8
  simp only [bcells, List.getElem?_toArray, List.getElem?_cons_zero, List.getElem?_cons_succ] at x8
  unfold goneP
  simp only []
  generalize hG : (P.filter fun v => !decide (v ∈ fin (allP (es.map pe)))) = G
  have HG := vers.lay hG
  clear hG
  go_enter Try.func78, Try.ntmps78
  go_wp2_with fail
  refine ha.mono ?_
  rintro e2 w1 ⟨hb1, v1, le, rfl, hle, hO1⟩
  obtain ⟨A1, c1, rfl, hE1⟩ := hO1.es
  have hN : (allE le).length ≤ 4000000 := by rw [allE_pe, hle]; exact hall
  have ht := texts_any le A1 c1 w1 hE1.es hN
  have hfe : fin (allE le) = fin (allP (es.map pe)) := by rw [allE_pe, hle]
  rw [hfe] at ht
  have hfs := (fin_props (allP (es.map pe))).1
  generalize fin (allP (es.map pe)) = T at ht hfs HG
  go_wp2_with fail
  refine ht.mono ?_
  rintro e3 w2 ⟨v2, rfl, hb2, hT2⟩
  have hb12 := hb1.trans (hb2.mono hb1.size)
  have x8b := (hb12.cell (p := ⟨bp, 8, none⟩) lB).trans x8
  have hTb := ownT_below hT hb12
  have z12 := hb12.size
  go_wp2_with (first | (at_range; refine wpList_range_own _ rfl _ 107 rfl 9 106 kK Try.underlying107 unitElem mp _ (DT P) rfl hTb ?_; intro w3 hrg0 hg0 hs0))
  go_frame
  have hb0 : Below w2.heap.size w2 w3 := ⟨hg0.os, hg0.tape, hg0.output, hg0.size, fun k hk => hg0.block k hk (by simp)⟩
  go_loopw [4] (fun u wr => GnHead w w2 mp P (fun x => !decide (bn x ∈ T)) u wr ∧ w2.heap.size < wr.heap.size) (fun _ wr => wr.rangeLeft mp w2.heap.size)
  case atStart =>
    refine ⟨⟨_, _, [], hrg0, ⟨rfl, .inl ⟨rfl, rfl⟩⟩, (fun g h => by cases h), hb0, vers.lay ?_⟩, by omega⟩
    have := Coll.start (bas P) (fun x => !decide (bn x ∈ T)) (Maps.has (DT P)) (fun s hs => by rw [DT_has]; exact decide_eq_true (bas_mem.1 hs))
    rw [DT_size]
    rwa [bas_len] at this
  case round =>
    obtain ⟨⟨left, cnt, out, hrg, hO, hu, hb, hC⟩, hwr⟩ := hrel
    have hcl := hC.out.2.2
    rw [bas_len] at hcl
    have hsz := hb.size
    have lM2 : mp < w2.heap.size := by omega
    go_wp2_with (first | (at_next; refine wp_next _ rfl _ rfl unitElem rfl hrg ?_ ?_))
    · intro hc0 hl0
      have hdn := hC.out.done hl0 (by rw [bas_bn]; exact hP)
      have hE : ExtS w2.heap.size wr wr u4 out := ⟨ownsRow_base hO (fun g hg => Nat.le_of_lt (hu g hg)), Below.refl _ _, fun _ _ _ _ h => h⟩
      go_wp2_with fail
      refine (sort_any hE hsz (by omega)).mono ?_
      rintro e4 w4 ⟨rfl, hb4, hz4, ho4⟩
      rw [hdn, gone_eq P (fun x => !decide (x ∈ T)), HG.out] at ho4
      go_wp2_with fail
      go_ret
      have hGl : G.length ≤ P.length := by rw [← HG.out]; exact List.length_filter_le _ _
      have ho5 := ownsRow_base (lo' := w.heap.size) ho4 (fun g hg => by have := (ho4.lt g hg).1; omega)
      exact ⟨_, rfl, (hb12.trans (hb.mono z12)).trans (hb4.mono z12), own_txt ho5 (by omega)⟩
    · intro x v1 w4 cnt' hxs hxD hxl hrg1 hlt hg1 hs1 hen
      have hxP : x ∈ bas P := by rw [DT_has] at hxD; exact bas_mem.2 (of_decide_eq_true hxD)
      have hO1' : w4.ownsRow 0 9 1 u4 out.length (sts out) := ownsRow_agree hO (fun g hg => hg1.block g (hO.lt g hg).2 (fun e => by injection e with e; have := hu g hg; omega))
      have bl4 := bl_next hb hg1 (Below.refl _ _)
      have hbs := search_any v2 w1.heap.size T x w4 (hT2.below bl4) hfs
      cases hp : decide (bn x ∈ T) with
      | true =>
        rw [hp] at hbs
        have hfx := vers.lay hp
        clear hp
        go_wp2_with fail
        refine hbs.mono ?_
        rintro e5 w5 ⟨i5, rfl, rfl⟩
        go_wp2_with fail
        have hr9 := rg_next hu hrg1 (Below.refl _ _) lM2 (Keep.refl _ _)
        exact ⟨⟨⟨_, cnt', out, hr9, hO1', hu, bl4, vers.lay (hC.out.skip (by rw [hfx.out]; rfl) hlt)⟩, by omega⟩, by rw [hr9.left_eq, hrg.left_eq]; omega⟩
      | false =>
        rw [hp] at hbs
        have hfx := vers.lay hp
        clear hp
        go_wp2_with fail
        refine hbs.mono ?_
        rintro e5 w5 ⟨i5, rfl, rfl⟩
        go_wp2_with (at_builtin; refine wp_text rfl _ _ rfl hO1' rfl rfl hs1.symm (by omega) ?_; intro v9 w9 ho9 hk9 hv9 hz9)
        have hr9 := rg_next hu hrg1 (Below.refl _ _) lM2 hk9
        have zk := hk9.size
        refine ⟨⟨⟨_, cnt', out ++ [x], hr9, ho9, fun g hg => ?_, bl4.trans (hk9.below (fun g hg => Nat.le_of_lt (hu g hg)) bl4.size), vers.lay (hC.out.take (by rw [hfx.out]; rfl) hxP hxl hlt)⟩, by omega⟩, by rw [hr9.left_eq, hrg.left_eq]; omega⟩
        rcases hv9 g hg with h | h
        · exact hu g h
        · omega

end Go.Proofs.Ytjlglfjikfpboaa.books
