/- book's Names. -/
import Derived.Test.YtjlglfjikfpboaaBkI


namespace Go.Proofs.Ytjlglfjikfpboaa.books
set_option linter.unusedVariables false
set_option linter.unusedSimpArgs false
open Go.RowKit Go.Shelf Go.Proofs.Ytjlglfjikfpboaa.base Go.Proofs.Ytjlglfjikfpboaa.quotas Go.Proofs.Ytjlglfjikfpboaa.vers Go.Proofs.Ytjlglfjikfpboaa.nodes Go.Proofs.Ytjlglfjikfpboaa.trees Go.Proofs.Ytjlglfjikfpboaa.texts

abbrev nmB (L : List PB) : List ByteArray := L.map (·.1)
def fitP (ps : List ByteArray) (s : ByteArray) : Bool := ps.length == 0 || ps.any (hasP s)
/-- the names that begin with one of some texts -/
def namesP (L : List PB) (ps : List ByteArray) : List (List UInt8) := ((nmB L).filter (fitP ps)).map bn
theorem names_le (L : List PB) (ps : List ByteArray) : (namesP L ps).length ≤ L.length := by
  unfold namesP
  rw [List.length_map]
  refine Nat.le_trans (List.length_filter_le _ _) (by rw [List.length_map]; exact Nat.le_refl _)
theorem up_names {L : List PB} (h : Up L) : ((nmB L).map bn).Pairwise (· < ·) := by
  rw [List.map_map]
  exact List.Pairwise.map _ (fun _ _ h => h) h
theorem has_mem {es : List E} {x : ByteArray} (h : Maps.has (DE es) (ks x) = true) : x ∈ nmB (es.map pe) := by
  rw [DE_has] at h
  cases hl : lkE es x with
  | none => rw [hl] at h; cases h
  | some e =>
    have := lkE_some hl
    exact List.mem_map.2 ⟨pe e, List.mem_map.2 ⟨e, this.1, rfl⟩, this.2⟩
theorem lkE_none {es : List E} {s : ByteArray} (h : lkE es s = none) : ∀ e ∈ es, e.s ≠ s := by
  induction es with
  | nil => intro e he; cases he
  | cons z r ih =>
    rw [lkE] at h
    split at h
    · cases h
    · rename_i hz
      intro e he
      rcases List.mem_cons.1 he with rfl | he
      · exact hz
      · exact ih h e he
theorem mem_has {es : List E} {x : ByteArray} (h : x ∈ nmB (es.map pe)) : Maps.has (DE es) (ks x) = true := by
  rw [DE_has]
  cases hl : lkE es x with
  | some e => rfl
  | none =>
    obtain ⟨y, hy, rfl⟩ := List.mem_map.1 h
    obtain ⟨e, he, rfl⟩ := List.mem_map.1 hy
    exact (lkE_none hl e he rfl).elim
/-- at the loop's head -/
def NmHead (w : World) (ms : Nat) (es : List E) (ps : List ByteArray) (u : Value) (wr : World) : Prop :=
  ∃ (left : Lit → Bool) (cnt : Nat) (out : List ByteArray), wr.ranges Try.prog 9 RE ms w.heap.size es.length (DE es) left cnt ∧ wr.ownsRow 0 9 1 u out.length (sts out) ∧ (∀ g, u.ownBlock = some g → w.heap.size < g) ∧ Below w.heap.size w wr ∧ Hid (Coll (nmB (es.map pe)) (fitP ps) left cnt out)
theorem rg_next {w w1 w2 w3 : World} {R : Value → Option (DataW Value × List MemPlace)} {D : DataW Value} {ms n : Nat} {u : Value} {left : Lit → Bool} {cnt : Nat} (h3 : ∀ g, u.ownBlock = some g → w.heap.size < g) (hrg : w1.ranges Try.prog 9 R ms w.heap.size n D left cnt) (hb2 : Below w1.heap.size w1 w2) (hms : ms < w.heap.size)
    (hk : Keep (fun g => u.ownBlock = some g) w2 w3) : w3.ranges Try.prog 9 R ms w.heap.size n D left cnt :=
  ranges_keep (ranges_keep hrg (Keep.of_below (S := fun _ => False) hb2) id id) hk (fun h => by have := h3 _ h; omega) (fun h => by have := h3 _ h; omega)
theorem bl_next {w wr w1 w2 : World} (h4 : Below w.heap.size w wr) (hg : wr.grownBy w1 (some w.heap.size)) (hb2 : Below w1.heap.size w1 w2) : Below w.heap.size w w2 :=
  (h4.trans ((keep_grown hg).below (fun g hg => Nat.le_of_eq hg.symm) h4.size)).trans (hb2.mono (Nat.le_trans h4.size hg.size))

set_option maxRecDepth 100000 in
set_option maxHeartbeats 2000000 in
theorem names_own (bp ms mp : Nat) (q : Qt) (es : List E) (ps : List ByteArray) (A : Option Addr) (c : Nat) (w : World) (e1 : Blk w bp 132 (bcells q ms mp)) (hown : Own w ms es) (hup : Up (es.map pe)) (hT : Ts w w.heap.size ps A c) (hlen : es.length ≤ 1000000) :
    Calls Try.prog 41 #[.pointer (some ⟨bp, 0, none⟩), .slice A ps.length c] w fun e w' => ∃ v, e = .returned v ∧ Below w.heap.size w w' ∧ w'.ownsRow w.heap.size 9 1 v (namesP (es.map pe) ps).length ((namesP (es.map pe) ps).map encStr) := by
  have lB := e1.lt
  have lM := hown.lt
  have x7 := e1.cell 7
  simp only [bcells, List.getElem?_toArray, List.getElem?_cons_zero, List.getElem?_cons_succ] at x7
  have hpl : ps.length ≤ 140737488355328 := by have := hT.2.1; omega
  go_enter Try.func41, Try.ntmps41
  go_wp2_with (first | (at_range; refine wpList_range_own _ rfl _ 130 rfl 9 79 kK Try.underlying130 RE ms _ (DE es) rfl hown ?_; intro w0 hrg0 hg0 hs0))
  go_frame
  have hb0 : Below w.heap.size w w0 := ⟨hg0.os, hg0.tape, hg0.output, hg0.size, fun k hk => hg0.block k hk (by simp)⟩
  go_loopw [5] (fun u wr => NmHead w ms es ps u wr ∧ w.heap.size < wr.heap.size) (fun _ wr => wr.rangeLeft ms w.heap.size)
  case atStart =>
    refine ⟨⟨_, _, [], hrg0, ⟨rfl, .inl ⟨rfl, rfl⟩⟩, (fun g h => by cases h), hb0, vers.lay ?_⟩, by omega⟩
    have := Coll.start (nmB (es.map pe)) (fitP ps) (Maps.has (DE es)) (fun s hs => mem_has hs)
    rw [DE_size]
    simpa using this
  case round =>
    obtain ⟨⟨left, cnt, out, hrg, hO, hu, hb, hC⟩, hwr⟩ := hrel
    have hcl := hC.out.2.2
    rw [List.length_map, List.length_map] at hcl
    have hsz := hb.size
    by_cases hp0 : ps.length = 0
    · have d0 : ((ps.length : Int) == 0) = true := by simp [hp0]
      have hfit : ∀ x, fitP ps x = true := fun x => by unfold fitP; simp [hp0]
      have HP := vers.lay hp0
      clear hp0
      go_wp2_with (first | (at_next; refine wp_next _ rfl _ rfl RE rfl hrg ?_ ?_))
      · skip
        intro hc0 hl0
        have hdn := hC.out.done hl0 (up_names hup)
        have hE : ExtS w.heap.size wr wr u5 out := ⟨ownsRow_base hO (fun g hg => Nat.le_of_lt (hu g hg)), Below.refl _ _, fun _ _ _ _ h => h⟩
        go_wp2_with fail
        refine (sort_any hE hsz (by omega)).mono ?_
        rintro e3 w3 ⟨rfl, hb3, hz3, ho3⟩
        rw [hdn] at ho3
        go_wp2_with fail
        go_ret
        exact ⟨_, rfl, hb.trans hb3, ho3⟩
      · skip
        intro x v1 w1 cnt' hxs hxD hxl hrg1 hlt hg1 hs1 hen
        have hO1 : w1.ownsRow 0 9 1 u5 out.length (sts out) := ownsRow_agree hO (fun g hg => hg1.block g (hO.lt g hg).2 (fun e => by injection e with e; have := hu g hg; omega))
        go_wp2_with (at_builtin; refine wp_text rfl _ _ rfl (hO1) rfl rfl hs1.symm (by omega) ?_; intro v9 w9 ho9 hk9 hv9 hz9)
        have hr9 := rg_next hu hrg1 (Below.refl w1.heap.size w1) lM hk9
        have zk := hk9.size
        have zb := ((Below.refl w1.heap.size w1)).size
        refine ⟨⟨⟨_, cnt', out ++ [x], hr9, ho9, fun g hg => ?_, (bl_next hb hg1 (Below.refl w1.heap.size w1)).trans (hk9.below (fun g hg => Nat.le_of_lt (hu g hg)) (bl_next hb hg1 (Below.refl w1.heap.size w1)).size), vers.lay (hC.out.take (hfit x) (has_mem hxD) hxl hlt)⟩, by omega⟩, by rw [hr9.left_eq, hrg.left_eq]; omega⟩
        rcases hv9 g hg with h | h
        · exact hu g h
        · omega
    · have d0 : ((ps.length : Int) == 0) = false := by simpa using hp0
      have hfit : ∀ x, fitP ps x = ps.any (hasP x) := fun x => by unfold fitP; rw [show (ps.length == 0) = false by simpa using hp0]; rfl
      have HP := vers.lay hp0
      clear hp0
      go_wp2_with (first | (at_next; refine wp_next _ rfl _ rfl RE rfl hrg ?_ ?_))
      · skip
        intro hc0 hl0
        have hdn := hC.out.done hl0 (up_names hup)
        have hE : ExtS w.heap.size wr wr u5 out := ⟨ownsRow_base hO (fun g hg => Nat.le_of_lt (hu g hg)), Below.refl _ _, fun _ _ _ _ h => h⟩
        go_wp2_with fail
        refine (sort_any hE hsz (by omega)).mono ?_
        rintro e3 w3 ⟨rfl, hb3, hz3, ho3⟩
        rw [hdn] at ho3
        go_wp2_with fail
        go_ret
        exact ⟨_, rfl, hb.trans hb3, ho3⟩
      · skip
        intro x v1 w1 cnt' hxs hxD hxl hrg1 hlt hg1 hs1 hen
        have hO1 : w1.ownsRow 0 9 1 u5 out.length (sts out) := ownsRow_agree hO (fun g hg => hg1.block g (hO.lt g hg).2 (fun e => by injection e with e; have := hu g hg; omega))
        have hbg := begins_any x ps A c w1 ((hT.below (bl_next hb hg1 (Below.refl _ _))).more (bl_next hb hg1 (Below.refl _ _)).size)
        cases hp : ps.any (hasP x) with
        | true =>
          rw [hp] at hbg
          have hfx := vers.lay ((hfit x).trans hp)
          clear hp hfit
          go_wp2_with fail
          refine hbg.mono ?_
          rintro e2 w2 ⟨rfl, hb2⟩
          have hO2 := row_below hO1 hb2
          go_wp2_with (at_builtin; refine wp_text rfl _ _ rfl (hO2) rfl rfl rfl (by omega) ?_; intro v9 w9 ho9 hk9 hv9 hz9)
          have hr9 := rg_next hu hrg1 hb2 lM hk9
          have zk := hk9.size
          have zb := (hb2).size
          refine ⟨⟨⟨_, cnt', out ++ [x], hr9, ho9, fun g hg => ?_, (bl_next hb hg1 hb2).trans (hk9.below (fun g hg => Nat.le_of_lt (hu g hg)) (bl_next hb hg1 hb2).size), vers.lay (hC.out.take hfx.out (has_mem hxD) hxl hlt)⟩, by omega⟩, by rw [hr9.left_eq, hrg.left_eq]; omega⟩
          rcases hv9 g hg with h | h
          · exact hu g h
          · omega
        | false =>
          rw [hp] at hbg
          have hfx := vers.lay ((hfit x).trans hp)
          clear hp hfit
          go_wp2_with fail
          refine hbg.mono ?_
          rintro e2 w2 ⟨rfl, hb2⟩
          have hO2 := row_below hO1 hb2
          go_wp2_with fail
          have hr9 := rg_next hu hrg1 hb2 lM (Keep.refl _ _)
          have zb := hb2.size
          exact ⟨⟨⟨_, cnt', out, hr9, hO2, hu, bl_next hb hg1 hb2, vers.lay (hC.out.skip hfx.out hlt)⟩, by omega⟩, by rw [hr9.left_eq, hrg.left_eq]; omega⟩

end Go.Proofs.Ytjlglfjikfpboaa.books
