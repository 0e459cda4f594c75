/- maps.Clone at this dump: a book's two maps. -/
import Derived.Test.YtnhfpbllgjhcdaaBkAE
import Derived.Shelf.SlMaps.Clone


namespace Go.Proofs.Ytnhfpbllgjhcdaa.books
set_option linter.unusedVariables false
set_option linter.unusedSimpArgs false
open Go.RowKit Go.Shelf Go.Proofs.Ytnhfpbllgjhcdaa.base Go.Proofs.Ytnhfpbllgjhcdaa.quotas Go.Proofs.Ytnhfpbllgjhcdaa.vers Go.Proofs.Ytnhfpbllgjhcdaa.nodes Go.Proofs.Ytnhfpbllgjhcdaa.trees

def renS : Go.Shelf.Ren := ⟨fun | 5 => 48 | 7 => 68 | n => n, fun | 4 => 4 | 20 => 20 | 23 => 84 | 25 => 9 | 3 => 45 | n => n, fun | n => n⟩
def renT : Go.Shelf.Ren := ⟨fun | 5 => 49 | 7 => 68 | n => n, fun | 4 => 4 | 20 => 20 | 23 => 85 | 25 => 9 | 3 => 99 | n => n, fun | n => n⟩
theorem laysS : SlLaysW.n5 Try.prog renS := {
  mixed := by kernel_rfl
  f5 := ⟨Try.f48.name, by kernel_rfl, Try.func48.trans (congrArg some (by kernel_rfl))⟩
  f7 := Try.func68.trans (congrArg some (by kernel_rfl))
  t4 := Try.underlying4
  a4 := Try.isAgg4
  z4 := Try.sizeOf4
  v4 := Try.zeroValue4
  t20 := Try.underlying20
  a20 := Try.isAgg20
  z20 := Try.sizeOf20
  v20 := Try.zeroValue20
  t23 := Try.underlying84
  a23 := Try.isAgg84
  z23 := Try.sizeOf84
  v23 := Try.zeroValue84 }
theorem laysT : SlLaysW.n5 Try.prog renT := {
  mixed := by kernel_rfl
  f5 := ⟨Try.f49.name, by kernel_rfl, Try.func49.trans (congrArg some (by kernel_rfl))⟩
  f7 := Try.func68.trans (congrArg some (by kernel_rfl))
  t4 := Try.underlying4
  a4 := Try.isAgg4
  z4 := Try.sizeOf4
  v4 := Try.zeroValue4
  t20 := Try.underlying20
  a20 := Try.isAgg20
  z20 := Try.sizeOf20
  v20 := Try.zeroValue20
  t23 := Try.underlying85
  a23 := Try.isAgg85
  z23 := Try.sizeOf85
  v23 := Try.zeroValue85 }
theorem cloneS_any {w : World} {ms : Nat} {es : List E} (h : Own w ms es) :
    Calls Try.prog 48 #[.map (some ms)] w fun e w' => e = .returned (.map (some w.heap.size)) ∧ Own w' w.heap.size es ∧ Below w.heap.size w w' :=
  (AnyW.maps_Clone_owns laysS 9 RE ms _ (DE es) w h).mono fun _ _ h => ⟨h.1, h.2.1, h.2.2.2⟩
theorem cloneS_at {w : World} {ms : Nat} {Y : Nat → Prop} {L : List PB} (h : SAt w ms Y L) :
    Calls Try.prog 48 #[.map (some ms)] w fun e w' => e = .returned (.map (some w.heap.size)) ∧ SAt w' w.heap.size Y L ∧ Below w.heap.size w w' ∧ w.heap.size < w'.heap.size := by
  obtain ⟨es, h1, h2, h3, h4⟩ := h
  refine (cloneS_any h2).mono ?_
  rintro e w' ⟨he, ho, hb⟩
  exact ⟨he, ⟨es, h1, ho, fun e hx => ⟨(h3 e hx).1.agree (Agree.of_below hb fun g hg => (h4 g hg).1), (h3 e hx).2⟩, fun g hg => ⟨Nat.lt_of_lt_of_le (h4 g hg).1 hb.size, by have := (h4 g hg).1; omega⟩⟩, hb, ho.lt⟩
end Go.Proofs.Ytnhfpbllgjhcdaa.books
