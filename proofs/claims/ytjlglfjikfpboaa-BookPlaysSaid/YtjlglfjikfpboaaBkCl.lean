/- maps.Clone at this dump: a book's two maps. -/
import Derived.Test.YtjlglfjikfpboaaBkAE
import Derived.Shelf.SlMaps.Clone


namespace Go.Proofs.Ytjlglfjikfpboaa.books
set_option linter.unusedVariables false
set_option linter.unusedSimpArgs false
open Go.RowKit Go.Shelf Go.Proofs.Ytjlglfjikfpboaa.base Go.Proofs.Ytjlglfjikfpboaa.quotas Go.Proofs.Ytjlglfjikfpboaa.vers Go.Proofs.Ytjlglfjikfpboaa.nodes Go.Proofs.Ytjlglfjikfpboaa.trees

def renS : Go.Shelf.Ren := ⟨fun | 5 => 80 | 7 => 120 | n => n, fun | 4 => 4 | 20 => 20 | 23 => 130 | 25 => 9 | 3 => 79 | n => n, fun | n => n⟩
def renT : Go.Shelf.Ren := ⟨fun | 5 => 81 | 7 => 120 | n => n, fun | 4 => 4 | 20 => 20 | 23 => 107 | 25 => 9 | 3 => 106 | n => n, fun | n => n⟩
theorem laysS : SlLaysW.n5 Try.prog renS := {
  mixed := by kernel_rfl
  f5 := ⟨Try.f80.name, by kernel_rfl, Try.func80.trans (congrArg some (by kernel_rfl))⟩
  f7 := Try.func120.trans (congrArg some (by kernel_rfl))
  t4 := Try.underlying4
  a4 := Try.isAgg4
  z4 := Try.sizeOf4
  v4 := Try.zeroValue4
  t20 := Try.underlying20
  a20 := Try.isAgg20
  z20 := Try.sizeOf20
  v20 := Try.zeroValue20
  t23 := Try.underlying130
  a23 := Try.isAgg130
  z23 := Try.sizeOf130
  v23 := Try.zeroValue130 }
theorem laysT : SlLaysW.n5 Try.prog renT := {
  mixed := by kernel_rfl
  f5 := ⟨Try.f81.name, by kernel_rfl, Try.func81.trans (congrArg some (by kernel_rfl))⟩
  f7 := Try.func120.trans (congrArg some (by kernel_rfl))
  t4 := Try.underlying4
  a4 := Try.isAgg4
  z4 := Try.sizeOf4
  v4 := Try.zeroValue4
  t20 := Try.underlying20
  a20 := Try.isAgg20
  z20 := Try.sizeOf20
  v20 := Try.zeroValue20
  t23 := Try.underlying107
  a23 := Try.isAgg107
  z23 := Try.sizeOf107
  v23 := Try.zeroValue107 }
theorem cloneS_any {w : World} {ms : Nat} {es : List E} (h : Own w ms es) :
    Calls Try.prog 80 #[.map (some ms)] w fun e w' => e = .returned (.map (some w.heap.size)) ∧ Own w' w.heap.size es ∧ Below w.heap.size w w' :=
  (AnyW.maps_Clone_owns laysS 9 RE ms _ (DE es) w h).mono fun _ _ h => ⟨h.1, h.2.1, h.2.2.2⟩
theorem cloneS_at {w : World} {ms : Nat} {Y : Nat → Prop} {L : List PB} (h : SAt w ms Y L) :
    Calls Try.prog 80 #[.map (some ms)] w fun e w' => e = .returned (.map (some w.heap.size)) ∧ SAt w' w.heap.size Y L ∧ Below w.heap.size w w' ∧ w.heap.size < w'.heap.size := by
  obtain ⟨es, h1, h2, h3, h4⟩ := h
  refine (cloneS_any h2).mono ?_
  rintro e w' ⟨he, ho, hb⟩
  exact ⟨he, ⟨es, h1, ho, fun e hx => ⟨(h3 e hx).1.agree (Agree.of_below hb fun g hg => (h4 g hg).1), (h3 e hx).2⟩, fun g hg => ⟨Nat.lt_of_lt_of_le (h4 g hg).1 hb.size, by have := (h4 g hg).1; omega⟩⟩, hb, ho.lt⟩
end Go.Proofs.Ytjlglfjikfpboaa.books
