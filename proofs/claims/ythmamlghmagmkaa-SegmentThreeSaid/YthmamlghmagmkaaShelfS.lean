/- slices.SortFunc at places and cmp.Compare at ints: the contracts of the library laid at this program. -/
import Derived.Shelf.SlSortCmp.WholeK
import Derived.Shelf.SlicesG.Cmp
import Derived.Test.YthmamlghmagmkaaProg
namespace Go.Proofs
open Go.Shelf
def Try.sortPl_ren : Go.Shelf.Ren := ⟨fun | 6 => 191 | 15 => 180 | 14 => 212 | 28 => 208 | 29 => 209 | 20 => 219 | 21 => 220 | 22 => 221 | 23 => 222 | 24 => 223 | 25 => 224 | 26 => 225 | 27 => 226 | 46 => 228 | 47 => 214 | 48 => 215 | 49 => 229 | 50 => 230 | 57 => 231 | n => n, fun | 22 => 82 | 24 => 95 | 25 => 279 | 3 => 3 | 39 => 259 | 0 => 0 | 53 => 291 | 55 => 25 | 4 => 4 | 46 => 285 | 45 => 284 | 50 => 51 | 5 => 5 | 9 => 9 | 66 => 296 | 70 => 300 | 76 => 308 | 77 => 92 | n => n, fun | n => n⟩
theorem Try.sortPl : Go.Proofs.SlLaysF0.n6 Try.prog Try.sortPl_ren := {
  mixed := by kernel_rfl
  f6 := ⟨Try.f191.name, by decide, Try.func191.trans (congrArg some (by kernel_rfl))⟩
  f14 := ⟨Try.f212.name, by decide, Try.func212.trans (congrArg some (by kernel_rfl))⟩
  f15 := Try.func180.trans (congrArg some (by kernel_rfl))
  f20 := ⟨Try.f219.name, by decide, Try.func219.trans (congrArg some (by kernel_rfl))⟩
  f21 := ⟨Try.f220.name, by decide, Try.func220.trans (congrArg some (by kernel_rfl))⟩
  f22 := ⟨Try.f221.name, by decide, Try.func221.trans (congrArg some (by kernel_rfl))⟩
  f23 := ⟨Try.f222.name, by decide, Try.func222.trans (congrArg some (by kernel_rfl))⟩
  f24 := ⟨Try.f223.name, by decide, Try.func223.trans (congrArg some (by kernel_rfl))⟩
  f25 := ⟨Try.f224.name, by decide, Try.func224.trans (congrArg some (by kernel_rfl))⟩
  f26 := ⟨Try.f225.name, by decide, Try.func225.trans (congrArg some (by kernel_rfl))⟩
  f27 := ⟨Try.f226.name, by decide, Try.func226.trans (congrArg some (by kernel_rfl))⟩
  f28 := Try.func208.trans (congrArg some (by kernel_rfl))
  f29 := Try.func209.trans (congrArg some (by kernel_rfl))
  f46 := ⟨Try.f228.name, by decide, Try.func228.trans (congrArg some (by kernel_rfl))⟩
  f47 := Try.func214.trans (congrArg some (by kernel_rfl))
  f48 := Try.func215.trans (congrArg some (by kernel_rfl))
  f49 := ⟨Try.f229.name, by decide, Try.func229.trans (congrArg some (by kernel_rfl))⟩
  f50 := ⟨Try.f230.name, by decide, Try.func230.trans (congrArg some (by kernel_rfl))⟩
  f57 := ⟨Try.f231.name, by decide, Try.func231.trans (congrArg some (by kernel_rfl))⟩
  t0 := Try.underlying0
  a0 := Try.isAgg0
  z0 := Try.sizeOf0
  v0 := Try.zeroValue0
  t3 := Try.underlying3
  a3 := Try.isAgg3
  z3 := Try.sizeOf3
  v3 := Try.zeroValue3
  t4 := Try.underlying4
  a4 := Try.isAgg4
  z4 := Try.sizeOf4
  v4 := Try.zeroValue4
  t5 := Try.underlying5
  a5 := Try.isAgg5
  z5 := Try.sizeOf5
  v5 := Try.zeroValue5
  t9 := Try.underlying9
  a9 := Try.isAgg9
  z9 := Try.sizeOf9
  v9 := Try.zeroValue9
  t22 := Try.underlying82
  a22 := Try.isAgg82
  z22 := Try.sizeOf82
  v22 := Try.zeroValue82
  t25 := Try.underlying279
  a25 := Try.isAgg279
  z25 := Try.sizeOf279
  v25 := Try.zeroValue279
  t39 := Try.underlying259
  a39 := Try.isAgg259
  z39 := Try.sizeOf259
  v39 := Try.zeroValue259
  t45 := Try.underlying284
  a45 := Try.isAgg284
  z45 := Try.sizeOf284
  v45 := Try.zeroValue284
  t46 := Try.underlying285
  a46 := Try.isAgg285
  z46 := Try.sizeOf285
  v46 := Try.zeroValue285
  t50 := Try.underlying51
  a50 := Try.isAgg51
  z50 := Try.sizeOf51
  v50 := Try.zeroValue51
  t53 := Try.underlying291
  a53 := Try.isAgg291
  z53 := Try.sizeOf291
  v53 := Try.zeroValue291
  t55 := Try.underlying25
  a55 := Try.isAgg25
  z55 := Try.sizeOf25
  v55 := Try.zeroValue25
  t66 := Try.underlying296
  a66 := Try.isAgg296
  z66 := Try.sizeOf296
  v66 := Try.zeroValue296
  t70 := Try.underlying300
  a70 := Try.isAgg300
  z70 := Try.sizeOf300
  v70 := Try.zeroValue300
  t76 := Try.underlying308
  a76 := Try.isAgg308
  z76 := Try.sizeOf308
  v76 := Try.zeroValue308
  t77 := Try.underlying92
  a77 := Try.isAgg92
  z77 := Try.sizeOf92
  v77 := Try.zeroValue92 }
def Try.cmpInt_ren : Go.Shelf.Ren := ⟨fun | 5 => 194 | 7 => 210 | n => n, fun | 22 => 3 | 3 => 3 | 4 => 4 | n => n, fun | n => n⟩
theorem Try.cmpInt : Go.Proofs.SlLaysC2.n5 Try.prog Try.cmpInt_ren := {
  mixed := by kernel_rfl
  f5 := ⟨Try.f194.name, by decide, Try.func194.trans (congrArg some (by kernel_rfl))⟩
  f7 := ⟨Try.f210.name, by decide, Try.func210.trans (congrArg some (by kernel_rfl))⟩
  t3 := Try.underlying3
  a3 := Try.isAgg3
  z3 := Try.sizeOf3
  v3 := Try.zeroValue3
  t4 := Try.underlying4
  a4 := Try.isAgg4
  z4 := Try.sizeOf4
  v4 := Try.zeroValue4
  t22 := Try.underlying3
  a22 := Try.isAgg3
  z22 := Try.sizeOf3
  v22 := Try.zeroValue3 }
open Go.Lib in
/-- cmp.Compare at ints -/
theorem Try.cmp_Compare_ints (x y : Int) (w : World) :
    Calls Try.prog 194 #[.int .i64 x, .int .i64 y] w fun e w' => e = .returned (.int .i64 (Lib.compareInt x y)) ∧ w' = w := AnyG.cmp_Compare_int Try.cmpInt x y w
end Go.Proofs
