/- slices.SortFunc at places and cmp.Compare at ints: the contracts of the library laid at this program. -/
import Derived.Shelf.SlSortCmp.WholeK
import Derived.Shelf.SlicesG.Cmp
import Derived.Test.YtoenkkbcpafanaaProg
namespace Go.Proofs
open Go.Shelf
def Try.sortPl_ren : Go.Shelf.Ren := ⟨fun | 6 => 238 | 15 => 192 | 14 => 263 | 28 => 233 | 29 => 234 | 20 => 270 | 21 => 271 | 22 => 272 | 23 => 273 | 24 => 274 | 25 => 275 | 26 => 276 | 27 => 277 | 46 => 280 | 47 => 258 | 48 => 259 | 49 => 281 | 50 => 282 | 57 => 283 | n => n, fun | 22 => 68 | 24 => 189 | 25 => 329 | 3 => 3 | 39 => 283 | 0 => 0 | 53 => 323 | 55 => 25 | 4 => 4 | 46 => 317 | 45 => 316 | 50 => 51 | 5 => 5 | 9 => 9 | 66 => 343 | 70 => 346 | 76 => 356 | 77 => 104 | n => n, fun | n => n⟩
theorem Try.sortPl : Go.Proofs.SlLaysF0.n6 Try.prog Try.sortPl_ren := {
  mixed := by kernel_rfl
  f6 := ⟨Try.f238.name, by decide, Try.func238.trans (congrArg some (by kernel_rfl))⟩
  f14 := ⟨Try.f263.name, by decide, Try.func263.trans (congrArg some (by kernel_rfl))⟩
  f15 := Try.func192.trans (congrArg some (by kernel_rfl))
  f20 := ⟨Try.f270.name, by decide, Try.func270.trans (congrArg some (by kernel_rfl))⟩
  f21 := ⟨Try.f271.name, by decide, Try.func271.trans (congrArg some (by kernel_rfl))⟩
  f22 := ⟨Try.f272.name, by decide, Try.func272.trans (congrArg some (by kernel_rfl))⟩
  f23 := ⟨Try.f273.name, by decide, Try.func273.trans (congrArg some (by kernel_rfl))⟩
  f24 := ⟨Try.f274.name, by decide, Try.func274.trans (congrArg some (by kernel_rfl))⟩
  f25 := ⟨Try.f275.name, by decide, Try.func275.trans (congrArg some (by kernel_rfl))⟩
  f26 := ⟨Try.f276.name, by decide, Try.func276.trans (congrArg some (by kernel_rfl))⟩
  f27 := ⟨Try.f277.name, by decide, Try.func277.trans (congrArg some (by kernel_rfl))⟩
  f28 := Try.func233.trans (congrArg some (by kernel_rfl))
  f29 := Try.func234.trans (congrArg some (by kernel_rfl))
  f46 := ⟨Try.f280.name, by decide, Try.func280.trans (congrArg some (by kernel_rfl))⟩
  f47 := Try.func258.trans (congrArg some (by kernel_rfl))
  f48 := Try.func259.trans (congrArg some (by kernel_rfl))
  f49 := ⟨Try.f281.name, by decide, Try.func281.trans (congrArg some (by kernel_rfl))⟩
  f50 := ⟨Try.f282.name, by decide, Try.func282.trans (congrArg some (by kernel_rfl))⟩
  f57 := ⟨Try.f283.name, by decide, Try.func283.trans (congrArg some (by kernel_rfl))⟩
  t0 := Try.underlying0
  a0 := Try.isAgg0
  z0 := Try.sizeOf0
  v0 := Try.zeroValue0
  t3 := Try.underlying3
  a3 := Try.isAgg3
  z3 := Try.sizeOf3
  v3 := Try.zeroValue3
  t4 := Try.underlying4
  a4 := Try.isAgg4
  z4 := Try.sizeOf4
  v4 := Try.zeroValue4
  t5 := Try.underlying5
  a5 := Try.isAgg5
  z5 := Try.sizeOf5
  v5 := Try.zeroValue5
  t9 := Try.underlying9
  a9 := Try.isAgg9
  z9 := Try.sizeOf9
  v9 := Try.zeroValue9
  t22 := Try.underlying68
  a22 := Try.isAgg68
  z22 := Try.sizeOf68
  v22 := Try.zeroValue68
  t25 := Try.underlying329
  a25 := Try.isAgg329
  z25 := Try.sizeOf329
  v25 := Try.zeroValue329
  t39 := Try.underlying283
  a39 := Try.isAgg283
  z39 := Try.sizeOf283
  v39 := Try.zeroValue283
  t45 := Try.underlying316
  a45 := Try.isAgg316
  z45 := Try.sizeOf316
  v45 := Try.zeroValue316
  t46 := Try.underlying317
  a46 := Try.isAgg317
  z46 := Try.sizeOf317
  v46 := Try.zeroValue317
  t50 := Try.underlying51
  a50 := Try.isAgg51
  z50 := Try.sizeOf51
  v50 := Try.zeroValue51
  t53 := Try.underlying323
  a53 := Try.isAgg323
  z53 := Try.sizeOf323
  v53 := Try.zeroValue323
  t55 := Try.underlying25
  a55 := Try.isAgg25
  z55 := Try.sizeOf25
  v55 := Try.zeroValue25
  t66 := Try.underlying343
  a66 := Try.isAgg343
  z66 := Try.sizeOf343
  v66 := Try.zeroValue343
  t70 := Try.underlying346
  a70 := Try.isAgg346
  z70 := Try.sizeOf346
  v70 := Try.zeroValue346
  t76 := Try.underlying356
  a76 := Try.isAgg356
  z76 := Try.sizeOf356
  v76 := Try.zeroValue356
  t77 := Try.underlying104
  a77 := Try.isAgg104
  z77 := Try.sizeOf104
  v77 := Try.zeroValue104 }
def Try.cmpInt_ren : Go.Shelf.Ren := ⟨fun | 5 => 241 | 7 => 235 | n => n, fun | 22 => 3 | 3 => 3 | 4 => 4 | n => n, fun | n => n⟩
theorem Try.cmpInt : Go.Proofs.SlLaysC2.n5 Try.prog Try.cmpInt_ren := {
  mixed := by kernel_rfl
  f5 := ⟨Try.f241.name, by decide, Try.func241.trans (congrArg some (by kernel_rfl))⟩
  f7 := ⟨Try.f235.name, by decide, Try.func235.trans (congrArg some (by kernel_rfl))⟩
  t3 := Try.underlying3
  a3 := Try.isAgg3
  z3 := Try.sizeOf3
  v3 := Try.zeroValue3
  t4 := Try.underlying4
  a4 := Try.isAgg4
  z4 := Try.sizeOf4
  v4 := Try.zeroValue4
  t22 := Try.underlying3
  a22 := Try.isAgg3
  z22 := Try.sizeOf3
  v22 := Try.zeroValue3 }
open Go.Lib in
/-- cmp.Compare at ints -/
theorem Try.cmp_Compare_ints (x y : Int) (w : World) :
    Calls Try.prog 241 #[.int .i64 x, .int .i64 y] w fun e w' => e = .returned (.int .i64 (Lib.compareInt x y)) ∧ w' = w := AnyG.cmp_Compare_int Try.cmpInt x y w
end Go.Proofs
