/- The library sort, laid at this program. -/
import Derived.Test.YtgcdminjpdbchaaDoorRb7
import Derived.Shelf.Sort.Plain
namespace Go.Proofs.YtgcdminjpdbchaaDoor
open Go.Shelf Go.RowKit Go.Sort
def Tryd.lays190_ren : Go.Shelf.Ren := ⟨fun | 190 => 30 | 125 => 40 | 258 => 39 | 128 => 51 | 129 => 52 | 302 => 42 | 303 => 43 | 304 => 44 | 305 => 45 | 306 => 46 | 307 => 47 | 308 => 48 | 309 => 49 | 310 => 50 | 333 => 55 | 329 => 56 | 330 => 57 | 334 => 58 | 335 => 59 | 336 => 60 | 344 => 62 | n => n, fun | 31 => 41 | 9 => 9 | 3 => 3 | 46 => 58 | 0 => 0 | 51 => 87 | 53 => 22 | 4 => 4 | 183 => 80 | 182 => 79 | 131 => 53 | 5 => 5 | 218 => 89 | 222 => 93 | 228 => 95 | 229 => 96 | n => n, fun | n => n⟩
theorem Tryd.lays190 : Go.Proofs.Lays.n190 Tryd.prog Tryd.lays190_ren := {
  mixed := by kernel_rfl
  f125 := Tryd.func40.trans (congrArg some (by kernel_rfl))
  f128 := Tryd.func51.trans (congrArg some (by kernel_rfl))
  f129 := Tryd.func52.trans (congrArg some (by kernel_rfl))
  f190 := Tryd.func30.trans (congrArg some (by kernel_rfl))
  f258 := Tryd.func39.trans (congrArg some (by kernel_rfl))
  f302 := Tryd.func42.trans (congrArg some (by kernel_rfl))
  f303 := Tryd.func43.trans (congrArg some (by kernel_rfl))
  f304 := Tryd.func44.trans (congrArg some (by kernel_rfl))
  f305 := Tryd.func45.trans (congrArg some (by kernel_rfl))
  f306 := Tryd.func46.trans (congrArg some (by kernel_rfl))
  f307 := Tryd.func47.trans (congrArg some (by kernel_rfl))
  f308 := Tryd.func48.trans (congrArg some (by kernel_rfl))
  f309 := Tryd.func49.trans (congrArg some (by kernel_rfl))
  f310 := Tryd.func50.trans (congrArg some (by kernel_rfl))
  f329 := Tryd.func56.trans (congrArg some (by kernel_rfl))
  f330 := Tryd.func57.trans (congrArg some (by kernel_rfl))
  f333 := Tryd.func55.trans (congrArg some (by kernel_rfl))
  f334 := Tryd.func58.trans (congrArg some (by kernel_rfl))
  f335 := Tryd.func59.trans (congrArg some (by kernel_rfl))
  f336 := Tryd.func60.trans (congrArg some (by kernel_rfl))
  f344 := Tryd.func62.trans (congrArg some (by kernel_rfl))
  t0 := Tryd.underlying0
  a0 := Tryd.isAgg0
  z0 := Tryd.sizeOf0
  v0 := Tryd.zeroValue0
  t3 := Tryd.underlying3
  a3 := Tryd.isAgg3
  z3 := Tryd.sizeOf3
  v3 := Tryd.zeroValue3
  t4 := Tryd.underlying4
  a4 := Tryd.isAgg4
  z4 := Tryd.sizeOf4
  v4 := Tryd.zeroValue4
  t5 := Tryd.underlying5
  a5 := Tryd.isAgg5
  z5 := Tryd.sizeOf5
  v5 := Tryd.zeroValue5
  t9 := Tryd.underlying9
  a9 := Tryd.isAgg9
  z9 := Tryd.sizeOf9
  v9 := Tryd.zeroValue9
  t31 := Tryd.underlying41
  a31 := Tryd.isAgg41
  z31 := Tryd.sizeOf41
  v31 := Tryd.zeroValue41
  t46 := Tryd.underlying58
  a46 := Tryd.isAgg58
  z46 := Tryd.sizeOf58
  v46 := Tryd.zeroValue58
  t51 := Tryd.underlying87
  a51 := Tryd.isAgg87
  z51 := Tryd.sizeOf87
  v51 := Tryd.zeroValue87
  t53 := Tryd.underlying22
  a53 := Tryd.isAgg22
  z53 := Tryd.sizeOf22
  v53 := Tryd.zeroValue22
  t131 := Tryd.underlying53
  a131 := Tryd.isAgg53
  z131 := Tryd.sizeOf53
  v131 := Tryd.zeroValue53
  t182 := Tryd.underlying79
  a182 := Tryd.isAgg79
  z182 := Tryd.sizeOf79
  v182 := Tryd.zeroValue79
  t183 := Tryd.underlying80
  a183 := Tryd.isAgg80
  z183 := Tryd.sizeOf80
  v183 := Tryd.zeroValue80
  t218 := Tryd.underlying89
  a218 := Tryd.isAgg89
  z218 := Tryd.sizeOf89
  v218 := Tryd.zeroValue89
  t222 := Tryd.underlying93
  a222 := Tryd.isAgg93
  z222 := Tryd.sizeOf93
  v222 := Tryd.zeroValue93
  t228 := Tryd.underlying95
  a228 := Tryd.isAgg95
  z228 := Tryd.sizeOf95
  v228 := Tryd.zeroValue95
  t229 := Tryd.underlying96
  a229 := Tryd.isAgg96
  z229 := Tryd.sizeOf96
  v229 := Tryd.zeroValue96 }
theorem sortsStr : SortsStr := fun blk off cap ss w hH hb hl => Any.slices_Sort_string Tryd.lays190 blk off cap ss w hH hb hl
theorem Keys_tells (bP bS seed bits n : Nat) (s : List RS) (w : World) (h : IsTb w bP bS seed bits n s) (hn : n ≤ 256) :
    Calls Tryd.prog 17 #[.pointer (some ⟨bP, 0, none⟩)] w (StrsTold (((usedL s n).map kB).mergeSort fun x y => decide (x ≤ y)) w) := Keys_any sortsStr bP bS seed bits n s w h hn
end Go.Proofs.YtgcdminjpdbchaaDoor
