/- The library's contract of utf8.ValidString, laid at this program; its two tables. Condition: the tables are laid as their initialisers lay them. -/
import Derived.Shelf.Unicode.ValidAny
import Derived.Test.YtkjiokepihmpfaaDoorUnits
set_option linter.unusedVariables false
set_option linter.unusedSimpArgs false
namespace Go.Proofs
open Go.Shelf Go.Lib
def Tryd.laysV_ren : Ren := ⟨fun | 196 => 66 | 259 => 83 | n => n, fun | 0 => 0 | 3 => 3 | 4 => 4 | 5 => 5 | 9 => 9 | 12 => 12 | 46 => 150 | 53 => 159 | 119 => 146 | 138 => 148 | 139 => 149 | n => n, fun | 3 => 0 | 4 => 1 | n => n⟩
theorem Tryd.laysV : Lays.n196 Tryd.prog Tryd.laysV_ren := {
  mixed := by kernel_rfl
  f196 := Tryd.func66.trans (congrArg some (by kernel_rfl))
  f259 := Tryd.func83.trans (congrArg some (by kernel_rfl))
  t0 := Tryd.underlying0
  a0 := Tryd.isAgg0
  z0 := Tryd.sizeOf0
  v0 := Tryd.zeroValue0
  t3 := Tryd.underlying3
  a3 := Tryd.isAgg3
  z3 := Tryd.sizeOf3
  v3 := Tryd.zeroValue3
  t4 := Tryd.underlying4
  a4 := Tryd.isAgg4
  z4 := Tryd.sizeOf4
  v4 := Tryd.zeroValue4
  t5 := Tryd.underlying5
  a5 := Tryd.isAgg5
  z5 := Tryd.sizeOf5
  v5 := Tryd.zeroValue5
  t9 := Tryd.underlying9
  a9 := Tryd.isAgg9
  z9 := Tryd.sizeOf9
  v9 := Tryd.zeroValue9
  t12 := Tryd.underlying12
  a12 := Tryd.isAgg12
  z12 := Tryd.sizeOf12
  v12 := Tryd.zeroValue12
  t46 := Tryd.underlying150
  a46 := Tryd.isAgg150
  z46 := Tryd.sizeOf150
  v46 := Tryd.zeroValue150
  t53 := Tryd.underlying159
  a53 := Tryd.isAgg159
  z53 := Tryd.sizeOf159
  v53 := Tryd.zeroValue159
  t119 := Tryd.underlying146
  a119 := Tryd.isAgg146
  z119 := Tryd.sizeOf146
  t138 := Tryd.underlying148
  a138 := Tryd.isAgg148
  z138 := Tryd.sizeOf148
  v138 := Tryd.zeroValue148
  t139 := Tryd.underlying149
  a139 := Tryd.isAgg149
  z139 := Tryd.sizeOf149
  v139 := Tryd.zeroValue149
  g3 := by kernel_rfl
  g4 := by kernel_rfl }
namespace YtkjiokepihmpfaaDoor
/-- Both tables are laid. -/
def Tabs (w : World) : Prop := Lib.Utf8Tabs (Tryd.laysV_ren.g 3) (Tryd.laysV_ren.g 4) w
theorem val_of {w : World} (h : Tabs w) : Val w := fun s W hz hb =>
  Any.utf8_ValidString Tryd.laysV s W (by omega) (Utf8Tabs_below h hb)
end YtkjiokepihmpfaaDoor
end Go.Proofs
