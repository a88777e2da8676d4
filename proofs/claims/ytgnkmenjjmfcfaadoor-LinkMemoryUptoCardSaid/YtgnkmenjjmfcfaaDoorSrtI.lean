/-
  That the library's sort lies in this program: the shelf's laying, its plain text as the shelf's tool prints it for this seat (the numbers are this seat's).
-/
import Derived.Shelf.SortG.SortNone
import Derived.Shelf.SortG.Plain
import Derived.Ground.SlgnProg
import Derived.Test.YtgnkmenjjmfcfaaDoorProg
namespace Go.Proofs.YtgnkmenjjmfcfaaDoor
open Go.Shelf
def sortI_ren : Go.Shelf.Ren := ⟨fun | 53 => 36 | 64 => 45 | 63 => 44 | 78 => 42 | 79 => 58 | 70 => 49 | 71 => 50 | 72 => 51 | 73 => 52 | 74 => 53 | 75 => 54 | 59 => 55 | 76 => 56 | 77 => 57 | 88 => 63 | 89 => 64 | 90 => 65 | 91 => 66 | 92 => 67 | 68 => 68 | 96 => 71 | n => n, fun | 22 => 51 | 23 => 3 | 3 => 3 | 51 => 92 | 0 => 0 | 67 => 29 | 69 => 112 | 4 => 4 | 61 => 104 | 60 => 103 | 44 => 109 | 5 => 5 | 9 => 9 | 75 => 134 | 79 => 138 | 83 => 146 | 84 => 62 | n => n, fun | n => n⟩
theorem sortI : Go.Proofs.SlLaysN.n53 Tryd.prog sortI_ren := {
  mixed := by kernel_rfl
  f53 := ⟨Tryd.f36.name, by decide, Tryd.func36.trans (congrArg some (by kernel_rfl))⟩
  f59 := ⟨Tryd.f55.name, by decide, Tryd.func55.trans (congrArg some (by kernel_rfl))⟩
  f63 := ⟨Tryd.f44.name, by decide, Tryd.func44.trans (congrArg some (by kernel_rfl))⟩
  f64 := Tryd.func45.trans (congrArg some (by kernel_rfl))
  f68 := ⟨Tryd.f68.name, by decide, Tryd.func68.trans (congrArg some (by kernel_rfl))⟩
  f70 := ⟨Tryd.f49.name, by decide, Tryd.func49.trans (congrArg some (by kernel_rfl))⟩
  f71 := ⟨Tryd.f50.name, by decide, Tryd.func50.trans (congrArg some (by kernel_rfl))⟩
  f72 := ⟨Tryd.f51.name, by decide, Tryd.func51.trans (congrArg some (by kernel_rfl))⟩
  f73 := ⟨Tryd.f52.name, by decide, Tryd.func52.trans (congrArg some (by kernel_rfl))⟩
  f74 := ⟨Tryd.f53.name, by decide, Tryd.func53.trans (congrArg some (by kernel_rfl))⟩
  f75 := ⟨Tryd.f54.name, by decide, Tryd.func54.trans (congrArg some (by kernel_rfl))⟩
  f76 := ⟨Tryd.f56.name, by decide, Tryd.func56.trans (congrArg some (by kernel_rfl))⟩
  f77 := ⟨Tryd.f57.name, by decide, Tryd.func57.trans (congrArg some (by kernel_rfl))⟩
  f78 := Tryd.func42.trans (congrArg some (by kernel_rfl))
  f79 := Tryd.func58.trans (congrArg some (by kernel_rfl))
  f88 := ⟨Tryd.f63.name, by decide, Tryd.func63.trans (congrArg some (by kernel_rfl))⟩
  f89 := Tryd.func64.trans (congrArg some (by kernel_rfl))
  f90 := Tryd.func65.trans (congrArg some (by kernel_rfl))
  f91 := ⟨Tryd.f66.name, by decide, Tryd.func66.trans (congrArg some (by kernel_rfl))⟩
  f92 := ⟨Tryd.f67.name, by decide, Tryd.func67.trans (congrArg some (by kernel_rfl))⟩
  f96 := ⟨Tryd.f71.name, by decide, Tryd.func71.trans (congrArg some (by kernel_rfl))⟩
  t0 := Tryd.underlying0
  a0 := Tryd.isAgg0
  z0 := Tryd.sizeOf0
  v0 := Tryd.zeroValue0
  t3 := Tryd.underlying3
  a3 := Tryd.isAgg3
  z3 := Tryd.sizeOf3
  v3 := Tryd.zeroValue3
  t4 := Tryd.underlying4
  a4 := Tryd.isAgg4
  z4 := Tryd.sizeOf4
  v4 := Tryd.zeroValue4
  t5 := Tryd.underlying5
  a5 := Tryd.isAgg5
  z5 := Tryd.sizeOf5
  v5 := Tryd.zeroValue5
  t9 := Tryd.underlying9
  a9 := Tryd.isAgg9
  z9 := Tryd.sizeOf9
  v9 := Tryd.zeroValue9
  t22 := Tryd.underlying51
  a22 := Tryd.isAgg51
  z22 := Tryd.sizeOf51
  v22 := Tryd.zeroValue51
  t23 := Tryd.underlying3
  a23 := Tryd.isAgg3
  z23 := Tryd.sizeOf3
  v23 := Tryd.zeroValue3
  t44 := Tryd.underlying109
  a44 := Tryd.isAgg109
  z44 := Tryd.sizeOf109
  v44 := Tryd.zeroValue109
  t51 := Tryd.underlying92
  a51 := Tryd.isAgg92
  z51 := Tryd.sizeOf92
  v51 := Tryd.zeroValue92
  t60 := Tryd.underlying103
  a60 := Tryd.isAgg103
  z60 := Tryd.sizeOf103
  v60 := Tryd.zeroValue103
  t61 := Tryd.underlying104
  a61 := Tryd.isAgg104
  z61 := Tryd.sizeOf104
  v61 := Tryd.zeroValue104
  t67 := Tryd.underlying29
  a67 := Tryd.isAgg29
  z67 := Tryd.sizeOf29
  v67 := Tryd.zeroValue29
  t69 := Tryd.underlying112
  a69 := Tryd.isAgg112
  z69 := Tryd.sizeOf112
  v69 := Tryd.zeroValue112
  t75 := Tryd.underlying134
  a75 := Tryd.isAgg134
  z75 := Tryd.sizeOf134
  v75 := Tryd.zeroValue134
  t79 := Tryd.underlying138
  a79 := Tryd.isAgg138
  z79 := Tryd.sizeOf138
  v79 := Tryd.zeroValue138
  t83 := Tryd.underlying146
  a83 := Tryd.isAgg146
  z83 := Tryd.sizeOf146
  v83 := Tryd.zeroValue146
  t84 := Tryd.underlying62
  a84 := Tryd.isAgg62
  z84 := Tryd.sizeOf62
  v84 := Tryd.zeroValue62 }
end Go.Proofs.YtgnkmenjjmfcfaaDoor
