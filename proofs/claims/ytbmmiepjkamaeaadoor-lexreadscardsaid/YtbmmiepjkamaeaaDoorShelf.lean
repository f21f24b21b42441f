/- Contracts of the library's functions, laid at this translation by the kit's tool. -/
import Derived.Shelf.Strings.Search1
import Derived.Shelf.Strings.Search2
import Derived.Shelf.Strings.Search3
import Derived.Shelf.Strings.Cut
import Derived.Shelf.Strings.Count
import Derived.Shelf.Strings.Split
import Derived.Test.YtbmmiepjkamaeaaDoorProg
namespace Go.Proofs
open Go.Shelf
def Tryd.lays217_ren : Go.Shelf.Ren := ⟨fun | 217 => 38 | 266 => 42 | n => n, fun | 9 => 9 | 5 => 5 | 3 => 3 | n => n, fun | n => n⟩
def Tryd.lays224_ren : Go.Shelf.Ren := ⟨fun | 224 => 40 | n => n, fun | 3 => 3 | n => n, fun | n => n⟩
def Tryd.lays314_ren : Go.Shelf.Ren := ⟨fun | 314 => 43 | n => n, fun | 9 => 9 | 51 => 62 | 3 => 3 | 4 => 4 | 5 => 5 | 46 => 57 | n => n, fun | n => n⟩
def Tryd.lays267_ren : Go.Shelf.Ren := ⟨fun | 267 => 41 | 314 => 43 | n => n, fun | 9 => 9 | 3 => 3 | 146 => 63 | 51 => 62 | 4 => 4 | 5 => 5 | 46 => 57 | n => n, fun | n => n⟩
def Tryd.lays219_ren : Go.Shelf.Ren := ⟨fun | 219 => 36 | 217 => 38 | 225 => 39 | 224 => 40 | 267 => 41 | 266 => 42 | 314 => 43 | n => n, fun | 9 => 9 | 3 => 3 | 4 => 4 | 5 => 5 | 46 => 57 | 146 => 63 | 51 => 62 | n => n, fun | 1 => 0 | n => n⟩
theorem Tryd.lays219 : Go.Proofs.Lays.n219 Tryd.prog Tryd.lays219_ren := {
 mixed := by kernel_rfl
 f217 := Tryd.func38.trans (congrArg some (by kernel_rfl))
 f219 := Tryd.func36.trans (congrArg some (by kernel_rfl))
 f224 := Tryd.func40.trans (congrArg some (by kernel_rfl))
 f225 := Tryd.func39.trans (congrArg some (by kernel_rfl))
 f266 := Tryd.func42.trans (congrArg some (by kernel_rfl))
 f267 := Tryd.func41.trans (congrArg some (by kernel_rfl))
 f314 := Tryd.func43.trans (congrArg some (by kernel_rfl))
 t3 := Tryd.underlying3
 a3 := Tryd.isAgg3
 z3 := Tryd.sizeOf3
 v3 := Tryd.zeroValue3
 t4 := Tryd.underlying4
 a4 := Tryd.isAgg4
 z4 := Tryd.sizeOf4
 v4 := Tryd.zeroValue4
 t5 := Tryd.underlying5
 a5 := Tryd.isAgg5
 z5 := Tryd.sizeOf5
 v5 := Tryd.zeroValue5
 t9 := Tryd.underlying9
 a9 := Tryd.isAgg9
 z9 := Tryd.sizeOf9
 v9 := Tryd.zeroValue9
 t46 := Tryd.underlying57
 a46 := Tryd.isAgg57
 z46 := Tryd.sizeOf57
 v46 := Tryd.zeroValue57
 t51 := Tryd.underlying62
 a51 := Tryd.isAgg62
 z51 := Tryd.sizeOf62
 v51 := Tryd.zeroValue62
 t146 := Tryd.underlying63
 a146 := Tryd.isAgg63
 z146 := Tryd.sizeOf63
 v146 := Tryd.zeroValue63
 g1 := by kernel_rfl }
open Go.RowKit Go.Lib in
theorem Tryd.stringslite_Index_one (s : ByteArray) (c : UInt8) (w : World) :
  Calls Tryd.prog 36 #[.string s, .string ⟨#[c]⟩] w fun e w' => e = .returned (.int .i64 (Lib.indexByte s.data.toList c)) ∧ w' = w := Any.stringslite_Index_one Tryd.lays219 s c w
def Tryd.lays143_ren : Go.Shelf.Ren := ⟨fun | 143 => 30 | 219 => 36 | 217 => 38 | 225 => 39 | 224 => 40 | 267 => 41 | 266 => 42 | 314 => 43 | n => n, fun | 9 => 9 | 3 => 3 | 4 => 4 | 5 => 5 | 46 => 57 | 146 => 63 | 51 => 62 | n => n, fun | 1 => 0 | n => n⟩
theorem Tryd.lays143 : Go.Proofs.Lays.n143 Tryd.prog Tryd.lays143_ren := {
 mixed := by kernel_rfl
 f143 := Tryd.func30.trans (congrArg some (by kernel_rfl))
 f217 := Tryd.func38.trans (congrArg some (by kernel_rfl))
 f219 := Tryd.func36.trans (congrArg some (by kernel_rfl))
 f224 := Tryd.func40.trans (congrArg some (by kernel_rfl))
 f225 := Tryd.func39.trans (congrArg some (by kernel_rfl))
 f266 := Tryd.func42.trans (congrArg some (by kernel_rfl))
 f267 := Tryd.func41.trans (congrArg some (by kernel_rfl))
 f314 := Tryd.func43.trans (congrArg some (by kernel_rfl))
 t3 := Tryd.underlying3
 a3 := Tryd.isAgg3
 z3 := Tryd.sizeOf3
 v3 := Tryd.zeroValue3
 t4 := Tryd.underlying4
 a4 := Tryd.isAgg4
 z4 := Tryd.sizeOf4
 v4 := Tryd.zeroValue4
 t5 := Tryd.underlying5
 a5 := Tryd.isAgg5
 z5 := Tryd.sizeOf5
 v5 := Tryd.zeroValue5
 t9 := Tryd.underlying9
 a9 := Tryd.isAgg9
 z9 := Tryd.sizeOf9
 v9 := Tryd.zeroValue9
 t46 := Tryd.underlying57
 a46 := Tryd.isAgg57
 z46 := Tryd.sizeOf57
 v46 := Tryd.zeroValue57
 t51 := Tryd.underlying62
 a51 := Tryd.isAgg62
 z51 := Tryd.sizeOf62
 v51 := Tryd.zeroValue62
 t146 := Tryd.underlying63
 a146 := Tryd.isAgg63
 z146 := Tryd.sizeOf63
 v146 := Tryd.zeroValue63
 g1 := by kernel_rfl }
open Go.RowKit Go.Lib in
theorem Tryd.strings_Index_one (s : ByteArray) (c : UInt8) (w : World) :
  Calls Tryd.prog 30 #[.string s, .string ⟨#[c]⟩] w fun e w' => e = .returned (.int .i64 (Lib.indexByte s.data.toList c)) ∧ w' = w := Any.strings_Index_one Tryd.lays143 s c w
def Tryd.lays220_ren : Go.Shelf.Ren := ⟨fun | 220 => 31 | 219 => 36 | 217 => 38 | 225 => 39 | 224 => 40 | 267 => 41 | 266 => 42 | 314 => 43 | n => n, fun | 9 => 9 | 4 => 4 | 3 => 3 | 5 => 5 | 46 => 57 | 146 => 63 | 51 => 62 | n => n, fun | 1 => 0 | n => n⟩
def Tryd.lays145_ren : Go.Shelf.Ren := ⟨fun | 145 => 26 | 220 => 31 | 219 => 36 | 217 => 38 | 225 => 39 | 224 => 40 | 267 => 41 | 266 => 42 | 314 => 43 | n => n, fun | 9 => 9 | 4 => 4 | 59 => 47 | 3 => 3 | 5 => 5 | 46 => 57 | 146 => 63 | 51 => 62 | n => n, fun | 1 => 0 | n => n⟩
def Tryd.lays138_ren : Go.Shelf.Ren := ⟨fun | 138 => 29 | 195 => 33 | 218 => 35 | 143 => 30 | 219 => 36 | 217 => 38 | 225 => 39 | 224 => 40 | 267 => 41 | 266 => 42 | 314 => 43 | n => n, fun | 9 => 9 | 3 => 3 | 4 => 4 | 5 => 5 | 0 => 0 | 46 => 57 | 146 => 63 | 51 => 62 | n => n, fun | 1 => 0 | n => n⟩
theorem Tryd.lays138 : Go.Proofs.Lays.n138 Tryd.prog Tryd.lays138_ren := {
 mixed := by kernel_rfl
 f138 := Tryd.func29.trans (congrArg some (by kernel_rfl))
 f143 := Tryd.func30.trans (congrArg some (by kernel_rfl))
 f195 := Tryd.func33.trans (congrArg some (by kernel_rfl))
 f217 := Tryd.func38.trans (congrArg some (by kernel_rfl))
 f218 := Tryd.func35.trans (congrArg some (by kernel_rfl))
 f219 := Tryd.func36.trans (congrArg some (by kernel_rfl))
 f224 := Tryd.func40.trans (congrArg some (by kernel_rfl))
 f225 := Tryd.func39.trans (congrArg some (by kernel_rfl))
 f266 := Tryd.func42.trans (congrArg some (by kernel_rfl))
 f267 := Tryd.func41.trans (congrArg some (by kernel_rfl))
 f314 := Tryd.func43.trans (congrArg some (by kernel_rfl))
 t0 := Tryd.underlying0
 a0 := Tryd.isAgg0
 z0 := Tryd.sizeOf0
 v0 := Tryd.zeroValue0
 t3 := Tryd.underlying3
 a3 := Tryd.isAgg3
 z3 := Tryd.sizeOf3
 v3 := Tryd.zeroValue3
 t4 := Tryd.underlying4
 a4 := Tryd.isAgg4
 z4 := Tryd.sizeOf4
 v4 := Tryd.zeroValue4
 t5 := Tryd.underlying5
 a5 := Tryd.isAgg5
 z5 := Tryd.sizeOf5
 v5 := Tryd.zeroValue5
 t9 := Tryd.underlying9
 a9 := Tryd.isAgg9
 z9 := Tryd.sizeOf9
 v9 := Tryd.zeroValue9
 t46 := Tryd.underlying57
 a46 := Tryd.isAgg57
 z46 := Tryd.sizeOf57
 v46 := Tryd.zeroValue57
 t51 := Tryd.underlying62
 a51 := Tryd.isAgg62
 z51 := Tryd.sizeOf62
 v51 := Tryd.zeroValue62
 t146 := Tryd.underlying63
 a146 := Tryd.isAgg63
 z146 := Tryd.sizeOf63
 v146 := Tryd.zeroValue63
 g1 := by kernel_rfl }
open Go.RowKit Go.Lib in
theorem Tryd.strings_Count_one (s : ByteArray) (c : UInt8) (w : World) :
  Calls Tryd.prog 29 #[.string s, .string ⟨#[c]⟩] w fun e w' => e = .returned (.int .i64 (Lib.countByte s.data.toList c)) ∧ w' = w := Any.strings_Count_one Tryd.lays138 s c w
def Tryd.lays221_ren : Go.Shelf.Ren := ⟨fun | 221 => 24 | 268 => 28 | 138 => 29 | 143 => 30 | 195 => 33 | 197 => 34 | 218 => 35 | 219 => 36 | 260 => 37 | 217 => 38 | 225 => 39 | 224 => 40 | 267 => 41 | 266 => 42 | 314 => 43 | n => n, fun | 9 => 9 | 3 => 3 | 31 => 30 | 4 => 4 | 0 => 0 | 105 => 53 | 21 => 21 | 5 => 5 | 46 => 57 | 119 => 58 | 139 => 61 | 138 => 60 | 146 => 63 | 51 => 62 | n => n, fun | 1 => 0 | 3 => 1 | 4 => 2 | n => n⟩
theorem Tryd.lays221 : Go.Proofs.Lays.n221 Tryd.prog Tryd.lays221_ren := {
 mixed := by kernel_rfl
 f138 := Tryd.func29.trans (congrArg some (by kernel_rfl))
 f143 := Tryd.func30.trans (congrArg some (by kernel_rfl))
 f195 := Tryd.func33.trans (congrArg some (by kernel_rfl))
 f197 := Tryd.func34.trans (congrArg some (by kernel_rfl))
 f217 := Tryd.func38.trans (congrArg some (by kernel_rfl))
 f218 := Tryd.func35.trans (congrArg some (by kernel_rfl))
 f219 := Tryd.func36.trans (congrArg some (by kernel_rfl))
 f221 := Tryd.func24.trans (congrArg some (by kernel_rfl))
 f224 := Tryd.func40.trans (congrArg some (by kernel_rfl))
 f225 := Tryd.func39.trans (congrArg some (by kernel_rfl))
 f260 := Tryd.func37.trans (congrArg some (by kernel_rfl))
 f266 := Tryd.func42.trans (congrArg some (by kernel_rfl))
 f267 := Tryd.func41.trans (congrArg some (by kernel_rfl))
 f268 := Tryd.func28.trans (congrArg some (by kernel_rfl))
 f314 := Tryd.func43.trans (congrArg some (by kernel_rfl))
 t0 := Tryd.underlying0
 a0 := Tryd.isAgg0
 z0 := Tryd.sizeOf0
 v0 := Tryd.zeroValue0
 t3 := Tryd.underlying3
 a3 := Tryd.isAgg3
 z3 := Tryd.sizeOf3
 v3 := Tryd.zeroValue3
 t4 := Tryd.underlying4
 a4 := Tryd.isAgg4
 z4 := Tryd.sizeOf4
 v4 := Tryd.zeroValue4
 t5 := Tryd.underlying5
 a5 := Tryd.isAgg5
 z5 := Tryd.sizeOf5
 v5 := Tryd.zeroValue5
 t9 := Tryd.underlying9
 a9 := Tryd.isAgg9
 z9 := Tryd.sizeOf9
 v9 := Tryd.zeroValue9
 t21 := Tryd.underlying21
 a21 := Tryd.isAgg21
 z21 := Tryd.sizeOf21
 v21 := Tryd.zeroValue21
 t31 := Tryd.underlying30
 a31 := Tryd.isAgg30
 z31 := Tryd.sizeOf30
 v31 := Tryd.zeroValue30
 t46 := Tryd.underlying57
 a46 := Tryd.isAgg57
 z46 := Tryd.sizeOf57
 v46 := Tryd.zeroValue57
 t51 := Tryd.underlying62
 a51 := Tryd.isAgg62
 z51 := Tryd.sizeOf62
 v51 := Tryd.zeroValue62
 t105 := Tryd.underlying53
 a105 := Tryd.isAgg53
 z105 := Tryd.sizeOf53
 v105 := Tryd.zeroValue53
 t119 := Tryd.underlying58
 a119 := Tryd.isAgg58
 z119 := Tryd.sizeOf58
 t138 := Tryd.underlying60
 a138 := Tryd.isAgg60
 z138 := Tryd.sizeOf60
 v138 := Tryd.zeroValue60
 t139 := Tryd.underlying61
 a139 := Tryd.isAgg61
 z139 := Tryd.sizeOf61
 v139 := Tryd.zeroValue61
 t146 := Tryd.underlying63
 a146 := Tryd.isAgg63
 z146 := Tryd.sizeOf63
 v146 := Tryd.zeroValue63
 g1 := by kernel_rfl
 g3 := by kernel_rfl
 g4 := by kernel_rfl }
def Tryd.lays146_ren : Go.Shelf.Ren := ⟨fun | 146 => 18 | 221 => 24 | 268 => 28 | 138 => 29 | 143 => 30 | 195 => 33 | 197 => 34 | 218 => 35 | 219 => 36 | 260 => 37 | 217 => 38 | 225 => 39 | 224 => 40 | 267 => 41 | 266 => 42 | 314 => 43 | n => n, fun | 9 => 9 | 31 => 30 | 3 => 3 | 4 => 4 | 0 => 0 | 105 => 53 | 21 => 21 | 5 => 5 | 46 => 57 | 119 => 58 | 139 => 61 | 138 => 60 | 146 => 63 | 51 => 62 | n => n, fun | 1 => 0 | 3 => 1 | 4 => 2 | n => n⟩
end Go.Proofs
