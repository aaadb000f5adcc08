/-
  Contracts of Go's library off the shelf: strings.TrimLeft, strconv's small numbers, strings.HasPrefix, strings.Repeat, WriteString, bits.TrailingZeros64.
-/
import Derived.Shelf.Spec.TrailingZeros
import Derived.Shelf.Strconv.Itoa1
import Derived.Shelf.Strings.Builder1
import Derived.Shelf.Strings.Builder2
import Derived.Shelf.Strings.BuilderK
import Derived.Shelf.Strings.Prefix
import Derived.Shelf.Strings.Repeat
import Derived.Shelf.Strings.Trim
import Derived.Test.YtnplifkgeeicjaaGreatDoorU05
namespace Go.Proofs.YtnplifkgeeicjaaGreatDoor
open Go.Shelf Go.RowKit
def lays161_ren : Go.Shelf.Ren := ⟨fun | 161 => 224 | 231 => 256 | 227 => 257 | 233 => 258 | 235 => 259 | 228 => 273 | 197 => 274 | 151 => 275 | 260 => 282 | 152 => 283 | 137 => 286 | 119 => 287 | 224 => 280 | 225 => 279 | 217 => 278 | 266 => 284 | n => n, fun | 9 => 9 | 4 => 4 | 3 => 3 | 5 => 5 | 117 => 322 | 116 => 321 | 0 => 0 | 124 => 325 | 105 => 334 | 21 => 21 | 119 => 344 | 46 => 217 | 139 => 347 | 138 => 346 | n => n, fun | 3 => 18 | 4 => 19 | n => n⟩
theorem lays161 : Go.Proofs.Lays.n161 Tryz.prog lays161_ren := {
 mixed := by kernel_rfl
 f119 := Tryz.func287.trans (congrArg some (by kernel_rfl))
 f137 := Tryz.func286.trans (congrArg some (by kernel_rfl))
 f151 := Tryz.func275.trans (congrArg some (by kernel_rfl))
 f152 := Tryz.func283.trans (congrArg some (by kernel_rfl))
 f161 := Tryz.func224.trans (congrArg some (by kernel_rfl))
 f197 := Tryz.func274.trans (congrArg some (by kernel_rfl))
 f217 := Tryz.func278.trans (congrArg some (by kernel_rfl))
 f224 := Tryz.func280.trans (congrArg some (by kernel_rfl))
 f225 := Tryz.func279.trans (congrArg some (by kernel_rfl))
 f227 := Tryz.func257.trans (congrArg some (by kernel_rfl))
 f228 := Tryz.func273.trans (congrArg some (by kernel_rfl))
 f231 := Tryz.func256.trans (congrArg some (by kernel_rfl))
 f233 := Tryz.func258.trans (congrArg some (by kernel_rfl))
 f235 := Tryz.func259.trans (congrArg some (by kernel_rfl))
 f260 := Tryz.func282.trans (congrArg some (by kernel_rfl))
 f266 := Tryz.func284.trans (congrArg some (by kernel_rfl))
 t0 := Tryz.underlying0
 a0 := Tryz.isAgg0
 z0 := Tryz.sizeOf0
 v0 := Tryz.zeroValue0
 t3 := Tryz.underlying3
 a3 := Tryz.isAgg3
 z3 := Tryz.sizeOf3
 v3 := Tryz.zeroValue3
 t4 := Tryz.underlying4
 a4 := Tryz.isAgg4
 z4 := Tryz.sizeOf4
 v4 := Tryz.zeroValue4
 t5 := Tryz.underlying5
 a5 := Tryz.isAgg5
 z5 := Tryz.sizeOf5
 v5 := Tryz.zeroValue5
 t9 := Tryz.underlying9
 a9 := Tryz.isAgg9
 z9 := Tryz.sizeOf9
 v9 := Tryz.zeroValue9
 t21 := Tryz.underlying21
 a21 := Tryz.isAgg21
 z21 := Tryz.sizeOf21
 v21 := Tryz.zeroValue21
 t46 := Tryz.underlying217
 a46 := Tryz.isAgg217
 z46 := Tryz.sizeOf217
 v46 := Tryz.zeroValue217
 t105 := Tryz.underlying334
 a105 := Tryz.isAgg334
 z105 := Tryz.sizeOf334
 v105 := Tryz.zeroValue334
 t116 := Tryz.underlying321
 a116 := Tryz.isAgg321
 z116 := Tryz.sizeOf321
 t117 := Tryz.underlying322
 a117 := Tryz.isAgg322
 z117 := Tryz.sizeOf322
 v117 := Tryz.zeroValue322
 t119 := Tryz.underlying344
 a119 := Tryz.isAgg344
 z119 := Tryz.sizeOf344
 t124 := Tryz.underlying325
 a124 := Tryz.isAgg325
 z124 := Tryz.sizeOf325
 v124 := Tryz.zeroValue325
 t138 := Tryz.underlying346
 a138 := Tryz.isAgg346
 z138 := Tryz.sizeOf346
 v138 := Tryz.zeroValue346
 t139 := Tryz.underlying347
 a139 := Tryz.isAgg347
 z139 := Tryz.sizeOf347
 v139 := Tryz.zeroValue347
 g3 := by kernel_rfl
 g4 := by kernel_rfl }
open Go.RowKit in
theorem strings_TrimLeft_one (s : ByteArray) (c : UInt8) (hc : c.toNat < 128) (w : World) :
  Calls Tryz.prog 224 #[.string s, .string ⟨#[c]⟩] w fun e w' => e = .returned (.string ⟨(Lib.trimLeftB s.data.toList c).toArray⟩) ∧ w' = w := Any.strings_TrimLeft_one lays161 s c hc w
def lays283_ren : Go.Shelf.Ren := ⟨fun | 283 => 218 | n => n, fun | 3 => 3 | 9 => 9 | 4 => 4 | n => n, fun | n => n⟩
theorem lays283 : Go.Proofs.Lays.n283 Tryz.prog lays283_ren := {
 mixed := by kernel_rfl
 f283 := Tryz.func218.trans (congrArg some (by kernel_rfl))
 t3 := Tryz.underlying3
 a3 := Tryz.isAgg3
 z3 := Tryz.sizeOf3
 v3 := Tryz.zeroValue3
 t4 := Tryz.underlying4
 a4 := Tryz.isAgg4
 z4 := Tryz.sizeOf4
 v4 := Tryz.zeroValue4
 t9 := Tryz.underlying9
 a9 := Tryz.isAgg9
 z9 := Tryz.sizeOf9
 v9 := Tryz.zeroValue9 }
open Go.Lib in
theorem internal_strconv_small (i : Nat) (h : i < 100) (w : World) :
  Calls Tryz.prog 218 #[.int .i64 i] w fun e w' => e = .returned (.string ⟨(Lib.decDigits i).toArray⟩) ∧ w' = w := Any.internal_strconv_small lays283 i h w
def lays99_ren : Go.Shelf.Ren := ⟨fun | 99 => 246 | 206 => 270 | n => n, fun | 9 => 9 | 4 => 4 | 3 => 3 | n => n, fun | n => n⟩
theorem lays99 : Go.Proofs.Lays.n99 Tryz.prog lays99_ren := {
 mixed := by kernel_rfl
 f99 := Tryz.func246.trans (congrArg some (by kernel_rfl))
 f206 := Tryz.func270.trans (congrArg some (by kernel_rfl))
 t3 := Tryz.underlying3
 a3 := Tryz.isAgg3
 z3 := Tryz.sizeOf3
 v3 := Tryz.zeroValue3
 t4 := Tryz.underlying4
 a4 := Tryz.isAgg4
 z4 := Tryz.sizeOf4
 v4 := Tryz.zeroValue4
 t9 := Tryz.underlying9
 a9 := Tryz.isAgg9
 z9 := Tryz.sizeOf9
 v9 := Tryz.zeroValue9 }
open Go.RowKit Go.Lib in
theorem strings_HasPrefix (s p : ByteArray) (w : World) :
  Calls Tryz.prog 246 #[.string s, .string p] w fun e w' => e = .returned (.bool (Lib.hasPrefix s.data.toList p.data.toList)) ∧ w' = w := Any.strings_HasPrefix lays99 s p w
def lays105_ren : Go.Shelf.Ren := ⟨fun | 105 => 233 | 212 => 261 | 99 => 246 | 165 => 158 | 166 => 100 | 170 => 262 | 169 => 102 | 263 => 277 | 264 => 242 | 206 => 270 | 240 => 157 | 241 => 192 | 276 => 191 | 277 => 225 | n => n, fun | 9 => 9 | 3 => 3 | 4 => 4 | 20 => 20 | 0 => 0 | 46 => 217 | 109 => 326 | 5 => 5 | 72 => 158 | 76 => 159 | 51 => 314 | 146 => 338 | 53 => 170 | 148 => 237 | 70 => 156 | 37 => 55 | 75 => 86 | 127 => 215 | 164 => 197 | 80 => 150 | n => n, fun | n => n⟩
theorem lays105 : Go.Proofs.Lays.n105 Tryz.prog lays105_ren := {
 mixed := by kernel_rfl
 f99 := Tryz.func246.trans (congrArg some (by kernel_rfl))
 f105 := Tryz.func233.trans (congrArg some (by kernel_rfl))
 f165 := Tryz.func158.trans (congrArg some (by kernel_rfl))
 f166 := Tryz.func100.trans (congrArg some (by kernel_rfl))
 f169 := Tryz.func102.trans (congrArg some (by kernel_rfl))
 f170 := Tryz.func262.trans (congrArg some (by kernel_rfl))
 f206 := Tryz.func270.trans (congrArg some (by kernel_rfl))
 f212 := Tryz.func261.trans (congrArg some (by kernel_rfl))
 f240 := Tryz.func157.trans (congrArg some (by kernel_rfl))
 f241 := Tryz.func192.trans (congrArg some (by kernel_rfl))
 f263 := Tryz.func277.trans (congrArg some (by kernel_rfl))
 f264 := Tryz.func242.trans (congrArg some (by kernel_rfl))
 f276 := Tryz.func191.trans (congrArg some (by kernel_rfl))
 f277 := Tryz.func225.trans (congrArg some (by kernel_rfl))
 t0 := Tryz.underlying0
 a0 := Tryz.isAgg0
 z0 := Tryz.sizeOf0
 v0 := Tryz.zeroValue0
 t3 := Tryz.underlying3
 a3 := Tryz.isAgg3
 z3 := Tryz.sizeOf3
 v3 := Tryz.zeroValue3
 t4 := Tryz.underlying4
 a4 := Tryz.isAgg4
 z4 := Tryz.sizeOf4
 v4 := Tryz.zeroValue4
 t5 := Tryz.underlying5
 a5 := Tryz.isAgg5
 z5 := Tryz.sizeOf5
 v5 := Tryz.zeroValue5
 t9 := Tryz.underlying9
 a9 := Tryz.isAgg9
 z9 := Tryz.sizeOf9
 v9 := Tryz.zeroValue9
 t20 := Tryz.underlying20
 a20 := Tryz.isAgg20
 z20 := Tryz.sizeOf20
 v20 := Tryz.zeroValue20
 t37 := Tryz.underlying55
 a37 := Tryz.isAgg55
 z37 := Tryz.sizeOf55
 v37 := Tryz.zeroValue55
 t46 := Tryz.underlying217
 a46 := Tryz.isAgg217
 z46 := Tryz.sizeOf217
 v46 := Tryz.zeroValue217
 t51 := Tryz.underlying314
 a51 := Tryz.isAgg314
 z51 := Tryz.sizeOf314
 v51 := Tryz.zeroValue314
 t53 := Tryz.underlying170
 a53 := Tryz.isAgg170
 z53 := Tryz.sizeOf170
 v53 := Tryz.zeroValue170
 t70 := Tryz.underlying156
 a70 := Tryz.isAgg156
 z70 := Tryz.sizeOf156
 v70 := Tryz.zeroValue156
 t72 := Tryz.underlying158
 a72 := Tryz.isAgg158
 z72 := Tryz.sizeOf158
 v72 := Tryz.zeroValue158
 t75 := Tryz.underlying86
 a75 := Tryz.isAgg86
 z75 := Tryz.sizeOf86
 v75 := Tryz.zeroValue86
 t76 := Tryz.underlying159
 a76 := Tryz.isAgg159
 z76 := Tryz.sizeOf159
 v76 := Tryz.zeroValue159
 t109 := Tryz.underlying326
 a109 := Tryz.isAgg326
 z109 := Tryz.sizeOf326
 v109 := Tryz.zeroValue326
 t127 := Tryz.underlying215
 a127 := Tryz.isAgg215
 z127 := Tryz.sizeOf215
 v127 := Tryz.zeroValue215
 t146 := Tryz.underlying338
 a146 := Tryz.isAgg338
 z146 := Tryz.sizeOf338
 v146 := Tryz.zeroValue338
 t148 := Tryz.underlying237
 a148 := Tryz.isAgg237
 z148 := Tryz.sizeOf237
 v148 := Tryz.zeroValue237
 t164 := Tryz.underlying197
 a164 := Tryz.isAgg197
 z164 := Tryz.sizeOf197
 v164 := Tryz.zeroValue197 }
theorem Extra_105 : Builder.Extra Tryz.prog lays105_ren := {
 sizeBuilder := by kernel_rfl
 liesBuilder := by kernel_rfl
 t5 := Tryz.underlying5
 a5 := Tryz.isAgg5
 z5 := Tryz.sizeOf5
 v5 := Tryz.zeroValue5
 infoByte := by kernel_rfl
 cellsByte := by kernel_rfl
 sizeByte := by kernel_rfl
 neB5 := by decide }
open Go.RowKit Go.Lib in
open Go.RowKit Go.Lib in
open Go.RowKit Go.Lib in
theorem strings_Repeat (s : ByteArray) (c : Nat) (w : World) (hc : c ≤ 9223372036854775807) (hlen : s.size * c ≤ 140737488355328) :
  Calls Tryz.prog 233 #[.string s, .int .i64 c] w (Re w (.string ⟨(Lib.repeatL s.data.toList c).toArray⟩)) := Any.strings_Repeat lays105 Extra_105 s c w hc hlen
def lays729_ren : Go.Shelf.Ren := ⟨fun | 29 => 239 | n => n, fun | 22 => 170 | 3 => 3 | 4 => 4 | 25 => 217 | 54 => 328 | 0 => 0 | 5 => 5 | n => n, fun | 1 => 14 | n => n⟩
theorem lays729 : Go.Proofs.Lays7.n29 Tryz.prog lays729_ren := {
 mixed := by kernel_rfl
 f29 := Tryz.func239.trans (congrArg some (by kernel_rfl))
 t0 := Tryz.underlying0
 a0 := Tryz.isAgg0
 z0 := Tryz.sizeOf0
 v0 := Tryz.zeroValue0
 i0 := by kernel_rfl
 t3 := Tryz.underlying3
 a3 := Tryz.isAgg3
 z3 := Tryz.sizeOf3
 v3 := Tryz.zeroValue3
 i3 := by kernel_rfl
 t4 := Tryz.underlying4
 a4 := Tryz.isAgg4
 z4 := Tryz.sizeOf4
 v4 := Tryz.zeroValue4
 i4 := by kernel_rfl
 t5 := Tryz.underlying5
 a5 := Tryz.isAgg5
 z5 := Tryz.sizeOf5
 v5 := Tryz.zeroValue5
 i5 := by kernel_rfl
 t22 := Tryz.underlying170
 a22 := Tryz.isAgg170
 z22 := Tryz.sizeOf170
 v22 := Tryz.zeroValue170
 i22 := by kernel_rfl
 t25 := Tryz.underlying217
 a25 := Tryz.isAgg217
 z25 := Tryz.sizeOf217
 v25 := Tryz.zeroValue217
 i25 := by kernel_rfl
 t54 := Tryz.underlying328
 a54 := Tryz.isAgg328
 z54 := Tryz.sizeOf328
 g1 := by kernel_rfl }
theorem lays166 : Go.Proofs.Lays.n166 Tryz.prog lays105_ren := {
 mixed := lays105.mixed
 f166 := lays105.f166
 f240 := lays105.f240
 f276 := lays105.f276
 t0 := lays105.t0
 a0 := lays105.a0
 z0 := lays105.z0
 v0 := lays105.v0
 t3 := lays105.t3
 a3 := lays105.a3
 z3 := lays105.z3
 v3 := lays105.v3
 t4 := lays105.t4
 a4 := lays105.a4
 z4 := lays105.z4
 v4 := lays105.v4
 t9 := lays105.t9
 a9 := lays105.a9
 z9 := lays105.z9
 v9 := lays105.v9
 t20 := lays105.t20
 a20 := lays105.a20
 z20 := lays105.z20
 v20 := lays105.v20
 t37 := lays105.t37
 a37 := lays105.a37
 z37 := lays105.z37
 v37 := lays105.v37
 t70 := lays105.t70
 a70 := lays105.a70
 z70 := lays105.z70
 v70 := lays105.v70
 t72 := lays105.t72
 a72 := lays105.a72
 z72 := lays105.z72
 v72 := lays105.v72
 t75 := lays105.t75
 a75 := lays105.a75
 z75 := lays105.z75
 v75 := lays105.v75
 t164 := lays105.t164
 a164 := lays105.a164
 z164 := lays105.z164
 v164 := lays105.v164 }
theorem writeString_k (B b : Nat) (bs : List Value) (s : ByteArray) (w : World) (h : Lib.IsBuilderF 158 5 B b bs w) (hlen : bs.length + s.size ≤ 140737488355328) (hBw : B ≤ w.heap.size) :
  Calls Tryz.prog 100 #[.pointer (some ⟨b, 0, none⟩), .string s] w fun e w' => e = .returned (.tuple #[.int .i64 s.size, .nilIface]) ∧ (Lib.BuilderAtF 158 5 B b (.pointer (some ⟨b, 0, none⟩)) (bs ++ Lib.strCells s) w' ∧ Below B w w' ∧ Lib.OthersKept 5 (some b) w w') := Any.Builder_WriteString_k lays166 Extra_105 B b bs s w h hlen hBw
theorem tz64 (x : Nat) (hx : x < 18446744073709551616) (w : World) (hT : x ≠ 0 → TabAt (lays729_ren.g 1) Lib.deBruijn64tab w) :
  Calls Tryz.prog 239 #[.int .u64 x] w fun e w' => e = .returned (.int .i64 (Lib.ctz 64 x)) ∧ w' = w := Any7.bits_TrailingZeros64 lays729 x hx w hT
end Go.Proofs.YtnplifkgeeicjaaGreatDoor
