import Derived.Shelf.Spec.TrailingZeros
import Derived.Shelf.Strconv.Itoa1
import Derived.Shelf.Strings.Builder1
import Derived.Shelf.Strings.Builder2
import Derived.Shelf.Strings.BuilderK
import Derived.Shelf.Strings.Prefix
import Derived.Shelf.Strings.Repeat
import Derived.Shelf.Strings.Trim
import Derived.Test.YtnplifkgeeicjaaGreatDoorV02
import Derived.Test.YtnplifkgeeicjaaGreatDoorV04
namespace Go.Proofs.YtnplifkgeeicjaaGreatDoor
open Go.Shelf Go.RowKit
def X8:Go.Shelf.Ren:=⟨fun | 161=>224 | 231=>256 | 227=>257 | 233=>258 | 235=>259 | 228=>273 | 197=>274 | 151=>275 | 260=>282 | 152=>283 | 137=>286 | 119=>287 | 224=>280 | 225=>279 | 217=>278 | 266=>284 | n=>n,fun | 9=>9 | 4=>4 | 3=>3 | 5=>5 | 117=>322 | 116=>321 | 0=>0 | 124=>325 | 105=>334 | 21=>21 | 119=>344 | 46=>217 | 139=>347 | 138=>346 | n=>n,fun | 3=>18 | 4=>19 | n=>n⟩
theorem Bkk:Go.Proofs.Lays.n161 Tryz.prog X8:={
 mixed:=by kernel_rfl
 f119:=Tryz.func287.trans (congrArg some (by kernel_rfl))
 f137:=Tryz.func286.trans (congrArg some (by kernel_rfl))
 f151:=Tryz.func275.trans (congrArg some (by kernel_rfl))
 f152:=Tryz.func283.trans (congrArg some (by kernel_rfl))
 f161:=Tryz.func224.trans (congrArg some (by kernel_rfl))
 f197:=Tryz.func274.trans (congrArg some (by kernel_rfl))
 f217:=Tryz.func278.trans (congrArg some (by kernel_rfl))
 f224:=Tryz.func280.trans (congrArg some (by kernel_rfl))
 f225:=Tryz.func279.trans (congrArg some (by kernel_rfl))
 f227:=Tryz.func257.trans (congrArg some (by kernel_rfl))
 f228:=Tryz.func273.trans (congrArg some (by kernel_rfl))
 f231:=Tryz.func256.trans (congrArg some (by kernel_rfl))
 f233:=Tryz.func258.trans (congrArg some (by kernel_rfl))
 f235:=Tryz.func259.trans (congrArg some (by kernel_rfl))
 f260:=Tryz.func282.trans (congrArg some (by kernel_rfl))
 f266:=Tryz.func284.trans (congrArg some (by kernel_rfl))
 t0:=Tryz.underlying0
 a0:=Tryz.isAgg0
 z0:=Tryz.sizeOf0
 v0:=Tryz.zeroValue0
 t3:=Tryz.underlying3
 a3:=Tryz.isAgg3
 z3:=Tryz.sizeOf3
 v3:=Tryz.zeroValue3
 t4:=Tryz.underlying4
 a4:=Tryz.isAgg4
 z4:=Tryz.sizeOf4
 v4:=Tryz.zeroValue4
 t5:=Tryz.underlying5
 a5:=Tryz.isAgg5
 z5:=Tryz.sizeOf5
 v5:=Tryz.zeroValue5
 t9:=Tryz.underlying9
 a9:=Tryz.isAgg9
 z9:=Tryz.sizeOf9
 v9:=Tryz.zeroValue9
 t21:=Tryz.underlying21
 a21:=Tryz.isAgg21
 z21:=Tryz.sizeOf21
 v21:=Tryz.zeroValue21
 t46:=Tryz.underlying217
 a46:=Tryz.isAgg217
 z46:=Tryz.sizeOf217
 v46:=Tryz.zeroValue217
 t105:=Tryz.underlying334
 a105:=Tryz.isAgg334
 z105:=Tryz.sizeOf334
 v105:=Tryz.zeroValue334
 t116:=Tryz.underlying321
 a116:=Tryz.isAgg321
 z116:=Tryz.sizeOf321
 t117:=Tryz.underlying322
 a117:=Tryz.isAgg322
 z117:=Tryz.sizeOf322
 v117:=Tryz.zeroValue322
 t119:=Tryz.underlying344
 a119:=Tryz.isAgg344
 z119:=Tryz.sizeOf344
 t124:=Tryz.underlying325
 a124:=Tryz.isAgg325
 z124:=Tryz.sizeOf325
 v124:=Tryz.zeroValue325
 t138:=Tryz.underlying346
 a138:=Tryz.isAgg346
 z138:=Tryz.sizeOf346
 v138:=Tryz.zeroValue346
 t139:=Tryz.underlying347
 a139:=Tryz.isAgg347
 z139:=Tryz.sizeOf347
 v139:=Tryz.zeroValue347
 g3:=by kernel_rfl
 g4:=by kernel_rfl }
open Go.RowKit in
theorem Ga (s:ByteArray) (c:UInt8) (hc:c.toNat<128) (w:World) :
  Calls Tryz.prog 224 #[I s,I ⟨#[c]⟩] w fun e w'=>e=.returned (I ⟨(Lib.trimLeftB s.data.toList c).toArray⟩)∧w'=w:=Any.strings_TrimLeft_one Bkk s c hc w
def X6:Go.Shelf.Ren:=⟨fun | 283=>218 | n=>n,fun | 3=>3 | 9=>9 | 4=>4 | n=>n,fun | n=>n⟩
theorem Bkg:Go.Proofs.Lays.n283 Tryz.prog X6:={
 mixed:=by kernel_rfl
 f283:=Tryz.func218.trans (congrArg some (by kernel_rfl))
 t3:=Tryz.underlying3
 a3:=Tryz.isAgg3
 z3:=Tryz.sizeOf3
 v3:=Tryz.zeroValue3
 t4:=Tryz.underlying4
 a4:=Tryz.isAgg4
 z4:=Tryz.sizeOf4
 v4:=Tryz.zeroValue4
 t9:=Tryz.underlying9
 a9:=Tryz.isAgg9
 z9:=Tryz.sizeOf9
 v9:=Tryz.zeroValue9 }
open Go.Lib in
theorem Fl (i:Nat) (h:i<100) (w:World) :
  Calls Tryz.prog 218 #[.int .i64 i] w fun e w'=>e=.returned (I ⟨(Lib.decDigits i).toArray⟩)∧w'=w:=Any.internal_strconv_small Bkg i h w
def Bam:Go.Shelf.Ren:=⟨fun | 99=>246 | 206=>270 | n=>n,fun | 9=>9 | 4=>4 | 3=>3 | n=>n,fun | n=>n⟩
theorem Bne:Go.Proofs.Lays.n99 Tryz.prog Bam:={
 mixed:=by kernel_rfl
 f99:=Tryz.func246.trans (congrArg some (by kernel_rfl))
 f206:=Tryz.func270.trans (congrArg some (by kernel_rfl))
 t3:=Tryz.underlying3
 a3:=Tryz.isAgg3
 z3:=Tryz.sizeOf3
 v3:=Tryz.zeroValue3
 t4:=Tryz.underlying4
 a4:=Tryz.isAgg4
 z4:=Tryz.sizeOf4
 v4:=Tryz.zeroValue4
 t9:=Tryz.underlying9
 a9:=Tryz.isAgg9
 z9:=Tryz.sizeOf9
 v9:=Tryz.zeroValue9 }
open Go.RowKit Go.Lib in
theorem Dn (s p:ByteArray) (w:World) :
  Calls Tryz.prog 246 #[I s,I p] w fun e w'=>e=.returned (Iz (Lib.hasPrefix s.data.toList p.data.toList))∧w'=w:=Any.strings_HasPrefix Bne s p w
def Lk:Go.Shelf.Ren:=⟨fun | 105=>233 | 212=>261 | 99=>246 | 165=>158 | 166=>100 | 170=>262 | 169=>102 | 263=>277 | 264=>242 | 206=>270 | 240=>157 | 241=>192 | 276=>191 | 277=>225 | n=>n,fun | 9=>9 | 3=>3 | 4=>4 | 20=>20 | 0=>0 | 46=>217 | 109=>326 | 5=>5 | 72=>158 | 76=>159 | 51=>314 | 146=>338 | 53=>170 | 148=>237 | 70=>156 | 37=>55 | 75=>86 | 127=>215 | 164=>197 | 80=>150 | n=>n,fun | n=>n⟩
theorem Bz:Go.Proofs.Lays.n105 Tryz.prog Lk:={
 mixed:=by kernel_rfl
 f99:=Tryz.func246.trans (congrArg some (by kernel_rfl))
 f105:=Tryz.func233.trans (congrArg some (by kernel_rfl))
 f165:=Tryz.func158.trans (congrArg some (by kernel_rfl))
 f166:=Tryz.func100.trans (congrArg some (by kernel_rfl))
 f169:=Tryz.func102.trans (congrArg some (by kernel_rfl))
 f170:=Tryz.func262.trans (congrArg some (by kernel_rfl))
 f206:=Tryz.func270.trans (congrArg some (by kernel_rfl))
 f212:=Tryz.func261.trans (congrArg some (by kernel_rfl))
 f240:=Tryz.func157.trans (congrArg some (by kernel_rfl))
 f241:=Tryz.func192.trans (congrArg some (by kernel_rfl))
 f263:=Tryz.func277.trans (congrArg some (by kernel_rfl))
 f264:=Tryz.func242.trans (congrArg some (by kernel_rfl))
 f276:=Tryz.func191.trans (congrArg some (by kernel_rfl))
 f277:=Tryz.func225.trans (congrArg some (by kernel_rfl))
 t0:=Tryz.underlying0
 a0:=Tryz.isAgg0
 z0:=Tryz.sizeOf0
 v0:=Tryz.zeroValue0
 t3:=Tryz.underlying3
 a3:=Tryz.isAgg3
 z3:=Tryz.sizeOf3
 v3:=Tryz.zeroValue3
 t4:=Tryz.underlying4
 a4:=Tryz.isAgg4
 z4:=Tryz.sizeOf4
 v4:=Tryz.zeroValue4
 t5:=Tryz.underlying5
 a5:=Tryz.isAgg5
 z5:=Tryz.sizeOf5
 v5:=Tryz.zeroValue5
 t9:=Tryz.underlying9
 a9:=Tryz.isAgg9
 z9:=Tryz.sizeOf9
 v9:=Tryz.zeroValue9
 t20:=Tryz.underlying20
 a20:=Tryz.isAgg20
 z20:=Tryz.sizeOf20
 v20:=Tryz.zeroValue20
 t37:=Tryz.underlying55
 a37:=Tryz.isAgg55
 z37:=Tryz.sizeOf55
 v37:=Tryz.zeroValue55
 t46:=Tryz.underlying217
 a46:=Tryz.isAgg217
 z46:=Tryz.sizeOf217
 v46:=Tryz.zeroValue217
 t51:=Tryz.underlying314
 a51:=Tryz.isAgg314
 z51:=Tryz.sizeOf314
 v51:=Tryz.zeroValue314
 t53:=Tryz.underlying170
 a53:=Tryz.isAgg170
 z53:=Tryz.sizeOf170
 v53:=Tryz.zeroValue170
 t70:=Tryz.underlying156
 a70:=Tryz.isAgg156
 z70:=Tryz.sizeOf156
 v70:=Tryz.zeroValue156
 t72:=Tryz.underlying158
 a72:=Tryz.isAgg158
 z72:=Tryz.sizeOf158
 v72:=Tryz.zeroValue158
 t75:=Tryz.underlying86
 a75:=Tryz.isAgg86
 z75:=Tryz.sizeOf86
 v75:=Tryz.zeroValue86
 t76:=Tryz.underlying159
 a76:=Tryz.isAgg159
 z76:=Tryz.sizeOf159
 v76:=Tryz.zeroValue159
 t109:=Tryz.underlying326
 a109:=Tryz.isAgg326
 z109:=Tryz.sizeOf326
 v109:=Tryz.zeroValue326
 t127:=Tryz.underlying215
 a127:=Tryz.isAgg215
 z127:=Tryz.sizeOf215
 v127:=Tryz.zeroValue215
 t146:=Tryz.underlying338
 a146:=Tryz.isAgg338
 z146:=Tryz.sizeOf338
 v146:=Tryz.zeroValue338
 t148:=Tryz.underlying237
 a148:=Tryz.isAgg237
 z148:=Tryz.sizeOf237
 v148:=Tryz.zeroValue237
 t164:=Tryz.underlying197
 a164:=Tryz.isAgg197
 z164:=Tryz.sizeOf197
 v164:=Tryz.zeroValue197 }
theorem Mi:Builder.Extra Tryz.prog Lk:={
 sizeBuilder:=by kernel_rfl
 liesBuilder:=by kernel_rfl
 t5:=Tryz.underlying5
 a5:=Tryz.isAgg5
 z5:=Tryz.sizeOf5
 v5:=Tryz.zeroValue5
 infoByte:=by kernel_rfl
 cellsByte:=by kernel_rfl
 sizeByte:=by kernel_rfl
 neB5:=by decide }
open Go.RowKit Go.Lib in
open Go.RowKit Go.Lib in
open Go.RowKit Go.Lib in
theorem Ra (s:ByteArray) (c:Nat) (w:World) (hc:c≤9223372036854775807) (hlen:s.size*c≤140737488355328) :
  Calls Tryz.prog 233 #[I s,.int .i64 c] w (Re w (I ⟨(Lib.repeatL s.data.toList c).toArray⟩)):=Any.strings_Repeat Bz Mi s c w hc hlen
def Ds:Go.Shelf.Ren:=⟨fun | 29=>239 | n=>n,fun | 22=>170 | 3=>3 | 4=>4 | 25=>217 | 54=>328 | 0=>0 | 5=>5 | n=>n,fun | 1=>14 | n=>n⟩
theorem Bkd:Go.Proofs.Lays7.n29 Tryz.prog Ds:={
 mixed:=by kernel_rfl
 f29:=Tryz.func239.trans (congrArg some (by kernel_rfl))
 t0:=Tryz.underlying0
 a0:=Tryz.isAgg0
 z0:=Tryz.sizeOf0
 v0:=Tryz.zeroValue0
 i0:=by kernel_rfl
 t3:=Tryz.underlying3
 a3:=Tryz.isAgg3
 z3:=Tryz.sizeOf3
 v3:=Tryz.zeroValue3
 i3:=by kernel_rfl
 t4:=Tryz.underlying4
 a4:=Tryz.isAgg4
 z4:=Tryz.sizeOf4
 v4:=Tryz.zeroValue4
 i4:=by kernel_rfl
 t5:=Tryz.underlying5
 a5:=Tryz.isAgg5
 z5:=Tryz.sizeOf5
 v5:=Tryz.zeroValue5
 i5:=by kernel_rfl
 t22:=Tryz.underlying170
 a22:=Tryz.isAgg170
 z22:=Tryz.sizeOf170
 v22:=Tryz.zeroValue170
 i22:=by kernel_rfl
 t25:=Tryz.underlying217
 a25:=Tryz.isAgg217
 z25:=Tryz.sizeOf217
 v25:=Tryz.zeroValue217
 i25:=by kernel_rfl
 t54:=Tryz.underlying328
 a54:=Tryz.isAgg328
 z54:=Tryz.sizeOf328
 g1:=by kernel_rfl }
theorem Vn:Go.Proofs.Lays.n166 Tryz.prog Lk:={
 mixed:=Bz.mixed
 f166:=Bz.f166
 f240:=Bz.f240
 f276:=Bz.f276
 t0:=Bz.t0
 a0:=Bz.a0
 z0:=Bz.z0
 v0:=Bz.v0
 t3:=Bz.t3
 a3:=Bz.a3
 z3:=Bz.z3
 v3:=Bz.v3
 t4:=Bz.t4
 a4:=Bz.a4
 z4:=Bz.z4
 v4:=Bz.v4
 t9:=Bz.t9
 a9:=Bz.a9
 z9:=Bz.z9
 v9:=Bz.v9
 t20:=Bz.t20
 a20:=Bz.a20
 z20:=Bz.z20
 v20:=Bz.v20
 t37:=Bz.t37
 a37:=Bz.a37
 z37:=Bz.z37
 v37:=Bz.v37
 t70:=Bz.t70
 a70:=Bz.a70
 z70:=Bz.z70
 v70:=Bz.v70
 t72:=Bz.t72
 a72:=Bz.a72
 z72:=Bz.z72
 v72:=Bz.v72
 t75:=Bz.t75
 a75:=Bz.a75
 z75:=Bz.z75
 v75:=Bz.v75
 t164:=Bz.t164
 a164:=Bz.a164
 z164:=Bz.z164
 v164:=Bz.v164 }
theorem Sx (B b:Nat) (bs:List Value) (s:ByteArray) (w:World) (h:Lib.IsBuilderF 158 5 B b bs w) (hlen:bs.length+s.size≤140737488355328) (hBw:B≤w.heap.size) :
  Calls Tryz.prog 100 #[.pointer (some ⟨b,0,none⟩),I s] w fun e w'=>e=.returned (.tuple #[.int .i64 s.size,.nilIface])∧(Lib.BuilderAtF 158 5 B b (.pointer (some ⟨b,0,none⟩)) (bs ++ Lib.strCells s) w'∧Below B w w'∧Lib.OthersKept 5 (some b) w w'):=Any.Builder_WriteString_k Vn Mi B b bs s w h hlen hBw
theorem Bo4 (x:Nat) (hx:x<18446744073709551616) (w:World) (hT:x≠0→TabAt (Ds.g 1) Lib.deBruijn64tab w) :
  Calls Tryz.prog 239 #[.int .u64 x] w fun e w'=>e=.returned (.int .i64 (Lib.ctz 64 x))∧w'=w:=Any7.bits_TrailingZeros64 Bkd x hx w hT
end Go.Proofs.YtnplifkgeeicjaaGreatDoor
