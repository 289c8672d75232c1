/- Parts of the proof of the text YtilggfeodhfjfaaGreatDoorQR31. -/
import Derived.Shelf.Strings.Builder1
import Derived.Shelf.Strings.Builder2
import Derived.Shelf.Small.Strs
import Derived.Shelf.Small.Wraps
import Derived.Shelf.Strings.BuilderF
import Derived.Shelf.Strconv.Atoi
import Derived.Shelf.Strconv.Itoa0
import Derived.Shelf.Strconv.Itoa1
import Derived.Shelf.LaysM
import Derived.Shelf.Strconv.Itoa2
import Derived.Shelf.Strconv.Itoa3
import Derived.Shelf.Strconv.Itoa4
import Derived.Shelf.Strconv.AtoiErrFast
import Derived.Shelf.Strconv.ParseIntEmpty
import Derived.Shelf.Strconv.AtoiFail
import Derived.Shelf.Strconv.Clone
import Derived.Shelf.Strconv.SyntaxError
import Derived.Shelf.LaysC
import Derived.Shelf.Strconv.ToError
import Derived.Shelf.Strconv.AtoiErr
import Derived.Shelf.Strconv.ErrVar
import Derived.Shelf.Strconv.Lower
import Derived.Shelf.Strconv.ParseUint10
import Derived.Shelf.Strconv.ParseUint10Empty
import Derived.Shelf.Strconv.ParseUint10Any
import Derived.Shelf.Strconv.ParseInt10
import Derived.Shelf.Strconv.AtoiLong
import Derived.Shelf.Strconv.AtoiInnerAll
import Derived.Shelf.Strconv.RangeError
import Derived.Shelf.Strconv.ToErrorRange
import Derived.Shelf.Strconv.AtoiAll
import Derived.Shelf.Strconv.ErrVarAll
import Derived.Shelf.Strconv.ParseUint10b64
import Derived.Ground.MpProg
import Derived.Shelf.Pu.ParseUintPublic10
import Derived.Shelf.Strings.Search1
import Derived.Shelf.Strings.Search2
import Derived.Shelf.Strings.Cut
import Derived.Shelf.Strings.Shaped
import Derived.Shelf.Strconv.AppendUint10
import Derived.Shelf.Strconv.AppendInt10
import Derived.Shelf.Strconv.AppendIntPublic10
import Derived.Shelf.Strings.Prefix
import Derived.Shelf.Bits.Mul64
import Derived.Shelf.Strings.Repeat
import Derived.Test.YtilggfeodhfjfaaGreatDoorProg
import Derived.WalkSmall
import Derived.Test.YtilggfeodhfjfaaGreatDoorRows
import Derived.Test.YtilggfeodhfjfaaGreatDoorCards
import Derived.Test.YtilggfeodhfjfaaGreatDoorTie
import Derived.ProofKit
import Derived.LaidMore
import Derived.OpenShut
import Derived.Stop.Joined
import Derived.Stop.LaidErr
import Derived.SevenTiedAt
import Derived.Below
import Derived.Test.YtilggfeodhfjfaaGreatDoorQR1
set_option linter.all false
set_option maxRecDepth 100000
set_option maxHeartbeats 8000000
namespace Go.Proofs
open Go.Shelf
def Tryz.lays106_ren : Go.Shelf.Ren := ⟨fun | 106 => 250 | 213 => 267 | 265 => 277 | n => n, fun | 9 => 9 | 3 => 3 | n => n, fun | n => n⟩
theorem Tryz.lays106 : Go.Proofs.Lays.n106 Tryz.prog Tryz.lays106_ren := {
 mixed := by kernel_rfl
 f106 := Tryz.func250.trans (congrArg some (by kernel_rfl))
 f213 := Tryz.func267.trans (congrArg some (by kernel_rfl))
 f265 := Tryz.func277.trans (congrArg some (by kernel_rfl))
 t3 := Tryz.underlying3
 a3 := Tryz.isAgg3
 z3 := Tryz.sizeOf3
 v3 := Tryz.zeroValue3
 t9 := Tryz.underlying9
 a9 := Tryz.isAgg9
 z9 := Tryz.sizeOf9
 v9 := Tryz.zeroValue9 }
open Go.RowKit in
theorem Tryz.strings_Compare (a b : ByteArray) (w : World) :
   Calls Tryz.prog 250 #[.string a, .string b] w fun e w' => e = .returned (.int .i64 (Lib.compareBytes a.data.toList b.data.toList)) ∧ w' = w := Any.strings_Compare Tryz.lays106 a b w
def Tryz.lays122_ren : Go.Shelf.Ren := ⟨fun | 122 => 249 | 215 => 266 | n => n, fun | 3 => 3 | 4 => 4 | n => n, fun | n => n⟩
theorem Tryz.lays122 : Go.Proofs.Lays.n122 Tryz.prog Tryz.lays122_ren := {
 mixed := by kernel_rfl
 f122 := Tryz.func249.trans (congrArg some (by kernel_rfl))
 f215 := Tryz.func266.trans (congrArg some (by kernel_rfl))
 t3 := Tryz.underlying3
 a3 := Tryz.isAgg3
 z3 := Tryz.sizeOf3
 v3 := Tryz.zeroValue3
 t4 := Tryz.underlying4
 a4 := Tryz.isAgg4
 z4 := Tryz.sizeOf4
 v4 := Tryz.zeroValue4 }
open Go.RowKit in
theorem Tryz.cmp_Compare_int (x y : Int) (w : World) :
   Calls Tryz.prog 249 #[.int .i64 x, .int .i64 y] w fun e w' => e = .returned (.int .i64 (Lib.compareInt x y)) ∧ w' = w := Any.cmp_Compare_int Tryz.lays122 x y w
def Tryz.lays129_ren : Go.Shelf.Ren := ⟨fun | 129 => 259 | n => n, fun | 53 => 183 | 3 => 3 | 4 => 4 | 46 => 126 | 5 => 5 | 9 => 9 | n => n, fun | n => n⟩
theorem Tryz.lays129 : Go.Proofs.Lays.n129 Tryz.prog Tryz.lays129_ren := {
 mixed := by kernel_rfl
 f129 := Tryz.func259.trans (congrArg some (by kernel_rfl))
 t3 := Tryz.underlying3
 a3 := Tryz.isAgg3
 z3 := Tryz.sizeOf3
 v3 := Tryz.zeroValue3
 t4 := Tryz.underlying4
 a4 := Tryz.isAgg4
 z4 := Tryz.sizeOf4
 v4 := Tryz.zeroValue4
 t5 := Tryz.underlying5
 a5 := Tryz.isAgg5
 z5 := Tryz.sizeOf5
 v5 := Tryz.zeroValue5
 t9 := Tryz.underlying9
 a9 := Tryz.isAgg9
 z9 := Tryz.sizeOf9
 v9 := Tryz.zeroValue9
 t46 := Tryz.underlying126
 a46 := Tryz.isAgg126
 z46 := Tryz.sizeOf126
 v46 := Tryz.zeroValue126
 t53 := Tryz.underlying183
 a53 := Tryz.isAgg183
 z53 := Tryz.sizeOf183
 v53 := Tryz.zeroValue183 }
theorem Tryz.bits_Len64 (x : Int) (w : World) (h0 : 0 ≤ x) (h1 : x ≤ 18446744073709551615) :
   Calls Tryz.prog 259 #[.int .u64 x] w fun e w' => e = .returned (.int .i64 (Lib.bitLen x.toNat)) ∧ w' = w := Any.bits_Len64 Tryz.lays129 x w h0 h1
def Tryz.lays283_ren : Go.Shelf.Ren := ⟨fun | 283 => 233 | n => n, fun | 3 => 3 | 9 => 9 | 4 => 4 | n => n, fun | n => n⟩
theorem Tryz.lays283 : Go.Proofs.Lays.n283 Tryz.prog Tryz.lays283_ren := {
 mixed := by kernel_rfl
 f283 := Tryz.func233.trans (congrArg some (by kernel_rfl))
 t3 := Tryz.underlying3
 a3 := Tryz.isAgg3
 z3 := Tryz.sizeOf3
 v3 := Tryz.zeroValue3
 t4 := Tryz.underlying4
 a4 := Tryz.isAgg4
 z4 := Tryz.sizeOf4
 v4 := Tryz.zeroValue4
 t9 := Tryz.underlying9
 a9 := Tryz.isAgg9
 z9 := Tryz.sizeOf9
 v9 := Tryz.zeroValue9 }
open Go.Lib in
theorem Tryz.internal_strconv_small (i : Nat) (h : i < 100) (w : World) :
   Calls Tryz.prog 233 #[.int .i64 i] w fun e w' => e = .returned (.string ⟨(Lib.decDigits i).toArray⟩) ∧ w' = w := Any.internal_strconv_small Tryz.lays283 i h w
def Tryz.laysM284_ren : Go.Shelf.Ren := ⟨fun | 284 => 234 | 129 => 259 | 317 => 258 | 318 => 260 | n => n, fun | 53 => 183 | 3 => 3 | 212 => 269 | 0 => 0 | 4 => 4 | 46 => 126 | 5 => 5 | 9 => 9 | n => n, fun | 17 => 5 | n => n⟩
theorem Tryz.laysM284 : Go.Proofs.LaysM.n284 Tryz.prog Tryz.laysM284_ren := {
 mixed := by kernel_rfl
 f129 := Tryz.func259.trans (congrArg some (by kernel_rfl))
 f284 := Tryz.func234.trans (congrArg some (by kernel_rfl))
 f317 := Tryz.func258.trans (congrArg some (by kernel_rfl))
 f318 := Tryz.func260.trans (congrArg some (by kernel_rfl))
 t0 := Tryz.underlying0
 a0 := Tryz.isAgg0
 z0 := Tryz.sizeOf0
 v0 := Tryz.zeroValue0
 t3 := Tryz.underlying3
 a3 := Tryz.isAgg3
 z3 := Tryz.sizeOf3
 v3 := Tryz.zeroValue3
 t4 := Tryz.underlying4
 a4 := Tryz.isAgg4
 z4 := Tryz.sizeOf4
 v4 := Tryz.zeroValue4
 t5 := Tryz.underlying5
 a5 := Tryz.isAgg5
 z5 := Tryz.sizeOf5
 v5 := Tryz.zeroValue5
 t9 := Tryz.underlying9
 a9 := Tryz.isAgg9
 z9 := Tryz.sizeOf9
 v9 := Tryz.zeroValue9
 t46 := Tryz.underlying126
 a46 := Tryz.isAgg126
 z46 := Tryz.sizeOf126
 v46 := Tryz.zeroValue126
 t53 := Tryz.underlying183
 a53 := Tryz.isAgg183
 z53 := Tryz.sizeOf183
 v53 := Tryz.zeroValue183
 t212 := Tryz.underlying269
 a212 := Tryz.isAgg269
 z212 := Tryz.sizeOf269
 v212 := Tryz.zeroValue269
 g17 := by kernel_rfl
 i0 := by kernel_rfl
 i3 := by kernel_rfl
 i4 := by kernel_rfl
 i5 := by kernel_rfl
 i9 := by kernel_rfl
 i46 := by kernel_rfl
 i53 := by kernel_rfl
 i212 := by kernel_rfl
 m17 := by kernel_rfl }
open Go.Lib in
theorem Tryz.internal_strconv_numDigits (u : Nat) (h1 : 1 ≤ u) (h2 : u < 18446744073709551616) (w : World) (htab : Lib.TabIs Tryz.prog w "internal/strconv.uint64pow10" .u64 Lib.pow10Tab) :
   Calls Tryz.prog 234 #[.int .u64 u] w fun e w' => e = .returned (.int .i64 (Lib.nDigits u)) ∧ w' = w := Any.internal_strconv_numDigits Tryz.laysM284 u h1 h2 w htab
def Tryz.lays285_ren : Go.Shelf.Ren := ⟨fun | 285 => 235 | n => n, fun | 37 => 131 | 53 => 183 | 3 => 3 | 4 => 4 | 51 => 197 | 9 => 9 | 5 => 5 | 0 => 0 | n => n, fun | n => n⟩
theorem Tryz.lays285 : Go.Proofs.Lays.n285 Tryz.prog Tryz.lays285_ren := {
 mixed := by kernel_rfl
 f285 := Tryz.func235.trans (congrArg some (by kernel_rfl))
 t0 := Tryz.underlying0
 a0 := Tryz.isAgg0
 z0 := Tryz.sizeOf0
 v0 := Tryz.zeroValue0
 t3 := Tryz.underlying3
 a3 := Tryz.isAgg3
 z3 := Tryz.sizeOf3
 v3 := Tryz.zeroValue3
 t4 := Tryz.underlying4
 a4 := Tryz.isAgg4
 z4 := Tryz.sizeOf4
 v4 := Tryz.zeroValue4
 t5 := Tryz.underlying5
 a5 := Tryz.isAgg5
 z5 := Tryz.sizeOf5
 v5 := Tryz.zeroValue5
 t9 := Tryz.underlying9
 a9 := Tryz.isAgg9
 z9 := Tryz.sizeOf9
 v9 := Tryz.zeroValue9
 t37 := Tryz.underlying131
 a37 := Tryz.isAgg131
 z37 := Tryz.sizeOf131
 v37 := Tryz.zeroValue131
 t51 := Tryz.underlying197
 a51 := Tryz.isAgg197
 z51 := Tryz.sizeOf197
 v51 := Tryz.zeroValue197
 t53 := Tryz.underlying183
 a53 := Tryz.isAgg183
 z53 := Tryz.sizeOf183
 v53 := Tryz.zeroValue183 }
open Go.RowKit Go.Sort Go.Lib in
theorem Tryz.internal_strconv_formatBase10 (blk off cap : Nat) (u : Nat) (d : Array UInt8) (w : World) (hH : Holds (fun (b : UInt8) => Value.int .u8 (b.toNat : Int)) w blk off d) (hu : u < 10 ^ d.size) (hu64 : u < 18446744073709551616) (hsz : d.size < 4611686018427387904) :
   Calls Tryz.prog 235 #[.slice (some ⟨blk, off, none⟩) d.size cap, .int .u64 u] w fun e w' =>
     e = .returned (.tuple #[]) ∧ ∃ (n v' : Nat) (dk : Array UInt8), w' = (putRow (fun (b : UInt8) => Value.int .u8 (b.toNat : Int)) w blk off dk).drewN n ∧ FmtInv d.size u 0 v' dk := Any.internal_strconv_formatBase10 Tryz.lays285 blk off cap u d w hH hu hu64 hsz
def Tryz.laysM173_ren : Go.Shelf.Ren := ⟨fun | 173 => 191 | 246 => 200 | 283 => 233 | 284 => 234 | 285 => 235 | 286 => 236 | 129 => 259 | 317 => 258 | 318 => 260 | 319 => 261 | 320 => 262 | 337 => 276 | 338 => 220 | n => n, fun | 2 => 2 | 3 => 3 | 9 => 9 | 4 => 4 | 171 => 249 | 0 => 0 | 53 => 183 | 37 => 131 | 5 => 5 | 173 => 251 | 212 => 269 | 51 => 197 | 20 => 20 | 213 => 270 | 46 => 126 | 232 => 287 | 233 => 260 | n => n, fun | 17 => 5 | 18 => 6 | 19 => 4 | n => n⟩
theorem Tryz.laysM173 : Go.Proofs.LaysM.n173 Tryz.prog Tryz.laysM173_ren := {
 mixed := by kernel_rfl
 f129 := Tryz.func259.trans (congrArg some (by kernel_rfl))
 f173 := Tryz.func191.trans (congrArg some (by kernel_rfl))
 f246 := Tryz.func200.trans (congrArg some (by kernel_rfl))
 f283 := Tryz.func233.trans (congrArg some (by kernel_rfl))
 f284 := Tryz.func234.trans (congrArg some (by kernel_rfl))
 f285 := Tryz.func235.trans (congrArg some (by kernel_rfl))
 f286 := Tryz.func236.trans (congrArg some (by kernel_rfl))
 f317 := Tryz.func258.trans (congrArg some (by kernel_rfl))
 f318 := Tryz.func260.trans (congrArg some (by kernel_rfl))
 f319 := Tryz.func261.trans (congrArg some (by kernel_rfl))
 f320 := Tryz.func262.trans (congrArg some (by kernel_rfl))
 f337 := Tryz.func276.trans (congrArg some (by kernel_rfl))
 f338 := Tryz.func220.trans (congrArg some (by kernel_rfl))
 t0 := Tryz.underlying0
 a0 := Tryz.isAgg0
 z0 := Tryz.sizeOf0
 v0 := Tryz.zeroValue0
 t2 := Tryz.underlying2
 a2 := Tryz.isAgg2
 z2 := Tryz.sizeOf2
 v2 := Tryz.zeroValue2
 t3 := Tryz.underlying3
 a3 := Tryz.isAgg3
 z3 := Tryz.sizeOf3
 v3 := Tryz.zeroValue3
 t4 := Tryz.underlying4
 a4 := Tryz.isAgg4
 z4 := Tryz.sizeOf4
 v4 := Tryz.zeroValue4
 t5 := Tryz.underlying5
 a5 := Tryz.isAgg5
 z5 := Tryz.sizeOf5
 v5 := Tryz.zeroValue5
 t9 := Tryz.underlying9
 a9 := Tryz.isAgg9
 z9 := Tryz.sizeOf9
 v9 := Tryz.zeroValue9
 t20 := Tryz.underlying20
 a20 := Tryz.isAgg20
 z20 := Tryz.sizeOf20
 v20 := Tryz.zeroValue20
 t37 := Tryz.underlying131
 a37 := Tryz.isAgg131
 z37 := Tryz.sizeOf131
 v37 := Tryz.zeroValue131
 t46 := Tryz.underlying126
 a46 := Tryz.isAgg126
 z46 := Tryz.sizeOf126
 v46 := Tryz.zeroValue126
 t51 := Tryz.underlying197
 a51 := Tryz.isAgg197
 z51 := Tryz.sizeOf197
 v51 := Tryz.zeroValue197
 t53 := Tryz.underlying183
 a53 := Tryz.isAgg183
 z53 := Tryz.sizeOf183
 v53 := Tryz.zeroValue183
 t171 := Tryz.underlying249
 a171 := Tryz.isAgg249
 z171 := Tryz.sizeOf249
 v171 := Tryz.zeroValue249
 t173 := Tryz.underlying251
 a173 := Tryz.isAgg251
 z173 := Tryz.sizeOf251
 v173 := Tryz.zeroValue251
 t212 := Tryz.underlying269
 a212 := Tryz.isAgg269
 z212 := Tryz.sizeOf269
 v212 := Tryz.zeroValue269
 t213 := Tryz.underlying270
 a213 := Tryz.isAgg270
 z213 := Tryz.sizeOf270
 t232 := Tryz.underlying287
 a232 := Tryz.isAgg287
 z232 := Tryz.sizeOf287
 v232 := Tryz.zeroValue287
 t233 := Tryz.underlying260
 a233 := Tryz.isAgg260
 z233 := Tryz.sizeOf260
 v233 := Tryz.zeroValue260
 g17 := by kernel_rfl
 g18 := by kernel_rfl
 g19 := by kernel_rfl
 i0 := by kernel_rfl
 i2 := by kernel_rfl
 i3 := by kernel_rfl
 i4 := by kernel_rfl
 i5 := by kernel_rfl
 i9 := by kernel_rfl
 i20 := by kernel_rfl
 i37 := by kernel_rfl
 i46 := by kernel_rfl
 i51 := by kernel_rfl
 i53 := by kernel_rfl
 i171 := by kernel_rfl
 i173 := by kernel_rfl
 i212 := by kernel_rfl
 i232 := by kernel_rfl
 i233 := by kernel_rfl
 m17 := by kernel_rfl
 m18 := by kernel_rfl
 m19 := by kernel_rfl }
open Go.RowKit Go.Sort Go.Lib in
theorem Tryz.strconv_FormatInt_10 (n : Int) (h0 : -9223372036854775808 ≤ n) (h1 : n ≤ 9223372036854775807) (w : World) (htab : Lib.TabIs Tryz.prog w "internal/strconv.uint64pow10" .u64 Lib.pow10Tab) :
   Calls Tryz.prog 191 #[.int .i64 n, .int .i64 10] w fun e w' => e = .returned (.string ⟨(Lib.itoa n).toArray⟩) ∧ ∃ k os, w' = grow (w.drewN k) os := Any.strconv_FormatInt_10 Tryz.laysM173 n h0 h1 w htab
def Tryz.laysPu14_ren : Go.Shelf.Ren := ⟨fun | 14 => 156 | 16 => 202 | 17 => 161 | 19 => 241 | 20 => 242 | 21 => 206 | 22 => 207 | 23 => 208 | 24 => 209 | 25 => 244 | 27 => 74 | 26 => 245 | 28 => 144 | 29 => 200 | 30 => 233 | 31 => 234 | 32 => 235 | 33 => 236 | 35 => 259 | 34 => 258 | 36 => 260 | 37 => 261 | 38 => 262 | 39 => 276 | 40 => 220 | n => n, fun | 9 => 9 | 3 => 3 | 22 => 183 | 24 => 113 | 25 => 184 | 4 => 4 | 34 => 221 | 5 => 5 | 36 => 126 | 37 => 131 | 0 => 0 | 39 => 224 | 21 => 21 | 44 => 256 | 47 => 202 | 50 => 276 | 48 => 274 | 2 => 2 | 52 => 249 | 55 => 251 | 59 => 269 | 60 => 197 | 20 => 20 | 61 => 270 | 65 => 287 | 66 => 260 | 67 => 77 | n => n, fun | 0 => 2 | 1 => 3 | 2 => 5 | 3 => 6 | 4 => 4 | n => n⟩
theorem Tryz.laysPu14 : Go.Proofs.LaysPu.n14 Tryz.prog Tryz.laysPu14_ren := {
 mixed := by kernel_rfl
 f14 := Tryz.func156.trans (congrArg some (by kernel_rfl))
 f16 := Tryz.func202.trans (congrArg some (by kernel_rfl))
 f17 := Tryz.func161.trans (congrArg some (by kernel_rfl))
 f19 := Tryz.func241.trans (congrArg some (by kernel_rfl))
 f20 := Tryz.func242.trans (congrArg some (by kernel_rfl))
 f21 := Tryz.func206.trans (congrArg some (by kernel_rfl))
 f22 := Tryz.func207.trans (congrArg some (by kernel_rfl))
 f23 := Tryz.func208.trans (congrArg some (by kernel_rfl))
 f24 := Tryz.func209.trans (congrArg some (by kernel_rfl))
 f25 := Tryz.func244.trans (congrArg some (by kernel_rfl))
 f26 := Tryz.func245.trans (congrArg some (by kernel_rfl))
 f27 := Tryz.func74.trans (congrArg some (by kernel_rfl))
 f28 := Tryz.func144.trans (congrArg some (by kernel_rfl))
 f29 := Tryz.func200.trans (congrArg some (by kernel_rfl))
 f30 := Tryz.func233.trans (congrArg some (by kernel_rfl))
 f31 := Tryz.func234.trans (congrArg some (by kernel_rfl))
 f32 := Tryz.func235.trans (congrArg some (by kernel_rfl))
 f33 := Tryz.func236.trans (congrArg some (by kernel_rfl))
 f34 := Tryz.func258.trans (congrArg some (by kernel_rfl))
 f35 := Tryz.func259.trans (congrArg some (by kernel_rfl))
 f36 := Tryz.func260.trans (congrArg some (by kernel_rfl))
 f37 := Tryz.func261.trans (congrArg some (by kernel_rfl))
 f38 := Tryz.func262.trans (congrArg some (by kernel_rfl))
 f39 := Tryz.func276.trans (congrArg some (by kernel_rfl))
 f40 := Tryz.func220.trans (congrArg some (by kernel_rfl))
 t0 := Tryz.underlying0
 a0 := Tryz.isAgg0
 z0 := Tryz.sizeOf0
 v0 := Tryz.zeroValue0
 i0 := by kernel_rfl
 t2 := Tryz.underlying2
 a2 := Tryz.isAgg2
 z2 := Tryz.sizeOf2
 v2 := Tryz.zeroValue2
 i2 := by kernel_rfl
 t3 := Tryz.underlying3
 a3 := Tryz.isAgg3
 z3 := Tryz.sizeOf3
 v3 := Tryz.zeroValue3
 i3 := by kernel_rfl
 t4 := Tryz.underlying4
 a4 := Tryz.isAgg4
 z4 := Tryz.sizeOf4
 v4 := Tryz.zeroValue4
 i4 := by kernel_rfl
 t5 := Tryz.underlying5
 a5 := Tryz.isAgg5
 z5 := Tryz.sizeOf5
 v5 := Tryz.zeroValue5
 i5 := by kernel_rfl
 t9 := Tryz.underlying9
 a9 := Tryz.isAgg9
 z9 := Tryz.sizeOf9
 v9 := Tryz.zeroValue9
 i9 := by kernel_rfl
 t20 := Tryz.underlying20
 a20 := Tryz.isAgg20
 z20 := Tryz.sizeOf20
 v20 := Tryz.zeroValue20
 i20 := by kernel_rfl
 t21 := Tryz.underlying21
 a21 := Tryz.isAgg21
 z21 := Tryz.sizeOf21
 v21 := Tryz.zeroValue21
 i21 := by kernel_rfl
 t22 := Tryz.underlying183
 a22 := Tryz.isAgg183
 z22 := Tryz.sizeOf183
 v22 := Tryz.zeroValue183
 i22 := by kernel_rfl
 t24 := Tryz.underlying113
 a24 := Tryz.isAgg113
 z24 := Tryz.sizeOf113
 v24 := Tryz.zeroValue113
 i24 := by kernel_rfl
 t25 := Tryz.underlying184
 a25 := Tryz.isAgg184
 z25 := Tryz.sizeOf184
 v25 := Tryz.zeroValue184
 i25 := by kernel_rfl
 t34 := Tryz.underlying221
 a34 := Tryz.isAgg221
 z34 := Tryz.sizeOf221
 v34 := Tryz.zeroValue221
 i34 := by kernel_rfl
 c34 := by kernel_rfl
 t36 := Tryz.underlying126
 a36 := Tryz.isAgg126
 z36 := Tryz.sizeOf126
 v36 := Tryz.zeroValue126
 i36 := by kernel_rfl
 t37 := Tryz.underlying131
 a37 := Tryz.isAgg131
 z37 := Tryz.sizeOf131
 v37 := Tryz.zeroValue131
 i37 := by kernel_rfl
 t39 := Tryz.underlying224
 a39 := Tryz.isAgg224
 z39 := Tryz.sizeOf224
 v39 := Tryz.zeroValue224
 i39 := by kernel_rfl
 t44 := Tryz.underlying256
 a44 := Tryz.isAgg256
 z44 := Tryz.sizeOf256
 v44 := Tryz.zeroValue256
 i44 := by kernel_rfl
 t47 := Tryz.underlying202
 a47 := Tryz.isAgg202
 z47 := Tryz.sizeOf202
 v47 := Tryz.zeroValue202
 i47 := by kernel_rfl
 t48 := Tryz.underlying274
 a48 := Tryz.isAgg274
 z48 := Tryz.sizeOf274
 v48 := Tryz.zeroValue274
 i48 := by kernel_rfl
 t50 := Tryz.underlying276
 a50 := Tryz.isAgg276
 z50 := Tryz.sizeOf276
 v50 := Tryz.zeroValue276
 i50 := by kernel_rfl
 t52 := Tryz.underlying249
 a52 := Tryz.isAgg249
 z52 := Tryz.sizeOf249
 v52 := Tryz.zeroValue249
 i52 := by kernel_rfl
 t55 := Tryz.underlying251
 a55 := Tryz.isAgg251
 z55 := Tryz.sizeOf251
 v55 := Tryz.zeroValue251
 i55 := by kernel_rfl
 t59 := Tryz.underlying269
 a59 := Tryz.isAgg269
 z59 := Tryz.sizeOf269
 v59 := Tryz.zeroValue269
 i59 := by kernel_rfl
 t60 := Tryz.underlying197
 a60 := Tryz.isAgg197
 z60 := Tryz.sizeOf197
 v60 := Tryz.zeroValue197
 i60 := by kernel_rfl
 t61 := Tryz.underlying270
 a61 := Tryz.isAgg270
 z61 := Tryz.sizeOf270
 t65 := Tryz.underlying287
 a65 := Tryz.isAgg287
 z65 := Tryz.sizeOf287
 v65 := Tryz.zeroValue287
 i65 := by kernel_rfl
 t66 := Tryz.underlying260
 a66 := Tryz.isAgg260
 z66 := Tryz.sizeOf260
 v66 := Tryz.zeroValue260
 i66 := by kernel_rfl
 t67 := Tryz.underlying77
 a67 := Tryz.isAgg77
 z67 := Tryz.sizeOf77
 v67 := Tryz.zeroValue77
 i67 := by kernel_rfl
 g0 := by kernel_rfl
 m0 := by kernel_rfl
 g1 := by kernel_rfl
 m1 := by kernel_rfl
 g2 := by kernel_rfl
 m2 := by kernel_rfl
 g3 := by kernel_rfl
 m3 := by kernel_rfl
 g4 := by kernel_rfl
 m4 := by kernel_rfl }
open Go.RowKit in
theorem Tryz.strconv_ParseUint_10_at64_ok (s : ByteArray) (hmax : s.size ≤ 9223372036854775806) (u : Nat) (h : Lib.parseUintB 64 s.data.toList = .ok u) (w : World) :
   Calls Tryz.prog 156 #[.string s, .int .i64 10, .int .i64 64] w fun e w' => e = .returned (.tuple #[.int .u64 u, .nilIface]) ∧ (w' = w ∨ w' = Lib.bytesWorld w 5 s) := Any.strconv_ParseUint_10_at64_ok Tryz.laysPu14 s hmax u h w
def Tryz.lays219_ren : Go.Shelf.Ren := ⟨fun | 219 => 201 | 217 => 237 | 225 => 238 | 224 => 239 | 267 => 240 | 266 => 263 | 314 => 264 | n => n, fun | 9 => 9 | 3 => 3 | 4 => 4 | 5 => 5 | 46 => 126 | 146 => 198 | 51 => 197 | n => n, fun | 1 => 1 | n => n⟩
theorem Tryz.lays219 : Go.Proofs.Lays.n219 Tryz.prog Tryz.lays219_ren := {
 mixed := by kernel_rfl
 f217 := Tryz.func237.trans (congrArg some (by kernel_rfl))
 f219 := Tryz.func201.trans (congrArg some (by kernel_rfl))
 f224 := Tryz.func239.trans (congrArg some (by kernel_rfl))
 f225 := Tryz.func238.trans (congrArg some (by kernel_rfl))
 f266 := Tryz.func263.trans (congrArg some (by kernel_rfl))
 f267 := Tryz.func240.trans (congrArg some (by kernel_rfl))
 f314 := Tryz.func264.trans (congrArg some (by kernel_rfl))
 t3 := Tryz.underlying3
 a3 := Tryz.isAgg3
 z3 := Tryz.sizeOf3
 v3 := Tryz.zeroValue3
 t4 := Tryz.underlying4
 a4 := Tryz.isAgg4
 z4 := Tryz.sizeOf4
 v4 := Tryz.zeroValue4
 t5 := Tryz.underlying5
 a5 := Tryz.isAgg5
 z5 := Tryz.sizeOf5
 v5 := Tryz.zeroValue5
 t9 := Tryz.underlying9
 a9 := Tryz.isAgg9
 z9 := Tryz.sizeOf9
 v9 := Tryz.zeroValue9
 t46 := Tryz.underlying126
 a46 := Tryz.isAgg126
 z46 := Tryz.sizeOf126
 v46 := Tryz.zeroValue126
 t51 := Tryz.underlying197
 a51 := Tryz.isAgg197
 z51 := Tryz.sizeOf197
 v51 := Tryz.zeroValue197
 t146 := Tryz.underlying198
 a146 := Tryz.isAgg198
 z146 := Tryz.sizeOf198
 v146 := Tryz.zeroValue198
 g1 := by kernel_rfl }
open Go.RowKit Go.Lib in
theorem Tryz.stringslite_Index_one (s : ByteArray) (c : UInt8) (w : World) :
   Calls Tryz.prog 201 #[.string s, .string ⟨#[c]⟩] w fun e w' => e = .returned (.int .i64 (Lib.indexByte s.data.toList c)) ∧ w' = w := Any.stringslite_Index_one Tryz.lays219 s c w
def Tryz.laysM288_ren : Go.Shelf.Ren := ⟨fun | 288 => 232 | 283 => 233 | 284 => 234 | 285 => 235 | 286 => 236 | 129 => 259 | 317 => 258 | 318 => 260 | 319 => 261 | 320 => 262 | 337 => 276 | 338 => 220 | n => n, fun | 37 => 131 | 53 => 183 | 3 => 3 | 4 => 4 | 9 => 9 | 171 => 249 | 0 => 0 | 173 => 251 | 212 => 269 | 51 => 197 | 5 => 5 | 20 => 20 | 213 => 270 | 46 => 126 | 232 => 287 | 233 => 260 | n => n, fun | 17 => 5 | 18 => 6 | 19 => 4 | n => n⟩
theorem Tryz.laysM288 : Go.Proofs.LaysM.n288 Tryz.prog Tryz.laysM288_ren := {
 mixed := by kernel_rfl
 f129 := Tryz.func259.trans (congrArg some (by kernel_rfl))
 f283 := Tryz.func233.trans (congrArg some (by kernel_rfl))
 f284 := Tryz.func234.trans (congrArg some (by kernel_rfl))
 f285 := Tryz.func235.trans (congrArg some (by kernel_rfl))
 f286 := Tryz.func236.trans (congrArg some (by kernel_rfl))
 f288 := Tryz.func232.trans (congrArg some (by kernel_rfl))
 f317 := Tryz.func258.trans (congrArg some (by kernel_rfl))
 f318 := Tryz.func260.trans (congrArg some (by kernel_rfl))
 f319 := Tryz.func261.trans (congrArg some (by kernel_rfl))
 f320 := Tryz.func262.trans (congrArg some (by kernel_rfl))
 f337 := Tryz.func276.trans (congrArg some (by kernel_rfl))
 f338 := Tryz.func220.trans (congrArg some (by kernel_rfl))
 t0 := Tryz.underlying0
 a0 := Tryz.isAgg0
 z0 := Tryz.sizeOf0
 v0 := Tryz.zeroValue0
 t3 := Tryz.underlying3
 a3 := Tryz.isAgg3
 z3 := Tryz.sizeOf3
 v3 := Tryz.zeroValue3
 t4 := Tryz.underlying4
 a4 := Tryz.isAgg4
 z4 := Tryz.sizeOf4
 v4 := Tryz.zeroValue4
 t5 := Tryz.underlying5
 a5 := Tryz.isAgg5
 z5 := Tryz.sizeOf5
 v5 := Tryz.zeroValue5
 t9 := Tryz.underlying9
 a9 := Tryz.isAgg9
 z9 := Tryz.sizeOf9
 v9 := Tryz.zeroValue9
 t20 := Tryz.underlying20
 a20 := Tryz.isAgg20
 z20 := Tryz.sizeOf20
 v20 := Tryz.zeroValue20
 t37 := Tryz.underlying131
 a37 := Tryz.isAgg131
 z37 := Tryz.sizeOf131
 v37 := Tryz.zeroValue131
 t46 := Tryz.underlying126
 a46 := Tryz.isAgg126
 z46 := Tryz.sizeOf126
 v46 := Tryz.zeroValue126
 t51 := Tryz.underlying197
 a51 := Tryz.isAgg197
 z51 := Tryz.sizeOf197
 v51 := Tryz.zeroValue197
 t53 := Tryz.underlying183
 a53 := Tryz.isAgg183
 z53 := Tryz.sizeOf183
 v53 := Tryz.zeroValue183
 t171 := Tryz.underlying249
 a171 := Tryz.isAgg249
 z171 := Tryz.sizeOf249
 v171 := Tryz.zeroValue249
 t173 := Tryz.underlying251
 a173 := Tryz.isAgg251
 z173 := Tryz.sizeOf251
 v173 := Tryz.zeroValue251
 t212 := Tryz.underlying269
 a212 := Tryz.isAgg269
 z212 := Tryz.sizeOf269
 v212 := Tryz.zeroValue269
 t213 := Tryz.underlying270
 a213 := Tryz.isAgg270
 z213 := Tryz.sizeOf270
 t232 := Tryz.underlying287
 a232 := Tryz.isAgg287
 z232 := Tryz.sizeOf287
 v232 := Tryz.zeroValue287
 t233 := Tryz.underlying260
 a233 := Tryz.isAgg260
 z233 := Tryz.sizeOf260
 v233 := Tryz.zeroValue260
 g17 := by kernel_rfl
 g18 := by kernel_rfl
 g19 := by kernel_rfl
 i0 := by kernel_rfl
 i3 := by kernel_rfl
 i4 := by kernel_rfl
 i5 := by kernel_rfl
 i9 := by kernel_rfl
 i20 := by kernel_rfl
 i37 := by kernel_rfl
 i46 := by kernel_rfl
 i51 := by kernel_rfl
 i53 := by kernel_rfl
 i171 := by kernel_rfl
 i173 := by kernel_rfl
 i212 := by kernel_rfl
 i232 := by kernel_rfl
 i233 := by kernel_rfl
 m17 := by kernel_rfl
 m18 := by kernel_rfl
 m19 := by kernel_rfl }
open Go.RowKit Go.Sort Go.Lib in
theorem Tryz.internal_strconv_AppendUint_10 (B n u : Nat) (hu64 : u < 18446744073709551616) (sv : Value) (xs : List Value) (w : World) (hown : w.ownsRow B 5 1 sv n xs) (hBw : B ≤ w.heap.size) (hlim : n + 20 ≤ 140737488355328) (htab : Lib.TabIs Tryz.prog w "internal/strconv.uint64pow10" .u64 Lib.pow10Tab) :
   Calls Tryz.prog 232 #[sv, .int .u64 u, .int .i64 10] w fun e w' => ∃ v', e = .returned v' ∧ w'.ownsRow B 5 1 v' (n + (Lib.decDigits u).length) (xs ++ Lib.byteCells (Lib.decDigits u)) ∧ Below B w w' ∧ Lib.OthersKept 5 none w w' := Any.internal_strconv_AppendUint_10 Tryz.laysM288 B n u hu64 sv xs w hown hBw hlim htab
def Tryz.lays99_ren : Go.Shelf.Ren := ⟨fun | 99 => 111 | 206 => 176 | n => n, fun | 9 => 9 | 4 => 4 | 3 => 3 | n => n, fun | n => n⟩
theorem Tryz.lays99 : Go.Proofs.Lays.n99 Tryz.prog Tryz.lays99_ren := {
 mixed := by kernel_rfl
 f99 := Tryz.func111.trans (congrArg some (by kernel_rfl))
 f206 := Tryz.func176.trans (congrArg some (by kernel_rfl))
 t3 := Tryz.underlying3
 a3 := Tryz.isAgg3
 z3 := Tryz.sizeOf3
 v3 := Tryz.zeroValue3
 t4 := Tryz.underlying4
 a4 := Tryz.isAgg4
 z4 := Tryz.sizeOf4
 v4 := Tryz.zeroValue4
 t9 := Tryz.underlying9
 a9 := Tryz.isAgg9
 z9 := Tryz.sizeOf9
 v9 := Tryz.zeroValue9 }
open Go.RowKit Go.Lib in
theorem Tryz.strings_HasPrefix (s p : ByteArray) (w : World) :
   Calls Tryz.prog 111 #[.string s, .string p] w fun e w' => e = .returned (.bool (Lib.hasPrefix s.data.toList p.data.toList)) ∧ w' = w := Any.strings_HasPrefix Tryz.lays99 s p w
def Tryz.lays101_ren : Go.Shelf.Ren := ⟨fun | 101 => 90 | 208 => 153 | 206 => 176 | n => n, fun | 9 => 9 | 4 => 4 | 3 => 3 | n => n, fun | n => n⟩
theorem Tryz.lays101 : Go.Proofs.Lays.n101 Tryz.prog Tryz.lays101_ren := {
 mixed := by kernel_rfl
 f101 := Tryz.func90.trans (congrArg some (by kernel_rfl))
 f206 := Tryz.func176.trans (congrArg some (by kernel_rfl))
 f208 := Tryz.func153.trans (congrArg some (by kernel_rfl))
 t3 := Tryz.underlying3
 a3 := Tryz.isAgg3
 z3 := Tryz.sizeOf3
 v3 := Tryz.zeroValue3
 t4 := Tryz.underlying4
 a4 := Tryz.isAgg4
 z4 := Tryz.sizeOf4
 v4 := Tryz.zeroValue4
 t9 := Tryz.underlying9
 a9 := Tryz.isAgg9
 z9 := Tryz.sizeOf9
 v9 := Tryz.zeroValue9 }
open Go.RowKit Go.Lib in
theorem Tryz.strings_TrimPrefix (s p : ByteArray) (w : World) :
   Calls Tryz.prog 90 #[.string s, .string p] w fun e w' => e = .returned (.string ⟨(Lib.trimPrefix s.data.toList p.data.toList).toArray⟩) ∧ w' = w := Any.strings_TrimPrefix Tryz.lays101 s p w
def Tryz.lays264_ren : Go.Shelf.Ren := ⟨fun | 264 => 175 | n => n, fun | 53 => 183 | 46 => 126 | n => n, fun | n => n⟩
theorem Tryz.lays264 : Go.Proofs.Lays.n264 Tryz.prog Tryz.lays264_ren := {
 mixed := by kernel_rfl
 f264 := Tryz.func175.trans (congrArg some (by kernel_rfl))
 t46 := Tryz.underlying126
 a46 := Tryz.isAgg126
 z46 := Tryz.sizeOf126
 v46 := Tryz.zeroValue126
 t53 := Tryz.underlying183
 a53 := Tryz.isAgg183
 z53 := Tryz.sizeOf183
 v53 := Tryz.zeroValue183 }
open Go.RowKit Go.Lib in
theorem Tryz.bits_Mul64 (x y : Nat) (hx : x < 18446744073709551616) (hy : y < 18446744073709551616) (w : World) :
   Calls Tryz.prog 175 #[.int .u64 x, .int .u64 y] w fun e w' => e = .returned (.tuple #[.int .u64 ((x * y / 18446744073709551616 : Nat) : Int), .int .u64 ((x * y % 18446744073709551616 : Nat) : Int)]) ∧ w' = w := Any.bits_Mul64 Tryz.lays264 x y hx hy w
end Go.Proofs
namespace Go.Proofs.YtilggfeodhfjfaaGreatDoor
theorem fdiv_unique {a b q r : Int} (h : b * q + r = a) (hb : b ≠ 0) (hp : 0 < b → 0 ≤ r ∧ r < b) (hn : b < 0 → b < r ∧ r ≤ 0) : a.fdiv b = q ∧ a.fmod b = r := by
 have h1 : r.fdiv b = 0 := by
   by_cases h0 : 0 < b
   · exact Int.fdiv_eq_zero_of_lt (hp h0).1 (hp h0).2
   · have h2 := hn (by omega)
     rw [← Int.neg_fdiv_neg]
     exact Int.fdiv_eq_zero_of_lt (by omega) (by omega)
 constructor
 · rw [← h, Int.mul_add_fdiv_left (H := hb), h1]; omega
 · rw [← h, Int.mul_add_fmod_self_left, Int.fmod_def, h1, Int.mul_zero]; omega
theorem tmod_lt (a b : Int) (hb : b ≠ 0) : (a.tmod b).natAbs < b.natAbs := by
 rw [Int.natAbs_tmod]; exact Nat.mod_lt _ (by omega)
theorem fdiv_same {a b : Int} (hb : b ≠ 0) (h : a.tmod b = 0 ∨ ((a.tmod b < 0) ↔ (b < 0))) : a.fdiv b = a.tdiv b ∧ a.fmod b = a.tmod b := by
 have h1 := tmod_lt a b hb
 refine fdiv_unique (Int.mul_tdiv_add_tmod a b) hb (fun h0 => ?_) (fun h0 => ?_) <;> omega
theorem fdiv_other {a b : Int} (hb : b ≠ 0) (h : a.tmod b ≠ 0) (h' : ¬ ((a.tmod b < 0) ↔ (b < 0))) : a.fdiv b = a.tdiv b - 1 ∧ a.fmod b = a.tmod b + b := by
 have h1 := tmod_lt a b hb
 refine fdiv_unique ?_ hb (fun h0 => ?_) (fun h0 => ?_)
 · have := Int.mul_tdiv_add_tmod a b
   rw [Int.mul_sub, Int.mul_one]; omega
 · omega
 · omega
def IsRoot (n r : Nat) : Prop := r * r ≤ n ∧ n < (r + 1) * (r + 1)
theorem IsRoot.unique {n r s : Nat} (h : IsRoot n r) (h' : IsRoot n s) : r = s := by
 have h1 : r < s + 1 := by
   apply Decidable.byContradiction; intro hc
   have := Nat.mul_self_le_mul_self (show s + 1 ≤ r by omega)
   exact absurd (Nat.lt_of_le_of_lt h.1 h'.2) (by omega)
 have h2 : s < r + 1 := by
   apply Decidable.byContradiction; intro hc
   have := Nat.mul_self_le_mul_self (show r + 1 ≤ s by omega)
   exact absurd (Nat.lt_of_le_of_lt h'.1 h.2) (by omega)
 omega
theorem newton_ge (n g : Nat) (hg : 0 < g) (r : Nat) (hr : IsRoot n r) : r ≤ (g + n / g) / 2 := by
 have h0 : r * r ≤ n := hr.1
 have h1 : 2 * r ≤ g + n / g := by
   by_cases hle : 2 * r ≤ g
   · exact Nat.le_trans hle (Nat.le_add_right _ _)
   · have h2 : 2 * r - g ≤ n / g := by
       rw [Nat.le_div_iff_mul_le hg]
       refine Nat.le_trans ?_ h0
       have h3 : ((2 * r - g : Nat) : Int) = 2 * (r : Int) - g := by omega
       have h4 : (((2 * r - g) * g : Nat) : Int) ≤ ((r * r : Nat) : Int) := by
         rw [Int.natCast_mul, Int.natCast_mul, h3]
         have h5 : 0 ≤ ((r : Int) - g) * ((r : Int) - g) := by
           by_cases hh : (0 : Int) ≤ (r : Int) - g
           · exact Int.mul_nonneg hh hh
           · exact Int.mul_nonneg_of_nonpos_of_nonpos (by omega) (by omega)
         have h6 : ((r : Int) - g) * ((r : Int) - g) = (r : Int) * r - (2 * (r : Int) - g) * g := by
           simp only [Int.sub_mul, Int.mul_sub, Int.mul_assoc]
           rw [Int.mul_comm (g : Int) (r : Int)]
           omega
         omega
       exact Int.ofNat_le.1 h4
     generalize n / g = e at *
     omega
 generalize n / g = e at *
 omega
theorem newton_stop (n g : Nat) (hg : 0 < g) (h : g ≤ (g + n / g) / 2) : g * g ≤ n := by
 have h1 : g ≤ n / g := by generalize n / g = e at *; omega
 exact (Nat.le_div_iff_mul_le hg).1 h1
theorem newton_done (n g r : Nat) (hg : 0 < g) (hr : IsRoot n r) (hge : r ≤ g) (h : g ≤ (g + n / g) / 2) : g = r := by
 have h1 := newton_stop n g hg h
 have h2 : g < r + 1 := by
   apply Decidable.byContradiction; intro hc
   have := Nat.mul_self_le_mul_self (show r + 1 ≤ g by omega)
   exact absurd (Nat.lt_of_lt_of_le hr.2 this) (by omega)
 omega
theorem exists_root (n : Nat) : ∃ r, IsRoot n r := by
 induction n with
 | zero => exact ⟨0, by simp [IsRoot]⟩
 | succ n ih =>
   obtain ⟨r, h1, h2⟩ := ih
   by_cases h : (r + 1) * (r + 1) ≤ n + 1
   · refine ⟨r + 1, h, ?_⟩
     have h3 : (r + 1 + 1) * (r + 1 + 1) = (r + 1) * (r + 1) + 2 * r + 3 := by
       simp only [Nat.add_mul, Nat.mul_add]; omega
     omega
   · exact ⟨r, by omega, by omega⟩
noncomputable def rootN (n : Nat) : Nat := Classical.choose (exists_root n)
theorem rootN_is (n : Nat) : IsRoot n (rootN n) := Classical.choose_spec (exists_root n)
theorem rootN_eq {n r : Nat} (h : IsRoot n r) : rootN n = r := (rootN_is n).unique h
theorem rootN_le (n k : Nat) (h : n < k * k) : rootN n < k := by
 apply Decidable.byContradiction; intro hc
 have := Nat.mul_self_le_mul_self (show k ≤ rootN n by omega)
 exact absurd (rootN_is n).1 (by omega)
end Go.Proofs.YtilggfeodhfjfaaGreatDoor
namespace Go.Proofs.YtilggfeodhfjfaaGreatDoor
open Go.RowKit
def Tab (w : World) : Prop := Lib.TabIs Tryz.prog w "internal/strconv.uint64pow10" .u64 Lib.pow10Tab
theorem gTab : Tryz.prog.globalNamed "internal/strconv.uint64pow10" = some 5 := by kernel_rfl
theorem Tab.below {w w' : World} {B : Nat} (h : Tab w) (hb : Below B w w') (hB : 5 < B) : Tab w' :=
 var?_below hb gTab hB h
theorem Tab.lt {w : World} (h : Tab w) : 5 < w.heap.size := by
 unfold Tab Lib.TabIs World.var? at h
 simp only [gTab, Option.bind_some] at h
 by_cases hlt : 5 < w.heap.size
 · exact hlt
 · rw [Array.getElem?_eq_none (by omega)] at h; simp at h
theorem Tab.next {w w' : World} (h : Tab w) (hb : Below w.heap.size w w') : Tab w' := h.below hb h.lt
def chk2 (a b : List UInt8) : Int := if chk a = 0 then chk b else chk a
theorem checkBoth_any (a b : ByteArray) (w : World) (ha : a.size ≤ maxLen) (hb : b.size ≤ maxLen) :
   Calls Tryz.prog 132 #[.string a, .string b] w fun e w' => e = .returned (.int .i64 (chk2 a.data.toList b.data.toList)) ∧ w = w' := by
 generalize hx : chk a.data.toList = x
 have HX := Lib.hid hx; clear hx
 by_cases h0 : (x == 0) = true
 · have hn : (x != 0) = false := by simpa using h0
   go_enter Tryz.func132, Tryz.ntmps132
   go_wp2_with fail
   refine (check_any a _ ha).mono ?_
   rw [HX.out]; rintro e w' ⟨rfl, rfl⟩
   go_wp2_with fail
   refine (check_any b _ hb).mono ?_
   rintro e w' ⟨rfl, rfl⟩
   go_wp2
   go_ret
   exact ⟨ret_int (by unfold chk2; rw [HX.out, if_pos (by simpa using h0)]), rfl⟩
 · have hn : (x != 0) = true := by simpa using h0
   go_enter Tryz.func132, Tryz.ntmps132
   go_wp2_with fail
   refine (check_any a _ ha).mono ?_
   rw [HX.out]; rintro e w' ⟨rfl, rfl⟩
   go_wp2
   go_ret
   exact ⟨ret_int (by unfold chk2; rw [HX.out, if_neg (by simpa using h0)]), rfl⟩
theorem isShort_any (s : ByteArray) (w : World) (_hs : s.size ≤ maxLen) :
   Calls Tryz.prog 133 #[.string s] w fun e w' => e = .returned (.bool (decide ((s.size : Int) ≤ 18))) ∧ w = w' := by
 go_enter Tryz.func133, Tryz.ntmps133
 go_wp2
 go_ret
 exact ⟨rfl, rfl⟩
theorem chk_dig {l : List UInt8} (h : chk l = 0) : ∀ c ∈ szL l, isDig c = true := by
 by_cases h1 : (szL l).all isDig = true
 · exact List.all_eq_true.1 h1
 · rw [chk_bad (by simpa using h1)] at h; cases h
theorem natOf_18 (l : List UInt8) (h : ∀ c ∈ l, isDig c = true) (hl : l.length ≤ 18) : natOf l < 1000000000000000000 := by
 have := natOf_take_18 l h l.length hl
 rwa [List.take_length] at this
theorem valOf_szL (l : List UInt8) : valOf l = if isNeg l = true then -(natOf (szL l) : Int) else (natOf (szL l) : Int) := by
 unfold valOf szL; split <;> simp_all
theorem szL_length (l : List UInt8) : (szL l).length ≤ l.length := by
 unfold szL; split
 · rw [List.length_tail]; omega
 · exact Nat.le_refl _
theorem valOf_short {l : List UInt8} (h : chk l = 0) (hl : l.length ≤ 18) : -1000000000000000000 < valOf l ∧ valOf l < 1000000000000000000 := by
 have h1 := natOf_18 (szL l) (chk_dig h) (Nat.le_trans (szL_length l) hl)
 rw [valOf_szL]; split <;> omega
theorem machine_any (s : ByteArray) (w : World) (hs : s.size ≤ 18) (hc : chk s.data.toList = 0) :
   Calls Tryz.prog 135 #[.string s] w fun e w' => e = .returned (.int .i64 (valOf s.data.toList)) ∧ w = w' := by
 have hd := Lib.hid (chk_dig hc)
 clear hc
 have h1 := natOf_18 (szL s.data.toList) hd.out (Nat.le_trans (szL_length _) hs)
 have hv := Lib.hid (valOf_szL s.data.toList)
 by_cases h : isNeg s.data.toList = true
 · have h0 := isNeg_size h
   have hz : szB s = s.extract 1 s.size := by unfold szB; rw [if_pos h]
   have HZ := Lib.hid (szB_data s); have HZ2 := Lib.hid hz; clear hz
   have hz3 : (s.extract 1 s.size).size ≤ 18 := by rw [ByteArray.size_extract]; omega
   have c := value_any (s.extract 1 s.size) w hz3 (by rw [← HZ2.out, HZ.out]; exact hd.out)
   rw [← HZ2.out, HZ.out] at c
   rw [HZ2.out] at c
   generalize natOf (szL s.data.toList) = n at *
   go_enter Tryz.func135, Tryz.ntmps135
   go_wp2_with fail
   refine (isNegative_any s _).mono ?_; rw [h]; rintro e w' ⟨rfl, rfl⟩
   go_wp2_with fail
   refine c.mono ?_; clear c; rintro e w' ⟨rfl, rfl⟩
   go_wp2
   go_ret
   exact ⟨ret_int (by rw [hv.out, if_pos h]), rfl⟩
 · have h' : isNeg s.data.toList = false := by simpa using h
   have hz : szB s = s := by unfold szB; rw [if_neg h]
   have HZ := Lib.hid (szB_data s); have HZ2 := Lib.hid hz; clear hz
   have c := value_any s w hs (by rw [← HZ2.out, HZ.out]; exact hd.out)
   rw [← HZ2.out, HZ.out] at c
   rw [HZ2.out] at c
   generalize natOf (szL s.data.toList) = n at *
   go_enter Tryz.func135, Tryz.ntmps135
   go_wp2_with fail
   refine (isNegative_any s _).mono ?_; rw [h']; rintro e w' ⟨rfl, rfl⟩
   go_wp2_with fail
   refine c.mono ?_; clear c; rintro e w' ⟨rfl, rfl⟩
   go_wp2
   go_ret
   exact ⟨ret_int (by rw [hv.out, if_neg h]), rfl⟩
def strB (z : Int) : ByteArray := ⟨(Lib.itoa z).toArray⟩
theorem strB_data (z : Int) : (strB z).data.toList = Lib.itoa z := by unfold strB; simp
theorem ofMachine_any (z : Int) (w : World) (h0 : -9223372036854775808 ≤ z) (h1 : z ≤ 9223372036854775807) (ht : Tab w) :
   Calls Tryz.prog 136 #[.int .i64 z] w fun e w' => e = .returned (.string (strB z)) ∧ Below w.heap.size w w' := by
 have c := Tryz.strconv_FormatInt_10 z h0 h1 w ht
 clear h0 h1
 go_enter Tryz.func136, Tryz.ntmps136
 go_wp2_with fail
 refine c.mono ?_
 clear c
 rintro e w' ⟨rfl, k, os, rfl⟩
 go_wp2
 go_ret
 exact ⟨rfl, Lib.below_grow _ _ (Nat.le_refl _) _ _⟩
theorem ret_two {k1 k2 : IntKind} {a b c d : Int} (h : a = b) (h2 : c = d) : Ending.returned (.tuple #[.int k1 a, .int k2 c]) = .returned (.tuple #[.int k1 b, .int k2 d]) := by rw [h, h2]
theorem tdiv_bd (a b : Int) (ha : -1000000000000000000 < a) (ha' : a < 1000000000000000000) : -1000000000000000000 < a.tdiv b ∧ a.tdiv b < 1000000000000000000 := by
 have h := Int.natAbs_tdiv_le_natAbs a b
 omega
theorem tmod_bd (a b : Int) (ha : -1000000000000000000 < a) (ha' : a < 1000000000000000000) : -1000000000000000000 < a.tmod b ∧ a.tmod b < 1000000000000000000 := by
 have h := Int.natAbs_tmod a b
 have h2 := Nat.mod_le a.natAbs b.natAbs
 omega
theorem divideMachine_any (a b : Int) (w : World) (ha : -1000000000000000000 < a) (ha' : a < 1000000000000000000) (hb : -1000000000000000000 < b) (hb' : b < 1000000000000000000) (h0 : b ≠ 0) :
   Calls Tryz.prog 134 #[.int .i64 a, .int .i64 b] w fun e w' => e = .returned (.tuple #[.int .i64 (a.fdiv b), .int .i64 (a.fmod b)]) ∧ ∃ n, w' = w.drewN n := by
 have hq := tdiv_bd a b ha ha'
 have hr := tmod_bd a b ha ha'
 have hz : (b == 0) = false := by simpa using h0
 have e1 := Lib.hid (fun h => @fdiv_same a b h0 h)
 have e2 := Lib.hid (fun h h' => @fdiv_other a b h0 h h')
 go_enter Tryz.func134, Tryz.ntmps134
 go_wp2
 go_quiet (fail)
 generalize a.tdiv b = q at *
 generalize a.tmod b = r at *
 by_cases c0 : r = 0
 · have c1 : (r != 0) = false := by simpa using c0
   clear c0
   go_wp2
   go_returns
   obtain ⟨f1, f2⟩ := e1.out (.inl (by simpa using c1))
   exact ⟨ret_two f1.symm f2.symm, _, rfl⟩
 · have c1 : (r != 0) = true := by simpa using c0
   clear c0
   by_cases c2 : r < 0 <;> by_cases c3 : b < 0
   all_goals
     go_wp2
     go_returns
     first
     | (obtain ⟨f1, f2⟩ := e1.out (.inr (by omega))
        exact ⟨ret_two f1.symm f2.symm, _, rfl⟩)
     | (obtain ⟨f1, f2⟩ := e2.out (by simpa using c1) (by omega)
        exact ⟨ret_two f1.symm f2.symm, _, rfl⟩)
theorem gcdMachine_any (a b : Nat) (w : World) (ha : a < 18446744073709551616) (hb : b < 18446744073709551616) :
   Calls Tryz.prog 251 #[.int .u64 a, .int .u64 b] w fun e w' => e = .returned (.int .u64 (Nat.gcd a b : Nat)) ∧ ∃ n, w' = w.drewN n := by
 go_enter Tryz.func251, Tryz.ntmps251
 go_wp2
 go_loopw [0, 1] (fun x y wr => ∃ a' b' : Nat, a' < 18446744073709551616 ∧ b' < 18446744073709551616 ∧ x = .int .u64 a' ∧ y = .int .u64 b' ∧ Hid (Nat.gcd a' b' = Nat.gcd a b) ∧ ∃ n, wr = w.drewN n) (fun _ y _ => (intOf y).toNat)
 case atStart => exact ⟨a, b, ha, hb, rfl, rfl, rfl, 0, rfl⟩
 case round =>
   obtain ⟨a', b', ha', hb', rfl, rfl, hg, m, rfl⟩ := hrel
   clear ha hb
   by_cases h0 : b' = 0
   · subst h0
     go_wp2
     go_ret
     exact ⟨ret_int (by have := hg.out; rw [Nat.gcd_zero_right] at this; rw [this]), m, rfl⟩
   · have hne : ((b' : Int) != 0) = true := by simpa using h0
     have hne2 : ((b' : Int) == 0) = false := by simpa using h0
     have hlt : a' % b' < b' := Nat.mod_lt _ (by omega)
     have hcast : ((a' % b' : Nat) : Int) = (a' : Int) % (b' : Int) := Int.natCast_emod _ _
     have HC := Lib.hid hcast; clear hcast
     have hg2 : Hid (Nat.gcd b' (a' % b') = Nat.gcd a b) := by
       show Nat.gcd b' (a' % b') = Nat.gcd a b
       rw [← hg.out, Nat.gcd_comm a' b', Nat.gcd_rec b' a', Nat.gcd_comm]
     clear hg h0
     go_wp2
     go_quiet (fail)
     go_wp2
     go_roundw
     case rel => exact ⟨b', a' % b', hb', by omega, rfl, by rw [HC.out], hg2, _, World.drewN_drewN _ _ _⟩
     case measure => simp [intOf]; omega
theorem start_above (n : Nat) (hn : n < 1000000000000000000) (h0 : n ≠ 0) :
   Lib.bitLen n ≤ 60 ∧ rootN n < 2 ^ ((Lib.bitLen n + 1) / 2) := by
 have h1 : Lib.bitLen n ≤ 60 := Lib.bitLen_le n 60 (by decide) (by omega)
 refine ⟨h1, rootN_le _ _ ?_⟩
 obtain ⟨_, _, h4⟩ := Lib.bitLenAux_bounds 64 n (by omega) h0
 have h5 : n < 2 ^ Lib.bitLen n := h4
 refine Nat.lt_of_lt_of_le h5 ?_
 rw [← Nat.pow_add]
 exact Nat.pow_le_pow_right (by decide) (by omega)
theorem u64_pow (k : Nat) (h : k ≤ 30) : IntKind.u64.wrap ((2 : Int) ^ k) = ((2 ^ k : Nat) : Int) ∧ 0 < 2 ^ k ∧ 2 ^ k ≤ 1073741824 := by
 have h1 : 2 ^ k ≤ 2 ^ 30 := Nat.pow_le_pow_right (by decide) h
 have h2 : 0 < 2 ^ k := Nat.pow_pos (by decide)
 refine ⟨?_, h2, h1⟩
 have h3 : ((2 : Int) ^ k) = ((2 ^ k : Nat) : Int) := by rw [Int.natCast_pow]; rfl
 rw [h3]
 exact IntWalk.u64_in _ ⟨by omega, by omega⟩
theorem rootMachine_any (n : Nat) (w : World) (hn : n < 1000000000000000000) :
   Calls Tryz.prog 246 #[.int .u64 n] w fun e w' => e = .returned (.int .u64 (rootN n : Nat)) ∧ w = w' := by
 by_cases h0 : n = 0
 · subst h0
   have hr : rootN 0 = 0 := rootN_eq (by simp [IsRoot])
   have HR := Lib.hid hr; clear hr
   go_enter Tryz.func246, Tryz.ntmps246
   go_wp2
   go_ret
   exact ⟨ret_int (by rw [HR.out]; rfl), rfl⟩
 · have hne : ((n : Int) == 0) = false := by simpa using h0
   obtain ⟨hl, hg⟩ := start_above n hn h0
   obtain ⟨hw, hp, hle⟩ := u64_pow ((Lib.bitLen n + 1) / 2) (by omega)
   have HR := Lib.hid (rootN_is n)
   have hr1 : 0 < rootN n := by
     have h2 := (rootN_is n).2
     apply Decidable.byContradiction; intro hc
     have e : rootN n = 0 := by omega
     rw [e] at h2; simp at h2; omega
   generalize rootN n = r at *
   have HW := Lib.hid hw; clear hw
   go_enter Tryz.func246, Tryz.ntmps246
   go_wp2_with fail
   refine (Tryz.bits_Len64 n _ (by omega) (by omega)).mono ?_
   rw [Int.toNat_natCast]
   rintro e w' ⟨rfl, rfl⟩
   generalize Lib.bitLen n = L at *
   generalize 2 ^ ((L + 1) / 2) = g0 at *
   go_wp2
   rw [HW.out]
   clear HW
   go_loop [3] (fun x => ∃ g : Nat, 0 < g ∧ g ≤ 1073741824 ∧ r ≤ g ∧ x = .int .u64 g) (fun x => (intOf x).toNat)
   case atStart => exact ⟨g0, hp, hle, by omega, rfl⟩
   case round =>
     clear hg hle hp
     obtain ⟨g, hp, hle, hg, rfl⟩ := hrel
     have hgz : ((g : Int) == 0) = false := by rw [beq_eq_false_iff_ne]; omega
     have hd : n / g ≤ n := Nat.div_le_self _ _
     have H1 := newton_ge n g hp r HR.out
     have H2 := Lib.hid (newton_done n g r hp HR.out hg)
     have HC := Lib.hid (Int.natCast_ediv n g)
     generalize n / g = d at *
     rw [show Hid ((d : Int) = (n : Int) / (g : Int)) = ((d : Int) = (n : Int) / (g : Int)) from rfl] at HC
     have HD := Lib.hid HC; clear HC
     have hq0 : 0 ≤ (n : Int) / (g : Int) := by rw [← HD.out]; omega
     have hq1 : (n : Int) / (g : Int) ≤ n := by rw [← HD.out]; omega
     by_cases hc : g ≤ (g + d) / 2
     · have hc' : (g : Int) ≤ ((g : Int) + (n : Int) / (g : Int)) / 2 := by rw [← HD.out]; omega
       go_wp2
       go_ret
       exact ⟨ret_int (by rw [H2.out hc]), rfl⟩
     · have hc' : ((g : Int) + (n : Int) / (g : Int)) / 2 < (g : Int) := by rw [← HD.out]; omega
       go_wp2
       go_round
       case rel => exact ⟨(g + d) / 2, by omega, by omega, H1, by rw [← HD.out]; go_num⟩
       case measure => simp [intOf]; omega
end Go.Proofs.YtilggfeodhfjfaaGreatDoor
namespace Go.Proofs.YtilggfeodhfjfaaGreatDoor
open Go.ChangeShapes Go.WideShapes Go.ChangeAt Go.RowKit
theorem own : ownKnob Tryz.prog.godebug = none := by kernel_rfl
end Go.Proofs.YtilggfeodhfjfaaGreatDoor
