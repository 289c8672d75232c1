/- Parts of the proof of the text YtkjhaengllpaoaaGreatDoorZB27. -/
import Derived.Shelf.Strings.Builder1
import Derived.Shelf.Strings.Builder2
import Derived.Shelf.Strings.Trim
import Derived.Shelf.Small.Utf8
import Derived.Shelf.Small.Strs
import Derived.Shelf.Small.Wraps
import Derived.Shelf.Strings.BuilderF
import Derived.Shelf.Strconv.Itoa0
import Derived.Shelf.Strconv.Itoa1
import Derived.Shelf.LaysM
import Derived.Shelf.Strconv.Itoa2
import Derived.Shelf.Strconv.Itoa3
import Derived.Shelf.Strconv.Itoa4
import Derived.Shelf.Strings.Search1
import Derived.Shelf.Strings.Search2
import Derived.Shelf.Strings.Cut
import Derived.Shelf.Strconv.AppendUint10
import Derived.Shelf.Strconv.AppendInt10
import Derived.Shelf.Strconv.AppendIntPublic10
import Derived.Shelf.Strings.Prefix
import Derived.Shelf.Bits.Mul64
import Derived.Shelf.Strings.Repeat
import Derived.Test.YtkjhaengllpaoaaGreatDoorProg
import Derived.WalkSmall
import Derived.Test.YtkjhaengllpaoaaGreatDoorZB1
set_option linter.all false
set_option maxRecDepth 100000
set_option maxHeartbeats 8000000
namespace Go.Proofs.YtkjhaengllpaoaaGreatDoor
open Go.RowKit
theorem chk_bad {l : List UInt8} (h : (szL l).all isDig = false) : chk l = 11 := by unfold chk; rw [h]; rfl
theorem chk_good {l : List UInt8} (h : (szL l).all isDig = true) :
   chk l = if (szL l) = [] ∨ ((szL l).head? = some 48 ∧ l ≠ [48]) then 11 else if 300 < (szL l).length then 4 else 0 := by unfold chk; rw [h]; rfl
theorem check_any (s : ByteArray) (w : World) (hs : s.size ≤ maxLen) :
   Calls Tryz.prog 129 #[.string s] w fun e w' => e = .returned (.int .i64 (chk s.data.toList)) ∧ w = w' := by
 have hm : s.size ≤ 9223372036854775807 := by unfold maxLen at hs; omega
 have hz := szB_size s
 have HD := Lib.hid (szB_data s)
 go_enter Tryz.func129, Tryz.ntmps129
 go_wp2_with (go_at_call 149; refine (sizeText_any s _ hs).mono ?_; rintro e w' ⟨rfl, rfl⟩)
 generalize szB s = t at *
 go_loop [9] (fun i => ∃ k : Nat, k ≤ t.size ∧ i = .int .i64 k ∧ Hid ((t.data.toList.take k).all isDig = true)) (fun i => t.size - (intOf i).toNat)
 case atStart => exact ⟨0, Nat.zero_le _, rfl, rfl⟩
 case round =>
   obtain ⟨k, hk, rfl, hd⟩ := hrel
   by_cases hlt : k < t.size
   · by_cases h1 : (t[k].toNat : Int) < 48
     · go_wp2
       go_ret
       refine ⟨ret_int (chk_bad ?_).symm, rfl⟩
       rw [← HD.out, List.all_eq_false]
       refine ⟨t[k], mem_get t k hlt, ?_⟩
       rw [isDig_iff]; omega
     · by_cases h2 : (57 : Int) < t[k].toNat
       · go_wp2
         go_ret
         refine ⟨ret_int (chk_bad ?_).symm, rfl⟩
         rw [← HD.out, List.all_eq_false]
         refine ⟨t[k], mem_get t k hlt, ?_⟩
         rw [isDig_iff]; omega
       · have hd' : Hid ((t.data.toList.take (k + 1)).all isDig = true) := by
           show (t.data.toList.take (k + 1)).all isDig = true
           rw [take_snoc t k hlt, List.all_append, hd.out]
           have : isDig t[k] = true := by rw [isDig_iff]; omega
           simp [this]
         clear hd
         go_wp2
         go_round
         case rel => exact ⟨k + 1, by omega, by go_num, hd'⟩
         case measure => simp [intOf]; omega
   · have ha : Hid ((szL s.data.toList).all isDig = true) := by
       show (szL s.data.toList).all isDig = true
       rw [← HD.out]; have := hd.out; rwa [List.take_of_length_le (by rw [size_len]; omega)] at this
     clear hd
     by_cases h0 : t.size = 0
     · have hE := empty_true h0
       go_wp2
       go_ret
       refine ⟨ret_int ?_, rfl⟩
       rw [chk_good ha.out, if_pos]
       left; rw [← HD.out]; exact data_nil h0
     · have h0' : 0 < t.size := by omega
       have hE := empty_false h0'
       obtain ⟨r, hr⟩ := data_cons h0'
       have HR := Lib.hid hr; clear hr
       by_cases hc : ((t[0].toNat : Int) == 48) = true
       · have h48 : (szL s.data.toList).head? = some 48 := by
           rw [← HD.out, HR.out, List.head?_cons]
           have := u8_eq t[0] 48 (by decide)
           rw [show ((48 : Nat) : Int) = 48 from rfl, hc] at this
           exact congrArg some (by simpa using this.symm)
         have H48 := Lib.hid h48; clear h48
         go_wp2
         · have hx : (!s.toList == [48]) = true := by assumption
           go_ret
           refine ⟨ret_int ?_, rfl⟩
           rw [chk_good ha.out, if_pos]
           rw [ByteArray.toList_eq] at hx
           exact Or.inr ⟨H48.out, by simpa using hx⟩
         · have hx : (!s.toList == [48]) = false := by assumption
           have hy : (300 : Int) < t.size := by assumption
           go_ret
           refine ⟨ret_int ?_, rfl⟩
           rw [ByteArray.toList_eq] at hx
           rw [chk_good ha.out, if_neg, if_pos]
           · rw [← HD.out, size_len]; omega
           · rintro (h | h)
             · rw [← HD.out, HR.out] at h; cases h
             · exact h.2 (by simpa using hx)
         · have hx : (!s.toList == [48]) = false := by assumption
           have hy : (t.size : Int) ≤ 300 := by assumption
           go_ret
           refine ⟨ret_int ?_, rfl⟩
           rw [ByteArray.toList_eq] at hx
           rw [chk_good ha.out, if_neg, if_neg]
           · rw [← HD.out, size_len]; omega
           · rintro (h | h)
             · rw [← HD.out, HR.out] at h; cases h
             · exact h.2 (by simpa using hx)
       · have hc' : ((t[0].toNat : Int) == 48) = false := by simpa using hc
         have h48 : (szL s.data.toList).head? ≠ some 48 := by
           rw [← HD.out, HR.out, List.head?_cons]
           intro e
           have e := Option.some.inj e
           rw [e] at hc'
           exact absurd hc' (by decide)
         have H48 := Lib.hid h48; clear h48
         go_wp2
         · have hy : (300 : Int) < t.size := by assumption
           go_ret
           refine ⟨ret_int ?_, rfl⟩
           rw [chk_good ha.out, if_neg, if_pos]
           · rw [← HD.out, size_len]; omega
           · rintro (h | h)
             · rw [← HD.out, HR.out] at h; cases h
             · exact H48.out h.1
         · have hy : (t.size : Int) ≤ 300 := by assumption
           go_ret
           refine ⟨ret_int ?_, rfl⟩
           rw [chk_good ha.out, if_neg, if_neg]
           · rw [← HD.out, size_len]; omega
           · rintro (h | h)
             · rw [← HD.out, HR.out] at h; cases h
             · exact H48.out h.1
end Go.Proofs.YtkjhaengllpaoaaGreatDoor
namespace Go.Proofs
open Go.Shelf
def Tryz.lays161_ren : Go.Shelf.Ren := ⟨fun | 161 => 134 | 231 => 71 | 227 => 73 | 233 => 74 | 235 => 76 | 228 => 117 | 197 => 118 | 151 => 119 | 260 => 156 | 152 => 157 | 137 => 179 | 119 => 180 | 224 => 137 | 225 => 136 | 217 => 135 | 266 => 165 | n => n, fun | 9 => 9 | 4 => 4 | 3 => 3 | 5 => 5 | 117 => 102 | 116 => 101 | 0 => 0 | 124 => 105 | 105 => 153 | 21 => 21 | 119 => 207 | 46 => 62 | 139 => 210 | 138 => 209 | n => n, fun | 3 => 2 | 4 => 3 | n => n⟩
theorem Tryz.lays161 : Go.Proofs.Lays.n161 Tryz.prog Tryz.lays161_ren := {
 mixed := by kernel_rfl
 f119 := Tryz.func180.trans (congrArg some (by kernel_rfl))
 f137 := Tryz.func179.trans (congrArg some (by kernel_rfl))
 f151 := Tryz.func119.trans (congrArg some (by kernel_rfl))
 f152 := Tryz.func157.trans (congrArg some (by kernel_rfl))
 f161 := Tryz.func134.trans (congrArg some (by kernel_rfl))
 f197 := Tryz.func118.trans (congrArg some (by kernel_rfl))
 f217 := Tryz.func135.trans (congrArg some (by kernel_rfl))
 f224 := Tryz.func137.trans (congrArg some (by kernel_rfl))
 f225 := Tryz.func136.trans (congrArg some (by kernel_rfl))
 f227 := Tryz.func73.trans (congrArg some (by kernel_rfl))
 f228 := Tryz.func117.trans (congrArg some (by kernel_rfl))
 f231 := Tryz.func71.trans (congrArg some (by kernel_rfl))
 f233 := Tryz.func74.trans (congrArg some (by kernel_rfl))
 f235 := Tryz.func76.trans (congrArg some (by kernel_rfl))
 f260 := Tryz.func156.trans (congrArg some (by kernel_rfl))
 f266 := Tryz.func165.trans (congrArg some (by kernel_rfl))
 t0 := Tryz.underlying0
 a0 := Tryz.isAgg0
 z0 := Tryz.sizeOf0
 v0 := Tryz.zeroValue0
 t3 := Tryz.underlying3
 a3 := Tryz.isAgg3
 z3 := Tryz.sizeOf3
 v3 := Tryz.zeroValue3
 t4 := Tryz.underlying4
 a4 := Tryz.isAgg4
 z4 := Tryz.sizeOf4
 v4 := Tryz.zeroValue4
 t5 := Tryz.underlying5
 a5 := Tryz.isAgg5
 z5 := Tryz.sizeOf5
 v5 := Tryz.zeroValue5
 t9 := Tryz.underlying9
 a9 := Tryz.isAgg9
 z9 := Tryz.sizeOf9
 v9 := Tryz.zeroValue9
 t21 := Tryz.underlying21
 a21 := Tryz.isAgg21
 z21 := Tryz.sizeOf21
 v21 := Tryz.zeroValue21
 t46 := Tryz.underlying62
 a46 := Tryz.isAgg62
 z46 := Tryz.sizeOf62
 v46 := Tryz.zeroValue62
 t105 := Tryz.underlying153
 a105 := Tryz.isAgg153
 z105 := Tryz.sizeOf153
 v105 := Tryz.zeroValue153
 t116 := Tryz.underlying101
 a116 := Tryz.isAgg101
 z116 := Tryz.sizeOf101
 t117 := Tryz.underlying102
 a117 := Tryz.isAgg102
 z117 := Tryz.sizeOf102
 v117 := Tryz.zeroValue102
 t119 := Tryz.underlying207
 a119 := Tryz.isAgg207
 z119 := Tryz.sizeOf207
 t124 := Tryz.underlying105
 a124 := Tryz.isAgg105
 z124 := Tryz.sizeOf105
 v124 := Tryz.zeroValue105
 t138 := Tryz.underlying209
 a138 := Tryz.isAgg209
 z138 := Tryz.sizeOf209
 v138 := Tryz.zeroValue209
 t139 := Tryz.underlying210
 a139 := Tryz.isAgg210
 z139 := Tryz.sizeOf210
 v139 := Tryz.zeroValue210
 g3 := by kernel_rfl
 g4 := by kernel_rfl }
open Go.RowKit in
theorem Tryz.strings_TrimLeft_one (s : ByteArray) (c : UInt8) (hc : c.toNat < 128) (w : World) :
   Calls Tryz.prog 134 #[.string s, .string ⟨#[c]⟩] w fun e w' => e = .returned (.string ⟨(Lib.trimLeftB s.data.toList c).toArray⟩) ∧ w' = w := Any.strings_TrimLeft_one Tryz.lays161 s c hc w
def Tryz.lays106_ren : Go.Shelf.Ren := ⟨fun | 106 => 259 | 213 => 260 | 265 => 261 | n => n, fun | 9 => 9 | 3 => 3 | n => n, fun | n => n⟩
theorem Tryz.lays106 : Go.Proofs.Lays.n106 Tryz.prog Tryz.lays106_ren := {
 mixed := by kernel_rfl
 f106 := Tryz.func259.trans (congrArg some (by kernel_rfl))
 f213 := Tryz.func260.trans (congrArg some (by kernel_rfl))
 f265 := Tryz.func261.trans (congrArg some (by kernel_rfl))
 t3 := Tryz.underlying3
 a3 := Tryz.isAgg3
 z3 := Tryz.sizeOf3
 v3 := Tryz.zeroValue3
 t9 := Tryz.underlying9
 a9 := Tryz.isAgg9
 z9 := Tryz.sizeOf9
 v9 := Tryz.zeroValue9 }
open Go.RowKit in
theorem Tryz.strings_Compare (a b : ByteArray) (w : World) :
   Calls Tryz.prog 259 #[.string a, .string b] w fun e w' => e = .returned (.int .i64 (Lib.compareBytes a.data.toList b.data.toList)) ∧ w' = w := Any.strings_Compare Tryz.lays106 a b w
def Tryz.lays103_ren : Go.Shelf.Ren := ⟨fun | 103 => 18 | 210 => 45 | 206 => 66 | n => n, fun | 9 => 9 | 4 => 4 | 24 => 37 | 3 => 3 | n => n, fun | n => n⟩
theorem Tryz.lays103 : Go.Proofs.Lays.n103 Tryz.prog Tryz.lays103_ren := {
 mixed := by kernel_rfl
 f103 := Tryz.func18.trans (congrArg some (by kernel_rfl))
 f206 := Tryz.func66.trans (congrArg some (by kernel_rfl))
 f210 := Tryz.func45.trans (congrArg some (by kernel_rfl))
 t3 := Tryz.underlying3
 a3 := Tryz.isAgg3
 z3 := Tryz.sizeOf3
 v3 := Tryz.zeroValue3
 t4 := Tryz.underlying4
 a4 := Tryz.isAgg4
 z4 := Tryz.sizeOf4
 v4 := Tryz.zeroValue4
 t9 := Tryz.underlying9
 a9 := Tryz.isAgg9
 z9 := Tryz.sizeOf9
 v9 := Tryz.zeroValue9
 t24 := Tryz.underlying37
 a24 := Tryz.isAgg37
 z24 := Tryz.sizeOf37
 v24 := Tryz.zeroValue37 }
open Go.RowKit in
theorem Tryz.strings_CutPrefix (s p : ByteArray) (w : World) :
   Calls Tryz.prog 18 #[.string s, .string p] w fun e w' => e = .returned (.tuple #[.string ⟨(Lib.trimPrefix s.data.toList p.data.toList).toArray⟩, .bool (Lib.hasPrefix s.data.toList p.data.toList)]) ∧ w' = w := Any.strings_CutPrefix Tryz.lays103 s p w
def Tryz.lays122_ren : Go.Shelf.Ren := ⟨fun | 122 => 186 | 215 => 200 | n => n, fun | 3 => 3 | 4 => 4 | n => n, fun | n => n⟩
theorem Tryz.lays122 : Go.Proofs.Lays.n122 Tryz.prog Tryz.lays122_ren := {
 mixed := by kernel_rfl
 f122 := Tryz.func186.trans (congrArg some (by kernel_rfl))
 f215 := Tryz.func200.trans (congrArg some (by kernel_rfl))
 t3 := Tryz.underlying3
 a3 := Tryz.isAgg3
 z3 := Tryz.sizeOf3
 v3 := Tryz.zeroValue3
 t4 := Tryz.underlying4
 a4 := Tryz.isAgg4
 z4 := Tryz.sizeOf4
 v4 := Tryz.zeroValue4 }
open Go.RowKit in
theorem Tryz.cmp_Compare_int (x y : Int) (w : World) :
   Calls Tryz.prog 186 #[.int .i64 x, .int .i64 y] w fun e w' => e = .returned (.int .i64 (Lib.compareInt x y)) ∧ w' = w := Any.cmp_Compare_int Tryz.lays122 x y w
def Tryz.lays283_ren : Go.Shelf.Ren := ⟨fun | 283 => 188 | n => n, fun | 3 => 3 | 9 => 9 | 4 => 4 | n => n, fun | n => n⟩
theorem Tryz.lays283 : Go.Proofs.Lays.n283 Tryz.prog Tryz.lays283_ren := {
 mixed := by kernel_rfl
 f283 := Tryz.func188.trans (congrArg some (by kernel_rfl))
 t3 := Tryz.underlying3
 a3 := Tryz.isAgg3
 z3 := Tryz.sizeOf3
 v3 := Tryz.zeroValue3
 t4 := Tryz.underlying4
 a4 := Tryz.isAgg4
 z4 := Tryz.sizeOf4
 v4 := Tryz.zeroValue4
 t9 := Tryz.underlying9
 a9 := Tryz.isAgg9
 z9 := Tryz.sizeOf9
 v9 := Tryz.zeroValue9 }
open Go.Lib in
theorem Tryz.internal_strconv_small (i : Nat) (h : i < 100) (w : World) :
   Calls Tryz.prog 188 #[.int .i64 i] w fun e w' => e = .returned (.string ⟨(Lib.decDigits i).toArray⟩) ∧ w' = w := Any.internal_strconv_small Tryz.lays283 i h w
def Tryz.laysM284_ren : Go.Shelf.Ren := ⟨fun | 284 => 189 | 129 => 203 | 317 => 202 | 318 => 204 | n => n, fun | 53 => 124 | 3 => 3 | 212 => 237 | 0 => 0 | 4 => 4 | 46 => 62 | 5 => 5 | 9 => 9 | n => n, fun | 17 => 5 | n => n⟩
theorem Tryz.laysM284 : Go.Proofs.LaysM.n284 Tryz.prog Tryz.laysM284_ren := {
 mixed := by kernel_rfl
 f129 := Tryz.func203.trans (congrArg some (by kernel_rfl))
 f284 := Tryz.func189.trans (congrArg some (by kernel_rfl))
 f317 := Tryz.func202.trans (congrArg some (by kernel_rfl))
 f318 := Tryz.func204.trans (congrArg some (by kernel_rfl))
 t0 := Tryz.underlying0
 a0 := Tryz.isAgg0
 z0 := Tryz.sizeOf0
 v0 := Tryz.zeroValue0
 t3 := Tryz.underlying3
 a3 := Tryz.isAgg3
 z3 := Tryz.sizeOf3
 v3 := Tryz.zeroValue3
 t4 := Tryz.underlying4
 a4 := Tryz.isAgg4
 z4 := Tryz.sizeOf4
 v4 := Tryz.zeroValue4
 t5 := Tryz.underlying5
 a5 := Tryz.isAgg5
 z5 := Tryz.sizeOf5
 v5 := Tryz.zeroValue5
 t9 := Tryz.underlying9
 a9 := Tryz.isAgg9
 z9 := Tryz.sizeOf9
 v9 := Tryz.zeroValue9
 t46 := Tryz.underlying62
 a46 := Tryz.isAgg62
 z46 := Tryz.sizeOf62
 v46 := Tryz.zeroValue62
 t53 := Tryz.underlying124
 a53 := Tryz.isAgg124
 z53 := Tryz.sizeOf124
 v53 := Tryz.zeroValue124
 t212 := Tryz.underlying237
 a212 := Tryz.isAgg237
 z212 := Tryz.sizeOf237
 v212 := Tryz.zeroValue237
 g17 := by kernel_rfl
 i0 := by kernel_rfl
 i3 := by kernel_rfl
 i4 := by kernel_rfl
 i5 := by kernel_rfl
 i9 := by kernel_rfl
 i46 := by kernel_rfl
 i53 := by kernel_rfl
 i212 := by kernel_rfl
 m17 := by kernel_rfl }
open Go.Lib in
theorem Tryz.internal_strconv_numDigits (u : Nat) (h1 : 1 ≤ u) (h2 : u < 18446744073709551616) (w : World) (htab : Lib.TabIs Tryz.prog w "internal/strconv.uint64pow10" .u64 Lib.pow10Tab) :
   Calls Tryz.prog 189 #[.int .u64 u] w fun e w' => e = .returned (.int .i64 (Lib.nDigits u)) ∧ w' = w := Any.internal_strconv_numDigits Tryz.laysM284 u h1 h2 w htab
def Tryz.lays285_ren : Go.Shelf.Ren := ⟨fun | 285 => 190 | n => n, fun | 37 => 66 | 53 => 124 | 3 => 3 | 4 => 4 | 51 => 121 | 9 => 9 | 5 => 5 | 0 => 0 | n => n, fun | n => n⟩
theorem Tryz.lays285 : Go.Proofs.Lays.n285 Tryz.prog Tryz.lays285_ren := {
 mixed := by kernel_rfl
 f285 := Tryz.func190.trans (congrArg some (by kernel_rfl))
 t0 := Tryz.underlying0
 a0 := Tryz.isAgg0
 z0 := Tryz.sizeOf0
 v0 := Tryz.zeroValue0
 t3 := Tryz.underlying3
 a3 := Tryz.isAgg3
 z3 := Tryz.sizeOf3
 v3 := Tryz.zeroValue3
 t4 := Tryz.underlying4
 a4 := Tryz.isAgg4
 z4 := Tryz.sizeOf4
 v4 := Tryz.zeroValue4
 t5 := Tryz.underlying5
 a5 := Tryz.isAgg5
 z5 := Tryz.sizeOf5
 v5 := Tryz.zeroValue5
 t9 := Tryz.underlying9
 a9 := Tryz.isAgg9
 z9 := Tryz.sizeOf9
 v9 := Tryz.zeroValue9
 t37 := Tryz.underlying66
 a37 := Tryz.isAgg66
 z37 := Tryz.sizeOf66
 v37 := Tryz.zeroValue66
 t51 := Tryz.underlying121
 a51 := Tryz.isAgg121
 z51 := Tryz.sizeOf121
 v51 := Tryz.zeroValue121
 t53 := Tryz.underlying124
 a53 := Tryz.isAgg124
 z53 := Tryz.sizeOf124
 v53 := Tryz.zeroValue124 }
open Go.RowKit Go.Sort Go.Lib in
theorem Tryz.internal_strconv_formatBase10 (blk off cap : Nat) (u : Nat) (d : Array UInt8) (w : World) (hH : Holds (fun (b : UInt8) => Value.int .u8 (b.toNat : Int)) w blk off d) (hu : u < 10 ^ d.size) (hu64 : u < 18446744073709551616) (hsz : d.size < 4611686018427387904) :
   Calls Tryz.prog 190 #[.slice (some ⟨blk, off, none⟩) d.size cap, .int .u64 u] w fun e w' =>
     e = .returned (.tuple #[]) ∧ ∃ (n v' : Nat) (dk : Array UInt8), w' = (putRow (fun (b : UInt8) => Value.int .u8 (b.toNat : Int)) w blk off dk).drewN n ∧ FmtInv d.size u 0 v' dk := Any.internal_strconv_formatBase10 Tryz.lays285 blk off cap u d w hH hu hu64 hsz
def Tryz.laysM173_ren : Go.Shelf.Ren := ⟨fun | 173 => 147 | 246 => 169 | 283 => 188 | 284 => 189 | 285 => 190 | 286 => 191 | 129 => 203 | 317 => 202 | 318 => 204 | 319 => 205 | 320 => 206 | 337 => 214 | 338 => 162 | n => n, fun | 2 => 2 | 3 => 3 | 9 => 9 | 4 => 4 | 171 => 218 | 0 => 0 | 53 => 124 | 37 => 66 | 5 => 5 | 173 => 220 | 212 => 237 | 51 => 121 | 20 => 20 | 213 => 238 | 46 => 62 | 232 => 248 | 233 => 214 | n => n, fun | 17 => 5 | 18 => 6 | 19 => 4 | n => n⟩
theorem Tryz.laysM173 : Go.Proofs.LaysM.n173 Tryz.prog Tryz.laysM173_ren := {
 mixed := by kernel_rfl
 f129 := Tryz.func203.trans (congrArg some (by kernel_rfl))
 f173 := Tryz.func147.trans (congrArg some (by kernel_rfl))
 f246 := Tryz.func169.trans (congrArg some (by kernel_rfl))
 f283 := Tryz.func188.trans (congrArg some (by kernel_rfl))
 f284 := Tryz.func189.trans (congrArg some (by kernel_rfl))
 f285 := Tryz.func190.trans (congrArg some (by kernel_rfl))
 f286 := Tryz.func191.trans (congrArg some (by kernel_rfl))
 f317 := Tryz.func202.trans (congrArg some (by kernel_rfl))
 f318 := Tryz.func204.trans (congrArg some (by kernel_rfl))
 f319 := Tryz.func205.trans (congrArg some (by kernel_rfl))
 f320 := Tryz.func206.trans (congrArg some (by kernel_rfl))
 f337 := Tryz.func214.trans (congrArg some (by kernel_rfl))
 f338 := Tryz.func162.trans (congrArg some (by kernel_rfl))
 t0 := Tryz.underlying0
 a0 := Tryz.isAgg0
 z0 := Tryz.sizeOf0
 v0 := Tryz.zeroValue0
 t2 := Tryz.underlying2
 a2 := Tryz.isAgg2
 z2 := Tryz.sizeOf2
 v2 := Tryz.zeroValue2
 t3 := Tryz.underlying3
 a3 := Tryz.isAgg3
 z3 := Tryz.sizeOf3
 v3 := Tryz.zeroValue3
 t4 := Tryz.underlying4
 a4 := Tryz.isAgg4
 z4 := Tryz.sizeOf4
 v4 := Tryz.zeroValue4
 t5 := Tryz.underlying5
 a5 := Tryz.isAgg5
 z5 := Tryz.sizeOf5
 v5 := Tryz.zeroValue5
 t9 := Tryz.underlying9
 a9 := Tryz.isAgg9
 z9 := Tryz.sizeOf9
 v9 := Tryz.zeroValue9
 t20 := Tryz.underlying20
 a20 := Tryz.isAgg20
 z20 := Tryz.sizeOf20
 v20 := Tryz.zeroValue20
 t37 := Tryz.underlying66
 a37 := Tryz.isAgg66
 z37 := Tryz.sizeOf66
 v37 := Tryz.zeroValue66
 t46 := Tryz.underlying62
 a46 := Tryz.isAgg62
 z46 := Tryz.sizeOf62
 v46 := Tryz.zeroValue62
 t51 := Tryz.underlying121
 a51 := Tryz.isAgg121
 z51 := Tryz.sizeOf121
 v51 := Tryz.zeroValue121
 t53 := Tryz.underlying124
 a53 := Tryz.isAgg124
 z53 := Tryz.sizeOf124
 v53 := Tryz.zeroValue124
 t171 := Tryz.underlying218
 a171 := Tryz.isAgg218
 z171 := Tryz.sizeOf218
 v171 := Tryz.zeroValue218
 t173 := Tryz.underlying220
 a173 := Tryz.isAgg220
 z173 := Tryz.sizeOf220
 v173 := Tryz.zeroValue220
 t212 := Tryz.underlying237
 a212 := Tryz.isAgg237
 z212 := Tryz.sizeOf237
 v212 := Tryz.zeroValue237
 t213 := Tryz.underlying238
 a213 := Tryz.isAgg238
 z213 := Tryz.sizeOf238
 t232 := Tryz.underlying248
 a232 := Tryz.isAgg248
 z232 := Tryz.sizeOf248
 v232 := Tryz.zeroValue248
 t233 := Tryz.underlying214
 a233 := Tryz.isAgg214
 z233 := Tryz.sizeOf214
 v233 := Tryz.zeroValue214
 g17 := by kernel_rfl
 g18 := by kernel_rfl
 g19 := by kernel_rfl
 i0 := by kernel_rfl
 i2 := by kernel_rfl
 i3 := by kernel_rfl
 i4 := by kernel_rfl
 i5 := by kernel_rfl
 i9 := by kernel_rfl
 i20 := by kernel_rfl
 i37 := by kernel_rfl
 i46 := by kernel_rfl
 i51 := by kernel_rfl
 i53 := by kernel_rfl
 i171 := by kernel_rfl
 i173 := by kernel_rfl
 i212 := by kernel_rfl
 i232 := by kernel_rfl
 i233 := by kernel_rfl
 m17 := by kernel_rfl
 m18 := by kernel_rfl
 m19 := by kernel_rfl }
open Go.RowKit Go.Sort Go.Lib in
theorem Tryz.strconv_FormatInt_10 (n : Int) (h0 : -9223372036854775808 ≤ n) (h1 : n ≤ 9223372036854775807) (w : World) (htab : Lib.TabIs Tryz.prog w "internal/strconv.uint64pow10" .u64 Lib.pow10Tab) :
   Calls Tryz.prog 147 #[.int .i64 n, .int .i64 10] w fun e w' => e = .returned (.string ⟨(Lib.itoa n).toArray⟩) ∧ ∃ k os, w' = grow (w.drewN k) os := Any.strconv_FormatInt_10 Tryz.laysM173 n h0 h1 w htab
def Tryz.lays219_ren : Go.Shelf.Ren := ⟨fun | 219 => 92 | 217 => 135 | 225 => 136 | 224 => 137 | 267 => 138 | 266 => 165 | 314 => 166 | n => n, fun | 9 => 9 | 3 => 3 | 4 => 4 | 5 => 5 | 46 => 62 | 146 => 122 | 51 => 121 | n => n, fun | 1 => 0 | n => n⟩
theorem Tryz.lays219 : Go.Proofs.Lays.n219 Tryz.prog Tryz.lays219_ren := {
 mixed := by kernel_rfl
 f217 := Tryz.func135.trans (congrArg some (by kernel_rfl))
 f219 := Tryz.func92.trans (congrArg some (by kernel_rfl))
 f224 := Tryz.func137.trans (congrArg some (by kernel_rfl))
 f225 := Tryz.func136.trans (congrArg some (by kernel_rfl))
 f266 := Tryz.func165.trans (congrArg some (by kernel_rfl))
 f267 := Tryz.func138.trans (congrArg some (by kernel_rfl))
 f314 := Tryz.func166.trans (congrArg some (by kernel_rfl))
 t3 := Tryz.underlying3
 a3 := Tryz.isAgg3
 z3 := Tryz.sizeOf3
 v3 := Tryz.zeroValue3
 t4 := Tryz.underlying4
 a4 := Tryz.isAgg4
 z4 := Tryz.sizeOf4
 v4 := Tryz.zeroValue4
 t5 := Tryz.underlying5
 a5 := Tryz.isAgg5
 z5 := Tryz.sizeOf5
 v5 := Tryz.zeroValue5
 t9 := Tryz.underlying9
 a9 := Tryz.isAgg9
 z9 := Tryz.sizeOf9
 v9 := Tryz.zeroValue9
 t46 := Tryz.underlying62
 a46 := Tryz.isAgg62
 z46 := Tryz.sizeOf62
 v46 := Tryz.zeroValue62
 t51 := Tryz.underlying121
 a51 := Tryz.isAgg121
 z51 := Tryz.sizeOf121
 v51 := Tryz.zeroValue121
 t146 := Tryz.underlying122
 a146 := Tryz.isAgg122
 z146 := Tryz.sizeOf122
 v146 := Tryz.zeroValue122
 g1 := by kernel_rfl }
open Go.RowKit Go.Lib in
theorem Tryz.stringslite_Index_one (s : ByteArray) (c : UInt8) (w : World) :
   Calls Tryz.prog 92 #[.string s, .string ⟨#[c]⟩] w fun e w' => e = .returned (.int .i64 (Lib.indexByte s.data.toList c)) ∧ w' = w := Any.stringslite_Index_one Tryz.lays219 s c w
def Tryz.laysM288_ren : Go.Shelf.Ren := ⟨fun | 288 => 178 | 283 => 188 | 284 => 189 | 285 => 190 | 286 => 191 | 129 => 203 | 317 => 202 | 318 => 204 | 319 => 205 | 320 => 206 | 337 => 214 | 338 => 162 | n => n, fun | 37 => 66 | 53 => 124 | 3 => 3 | 4 => 4 | 9 => 9 | 171 => 218 | 0 => 0 | 173 => 220 | 212 => 237 | 51 => 121 | 5 => 5 | 20 => 20 | 213 => 238 | 46 => 62 | 232 => 248 | 233 => 214 | n => n, fun | 17 => 5 | 18 => 6 | 19 => 4 | n => n⟩
theorem Tryz.laysM288 : Go.Proofs.LaysM.n288 Tryz.prog Tryz.laysM288_ren := {
 mixed := by kernel_rfl
 f129 := Tryz.func203.trans (congrArg some (by kernel_rfl))
 f283 := Tryz.func188.trans (congrArg some (by kernel_rfl))
 f284 := Tryz.func189.trans (congrArg some (by kernel_rfl))
 f285 := Tryz.func190.trans (congrArg some (by kernel_rfl))
 f286 := Tryz.func191.trans (congrArg some (by kernel_rfl))
 f288 := Tryz.func178.trans (congrArg some (by kernel_rfl))
 f317 := Tryz.func202.trans (congrArg some (by kernel_rfl))
 f318 := Tryz.func204.trans (congrArg some (by kernel_rfl))
 f319 := Tryz.func205.trans (congrArg some (by kernel_rfl))
 f320 := Tryz.func206.trans (congrArg some (by kernel_rfl))
 f337 := Tryz.func214.trans (congrArg some (by kernel_rfl))
 f338 := Tryz.func162.trans (congrArg some (by kernel_rfl))
 t0 := Tryz.underlying0
 a0 := Tryz.isAgg0
 z0 := Tryz.sizeOf0
 v0 := Tryz.zeroValue0
 t3 := Tryz.underlying3
 a3 := Tryz.isAgg3
 z3 := Tryz.sizeOf3
 v3 := Tryz.zeroValue3
 t4 := Tryz.underlying4
 a4 := Tryz.isAgg4
 z4 := Tryz.sizeOf4
 v4 := Tryz.zeroValue4
 t5 := Tryz.underlying5
 a5 := Tryz.isAgg5
 z5 := Tryz.sizeOf5
 v5 := Tryz.zeroValue5
 t9 := Tryz.underlying9
 a9 := Tryz.isAgg9
 z9 := Tryz.sizeOf9
 v9 := Tryz.zeroValue9
 t20 := Tryz.underlying20
 a20 := Tryz.isAgg20
 z20 := Tryz.sizeOf20
 v20 := Tryz.zeroValue20
 t37 := Tryz.underlying66
 a37 := Tryz.isAgg66
 z37 := Tryz.sizeOf66
 v37 := Tryz.zeroValue66
 t46 := Tryz.underlying62
 a46 := Tryz.isAgg62
 z46 := Tryz.sizeOf62
 v46 := Tryz.zeroValue62
 t51 := Tryz.underlying121
 a51 := Tryz.isAgg121
 z51 := Tryz.sizeOf121
 v51 := Tryz.zeroValue121
 t53 := Tryz.underlying124
 a53 := Tryz.isAgg124
 z53 := Tryz.sizeOf124
 v53 := Tryz.zeroValue124
 t171 := Tryz.underlying218
 a171 := Tryz.isAgg218
 z171 := Tryz.sizeOf218
 v171 := Tryz.zeroValue218
 t173 := Tryz.underlying220
 a173 := Tryz.isAgg220
 z173 := Tryz.sizeOf220
 v173 := Tryz.zeroValue220
 t212 := Tryz.underlying237
 a212 := Tryz.isAgg237
 z212 := Tryz.sizeOf237
 v212 := Tryz.zeroValue237
 t213 := Tryz.underlying238
 a213 := Tryz.isAgg238
 z213 := Tryz.sizeOf238
 t232 := Tryz.underlying248
 a232 := Tryz.isAgg248
 z232 := Tryz.sizeOf248
 v232 := Tryz.zeroValue248
 t233 := Tryz.underlying214
 a233 := Tryz.isAgg214
 z233 := Tryz.sizeOf214
 v233 := Tryz.zeroValue214
 g17 := by kernel_rfl
 g18 := by kernel_rfl
 g19 := by kernel_rfl
 i0 := by kernel_rfl
 i3 := by kernel_rfl
 i4 := by kernel_rfl
 i5 := by kernel_rfl
 i9 := by kernel_rfl
 i20 := by kernel_rfl
 i37 := by kernel_rfl
 i46 := by kernel_rfl
 i51 := by kernel_rfl
 i53 := by kernel_rfl
 i171 := by kernel_rfl
 i173 := by kernel_rfl
 i212 := by kernel_rfl
 i232 := by kernel_rfl
 i233 := by kernel_rfl
 m17 := by kernel_rfl
 m18 := by kernel_rfl
 m19 := by kernel_rfl }
open Go.RowKit Go.Sort Go.Lib in
theorem Tryz.internal_strconv_AppendUint_10 (B n u : Nat) (hu64 : u < 18446744073709551616) (sv : Value) (xs : List Value) (w : World) (hown : w.ownsRow B 5 1 sv n xs) (hBw : B ≤ w.heap.size) (hlim : n + 20 ≤ 140737488355328) (htab : Lib.TabIs Tryz.prog w "internal/strconv.uint64pow10" .u64 Lib.pow10Tab) :
   Calls Tryz.prog 178 #[sv, .int .u64 u, .int .i64 10] w fun e w' => ∃ v', e = .returned v' ∧ w'.ownsRow B 5 1 v' (n + (Lib.decDigits u).length) (xs ++ Lib.byteCells (Lib.decDigits u)) ∧ Below B w w' ∧ Lib.OthersKept 5 none w w' := Any.internal_strconv_AppendUint_10 Tryz.laysM288 B n u hu64 sv xs w hown hBw hlim htab
def Tryz.lays99_ren : Go.Shelf.Ren := ⟨fun | 99 => 26 | 206 => 66 | n => n, fun | 9 => 9 | 4 => 4 | 3 => 3 | n => n, fun | n => n⟩
theorem Tryz.lays99 : Go.Proofs.Lays.n99 Tryz.prog Tryz.lays99_ren := {
 mixed := by kernel_rfl
 f99 := Tryz.func26.trans (congrArg some (by kernel_rfl))
 f206 := Tryz.func66.trans (congrArg some (by kernel_rfl))
 t3 := Tryz.underlying3
 a3 := Tryz.isAgg3
 z3 := Tryz.sizeOf3
 v3 := Tryz.zeroValue3
 t4 := Tryz.underlying4
 a4 := Tryz.isAgg4
 z4 := Tryz.sizeOf4
 v4 := Tryz.zeroValue4
 t9 := Tryz.underlying9
 a9 := Tryz.isAgg9
 z9 := Tryz.sizeOf9
 v9 := Tryz.zeroValue9 }
open Go.RowKit Go.Lib in
theorem Tryz.strings_HasPrefix (s p : ByteArray) (w : World) :
   Calls Tryz.prog 26 #[.string s, .string p] w fun e w' => e = .returned (.bool (Lib.hasPrefix s.data.toList p.data.toList)) ∧ w' = w := Any.strings_HasPrefix Tryz.lays99 s p w
def Tryz.lays264_ren : Go.Shelf.Ren := ⟨fun | 264 => 94 | n => n, fun | 53 => 124 | 46 => 62 | n => n, fun | n => n⟩
theorem Tryz.lays264 : Go.Proofs.Lays.n264 Tryz.prog Tryz.lays264_ren := {
 mixed := by kernel_rfl
 f264 := Tryz.func94.trans (congrArg some (by kernel_rfl))
 t46 := Tryz.underlying62
 a46 := Tryz.isAgg62
 z46 := Tryz.sizeOf62
 v46 := Tryz.zeroValue62
 t53 := Tryz.underlying124
 a53 := Tryz.isAgg124
 z53 := Tryz.sizeOf124
 v53 := Tryz.zeroValue124 }
open Go.RowKit Go.Lib in
theorem Tryz.bits_Mul64 (x y : Nat) (hx : x < 18446744073709551616) (hy : y < 18446744073709551616) (w : World) :
   Calls Tryz.prog 94 #[.int .u64 x, .int .u64 y] w fun e w' => e = .returned (.tuple #[.int .u64 ((x * y / 18446744073709551616 : Nat) : Int), .int .u64 ((x * y % 18446744073709551616 : Nat) : Int)]) ∧ w' = w := Any.bits_Mul64 Tryz.lays264 x y hx hy w
def Tryz.lays105_ren : Go.Shelf.Ren := ⟨fun | 105 => 19 | 212 => 46 | 99 => 26 | 165 => 47 | 166 => 48 | 170 => 49 | 169 => 50 | 263 => 93 | 264 => 94 | 206 => 66 | 240 => 95 | 241 => 96 | 276 => 139 | 277 => 140 | n => n, fun | 9 => 9 | 3 => 3 | 4 => 4 | 20 => 20 | 0 => 0 | 46 => 62 | 109 => 63 | 5 => 5 | 72 => 68 | 76 => 72 | 51 => 121 | 146 => 122 | 53 => 124 | 148 => 125 | 70 => 65 | 37 => 66 | 75 => 71 | 127 => 127 | 164 => 168 | 80 => 75 | n => n, fun | n => n⟩
theorem Tryz.lays105 : Go.Proofs.Lays.n105 Tryz.prog Tryz.lays105_ren := {
 mixed := by kernel_rfl
 f99 := Tryz.func26.trans (congrArg some (by kernel_rfl))
 f105 := Tryz.func19.trans (congrArg some (by kernel_rfl))
 f165 := Tryz.func47.trans (congrArg some (by kernel_rfl))
 f166 := Tryz.func48.trans (congrArg some (by kernel_rfl))
 f169 := Tryz.func50.trans (congrArg some (by kernel_rfl))
 f170 := Tryz.func49.trans (congrArg some (by kernel_rfl))
 f206 := Tryz.func66.trans (congrArg some (by kernel_rfl))
 f212 := Tryz.func46.trans (congrArg some (by kernel_rfl))
 f240 := Tryz.func95.trans (congrArg some (by kernel_rfl))
 f241 := Tryz.func96.trans (congrArg some (by kernel_rfl))
 f263 := Tryz.func93.trans (congrArg some (by kernel_rfl))
 f264 := Tryz.func94.trans (congrArg some (by kernel_rfl))
 f276 := Tryz.func139.trans (congrArg some (by kernel_rfl))
 f277 := Tryz.func140.trans (congrArg some (by kernel_rfl))
 t0 := Tryz.underlying0
 a0 := Tryz.isAgg0
 z0 := Tryz.sizeOf0
 v0 := Tryz.zeroValue0
 t3 := Tryz.underlying3
 a3 := Tryz.isAgg3
 z3 := Tryz.sizeOf3
 v3 := Tryz.zeroValue3
 t4 := Tryz.underlying4
 a4 := Tryz.isAgg4
 z4 := Tryz.sizeOf4
 v4 := Tryz.zeroValue4
 t5 := Tryz.underlying5
 a5 := Tryz.isAgg5
 z5 := Tryz.sizeOf5
 v5 := Tryz.zeroValue5
 t9 := Tryz.underlying9
 a9 := Tryz.isAgg9
 z9 := Tryz.sizeOf9
 v9 := Tryz.zeroValue9
 t20 := Tryz.underlying20
 a20 := Tryz.isAgg20
 z20 := Tryz.sizeOf20
 v20 := Tryz.zeroValue20
 t37 := Tryz.underlying66
 a37 := Tryz.isAgg66
 z37 := Tryz.sizeOf66
 v37 := Tryz.zeroValue66
 t46 := Tryz.underlying62
 a46 := Tryz.isAgg62
 z46 := Tryz.sizeOf62
 v46 := Tryz.zeroValue62
 t51 := Tryz.underlying121
 a51 := Tryz.isAgg121
 z51 := Tryz.sizeOf121
 v51 := Tryz.zeroValue121
 t53 := Tryz.underlying124
 a53 := Tryz.isAgg124
 z53 := Tryz.sizeOf124
 v53 := Tryz.zeroValue124
 t70 := Tryz.underlying65
 a70 := Tryz.isAgg65
 z70 := Tryz.sizeOf65
 v70 := Tryz.zeroValue65
 t72 := Tryz.underlying68
 a72 := Tryz.isAgg68
 z72 := Tryz.sizeOf68
 v72 := Tryz.zeroValue68
 t75 := Tryz.underlying71
 a75 := Tryz.isAgg71
 z75 := Tryz.sizeOf71
 v75 := Tryz.zeroValue71
 t76 := Tryz.underlying72
 a76 := Tryz.isAgg72
 z76 := Tryz.sizeOf72
 v76 := Tryz.zeroValue72
 t109 := Tryz.underlying63
 a109 := Tryz.isAgg63
 z109 := Tryz.sizeOf63
 v109 := Tryz.zeroValue63
 t127 := Tryz.underlying127
 a127 := Tryz.isAgg127
 z127 := Tryz.sizeOf127
 v127 := Tryz.zeroValue127
 t146 := Tryz.underlying122
 a146 := Tryz.isAgg122
 z146 := Tryz.sizeOf122
 v146 := Tryz.zeroValue122
 t148 := Tryz.underlying125
 a148 := Tryz.isAgg125
 z148 := Tryz.sizeOf125
 v148 := Tryz.zeroValue125
 t164 := Tryz.underlying168
 a164 := Tryz.isAgg168
 z164 := Tryz.sizeOf168
 v164 := Tryz.zeroValue168 }
theorem Tryz.Builder_Extra_105 : Builder.Extra Tryz.prog Tryz.lays105_ren := {
 sizeBuilder := by kernel_rfl
 liesBuilder := by kernel_rfl
 t5 := Tryz.underlying5
 a5 := Tryz.isAgg5
 z5 := Tryz.sizeOf5
 v5 := Tryz.zeroValue5
 infoByte := by kernel_rfl
 cellsByte := by kernel_rfl
 sizeByte := by kernel_rfl
 neB5 := by decide }
open Go.RowKit Go.Lib in
theorem Tryz.strings_Repeat_main (s : ByteArray) (c : Nat) (w : World) (hc2 : 2 ≤ c) (hc : c ≤ 9223372036854775807) (hlen : s.size * c ≤ 140737488355328) (h0 : 0 < s.size) :
   Calls Tryz.prog 19 #[.string s, .int .i64 c] w fun e w' => e = .returned (.string ⟨(Lib.repeatL s.data.toList c).toArray⟩) ∧ Below w.heap.size w w' := Any.strings_Repeat_main Tryz.lays105 Tryz.Builder_Extra_105 s c w hc2 hc hlen h0
open Go.RowKit Go.Lib in
theorem Tryz.strings_Repeat_zero (s : ByteArray) (w : World) :
   Calls Tryz.prog 19 #[.string s, .int .i64 0] w fun e w' => e = .returned (.string ⟨#[]⟩) ∧ w' = w := Any.strings_Repeat_zero Tryz.lays105 s w
open Go.RowKit Go.Lib in
theorem Tryz.strings_Repeat_one (s : ByteArray) (w : World) :
   Calls Tryz.prog 19 #[.string s, .int .i64 1] w fun e w' => e = .returned (.string s) ∧ w' = w := Any.strings_Repeat_one Tryz.lays105 s w
end Go.Proofs
namespace Go.Proofs.YtkjhaengllpaoaaGreatDoor
theorem fdiv_unique {a b q r : Int} (h : b * q + r = a) (hb : b ≠ 0) (hp : 0 < b → 0 ≤ r ∧ r < b) (hn : b < 0 → b < r ∧ r ≤ 0) : a.fdiv b = q ∧ a.fmod b = r := by
 have h1 : r.fdiv b = 0 := by
   by_cases h0 : 0 < b
   · exact Int.fdiv_eq_zero_of_lt (hp h0).1 (hp h0).2
   · have h2 := hn (by omega)
     rw [← Int.neg_fdiv_neg]
     exact Int.fdiv_eq_zero_of_lt (by omega) (by omega)
 constructor
 · rw [← h, Int.mul_add_fdiv_left (H := hb), h1]; omega
 · rw [← h, Int.mul_add_fmod_self_left, Int.fmod_def, h1, Int.mul_zero]; omega
theorem tmod_lt (a b : Int) (hb : b ≠ 0) : (a.tmod b).natAbs < b.natAbs := by
 rw [Int.natAbs_tmod]; exact Nat.mod_lt _ (by omega)
theorem fdiv_same {a b : Int} (hb : b ≠ 0) (h : a.tmod b = 0 ∨ ((a.tmod b < 0) ↔ (b < 0))) : a.fdiv b = a.tdiv b ∧ a.fmod b = a.tmod b := by
 have h1 := tmod_lt a b hb
 refine fdiv_unique (Int.mul_tdiv_add_tmod a b) hb (fun h0 => ?_) (fun h0 => ?_) <;> omega
theorem fdiv_other {a b : Int} (hb : b ≠ 0) (h : a.tmod b ≠ 0) (h' : ¬ ((a.tmod b < 0) ↔ (b < 0))) : a.fdiv b = a.tdiv b - 1 ∧ a.fmod b = a.tmod b + b := by
 have h1 := tmod_lt a b hb
 refine fdiv_unique ?_ hb (fun h0 => ?_) (fun h0 => ?_)
 · have := Int.mul_tdiv_add_tmod a b
   rw [Int.mul_sub, Int.mul_one]; omega
 · omega
 · omega
def IsRoot (n r : Nat) : Prop := r * r ≤ n ∧ n < (r + 1) * (r + 1)
theorem IsRoot.unique {n r s : Nat} (h : IsRoot n r) (h' : IsRoot n s) : r = s := by
 have h1 : r < s + 1 := by
   apply Decidable.byContradiction; intro hc
   have := Nat.mul_self_le_mul_self (show s + 1 ≤ r by omega)
   exact absurd (Nat.lt_of_le_of_lt h.1 h'.2) (by omega)
 have h2 : s < r + 1 := by
   apply Decidable.byContradiction; intro hc
   have := Nat.mul_self_le_mul_self (show r + 1 ≤ s by omega)
   exact absurd (Nat.lt_of_le_of_lt h'.1 h.2) (by omega)
 omega
end Go.Proofs.YtkjhaengllpaoaaGreatDoor
namespace Go.Proofs.YtkjhaengllpaoaaGreatDoor
open Go.RowKit
def Tab (w : World) : Prop := Lib.TabIs Tryz.prog w "internal/strconv.uint64pow10" .u64 Lib.pow10Tab
theorem gTab : Tryz.prog.globalNamed "internal/strconv.uint64pow10" = some 5 := by kernel_rfl
theorem Tab.below {w w' : World} {B : Nat} (h : Tab w) (hb : Below B w w') (hB : 5 < B) : Tab w' :=
 var?_below hb gTab hB h
theorem Tab.lt {w : World} (h : Tab w) : 5 < w.heap.size := by
 unfold Tab Lib.TabIs World.var? at h
 simp only [gTab, Option.bind_some] at h
 by_cases hlt : 5 < w.heap.size
 · exact hlt
 · rw [Array.getElem?_eq_none (by omega)] at h; simp at h
theorem Tab.next {w w' : World} (h : Tab w) (hb : Below w.heap.size w w') : Tab w' := h.below hb h.lt
def chk2 (a b : List UInt8) : Int := if chk a = 0 then chk b else chk a
theorem checkBoth_any (a b : ByteArray) (w : World) (ha : a.size ≤ maxLen) (hb : b.size ≤ maxLen) :
   Calls Tryz.prog 107 #[.string a, .string b] w fun e w' => e = .returned (.int .i64 (chk2 a.data.toList b.data.toList)) ∧ w = w' := by
 generalize hx : chk a.data.toList = x
 have HX := Lib.hid hx; clear hx
 by_cases h0 : (x == 0) = true
 · have hn : (x != 0) = false := by simpa using h0
   go_enter Tryz.func107, Tryz.ntmps107
   go_wp2_with fail
   refine (check_any a _ ha).mono ?_
   rw [HX.out]; rintro e w' ⟨rfl, rfl⟩
   go_wp2_with fail
   refine (check_any b _ hb).mono ?_
   rintro e w' ⟨rfl, rfl⟩
   go_wp2
   go_ret
   exact ⟨ret_int (by unfold chk2; rw [HX.out, if_pos (by simpa using h0)]), rfl⟩
 · have hn : (x != 0) = true := by simpa using h0
   go_enter Tryz.func107, Tryz.ntmps107
   go_wp2_with fail
   refine (check_any a _ ha).mono ?_
   rw [HX.out]; rintro e w' ⟨rfl, rfl⟩
   go_wp2
   go_ret
   exact ⟨ret_int (by unfold chk2; rw [HX.out, if_neg (by simpa using h0)]), rfl⟩
theorem isShort_any (s : ByteArray) (w : World) (_hs : s.size ≤ maxLen) :
   Calls Tryz.prog 108 #[.string s] w fun e w' => e = .returned (.bool (decide ((s.size : Int) ≤ 18))) ∧ w = w' := by
 go_enter Tryz.func108, Tryz.ntmps108
 go_wp2
 go_ret
 exact ⟨rfl, rfl⟩
theorem chk_dig {l : List UInt8} (h : chk l = 0) : ∀ c ∈ szL l, isDig c = true := by
 by_cases h1 : (szL l).all isDig = true
 · exact List.all_eq_true.1 h1
 · rw [chk_bad (by simpa using h1)] at h; cases h
theorem natOf_18 (l : List UInt8) (h : ∀ c ∈ l, isDig c = true) (hl : l.length ≤ 18) : natOf l < 1000000000000000000 := by
 have := natOf_take_18 l h l.length hl
 rwa [List.take_length] at this
theorem valOf_szL (l : List UInt8) : valOf l = if isNeg l = true then -(natOf (szL l) : Int) else (natOf (szL l) : Int) := by
 unfold valOf szL; split <;> simp_all
theorem szL_length (l : List UInt8) : (szL l).length ≤ l.length := by
 unfold szL; split
 · rw [List.length_tail]; omega
 · exact Nat.le_refl _
theorem valOf_short {l : List UInt8} (h : chk l = 0) (hl : l.length ≤ 18) : -1000000000000000000 < valOf l ∧ valOf l < 1000000000000000000 := by
 have h1 := natOf_18 (szL l) (chk_dig h) (Nat.le_trans (szL_length l) hl)
 rw [valOf_szL]; split <;> omega
theorem machine_any (s : ByteArray) (w : World) (hs : s.size ≤ 18) (hc : chk s.data.toList = 0) :
   Calls Tryz.prog 110 #[.string s] w fun e w' => e = .returned (.int .i64 (valOf s.data.toList)) ∧ w = w' := by
 have hd := Lib.hid (chk_dig hc)
 clear hc
 have h1 := natOf_18 (szL s.data.toList) hd.out (Nat.le_trans (szL_length _) hs)
 have hv := Lib.hid (valOf_szL s.data.toList)
 by_cases h : isNeg s.data.toList = true
 · have h0 := isNeg_size h
   have hz : szB s = s.extract 1 s.size := by unfold szB; rw [if_pos h]
   have HZ := Lib.hid (szB_data s); have HZ2 := Lib.hid hz; clear hz
   have hz3 : (s.extract 1 s.size).size ≤ 18 := by rw [ByteArray.size_extract]; omega
   have c := value_any (s.extract 1 s.size) w hz3 (by rw [← HZ2.out, HZ.out]; exact hd.out)
   rw [← HZ2.out, HZ.out] at c
   rw [HZ2.out] at c
   generalize natOf (szL s.data.toList) = n at *
   go_enter Tryz.func110, Tryz.ntmps110
   go_wp2_with fail
   refine (isNegative_any s _).mono ?_; rw [h]; rintro e w' ⟨rfl, rfl⟩
   go_wp2_with fail
   refine c.mono ?_; clear c; rintro e w' ⟨rfl, rfl⟩
   go_wp2
   go_ret
   exact ⟨ret_int (by rw [hv.out, if_pos h]), rfl⟩
 · have h' : isNeg s.data.toList = false := by simpa using h
   have hz : szB s = s := by unfold szB; rw [if_neg h]
   have HZ := Lib.hid (szB_data s); have HZ2 := Lib.hid hz; clear hz
   have c := value_any s w hs (by rw [← HZ2.out, HZ.out]; exact hd.out)
   rw [← HZ2.out, HZ.out] at c
   rw [HZ2.out] at c
   generalize natOf (szL s.data.toList) = n at *
   go_enter Tryz.func110, Tryz.ntmps110
   go_wp2_with fail
   refine (isNegative_any s _).mono ?_; rw [h']; rintro e w' ⟨rfl, rfl⟩
   go_wp2_with fail
   refine c.mono ?_; clear c; rintro e w' ⟨rfl, rfl⟩
   go_wp2
   go_ret
   exact ⟨ret_int (by rw [hv.out, if_neg h]), rfl⟩
def strB (z : Int) : ByteArray := ⟨(Lib.itoa z).toArray⟩
theorem strB_data (z : Int) : (strB z).data.toList = Lib.itoa z := by unfold strB; simp
theorem ofMachine_any (z : Int) (w : World) (h0 : -9223372036854775808 ≤ z) (h1 : z ≤ 9223372036854775807) (ht : Tab w) :
   Calls Tryz.prog 111 #[.int .i64 z] w fun e w' => e = .returned (.string (strB z)) ∧ Below w.heap.size w w' := by
 have c := Tryz.strconv_FormatInt_10 z h0 h1 w ht
 clear h0 h1
 go_enter Tryz.func111, Tryz.ntmps111
 go_wp2_with fail
 refine c.mono ?_
 clear c
 rintro e w' ⟨rfl, k, os, rfl⟩
 go_wp2
 go_ret
 exact ⟨rfl, Lib.below_grow _ _ (Nat.le_refl _) _ _⟩
theorem ret_two {k1 k2 : IntKind} {a b c d : Int} (h : a = b) (h2 : c = d) : Ending.returned (.tuple #[.int k1 a, .int k2 c]) = .returned (.tuple #[.int k1 b, .int k2 d]) := by rw [h, h2]
theorem tdiv_bd (a b : Int) (ha : -1000000000000000000 < a) (ha' : a < 1000000000000000000) : -1000000000000000000 < a.tdiv b ∧ a.tdiv b < 1000000000000000000 := by
 have h := Int.natAbs_tdiv_le_natAbs a b
 omega
theorem tmod_bd (a b : Int) (ha : -1000000000000000000 < a) (ha' : a < 1000000000000000000) : -1000000000000000000 < a.tmod b ∧ a.tmod b < 1000000000000000000 := by
 have h := Int.natAbs_tmod a b
 have h2 := Nat.mod_le a.natAbs b.natAbs
 omega
theorem divideMachine_any (a b : Int) (w : World) (ha : -1000000000000000000 < a) (ha' : a < 1000000000000000000) (hb : -1000000000000000000 < b) (hb' : b < 1000000000000000000) (h0 : b ≠ 0) :
   Calls Tryz.prog 109 #[.int .i64 a, .int .i64 b] w fun e w' => e = .returned (.tuple #[.int .i64 (a.fdiv b), .int .i64 (a.fmod b)]) ∧ ∃ n, w' = w.drewN n := by
 have hq := tdiv_bd a b ha ha'
 have hr := tmod_bd a b ha ha'
 have hz : (b == 0) = false := by simpa using h0
 have e1 := Lib.hid (fun h => @fdiv_same a b h0 h)
 have e2 := Lib.hid (fun h h' => @fdiv_other a b h0 h h')
 go_enter Tryz.func109, Tryz.ntmps109
 go_wp2
 go_quiet (fail)
 generalize a.tdiv b = q at *
 generalize a.tmod b = r at *
 by_cases c0 : r = 0
 · have c1 : (r != 0) = false := by simpa using c0
   clear c0
   go_wp2
   go_returns
   obtain ⟨f1, f2⟩ := e1.out (.inl (by simpa using c1))
   exact ⟨ret_two f1.symm f2.symm, _, rfl⟩
 · have c1 : (r != 0) = true := by simpa using c0
   clear c0
   by_cases c2 : r < 0 <;> by_cases c3 : b < 0
   all_goals
     go_wp2
     go_returns
     first
     | (obtain ⟨f1, f2⟩ := e1.out (.inr (by omega))
        exact ⟨ret_two f1.symm f2.symm, _, rfl⟩)
     | (obtain ⟨f1, f2⟩ := e2.out (by simpa using c1) (by omega)
        exact ⟨ret_two f1.symm f2.symm, _, rfl⟩)
theorem gcdMachine_any (a b : Nat) (w : World) (ha : a < 18446744073709551616) (hb : b < 18446744073709551616) :
   Calls Tryz.prog 184 #[.int .u64 a, .int .u64 b] w fun e w' => e = .returned (.int .u64 (Nat.gcd a b : Nat)) ∧ ∃ n, w' = w.drewN n := by
 go_enter Tryz.func184, Tryz.ntmps184
 go_wp2
 go_loopw [0, 1] (fun x y wr => ∃ a' b' : Nat, a' < 18446744073709551616 ∧ b' < 18446744073709551616 ∧ x = .int .u64 a' ∧ y = .int .u64 b' ∧ Hid (Nat.gcd a' b' = Nat.gcd a b) ∧ ∃ n, wr = w.drewN n) (fun _ y _ => (intOf y).toNat)
 case atStart => exact ⟨a, b, ha, hb, rfl, rfl, rfl, 0, rfl⟩
 case round =>
   obtain ⟨a', b', ha', hb', rfl, rfl, hg, m, rfl⟩ := hrel
   clear ha hb
   by_cases h0 : b' = 0
   · subst h0
     go_wp2
     go_ret
     exact ⟨ret_int (by have := hg.out; rw [Nat.gcd_zero_right] at this; rw [this]), m, rfl⟩
   · have hne : ((b' : Int) != 0) = true := by simpa using h0
     have hne2 : ((b' : Int) == 0) = false := by simpa using h0
     have hlt : a' % b' < b' := Nat.mod_lt _ (by omega)
     have hcast : ((a' % b' : Nat) : Int) = (a' : Int) % (b' : Int) := Int.natCast_emod _ _
     have HC := Lib.hid hcast; clear hcast
     have hg2 : Hid (Nat.gcd b' (a' % b') = Nat.gcd a b) := by
       show Nat.gcd b' (a' % b') = Nat.gcd a b
       rw [← hg.out, Nat.gcd_comm a' b', Nat.gcd_rec b' a', Nat.gcd_comm]
     clear hg h0
     go_wp2
     go_quiet (fail)
     go_wp2
     go_roundw
     case rel => exact ⟨b', a' % b', hb', by omega, rfl, by rw [HC.out], hg2, _, World.drewN_drewN _ _ _⟩
     case measure => simp [intOf]; omega
end Go.Proofs.YtkjhaengllpaoaaGreatDoor
