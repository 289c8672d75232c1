/- Parts of the proof of the text YtmafghdgmdbpnaaGreatDoorQYH6. -/
import Derived.Shelf.Strconv.Atoi
import Derived.Shelf.Strconv.AtoiErrFast
import Derived.Shelf.Strconv.ParseIntEmpty
import Derived.Shelf.Strconv.AtoiFail
import Derived.Shelf.Strconv.Clone
import Derived.Shelf.Strconv.SyntaxError
import Derived.Shelf.LaysC
import Derived.Shelf.Strconv.ToError
import Derived.Shelf.Strconv.AtoiErr
import Derived.Shelf.Strconv.ErrVar
import Derived.Shelf.Strconv.Lower
import Derived.Shelf.Strconv.ParseUint10
import Derived.Shelf.Strconv.ParseUint10Empty
import Derived.Shelf.Strconv.ParseUint10Any
import Derived.Shelf.Strconv.ParseInt10
import Derived.Shelf.Strconv.AtoiLong
import Derived.Shelf.Strconv.AtoiInnerAll
import Derived.Shelf.Strconv.RangeError
import Derived.Shelf.Strconv.ToErrorRange
import Derived.Shelf.Strconv.AtoiAll
import Derived.Shelf.Strconv.ErrVarAll
import Derived.Ground.Names2Prog
import Derived.Shelf.Slices.SearchI
import Derived.Lib.AtoiAllCases
import Derived.Lib.SmallJoins
import Derived.RangeFuncNested
import Derived.RangeFuncBound
import Derived.RangeFuncCalls
import Derived.RangeFuncLeaves
import Derived.RangeFuncBox
import Derived.Shelf.Abstract
import Derived.OwnWalkIn
import Derived.TacticsInMore
import Derived.LoopNIn
import Derived.LoopIn
import Derived.Maps.AppendAt
import Derived.SliceStrings
import Derived.SizedLaws
import Derived.Carry
import Derived.RowKitTokens
import Derived.Test.YtmafghdgmdbpnaaGreatDoorQY1
import Derived.Test.YtmafghdgmdbpnaaGreatDoorQY2
import Derived.Test.YtmafghdgmdbpnaaGreatDoorQY30
set_option linter.all false
set_option maxRecDepth 100000
set_option maxHeartbeats 8000000
namespace Go.Proofs.YtmafghdgmdbpnaaGreatDoor
open Go.RowKit
def I64 (z : Int) : Prop := -9223372036854775808 ≤ z ∧ z ≤ 9223372036854775807
theorem I64.short {z : Int} (h : I64 z) : short z :=
 Nat.lt_of_le_of_lt (show z.natAbs ≤ 9223372036854775808 by unfold I64 at h; omega) (Nat.lt_of_lt_of_le (by decide : 9223372036854775808 < tenTo 19) (tenTo_mono (by decide : 19 ≤ 300)))
theorem Of_zero (n : Int) (w : World) : Calls Tryz.prog 26 #[.int .i64 n, .int .i64 0] w fun e W' => e = .returned (.tuple #[.string ⟨#[]⟩, .int .i64 12]) ∧ Below w.heap.size w W' := by
 go_enter Tryz.func26, Tryz.ntmps26
 go_wp2
 go_ret2
 exact ⟨rfl, Below.refl _ _⟩
theorem Of_q (n d : Int) (w : World) (hn : I64 n) (hd : I64 d) (h0 : d ≠ 0) (ht : Tab w) (ht2 : Tab64 w) :
   Calls Tryz.prog 26 #[.int .i64 n, .int .i64 d] w fun e W' => e = .returned (.tuple #[.string (strQ (Rat.divInt n d)), .int .i64 0]) ∧ Below w.heap.size w W' := by
 have c1 := fun W (h : Below w.heap.size w W) => lowestM_any n d W hn.1 hn.2 hd.1 hd.2 h0 (ht.next h) (TabQ_next ht2 h)
 have c2 := fun W (h : Below w.heap.size w W) => Itoa_any n W hn.1 hn.2 (ht.next h)
 have c3 := fun W (h : Below w.heap.size w W) => Itoa_any d W hd.1 hd.2 (ht.next h)
 have c4 : CqB w 76 #[.agg #[.string (strB n), .int .i64 0, .string (strB d), .int .i64 0]] (.tuple #[.string (strQ (Rat.divInt n d)), .int .i64 0]) := fun W h =>
   lowestL_any (some n) (some d) W (some_wf hn.short) (some_wf hd.short) (fun e => h0 (Option.some.inj e)) (ht.next h)
 have n0 : (d == 0) = false := by rw [beq_eq_false_iff_ne]; exact h0
 have hR : lowRE n d = 0 → lowR n d = strQ (Rat.divInt n d) := fun h => lowR_ne (lowRE_ne h).1 (lowRE_ne h).2
 by_cases he : lowRE n d = 0
 · rw [he, hR he] at c1
   have C := Lib.hid c1
   clear c1 c2 c3 c4 ht ht2 hn hd h0 hR he
   generalize strQ (Rat.divInt n d) = r at *
   go_enter Tryz.func26, Tryz.ntmps26
   go_wp2_with fail
   refine (C.out _ (Below.refl _ _)).mono ?_
   rintro e w1 ⟨rfl, b⟩
   have H1 := Lib.hid b; clear b
   go_wp2
   go_ret2
   exact ⟨rfl, H1.out⟩
 · obtain ⟨m1, m2⟩ := bool_ne he
   have C := Lib.hid (And.intro c1 (And.intro c2 (And.intro c3 c4)))
   clear c1 c2 c3 c4 ht ht2 hn hd h0 hR he
   generalize lowRE n d = e1 at *
   generalize lowR n d = r1 at *
   generalize strQ (Rat.divInt n d) = r at *
   generalize strB n = sn at *
   generalize strB d = sd at *
   go_enter Tryz.func26, Tryz.ntmps26
   go_wp2_with fail
   refine (C.out.1 _ (Below.refl _ _)).mono ?_
   rintro e w1 ⟨rfl, b⟩
   have H1 := Lib.hid b; clear b
   go_wp2_with fail
   refine (C.out.2.1 _ H1.out).mono ?_
   rintro e w2 ⟨rfl, b⟩
   have H2 := Lib.hid (H1.out.trans (b.mono H1.out.size)); clear b H1
   go_wp2_with fail
   refine (C.out.2.2.1 _ H2.out).mono ?_
   rintro e w3 ⟨rfl, b⟩
   have H3 := Lib.hid (H2.out.trans (b.mono H2.out.size)); clear b H2
   go_wp2_with fail
   refine (C.out.2.2.2 _ H3.out).mono ?_
   rintro e w4 ⟨rfl, b⟩
   have H4 := Lib.hid (H3.out.trans (b.mono H3.out.size)); clear b H3
   go_wp2
   go_ret2
   exact ⟨rfl, H4.out⟩
end Go.Proofs.YtmafghdgmdbpnaaGreatDoor
namespace Go.Proofs
open Go.Shelf
def Tryz.laysC172_ren : Go.Shelf.Ren := ⟨fun | 172 => 84 | 244 => 122 | 245 => 123 | 247 => 151 | 279 => 152 | 280 => 153 | 281 => 154 | 282 => 155 | 287 => 173 | 316 => 174 | 171 => 77 | 205 => 175 | 321 => 195 | 322 => 196 | 243 => 110 | 246 => 139 | 283 => 158 | 284 => 159 | 285 => 160 | 286 => 161 | 129 => 181 | 317 => 180 | 318 => 182 | 319 => 183 | 320 => 184 | 337 => 200 | 338 => 132 | n => n, fun | 9 => 9 | 3 => 3 | 75 => 105 | 76 => 106 | 4 => 4 | 5 => 5 | 167 => 180 | 37 => 155 | 0 => 0 | 85 => 181 | 2 => 2 | 168 => 183 | 53 => 162 | 175 => 205 | 46 => 187 | 210 => 208 | 127 => 230 | 145 => 233 | 143 => 231 | 21 => 21 | 171 => 189 | 173 => 191 | 212 => 215 | 51 => 216 | 20 => 20 | 213 => 217 | 232 => 244 | 233 => 186 | 80 => 245 | n => n, fun | 15 => 1 | 16 => 2 | 17 => 3 | 18 => 5 | 19 => 0 | n => n⟩
theorem Tryz.laysC172 : Go.Proofs.LaysC.n172 Tryz.prog Tryz.laysC172_ren := {
 mixed := by kernel_rfl
 f129 := Tryz.func181.trans (congrArg some (by kernel_rfl))
 f171 := Tryz.func77.trans (congrArg some (by kernel_rfl))
 f172 := Tryz.func84.trans (congrArg some (by kernel_rfl))
 f205 := Tryz.func175.trans (congrArg some (by kernel_rfl))
 f243 := Tryz.func110.trans (congrArg some (by kernel_rfl))
 f244 := Tryz.func122.trans (congrArg some (by kernel_rfl))
 f245 := Tryz.func123.trans (congrArg some (by kernel_rfl))
 f246 := Tryz.func139.trans (congrArg some (by kernel_rfl))
 f247 := Tryz.func151.trans (congrArg some (by kernel_rfl))
 f279 := Tryz.func152.trans (congrArg some (by kernel_rfl))
 f280 := Tryz.func153.trans (congrArg some (by kernel_rfl))
 f281 := Tryz.func154.trans (congrArg some (by kernel_rfl))
 f282 := Tryz.func155.trans (congrArg some (by kernel_rfl))
 f283 := Tryz.func158.trans (congrArg some (by kernel_rfl))
 f284 := Tryz.func159.trans (congrArg some (by kernel_rfl))
 f285 := Tryz.func160.trans (congrArg some (by kernel_rfl))
 f286 := Tryz.func161.trans (congrArg some (by kernel_rfl))
 f287 := Tryz.func173.trans (congrArg some (by kernel_rfl))
 f316 := Tryz.func174.trans (congrArg some (by kernel_rfl))
 f317 := Tryz.func180.trans (congrArg some (by kernel_rfl))
 f318 := Tryz.func182.trans (congrArg some (by kernel_rfl))
 f319 := Tryz.func183.trans (congrArg some (by kernel_rfl))
 f320 := Tryz.func184.trans (congrArg some (by kernel_rfl))
 f321 := Tryz.func195.trans (congrArg some (by kernel_rfl))
 f322 := Tryz.func196.trans (congrArg some (by kernel_rfl))
 f337 := Tryz.func200.trans (congrArg some (by kernel_rfl))
 f338 := Tryz.func132.trans (congrArg some (by kernel_rfl))
 t0 := Tryz.underlying0
 a0 := Tryz.isAgg0
 z0 := Tryz.sizeOf0
 v0 := Tryz.zeroValue0
 t2 := Tryz.underlying2
 a2 := Tryz.isAgg2
 z2 := Tryz.sizeOf2
 v2 := Tryz.zeroValue2
 t3 := Tryz.underlying3
 a3 := Tryz.isAgg3
 z3 := Tryz.sizeOf3
 v3 := Tryz.zeroValue3
 t4 := Tryz.underlying4
 a4 := Tryz.isAgg4
 z4 := Tryz.sizeOf4
 v4 := Tryz.zeroValue4
 t5 := Tryz.underlying5
 a5 := Tryz.isAgg5
 z5 := Tryz.sizeOf5
 v5 := Tryz.zeroValue5
 t9 := Tryz.underlying9
 a9 := Tryz.isAgg9
 z9 := Tryz.sizeOf9
 v9 := Tryz.zeroValue9
 t20 := Tryz.underlying20
 a20 := Tryz.isAgg20
 z20 := Tryz.sizeOf20
 v20 := Tryz.zeroValue20
 t21 := Tryz.underlying21
 a21 := Tryz.isAgg21
 z21 := Tryz.sizeOf21
 v21 := Tryz.zeroValue21
 t37 := Tryz.underlying155
 a37 := Tryz.isAgg155
 z37 := Tryz.sizeOf155
 v37 := Tryz.zeroValue155
 t46 := Tryz.underlying187
 a46 := Tryz.isAgg187
 z46 := Tryz.sizeOf187
 v46 := Tryz.zeroValue187
 t51 := Tryz.underlying216
 a51 := Tryz.isAgg216
 z51 := Tryz.sizeOf216
 v51 := Tryz.zeroValue216
 t53 := Tryz.underlying162
 a53 := Tryz.isAgg162
 z53 := Tryz.sizeOf162
 v53 := Tryz.zeroValue162
 t75 := Tryz.underlying105
 a75 := Tryz.isAgg105
 z75 := Tryz.sizeOf105
 v75 := Tryz.zeroValue105
 t76 := Tryz.underlying106
 a76 := Tryz.isAgg106
 z76 := Tryz.sizeOf106
 v76 := Tryz.zeroValue106
 t85 := Tryz.underlying181
 a85 := Tryz.isAgg181
 z85 := Tryz.sizeOf181
 v85 := Tryz.zeroValue181
 t127 := Tryz.underlying230
 a127 := Tryz.isAgg230
 z127 := Tryz.sizeOf230
 v127 := Tryz.zeroValue230
 t143 := Tryz.underlying231
 a143 := Tryz.isAgg231
 z143 := Tryz.sizeOf231
 v143 := Tryz.zeroValue231
 t145 := Tryz.underlying233
 a145 := Tryz.isAgg233
 z145 := Tryz.sizeOf233
 v145 := Tryz.zeroValue233
 t167 := Tryz.underlying180
 a167 := Tryz.isAgg180
 z167 := Tryz.sizeOf180
 v167 := Tryz.zeroValue180
 t168 := Tryz.underlying183
 a168 := Tryz.isAgg183
 z168 := Tryz.sizeOf183
 v168 := Tryz.zeroValue183
 t171 := Tryz.underlying189
 a171 := Tryz.isAgg189
 z171 := Tryz.sizeOf189
 v171 := Tryz.zeroValue189
 t173 := Tryz.underlying191
 a173 := Tryz.isAgg191
 z173 := Tryz.sizeOf191
 v173 := Tryz.zeroValue191
 t175 := Tryz.underlying205
 a175 := Tryz.isAgg205
 z175 := Tryz.sizeOf205
 v175 := Tryz.zeroValue205
 t210 := Tryz.underlying208
 a210 := Tryz.isAgg208
 z210 := Tryz.sizeOf208
 v210 := Tryz.zeroValue208
 t212 := Tryz.underlying215
 a212 := Tryz.isAgg215
 z212 := Tryz.sizeOf215
 v212 := Tryz.zeroValue215
 t213 := Tryz.underlying217
 a213 := Tryz.isAgg217
 z213 := Tryz.sizeOf217
 t232 := Tryz.underlying244
 a232 := Tryz.isAgg244
 z232 := Tryz.sizeOf244
 v232 := Tryz.zeroValue244
 t233 := Tryz.underlying186
 a233 := Tryz.isAgg186
 z233 := Tryz.sizeOf186
 v233 := Tryz.zeroValue186
 g15 := by kernel_rfl
 g16 := by kernel_rfl
 g17 := by kernel_rfl
 g18 := by kernel_rfl
 g19 := by kernel_rfl
 t80 := Tryz.underlying245
 a80 := Tryz.isAgg245
 z80 := Tryz.sizeOf245
 v80 := Tryz.zeroValue245
 i0 := by kernel_rfl
 i2 := by kernel_rfl
 i3 := by kernel_rfl
 i4 := by kernel_rfl
 i5 := by kernel_rfl
 i9 := by kernel_rfl
 i20 := by kernel_rfl
 i21 := by kernel_rfl
 i37 := by kernel_rfl
 i46 := by kernel_rfl
 i51 := by kernel_rfl
 i53 := by kernel_rfl
 i75 := by kernel_rfl
 i76 := by kernel_rfl
 i80 := by kernel_rfl
 i85 := by kernel_rfl
 i127 := by kernel_rfl
 i143 := by kernel_rfl
 i145 := by kernel_rfl
 i167 := by kernel_rfl
 i168 := by kernel_rfl
 i171 := by kernel_rfl
 i173 := by kernel_rfl
 i175 := by kernel_rfl
 i210 := by kernel_rfl
 i212 := by kernel_rfl
 i232 := by kernel_rfl
 i233 := by kernel_rfl
 m15 := by kernel_rfl
 m16 := by kernel_rfl
 m17 := by kernel_rfl
 m18 := by kernel_rfl
 m19 := by kernel_rfl
 c0 := by kernel_rfl
 c2 := by kernel_rfl
 c3 := by kernel_rfl
 c4 := by kernel_rfl
 c5 := by kernel_rfl
 c9 := by kernel_rfl
 c20 := by kernel_rfl
 c21 := by kernel_rfl
 c37 := by kernel_rfl
 c46 := by kernel_rfl
 c51 := by kernel_rfl
 c53 := by kernel_rfl
 c75 := by kernel_rfl
 c76 := by kernel_rfl
 c80 := by kernel_rfl
 c85 := by kernel_rfl
 c127 := by kernel_rfl
 c143 := by kernel_rfl
 c145 := by kernel_rfl
 c167 := by kernel_rfl
 c168 := by kernel_rfl
 c171 := by kernel_rfl
 c173 := by kernel_rfl
 c175 := by kernel_rfl
 c210 := by kernel_rfl
 c212 := by kernel_rfl
 c213 := by kernel_rfl
 c232 := by kernel_rfl
 c233 := by kernel_rfl }
open Go.RowKit in
theorem Tryz.strconv_Atoi_ok (s : ByteArray) (hmax : s.size ≤ 9223372036854775806) (v : Int) (h : Lib.atoiAll s.data.toList = .ok v) (w : World) :
   Calls Tryz.prog 84 #[.string s] w fun e w' => e = .returned (.tuple #[.int .i64 v, .nilIface]) ∧ (w' = w ∨ ∃ t, w' = Lib.bytesWorld w 5 t) := Any.strconv_Atoi_ok Tryz.laysC172 s hmax v h w
open Go.RowKit in
theorem Tryz.strconv_Atoi_range (s : ByteArray) (hlim : s.size ≤ 281474976710656) (h : Lib.atoiAll s.data.toList = .range) (ev : Value) (w : World) (hv : w.cell? ⟨2, 0, none⟩ = some ev) (hev : ev = .nilIface ∨ ∃ te pe, ev = .iface te pe) :
   Calls Tryz.prog 84 #[.string s] w fun e w' => ∃ N, e = .returned (.tuple #[.int .i64 (Lib.atoiSat s.data.toList), .iface 183 (.pointer (some ⟨N, 0, none⟩))]) ∧ w.heap.size ≤ N ∧ w'.heap[N]? = some (.cells #[.string ⟨#[65, 116, 111, 105]⟩, .string s, ev] 208 (0, 0)) ∧ Below w.heap.size w w' := Any.strconv_Atoi_range Tryz.laysC172 s hlim h ev w hv hev
end Go.Proofs
namespace Go.Proofs.YtmafghdgmdbpnaaGreatDoor
open Go.Lib
theorem natOf_cons' (c : UInt8) (r : List UInt8) : natOf (c :: r) = (c.toNat - 48) * 10 ^ r.length + natOf r := by
 have h := natOf_append [c] r
 rw [show [c] ++ r = c :: r from rfl] at h
 rw [h]
 have h2 : natOf [c] = c.toNat - 48 := by simp [natOf]
 rw [h2]
theorem isDig_b {c : UInt8} (h : isDig c = true) : 48 ≤ c.toNat ∧ c.toNat ≤ 57 := (isDig_iff c).1 h
theorem parse_digs : ∀ (l : List UInt8) (acc : Nat), acc < 18446744073709551616 → (∀ c ∈ l, isDig c = true) → parseUint10 acc l = if acc * 10 ^ l.length + natOf l < 18446744073709551616 then .ok (acc * 10 ^ l.length + natOf l) else .range
 | [], acc, ha, _ => by
   rw [List.length_nil, Nat.pow_zero, Nat.mul_one, natOf_nil, Nat.add_zero, if_pos ha]; rfl
 | c :: r, acc, ha, h => by
   have hc := isDig_b (h c (by simp))
   have hN : acc * 10 ^ (c :: r).length + natOf (c :: r) = (acc * 10 + (c.toNat - 48)) * 10 ^ r.length + natOf r := by
     rw [natOf_cons', List.length_cons, Nat.pow_succ, Nat.add_mul, Nat.mul_assoc acc 10, Nat.mul_comm 10 (10 ^ r.length)]; omega
   rw [hN]
   have hp : 1 ≤ 10 ^ r.length := Nat.pos_of_ne_zero (by simp)
   have hge : acc * 10 + (c.toNat - 48) ≤ (acc * 10 + (c.toNat - 48)) * 10 ^ r.length := Nat.le_mul_of_pos_right _ hp
   unfold parseUint10
   rw [if_pos hc]
   by_cases h1 : 1844674407370955162 ≤ acc
   · rw [if_pos h1, if_neg (by omega)]
   · rw [if_neg h1]
     by_cases h2 : 18446744073709551616 ≤ acc * 10 + (c.toNat - 48)
     · rw [if_pos h2, if_neg (by omega)]
     · rw [if_neg h2]
       exact parse_digs r _ (by omega) (fun x hx => h x (by simp [hx]))
theorem parseMag_dec (u : Nat) : parseMag (decDigits u) = if u < 18446744073709551616 then .ok u else .range := by
 unfold parseMag
 have hne := decDigits_ne u
 rw [if_neg hne, parse_digs _ 0 (by decide) (decDigits_dig u), Nat.zero_mul, Nat.zero_add, natOf_dec]
theorem atoi_itoa (z : Int) : atoiAll (itoa z) = if -9223372036854775808 ≤ z ∧ z ≤ 9223372036854775807 then .ok z else .range := by
 unfold itoa
 by_cases hz : z < 0
 · rw [if_pos hz, atoiAll_minus, parseMag_dec]
   by_cases h1 : z.natAbs < 18446744073709551616
   · rw [if_pos h1]
     unfold signed
     by_cases h2 : 9223372036854775808 < z.natAbs
     · rw [if_neg (by omega)]; simp only [if_pos h2]
     · rw [if_pos (by omega)]; simp only [if_neg h2]
       rw [show -((z.natAbs : Nat) : Int) = z by omega]
   · rw [if_neg h1, if_neg (by omega)]; rfl
 · rw [if_neg hz]
   have hm := parseMag_dec z.toNat
   have hd := decDigits_dig z.toNat
   generalize decDigits z.toNat = l at *
   cases l with
   | nil => rw [show parseMag [] = .syntax from rfl] at hm; split at hm <;> cases hm
   | cons c r =>
     have hc := isDig_b (hd c (by simp))
     rw [atoiAll_plain c r (by omega) (by omega), hm]
     by_cases h1 : z.toNat < 18446744073709551616
     · rw [if_pos h1]
       unfold signless
       by_cases h2 : 9223372036854775808 ≤ z.toNat
       · rw [if_neg (by omega)]; simp only [if_pos h2]
       · rw [if_pos (by omega)]; simp only [if_neg h2]
         rw [show ((z.toNat : Nat) : Int) = z by omega]
     · rw [if_neg h1, if_neg (by omega)]; rfl
end Go.Proofs.YtmafghdgmdbpnaaGreatDoor
namespace Go.Proofs.YtmafghdgmdbpnaaGreatDoor
open Go.RowKit
def ErrT (w : World) : Prop := ∃ ev, w.cell? ⟨2, 0, none⟩ = some ev ∧ (ev = .nilIface ∨ ∃ te pe, ev = .iface te pe)
theorem ErrT_next {w W : World} (h : ErrT w) (b : Below w.heap.size w W) : ErrT W := by
 obtain ⟨ev, h1, h2⟩ := h
 have hl := World.block_lt_of_cell? w _ h1
 exact ⟨ev, (b.cell (p := ⟨2, 0, none⟩) hl).trans h1, h2⟩
theorem Atoi_in (z : Int) (w : World) (hz : short z) (h : -9223372036854775808 ≤ z ∧ z ≤ 9223372036854775807) :
   Calls Tryz.prog 84 #[.string (strB z)] w fun e W' => e = .returned (.tuple #[.int .i64 z, .nilIface]) ∧ Below w.heap.size w W' := by
 have hs := strB_size hz
 refine (Tryz.strconv_Atoi_ok (strB z) (by omega) z (by rw [strB_data, atoi_itoa, if_pos h]) w).mono ?_
 rintro e W' ⟨he, rfl | ⟨t, rfl⟩⟩
 · exact ⟨he, Below.refl _ _⟩
 · exact ⟨he, Go.Joins.below_bytesWorld _ _ _ _ (Nat.le_refl _)⟩
theorem Atoi_out (z : Int) (w : World) (hz : short z) (h : ¬ (-9223372036854775808 ≤ z ∧ z ≤ 9223372036854775807)) (hE : ErrT w) :
   Calls Tryz.prog 84 #[.string (strB z)] w fun e W' => (∃ v t N, e = .returned (.tuple #[.int .i64 v, .iface t (.pointer (some ⟨N, 0, none⟩))])) ∧ Below w.heap.size w W' := by
 have hs := strB_size hz
 obtain ⟨ev, h1, h2⟩ := hE
 refine (Tryz.strconv_Atoi_range (strB z) (by omega) (by rw [strB_data, atoi_itoa, if_neg h]) ev w h1 h2).mono ?_
 rintro e W' ⟨N, he, _, _, hB⟩
 exact ⟨⟨_, _, N, he⟩, hB⟩
def intR (x : Rat) : Int := if x.den = 1 ∧ -4611686018427387904 ≤ x.num ∧ x.num ≤ 4611686018427387904 then x.num else 0
def intE (x : Rat) : Int := if x.den = 1 then (if -4611686018427387904 ≤ x.num ∧ x.num ≤ 4611686018427387904 then 0 else 2) else 8
theorem den_is1 (x : Rat) : ((strB (x.den : Int)).toList == [49]) = decide (x.den = 1) := by
 rw [← strQ_int, strQ_is1]
 apply decide_eq_decide.2
 rw [← Rat.intCast_one, Rat.intCast_inj]; omega
theorem Int_q (x : Rat) (w : World) (hx : Sq x) (ht : Tab w) (ht2 : Tab64 w) (hE : ErrT w) :
   Calls Tryz.prog 34 #[.string (strQ x)] w fun e W' => e = .returned (.tuple #[.int .i64 (intR x), .int .i64 (intE x)]) ∧ Below w.heap.size w W' := by
 have kp := fun W (h : Below w.heap.size w W) => Parts_q x W hx (ht.next h) (TabQ_next ht2 h)
 have hd := den_is1 x
 by_cases h1 : x.den = 1
 · rw [decide_eq_true h1] at hd
   have hd' : ((strB (x.den : Int)).toList != [49]) = false := by rw [bne, hd]; rfl
   unfold intR intE
   rw [if_pos h1]
   by_cases h2 : -9223372036854775808 ≤ x.num ∧ x.num ≤ 9223372036854775807
   · have ka := fun W (_ : Below w.heap.size w W) => Atoi_in x.num W hx.n h2
     have C := Lib.hid (And.intro kp ka); clear kp ka ht ht2 hE hx
     generalize strQ x = s at *
     generalize strB (x.den : Int) = d at *
     generalize strB x.num = n at *
     by_cases h3 : -4611686018427387904 ≤ x.num ∧ x.num ≤ 4611686018427387904
     · rw [if_pos ⟨h1, h3⟩, if_pos h3]
       clear h1
       generalize x.num = z at *
       go_enter Tryz.func34, Tryz.ntmps34
       go_wp2_with fail
       refine (C.out.1 _ (Below.refl _ _)).mono ?_
       rintro e w1 ⟨rfl, b⟩
       have H1 := Lib.hid b; clear b
       go_wp2_with fail
       refine (C.out.2 _ H1.out).mono ?_
       rintro e w2 ⟨rfl, b⟩
       have H2 := Lib.hid (H1.out.trans (b.mono H1.out.size)); clear b H1
       obtain ⟨h3a, h3b⟩ := h3
       go_wp2
       go_ret2
       exact ⟨rfl, H2.out⟩
     · rw [if_neg (fun h => h3 h.2), if_neg h3]
       clear h1
       generalize x.num = z at *
       have h4 : z < -4611686018427387904 ∨ 4611686018427387904 < z := by omega
       clear h3
       rcases h4 with h4 | h4
       · go_enter Tryz.func34, Tryz.ntmps34
         go_wp2_with fail
         refine (C.out.1 _ (Below.refl _ _)).mono ?_
         rintro e w1 ⟨rfl, b⟩
         have H1 := Lib.hid b; clear b
         go_wp2_with fail
         refine (C.out.2 _ H1.out).mono ?_
         rintro e w2 ⟨rfl, b⟩
         have H2 := Lib.hid (H1.out.trans (b.mono H1.out.size)); clear b H1
         go_wp2
         go_ret2
         exact ⟨rfl, H2.out⟩
       · have h5 : ¬ z < -4611686018427387904 := by omega
         go_enter Tryz.func34, Tryz.ntmps34
         go_wp2_with fail
         refine (C.out.1 _ (Below.refl _ _)).mono ?_
         rintro e w1 ⟨rfl, b⟩
         have H1 := Lib.hid b; clear b
         go_wp2_with fail
         refine (C.out.2 _ H1.out).mono ?_
         rintro e w2 ⟨rfl, b⟩
         have H2 := Lib.hid (H1.out.trans (b.mono H1.out.size)); clear b H1
         go_wp2
         go_ret2
         exact ⟨rfl, H2.out⟩
   · have h3 : ¬ (-4611686018427387904 ≤ x.num ∧ x.num ≤ 4611686018427387904) := by omega
     rw [if_neg (fun h => h3 h.2), if_neg h3]
     have ka := fun W (h : Below w.heap.size w W) => Atoi_out x.num W hx.n h2 (ErrT_next hE h)
     have C := Lib.hid (And.intro kp ka); clear kp ka ht ht2 hE hx h1 h2 h3
     generalize strQ x = s at *
     generalize strB (x.den : Int) = d at *
     generalize strB x.num = n at *
     go_enter Tryz.func34, Tryz.ntmps34
     go_wp2_with fail
     refine (C.out.1 _ (Below.refl _ _)).mono ?_
     rintro e w1 ⟨rfl, b⟩
     have H1 := Lib.hid b; clear b
     go_wp2_with fail
     refine (C.out.2 _ H1.out).mono ?_
     rintro e w2 ⟨⟨v, t, N, rfl⟩, b⟩
     have H2 := Lib.hid (H1.out.trans (b.mono H1.out.size)); clear b H1
     go_wp2
     go_ret2
     exact ⟨rfl, H2.out⟩
 · rw [decide_eq_false h1] at hd
   have hd' : ((strB (x.den : Int)).toList != [49]) = true := by rw [bne, hd]; rfl
   unfold intR intE
   rw [if_neg h1, if_neg (fun h => h1 h.1)]
   have C := Lib.hid kp; clear kp ht ht2 hE hx h1
   generalize strQ x = s at *
   generalize strB (x.den : Int) = d at *
   generalize strB x.num = n at *
   go_enter Tryz.func34, Tryz.ntmps34
   go_wp2_with fail
   refine (C.out _ (Below.refl _ _)).mono ?_
   rintro e w1 ⟨rfl, b⟩
   have H1 := Lib.hid b; clear b
   go_wp2
   go_ret2
   exact ⟨rfl, H1.out⟩
def rat (a : ByteArray) : Rat := ratOf a.data.toList
theorem chkQ_sq {a : ByteArray} (h : chkQ a.data.toList = 0) : Sq (rat a) := chkQ_lim h
theorem chkQ_str {a : ByteArray} (h : chkQ a.data.toList = 0) : strQ (rat a) = a := (str_of_chkQ h).symm
theorem FloorQ_bad (a n d : ByteArray) (e0 : Int) (w : World) (n1 : (e0 == 0) = false) (n2 : (e0 != 0) = true)
   (hp : Calls Tryz.prog 28 #[.string a] w fun e W' => e = .returned (.tuple #[.string n, .string d, .int .i64 e0]) ∧ Below w.heap.size w W') :
   Calls Tryz.prog 32 #[.string a] w fun e W' => e = .returned (.tuple #[.string ⟨#[]⟩, .int .i64 e0]) ∧ Below w.heap.size w W' := by
 have C := Lib.hid hp; clear hp
 go_enter Tryz.func32, Tryz.ntmps32
 go_wp2_with fail
 refine C.out.mono ?_
 rintro e w1 ⟨rfl, b⟩
 have H1 := Lib.hid b; clear b
 go_wp2
 go_ret2
 exact ⟨rfl, H1.out⟩
theorem IntQ_bad (a n d : ByteArray) (e0 : Int) (w : World) (n1 : (e0 == 0) = false) (n2 : (e0 != 0) = true)
   (hp : Calls Tryz.prog 28 #[.string a] w fun e W' => e = .returned (.tuple #[.string n, .string d, .int .i64 e0]) ∧ Below w.heap.size w W') :
   Calls Tryz.prog 34 #[.string a] w fun e W' => e = .returned (.tuple #[.int .i64 0, .int .i64 e0]) ∧ Below w.heap.size w W' := by
 have C := Lib.hid hp; clear hp
 go_enter Tryz.func34, Tryz.ntmps34
 go_wp2_with fail
 refine C.out.mono ?_
 rintro e w1 ⟨rfl, b⟩
 have H1 := Lib.hid b; clear b
 go_wp2
 go_ret2
 exact ⟨rfl, H1.out⟩
def floB (a : ByteArray) : ByteArray := if chkQ a.data.toList = 0 then strB ((rat a).num.fdiv (rat a).den) else ⟨#[]⟩
def int1R (a : ByteArray) : Int := if chkQ a.data.toList = 0 then intR (rat a) else 0
def int1E (a : ByteArray) : Int := if chkQ a.data.toList = 0 then intE (rat a) else chkQ a.data.toList
theorem Floor_anyQ (a : ByteArray) (w : World) (ha : a.size ≤ maxLen) (ht : Tab w) (ht2 : Tab64 w) :
   Calls Tryz.prog 32 #[.string a] w fun e W' => e = .returned (.tuple #[.string (floB a), .int .i64 (chkQ a.data.toList)]) ∧ Below w.heap.size w W' := by
 unfold floB
 by_cases h : chkQ a.data.toList = 0
 · rw [if_pos h, h]
   have c := Floor_q (rat a) w (chkQ_sq h) ht ht2
   rwa [chkQ_str h] at c
 · rw [if_neg h]
   exact FloorQ_bad a _ _ _ w (bool_ne h).1 (bool_ne h).2 (partsQ_any a w ha ht ht2)
theorem Int_anyQ (a : ByteArray) (w : World) (ha : a.size ≤ maxLen) (ht : Tab w) (ht2 : Tab64 w) (hE : ErrT w) :
   Calls Tryz.prog 34 #[.string a] w fun e W' => e = .returned (.tuple #[.int .i64 (int1R a), .int .i64 (int1E a)]) ∧ Below w.heap.size w W' := by
 unfold int1R int1E
 by_cases h : chkQ a.data.toList = 0
 · rw [if_pos h, if_pos h]
   have c := Int_q (rat a) w (chkQ_sq h) ht ht2 hE
   rwa [chkQ_str h] at c
 · rw [if_neg h, if_neg h]
   exact IntQ_bad a _ _ _ w (bool_ne h).1 (bool_ne h).2 (partsQ_any a w ha ht ht2)
end Go.Proofs.YtmafghdgmdbpnaaGreatDoor
namespace Go.Proofs.YtmafghdgmdbpnaaGreatDoor
open Go.RowKit Go.Shelf
theorem grown_below {a b : World} (h : Below a.heap.size a b) : a.grownBy b none := ⟨h.os, h.tape, h.output, h.size, fun k hk _ => h.block k hk⟩
def atS (xs : List ByteArray) (j : Nat) : ByteArray := xs[j]?.getD ⟨#[]⟩
theorem atS_get {xs : List ByteArray} {j : Nat} (h : j < xs.length) : atS xs j = xs[j] := by unfold atS; rw [List.getElem?_eq_getElem h]; rfl
theorem atS_mem {xs : List ByteArray} {j : Nat} (h : j < xs.length) : atS xs j ∈ xs := by rw [atS_get h]; exact List.getElem_mem h
theorem take_at {xs : List ByteArray} {j : Nat} (h : j < xs.length) : xs.take (j + 1) = xs.take j ++ [atS xs j] := by rw [atS_get h, List.take_succ_eq_append_getElem h]
def StrsAt (n : Nat) (W : World) (sv : Value) (xs : List ByteArray) : Prop :=
 (∃ p cap, sv = .slice p 0 cap ∧ xs = []) ∨ ∃ b off cap, sv = .slice (some ⟨b, off, none⟩) xs.length cap ∧ b < n ∧ xs.length ≤ cap ∧ cap ≤ maxLen ∧ ∀ j, j < xs.length → W.cell? ⟨b, off + j, none⟩ = some (.string (atS xs j))
theorem StrsAt.below {n m : Nat} {A B : World} {sv : Value} {xs : List ByteArray} (h : StrsAt n A sv xs) (b : Below m A B) (hn : n ≤ m) : StrsAt n B sv xs := by
 rcases h with h | ⟨k, off, cap, e, hb, h1, h2, hc⟩
 · exact .inl h
 · exact .inr ⟨k, off, cap, e, hb, h1, h2, fun j hj => (b.cell (p := ⟨k, off + j, none⟩) (Nat.lt_of_lt_of_le hb hn)).trans (hc j hj)⟩
theorem StrsAt.up {n m : Nat} {A : World} {sv : Value} {xs : List ByteArray} (h : StrsAt n A sv xs) (hn : n ≤ m) : StrsAt m A sv xs := by
 rcases h with h | ⟨k, off, cap, e, hb, h1⟩
 · exact .inl h
 · exact .inr ⟨k, off, cap, e, by omega, h1⟩
theorem checked_any (v : Value) (w : World) (hv : ∃ p n c, v = .slice p n c) :
   Calls Tryz.prog 81 #[v] w fun e w' => e = .returned (.func (.func 112) #[] #[.pointer (some ⟨w.heap.size, 0, none⟩)]) ∧ w' = w.alloc (.cells #[v] 33) := by
 obtain ⟨p, n, c, rfl⟩ := hv
 go_enter Tryz.func81, Tryz.ntmps81
 go_wp2
 go_ret
 exact ⟨rfl, rfl⟩
section
attribute [local go_sem] Oper.semAt_some
theorem checked1_in (n : Nat) (hn : 1 ≤ n) (W0 : World) (l Bs b off cap : Nat) (xs : List ByteArray) (hl : xs.length ≤ 4096) (hs : ∀ s ∈ xs, s.size ≤ maxLen) (hb : b < W0.heap.size) (ht : Tab W0) (ht2 : Tab64 W0) (J Jx : List ByteArray → World → Prop)
   (hY : ∀ pre x W1, J pre W1 → pre.length < xs.length → YieldAt Fence.wide (n - 1) Tryz.prog l #[.string x, .int .i64 (chkQ x.data.toList)] W1 fun e W' =>
     (e = .returned (.bool true) ∧ J (pre ++ [x]) W' ∧ Below W0.heap.size W1 W') ∨ (e = .returned (.bool false) ∧ Jx (pre ++ [x]) W'))
   (W : World) (hJ : AbidesFrom W.heap.size J) (hW : Below W0.heap.size W0 W) (hBs : W.cell? ⟨Bs, 0, none⟩ = some (.slice (some ⟨b, off, none⟩) xs.length cap)) (hc : ∀ j, j < xs.length → W0.cell? ⟨b, off + j, none⟩ = some (.string (atS xs j))) (h0 : J [] W) :
   CallsIn Fence.wide n Tryz.prog 112 #[.func (.yield l) #[] #[], .pointer (some ⟨Bs, 0, none⟩)] W fun e W' => (∃ v, e = .returned v) ∧
     ((∃ ys, ys = xs ∧ J ys W') ∨ (∃ pre, (∃ k, k ≤ xs.length ∧ pre = xs.take k) ∧ Jx pre W')) := by
 have HY := Lib.hid hY; clear hY
 have HC := Lib.hid (And.intro hs hc); clear hs hc
 have HT := Lib.hid (And.intro ht ht2); clear ht ht2
 have HJ := Lib.hid hJ; clear hJ
 have HW := Lib.hid hW; clear hW
 have H0 := Lib.hid h0; clear h0
 refine callsIn_of_wp Tryz.func112 rfl trivial ?_ rfl
 simp only [Tryz.ntmps112, List.size_toArray, List.length_cons, List.length_nil, Nat.reduceAdd, Nat.reduceSub, Array.replicate_succ, Array.replicate_zero, List.push_toArray, List.append_toArray, List.nil_append, List.cons_append]
 gi_wp2
 gi_loopw [7] (fun i wr => ∃ k : Nat, k ≤ xs.length ∧ i = .int .i64 k ∧ Hid (J (xs.take k) wr ∧ Below W0.heap.size W0 wr))
   (fun i _ => xs.length - (intOf i).toNat)
 case atStart => exact ⟨0, Nat.zero_le _, rfl, H0.out, HW.out⟩
 case round =>
   obtain ⟨k, hk, rfl, hJs⟩ := hrel
   by_cases hlt : k < xs.length
   · have hck := (hJs.out.2.cell (p := ⟨b, off + k, none⟩) hb).trans (HC.out.2 k hlt)
     have C := Lib.hid (checkQ_any (atS xs k) wr (HC.out.1 _ (atS_mem hlt)) (HT.out.1.next hJs.out.2) (TabQ_next HT.out.2 hJs.out.2))
     have hsn := Lib.hid (take_at hlt)
     have hlen := Lib.hid (show (xs.take k).length < xs.length by rw [List.length_take]; omega)
     have HYk := Lib.hid (fun W1 (h : J (xs.take k) W1) => HY.out (xs.take k) (atS xs k) W1 h hlen.out)
     generalize atS xs k = s at *
     gi_wp2_with fail
     refine ⟨trivial, ?_⟩
     refine (callsIn_wide.2 C.out).mono ?_
     rintro e w' ⟨rfl, b1⟩
     have hJ2 := Lib.hid (HJ.out (xs.take k) wr w' none hJs.out.1 (grown_below b1) (fun r e => by cases e))
     have hB2 := Lib.hid (hJs.out.2.trans (b1.mono hJs.out.2.size))
     clear b1 C hck hJs
     obtain ⟨fn, tmps, assign, body, hy, hR⟩ := HYk.out w' hJ2.out
     have HR := Lib.hid hR; clear hR
     generalize chkQ s.data.toList = c at *
     gi_wp2
     refine HR.out.mono ?_
     clear HR
     rintro e W3 (⟨rfl, hJ3, hk3⟩ | ⟨rfl, hJx3⟩)
     · gi_wp2
       go_roundw
       case rel => exact ⟨k + 1, by omega, by simp, by show J (xs.take (k + 1)) _ ∧ _; rw [hsn.out]; exact ⟨hJ3, hB2.out.trans hk3⟩⟩
       case measure => simp [intOf]; omega
     · gi_wp2
       refine bodyPost_ret (results_none rfl _ _ _) rfl ?_
       exact ⟨⟨_, rfl⟩, .inr ⟨_, ⟨k + 1, by omega, hsn.out.symm⟩, hJx3⟩⟩
   · have hx : Hid (xs.take k = xs) := List.take_of_length_le (by omega)
     gi_wp2
     go_end0
     exact ⟨⟨_, rfl⟩, .inl ⟨_, hx.out, hJs.out.1⟩⟩
theorem checked1_nil (n : Nat) (l Bs : Nat) (p : Option Addr) (cap : Nat) (J : List ByteArray → World → Prop) (W : World) (hBs : W.cell? ⟨Bs, 0, none⟩ = some (.slice p 0 cap)) (h0 : J [] W) :
   CallsIn Fence.wide n Tryz.prog 112 #[.func (.yield l) #[] #[], .pointer (some ⟨Bs, 0, none⟩)] W fun e W' => (∃ v, e = .returned v) ∧ J [] W' := by
 have H0 := Lib.hid h0; clear h0
 refine callsIn_of_wp Tryz.func112 rfl trivial ?_ rfl
 simp only [Tryz.ntmps112, List.size_toArray, List.length_cons, List.length_nil, Nat.reduceAdd, Nat.reduceSub, Array.replicate_succ, Array.replicate_zero, List.push_toArray, List.append_toArray, List.nil_append, List.cons_append]
 gi_wp2
 gi_loopw [7] (fun i wr => i = .int .i64 0 ∧ Hid (J [] wr)) (fun _ _ => 0)
 case atStart => exact ⟨rfl, H0.out⟩
 case round =>
   obtain ⟨rfl, hJs⟩ := hrel
   gi_wp2
   go_end0
   exact ⟨⟨_, rfl⟩, hJs.out⟩
theorem checked_stops (n : Nat) (hn : 1 ≤ n) (W0 : World) (Bs : Nat) (sv : Value) (xs : List ByteArray) (hl : xs.length ≤ 4096) (hs : ∀ s ∈ xs, s.size ≤ maxLen) (ht : Tab W0) (ht2 : Tab64 W0) (w : World) (hBs : Bs < w.heap.size) (hw : Below W0.heap.size W0 w)
   (hc : w.cell? ⟨Bs, 0, none⟩ = some sv) (hI : StrsAt W0.heap.size W0 sv xs) :
   SeqStopsK Fence.wide n Tryz.prog 112 #[.pointer (some ⟨Bs, 0, none⟩)] (fun x : ByteArray => #[Value.string x, Value.int .i64 (chkQ x.data.toList)]) (Below W0.heap.size) (fun ys => ys = xs) (fun pre => ∃ k, k ≤ xs.length ∧ pre = xs.take k) xs.length w := fun l J Jx W hW hJ _ hY h0 => by
 have hc' := (hW.cell (p := ⟨Bs, 0, none⟩) hBs).trans hc
 rcases hI with ⟨p, cap, rfl, rfl⟩ | ⟨b, off, cap, rfl, hb, _, _, hcs⟩
 · exact (checked1_nil n l Bs p cap J W hc' h0).mono fun e W' ⟨he, hj⟩ => ⟨he, .inl ⟨_, rfl, hj⟩⟩
 · exact checked1_in n hn W0 l Bs b off cap xs hl hs hb ht ht2 J Jx hY W hJ (hw.trans (hW.mono hw.size)) hc' hcs h0
end
def sumS (xs : List ByteArray) : Option Rat := xs.foldl (fun o s => o.bind fun t => if qaddE t (rat s) = 0 then some (t + rat s) else none) (some 0)
theorem sumS_snoc (xs : List ByteArray) (s : ByteArray) : sumS (xs ++ [s]) = (sumS xs).bind fun t => if qaddE t (rat s) = 0 then some (t + rat s) else none := by
 unfold sumS; rw [List.foldl_append]; rfl
def oB : Option Rat → ByteArray
 | none => ⟨#[]⟩
 | some t => strQ t
def oE : Option Rat → Int
 | none => 4
 | some _ => 0
theorem qadd_E0 {x y : Rat} (h : qaddE x y = 0) : qaddB x y = strQ (x + y) ∧ Sq (x + y) := by
 unfold qaddE lowE at h
 unfold qaddB lowB
 by_cases hc : crossOK x y
 · rw [if_pos hc] at h ⊢
   by_cases hs : short (x.num * y.den + y.num * x.den) ∧ short ((x.den : Int) * y.den)
   · rw [if_pos hs, add_int]
     exact ⟨rfl, by rw [← add_int]; exact (Bq.of_int (k := 300) (den_ne x y) hs.1 hs.2).lim (Nat.le_refl _)⟩
   · rw [if_neg hs] at h; cases h
 · rw [if_neg hc] at h; cases h
theorem qadd_E4 {x y : Rat} (h : qaddE x y ≠ 0) : qaddB x y = ⟨#[]⟩ ∧ qaddE x y = 4 := by
 unfold qaddE lowE at h ⊢
 unfold qaddB lowB
 by_cases hc : crossOK x y
 · rw [if_pos hc] at h ⊢
   rw [if_pos hc]
   by_cases hs : short (x.num * y.den + y.num * x.den) ∧ short ((x.den : Int) * y.den)
   · rw [if_pos hs] at h; exact absurd rfl h
   · rw [if_neg hs, if_neg hs]; exact ⟨rfl, rfl⟩
 · rw [if_neg hc, if_neg hc]; exact ⟨rfl, rfl⟩
theorem sq_zero : Sq 0 := (Bq_zero.lim (by decide))
theorem sumS_step (o : Option Rat) (s : ByteArray) (t : Rat) (h : o = some t) : qaddB t (rat s) = oB (o.bind fun t => if qaddE t (rat s) = 0 then some (t + rat s) else none) ∧ qaddE t (rat s) = oE (o.bind fun t => if qaddE t (rat s) = 0 then some (t + rat s) else none) := by
 subst h
 rw [Option.bind_some]
 by_cases h : qaddE t (rat s) = 0
 · rw [if_pos h]; exact ⟨(qadd_E0 h).1, h⟩
 · rw [if_neg h]; exact qadd_E4 h
theorem sumS_sq : ∀ (xs : List ByteArray) (o : Option Rat), (∀ t, o = some t → Sq t) → ∀ t, xs.foldl (fun o s => o.bind fun t => if qaddE t (rat s) = 0 then some (t + rat s) else none) o = some t → Sq t
 | [], o, h, t, e => h t e
 | s :: r, o, h, t, e => by
   refine sumS_sq r _ (fun t' e' => ?_) t e
   cases o with
   | none => cases e'
   | some u =>
     have e2 := e'
     dsimp only at e2
     rw [Option.bind_some] at e2
     by_cases hq : qaddE u (rat s) = 0
     · rw [if_pos hq] at e2
       rw [← Option.some.inj e2]; exact (qadd_E0 hq).2
     · rw [if_neg hq] at e2; cases e2
theorem sumS_ok {xs : List ByteArray} {t : Rat} (h : sumS xs = some t) : Sq t := sumS_sq xs (some 0) (fun t e => by rw [← Option.some.inj e]; exact sq_zero) t h
def badC (xs : List ByteArray) : Int := xs.foldr (fun s c => if chkQ s.data.toList = 0 then c else chkQ s.data.toList) 0
theorem badC_ok {xs : List ByteArray} (h : ∀ s ∈ xs, chkQ s.data.toList = 0) : badC xs = 0 := by
 induction xs with
 | nil => rfl
 | cons s t ih =>
   show (if chkQ s.data.toList = 0 then badC t else _) = 0
   rw [if_pos (h s (List.mem_cons_self ..))]
   exact ih fun x hx => h x (List.mem_cons_of_mem _ hx)
theorem badC_bad {ini r : List ByteArray} {s : ByteArray} (h : ∀ x ∈ ini, chkQ x.data.toList = 0) (hs : chkQ s.data.toList ≠ 0) : badC (ini ++ s :: r) = chkQ s.data.toList := by
 induction ini with
 | nil => show (if chkQ s.data.toList = 0 then badC r else _) = _; rw [if_neg hs]
 | cons x t ih =>
   show (if chkQ x.data.toList = 0 then badC (t ++ s :: r) else _) = _
   rw [if_pos (h x (List.mem_cons_self ..))]
   exact ih fun y hy => h y (List.mem_cons_of_mem _ hy)
def sumB (xs : List ByteArray) : ByteArray := if badC xs = 0 then oB (sumS xs) else ⟨#[]⟩
def sumE (xs : List ByteArray) : Int := if badC xs = 0 then oE (sumS xs) else badC xs
end Go.Proofs.YtmafghdgmdbpnaaGreatDoor
namespace Go.Proofs.YtmafghdgmdbpnaaGreatDoor
open Go.ChangeShapes Go.WideShapes Go.ChangeAt Go.RowKit
theorem cellsNum : Tryz.prog.cellsOf 22 = 1 := by kernel_rfl
theorem bytesNum : Tryz.prog.bytesOf 22 = 16 := by kernel_rfl
theorem laidOut : laidOutB Tryz.prog = true := by kernel_rfl
theorem i64_of {z : Int} (h : (Lit.int .i64 z).wf = true) : I64 z := by
 have mn : IntKind.i64.min = -9223372036854775808 := rfl
 have mx : IntKind.i64.max = 9223372036854775807 := rfl
 simp [Lit.wf] at h
 exact ⟨by omega, by omega⟩
theorem strs_arg {H : Type} {enc : TypeId × Value → H} {W : World} {a0 : Option Addr} {len cap : Nat} {d : DataW H} {p : List MemPlace} (h0 : DataW.Trod enc Tryz.prog W 0 (fun _ => true) true 33 (.slice a0 len cap) d p) (hlt : ∀ x ∈ p, x.block < W.heap.size)
   (hsz : ∀ elems spare, d = .slice elems spare → (elems.length + spare.length) * 16 ≤ reachBytes) : ∃ xs : List ByteArray, xs.length = len ∧ (∀ s ∈ xs, s.size ≤ maxLen) ∧ StrsAt W.heap.size W (.slice a0 len cap) xs ∧ len * 16 ≤ 140737488351232 := by
 obtain ⟨fuel, hf⟩ := h0
 rcases open_strings Tryz.underlying33 Tryz.underlying22 cellsNum hf with ⟨hcs, hx⟩ | ⟨a, len', cap', ss, hcs, _, hl, hm, hz, hx, hcell, hws⟩
 · simp [Value.cells] at hcs
   obtain ⟨rfl, rfl, rfl⟩ := hcs
   exact ⟨[], rfl, fun _ h => (by cases h), .inl ⟨none, 0, rfl, rfl⟩, by omega⟩
 · simp [Value.cells] at hcs
   obtain ⟨rfl, rfl, rfl⟩ := hcs
   simp only [Prod.mk.injEq] at hx
   obtain ⟨rfl, rfl⟩ := hx
   simp only [if_true] at hz
   have hreach : len * 16 ≤ 140737488351232 := by
     have := hsz _ _ rfl
     simp only [strs, List.length_map, List.length_take, List.length_drop, reachBytes] at this
     omega
   by_cases hl0 : len = 0
   · subst hl0
     exact ⟨[], rfl, fun _ h => (by cases h), .inl ⟨some a, cap, rfl, rfl⟩, by omega⟩
   · obtain ⟨b, off, spot⟩ := a
     have hspot : spot = none := by simpa [Addr.add] using World.cell?_spot (hcell 0 (by omega))
     subst hspot
     have hbW : b < W.heap.size := hlt (.cell b off) (MemPlace.mem_row.2 ⟨0, by omega, by simp⟩)
     have hlen : (ss.take len).length = len := by rw [List.length_take]; omega
     refine ⟨ss.take len, hlen, fun s hs => hws s (List.mem_of_mem_take hs), .inr ⟨b, off, cap, by rw [hlen], hbW, by rw [hlen]; exact hl, hm, fun j hj => ?_⟩, hreach⟩
     rw [hlen] at hj
     have e : atS (ss.take len) j = ss.getD j ByteArray.empty := by
       unfold atS
       rw [List.getElem?_take_of_lt hj, List.getD_eq_getElem?_getD]; rfl
     rw [e, ← add_plain]
     exact hcell j (by omega)
theorem nil_arg {H : Type} {enc : TypeId × Value → H} {W : World} {a0 : Option Addr} {len cap : Nat} {d : DataW H} {p : List MemPlace} (h0 : DataW.Trod enc Tryz.prog W 0 (fun _ => true) true 33 (.slice a0 len cap) d p) : a0 = none → cap = 0 := by
 obtain ⟨fuel, hf⟩ := h0
 rcases open_strings Tryz.underlying33 Tryz.underlying22 cellsNum hf with ⟨hcs, hx⟩ | ⟨a, len', cap', ss, hcs, _⟩
 · simp [Value.cells] at hcs
   exact fun _ => hcs.2.2
 · simp [Value.cells] at hcs
   intro e
   rw [hcs.1] at e
   cases e
def laid5 : List (String × DataW Unit) := [("math/bits.deBruijn32tab", Rows.laid_math_bits_deBruijn32tab), ("math/bits.deBruijn64tab", Rows.laid_math_bits_deBruijn64tab), ("internal/strconv.uint64pow10", Rows.laid_internal_strconv_uint64pow10), ("strconv.ErrRange", Rows.laid_strconv_ErrRange), ("strconv.ErrSyntax", Rows.laid_strconv_ErrSyntax)]
theorem door_met5 (os : Os) (args : Array Value) : laidMetH Tryz.prog laid5 ((World.doorLaid Tryz.prog 400 os).forCall (fun _ _ => 0) ⟨#[], args, []⟩).memory :=
 laidMetH_of_parts3 (fuel := 8) (laidMet_of_run' 8 (by kernel_rfl) (by kernel_rfl)) (by kernel_rfl) (by kernel_rfl)
theorem plain5 {W : World} (h : laidMetH Tryz.prog laid5 W) : laidMet Tryz.prog laid5 W := by
 rwa [MakeChecks.laidMetH_plain _ _ _ (by kernel_rfl)] at h
theorem tab_of_laid5 {W : World} (h : laidMetH Tryz.prog laid5 W) : Tab W := by
 have h2 : laidMet Tryz.prog (("internal/strconv.uint64pow10", Lib.tabData .u64 Lib.pow10Tab) :: [("strconv.ErrRange", Rows.laid_strconv_ErrRange), ("strconv.ErrSyntax", Rows.laid_strconv_ErrSyntax)]) W := laidMet.tail (laidMet.tail (plain5 h))
 exact Lib.tabIs_of_head gTab (t := 215) (e := 162) (n := 20) (by kernel_rfl) (by kernel_rfl) (by kernel_rfl) (by kernel_rfl) (by kernel_rfl) h2
theorem tab64_of_laid5 {W : World} (h : laidMetH Tryz.prog laid5 W) : Tab64 W := by
 have h2 := laidMet.tail (plain5 h)
 rw [laid64_tab] at h2
 exact tab64_of (Lib.tabIs_of_head gTab64 (t := 186) (e := 5) (n := 64) (by kernel_rfl) (by kernel_rfl) (by kernel_rfl) (by kernel_rfl) (by kernel_rfl) h2)
theorem errStar : "*" ++ "errors.errorString" = "*errors.errorString" := by decide
theorem errRow (u : TypeId) (h : Tryz.prog.typeName? 3 u = some "*errors.errorString") : u = 231 :=
 typeName_ptr_named (nm := "errors.errorString") (by rw [errStar]; kernel_rfl) (by kernel_rfl) (by decide) u (by rw [errStar]; exact h)
theorem gErr : Tryz.prog.globalNamed "strconv.ErrRange" = some 2 := by kernel_rfl
theorem err_of_laid5 {W : World} (h : laidMetH Tryz.prog laid5 W) : ErrT W := by
 have h2 : laidMet Tryz.prog (("strconv.ErrRange", .iface "*errors.errorString" (.ptr (.agg [.lit (.string [118, 97, 108, 117, 101, 32, 111, 117, 116, 32, 111, 102, 32, 114, 97, 110, 103, 101])]))) :: [("strconv.ErrSyntax", Rows.laid_strconv_ErrSyntax)]) W := laidMet.tail (laidMet.tail (laidMet.tail (plain5 h)))
 obtain ⟨a, s, hv, _⟩ := laid_sentinel (ti := 105) (tp := 231) (te := 233) (ts := 9) h2 gErr (by kernel_rfl) Tryz.underlying105 errRow Tryz.underlying231 Tryz.underlying233 rfl rfl Tryz.underlying9 (by kernel_rfl) (by kernel_rfl)
 refine ⟨.iface 231 (.pointer (some a)), ?_, .inr ⟨_, _, rfl⟩⟩
 have := World.var?_cell gErr hv 0
 simpa using this
end Go.Proofs.YtmafghdgmdbpnaaGreatDoor
