/- Proved here: a number is at least its floor, and less than its floor and 1; the floor is an integer, and only integers are their own floors. The law RationalFloor returns true for every input, and its arguments read behind the call as before. Conditions: the row's own, the listed tables hold their numbers. -/
import Derived.Shelf.Strconv.Atoi
import Derived.Shelf.Strconv.AtoiErrFast
import Derived.Shelf.Strconv.ParseIntEmpty
import Derived.Shelf.Strconv.AtoiFail
import Derived.Shelf.Strconv.Clone
import Derived.Shelf.Strconv.SyntaxError
import Derived.Shelf.LaysC
import Derived.Shelf.Strconv.ToError
import Derived.Shelf.Strconv.AtoiErr
import Derived.Shelf.Strconv.ErrVar
import Derived.Shelf.Strconv.Lower
import Derived.Shelf.Strconv.ParseUint10
import Derived.Shelf.Strconv.ParseUint10Empty
import Derived.Shelf.Strconv.ParseUint10Any
import Derived.Shelf.Strconv.ParseInt10
import Derived.Shelf.Strconv.AtoiLong
import Derived.Shelf.Strconv.AtoiInnerAll
import Derived.Shelf.Strconv.RangeError
import Derived.Shelf.Strconv.ToErrorRange
import Derived.Shelf.Strconv.AtoiAll
import Derived.Shelf.Strconv.ErrVarAll
import Derived.Ground.Names2Prog
import Derived.Shelf.Slices.SearchI
import Derived.Lib.AtoiAllCases
import Derived.Lib.SmallJoins
import Derived.RowKitTokens
import Derived.Test.YtmafghdgmdbpnaaGreatDoorQZ1
import Derived.Test.YtmafghdgmdbpnaaGreatDoorQZ2
import Derived.Test.YtmafghdgmdbpnaaGreatDoorQZ24
import Derived.Test.YtmafghdgmdbpnaaGreatDoorQZ32
set_option linter.all false
set_option maxRecDepth 100000
set_option maxHeartbeats 8000000
namespace Go.Proofs.YtmafghdgmdbpnaaGreatDoor
open Go.RowKit
def I64 (z : Int) : Prop := -9223372036854775808 ≤ z ∧ z ≤ 9223372036854775807
theorem I64.short {z : Int} (h : I64 z) : short z :=
 Nat.lt_of_le_of_lt (show z.natAbs ≤ 9223372036854775808 by unfold I64 at h; omega) (Nat.lt_of_lt_of_le (by decide : 9223372036854775808 < tenTo 19) (tenTo_mono (by decide : 19 ≤ 300)))
theorem Of_q (n d : Int) (w : World) (hn : I64 n) (hd : I64 d) (h0 : d ≠ 0) (ht : Tab w) (ht2 : Tab64 w) :
   Calls Tryz.prog 26 #[.int .i64 n, .int .i64 d] w fun e W' => e = .returned (.tuple #[.string (strQ (Rat.divInt n d)), .int .i64 0]) ∧ Below w.heap.size w W' := by
 have c1 := fun W (h : Below w.heap.size w W) => lowestM_any n d W hn.1 hn.2 hd.1 hd.2 h0 (ht.next h) (TabQ_next ht2 h)
 have c2 := fun W (h : Below w.heap.size w W) => Itoa_any n W hn.1 hn.2 (ht.next h)
 have c3 := fun W (h : Below w.heap.size w W) => Itoa_any d W hd.1 hd.2 (ht.next h)
 have c4 : CqB w 76 #[.agg #[.string (strB n), .int .i64 0, .string (strB d), .int .i64 0]] (.tuple #[.string (strQ (Rat.divInt n d)), .int .i64 0]) := fun W h =>
   lowestL_any (some n) (some d) W (some_wf hn.short) (some_wf hd.short) (fun e => h0 (Option.some.inj e)) (ht.next h)
 have n0 : (d == 0) = false := by rw [beq_eq_false_iff_ne]; exact h0
 have hR : lowRE n d = 0 → lowR n d = strQ (Rat.divInt n d) := fun h => lowR_ne (lowRE_ne h).1 (lowRE_ne h).2
 by_cases he : lowRE n d = 0
 · rw [he, hR he] at c1
   have C := Lib.hid c1
   clear c1 c2 c3 c4 ht ht2 hn hd h0 hR he
   generalize strQ (Rat.divInt n d) = r at *
   go_enter Tryz.func26, Tryz.ntmps26
   go_wp2_with fail
   refine (C.out _ (Below.refl _ _)).mono ?_
   rintro e w1 ⟨rfl, b⟩
   have H1 := Lib.hid b; clear b
   go_wp2
   go_ret2
   exact ⟨rfl, H1.out⟩
 · obtain ⟨m1, m2⟩ := bool_ne he
   have C := Lib.hid (And.intro c1 (And.intro c2 (And.intro c3 c4)))
   clear c1 c2 c3 c4 ht ht2 hn hd h0 hR he
   generalize lowRE n d = e1 at *
   generalize lowR n d = r1 at *
   generalize strQ (Rat.divInt n d) = r at *
   generalize strB n = sn at *
   generalize strB d = sd at *
   go_enter Tryz.func26, Tryz.ntmps26
   go_wp2_with fail
   refine (C.out.1 _ (Below.refl _ _)).mono ?_
   rintro e w1 ⟨rfl, b⟩
   have H1 := Lib.hid b; clear b
   go_wp2_with fail
   refine (C.out.2.1 _ H1.out).mono ?_
   rintro e w2 ⟨rfl, b⟩
   have H2 := Lib.hid (H1.out.trans (b.mono H1.out.size)); clear b H1
   go_wp2_with fail
   refine (C.out.2.2.1 _ H2.out).mono ?_
   rintro e w3 ⟨rfl, b⟩
   have H3 := Lib.hid (H2.out.trans (b.mono H2.out.size)); clear b H2
   go_wp2_with fail
   refine (C.out.2.2.2 _ H3.out).mono ?_
   rintro e w4 ⟨rfl, b⟩
   have H4 := Lib.hid (H3.out.trans (b.mono H3.out.size)); clear b H3
   go_wp2
   go_ret2
   exact ⟨rfl, H4.out⟩
end Go.Proofs.YtmafghdgmdbpnaaGreatDoor
namespace Go.Proofs
open Go.Shelf
def Tryz.laysC172_ren : Go.Shelf.Ren := ⟨fun | 172 => 84 | 244 => 122 | 245 => 123 | 247 => 151 | 279 => 152 | 280 => 153 | 281 => 154 | 282 => 155 | 287 => 173 | 316 => 174 | 171 => 77 | 205 => 175 | 321 => 195 | 322 => 196 | 243 => 110 | 246 => 139 | 283 => 158 | 284 => 159 | 285 => 160 | 286 => 161 | 129 => 181 | 317 => 180 | 318 => 182 | 319 => 183 | 320 => 184 | 337 => 200 | 338 => 132 | n => n, fun | 9 => 9 | 3 => 3 | 75 => 105 | 76 => 106 | 4 => 4 | 5 => 5 | 167 => 180 | 37 => 155 | 0 => 0 | 85 => 181 | 2 => 2 | 168 => 183 | 53 => 162 | 175 => 205 | 46 => 187 | 210 => 208 | 127 => 230 | 145 => 233 | 143 => 231 | 21 => 21 | 171 => 189 | 173 => 191 | 212 => 215 | 51 => 216 | 20 => 20 | 213 => 217 | 232 => 244 | 233 => 186 | 80 => 245 | n => n, fun | 15 => 1 | 16 => 2 | 17 => 3 | 18 => 5 | 19 => 0 | n => n⟩
theorem Tryz.laysC172 : Go.Proofs.LaysC.n172 Tryz.prog Tryz.laysC172_ren := {
 mixed := by kernel_rfl
 f129 := Tryz.func181.trans (congrArg some (by kernel_rfl))
 f171 := Tryz.func77.trans (congrArg some (by kernel_rfl))
 f172 := Tryz.func84.trans (congrArg some (by kernel_rfl))
 f205 := Tryz.func175.trans (congrArg some (by kernel_rfl))
 f243 := Tryz.func110.trans (congrArg some (by kernel_rfl))
 f244 := Tryz.func122.trans (congrArg some (by kernel_rfl))
 f245 := Tryz.func123.trans (congrArg some (by kernel_rfl))
 f246 := Tryz.func139.trans (congrArg some (by kernel_rfl))
 f247 := Tryz.func151.trans (congrArg some (by kernel_rfl))
 f279 := Tryz.func152.trans (congrArg some (by kernel_rfl))
 f280 := Tryz.func153.trans (congrArg some (by kernel_rfl))
 f281 := Tryz.func154.trans (congrArg some (by kernel_rfl))
 f282 := Tryz.func155.trans (congrArg some (by kernel_rfl))
 f283 := Tryz.func158.trans (congrArg some (by kernel_rfl))
 f284 := Tryz.func159.trans (congrArg some (by kernel_rfl))
 f285 := Tryz.func160.trans (congrArg some (by kernel_rfl))
 f286 := Tryz.func161.trans (congrArg some (by kernel_rfl))
 f287 := Tryz.func173.trans (congrArg some (by kernel_rfl))
 f316 := Tryz.func174.trans (congrArg some (by kernel_rfl))
 f317 := Tryz.func180.trans (congrArg some (by kernel_rfl))
 f318 := Tryz.func182.trans (congrArg some (by kernel_rfl))
 f319 := Tryz.func183.trans (congrArg some (by kernel_rfl))
 f320 := Tryz.func184.trans (congrArg some (by kernel_rfl))
 f321 := Tryz.func195.trans (congrArg some (by kernel_rfl))
 f322 := Tryz.func196.trans (congrArg some (by kernel_rfl))
 f337 := Tryz.func200.trans (congrArg some (by kernel_rfl))
 f338 := Tryz.func132.trans (congrArg some (by kernel_rfl))
 t0 := Tryz.underlying0
 a0 := Tryz.isAgg0
 z0 := Tryz.sizeOf0
 v0 := Tryz.zeroValue0
 t2 := Tryz.underlying2
 a2 := Tryz.isAgg2
 z2 := Tryz.sizeOf2
 v2 := Tryz.zeroValue2
 t3 := Tryz.underlying3
 a3 := Tryz.isAgg3
 z3 := Tryz.sizeOf3
 v3 := Tryz.zeroValue3
 t4 := Tryz.underlying4
 a4 := Tryz.isAgg4
 z4 := Tryz.sizeOf4
 v4 := Tryz.zeroValue4
 t5 := Tryz.underlying5
 a5 := Tryz.isAgg5
 z5 := Tryz.sizeOf5
 v5 := Tryz.zeroValue5
 t9 := Tryz.underlying9
 a9 := Tryz.isAgg9
 z9 := Tryz.sizeOf9
 v9 := Tryz.zeroValue9
 t20 := Tryz.underlying20
 a20 := Tryz.isAgg20
 z20 := Tryz.sizeOf20
 v20 := Tryz.zeroValue20
 t21 := Tryz.underlying21
 a21 := Tryz.isAgg21
 z21 := Tryz.sizeOf21
 v21 := Tryz.zeroValue21
 t37 := Tryz.underlying155
 a37 := Tryz.isAgg155
 z37 := Tryz.sizeOf155
 v37 := Tryz.zeroValue155
 t46 := Tryz.underlying187
 a46 := Tryz.isAgg187
 z46 := Tryz.sizeOf187
 v46 := Tryz.zeroValue187
 t51 := Tryz.underlying216
 a51 := Tryz.isAgg216
 z51 := Tryz.sizeOf216
 v51 := Tryz.zeroValue216
 t53 := Tryz.underlying162
 a53 := Tryz.isAgg162
 z53 := Tryz.sizeOf162
 v53 := Tryz.zeroValue162
 t75 := Tryz.underlying105
 a75 := Tryz.isAgg105
 z75 := Tryz.sizeOf105
 v75 := Tryz.zeroValue105
 t76 := Tryz.underlying106
 a76 := Tryz.isAgg106
 z76 := Tryz.sizeOf106
 v76 := Tryz.zeroValue106
 t85 := Tryz.underlying181
 a85 := Tryz.isAgg181
 z85 := Tryz.sizeOf181
 v85 := Tryz.zeroValue181
 t127 := Tryz.underlying230
 a127 := Tryz.isAgg230
 z127 := Tryz.sizeOf230
 v127 := Tryz.zeroValue230
 t143 := Tryz.underlying231
 a143 := Tryz.isAgg231
 z143 := Tryz.sizeOf231
 v143 := Tryz.zeroValue231
 t145 := Tryz.underlying233
 a145 := Tryz.isAgg233
 z145 := Tryz.sizeOf233
 v145 := Tryz.zeroValue233
 t167 := Tryz.underlying180
 a167 := Tryz.isAgg180
 z167 := Tryz.sizeOf180
 v167 := Tryz.zeroValue180
 t168 := Tryz.underlying183
 a168 := Tryz.isAgg183
 z168 := Tryz.sizeOf183
 v168 := Tryz.zeroValue183
 t171 := Tryz.underlying189
 a171 := Tryz.isAgg189
 z171 := Tryz.sizeOf189
 v171 := Tryz.zeroValue189
 t173 := Tryz.underlying191
 a173 := Tryz.isAgg191
 z173 := Tryz.sizeOf191
 v173 := Tryz.zeroValue191
 t175 := Tryz.underlying205
 a175 := Tryz.isAgg205
 z175 := Tryz.sizeOf205
 v175 := Tryz.zeroValue205
 t210 := Tryz.underlying208
 a210 := Tryz.isAgg208
 z210 := Tryz.sizeOf208
 v210 := Tryz.zeroValue208
 t212 := Tryz.underlying215
 a212 := Tryz.isAgg215
 z212 := Tryz.sizeOf215
 v212 := Tryz.zeroValue215
 t213 := Tryz.underlying217
 a213 := Tryz.isAgg217
 z213 := Tryz.sizeOf217
 t232 := Tryz.underlying244
 a232 := Tryz.isAgg244
 z232 := Tryz.sizeOf244
 v232 := Tryz.zeroValue244
 t233 := Tryz.underlying186
 a233 := Tryz.isAgg186
 z233 := Tryz.sizeOf186
 v233 := Tryz.zeroValue186
 g15 := by kernel_rfl
 g16 := by kernel_rfl
 g17 := by kernel_rfl
 g18 := by kernel_rfl
 g19 := by kernel_rfl
 t80 := Tryz.underlying245
 a80 := Tryz.isAgg245
 z80 := Tryz.sizeOf245
 v80 := Tryz.zeroValue245
 i0 := by kernel_rfl
 i2 := by kernel_rfl
 i3 := by kernel_rfl
 i4 := by kernel_rfl
 i5 := by kernel_rfl
 i9 := by kernel_rfl
 i20 := by kernel_rfl
 i21 := by kernel_rfl
 i37 := by kernel_rfl
 i46 := by kernel_rfl
 i51 := by kernel_rfl
 i53 := by kernel_rfl
 i75 := by kernel_rfl
 i76 := by kernel_rfl
 i80 := by kernel_rfl
 i85 := by kernel_rfl
 i127 := by kernel_rfl
 i143 := by kernel_rfl
 i145 := by kernel_rfl
 i167 := by kernel_rfl
 i168 := by kernel_rfl
 i171 := by kernel_rfl
 i173 := by kernel_rfl
 i175 := by kernel_rfl
 i210 := by kernel_rfl
 i212 := by kernel_rfl
 i232 := by kernel_rfl
 i233 := by kernel_rfl
 m15 := by kernel_rfl
 m16 := by kernel_rfl
 m17 := by kernel_rfl
 m18 := by kernel_rfl
 m19 := by kernel_rfl
 c0 := by kernel_rfl
 c2 := by kernel_rfl
 c3 := by kernel_rfl
 c4 := by kernel_rfl
 c5 := by kernel_rfl
 c9 := by kernel_rfl
 c20 := by kernel_rfl
 c21 := by kernel_rfl
 c37 := by kernel_rfl
 c46 := by kernel_rfl
 c51 := by kernel_rfl
 c53 := by kernel_rfl
 c75 := by kernel_rfl
 c76 := by kernel_rfl
 c80 := by kernel_rfl
 c85 := by kernel_rfl
 c127 := by kernel_rfl
 c143 := by kernel_rfl
 c145 := by kernel_rfl
 c167 := by kernel_rfl
 c168 := by kernel_rfl
 c171 := by kernel_rfl
 c173 := by kernel_rfl
 c175 := by kernel_rfl
 c210 := by kernel_rfl
 c212 := by kernel_rfl
 c213 := by kernel_rfl
 c232 := by kernel_rfl
 c233 := by kernel_rfl }
open Go.RowKit in
theorem Tryz.strconv_Atoi_ok (s : ByteArray) (hmax : s.size ≤ 9223372036854775806) (v : Int) (h : Lib.atoiAll s.data.toList = .ok v) (w : World) :
   Calls Tryz.prog 84 #[.string s] w fun e w' => e = .returned (.tuple #[.int .i64 v, .nilIface]) ∧ (w' = w ∨ ∃ t, w' = Lib.bytesWorld w 5 t) := Any.strconv_Atoi_ok Tryz.laysC172 s hmax v h w
open Go.RowKit in
theorem Tryz.strconv_Atoi_range (s : ByteArray) (hlim : s.size ≤ 281474976710656) (h : Lib.atoiAll s.data.toList = .range) (ev : Value) (w : World) (hv : w.cell? ⟨2, 0, none⟩ = some ev) (hev : ev = .nilIface ∨ ∃ te pe, ev = .iface te pe) :
   Calls Tryz.prog 84 #[.string s] w fun e w' => ∃ N, e = .returned (.tuple #[.int .i64 (Lib.atoiSat s.data.toList), .iface 183 (.pointer (some ⟨N, 0, none⟩))]) ∧ w.heap.size ≤ N ∧ w'.heap[N]? = some (.cells #[.string ⟨#[65, 116, 111, 105]⟩, .string s, ev] 208 (0, 0)) ∧ Below w.heap.size w w' := Any.strconv_Atoi_range Tryz.laysC172 s hlim h ev w hv hev
end Go.Proofs
namespace Go.Proofs.YtmafghdgmdbpnaaGreatDoor
open Go.Lib
theorem natOf_cons' (c : UInt8) (r : List UInt8) : natOf (c :: r) = (c.toNat - 48) * 10 ^ r.length + natOf r := by
 have h := natOf_append [c] r
 rw [show [c] ++ r = c :: r from rfl] at h
 rw [h]
 have h2 : natOf [c] = c.toNat - 48 := by simp [natOf]
 rw [h2]
theorem isDig_b {c : UInt8} (h : isDig c = true) : 48 ≤ c.toNat ∧ c.toNat ≤ 57 := (isDig_iff c).1 h
theorem parse_digs : ∀ (l : List UInt8) (acc : Nat), acc < 18446744073709551616 → (∀ c ∈ l, isDig c = true) → parseUint10 acc l = if acc * 10 ^ l.length + natOf l < 18446744073709551616 then .ok (acc * 10 ^ l.length + natOf l) else .range
 | [], acc, ha, _ => by
   rw [List.length_nil, Nat.pow_zero, Nat.mul_one, natOf_nil, Nat.add_zero, if_pos ha]; rfl
 | c :: r, acc, ha, h => by
   have hc := isDig_b (h c (by simp))
   have hN : acc * 10 ^ (c :: r).length + natOf (c :: r) = (acc * 10 + (c.toNat - 48)) * 10 ^ r.length + natOf r := by
     rw [natOf_cons', List.length_cons, Nat.pow_succ, Nat.add_mul, Nat.mul_assoc acc 10, Nat.mul_comm 10 (10 ^ r.length)]; omega
   rw [hN]
   have hp : 1 ≤ 10 ^ r.length := Nat.pos_of_ne_zero (by simp)
   have hge : acc * 10 + (c.toNat - 48) ≤ (acc * 10 + (c.toNat - 48)) * 10 ^ r.length := Nat.le_mul_of_pos_right _ hp
   unfold parseUint10
   rw [if_pos hc]
   by_cases h1 : 1844674407370955162 ≤ acc
   · rw [if_pos h1, if_neg (by omega)]
   · rw [if_neg h1]
     by_cases h2 : 18446744073709551616 ≤ acc * 10 + (c.toNat - 48)
     · rw [if_pos h2, if_neg (by omega)]
     · rw [if_neg h2]
       exact parse_digs r _ (by omega) (fun x hx => h x (by simp [hx]))
theorem parseMag_dec (u : Nat) : parseMag (decDigits u) = if u < 18446744073709551616 then .ok u else .range := by
 unfold parseMag
 have hne := decDigits_ne u
 rw [if_neg hne, parse_digs _ 0 (by decide) (decDigits_dig u), Nat.zero_mul, Nat.zero_add, natOf_dec]
theorem atoi_itoa (z : Int) : atoiAll (itoa z) = if -9223372036854775808 ≤ z ∧ z ≤ 9223372036854775807 then .ok z else .range := by
 unfold itoa
 by_cases hz : z < 0
 · rw [if_pos hz, atoiAll_minus, parseMag_dec]
   by_cases h1 : z.natAbs < 18446744073709551616
   · rw [if_pos h1]
     unfold signed
     by_cases h2 : 9223372036854775808 < z.natAbs
     · rw [if_neg (by omega)]; simp only [if_pos h2]
     · rw [if_pos (by omega)]; simp only [if_neg h2]
       rw [show -((z.natAbs : Nat) : Int) = z by omega]
   · rw [if_neg h1, if_neg (by omega)]; rfl
 · rw [if_neg hz]
   have hm := parseMag_dec z.toNat
   have hd := decDigits_dig z.toNat
   generalize decDigits z.toNat = l at *
   cases l with
   | nil => rw [show parseMag [] = .syntax from rfl] at hm; split at hm <;> cases hm
   | cons c r =>
     have hc := isDig_b (hd c (by simp))
     rw [atoiAll_plain c r (by omega) (by omega), hm]
     by_cases h1 : z.toNat < 18446744073709551616
     · rw [if_pos h1]
       unfold signless
       by_cases h2 : 9223372036854775808 ≤ z.toNat
       · rw [if_neg (by omega)]; simp only [if_pos h2]
       · rw [if_pos (by omega)]; simp only [if_neg h2]
         rw [show ((z.toNat : Nat) : Int) = z by omega]
     · rw [if_neg h1, if_neg (by omega)]; rfl
end Go.Proofs.YtmafghdgmdbpnaaGreatDoor
namespace Go.Proofs.YtmafghdgmdbpnaaGreatDoor
open Go.RowKit
def ErrT (w : World) : Prop := ∃ ev, w.cell? ⟨2, 0, none⟩ = some ev ∧ (ev = .nilIface ∨ ∃ te pe, ev = .iface te pe)
theorem ErrT_next {w W : World} (h : ErrT w) (b : Below w.heap.size w W) : ErrT W := by
 obtain ⟨ev, h1, h2⟩ := h
 have hl := World.block_lt_of_cell? w _ h1
 exact ⟨ev, (b.cell (p := ⟨2, 0, none⟩) hl).trans h1, h2⟩
theorem Atoi_in (z : Int) (w : World) (hz : short z) (h : -9223372036854775808 ≤ z ∧ z ≤ 9223372036854775807) :
   Calls Tryz.prog 84 #[.string (strB z)] w fun e W' => e = .returned (.tuple #[.int .i64 z, .nilIface]) ∧ Below w.heap.size w W' := by
 have hs := strB_size hz
 refine (Tryz.strconv_Atoi_ok (strB z) (by omega) z (by rw [strB_data, atoi_itoa, if_pos h]) w).mono ?_
 rintro e W' ⟨he, rfl | ⟨t, rfl⟩⟩
 · exact ⟨he, Below.refl _ _⟩
 · exact ⟨he, Go.Joins.below_bytesWorld _ _ _ _ (Nat.le_refl _)⟩
theorem Atoi_out (z : Int) (w : World) (hz : short z) (h : ¬ (-9223372036854775808 ≤ z ∧ z ≤ 9223372036854775807)) (hE : ErrT w) :
   Calls Tryz.prog 84 #[.string (strB z)] w fun e W' => (∃ v t N, e = .returned (.tuple #[.int .i64 v, .iface t (.pointer (some ⟨N, 0, none⟩))])) ∧ Below w.heap.size w W' := by
 have hs := strB_size hz
 obtain ⟨ev, h1, h2⟩ := hE
 refine (Tryz.strconv_Atoi_range (strB z) (by omega) (by rw [strB_data, atoi_itoa, if_neg h]) ev w h1 h2).mono ?_
 rintro e W' ⟨N, he, _, _, hB⟩
 exact ⟨⟨_, _, N, he⟩, hB⟩
def intR (x : Rat) : Int := if x.den = 1 ∧ -4611686018427387904 ≤ x.num ∧ x.num ≤ 4611686018427387904 then x.num else 0
def intE (x : Rat) : Int := if x.den = 1 then (if -4611686018427387904 ≤ x.num ∧ x.num ≤ 4611686018427387904 then 0 else 2) else 8
theorem den_is1 (x : Rat) : ((strB (x.den : Int)).toList == [49]) = decide (x.den = 1) := by
 rw [← strQ_int, strQ_is1]
 apply decide_eq_decide.2
 rw [← Rat.intCast_one, Rat.intCast_inj]; omega
theorem Int_q (x : Rat) (w : World) (hx : Sq x) (ht : Tab w) (ht2 : Tab64 w) (hE : ErrT w) :
   Calls Tryz.prog 34 #[.string (strQ x)] w fun e W' => e = .returned (.tuple #[.int .i64 (intR x), .int .i64 (intE x)]) ∧ Below w.heap.size w W' := by
 have kp := fun W (h : Below w.heap.size w W) => Parts_q x W hx (ht.next h) (TabQ_next ht2 h)
 have hd := den_is1 x
 by_cases h1 : x.den = 1
 · rw [decide_eq_true h1] at hd
   have hd' : ((strB (x.den : Int)).toList != [49]) = false := by rw [bne, hd]; rfl
   unfold intR intE
   rw [if_pos h1]
   by_cases h2 : -9223372036854775808 ≤ x.num ∧ x.num ≤ 9223372036854775807
   · have ka := fun W (_ : Below w.heap.size w W) => Atoi_in x.num W hx.n h2
     have C := Lib.hid (And.intro kp ka); clear kp ka ht ht2 hE hx
     generalize strQ x = s at *
     generalize strB (x.den : Int) = d at *
     generalize strB x.num = n at *
     by_cases h3 : -4611686018427387904 ≤ x.num ∧ x.num ≤ 4611686018427387904
     · rw [if_pos ⟨h1, h3⟩, if_pos h3]
       clear h1
       generalize x.num = z at *
       go_enter Tryz.func34, Tryz.ntmps34
       go_wp2_with fail
       refine (C.out.1 _ (Below.refl _ _)).mono ?_
       rintro e w1 ⟨rfl, b⟩
       have H1 := Lib.hid b; clear b
       go_wp2_with fail
       refine (C.out.2 _ H1.out).mono ?_
       rintro e w2 ⟨rfl, b⟩
       have H2 := Lib.hid (H1.out.trans (b.mono H1.out.size)); clear b H1
       obtain ⟨h3a, h3b⟩ := h3
       go_wp2
       go_ret2
       exact ⟨rfl, H2.out⟩
     · rw [if_neg (fun h => h3 h.2), if_neg h3]
       clear h1
       generalize x.num = z at *
       have h4 : z < -4611686018427387904 ∨ 4611686018427387904 < z := by omega
       clear h3
       rcases h4 with h4 | h4
       · go_enter Tryz.func34, Tryz.ntmps34
         go_wp2_with fail
         refine (C.out.1 _ (Below.refl _ _)).mono ?_
         rintro e w1 ⟨rfl, b⟩
         have H1 := Lib.hid b; clear b
         go_wp2_with fail
         refine (C.out.2 _ H1.out).mono ?_
         rintro e w2 ⟨rfl, b⟩
         have H2 := Lib.hid (H1.out.trans (b.mono H1.out.size)); clear b H1
         go_wp2
         go_ret2
         exact ⟨rfl, H2.out⟩
       · have h5 : ¬ z < -4611686018427387904 := by omega
         go_enter Tryz.func34, Tryz.ntmps34
         go_wp2_with fail
         refine (C.out.1 _ (Below.refl _ _)).mono ?_
         rintro e w1 ⟨rfl, b⟩
         have H1 := Lib.hid b; clear b
         go_wp2_with fail
         refine (C.out.2 _ H1.out).mono ?_
         rintro e w2 ⟨rfl, b⟩
         have H2 := Lib.hid (H1.out.trans (b.mono H1.out.size)); clear b H1
         go_wp2
         go_ret2
         exact ⟨rfl, H2.out⟩
   · have h3 : ¬ (-4611686018427387904 ≤ x.num ∧ x.num ≤ 4611686018427387904) := by omega
     rw [if_neg (fun h => h3 h.2), if_neg h3]
     have ka := fun W (h : Below w.heap.size w W) => Atoi_out x.num W hx.n h2 (ErrT_next hE h)
     have C := Lib.hid (And.intro kp ka); clear kp ka ht ht2 hE hx h1 h2 h3
     generalize strQ x = s at *
     generalize strB (x.den : Int) = d at *
     generalize strB x.num = n at *
     go_enter Tryz.func34, Tryz.ntmps34
     go_wp2_with fail
     refine (C.out.1 _ (Below.refl _ _)).mono ?_
     rintro e w1 ⟨rfl, b⟩
     have H1 := Lib.hid b; clear b
     go_wp2_with fail
     refine (C.out.2 _ H1.out).mono ?_
     rintro e w2 ⟨⟨v, t, N, rfl⟩, b⟩
     have H2 := Lib.hid (H1.out.trans (b.mono H1.out.size)); clear b H1
     go_wp2
     go_ret2
     exact ⟨rfl, H2.out⟩
 · rw [decide_eq_false h1] at hd
   have hd' : ((strB (x.den : Int)).toList != [49]) = true := by rw [bne, hd]; rfl
   unfold intR intE
   rw [if_neg h1, if_neg (fun h => h1 h.1)]
   have C := Lib.hid kp; clear kp ht ht2 hE hx h1
   generalize strQ x = s at *
   generalize strB (x.den : Int) = d at *
   generalize strB x.num = n at *
   go_enter Tryz.func34, Tryz.ntmps34
   go_wp2_with fail
   refine (C.out _ (Below.refl _ _)).mono ?_
   rintro e w1 ⟨rfl, b⟩
   have H1 := Lib.hid b; clear b
   go_wp2
   go_ret2
   exact ⟨rfl, H1.out⟩
end Go.Proofs.YtmafghdgmdbpnaaGreatDoor
namespace Go.Proofs.YtmafghdgmdbpnaaGreatDoor
open Go.ChangeShapes Go.WideShapes Go.ChangeAt Go.RowKit
def laid5 : List (String × DataW Unit) := [("math/bits.deBruijn32tab", Rows.laid_math_bits_deBruijn32tab), ("math/bits.deBruijn64tab", Rows.laid_math_bits_deBruijn64tab), ("internal/strconv.uint64pow10", Rows.laid_internal_strconv_uint64pow10), ("strconv.ErrRange", Rows.laid_strconv_ErrRange), ("strconv.ErrSyntax", Rows.laid_strconv_ErrSyntax)]
theorem door_met5 (os : Os) (args : Array Value) : laidMetH Tryz.prog laid5 ((World.doorLaid Tryz.prog 400 os).forCall (fun _ _ => 0) ⟨#[], args, []⟩).memory :=
 laidMetH_of_parts3 (fuel := 8) (laidMet_of_run' 8 (by kernel_rfl) (by kernel_rfl)) (by kernel_rfl) (by kernel_rfl)
theorem plain5 {W : World} (h : laidMetH Tryz.prog laid5 W) : laidMet Tryz.prog laid5 W := by
 rwa [MakeChecks.laidMetH_plain _ _ _ (by kernel_rfl)] at h
theorem tab_of_laid5 {W : World} (h : laidMetH Tryz.prog laid5 W) : Tab W := by
 have h2 : laidMet Tryz.prog (("internal/strconv.uint64pow10", Lib.tabData .u64 Lib.pow10Tab) :: [("strconv.ErrRange", Rows.laid_strconv_ErrRange), ("strconv.ErrSyntax", Rows.laid_strconv_ErrSyntax)]) W := laidMet.tail (laidMet.tail (plain5 h))
 exact Lib.tabIs_of_head gTab (t := 215) (e := 162) (n := 20) (by kernel_rfl) (by kernel_rfl) (by kernel_rfl) (by kernel_rfl) (by kernel_rfl) h2
theorem tab64_of_laid5 {W : World} (h : laidMetH Tryz.prog laid5 W) : Tab64 W := by
 have h2 := laidMet.tail (plain5 h)
 rw [laid64_tab] at h2
 exact tab64_of (Lib.tabIs_of_head gTab64 (t := 186) (e := 5) (n := 64) (by kernel_rfl) (by kernel_rfl) (by kernel_rfl) (by kernel_rfl) (by kernel_rfl) h2)
theorem errStar : "*" ++ "errors.errorString" = "*errors.errorString" := by decide
theorem errRow (u : TypeId) (h : Tryz.prog.typeName? 3 u = some "*errors.errorString") : u = 231 :=
 typeName_ptr_named (nm := "errors.errorString") (by rw [errStar]; kernel_rfl) (by kernel_rfl) (by decide) u (by rw [errStar]; exact h)
theorem gErr : Tryz.prog.globalNamed "strconv.ErrRange" = some 2 := by kernel_rfl
theorem err_of_laid5 {W : World} (h : laidMetH Tryz.prog laid5 W) : ErrT W := by
 have h2 : laidMet Tryz.prog (("strconv.ErrRange", .iface "*errors.errorString" (.ptr (.agg [.lit (.string [118, 97, 108, 117, 101, 32, 111, 117, 116, 32, 111, 102, 32, 114, 97, 110, 103, 101])]))) :: [("strconv.ErrSyntax", Rows.laid_strconv_ErrSyntax)]) W := laidMet.tail (laidMet.tail (laidMet.tail (plain5 h)))
 obtain ⟨a, s, hv, _⟩ := laid_sentinel (ti := 105) (tp := 231) (te := 233) (ts := 9) h2 gErr (by kernel_rfl) Tryz.underlying105 errRow Tryz.underlying231 Tryz.underlying233 rfl rfl Tryz.underlying9 (by kernel_rfl) (by kernel_rfl)
 refine ⟨.iface 231 (.pointer (some a)), ?_, .inr ⟨_, _, rfl⟩⟩
 have := World.var?_cell gErr hv 0
 simpa using this
end Go.Proofs.YtmafghdgmdbpnaaGreatDoor
namespace Go.Proofs.YtmafghdgmdbpnaaGreatDoor
open Go.RowKit
theorem do_core (k : FuncId) (cb : Nat) (a b r : ByteArray) (w : World) (eg : ∀ args W, (callFunc k args).run Tryz.prog W = .ok (.enter k args) W) (hb : Blk w cb #[.bool false])
   (h : Calls Tryz.prog k #[.string a, .string b] w fun e W' => e = .returned (.tuple #[.string r, .int .i64 0]) ∧ Below w.heap.size w W') :
   Calls Tryz.prog 38 #[.pointer (some ⟨cb, 0, none⟩), .func (.func k) #[] #[], .string a, .string b] w fun e W' => e = .returned (.string r) ∧ Below w.heap.size w W' := by
 have C := Lib.hid (And.intro h hb); clear h hb
 go_enter Tryz.func38, Tryz.ntmps38
 go_wp2_with fail
 refine C.out.1.mono ?_
 rintro e w1 ⟨rfl, b⟩
 have K1 := C.out.2.next b
 have H1 := Lib.hid (below_same b K1 (j := 0) (u := .bool false) rfl)
 have c0 := K1.cell 0 (.bool false) rfl
 have f0 := K1.free 0
 clear K1 b
 go_wp2
 go_ret
 exact ⟨rfl, H1.out⟩
theorem clo1 (kb cb : Nat) (a b r : ByteArray) (w : World) (hk : Blk w kb #[.pointer (some ⟨cb, 0, none⟩)]) (hb : Blk w cb #[.bool false])
   (h : Calls Tryz.prog 13 #[.string a, .string b] w fun e W' => e = .returned (.tuple #[.string r, .int .i64 0]) ∧ Below w.heap.size w W') :
   Calls Tryz.prog 37 #[.string a, .string b, .pointer (some ⟨kb, 0, none⟩)] w fun e W' => e = .returned (.string r) ∧ Below w.heap.size w W' := by
 have C := Lib.hid (do_core _ cb a b r w (enters_of Tryz.func13 (by kernel_rfl) rfl) hb h)
 have c0 := hk.cell 0 (.pointer (some ⟨cb, 0, none⟩)) rfl
 clear h hb hk
 go_enter Tryz.func37, Tryz.ntmps37
 go_wp2_with fail
 refine C.out.mono ?_
 rintro e w1 ⟨rfl, b⟩
 have H1 := Lib.hid b; clear b
 go_wp2
 go_ret
 exact ⟨rfl, H1.out⟩
theorem clo2 (kb cb : Nat) (a b r : ByteArray) (w : World) (hk : Blk w kb #[.pointer (some ⟨cb, 0, none⟩)]) (hb : Blk w cb #[.bool false])
   (h : Calls Tryz.prog 15 #[.string a, .string b] w fun e W' => e = .returned (.tuple #[.string r, .int .i64 0]) ∧ Below w.heap.size w W') :
   Calls Tryz.prog 39 #[.string a, .string b, .pointer (some ⟨kb, 0, none⟩)] w fun e W' => e = .returned (.string r) ∧ Below w.heap.size w W' := by
 have C := Lib.hid (do_core _ cb a b r w (enters_of Tryz.func15 (by kernel_rfl) rfl) hb h)
 have c0 := hk.cell 0 (.pointer (some ⟨cb, 0, none⟩)) rfl
 clear h hb hk
 go_enter Tryz.func39, Tryz.ntmps39
 go_wp2_with fail
 refine C.out.mono ?_
 rintro e w1 ⟨rfl, b⟩
 have H1 := Lib.hid b; clear b
 go_wp2
 go_ret
 exact ⟨rfl, H1.out⟩
theorem fl_le (x : Rat) : cmpQ ((x.num.fdiv x.den : Int) : Rat) x = if x.den = 1 then 0 else -1 := by
 have hd : (0 : Int) < x.den := by have := x.den_nz; omega
 have e1 : x.num.fdiv x.den = x.num / (x.den : Int) := Int.fdiv_eq_ediv_of_nonneg _ (by omega)
 have h1 := Int.ediv_mul_le x.num (b := (x.den : Int)) (by omega)
 unfold cmpQ
 rw [Rat.num_intCast, Rat.den_intCast, e1]
 by_cases h : x.den = 1
 · rw [if_pos h, h]
   show cmpZ (x.num / 1 * 1) (x.num * 1) = 0
   rw [Int.ediv_one]; unfold cmpZ; rw [if_neg (by omega), if_neg (by omega)]
 · rw [if_neg h]
   have h2 : x.num / (x.den : Int) * (x.den : Int) ≠ x.num := by
     intro he
     have hdv : (x.den : Int) ∣ x.num := ⟨_, by rw [Int.mul_comm]; exact he.symm⟩
     have hn : x.den ∣ x.num.natAbs := Int.ofNat_dvd_left.1 hdv
     have hg := x.reduced
     unfold Nat.Coprime at hg
     rw [Nat.gcd_eq_right hn] at hg
     exact h hg
   unfold cmpZ
   rw [if_pos]
   show x.num / (x.den : Int) * (x.den : Int) < x.num * ((1 : Nat) : Int)
   omega
theorem lt_fl (x : Rat) : cmpQ x (((x.num.fdiv x.den : Int) : Rat) + 1) = -1 := by
 have hd : (0 : Int) < x.den := by have := x.den_nz; omega
 have e1 : x.num.fdiv x.den = x.num / (x.den : Int) := Int.fdiv_eq_ediv_of_nonneg _ (by omega)
 have h1 := Int.lt_ediv_add_one_mul_self x.num hd
 have e2 : ((x.num.fdiv x.den : Int) : Rat) + 1 = ((x.num.fdiv x.den + 1 : Int) : Rat) := by rw [Rat.intCast_add, Rat.intCast_one]
 rw [e2]
 unfold cmpQ
 rw [Rat.num_intCast, Rat.den_intCast, e1]
 unfold cmpZ
 rw [if_pos]
 show x.num * ((1 : Nat) : Int) < _
 omega
theorem fl_bd {k : Nat} {x : Rat} (h : Bq k x) : Bd k (x.num.fdiv x.den) := Nat.lt_of_le_of_lt (fdiv_abs (x := x.num) (den_0 x)).1 h.num
theorem fl_self {x : Rat} (h : x.den = 1) : x.num.fdiv x.den = x.num ∧ (x.num : Rat) = x := by
 refine ⟨by rw [h]; exact Int.fdiv_one _, ?_⟩
 exact of_decide_eq_true ((num_is x).trans (decide_eq_true h))
theorem RationalFloor_any (a : ByteArray) (w : World) (ha : a.size ≤ maxLen) (ht : Tab w) (ht2 : Tab64 w) (hE : ErrT w) :
   Calls Tryz.prog 8 #[.string a] w fun e W' => e = .returned (.bool true) ∧ Below w.heap.size w W' := by
 have hfin := Lib.hid (fun B W (hb : B < W.heap.size) (h0 : W.cell? ⟨B, 0, none⟩ = some (.string a)) (h : Below w.heap.size w W) => fineQ1 a B W ha hb h0 (ht.next h))
 clear ha
 by_cases hf : fineQ a = true
 · rw [hf] at hfin
   obtain ⟨x, rfl, hx⟩ := fineQ_str hf
   clear hf
   have sx : Sq x := hx.lim (by decide)
   have bf := Bq_int (by decide : 1 ≤ 60) (fl_bd hx)
   have o1 := fun W (h : Below w.heap.size w W) => Floor_q x W sx (ht.next h) (TabQ_next ht2 h)
   have o2 := fun W (h : Below w.heap.size w W) => Add_q ((x.num.fdiv x.den : Int) : Rat) 1 W (bf.lim (by decide)) (Bq_one.lim (by decide)) (ht.next h) (TabQ_next ht2 h)
   obtain ⟨a1, a2, a3⟩ := qadd_ok bf Bq_one (by decide)
   rw [a1, a2, strQ_int, strQ_one] at o2
   have o3 := fun W (h : Below w.heap.size w W) => Compare_q ((x.num.fdiv x.den : Int) : Rat) x W (bf.lim (by decide)) sx (ht.next h) (TabQ_next ht2 h)
   rw [(qcmp_ok bf hx (by decide)).1, (qcmp_ok bf hx (by decide)).2, strQ_int, fl_le] at o3
   have o4 := fun W (h : Below w.heap.size w W) => Compare_q x (((x.num.fdiv x.den : Int) : Rat) + 1) W sx (a3.lim (by decide)) (ht.next h) (TabQ_next ht2 h)
   rw [(qcmp_ok hx a3 (by decide)).1, (qcmp_ok hx a3 (by decide)).2, lt_fl] at o4
   have o5 := fun W (h : Below w.heap.size w W) => Parts_q ((x.num.fdiv x.den : Int) : Rat) W (bf.lim (by decide)) (ht.next h) (TabQ_next ht2 h)
   rw [strQ_int, Rat.num_intCast, Rat.den_intCast, show strB ((1 : Nat) : Int) = ⟨#[49]⟩ from strB_one] at o5
   have o6 := fun W (h : Below w.heap.size w W) => Int_q x W sx (ht.next h) (TabQ_next ht2 h) (ErrT_next hE h)
   unfold intR intE at o6
   have oA := fun W (h : Below w.heap.size w W) => awake2_any W (ht.next h) (TabQ_next ht2 h)
   have hFF := strB_toQ (x.num.fdiv x.den) x
   clear a1 a2 a3 bf
   by_cases h1 : x.den = 1
   · rw [if_pos h1] at o3 o6
     obtain ⟨f1, f2⟩ := fl_self h1
     have f3 : strB x.num = strQ x := by rw [← strQ_int, f2]
     rw [f1] at o1 o2 o4 o5
     rw [f1] at o3
     rw [f2] at o2 o4
     rw [f3] at o1 o2 o3 o5
     clear hFF
     by_cases h2 : -4611686018427387904 ≤ x.num ∧ x.num ≤ 4611686018427387904
     · rw [if_pos ⟨h1, h2⟩, if_pos h2] at o6
       have o7 := fun W (h : Below w.heap.size w W) => Of_q x.num 1 W ⟨by omega, by omega⟩ ⟨by decide, by decide⟩ (by decide) (ht.next h) (TabQ_next ht2 h)
       rw [show Rat.divInt x.num 1 = x by show Rat.divInt x.num ((1 : Nat) : Int) = x; rw [← h1]; exact Rat.num_divInt_den x] at o7
       clear h1 h2 f1 f2 f3
       generalize x.num = z at *
       have O := Lib.hid ((And.intro o1 (And.intro o2 (And.intro o3 (And.intro o4 (And.intro o5 (And.intro o6 (And.intro o7 oA))))))))
       clear o1 o2 o3 o4 o5 o6 o7 oA ht ht2 hE hx sx
       generalize strQ (x + 1) = NX at *
       generalize strQ x = s at *
       go_enter Tryz.func8, Tryz.ntmps8
       go_wp2_with fail
       have B0 := (Below.refl w.heap.size w).alloc (Nat.le_refl _) (.cells #[.string s] 22)
       have K0 := Blk.new w #[.string s] 22
       generalize w.alloc (.cells #[.string s] 22) = v0 at *
       have B0 := Lib.hid B0
       refine (hfin.out _ _ K0.lt (K0.cell 0 _ rfl) B0.out).mono ?_
       rintro e v1 ⟨rfl, b⟩
       have B1 := Lib.hid (B0.out.trans (b.mono B0.out.size)); clear b B0 K0
       go_wp2_with fail
       refine (O.out.1 _ B1.out).mono ?_
       rintro e v2 ⟨rfl, b⟩
       have B2 := Lib.hid (B1.out.trans (b.mono B1.out.size)); clear B1
       clear b
       go_wp2_with fail
       refine (O.out.2.1 _ B2.out).mono ?_
       rintro e v3 ⟨rfl, b⟩
       have B3 := Lib.hid (B2.out.trans (b.mono B2.out.size)); clear B2
       clear b
       go_wp2_with fail
       refine (O.out.2.2.1 _ B3.out).mono ?_
       rintro e v4 ⟨rfl, b⟩
       have B4 := Lib.hid (B3.out.trans (b.mono B3.out.size)); clear B3
       clear b
       go_wp2_with fail
       refine (O.out.2.2.2.1 _ B4.out).mono ?_
       rintro e v5 ⟨rfl, b⟩
       have B5 := Lib.hid (B4.out.trans (b.mono B4.out.size)); clear B4
       clear b
       go_wp2_with fail
       refine (O.out.2.2.2.2.1 _ B5.out).mono ?_
       rintro e v6 ⟨rfl, b⟩
       have B6 := Lib.hid (B5.out.trans (b.mono B5.out.size)); clear B5
       clear b
       go_wp2_with fail
       refine (O.out.2.2.2.2.2.1 _ B6.out).mono ?_
       rintro e v7 ⟨rfl, b⟩
       have B7 := Lib.hid (B6.out.trans (b.mono B6.out.size)); clear B6
       clear b
       go_wp2_with fail
       refine (O.out.2.2.2.2.2.2.1 _ B7.out).mono ?_
       rintro e v8 ⟨rfl, b⟩
       have B8 := Lib.hid (B7.out.trans (b.mono B7.out.size)); clear B7
       clear b
       go_wp2_with fail
       refine (O.out.2.2.2.2.2.2.2 _ B8.out).mono ?_
       rintro e v9 ⟨rfl, b⟩
       have B9 := Lib.hid (B8.out.trans (b.mono B8.out.size)); clear b
       go_wp2
       go_ret
       exact ⟨rfl, B9.out⟩
     · rw [if_neg (fun h => h2 h.2), if_neg h2] at o6
       clear h1 h2 f1 f2 f3
       have O := Lib.hid ((And.intro o1 (And.intro o2 (And.intro o3 (And.intro o4 (And.intro o5 (And.intro o6 oA)))))))
       clear o1 o2 o3 o4 o5 o6 oA ht ht2 hE hx sx
       generalize strQ (x + 1) = NX at *
       generalize strQ x = s at *
       go_enter Tryz.func8, Tryz.ntmps8
       go_wp2_with fail
       have B0 := (Below.refl w.heap.size w).alloc (Nat.le_refl _) (.cells #[.string s] 22)
       have K0 := Blk.new w #[.string s] 22
       generalize w.alloc (.cells #[.string s] 22) = v0 at *
       have B0 := Lib.hid B0
       refine (hfin.out _ _ K0.lt (K0.cell 0 _ rfl) B0.out).mono ?_
       rintro e v1 ⟨rfl, b⟩
       have B1 := Lib.hid (B0.out.trans (b.mono B0.out.size)); clear b B0 K0
       go_wp2_with fail
       refine (O.out.1 _ B1.out).mono ?_
       rintro e v2 ⟨rfl, b⟩
       have B2 := Lib.hid (B1.out.trans (b.mono B1.out.size)); clear B1
       clear b
       go_wp2_with fail
       refine (O.out.2.1 _ B2.out).mono ?_
       rintro e v3 ⟨rfl, b⟩
       have B3 := Lib.hid (B2.out.trans (b.mono B2.out.size)); clear B2
       clear b
       go_wp2_with fail
       refine (O.out.2.2.1 _ B3.out).mono ?_
       rintro e v4 ⟨rfl, b⟩
       have B4 := Lib.hid (B3.out.trans (b.mono B3.out.size)); clear B3
       clear b
       go_wp2_with fail
       refine (O.out.2.2.2.1 _ B4.out).mono ?_
       rintro e v5 ⟨rfl, b⟩
       have B5 := Lib.hid (B4.out.trans (b.mono B4.out.size)); clear B4
       clear b
       go_wp2_with fail
       refine (O.out.2.2.2.2.1 _ B5.out).mono ?_
       rintro e v6 ⟨rfl, b⟩
       have B6 := Lib.hid (B5.out.trans (b.mono B5.out.size)); clear B5
       clear b
       go_wp2_with fail
       refine (O.out.2.2.2.2.2.1 _ B6.out).mono ?_
       rintro e v7 ⟨rfl, b⟩
       have B7 := Lib.hid (B6.out.trans (b.mono B6.out.size)); clear B6
       clear b
       go_wp2_with fail
       refine (O.out.2.2.2.2.2.2 _ B7.out).mono ?_
       rintro e v8 ⟨rfl, b⟩
       have B8 := Lib.hid (B7.out.trans (b.mono B7.out.size)); clear b
       go_wp2
       go_ret
       exact ⟨rfl, B8.out⟩
   · rw [if_neg h1] at o3 o6
     rw [if_neg (fun h => h1 h.1)] at o6
     have hF : ((strB (x.num.fdiv x.den)).toList == (strQ x).toList) = false := by
       rw [hFF]
       apply decide_eq_false
       intro he
       have := congrArg Rat.den he
       rw [Rat.den_intCast] at this
       exact h1 this.symm
     have hF' : ((strB (x.num.fdiv x.den)).toList != (strQ x).toList) = true := by rw [bne, hF]; rfl
     clear h1 hFF
     have O := Lib.hid ((And.intro o1 (And.intro o2 (And.intro o3 (And.intro o4 (And.intro o5 (And.intro o6 oA)))))))
     clear o1 o2 o3 o4 o5 o6 oA ht ht2 hE hx sx
     generalize strB (x.num.fdiv x.den) = F at *
     generalize strQ (((x.num.fdiv x.den : Int) : Rat) + 1) = NX at *
     generalize strQ x = s at *
     go_enter Tryz.func8, Tryz.ntmps8
     go_wp2_with fail
     have B0 := (Below.refl w.heap.size w).alloc (Nat.le_refl _) (.cells #[.string s] 22)
     have K0 := Blk.new w #[.string s] 22
     generalize w.alloc (.cells #[.string s] 22) = v0 at *
     have B0 := Lib.hid B0
     refine (hfin.out _ _ K0.lt (K0.cell 0 _ rfl) B0.out).mono ?_
     rintro e v1 ⟨rfl, b⟩
     have B1 := Lib.hid (B0.out.trans (b.mono B0.out.size)); clear b B0 K0
     go_wp2_with fail
     refine (O.out.1 _ B1.out).mono ?_
     rintro e v2 ⟨rfl, b⟩
     have B2 := Lib.hid (B1.out.trans (b.mono B1.out.size)); clear B1
     clear b
     go_wp2_with fail
     refine (O.out.2.1 _ B2.out).mono ?_
     rintro e v3 ⟨rfl, b⟩
     have B3 := Lib.hid (B2.out.trans (b.mono B2.out.size)); clear B2
     clear b
     go_wp2_with fail
     refine (O.out.2.2.1 _ B3.out).mono ?_
     rintro e v4 ⟨rfl, b⟩
     have B4 := Lib.hid (B3.out.trans (b.mono B3.out.size)); clear B3
     clear b
     go_wp2_with fail
     refine (O.out.2.2.2.1 _ B4.out).mono ?_
     rintro e v5 ⟨rfl, b⟩
     have B5 := Lib.hid (B4.out.trans (b.mono B4.out.size)); clear B4
     clear b
     go_wp2_with fail
     refine (O.out.2.2.2.2.1 _ B5.out).mono ?_
     rintro e v6 ⟨rfl, b⟩
     have B6 := Lib.hid (B5.out.trans (b.mono B5.out.size)); clear B5
     clear b
     go_wp2_with fail
     refine (O.out.2.2.2.2.2.1 _ B6.out).mono ?_
     rintro e v7 ⟨rfl, b⟩
     have B7 := Lib.hid (B6.out.trans (b.mono B6.out.size)); clear B6
     clear b
     go_wp2_with fail
     refine (O.out.2.2.2.2.2.2 _ B7.out).mono ?_
     rintro e v8 ⟨rfl, b⟩
     have B8 := Lib.hid (B7.out.trans (b.mono B7.out.size)); clear b
     go_wp2
     go_ret
     exact ⟨rfl, B8.out⟩
 · have hf' : fineQ a = false := by simpa using hf
   rw [hf'] at hfin
   clear hf hf'
   have O := Lib.hid (fun W (h : Below w.heap.size w W) => awake2_any W (ht.next h) (TabQ_next ht2 h))
   clear ht ht2
   go_enter Tryz.func8, Tryz.ntmps8
   go_wp2_with fail
   have B0 := (Below.refl w.heap.size w).alloc (Nat.le_refl _) (.cells #[.string a] 22)
   have K0 := Blk.new w #[.string a] 22
   generalize w.alloc (.cells #[.string a] 22) = v0 at *
   have B0 := Lib.hid B0
   refine (hfin.out _ _ K0.lt (K0.cell 0 _ rfl) B0.out).mono ?_
   rintro e v1 ⟨rfl, b⟩
   have B1 := Lib.hid (B0.out.trans (b.mono B0.out.size)); clear b B0 K0
   go_wp2_with fail
   refine (O.out _ B1.out).mono ?_
   rintro e v2 ⟨rfl, b⟩
   have B2 := Lib.hid (B1.out.trans (b.mono B1.out.size)); clear b
   go_wp2
   go_ret
   exact ⟨rfl, B2.out⟩
end Go.Proofs.YtmafghdgmdbpnaaGreatDoor
namespace Go.Proofs.YtmafghdgmdbpnaaGreatDoor
open Go.ChangeShapes Go.WideShapes Go.ChangeAt Go.RowKit
open Go.ChangeMaps (open_string shut_string)
theorem rationalFloor_lifted (os : Os) (started : os.Started) (H : Type) (enc : TypeId × Value → H) :
   ReturnsInHanded {} Tryz.checked os 8 .any (fun w args => (Rows.rationalFloorSpec.pre enc Tryz.prog Tryz.f8 [] false w args ∧ laidMetH Tryz.prog laid5 w) ∧ sizedMet enc Tryz.prog Tryz.f8 (OpenSpec.ofChange Rows.rationalFloorSpec) false w args)
     (Rows.rationalFloorSpec.post enc Tryz.prog Tryz.f8 false true false false) := by
 refine returnsInHanded_of_change_and (C := Tryz.checked) (X := fun w _ => laidMetH Tryz.prog laid5 w) (fun _ _ _ hh h => h.of_heap hh) own started (by kernel_rfl) Tryz.func8
   (ChangeSpec.witness_shaped (enc := enc) (C := Tryz.checked) (os := os) (X := fun w _ => laidMetH Tryz.prog laid5 w) false (World.doorLaid Tryz.prog 400 os) #[.string ⟨#[]⟩] 8 rfl (World.shaped_of_RefB (by kernel_rfl) (by kernel_rfl)) (by kernel_rfl) (by kernel_rfl) (by kernel_rfl) (door_met5 os _)) ?_
 intro W base args ds gs before hval0 hW _ _ hL _
 have hval : ∀ (j : Nat) t v, Tryz.f8.params[j]? = some t → args[j]? = some v → Value.okWide Tryz.prog W .any base t v := hval0
 have hW' := hW
 obtain ⟨p, q, hA0, hV, rfl, hfz, hnd⟩ := hW
 have hA : DataW.TrodAll enc Tryz.prog W 0 (fun _ => true) true Tryz.f8.params.toList args.toList ds p := hA0
 rw [Tryz.params8] at hA hval
 obtain ⟨v0, d0, rfl, rfl, h0⟩ := trodAll_one hA
 obtain ⟨rfl, rfl⟩ := trodVars_none hV
 obtain ⟨s0, rfl, rfl, rfl, z0⟩ := open_string Tryz.underlying22 (hval 0 22 v0 rfl rfl) h0
 clear hA0 hval0
 refine (RationalFloor_any s0 W z0 (tab_of_laid5 hL) (tab64_of_laid5 hL) (err_of_laid5 hL)).mono fun e W' ⟨he, bel⟩ => ?_
 subst he
 exact ⟨_, rfl, _, _, _, [], _, [], hW', trodAll_mk1 (shut_bool Tryz.underlying4 _), trodAll_mk1 (shut_string Tryz.underlying22 z0), rfl, bel.frame _, fun h => by cases h⟩
theorem rationalFloor_over : Rows.RationalFloorSaid :=
 OpenClaim.holds_of_wide 8 Tryz.f8 rfl rfl rfl rfl rfl rfl rfl ⟨rfl, rfl, rfl, rfl, rfl⟩ rfl rfl rfl rfl rfl (by kernel_rfl) Tryz.func8 (by kernel_rfl)
   (of_decide_eq_true (by kernel_rfl)) (by unfold Func.isWrapper; first | (rw [if_pos (by decide +kernel)]; kernel_rfl) | (rw [if_neg (by decide +kernel)]; exact ⟨rfl, rfl⟩))
   (fun os started H enc _ => rationalFloor_lifted os started H enc)
theorem rationalFloor_proved : Rows.RationalFloorCardSaid :=
 Claim7.holds_tied_plain_at .later [] [.data, .data, .data, .sentinel, .sentinel] true (true, "c5e0d21a5a41f479a183c420c2e54b6c89083f44158d8e981b1170a56436208f") true
   rationalFloor_over (fun _ h => by cases h) (by kernel_rfl) (fun _ h => by cases h) rationalFloor_row_tie rfl ⟨rfl, rfl⟩ (by kernel_rfl) rfl
   (fun f fn hf hfn => by
     obtain rfl : f = 8 := Option.some.inj ((show Tryz.prog.funcNamed "kingpost/kingpostlaw02.RationalFloor" = some 8 by kernel_rfl).symm.trans hf) |>.symm
     obtain rfl : fn = Tryz.f8 := (Option.some.inj (Tryz.func8.symm.trans hfn)).symm
     exact ⟨by kernel_rfl, fun j t ht => by
       rw [Tryz.params8] at ht
       have hm : t ∈ [22] := by simpa using Array.mem_of_getElem? ht
       have hall : ([22].all fun u => !Tryz.prog.wantsStandIn u) = true := by kernel_rfl
       exact (show Tryz.prog.wantsStandIn t = false by simpa using List.all_eq_true.1 hall t hm)⟩)
   (by kernel_rfl)
#print axioms rationalFloor_proved
end Go.Proofs.YtmafghdgmdbpnaaGreatDoor
