/- Parts of the proof of the text YtpkloolckbhdaaaGreatDoorQD31. -/
import Derived.Lib.IndexMore
import Derived.Lib.IndexBytes
import Derived.Deep.AppendSrc
import Derived.Deep.MidRow
import Derived.Test.YtpkloolckbhdaaaGreatDoorQD1
import Derived.Test.YtpkloolckbhdaaaGreatDoorQD15
import Derived.Test.YtpkloolckbhdaaaGreatDoorQD3
import Derived.Test.YtpkloolckbhdaaaGreatDoorQD6
import Derived.Test.YtpkloolckbhdaaaGreatDoorQD8
set_option linter.all false
set_option maxRecDepth 100000
set_option maxHeartbeats 8000000
namespace Go.Proofs.YtpkloolckbhdaaaGreatDoor
open Go.Lib
def strQ (q : Rat) : ByteArray := ⟨(itoaQ q).toArray⟩
theorem strQ_data (q : Rat) : (strQ q).data.toList = itoaQ q := by unfold strQ; simp
theorem strQ_rat (q : Rat) : ratOf (strQ q).data.toList = q := by rw [strQ_data, ratOf_itoaQ]
theorem strQ_chk {q : Rat} (h : q.num.natAbs < lim) (h' : q.den < lim) : chkQ (strQ q).data.toList = 0 := by rw [strQ_data, chkQ_itoaQ, if_pos ⟨h, h'⟩]
theorem str_of_chkQ {s : ByteArray} (h : chkQ s.data.toList = 0) : s = strQ (ratOf s.data.toList) := by
 unfold strQ; rw [itoaQ_ratOf h]
theorem strQ_inj {x y : Rat} (h : strQ x = strQ y) : x = y := by rw [← strQ_rat x, ← strQ_rat y, h]
def short (z : Int) : Prop := z.natAbs < lim
instance (z : Int) : Decidable (short z) := inferInstanceAs (Decidable (_ < _))
def lowB (n d : Int) : ByteArray := if short n ∧ short d then strQ (Rat.divInt n d) else ⟨#[]⟩
def lowE (n d : Int) : Int := if short n ∧ short d then 0 else 4
def crossOK (x y : Rat) : Prop := short (x.num * y.den) ∧ short (y.num * x.den)
instance (x y : Rat) : Decidable (crossOK x y) := inferInstanceAs (Decidable (_ ∧ _))
def qsubB (x y : Rat) : ByteArray := if crossOK x y then lowB (x.num * y.den - y.num * x.den) (x.den * y.den) else ⟨#[]⟩
def qsubE (x y : Rat) : Int := if crossOK x y then lowE (x.num * y.den - y.num * x.den) (x.den * y.den) else 4
def qmulB (x y : Rat) : ByteArray := lowB (x.num * y.num) (x.den * y.den)
def qmulE (x y : Rat) : Int := lowE (x.num * y.num) (x.den * y.den)
def qdivB (x y : Rat) : ByteArray := lowB (x.num * y.den) (y.num * x.den)
def qdivE (x y : Rat) : Int := lowE (x.num * y.den) (y.num * x.den)
def cmpQ (x y : Rat) : Int := cmpZ (x.num * y.den) (y.num * x.den)
def qcmpR (x y : Rat) : Int := if crossOK x y then cmpQ x y else 0
def qcmpE (x y : Rat) : Int := if crossOK x y then 0 else 4
theorem sub_int (x y : Rat) : Rat.divInt (x.num * y.den - y.num * x.den) (x.den * y.den) = x - y := by
 rw [Rat.sub_def', ← Rat.divInt_ofNat, Int.natCast_mul]
theorem mul_int (x y : Rat) : Rat.divInt (x.num * y.num) (x.den * y.den) = x * y := by
 rw [Rat.mul_def', ← Rat.divInt_ofNat, Int.natCast_mul]
theorem div_int (x y : Rat) : Rat.divInt (x.num * y.den) (y.num * x.den) = x / y := by
 rw [Rat.div_def, Rat.inv_def, Int.mul_comm y.num]
 conv => rhs; arg 1; rw [← Rat.num_divInt_den x]
 rw [Rat.divInt_mul_divInt]
def Bq (k : Nat) (q : Rat) : Prop := q.num.natAbs < tenTo k ∧ q.den < tenTo k
theorem Bq.lim {k : Nat} {q : Rat} (h : Bq k q) (hk : k ≤ 300) : q.num.natAbs < lim ∧ q.den < lim :=
 ⟨Nat.lt_of_lt_of_le h.1 (tenTo_mono hk), Nat.lt_of_lt_of_le h.2 (tenTo_mono hk)⟩
theorem Bq.up {j k : Nat} {q : Rat} (h : Bq j q) (hk : j ≤ k) : Bq k q :=
 ⟨Nat.lt_of_lt_of_le h.1 (tenTo_mono hk), Nat.lt_of_lt_of_le h.2 (tenTo_mono hk)⟩
theorem Bq.chk {k : Nat} {q : Rat} (h : Bq k q) (hk : k ≤ 300) : chkQ (strQ q).data.toList = 0 := strQ_chk (h.lim hk).1 (h.lim hk).2
theorem Bq.num {k : Nat} {q : Rat} (h : Bq k q) : Bd k q.num := h.1
theorem Bq.den {k : Nat} {q : Rat} (h : Bq k q) : Bd k (q.den : Int) := by show Int.natAbs _ < _; rw [Int.natAbs_natCast]; exact h.2
theorem Bq.of_int {k : Nat} {n d : Int} (hd : d ≠ 0) (h1 : Bd k n) (h2 : Bd k d) : Bq k (Rat.divInt n d) := by
 have h3 : (Rat.divInt n d).num.natAbs ≤ n.natAbs := by
   rw [Rat.num_divInt, Int.natAbs_ediv_of_dvd (by
     refine Int.dvd_trans ?_ (Int.dvd_mul_left _ _)
     exact Int.gcd_dvd_right _ _), Int.natAbs_mul]
   refine Nat.le_trans (Nat.div_le_self _ _) ?_
   have : d.sign.natAbs ≤ 1 := by rcases Int.lt_trichotomy d 0 with q | q | q
                                  · rw [Int.sign_eq_neg_one_of_neg q]; decide
                                  · exact absurd q hd
                                  · rw [Int.sign_eq_one_of_pos q]; decide
   calc _ ≤ 1 * n.natAbs := Nat.mul_le_mul_right _ this
     _ = n.natAbs := Nat.one_mul _
 have h4 : (Rat.divInt n d).den ≤ d.natAbs := by
   rw [Rat.den_divInt, if_neg hd]; exact Nat.div_le_self _ _
 exact ⟨Nat.lt_of_le_of_lt h3 h1, Nat.lt_of_le_of_lt h4 h2⟩
theorem den_ne (x y : Rat) : ((x.den : Int) * y.den) ≠ 0 := by
 have h1 := x.den_nz; have h2 := y.den_nz
 rw [← Int.natCast_mul]
 intro h
 have := Int.ofNat.inj (h : Int.ofNat _ = Int.ofNat 0)
 rcases Nat.mul_eq_zero.1 this with q | q
 · exact h1 q
 · exact h2 q
theorem lowB_ok {k : Nat} {n d : Int} (hk : k ≤ 300) (h1 : Bd k n) (h2 : Bd k d) : lowB n d = strQ (Rat.divInt n d) ∧ lowE n d = 0 := by
 have h : short n ∧ short d := ⟨h1.lt hk, h2.lt hk⟩
 exact ⟨if_pos h, if_pos h⟩
theorem qcross_ok {j k : Nat} {x y : Rat} (hx : Bq j x) (hy : Bq k y) (h : j + k ≤ 300) : crossOK x y :=
 ⟨(hx.num.mul hy.den).lt h, (hy.num.mul hx.den).lt (by omega)⟩
theorem qsub_ok {j k : Nat} {x y : Rat} (hx : Bq j x) (hy : Bq k y) (h : j + k + 1 ≤ 300) : qsubB x y = strQ (x - y) ∧ qsubE x y = 0 ∧ Bq (j + k + 1) (x - y) := by
 have h1 := hx.num.mul hy.den
 have h2 := hy.num.mul hx.den
 rw [Nat.add_comm] at h2
 have h3 := h1.sub h2
 have h4 := (hx.den.mul hy.den).up (Nat.le_succ _)
 obtain ⟨l1, l2⟩ := lowB_ok h h3 h4
 have hc := qcross_ok hx hy (by omega)
 unfold qsubB qsubE
 rw [if_pos hc, if_pos hc, l1, l2, sub_int]
 exact ⟨rfl, rfl, by rw [← sub_int]; exact Bq.of_int (den_ne x y) h3 h4⟩
theorem qmul_ok {j k : Nat} {x y : Rat} (hx : Bq j x) (hy : Bq k y) (h : j + k ≤ 300) : qmulB x y = strQ (x * y) ∧ qmulE x y = 0 ∧ Bq (j + k) (x * y) := by
 have h3 := hx.num.mul hy.num
 have h4 := hx.den.mul hy.den
 obtain ⟨l1, l2⟩ := lowB_ok h h3 h4
 unfold qmulB qmulE
 rw [l1, l2, mul_int]
 exact ⟨rfl, rfl, by rw [← mul_int]; exact Bq.of_int (den_ne x y) h3 h4⟩
theorem qdiv_ok {j k : Nat} {x y : Rat} (hx : Bq j x) (hy : Bq k y) (h : j + k ≤ 300) (h0 : y ≠ 0) : qdivB x y = strQ (x / y) ∧ qdivE x y = 0 ∧ Bq (j + k) (x / y) := by
 have h3 := hx.num.mul hy.den
 have h4 := hy.num.mul hx.den
 rw [Nat.add_comm] at h4
 obtain ⟨l1, l2⟩ := lowB_ok h h3 h4
 have hn : y.num * (x.den : Int) ≠ 0 := by
   intro q
   rcases Int.mul_eq_zero.1 q with q | q
   · exact h0 (Rat.num_eq_zero.1 q)
   · exact x.den_nz (Int.ofNat.inj q)
 unfold qdivB qdivE
 rw [l1, l2, div_int]
 exact ⟨rfl, rfl, by rw [← div_int]; exact Bq.of_int hn h3 h4⟩
theorem qcmp_ok {j k : Nat} {x y : Rat} (hx : Bq j x) (hy : Bq k y) (h : j + k ≤ 300) : qcmpR x y = cmpQ x y ∧ qcmpE x y = 0 := by
 have hc := qcross_ok hx hy h
 exact ⟨if_pos hc, if_pos hc⟩
theorem cmpQ_lt {x y : Rat} (h : x < y) : cmpQ x y = -1 := by unfold cmpQ cmpZ; rw [if_pos ((Rat.lt_iff x y).1 h)]
theorem cmpQ_gt {x y : Rat} (h : y < x) : cmpQ x y = 1 := by
 have := (Rat.lt_iff y x).1 h
 unfold cmpQ cmpZ; rw [if_neg (by omega), if_pos this]
theorem cmpQ_eq (x : Rat) : cmpQ x x = 0 := by unfold cmpQ cmpZ; rw [if_neg (by omega), if_neg (by omega)]
theorem ratTri (x y : Rat) : x < y ∨ x = y ∨ y < x := by
 rcases Rat.le_total (a := x) (b := y) with h | h
 · rcases Rat.le_iff_lt_or_eq.1 h with q | q
   · exact Or.inl q
   · exact Or.inr (Or.inl q)
 · rcases Rat.le_iff_lt_or_eq.1 h with q | q
   · exact Or.inr (Or.inr q)
   · exact Or.inr (Or.inl q.symm)
theorem short_num {s : ByteArray} (h : chkQ s.data.toList = 0) (k : Nat) (hs : s.size ≤ k) (hk : 1 ≤ k) : ∃ q : Rat, s = strQ q ∧ Bq k q := by
 refine ⟨_, str_of_chkQ h, ?_⟩
 obtain ⟨_, hn, hd, e1, e2, _⟩ := chkQ_parts h
 have hl : s.data.toList.length = s.size := size_len s
 have part : ∀ l : List UInt8, chk l = 0 → l.length ≤ k → (valOf l).natAbs < tenTo k := by
   intro l hc hlen
   have h1 := natOf_tenTo (szL l) (by
     intro c hc'
     unfold chk at hc
     by_cases h1 : (szL l).all isDig
     · exact List.all_eq_true.1 h1 c hc'
     · simp [h1] at hc)
   rw [valOf_abs]
   refine Nat.lt_of_lt_of_le h1 (tenTo_mono (Nat.le_trans ?_ hlen))
   unfold szL; split <;> simp
 have l1 : (cutN s.data.toList).length ≤ k := by
   rcases cut_eq s.data.toList with ⟨_, h2, _⟩ | ⟨_, h2⟩
   · rw [← h2]; omega
   · have := congrArg List.length h2
     simp only [List.length_append, List.length_cons] at this; omega
 have l2 : (cutD s.data.toList).length ≤ k := by
   rcases cut_eq s.data.toList with ⟨_, _, h2⟩ | ⟨_, h2⟩
   · rw [h2]; exact hk
   · have := congrArg List.length h2
     simp only [List.length_append, List.length_cons] at this; omega
 refine ⟨by rw [e1]; exact part _ hn l1, ?_⟩
 have := part _ hd l2
 rw [← e2, Int.natAbs_natCast] at this
 exact this
end Go.Proofs.YtpkloolckbhdaaaGreatDoor
namespace Go.Proofs.YtpkloolckbhdaaaGreatDoor.T
open Go.Proofs.YtpkloolckbhdaaaGreatDoor Go.RowKit
theorem plus_core (a b r : ByteArray) (e0 : Int) (w : World)
   (h : Calls Tryz.prog 128 #[.string a, .string b] w fun e W' => e = .returned (.tuple #[.string r, .int .i64 e0]) ∧ Below w.heap.size w W') :
   Calls Tryz.prog 89 #[.string a, .string b] w fun e W' => e = .returned (.string r) ∧ Below w.heap.size w W' := by
 have C := Lib.hid h; clear h
 go_enter Tryz.func89, Tryz.ntmps89
 go_wp2_with fail
 refine C.out.mono ?_
 rintro e w1 ⟨rfl, b⟩
 have H1 := Lib.hid b; clear b
 go_wp2
 go_ret
 exact ⟨rfl, H1.out⟩
theorem times_core (a b r : ByteArray) (e0 : Int) (w : World)
   (h : Calls Tryz.prog 127 #[.string a, .string b] w fun e W' => e = .returned (.tuple #[.string r, .int .i64 e0]) ∧ Below w.heap.size w W') :
   Calls Tryz.prog 88 #[.string a, .string b] w fun e W' => e = .returned (.string r) ∧ Below w.heap.size w W' := by
 have C := Lib.hid h; clear h
 go_enter Tryz.func88, Tryz.ntmps88
 go_wp2_with fail
 refine C.out.mono ?_
 rintro e w1 ⟨rfl, b⟩
 have H1 := Lib.hid b; clear b
 go_wp2
 go_ret
 exact ⟨rfl, H1.out⟩
theorem divide_core (a b r s : ByteArray) (e0 : Int) (w : World)
   (h : Calls Tryz.prog 125 #[.string a, .string b] w fun e W' => e = .returned (.tuple #[.string r, .string s, .int .i64 e0]) ∧ Below w.heap.size w W') :
   Calls Tryz.prog 86 #[.string a, .string b] w fun e W' => e = .returned (.tuple #[.string r, .string s]) ∧ Below w.heap.size w W' := by
 have C := Lib.hid h; clear h
 go_enter Tryz.func86, Tryz.ntmps86
 go_wp2_with fail
 refine C.out.mono ?_
 rintro e w1 ⟨rfl, b⟩
 have H1 := Lib.hid b; clear b
 go_wp2
 go_ret2
 exact ⟨rfl, H1.out⟩
theorem rootOf_core (a r : ByteArray) (e0 : Int) (w : World)
   (h : Calls Tryz.prog 126 #[.string a] w fun e W' => e = .returned (.tuple #[.string r, .int .i64 e0]) ∧ Below w.heap.size w W') :
   Calls Tryz.prog 87 #[.string a] w fun e W' => e = .returned (.string r) ∧ Below w.heap.size w W' := by
 have C := Lib.hid h; clear h
 go_enter Tryz.func87, Tryz.ntmps87
 go_wp2_with fail
 refine C.out.mono ?_
 rintro e w1 ⟨rfl, b⟩
 have H1 := Lib.hid b; clear b
 go_wp2
 go_ret
 exact ⟨rfl, H1.out⟩
theorem oplus (x y : Int) (w : World) (hx : short x) (hy : short y) (hz : short (x + y)) (ht : Tab w) :
   Calls Tryz.prog 89 #[.string (strB x), .string (strB y)] w fun e W' => e = .returned (.string (strB (x + y))) ∧ Below w.heap.size w W' :=
 plus_core _ _ _ _ w (Add_str x y w hx hy hz ht)
theorem otimes (x y : Int) (w : World) (hx : short x) (hy : short y) (hz : short (x * y)) (ht : Tab w) :
   Calls Tryz.prog 88 #[.string (strB x), .string (strB y)] w fun e W' => e = .returned (.string (strB (x * y))) ∧ Below w.heap.size w W' :=
 times_core _ _ _ _ w (Mul_str x y w hx hy hz ht)
theorem odivide (x y : Int) (w : World) (hx : short x) (hy : short y) (h0 : y ≠ 0) (ht : Tab w) :
   Calls Tryz.prog 86 #[.string (strB x), .string (strB y)] w fun e W' => e = .returned (.tuple #[.string (strB (x.fdiv y)), .string (strB (x.fmod y))]) ∧ Below w.heap.size w W' :=
 divide_core _ _ _ _ _ w (Divide_strs x y w hx hy h0 ht)
theorem orootOf (x : Int) (w : World) (h0 : 0 ≤ x) (hx : short x) (ht : Tab w) :
   Calls Tryz.prog 87 #[.string (strB x)] w fun e W' => e = .returned (.string (strB (rootN x.natAbs : Nat))) ∧ Below w.heap.size w W' :=
 rootOf_core _ _ _ w (Root_str x w h0 hx ht)
end Go.Proofs.YtpkloolckbhdaaaGreatDoor.T
namespace Go.Proofs.YtpkloolckbhdaaaGreatDoor
open Go.Lib
theorem szL_same {l : List UInt8} (h : isNeg l = false) : szL l = l := by unfold szL; rw [h]; rfl
def sN (l : List UInt8) : List UInt8 := (szL l).takeWhile (· != 47)
end Go.Proofs.YtpkloolckbhdaaaGreatDoor
namespace Go.Proofs.YtpkloolckbhdaaaGreatDoor
open Go.RowKit
def dOK (l : List UInt8) : Bool := chk l == 0 && decide ((szL l).length ≤ 18)
theorem dOK_bad {l : List UInt8} (h : chk l ≠ 0 ∨ 18 < (szL l).length) : dOK l = false := by
 unfold dOK
 rcases h with h | h
 · rw [show (chk l == 0) = false by simpa using h]; rfl
 · rw [decide_eq_false (by omega), Bool.and_false]
theorem dOK_good {l : List UInt8} (ha : (szL l).all isDig = true) (hne : szL l ≠ []) (h48 : ¬ ((szL l).head? = some 48 ∧ l ≠ [48])) (hl : (szL l).length ≤ 18) : dOK l = true := by
 unfold dOK
 have : chk l = 0 := by
   rw [chk_good ha, if_neg (by rintro (h | h); exact hne h; exact h48 h), if_neg (by omega)]
 rw [this, decide_eq_true hl]; rfl
def dVal (l : List UInt8) : Int := if dOK l then valOf l else 0
theorem dVal_ok {l : List UInt8} (h : dOK l = true) : dVal l = valOf l := if_pos h
theorem ret_no {l : List UInt8} (h : dOK l = false) : Ending.returned (.tuple #[.int .i64 0, .bool false]) = .returned (.tuple #[.int .i64 (dVal l), .bool (dOK l)]) := by unfold dVal; rw [h]; rfl
theorem ret_yes {l : List UInt8} {v : Int} (h : dOK l = true) (hv : v = valOf l) : Ending.returned (.tuple #[.int .i64 v, .bool true]) = .returned (.tuple #[.int .i64 (dVal l), .bool (dOK l)]) := by unfold dVal; rw [h, hv]; rfl
theorem head_size {s : ByteArray} (h : 0 < s.size) : s.data.toList.head? = some s[0] := by obtain ⟨t, ht⟩ := data_cons h; rw [ht]; rfl
theorem ext_size (s : ByteArray) : (s.extract 1 s.size).size = s.size - 1 := by rw [ByteArray.size_extract]; omega
theorem readDigits_neg (s : ByteArray) (w : World) (hs : s.size ≤ maxLen) (hn : isNeg s.data.toList = true) (h1 : 1 < s.size) :
   Calls Tryz.prog 112 #[.string s] w fun e W' => e = .returned (.tuple #[.int .i64 (dVal s.data.toList), .bool (dOK s.data.toList)]) ∧ w = W' := by
 unfold maxLen at hs
 have hsz := ext_size s
 obtain ⟨t, ht⟩ : ∃ t, s.extract 1 s.size = t := ⟨_, rfl⟩
 have htl : t.data.toList = szL s.data.toList := by rw [← ht, ← szB_data]; unfold szB; rw [if_pos hn]
 rw [ht] at hsz
 have h45 : ((s[0].toNat : Int) == 45) = true := (isNeg_pos (by omega)).trans hn
 have hE : (s.toList == [48]) = false := by
   rw [ByteArray.toList_eq, beq_eq_false_iff_ne]; intro e; have := congrArg List.length e; rw [size_len] at this; simp at this; omega
 have hg1 : (1 : Int) < s.size := by omega
 have hte := empty_false (s := t) (by omega)
 have HN := Lib.hid hn
 have HT := Lib.hid htl
 clear hn htl
 have h0t : 0 < t.size := by omega
 have hl : (szL s.data.toList).length = t.size := by rw [← HT.out, size_len]
 by_cases h18 : 18 < t.size
 · have h18' : (18 : Int) < t.size := by omega
   have hr := Lib.hid (dOK_bad (l := s.data.toList) (.inr (by omega)))
   clear hl
   go_enter Tryz.func112, Tryz.ntmps112
   go_wp2
   go_ret2
   exact ⟨ret_no hr.out, rfl⟩
 have h18' : ¬ (18 : Int) < t.size := by omega
 by_cases h48 : ((t[0].toNat : Int) == 48) = true
 · have hc : chk s.data.toList = 11 := chk_11 (.inr ⟨by
     rw [← HT.out, head_size (by omega)]
     have := u8_eq t[0] 48 (by decide)
     rw [show ((48 : Nat) : Int) = 48 from rfl, h48] at this
     exact congrArg some (by simpa using this.symm), fun e => by have := congrArg List.length e; rw [size_len] at this; simp at this; omega⟩)
   have hr := Lib.hid (dOK_bad (l := s.data.toList) (.inl (by rw [hc]; decide)))
   clear hl hc
   go_enter Tryz.func112, Tryz.ntmps112
   go_wp2
   go_ret2
   exact ⟨ret_no hr.out, rfl⟩
 · have h48' : ((t[0].toNat : Int) == 48) = false := by simpa using h48
   have HF := Lib.hid (show szL s.data.toList ≠ [] ∧ ¬ ((szL s.data.toList).head? = some 48 ∧ s.data.toList ≠ [48]) ∧ (szL s.data.toList).length ≤ 18 from ⟨fun e => by rw [e] at hl; simp at hl; omega, fun ⟨e, _⟩ => by
     rw [← HT.out, head_size (by omega)] at e
     have e := Option.some.inj e
     rw [e] at h48'; exact absurd h48' (by decide), by omega⟩)
   clear hl h48
   go_enter Tryz.func112, Tryz.ntmps112
   go_wp2
   go_loop [6, 38] (fun n i => ∃ k : Nat, k ≤ t.size ∧ i = .int .i64 k ∧ n = .int .i64 (natOf (t.data.toList.take k) : Nat) ∧ Hid ((t.data.toList.take k).all isDig = true)) (fun _ i => t.size - (intOf i).toNat)
   case atStart => exact ⟨0, Nat.zero_le _, rfl, rfl, rfl⟩
   case round =>
     obtain ⟨k, hk, rfl, rfl, hd⟩ := hrel
     by_cases hlt : k < t.size
     · by_cases h3 : (t[k].toNat : Int) < 48
       · go_wp2
         go_ret2
         refine ⟨ret_no (dOK_bad (.inl ?_)), rfl⟩
         rw [chk_bad]
         · decide
         · rw [← HT.out, List.all_eq_false]; exact ⟨t[k], mem_get t k hlt, by rw [isDig_iff]; omega⟩
       · by_cases h4 : (57 : Int) < t[k].toNat
         · go_wp2
           go_ret2
           refine ⟨ret_no (dOK_bad (.inl ?_)), rfl⟩
           rw [chk_bad]
           · decide
           · rw [← HT.out, List.all_eq_false]; exact ⟨t[k], mem_get t k hlt, by rw [isDig_iff]; omega⟩
         · have hdk : isDig t[k] = true := by rw [isDig_iff]; omega
           have hd' : Hid ((t.data.toList.take (k + 1)).all isDig = true) := by
             show (t.data.toList.take (k + 1)).all isDig = true
             rw [take_snoc t k hlt, List.all_append, hd.out]; simp [hdk]
           have hn : natOf (t.data.toList.take k) < 1000000000000000000 := by
             refine Nat.lt_of_lt_of_le (natOf_lt _ (fun c hc => List.all_eq_true.1 hd.out c hc)) ?_
             exact Nat.le_trans (Nat.pow_le_pow_right (by decide) (Nat.le_trans (List.length_take_le _ _) (by omega : k ≤ 18))) (by decide)
           have HS : Hid (natOf (t.data.toList.take (k + 1)) = natOf (t.data.toList.take k) * 10 + (t[k].toNat - 48)) := by rw [take_snoc t k hlt]; exact natOf_snoc _ _
           have hn17 : natOf (t.data.toList.take (k + 1)) < 1000000000000000000 := by
             refine Nat.lt_of_lt_of_le (natOf_lt _ (fun c hc => List.all_eq_true.1 hd'.out c hc)) ?_
             exact Nat.le_trans (Nat.pow_le_pow_right (by decide) (Nat.le_trans (List.length_take_le _ _) (by omega : k + 1 ≤ 18))) (by decide)
           rw [HS.out] at hn17
           clear hd hdk
           go_wp2
           go_round
           case rel => exact ⟨k + 1, by omega, by go_num, by rw [HS.out]; go_num, hd'⟩
           case measure => simp [intOf]; omega
     · have hk2 : t.data.toList.take k = t.data.toList := List.take_of_length_le (by rw [size_len]; omega)
       have hda := hd.out
       rw [hk2, HT.out] at hda
       rw [hk2]
       have hok := dOK_good hda HF.out.1 HF.out.2.1 HF.out.2.2
       have hn : natOf t.data.toList < 1000000000000000000 := by
         refine Nat.lt_of_lt_of_le (natOf_lt _ (fun c hc => List.all_eq_true.1 (by rw [HT.out]; exact hda) c hc)) ?_
         exact Nat.le_trans (Nat.pow_le_pow_right (by decide) (show t.data.toList.length ≤ 18 by rw [size_len]; omega)) (by decide)
       have HO := Lib.hid (And.intro hok (show -(natOf t.data.toList : Int) = valOf s.data.toList by rw [valOf_szL, HN.out, HT.out]; rfl))
       clear hok hda hk2 hd
       go_wp2
       go_ret2
       exact ⟨ret_yes HO.out.1 HO.out.2, rfl⟩
theorem readDigits_pos (t : ByteArray) (w : World) (hs : t.size ≤ maxLen) (hn : isNeg t.data.toList = false) (h1 : 1 < t.size) :
   Calls Tryz.prog 112 #[.string t] w fun e W' => e = .returned (.tuple #[.int .i64 (dVal t.data.toList), .bool (dOK t.data.toList)]) ∧ w = W' := by
 unfold maxLen at hs
 have htl : t.data.toList = szL t.data.toList := (szL_same hn).symm
 have h45 : ((t[0].toNat : Int) == 45) = false := (isNeg_pos (by omega)).trans hn
 have hg1 : (1 : Int) < t.size := by omega
 have hte := empty_false (s := t) (by omega)
 have HN := Lib.hid hn
 have HT := Lib.hid htl
 clear hn htl
 have h0t : 0 < t.size := by omega
 have hl : (szL t.data.toList).length = t.size := by rw [← HT.out, size_len]
 by_cases h18 : 18 < t.size
 · have h18' : (18 : Int) < t.size := by omega
   have hr := Lib.hid (dOK_bad (l := t.data.toList) (.inr (by omega)))
   clear hl
   go_enter Tryz.func112, Tryz.ntmps112
   go_wp2
   all_goals (go_ret2; exact ⟨ret_no hr.out, rfl⟩)
 have h18' : ¬ (18 : Int) < t.size := by omega
 by_cases h48 : ((t[0].toNat : Int) == 48) = true ∧ (t.toList == [48]) = false
 · obtain ⟨h48, hE⟩ := h48
   have hc : chk t.data.toList = 11 := chk_11 (.inr ⟨by
     rw [← HT.out, head_size (by omega)]
     have := u8_eq t[0] 48 (by decide)
     rw [show ((48 : Nat) : Int) = 48 from rfl, h48] at this
     exact congrArg some (by simpa using this.symm), fun e => by rw [ByteArray.toList_eq, e] at hE; cases hE⟩)
   have hr := Lib.hid (dOK_bad (l := t.data.toList) (.inl (by rw [hc]; decide)))
   clear hl hc
   go_enter Tryz.func112, Tryz.ntmps112
   go_wp2
   all_goals (go_ret2; exact ⟨ret_no hr.out, rfl⟩)
 · have h48' : (((t[0].toNat : Int) == 48) && !(t.toList == [48])) = false := by
     cases h5 : ((t[0].toNat : Int) == 48)
     · rfl
     · cases h6 : (t.toList == [48])
       · exact absurd ⟨h5, h6⟩ h48
       · rfl
   have HF := Lib.hid (show szL t.data.toList ≠ [] ∧ ¬ ((szL t.data.toList).head? = some 48 ∧ t.data.toList ≠ [48]) ∧ (szL t.data.toList).length ≤ 18 from ⟨fun e => by rw [e] at hl; simp at hl; omega, fun ⟨e, e2⟩ => by
     rw [← HT.out, head_size (by omega)] at e
     have e := Option.some.inj e
     apply h48
     refine ⟨by rw [e]; decide, ?_⟩
     rw [ByteArray.toList_eq, beq_eq_false_iff_ne]; exact e2, by omega⟩)
   clear hl h48
   by_cases h48a : ((t[0].toNat : Int) == 48) = true
   · have hE : (t.toList == [48]) = true := by rw [h48a] at h48'; simpa using h48'
     clear h48'
     go_enter Tryz.func112, Tryz.ntmps112
     go_wp2
     go_loop [6, 38] (fun n i => ∃ k : Nat, k ≤ t.size ∧ i = .int .i64 k ∧ n = .int .i64 (natOf (t.data.toList.take k) : Nat) ∧ Hid ((t.data.toList.take k).all isDig = true)) (fun _ i => t.size - (intOf i).toNat)
     case atStart => exact ⟨0, Nat.zero_le _, rfl, rfl, rfl⟩
     case round =>
       obtain ⟨k, hk, rfl, rfl, hd⟩ := hrel
       by_cases hlt : k < t.size
       · by_cases h3 : (t[k].toNat : Int) < 48
         · go_wp2
           go_ret2
           refine ⟨ret_no (dOK_bad (.inl ?_)), rfl⟩
           rw [chk_bad]
           · decide
           · rw [← HT.out, List.all_eq_false]; exact ⟨t[k], mem_get t k hlt, by rw [isDig_iff]; omega⟩
         · by_cases h4 : (57 : Int) < t[k].toNat
           · go_wp2
             go_ret2
             refine ⟨ret_no (dOK_bad (.inl ?_)), rfl⟩
             rw [chk_bad]
             · decide
             · rw [← HT.out, List.all_eq_false]; exact ⟨t[k], mem_get t k hlt, by rw [isDig_iff]; omega⟩
           · have hdk : isDig t[k] = true := by rw [isDig_iff]; omega
             have hd' : Hid ((t.data.toList.take (k + 1)).all isDig = true) := by
               show (t.data.toList.take (k + 1)).all isDig = true
               rw [take_snoc t k hlt, List.all_append, hd.out]; simp [hdk]
             have hn : natOf (t.data.toList.take k) < 1000000000000000000 := by
               refine Nat.lt_of_lt_of_le (natOf_lt _ (fun c hc => List.all_eq_true.1 hd.out c hc)) ?_
               exact Nat.le_trans (Nat.pow_le_pow_right (by decide) (Nat.le_trans (List.length_take_le _ _) (by omega : k ≤ 18))) (by decide)
             have HS : Hid (natOf (t.data.toList.take (k + 1)) = natOf (t.data.toList.take k) * 10 + (t[k].toNat - 48)) := by rw [take_snoc t k hlt]; exact natOf_snoc _ _
             have hn17 : natOf (t.data.toList.take (k + 1)) < 1000000000000000000 := by
               refine Nat.lt_of_lt_of_le (natOf_lt _ (fun c hc => List.all_eq_true.1 hd'.out c hc)) ?_
               exact Nat.le_trans (Nat.pow_le_pow_right (by decide) (Nat.le_trans (List.length_take_le _ _) (by omega : k + 1 ≤ 18))) (by decide)
             rw [HS.out] at hn17
             clear hd hdk
             go_wp2
             go_round
             case rel => exact ⟨k + 1, by omega, by go_num, by rw [HS.out]; go_num, hd'⟩
             case measure => simp [intOf]; omega
       · have hk2 : t.data.toList.take k = t.data.toList := List.take_of_length_le (by rw [size_len]; omega)
         have hda := hd.out
         rw [hk2, HT.out] at hda
         rw [hk2]
         have hok := dOK_good hda HF.out.1 HF.out.2.1 HF.out.2.2
         have hn : natOf t.data.toList < 1000000000000000000 := by
           refine Nat.lt_of_lt_of_le (natOf_lt _ (fun c hc => List.all_eq_true.1 (by rw [HT.out]; exact hda) c hc)) ?_
           exact Nat.le_trans (Nat.pow_le_pow_right (by decide) (show t.data.toList.length ≤ 18 by rw [size_len]; omega)) (by decide)
         have HO := Lib.hid (And.intro hok (show (natOf t.data.toList : Int) = valOf t.data.toList by rw [valOf_szL, HN.out, if_neg (by decide), szL_same HN.out]))
         clear hok hda hk2 hd
         go_wp2
         go_ret2
         exact ⟨ret_yes HO.out.1 HO.out.2, rfl⟩
   · have h48b : ((t[0].toNat : Int) == 48) = false := by simpa using h48a
     clear h48' h48a
     go_enter Tryz.func112, Tryz.ntmps112
     go_wp2
     go_loop [6, 38] (fun n i => ∃ k : Nat, k ≤ t.size ∧ i = .int .i64 k ∧ n = .int .i64 (natOf (t.data.toList.take k) : Nat) ∧ Hid ((t.data.toList.take k).all isDig = true)) (fun _ i => t.size - (intOf i).toNat)
     case atStart => exact ⟨0, Nat.zero_le _, rfl, rfl, rfl⟩
     case round =>
       obtain ⟨k, hk, rfl, rfl, hd⟩ := hrel
       by_cases hlt : k < t.size
       · by_cases h3 : (t[k].toNat : Int) < 48
         · go_wp2
           go_ret2
           refine ⟨ret_no (dOK_bad (.inl ?_)), rfl⟩
           rw [chk_bad]
           · decide
           · rw [← HT.out, List.all_eq_false]; exact ⟨t[k], mem_get t k hlt, by rw [isDig_iff]; omega⟩
         · by_cases h4 : (57 : Int) < t[k].toNat
           · go_wp2
             go_ret2
             refine ⟨ret_no (dOK_bad (.inl ?_)), rfl⟩
             rw [chk_bad]
             · decide
             · rw [← HT.out, List.all_eq_false]; exact ⟨t[k], mem_get t k hlt, by rw [isDig_iff]; omega⟩
           · have hdk : isDig t[k] = true := by rw [isDig_iff]; omega
             have hd' : Hid ((t.data.toList.take (k + 1)).all isDig = true) := by
               show (t.data.toList.take (k + 1)).all isDig = true
               rw [take_snoc t k hlt, List.all_append, hd.out]; simp [hdk]
             have hn : natOf (t.data.toList.take k) < 1000000000000000000 := by
               refine Nat.lt_of_lt_of_le (natOf_lt _ (fun c hc => List.all_eq_true.1 hd.out c hc)) ?_
               exact Nat.le_trans (Nat.pow_le_pow_right (by decide) (Nat.le_trans (List.length_take_le _ _) (by omega : k ≤ 18))) (by decide)
             have HS : Hid (natOf (t.data.toList.take (k + 1)) = natOf (t.data.toList.take k) * 10 + (t[k].toNat - 48)) := by rw [take_snoc t k hlt]; exact natOf_snoc _ _
             have hn17 : natOf (t.data.toList.take (k + 1)) < 1000000000000000000 := by
               refine Nat.lt_of_lt_of_le (natOf_lt _ (fun c hc => List.all_eq_true.1 hd'.out c hc)) ?_
               exact Nat.le_trans (Nat.pow_le_pow_right (by decide) (Nat.le_trans (List.length_take_le _ _) (by omega : k + 1 ≤ 18))) (by decide)
             rw [HS.out] at hn17
             clear hd hdk
             go_wp2
             go_round
             case rel => exact ⟨k + 1, by omega, by go_num, by rw [HS.out]; go_num, hd'⟩
             case measure => simp [intOf]; omega
       · have hk2 : t.data.toList.take k = t.data.toList := List.take_of_length_le (by rw [size_len]; omega)
         have hda := hd.out
         rw [hk2, HT.out] at hda
         rw [hk2]
         have hok := dOK_good hda HF.out.1 HF.out.2.1 HF.out.2.2
         have hn : natOf t.data.toList < 1000000000000000000 := by
           refine Nat.lt_of_lt_of_le (natOf_lt _ (fun c hc => List.all_eq_true.1 (by rw [HT.out]; exact hda) c hc)) ?_
           exact Nat.le_trans (Nat.pow_le_pow_right (by decide) (show t.data.toList.length ≤ 18 by rw [size_len]; omega)) (by decide)
         have HO := Lib.hid (And.intro hok (show (natOf t.data.toList : Int) = valOf t.data.toList by rw [valOf_szL, HN.out, if_neg (by decide), szL_same HN.out]))
         clear hok hda hk2 hd
         go_wp2
         go_ret2
         exact ⟨ret_yes HO.out.1 HO.out.2, rfl⟩
theorem readDigits_one (t : ByteArray) (w : World) (h : t.size = 1) :
   Calls Tryz.prog 112 #[.string t] w fun e W' => e = .returned (.tuple #[.int .i64 (dVal t.data.toList), .bool (dOK t.data.toList)]) ∧ w = W' := by
 have h0t : 0 < t.size := by omega
 obtain ⟨u, hu⟩ := data_cons h0t
 have hl := size_len t
 rw [hu, h] at hl
 have hu0 : u = [] := List.eq_nil_of_length_eq_zero (by simpa using hl)
 rw [hu0] at hu
 have hte := empty_false h0t
 have hs1 : (t.size : Int) = 1 := by omega
 clear hl hu0
 by_cases hd : isDig t[0] = true
 · have hq := (isDig_iff t[0]).1 hd
   have h45 : ((t[0].toNat : Int) == 45) = false := by rw [beq_eq_false_iff_ne]; omega
   have hok : dOK t.data.toList = true ∧ ((t[0].toNat - 48 : Nat) : Int) = valOf t.data.toList := by
     rw [hu]
     have hng : isNeg [t[0]] = false := by
       unfold isNeg
       rw [List.head?_cons, beq_eq_false_iff_ne]
       intro e
       have e := Option.some.inj e
       rw [e] at hq; exact absurd hq.1 (by decide)
     refine ⟨dOK_good (by rw [szL_same hng]; simp [hd]) (by rw [szL_same hng]; simp) (by
       rw [szL_same hng]
       rintro ⟨e, e2⟩
       have e := Option.some.inj e
       exact e2 (by rw [e])) (by rw [szL_same hng]; simp), ?_⟩
     rw [valOf_szL, hng, szL_same hng, if_neg (by decide)]
     show _ = (((0 * 10 + (t[0].toNat - 48) : Nat)) : Int)
     omega
   have HO := Lib.hid hok
   have hE : (((t[0].toNat : Int) == 48) && !(t.toList == [48])) = false := by
     rw [ByteArray.toList_eq, hu]
     by_cases h8 : t[0] = 48
     · rw [h8]; rfl
     · have := u8_eq t[0] 48 (by decide)
       rw [show ((48 : Nat) : Int) = 48 from rfl] at this
       rw [this, show (t[0] == UInt8.ofNat 48) = false by rw [beq_eq_false_iff_ne]; exact h8]; rfl
   have HE := Lib.hid hE
   clear hok hu hd hE u
   by_cases h8 : ((t[0].toNat : Int) == 48) = true
   · have hE2 : (t.toList == [48]) = true := by have := HE.out; rw [h8] at this; simpa using this
     go_enter Tryz.func112, Tryz.ntmps112
     go_wp2
     go_loop [6, 38] (fun n i => (i = .int .i64 0 ∧ n = .int .i64 0) ∨ (i = .int .i64 1 ∧ n = .int .i64 (t[0].toNat - 48 : Nat))) (fun _ i => 1 - (intOf i).toNat)
     case atStart => exact .inl ⟨rfl, rfl⟩
     case round =>
       rcases hrel with ⟨rfl, rfl⟩ | ⟨rfl, rfl⟩
       · go_wp2
         go_round
         case rel => exact .inr ⟨by go_num, by go_num⟩
         case measure => simp [intOf]
       · go_wp2
         go_ret2
         exact ⟨ret_yes HO.out.1 HO.out.2, rfl⟩
   · have h8' : ((t[0].toNat : Int) == 48) = false := by simpa using h8
     clear h8
     go_enter Tryz.func112, Tryz.ntmps112
     go_wp2
     go_loop [6, 38] (fun n i => (i = .int .i64 0 ∧ n = .int .i64 0) ∨ (i = .int .i64 1 ∧ n = .int .i64 (t[0].toNat - 48 : Nat))) (fun _ i => 1 - (intOf i).toNat)
     case atStart => exact .inl ⟨rfl, rfl⟩
     case round =>
       rcases hrel with ⟨rfl, rfl⟩ | ⟨rfl, rfl⟩
       · go_wp2
         go_round
         case rel => exact .inr ⟨by go_num, by go_num⟩
         case measure => simp [intOf]
       · go_wp2
         go_ret2
         exact ⟨ret_yes HO.out.1 HO.out.2, rfl⟩
 · have hr : dOK t.data.toList = false := dOK_bad (.inl (by
     rw [hu]
     cases hn : isNeg [t[0]]
     · rw [chk_bad]
       · decide
       · rw [szL_same hn]; simpa using hd
     · rw [chk_11]
       · decide
       · left; unfold szL; rw [hn]; rfl))
   have h8 : ((t[0].toNat : Int) == 48) = false := by
     rw [beq_eq_false_iff_ne]; intro e; apply hd; rw [isDig_iff]; omega
   have hq : (t[0].toNat : Int) < 48 ∨ (57 : Int) < t[0].toNat := by
     by_cases h1 : (t[0].toNat : Int) < 48
     · exact .inl h1
     · right
       have : ¬ (48 ≤ t[0].toNat ∧ t[0].toNat ≤ 57) := fun q => hd ((isDig_iff _).2 q)
       omega
   have HR := Lib.hid hr
   clear hr hu hd u
   rcases hq with h1 | h1
   · go_enter Tryz.func112, Tryz.ntmps112
     go_wp2
     go_loop [6, 38] (fun n i => i = .int .i64 0 ∧ n = .int .i64 0) (fun _ i => 1 - (intOf i).toNat)
     case atStart => exact ⟨rfl, rfl⟩
     case round =>
       obtain ⟨rfl, rfl⟩ := hrel
       go_wp2
       go_ret2
       exact ⟨ret_no HR.out, rfl⟩
   · have h2 : ¬ (t[0].toNat : Int) < 48 := by omega
     go_enter Tryz.func112, Tryz.ntmps112
     go_wp2
     go_loop [6, 38] (fun n i => i = .int .i64 0 ∧ n = .int .i64 0) (fun _ i => 1 - (intOf i).toNat)
     case atStart => exact ⟨rfl, rfl⟩
     case round =>
       obtain ⟨rfl, rfl⟩ := hrel
       go_wp2
       go_ret2
       exact ⟨ret_no HR.out, rfl⟩
theorem readDigits_any (s : ByteArray) (w : World) (hs : s.size ≤ maxLen) :
   Calls Tryz.prog 112 #[.string s] w fun e W' => e = .returned (.tuple #[.int .i64 (dVal s.data.toList), .bool (dOK s.data.toList)]) ∧ w = W' := by
 by_cases h0 : s.size = 0
 · have hE := empty_true h0
   have hr := Lib.hid (dOK_bad (l := s.data.toList) (.inl (by rw [data_nil h0]; decide)))
   go_enter Tryz.func112, Tryz.ntmps112
   go_wp2
   all_goals (go_ret2; exact ⟨ret_no hr.out, rfl⟩)
 · by_cases h1 : s.size = 1
   · exact readDigits_one s w h1
   · cases hn : isNeg s.data.toList
     · exact readDigits_pos s w hs hn (by omega)
     · exact readDigits_neg s w hs hn (by omega)
end Go.Proofs.YtpkloolckbhdaaaGreatDoor
namespace Go.Proofs.YtpkloolckbhdaaaGreatDoor
open Go.Lib
theorem indexByte_no {l : List UInt8} {c : UInt8} (h : c ∉ l) : indexByte l c = -1 := by
 induction l with
 | nil => rfl
 | cons a t ih =>
   have h1 : a ≠ c := fun q => h (by simp [q])
   have h2 : c ∉ t := fun q => h (by simp [q])
   unfold indexByte
   rw [if_neg (by simpa using h1), ih h2]; rfl
theorem indexByte_at {s : List UInt8} {c : UInt8} (t : List UInt8) (h : c ∉ s) : indexByte (s ++ c :: t) c = s.length := by
 induction s with
 | nil => simp [indexByte]
 | cons a s ih =>
   have h1 : a ≠ c := fun q => h (by simp [q])
   have h2 : c ∉ s := fun q => h (by simp [q])
   rw [List.cons_append]
   unfold indexByte
   rw [if_neg (by simpa using h1), ih h2, if_neg (by simp)]
   simp
theorem cutN_le (l : List UInt8) : (cutN l).length ≤ l.length := by
 rcases cut_eq l with ⟨_, h2, _⟩ | ⟨_, h2⟩
 · rw [← h2]; omega
 · have := congrArg List.length h2
   simp only [List.length_append, List.length_cons] at this; omega
end Go.Proofs.YtpkloolckbhdaaaGreatDoor
namespace Go.Proofs.YtpkloolckbhdaaaGreatDoor
open Go.RowKit
structure RowR (B : Nat) (W : World) (l : List UInt8) (g cap : Nat) : Prop where
 base : B ≤ g
 lt : g < W.heap.size
 le : l.length ≤ cap
 max : cap ≤ maxLen
 there : ∀ j, j < cap → (W.cell? ⟨g, j, none⟩).isSome = true ∧ W.frozen? ⟨g, j, none⟩ = false
 holds : ∀ j u, (Lib.byteCells l)[j]? = some u → W.cell? ⟨g, j, none⟩ = some u
theorem RowR.next {B : Nat} {W W' : World} {l : List UInt8} {g cap : Nat} (h : RowR B W l g cap) (b : Below W.heap.size W W') : RowR B W' l g cap :=
 ⟨h.base, Nat.lt_of_lt_of_le h.lt b.size, h.le, h.max, fun j hj => ⟨by rw [b.cell (p := ⟨g, j, none⟩) h.lt]; exact (h.there j hj).1, (b.frozen (p := ⟨g, j, none⟩) h.lt).trans (h.there j hj).2⟩,
   fun j u hj => (b.cell (p := ⟨g, j, none⟩) h.lt).trans (h.holds j u hj)⟩
theorem below_setCells (B g : Nat) (hB : B ≤ g) : ∀ (vs : List Value) (o : Nat) (w : World), Below B w (w.setCells g o vs)
 | [], _, w => Below.refl _ w
 | v :: r, o, w => ((Below.refl B w).setCell (p := ⟨g, o, none⟩) hB v).trans (below_setCells B g hB r (o + 1) _)
theorem byteCells_len (l : List UInt8) : (Lib.byteCells l).length = l.length := by simp [Lib.byteCells]
theorem addr_add (g j : Nat) : (⟨g, 0, none⟩ : Addr).add j = ⟨g, j, none⟩ := by unfold Addr.add; split <;> simp_all
theorem frozen_no {W : World} {g j : Nat} {cur : Array Value} {t : TypeId} (h : W.heap[g]? = some (.cells cur t (0, 0))) : W.frozen? ⟨g, j, none⟩ = false := by unfold World.frozen?; simp only [h]; simp
theorem run_append_rowR {B : Nat} {W : World} {l : List UInt8} {g cap : Nat} (h : RowR B W l g cap) (t tx ty e : TypeId) (i : TypeInfo) (ht : Tryz.prog.underlying t = some (.slice e)) (hi : Tryz.prog.info? e = some i) (hz : i.zero = some (.int .u8 0)) (hsize : i.size = 1) (hby : i.bytes = 1)
   (x : Value) (m : List UInt8) (hs : Src Tryz.prog 1 tx x m.length (Lib.byteCells m) W) (hb : l.length + m.length ≤ 140737488355328) (hB : B ≤ W.heap.size) :
   ∃ W' g' cap', (Builtin.append_ #[t, tx] ty #[.slice (some ⟨g, 0, none⟩) l.length cap, x]).run Tryz.prog W = .ok (.slice (some ⟨g', 0, none⟩) (l.length + m.length) cap') W' ∧ RowR B W' (l ++ m) g' cap' ∧ Below B W W' := by
 obtain ⟨hbase, hlt, hle, hmax, hth, hh⟩ := h
 rw [← hsize] at hs
 have hml := byteCells_len m
 have hll := byteCells_len l
 by_cases hroom : l.length + m.length ≤ cap
 · have hr := run_append_room_src (P := Tryz.prog) W t tx ty e i ht hi g 0 l.length cap x m.length (Lib.byteCells m) hs hroom
     (fun j hj => by rw [hsize, Nat.mul_one, Nat.zero_add]; exact (hth (l.length + j) (by omega)).1) (fun j hj => by rw [hsize, Nat.mul_one, Nat.zero_add]; exact (hth (l.length + j) (by omega)).2)
   rw [hsize, Nat.mul_one, Nat.zero_add] at hr
   have hbel := below_setCells B g hbase (Lib.byteCells m) l.length W
   refine ⟨_, g, cap, hr, ⟨hbase, Nat.lt_of_lt_of_le hlt hbel.size, by rw [List.length_append]; exact hroom, hmax, fun j hj => ⟨World.isSome_setCells g _ _ _ _ (hth j hj).1, (World.frozen?_setCells g _ _ _ _).trans (hth j hj).2⟩, fun j u hj => ?_⟩, hbel⟩
   rw [Lib.byteCells_append] at hj
   by_cases hjl : j < (Lib.byteCells l).length
   · rw [List.getElem?_append_left hjl] at hj
     rw [World.cell?_setCells_out g _ _ _ _ (fun _ _ => .inl (by show j < l.length; omega))]
     exact hh j u hj
   · rw [List.getElem?_append_right (by omega)] at hj
     obtain ⟨hj2, hj3⟩ := List.getElem?_eq_some_iff.1 hj
     have := World.cell?_setCells_in g (Lib.byteCells m) l.length W (fun k hk => (hth (l.length + k) (by omega)).1) (j - (Lib.byteCells l).length) hj2
     rw [show l.length + (j - (Lib.byteCells l).length) = j by omega, hj3] at this
     exact this
 · have hold : (Builtin.firstCells i.size l.length (.slice (some ⟨g, 0, none⟩) l.length cap)).run Tryz.prog W.drew = .ok (Lib.byteCells l).toArray W.drew :=
     run_firstCells_some (P := Tryz.prog) W.drew i.size l.length ⟨g, 0, none⟩ l.length cap (Lib.byteCells l) (by rw [hsize, Nat.mul_one]; exact hll) (fun j u hj => by rw [addr_add]; exact hh j u hj)
   have hr := run_append_grow_src (P := Tryz.prog) W t tx ty e i (.int .u8 0) ht hi hz (some ⟨g, 0, none⟩) l.length cap (Lib.byteCells l) hold x m.length (Lib.byteCells m) hs (by omega) (by omega) (growslice_fits (by omega) (by rw [hby]; omega))
   have hge := grownCap_ge W (l.length + m.length) cap e
   have hcm : grownCap W (l.length + m.length) cap e ≤ maxLen := grownCap_le_maxLen W _ cap e (by unfold maxLen; omega)
   generalize grownCap W (l.length + m.length) cap e = cap' at *
   have hnew : (W.drew.alloc (.cells ((Lib.byteCells l ++ Lib.byteCells m).toArray ++ Builtin.zeroCells (Value.int .u8 0).cells (cap' - (l.length + m.length))) e)).heap[W.heap.size]? = some (.cells ((Lib.byteCells l ++ Lib.byteCells m).toArray ++ Builtin.zeroCells (Value.int .u8 0).cells (cap' - (l.length + m.length))) e) := heap_alloc_new W.drew _
   have hbel : Below B W (W.drew.alloc (.cells ((Lib.byteCells l ++ Lib.byteCells m).toArray ++ Builtin.zeroCells (Value.int .u8 0).cells (cap' - (l.length + m.length))) e)) := (Below.refl B W).drew.alloc hB _
   have hcs : ((Lib.byteCells l ++ Lib.byteCells m).toArray ++ Builtin.zeroCells (Value.int .u8 0).cells (cap' - (l.length + m.length))).size = cap' := by
     rw [Array.size_append, size_zeroCells, List.size_toArray, List.length_append, hll, hml, show (Value.int .u8 0).cells.size = 1 from rfl]; omega
   refine ⟨_, W.heap.size, cap', hr, ⟨hB, by simp, by rw [List.length_append]; exact hge, hcm, fun j hj => ⟨?_, ?_⟩, fun j u hj => ?_⟩, hbel⟩
   · rw [cell_of_row _ _ j _ _ _ hnew, Array.getElem?_eq_getElem (by rw [hcs]; exact hj)]; rfl
   · exact frozen_no hnew
   · rw [cell_of_row _ _ j _ _ _ hnew]
     rw [Lib.byteCells_append] at hj
     obtain ⟨hj2, hj3⟩ := List.getElem?_eq_some_iff.1 hj
     rw [Array.getElem?_append_left (by simpa using hj2)]
     simpa using hj
theorem wpList_append_rowR {W : World} {ops : Array Oper} {rest : List Oper} {o : Oper} {a : Act} {Q : Exit → Act → World → Prop} (hgd : o.guard = none) (s x : Operand) (t tx : TypeId)
   (ho : o.op = .call { callee := .builtin .append, args := #[s, x], argTypes := #[t, tx] }) (e : TypeId) (i : TypeInfo) (ht : Tryz.prog.underlying t = some (.slice e)) (hi : Tryz.prog.info? e = some i) (hz : i.zero = some (.int .u8 0)) (hsize : i.size = 1) (hby : i.bytes = 1)
   {B : Nat} {l : List UInt8} {g cap n : Nat} (hn : n = l.length) (hv : a.eval s = .slice (some ⟨g, 0, none⟩) n cap) (h : RowR B W l g cap) (xv : Value) (m : List UInt8) (hx : a.eval x = xv) (hs : Src Tryz.prog 1 tx xv m.length (Lib.byteCells m) W) (hb : l.length + m.length ≤ 140737488355328) (hB : B ≤ W.heap.size)
   (hK : ∀ W' g' cap', RowR B W' (l ++ m) g' cap' → Below B W W' → wpList Tryz.prog ops Q rest (a.put o.dst (.slice (some ⟨g', 0, none⟩) (n + m.length) cap')) W') : wpList Tryz.prog ops Q (o :: rest) a W := by
 subst hn
 refine wpList_plain hgd fun K hK' => ?_
 obtain ⟨w', g', c', hrun, h1, h2⟩ := run_append_rowR h t tx o.type e i ht hi hz hsize hby xv m hs hb hB
 unfold Oper.wp
 simp [execOp, ho, resolve, invoke, builtin, hv, hx, hrun, Result.andThen]
 exact hK' _ _ (hK w' g' c' h1 h2)
theorem step_append_rowR {W : World} {ops : Array Oper} {o : Oper} {a : Act} {K : Act → World → Prop} {Q : Exit → Act → World → Prop} {E : Prop} (hgd : o.guard = none) (s x : Operand) (t tx : TypeId)
   (ho : o.op = .call { callee := .builtin .append, args := #[s, x], argTypes := #[t, tx] }) (e : TypeId) (i : TypeInfo) (ht : Tryz.prog.underlying t = some (.slice e)) (hi : Tryz.prog.info? e = some i) (hz : i.zero = some (.int .u8 0)) (hsize : i.size = 1) (hby : i.bytes = 1)
   {B : Nat} {l : List UInt8} {g cap n : Nat} (hn : n = l.length) (hv : a.eval s = .slice (some ⟨g, 0, none⟩) n cap) (h : RowR B W l g cap) (xv : Value) (m : List UInt8) (hx : a.eval x = xv) (hs : Src Tryz.prog 1 tx xv m.length (Lib.byteCells m) W) (hb : l.length + m.length ≤ 140737488355328) (hB : B ≤ W.heap.size)
   (hK : ∀ W' g' cap', RowR B W' (l ++ m) g' cap' → Below B W W' → K (a.put o.dst (.slice (some ⟨g', 0, none⟩) (n + m.length) cap')) W') : if Region.wanted o (yielded ops a.tmps) = true then Oper.wp Tryz.prog o a W K Q else E := by
 have hw : Region.wanted o (yielded ops a.tmps) = true := by simp [Region.wanted, hgd]
 rw [if_pos hw]
 subst hn
 obtain ⟨w', g', c', hrun, h1, h2⟩ := run_append_rowR h t tx o.type e i ht hi hz hsize hby xv m hs hb hB
 unfold Oper.wp execOp
 simp only [ho, resolve, invoke, builtin, Sem.run_bind, Sem.run_pure, Result.andThen_ok, List.map_toArray, List.map_cons, List.map_nil, hv, hx, hrun]
 exact hK w' g' c' h1 h2
theorem RowR.new {W : World} {cur : Array Value} {t : TypeId} {g n : Nat} (h : W.heap[g]? = some (.cells cur t (0, 0))) (hn : cur.size = n) (hm : n ≤ maxLen) : RowR g W [] g n := by
 subst hn
 exact ⟨Nat.le_refl _, (Array.getElem?_eq_some_iff.1 h).1, Nat.zero_le _, hm, fun j hj => ⟨by rw [cell_of_row _ _ j _ _ _ h, Array.getElem?_eq_getElem hj]; rfl, frozen_no h⟩, fun j u hj => by simp [Lib.byteCells] at hj⟩
theorem src_bytes {W : World} {tx e' : TypeId} (hk : Tryz.prog.underlying tx = some (.slice e')) (g : Nat) (c : Nat) (m : List UInt8) (n : Nat) (hn : n = m.length) (h : ∀ j u, (Lib.byteCells m)[j]? = some u → W.cell? ⟨g, j, none⟩ = some u) : Src Tryz.prog 1 tx (.slice (some ⟨g, 0, none⟩) n c) m.length (Lib.byteCells m) W := by
 subst hn
 exact Src.ofSlice W hk ⟨g, 0, none⟩ m.length c (Lib.byteCells m) (by rw [byteCells_len, Nat.mul_one]) (fun j u hj => by rw [addr_add]; exact h j u hj) (Lib.byteCells_one _)
theorem src_string {W : World} {tx : TypeId} (hk : Tryz.prog.underlying tx = some .string) (s : ByteArray) : Src Tryz.prog 1 tx (.string s) s.data.toList.length (Lib.byteCells s.data.toList) W := Src.ofString W hk s
end Go.Proofs.YtpkloolckbhdaaaGreatDoor
