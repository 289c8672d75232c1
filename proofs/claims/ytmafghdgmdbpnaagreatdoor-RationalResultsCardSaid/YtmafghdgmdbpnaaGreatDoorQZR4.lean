/- Parts of the proof of the text YtmafghdgmdbpnaaGreatDoorQZR5. -/
import Derived.Test.YtmafghdgmdbpnaaGreatDoorQZ1
import Derived.Test.YtmafghdgmdbpnaaGreatDoorQZ32
import Derived.Test.YtmafghdgmdbpnaaGreatDoorQZR3
set_option linter.all false
set_option maxRecDepth 100000
set_option maxHeartbeats 8000000
namespace Go.Proofs.YtmafghdgmdbpnaaGreatDoor
open Go.RowKit
def chk2Q (a b : ByteArray) : Int := if chkQ a.data.toList = 0 then chkQ b.data.toList else chkQ a.data.toList
def rat (a : ByteArray) : Rat := ratOf a.data.toList
def opB (f : Rat → Rat → ByteArray) (a b : ByteArray) : ByteArray := if chk2Q a b = 0 then f (rat a) (rat b) else ⟨#[]⟩
def opE (f : Rat → Rat → Int) (a b : ByteArray) : Int := if chk2Q a b = 0 then f (rat a) (rat b) else chk2Q a b
def opI (f : Rat → Rat → Int) (a b : ByteArray) : Int := if chk2Q a b = 0 then f (rat a) (rat b) else 0
def qdivB' (x y : Rat) : ByteArray := if y = 0 then ⟨#[]⟩ else qdivB x y
def qdivE' (x y : Rat) : Int := if y = 0 then 12 else qdivE x y
theorem chk2Q_ok {a b : ByteArray} (h : chk2Q a b = 0) : chkQ a.data.toList = 0 ∧ chkQ b.data.toList = 0 := by
 unfold chk2Q at h
 split at h
 · exact ⟨by assumption, h⟩
 · exact absurd h (by assumption)
theorem chk2Q_no {a b : ByteArray} (h : chk2Q a b ≠ 0) : ¬ (mOK a.data.toList = true ∧ mOK b.data.toList = true) := fun q => by
 apply h
 unfold chk2Q
 rw [if_pos (mOK_chk q.1).1, (mOK_chk q.2).1]
theorem chkQ_sq {a : ByteArray} (h : chkQ a.data.toList = 0) : Sq (rat a) := chkQ_lim h
theorem chkQ_str {a : ByteArray} (h : chkQ a.data.toList = 0) : strQ (rat a) = a := (str_of_chkQ h).symm
theorem computeN_err (ks kl : FuncId) (p q : Nat) (a b : ByteArray) (w : World) (ha : a.size ≤ maxLen) (hb : b.size ≤ maxLen) (h : chk2Q a b ≠ 0) (ht : Tab w) (ht2 : Tab64 w) :
   Calls Tryz.prog 45 #[.string a, .string b, (.func (.func ks) #[] #[.pointer (some ⟨p, 0, none⟩)]), (.func (.func kl) #[] #[.pointer (some ⟨q, 0, none⟩)])] w fun e W' => e = .returned (.tuple #[.string ⟨#[]⟩, .int .i64 (chk2Q a b)]) ∧ Below w.heap.size w W' := by
 have hm := fun W (hW : Below w.heap.size w W) => readMachines_no a b W ha hb (chk2Q_no h) (TabQ_next ht2 hW)
 have hra := fun W (hW : Below w.heap.size w W) => readLong_any a W ha (ht.next hW)
 have hrb := fun W (hW : Below w.heap.size w W) => readLong_any b W hb (ht.next hW)
 unfold chk2Q at h ⊢
 by_cases e : chkQ a.data.toList = 0
 · rw [if_pos e] at h ⊢
   rw [e] at hra
   exact computeN_badb ks kl p q a b _ _ _ _ _ w (bool_ne h).1 (bool_ne h).2 hm hra hrb
 · rw [if_neg e] at h ⊢
   exact computeN_bada ks kl p q a b _ _ _ w (bool_ne h).1 (bool_ne h).2 hm hra
theorem computeI_err (ks kl : FuncId) (a b : ByteArray) (w : World) (ha : a.size ≤ maxLen) (hb : b.size ≤ maxLen) (h : chk2Q a b ≠ 0) (ht : Tab w) (ht2 : Tab64 w) :
   Calls Tryz.prog 63 #[.string a, .string b, (.func (.func ks) #[] #[]), (.func (.func kl) #[] #[])] w fun e W' => e = .returned (.tuple #[.int .i64 0, .int .i64 (chk2Q a b)]) ∧ Below w.heap.size w W' := by
 have hm := fun W (hW : Below w.heap.size w W) => readMachines_no a b W ha hb (chk2Q_no h) (TabQ_next ht2 hW)
 have hra := fun W (hW : Below w.heap.size w W) => readLong_any a W ha (ht.next hW)
 have hrb := fun W (hW : Below w.heap.size w W) => readLong_any b W hb (ht.next hW)
 unfold chk2Q at h ⊢
 by_cases e : chkQ a.data.toList = 0
 · rw [if_pos e] at h ⊢
   rw [e] at hra
   exact computeI_badb ks kl a b _ _ _ _ _ w (bool_ne h).1 (bool_ne h).2 hm hra hrb
 · rw [if_neg e] at h ⊢
   exact computeI_bada ks kl a b _ _ _ w (bool_ne h).1 (bool_ne h).2 hm hra
theorem Add_anyQ (a b : ByteArray) (w : World) (ha : a.size ≤ maxLen) (hb : b.size ≤ maxLen) (ht : Tab w) (ht2 : Tab64 w) :
   Calls Tryz.prog 13 #[.string a, .string b] w fun e W' => e = .returned (.tuple #[.string (opB qaddB a b), .int .i64 (opE qaddE a b)]) ∧ Below w.heap.size w W' := by
 unfold opB opE
 by_cases h : chk2Q a b = 0
 · rw [if_pos h, if_pos h]
   have c := Add_q (rat a) (rat b) w (chkQ_sq (chk2Q_ok h).1) (chkQ_sq (chk2Q_ok h).2) ht ht2
   rwa [chkQ_str (chk2Q_ok h).1, chkQ_str (chk2Q_ok h).2] at c
 · rw [if_neg h, if_neg h]
   exact AddQ_core a b _ _ w (fun W p q hW _ _ => computeN_err _ _ p q a b W ha hb h (ht.next hW) (TabQ_next ht2 hW))
theorem Sub_anyQ (a b : ByteArray) (w : World) (ha : a.size ≤ maxLen) (hb : b.size ≤ maxLen) (ht : Tab w) (ht2 : Tab64 w) :
   Calls Tryz.prog 14 #[.string a, .string b] w fun e W' => e = .returned (.tuple #[.string (opB qsubB a b), .int .i64 (opE qsubE a b)]) ∧ Below w.heap.size w W' := by
 unfold opB opE
 by_cases h : chk2Q a b = 0
 · rw [if_pos h, if_pos h]
   have c := Sub_q (rat a) (rat b) w (chkQ_sq (chk2Q_ok h).1) (chkQ_sq (chk2Q_ok h).2) ht ht2
   rwa [chkQ_str (chk2Q_ok h).1, chkQ_str (chk2Q_ok h).2] at c
 · rw [if_neg h, if_neg h]
   exact SubQ_core a b _ _ w (fun W p q hW _ _ => computeN_err _ _ p q a b W ha hb h (ht.next hW) (TabQ_next ht2 hW))
theorem Mul_anyQ (a b : ByteArray) (w : World) (ha : a.size ≤ maxLen) (hb : b.size ≤ maxLen) (ht : Tab w) (ht2 : Tab64 w) :
   Calls Tryz.prog 15 #[.string a, .string b] w fun e W' => e = .returned (.tuple #[.string (opB qmulB a b), .int .i64 (opE qmulE a b)]) ∧ Below w.heap.size w W' := by
 unfold opB opE
 by_cases h : chk2Q a b = 0
 · rw [if_pos h, if_pos h]
   have c := Mul_q (rat a) (rat b) w (chkQ_sq (chk2Q_ok h).1) (chkQ_sq (chk2Q_ok h).2) ht ht2
   rwa [chkQ_str (chk2Q_ok h).1, chkQ_str (chk2Q_ok h).2] at c
 · rw [if_neg h, if_neg h]
   exact MulQ_core a b _ _ w (fun W p q hW _ _ => computeN_err _ _ p q a b W ha hb h (ht.next hW) (TabQ_next ht2 hW))
theorem DivQ_z (a b : ByteArray) (e0 : Int) (w : World) (n1 : (e0 == 0) = false) (n2 : (e0 != 0) = true) (hz : (b.toList == [48]) = true) (hz' : (b.toList != [48]) = false)
   (h : Calls Tryz.prog 23 #[.string a] w fun e W' => e = .returned (.int .i64 e0) ∧ Below w.heap.size w W') :
   Calls Tryz.prog 16 #[.string a, .string b] w fun e W' => e = .returned (.tuple #[.string ⟨#[]⟩, .int .i64 e0]) ∧ Below w.heap.size w W' := by
 have C := Lib.hid h; clear h
 go_enter Tryz.func16, Tryz.ntmps16
 go_wp2_with fail
 refine C.out.mono ?_
 rintro e w1 ⟨rfl, b⟩
 have H1 := Lib.hid b; clear b
 go_wp2
 go_ret2
 exact ⟨rfl, H1.out⟩
theorem is0_iff (b : ByteArray) : ((b.toList == [48]) = true) ↔ b = ⟨#[48]⟩ := by
 rw [ByteArray.toList_eq, beq_iff_eq]
 constructor
 · intro h; exact bytes_ext h
 · intro h; rw [h]
theorem chkQ_48 : chkQ [48] = 0 := by decide +kernel
theorem rat_48 : rat ⟨#[48]⟩ = 0 := by rw [← strQ_zero]; exact strQ_rat 0
theorem Div_anyQ (a b : ByteArray) (w : World) (ha : a.size ≤ maxLen) (hb : b.size ≤ maxLen) (ht : Tab w) (ht2 : Tab64 w) :
   Calls Tryz.prog 16 #[.string a, .string b] w fun e W' => e = .returned (.tuple #[.string (opB qdivB' a b), .int .i64 (opE qdivE' a b)]) ∧ Below w.heap.size w W' := by
 unfold opB opE
 by_cases hz : (b.toList == [48]) = true
 · have e := (is0_iff b).1 hz
   subst e
   by_cases h : chkQ a.data.toList = 0
   · have h2 : chk2Q a ⟨#[48]⟩ = 0 := by unfold chk2Q; rw [if_pos h]; exact chkQ_48
     rw [if_pos h2, if_pos h2]
     unfold qdivB' qdivE'
     rw [if_pos rat_48, if_pos rat_48]
     have c := Div_zero (rat a) w (chkQ_sq h) ht ht2
     rwa [chkQ_str h] at c
   · have h2 : chk2Q a ⟨#[48]⟩ = chkQ a.data.toList := by unfold chk2Q; rw [if_neg h]
     rw [h2, if_neg h, if_neg h]
     exact DivQ_z a _ _ w (bool_ne h).1 (bool_ne h).2 hz (by rw [bne, hz]; rfl) (checkQ_any a w ha ht ht2)
 · have hz0 : (b.toList == [48]) = false := by simpa using hz
   by_cases h : chk2Q a b = 0
   · rw [if_pos h, if_pos h]
     have hy : rat b ≠ 0 := fun q => by
       apply hz
       rw [is0_iff, ← chkQ_str (chk2Q_ok h).2, q, strQ_zero]
     unfold qdivB' qdivE'
     rw [if_neg hy, if_neg hy]
     have c := Div_q (rat a) (rat b) w (chkQ_sq (chk2Q_ok h).1) (chkQ_sq (chk2Q_ok h).2) hy ht ht2
     rwa [chkQ_str (chk2Q_ok h).1, chkQ_str (chk2Q_ok h).2] at c
   · rw [if_neg h, if_neg h]
     exact DivQ_core a b _ _ hz0 (by rw [bne, hz0]; rfl) w (fun W p q hW _ _ => computeN_err _ _ p q a b W ha hb h (ht.next hW) (TabQ_next ht2 hW))
theorem Compare_anyQ (a b : ByteArray) (w : World) (ha : a.size ≤ maxLen) (hb : b.size ≤ maxLen) (ht : Tab w) (ht2 : Tab64 w) :
   Calls Tryz.prog 21 #[.string a, .string b] w fun e W' => e = .returned (.tuple #[.int .i64 (opI qcmpR a b), .int .i64 (opE qcmpE a b)]) ∧ Below w.heap.size w W' := by
 unfold opI opE
 by_cases h : chk2Q a b = 0
 · rw [if_pos h, if_pos h]
   have c := Compare_q (rat a) (rat b) w (chkQ_sq (chk2Q_ok h).1) (chkQ_sq (chk2Q_ok h).2) ht ht2
   rwa [chkQ_str (chk2Q_ok h).1, chkQ_str (chk2Q_ok h).2] at c
 · rw [if_neg h, if_neg h]
   exact CompareQ_core a b _ _ w (fun W hW => computeI_err _ _ a b W ha hb h (ht.next hW) (TabQ_next ht2 hW))
theorem check2_bad (a b : ByteArray) (f : Int) (w : World) (n1 : (f == 0) = false) (n2 : (f != 0) = true)
   (h1 : CqB w 24 #[.string a] (.int .i64 f)) :
   Calls Tryz.prog 56 #[.string a, .string b] w fun e W' => e = .returned (.int .i64 f) ∧ Below w.heap.size w W' := by
 have C := Lib.hid h1; clear h1
 have B0 := Lib.hid (Below.refl w.heap.size w)
 go_enter Tryz.func56, Tryz.ntmps56
 go_wp2_with fail
 refine (C.out _ B0.out).mono ?_
 rintro e w1 ⟨rfl, b⟩
 have B1 := Lib.hid (B0.out.trans (b.mono B0.out.size)); clear b B0
 go_wp2
 go_ret
 exact ⟨rfl, B1.out⟩
theorem check2_ok (a b : ByteArray) (f : Int) (w : World)
   (h1 : CqB w 24 #[.string a] (.int .i64 0))
   (h2 : CqB w 24 #[.string b] (.int .i64 f)) :
   Calls Tryz.prog 56 #[.string a, .string b] w fun e W' => e = .returned (.int .i64 f) ∧ Below w.heap.size w W' := by
 have C := Lib.hid ((And.intro h1 h2)); clear h1 h2
 have B0 := Lib.hid (Below.refl w.heap.size w)
 go_enter Tryz.func56, Tryz.ntmps56
 go_wp2_with fail
 refine (C.out.1 _ B0.out).mono ?_
 rintro e w1 ⟨rfl, b⟩
 have B1 := Lib.hid (B0.out.trans (b.mono B0.out.size)); clear b B0
 go_wp2_with fail
 refine (C.out.2 _ B1.out).mono ?_
 rintro e w2 ⟨rfl, b⟩
 have B2 := Lib.hid (B1.out.trans (b.mono B1.out.size)); clear b B1
 go_wp2
 go_ret
 exact ⟨rfl, B2.out⟩
theorem rAdd_bad (a b : ByteArray) (f : Int) (w : World) (n1 : (f == 0) = false) (n2 : (f != 0) = true)
   (h0 : CqB w 56 #[.string a, .string b] (.int .i64 f)) :
   Calls Tryz.prog 17 #[.string a, .string b] w fun e W' => e = .returned (.tuple #[.string ⟨#[]⟩, .int .i64 f]) ∧ Below w.heap.size w W' := by
 have C := Lib.hid h0; clear h0
 have B0 := Lib.hid (Below.refl w.heap.size w)
 go_enter Tryz.func17, Tryz.ntmps17
 go_wp2_with fail
 refine (C.out _ B0.out).mono ?_
 rintro e w1 ⟨rfl, b⟩
 have B1 := Lib.hid (B0.out.trans (b.mono B0.out.size)); clear b B0
 go_wp2
 go_ret2
 exact ⟨rfl, B1.out⟩
theorem rSub_bad (a b : ByteArray) (f : Int) (w : World) (n1 : (f == 0) = false) (n2 : (f != 0) = true)
   (h0 : CqB w 56 #[.string a, .string b] (.int .i64 f)) :
   Calls Tryz.prog 18 #[.string a, .string b] w fun e W' => e = .returned (.tuple #[.string ⟨#[]⟩, .int .i64 f]) ∧ Below w.heap.size w W' := by
 have C := Lib.hid h0; clear h0
 have B0 := Lib.hid (Below.refl w.heap.size w)
 go_enter Tryz.func18, Tryz.ntmps18
 go_wp2_with fail
 refine (C.out _ B0.out).mono ?_
 rintro e w1 ⟨rfl, b⟩
 have B1 := Lib.hid (B0.out.trans (b.mono B0.out.size)); clear b B0
 go_wp2
 go_ret2
 exact ⟨rfl, B1.out⟩
theorem rMul_bad (a b : ByteArray) (f : Int) (w : World) (n1 : (f == 0) = false) (n2 : (f != 0) = true)
   (h0 : CqB w 56 #[.string a, .string b] (.int .i64 f)) :
   Calls Tryz.prog 19 #[.string a, .string b] w fun e W' => e = .returned (.tuple #[.string ⟨#[]⟩, .int .i64 f]) ∧ Below w.heap.size w W' := by
 have C := Lib.hid h0; clear h0
 have B0 := Lib.hid (Below.refl w.heap.size w)
 go_enter Tryz.func19, Tryz.ntmps19
 go_wp2_with fail
 refine (C.out _ B0.out).mono ?_
 rintro e w1 ⟨rfl, b⟩
 have B1 := Lib.hid (B0.out.trans (b.mono B0.out.size)); clear b B0
 go_wp2
 go_ret2
 exact ⟨rfl, B1.out⟩
theorem rDiv_bad (a b : ByteArray) (f : Int) (w : World) (n1 : (f == 0) = false) (n2 : (f != 0) = true)
   (h0 : CqB w 56 #[.string a, .string b] (.int .i64 f)) :
   Calls Tryz.prog 20 #[.string a, .string b] w fun e W' => e = .returned (.tuple #[.string ⟨#[]⟩, .int .i64 f]) ∧ Below w.heap.size w W' := by
 have C := Lib.hid h0; clear h0
 have B0 := Lib.hid (Below.refl w.heap.size w)
 go_enter Tryz.func20, Tryz.ntmps20
 go_wp2_with fail
 refine (C.out _ B0.out).mono ?_
 rintro e w1 ⟨rfl, b⟩
 have B1 := Lib.hid (B0.out.trans (b.mono B0.out.size)); clear b B0
 go_wp2
 go_ret2
 exact ⟨rfl, B1.out⟩
theorem rCompare_bad (a b : ByteArray) (f : Int) (w : World) (n1 : (f == 0) = false) (n2 : (f != 0) = true)
   (h0 : CqB w 56 #[.string a, .string b] (.int .i64 f)) :
   Calls Tryz.prog 22 #[.string a, .string b] w fun e W' => e = .returned (.tuple #[.int .i64 0, .int .i64 f]) ∧ Below w.heap.size w W' := by
 have C := Lib.hid h0; clear h0
 have B0 := Lib.hid (Below.refl w.heap.size w)
 go_enter Tryz.func22, Tryz.ntmps22
 go_wp2_with fail
 refine (C.out _ B0.out).mono ?_
 rintro e w1 ⟨rfl, b⟩
 have B1 := Lib.hid (B0.out.trans (b.mono B0.out.size)); clear b B0
 go_wp2
 go_ret2
 exact ⟨rfl, B1.out⟩
theorem rAdd_ok (a b r : ByteArray) (f : Int) (w : World)
   (h0 : CqB w 56 #[.string a, .string b] (.int .i64 0))
   (h1 : CqB w 57 #[.string a, .string b] (.tuple #[.string r, .int .i64 f])) :
   Calls Tryz.prog 17 #[.string a, .string b] w fun e W' => e = .returned (.tuple #[.string r, .int .i64 f]) ∧ Below w.heap.size w W' := by
 have C := Lib.hid ((And.intro h0 h1)); clear h0 h1
 have B0 := Lib.hid (Below.refl w.heap.size w)
 go_enter Tryz.func17, Tryz.ntmps17
 go_wp2_with fail
 refine (C.out.1 _ B0.out).mono ?_
 rintro e w1 ⟨rfl, b⟩
 have B1 := Lib.hid (B0.out.trans (b.mono B0.out.size)); clear b B0
 go_wp2_with fail
 refine (C.out.2 _ B1.out).mono ?_
 rintro e w2 ⟨rfl, b⟩
 have B2 := Lib.hid (B1.out.trans (b.mono B1.out.size)); clear b B1
 go_wp2
 go_ret2
 exact ⟨rfl, B2.out⟩
theorem rSub_ok (a b c r : ByteArray) (f : Int) (w : World)
   (h0 : CqB w 56 #[.string a, .string b] (.int .i64 0))
   (h1 : CqB w 58 #[.string b] (.string c))
   (h2 : CqB w 57 #[.string a, .string c] (.tuple #[.string r, .int .i64 f])) :
   Calls Tryz.prog 18 #[.string a, .string b] w fun e W' => e = .returned (.tuple #[.string r, .int .i64 f]) ∧ Below w.heap.size w W' := by
 have C := Lib.hid ((And.intro h0 (And.intro h1 h2))); clear h0 h1 h2
 have B0 := Lib.hid (Below.refl w.heap.size w)
 go_enter Tryz.func18, Tryz.ntmps18
 go_wp2_with fail
 refine (C.out.1 _ B0.out).mono ?_
 rintro e w1 ⟨rfl, b⟩
 have B1 := Lib.hid (B0.out.trans (b.mono B0.out.size)); clear b B0
 go_wp2_with fail
 refine (C.out.2.1 _ B1.out).mono ?_
 rintro e w2 ⟨rfl, b⟩
 have B2 := Lib.hid (B1.out.trans (b.mono B1.out.size)); clear b B1
 go_wp2_with fail
 refine (C.out.2.2 _ B2.out).mono ?_
 rintro e w3 ⟨rfl, b⟩
 have B3 := Lib.hid (B2.out.trans (b.mono B2.out.size)); clear b B2
 go_wp2
 go_ret2
 exact ⟨rfl, B3.out⟩
theorem rneg_0 (b : ByteArray) (w : World) (hz : (b.toList == [48]) = true) :
   Calls Tryz.prog 58 #[.string b] w fun e W' => e = .returned (.string b) ∧ Below w.heap.size w W' := by
 go_enter Tryz.func58, Tryz.ntmps58
 go_wp2
 go_ret
 exact ⟨rfl, Below.refl _ _⟩
theorem rneg_m (b : ByteArray) (w : World) (hz : (b.toList == [48]) = false) (hp : 0 < b.size) (hp' : (0 : Int) < b.size) (h45 : ((b[0].toNat : Int) == 45) = true) :
   Calls Tryz.prog 58 #[.string b] w fun e W' => e = .returned (.string (b.extract 1 b.size)) ∧ Below w.heap.size w W' := by
 go_enter Tryz.func58, Tryz.ntmps58
 go_wp2
 go_ret
 exact ⟨rfl, Below.refl _ _⟩
theorem rneg_p (b : ByteArray) (w : World) (zb : b.size ≤ 1000) (hz : (b.toList == [48]) = false) (hp : 0 < b.size) (hp' : (0 : Int) < b.size) (h45 : ((b[0].toNat : Int) == 45) = false) :
   Calls Tryz.prog 58 #[.string b] w fun e W' => e = .returned (.string (⟨#[45]⟩ ++ b)) ∧ Below w.heap.size w W' := by
 go_enter Tryz.func58, Tryz.ntmps58
 go_wp2
 go_ret
 exact ⟨rfl, Below.refl _ _⟩
theorem rmul_e (n d m c x y : ByteArray) (f : Int) (w : World) (n1 : (f == 0) = false) (n2 : (f != 0) = true)
   (h1 : CqB w 66 #[.string n, .string m, .string d, .string c] (.tuple #[.string x, .string y, .int .i64 f])) :
   Calls Tryz.prog 62 #[.string n, .string d, .string m, .string c] w fun e W' => e = .returned (.tuple #[.string ⟨#[]⟩, .int .i64 f]) ∧ Below w.heap.size w W' := by
 have C := Lib.hid h1; clear h1
 have B0 := Lib.hid (Below.refl w.heap.size w)
 go_enter Tryz.func62, Tryz.ntmps62
 go_wp2_with fail
 refine (C.out _ B0.out).mono ?_
 rintro e w1 ⟨rfl, b⟩
 have B1 := Lib.hid (B0.out.trans (b.mono B0.out.size)); clear b B0
 go_wp2
 go_ret2
 exact ⟨rfl, B1.out⟩
theorem rmul_ok (n d m c x y r : ByteArray) (f : Int) (w : World)
   (h1 : CqB w 66 #[.string n, .string m, .string d, .string c] (.tuple #[.string x, .string y, .int .i64 0]))
   (h2 : CqB w 78 #[.string x, .string y] (.tuple #[.string r, .int .i64 f])) :
   Calls Tryz.prog 62 #[.string n, .string d, .string m, .string c] w fun e W' => e = .returned (.tuple #[.string r, .int .i64 f]) ∧ Below w.heap.size w W' := by
 have C := Lib.hid ((And.intro h1 h2)); clear h1 h2
 have B0 := Lib.hid (Below.refl w.heap.size w)
 go_enter Tryz.func62, Tryz.ntmps62
 go_wp2_with fail
 refine (C.out.1 _ B0.out).mono ?_
 rintro e w1 ⟨rfl, b⟩
 have B1 := Lib.hid (B0.out.trans (b.mono B0.out.size)); clear b B0
 go_wp2_with fail
 refine (C.out.2 _ B1.out).mono ?_
 rintro e w2 ⟨rfl, b⟩
 have B2 := Lib.hid (B1.out.trans (b.mono B1.out.size)); clear b B1
 go_wp2
 go_ret2
 exact ⟨rfl, B2.out⟩
theorem rMul_s (a b : ByteArray) (n d m c : Int) (r : ByteArray) (w : World) (hn : -1000000000 < n ∧ n < 1000000000) (hd : 0 < d ∧ d < 1000000000) (hm : -1000000000 < m ∧ m < 1000000000) (hc : 0 < c ∧ c < 1000000000)
   (h0 : CqB w 56 #[.string a, .string b] (.int .i64 0))
   (h1 : CqB w 59 #[.string a] (.tuple #[.int .i64 n, .int .i64 d, .bool true]))
   (h2 : CqB w 59 #[.string b] (.tuple #[.int .i64 m, .int .i64 c, .bool true]))
   (h3 : CqB w 60 #[.int .i64 (n * m), .int .i64 (d * c)] (.string r)) :
   Calls Tryz.prog 19 #[.string a, .string b] w fun e W' => e = .returned (.tuple #[.string r, .int .i64 0]) ∧ Below w.heap.size w W' := by
 have z0 := mul9 (x := n) (y := m) ⟨by omega, by omega⟩ ⟨by omega, by omega⟩
 have z1 := mul9 (x := d) (y := c) ⟨by omega, by omega⟩ ⟨by omega, by omega⟩
 have C := Lib.hid ((And.intro h0 (And.intro h1 (And.intro h2 h3)))); clear h0 h1 h2 h3
 have B0 := Lib.hid (Below.refl w.heap.size w)
 go_enter Tryz.func19, Tryz.ntmps19
 go_wp2_with fail
 refine (C.out.1 _ B0.out).mono ?_
 rintro e w1 ⟨rfl, b⟩
 have B1 := Lib.hid (B0.out.trans (b.mono B0.out.size)); clear b B0
 go_wp2_with fail
 refine (C.out.2.1 _ B1.out).mono ?_
 rintro e w2 ⟨rfl, b⟩
 have B2 := Lib.hid (B1.out.trans (b.mono B1.out.size)); clear b B1
 go_wp2_with fail
 refine (C.out.2.2.1 _ B2.out).mono ?_
 rintro e w3 ⟨rfl, b⟩
 have B3 := Lib.hid (B2.out.trans (b.mono B2.out.size)); clear b B2
 go_wp2_with fail
 refine (C.out.2.2.2 _ B3.out).mono ?_
 rintro e w4 ⟨rfl, b⟩
 have B4 := Lib.hid (B3.out.trans (b.mono B3.out.size)); clear b B3
 go_wp2
 go_ret2
 exact ⟨rfl, B4.out⟩
theorem rDiv_0 (a b : ByteArray) (w : World) (hz : (b.toList == [48]) = true)
   (h0 : CqB w 56 #[.string a, .string b] (.int .i64 0)) :
   Calls Tryz.prog 20 #[.string a, .string b] w fun e W' => e = .returned (.tuple #[.string ⟨#[]⟩, .int .i64 12]) ∧ Below w.heap.size w W' := by
 have C := Lib.hid h0; clear h0
 have B0 := Lib.hid (Below.refl w.heap.size w)
 go_enter Tryz.func20, Tryz.ntmps20
 go_wp2_with fail
 refine (C.out _ B0.out).mono ?_
 rintro e w1 ⟨rfl, b⟩
 have B1 := Lib.hid (B0.out.trans (b.mono B0.out.size)); clear b B0
 go_wp2
 go_ret2
 exact ⟨rfl, B1.out⟩
theorem rDiv_sp (a b : ByteArray) (n d m c : Int) (r : ByteArray) (w : World) (hz : (b.toList == [48]) = false) (hm0 : 0 < m) (hn : -1000000000 < n ∧ n < 1000000000) (hd : 0 < d ∧ d < 1000000000) (hm : -1000000000 < m ∧ m < 1000000000) (hc : 0 < c ∧ c < 1000000000)
   (h0 : CqB w 56 #[.string a, .string b] (.int .i64 0))
   (h1 : CqB w 59 #[.string a] (.tuple #[.int .i64 n, .int .i64 d, .bool true]))
   (h2 : CqB w 59 #[.string b] (.tuple #[.int .i64 m, .int .i64 c, .bool true]))
   (h3 : CqB w 60 #[.int .i64 (n * c), .int .i64 (d * m)] (.string r)) :
   Calls Tryz.prog 20 #[.string a, .string b] w fun e W' => e = .returned (.tuple #[.string r, .int .i64 0]) ∧ Below w.heap.size w W' := by
 have z0 := mul9 (x := n) (y := c) ⟨by omega, by omega⟩ ⟨by omega, by omega⟩
 have z1 := mul9 (x := d) (y := m) ⟨by omega, by omega⟩ ⟨by omega, by omega⟩
 have C := Lib.hid ((And.intro h0 (And.intro h1 (And.intro h2 h3)))); clear h0 h1 h2 h3
 have B0 := Lib.hid (Below.refl w.heap.size w)
 go_enter Tryz.func20, Tryz.ntmps20
 go_wp2_with fail
 refine (C.out.1 _ B0.out).mono ?_
 rintro e w1 ⟨rfl, b⟩
 have B1 := Lib.hid (B0.out.trans (b.mono B0.out.size)); clear b B0
 go_wp2_with fail
 refine (C.out.2.1 _ B1.out).mono ?_
 rintro e w2 ⟨rfl, b⟩
 have B2 := Lib.hid (B1.out.trans (b.mono B1.out.size)); clear b B1
 go_wp2_with fail
 refine (C.out.2.2.1 _ B2.out).mono ?_
 rintro e w3 ⟨rfl, b⟩
 have B3 := Lib.hid (B2.out.trans (b.mono B2.out.size)); clear b B2
 go_wp2_with fail
 refine (C.out.2.2.2 _ B3.out).mono ?_
 rintro e w4 ⟨rfl, b⟩
 have B4 := Lib.hid (B3.out.trans (b.mono B3.out.size)); clear b B3
 go_wp2
 go_ret2
 exact ⟨rfl, B4.out⟩
theorem rDiv_sn (a b : ByteArray) (n d m c : Int) (r : ByteArray) (w : World) (hz : (b.toList == [48]) = false) (hm0 : m < 0) (hn : -1000000000 < n ∧ n < 1000000000) (hd : 0 < d ∧ d < 1000000000) (hm : -1000000000 < m ∧ m < 1000000000) (hc : 0 < c ∧ c < 1000000000)
   (h0 : CqB w 56 #[.string a, .string b] (.int .i64 0))
   (h1 : CqB w 59 #[.string a] (.tuple #[.int .i64 n, .int .i64 d, .bool true]))
   (h2 : CqB w 59 #[.string b] (.tuple #[.int .i64 m, .int .i64 c, .bool true]))
   (h3 : CqB w 60 #[.int .i64 (n * -c), .int .i64 (d * -m)] (.string r)) :
   Calls Tryz.prog 20 #[.string a, .string b] w fun e W' => e = .returned (.tuple #[.string r, .int .i64 0]) ∧ Below w.heap.size w W' := by
 have z0 := mul9 (x := n) (y := -c) ⟨by omega, by omega⟩ ⟨by omega, by omega⟩
 have z1 := mul9 (x := d) (y := -m) ⟨by omega, by omega⟩ ⟨by omega, by omega⟩
 have C := Lib.hid ((And.intro h0 (And.intro h1 (And.intro h2 h3)))); clear h0 h1 h2 h3
 have B0 := Lib.hid (Below.refl w.heap.size w)
 go_enter Tryz.func20, Tryz.ntmps20
 go_wp2_with fail
 refine (C.out.1 _ B0.out).mono ?_
 rintro e w1 ⟨rfl, b⟩
 have B1 := Lib.hid (B0.out.trans (b.mono B0.out.size)); clear b B0
 go_wp2_with fail
 refine (C.out.2.1 _ B1.out).mono ?_
 rintro e w2 ⟨rfl, b⟩
 have B2 := Lib.hid (B1.out.trans (b.mono B1.out.size)); clear b B1
 go_wp2_with fail
 refine (C.out.2.2.1 _ B2.out).mono ?_
 rintro e w3 ⟨rfl, b⟩
 have B3 := Lib.hid (B2.out.trans (b.mono B2.out.size)); clear b B2
 go_wp2_with fail
 refine (C.out.2.2.2 _ B3.out).mono ?_
 rintro e w4 ⟨rfl, b⟩
 have B4 := Lib.hid (B3.out.trans (b.mono B3.out.size)); clear b B3
 go_wp2
 go_ret2
 exact ⟨rfl, B4.out⟩
theorem rCompare_lt (a b : ByteArray) (n d m c : Int) (w : World) (hq : n * c < m * d) (hn : -1000000000 < n ∧ n < 1000000000) (hd : 0 < d ∧ d < 1000000000) (hm : -1000000000 < m ∧ m < 1000000000) (hc : 0 < c ∧ c < 1000000000)
   (h0 : CqB w 56 #[.string a, .string b] (.int .i64 0))
   (h1 : CqB w 59 #[.string a] (.tuple #[.int .i64 n, .int .i64 d, .bool true]))
   (h2 : CqB w 59 #[.string b] (.tuple #[.int .i64 m, .int .i64 c, .bool true])) :
   Calls Tryz.prog 22 #[.string a, .string b] w fun e W' => e = .returned (.tuple #[.int .i64 (-1), .int .i64 0]) ∧ Below w.heap.size w W' := by
 have z0 := mul9 (x := n) (y := c) ⟨by omega, by omega⟩ ⟨by omega, by omega⟩
 have z1 := mul9 (x := m) (y := d) ⟨by omega, by omega⟩ ⟨by omega, by omega⟩
 have C := Lib.hid ((And.intro h0 (And.intro h1 h2))); clear h0 h1 h2
 have B0 := Lib.hid (Below.refl w.heap.size w)
 go_enter Tryz.func22, Tryz.ntmps22
 go_wp2_with fail
 refine (C.out.1 _ B0.out).mono ?_
 rintro e w1 ⟨rfl, b⟩
 have B1 := Lib.hid (B0.out.trans (b.mono B0.out.size)); clear b B0
 go_wp2_with fail
 refine (C.out.2.1 _ B1.out).mono ?_
 rintro e w2 ⟨rfl, b⟩
 have B2 := Lib.hid (B1.out.trans (b.mono B1.out.size)); clear b B1
 go_wp2_with fail
 refine (C.out.2.2 _ B2.out).mono ?_
 rintro e w3 ⟨rfl, b⟩
 have B3 := Lib.hid (B2.out.trans (b.mono B2.out.size)); clear b B2
 go_wp2
 go_ret2
 exact ⟨rfl, B3.out⟩
theorem rCompare_gt (a b : ByteArray) (n d m c : Int) (w : World) (hq : ¬ n * c < m * d ∧ m * d < n * c) (hn : -1000000000 < n ∧ n < 1000000000) (hd : 0 < d ∧ d < 1000000000) (hm : -1000000000 < m ∧ m < 1000000000) (hc : 0 < c ∧ c < 1000000000)
   (h0 : CqB w 56 #[.string a, .string b] (.int .i64 0))
   (h1 : CqB w 59 #[.string a] (.tuple #[.int .i64 n, .int .i64 d, .bool true]))
   (h2 : CqB w 59 #[.string b] (.tuple #[.int .i64 m, .int .i64 c, .bool true])) :
   Calls Tryz.prog 22 #[.string a, .string b] w fun e W' => e = .returned (.tuple #[.int .i64 1, .int .i64 0]) ∧ Below w.heap.size w W' := by
 have z0 := mul9 (x := n) (y := c) ⟨by omega, by omega⟩ ⟨by omega, by omega⟩
 have z1 := mul9 (x := m) (y := d) ⟨by omega, by omega⟩ ⟨by omega, by omega⟩
 obtain ⟨hq, hq2⟩ := hq
 have C := Lib.hid ((And.intro h0 (And.intro h1 h2))); clear h0 h1 h2
 have B0 := Lib.hid (Below.refl w.heap.size w)
 go_enter Tryz.func22, Tryz.ntmps22
 go_wp2_with fail
 refine (C.out.1 _ B0.out).mono ?_
 rintro e w1 ⟨rfl, b⟩
 have B1 := Lib.hid (B0.out.trans (b.mono B0.out.size)); clear b B0
 go_wp2_with fail
 refine (C.out.2.1 _ B1.out).mono ?_
 rintro e w2 ⟨rfl, b⟩
 have B2 := Lib.hid (B1.out.trans (b.mono B1.out.size)); clear b B1
 go_wp2_with fail
 refine (C.out.2.2 _ B2.out).mono ?_
 rintro e w3 ⟨rfl, b⟩
 have B3 := Lib.hid (B2.out.trans (b.mono B2.out.size)); clear b B2
 go_wp2
 go_ret2
 exact ⟨rfl, B3.out⟩
theorem rCompare_eq (a b : ByteArray) (n d m c : Int) (w : World) (hq : ¬ n * c < m * d ∧ ¬ m * d < n * c) (hn : -1000000000 < n ∧ n < 1000000000) (hd : 0 < d ∧ d < 1000000000) (hm : -1000000000 < m ∧ m < 1000000000) (hc : 0 < c ∧ c < 1000000000)
   (h0 : CqB w 56 #[.string a, .string b] (.int .i64 0))
   (h1 : CqB w 59 #[.string a] (.tuple #[.int .i64 n, .int .i64 d, .bool true]))
   (h2 : CqB w 59 #[.string b] (.tuple #[.int .i64 m, .int .i64 c, .bool true])) :
   Calls Tryz.prog 22 #[.string a, .string b] w fun e W' => e = .returned (.tuple #[.int .i64 0, .int .i64 0]) ∧ Below w.heap.size w W' := by
 have z0 := mul9 (x := n) (y := c) ⟨by omega, by omega⟩ ⟨by omega, by omega⟩
 have z1 := mul9 (x := m) (y := d) ⟨by omega, by omega⟩ ⟨by omega, by omega⟩
 obtain ⟨hq, hq2⟩ := hq
 have C := Lib.hid ((And.intro h0 (And.intro h1 h2))); clear h0 h1 h2
 have B0 := Lib.hid (Below.refl w.heap.size w)
 go_enter Tryz.func22, Tryz.ntmps22
 go_wp2_with fail
 refine (C.out.1 _ B0.out).mono ?_
 rintro e w1 ⟨rfl, b⟩
 have B1 := Lib.hid (B0.out.trans (b.mono B0.out.size)); clear b B0
 go_wp2_with fail
 refine (C.out.2.1 _ B1.out).mono ?_
 rintro e w2 ⟨rfl, b⟩
 have B2 := Lib.hid (B1.out.trans (b.mono B1.out.size)); clear b B1
 go_wp2_with fail
 refine (C.out.2.2 _ B2.out).mono ?_
 rintro e w3 ⟨rfl, b⟩
 have B3 := Lib.hid (B2.out.trans (b.mono B2.out.size)); clear b B2
 go_wp2
 go_ret2
 exact ⟨rfl, B3.out⟩
theorem rMul_lf (a b p q r s : ByteArray) (n d m c : Int) (k : Bool) (u : ByteArray) (f : Int) (w : World)
   (h0 : CqB w 56 #[.string a, .string b] (.int .i64 0))
   (h1 : CqB w 59 #[.string a] (.tuple #[.int .i64 n, .int .i64 d, .bool false]))
   (h2 : CqB w 59 #[.string b] (.tuple #[.int .i64 m, .int .i64 c, .bool k]))
   (h3 : CqB w 61 #[.string a] (.tuple #[.string p, .string q]))
   (h4 : CqB w 61 #[.string b] (.tuple #[.string r, .string s]))
   (h5 : CqB w 62 #[.string p, .string q, .string r, .string s] (.tuple #[.string u, .int .i64 f])) :
   Calls Tryz.prog 19 #[.string a, .string b] w fun e W' => e = .returned (.tuple #[.string u, .int .i64 f]) ∧ Below w.heap.size w W' := by
 have C := Lib.hid ((And.intro h0 (And.intro h1 (And.intro h2 (And.intro h3 (And.intro h4 h5)))))); clear h0 h1 h2 h3 h4 h5
 have B0 := Lib.hid (Below.refl w.heap.size w)
 go_enter Tryz.func19, Tryz.ntmps19
 go_wp2_with fail
 refine (C.out.1 _ B0.out).mono ?_
 rintro e w1 ⟨rfl, b⟩
 have B1 := Lib.hid (B0.out.trans (b.mono B0.out.size)); clear b B0
 go_wp2_with fail
 refine (C.out.2.1 _ B1.out).mono ?_
 rintro e w2 ⟨rfl, b⟩
 have B2 := Lib.hid (B1.out.trans (b.mono B1.out.size)); clear b B1
 go_wp2_with fail
 refine (C.out.2.2.1 _ B2.out).mono ?_
 rintro e w3 ⟨rfl, b⟩
 have B3 := Lib.hid (B2.out.trans (b.mono B2.out.size)); clear b B2
 go_wp2_with fail
 refine (C.out.2.2.2.1 _ B3.out).mono ?_
 rintro e w4 ⟨rfl, b⟩
 have B4 := Lib.hid (B3.out.trans (b.mono B3.out.size)); clear b B3
 go_wp2_with fail
 refine (C.out.2.2.2.2.1 _ B4.out).mono ?_
 rintro e w5 ⟨rfl, b⟩
 have B5 := Lib.hid (B4.out.trans (b.mono B4.out.size)); clear b B4
 go_wp2_with fail
 refine (C.out.2.2.2.2.2 _ B5.out).mono ?_
 rintro e w6 ⟨rfl, b⟩
 have B6 := Lib.hid (B5.out.trans (b.mono B5.out.size)); clear b B5
 go_wp2
 go_ret2
 exact ⟨rfl, B6.out⟩
theorem rDiv_lf (a b p q r s : ByteArray) (n d m c : Int) (k : Bool) (u : ByteArray) (f : Int) (w : World) (hz : (b.toList == [48]) = false)
   (h0 : CqB w 56 #[.string a, .string b] (.int .i64 0))
   (h1 : CqB w 59 #[.string a] (.tuple #[.int .i64 n, .int .i64 d, .bool false]))
   (h2 : CqB w 59 #[.string b] (.tuple #[.int .i64 m, .int .i64 c, .bool k]))
   (h3 : CqB w 61 #[.string a] (.tuple #[.string p, .string q]))
   (h4 : CqB w 61 #[.string b] (.tuple #[.string r, .string s]))
   (h5 : CqB w 62 #[.string p, .string q, .string s, .string r] (.tuple #[.string u, .int .i64 f])) :
   Calls Tryz.prog 20 #[.string a, .string b] w fun e W' => e = .returned (.tuple #[.string u, .int .i64 f]) ∧ Below w.heap.size w W' := by
 have C := Lib.hid ((And.intro h0 (And.intro h1 (And.intro h2 (And.intro h3 (And.intro h4 h5)))))); clear h0 h1 h2 h3 h4 h5
 have B0 := Lib.hid (Below.refl w.heap.size w)
 go_enter Tryz.func20, Tryz.ntmps20
 go_wp2_with fail
 refine (C.out.1 _ B0.out).mono ?_
 rintro e w1 ⟨rfl, b⟩
 have B1 := Lib.hid (B0.out.trans (b.mono B0.out.size)); clear b B0
 go_wp2_with fail
 refine (C.out.2.1 _ B1.out).mono ?_
 rintro e w2 ⟨rfl, b⟩
 have B2 := Lib.hid (B1.out.trans (b.mono B1.out.size)); clear b B1
 go_wp2_with fail
 refine (C.out.2.2.1 _ B2.out).mono ?_
 rintro e w3 ⟨rfl, b⟩
 have B3 := Lib.hid (B2.out.trans (b.mono B2.out.size)); clear b B2
 go_wp2_with fail
 refine (C.out.2.2.2.1 _ B3.out).mono ?_
 rintro e w4 ⟨rfl, b⟩
 have B4 := Lib.hid (B3.out.trans (b.mono B3.out.size)); clear b B3
 go_wp2_with fail
 refine (C.out.2.2.2.2.1 _ B4.out).mono ?_
 rintro e w5 ⟨rfl, b⟩
 have B5 := Lib.hid (B4.out.trans (b.mono B4.out.size)); clear b B4
 go_wp2_with fail
 refine (C.out.2.2.2.2.2 _ B5.out).mono ?_
 rintro e w6 ⟨rfl, b⟩
 have B6 := Lib.hid (B5.out.trans (b.mono B5.out.size)); clear b B5
 go_wp2
 go_ret2
 exact ⟨rfl, B6.out⟩
theorem rCompare_ef (a b p q r s : ByteArray) (n d m c : Int) (k : Bool) (x y : ByteArray) (f : Int) (w : World) (n1 : (f == 0) = false) (n2 : (f != 0) = true)
   (h0 : CqB w 56 #[.string a, .string b] (.int .i64 0))
   (h1 : CqB w 59 #[.string a] (.tuple #[.int .i64 n, .int .i64 d, .bool false]))
   (h2 : CqB w 59 #[.string b] (.tuple #[.int .i64 m, .int .i64 c, .bool k]))
   (h3 : CqB w 61 #[.string a] (.tuple #[.string p, .string q]))
   (h4 : CqB w 61 #[.string b] (.tuple #[.string r, .string s]))
   (h5 : CqB w 66 #[.string p, .string s, .string r, .string q] (.tuple #[.string x, .string y, .int .i64 f])) :
   Calls Tryz.prog 22 #[.string a, .string b] w fun e W' => e = .returned (.tuple #[.int .i64 0, .int .i64 f]) ∧ Below w.heap.size w W' := by
 have C := Lib.hid ((And.intro h0 (And.intro h1 (And.intro h2 (And.intro h3 (And.intro h4 h5)))))); clear h0 h1 h2 h3 h4 h5
 have B0 := Lib.hid (Below.refl w.heap.size w)
 go_enter Tryz.func22, Tryz.ntmps22
 go_wp2_with fail
 refine (C.out.1 _ B0.out).mono ?_
 rintro e w1 ⟨rfl, b⟩
 have B1 := Lib.hid (B0.out.trans (b.mono B0.out.size)); clear b B0
 go_wp2_with fail
 refine (C.out.2.1 _ B1.out).mono ?_
 rintro e w2 ⟨rfl, b⟩
 have B2 := Lib.hid (B1.out.trans (b.mono B1.out.size)); clear b B1
 go_wp2_with fail
 refine (C.out.2.2.1 _ B2.out).mono ?_
 rintro e w3 ⟨rfl, b⟩
 have B3 := Lib.hid (B2.out.trans (b.mono B2.out.size)); clear b B2
 go_wp2_with fail
 refine (C.out.2.2.2.1 _ B3.out).mono ?_
 rintro e w4 ⟨rfl, b⟩
 have B4 := Lib.hid (B3.out.trans (b.mono B3.out.size)); clear b B3
 go_wp2_with fail
 refine (C.out.2.2.2.2.1 _ B4.out).mono ?_
 rintro e w5 ⟨rfl, b⟩
 have B5 := Lib.hid (B4.out.trans (b.mono B4.out.size)); clear b B4
 go_wp2_with fail
 refine (C.out.2.2.2.2.2 _ B5.out).mono ?_
 rintro e w6 ⟨rfl, b⟩
 have B6 := Lib.hid (B5.out.trans (b.mono B5.out.size)); clear b B5
 go_wp2
 go_ret2
 exact ⟨rfl, B6.out⟩
theorem rCompare_wf (a b p q r s : ByteArray) (n d m c : Int) (k : Bool) (x y : ByteArray) (u f : Int) (w : World)
   (h0 : CqB w 56 #[.string a, .string b] (.int .i64 0))
   (h1 : CqB w 59 #[.string a] (.tuple #[.int .i64 n, .int .i64 d, .bool false]))
   (h2 : CqB w 59 #[.string b] (.tuple #[.int .i64 m, .int .i64 c, .bool k]))
   (h3 : CqB w 61 #[.string a] (.tuple #[.string p, .string q]))
   (h4 : CqB w 61 #[.string b] (.tuple #[.string r, .string s]))
   (h5 : CqB w 66 #[.string p, .string s, .string r, .string q] (.tuple #[.string x, .string y, .int .i64 0]))
   (h6 : CqB w 67 #[.string x, .string y] (.tuple #[.int .i64 u, .int .i64 f])) :
   Calls Tryz.prog 22 #[.string a, .string b] w fun e W' => e = .returned (.tuple #[.int .i64 u, .int .i64 f]) ∧ Below w.heap.size w W' := by
 have C := Lib.hid ((And.intro h0 (And.intro h1 (And.intro h2 (And.intro h3 (And.intro h4 (And.intro h5 h6))))))); clear h0 h1 h2 h3 h4 h5 h6
 have B0 := Lib.hid (Below.refl w.heap.size w)
 go_enter Tryz.func22, Tryz.ntmps22
 go_wp2_with fail
 refine (C.out.1 _ B0.out).mono ?_
 rintro e w1 ⟨rfl, b⟩
 have B1 := Lib.hid (B0.out.trans (b.mono B0.out.size)); clear b B0
 go_wp2_with fail
 refine (C.out.2.1 _ B1.out).mono ?_
 rintro e w2 ⟨rfl, b⟩
 have B2 := Lib.hid (B1.out.trans (b.mono B1.out.size)); clear b B1
 go_wp2_with fail
 refine (C.out.2.2.1 _ B2.out).mono ?_
 rintro e w3 ⟨rfl, b⟩
 have B3 := Lib.hid (B2.out.trans (b.mono B2.out.size)); clear b B2
 go_wp2_with fail
 refine (C.out.2.2.2.1 _ B3.out).mono ?_
 rintro e w4 ⟨rfl, b⟩
 have B4 := Lib.hid (B3.out.trans (b.mono B3.out.size)); clear b B3
 go_wp2_with fail
 refine (C.out.2.2.2.2.1 _ B4.out).mono ?_
 rintro e w5 ⟨rfl, b⟩
 have B5 := Lib.hid (B4.out.trans (b.mono B4.out.size)); clear b B4
 go_wp2_with fail
 refine (C.out.2.2.2.2.2.1 _ B5.out).mono ?_
 rintro e w6 ⟨rfl, b⟩
 have B6 := Lib.hid (B5.out.trans (b.mono B5.out.size)); clear b B5
 go_wp2_with fail
 refine (C.out.2.2.2.2.2.2 _ B6.out).mono ?_
 rintro e w7 ⟨rfl, b⟩
 have B7 := Lib.hid (B6.out.trans (b.mono B6.out.size)); clear b B6
 go_wp2
 go_ret2
 exact ⟨rfl, B7.out⟩
theorem rMul_lt (a b p q r s : ByteArray) (n d m c : Int) (u : ByteArray) (f : Int) (w : World)
   (h0 : CqB w 56 #[.string a, .string b] (.int .i64 0))
   (h1 : CqB w 59 #[.string a] (.tuple #[.int .i64 n, .int .i64 d, .bool true]))
   (h2 : CqB w 59 #[.string b] (.tuple #[.int .i64 m, .int .i64 c, .bool false]))
   (h3 : CqB w 61 #[.string a] (.tuple #[.string p, .string q]))
   (h4 : CqB w 61 #[.string b] (.tuple #[.string r, .string s]))
   (h5 : CqB w 62 #[.string p, .string q, .string r, .string s] (.tuple #[.string u, .int .i64 f])) :
   Calls Tryz.prog 19 #[.string a, .string b] w fun e W' => e = .returned (.tuple #[.string u, .int .i64 f]) ∧ Below w.heap.size w W' := by
 have C := Lib.hid ((And.intro h0 (And.intro h1 (And.intro h2 (And.intro h3 (And.intro h4 h5)))))); clear h0 h1 h2 h3 h4 h5
 have B0 := Lib.hid (Below.refl w.heap.size w)
 go_enter Tryz.func19, Tryz.ntmps19
 go_wp2_with fail
 refine (C.out.1 _ B0.out).mono ?_
 rintro e w1 ⟨rfl, b⟩
 have B1 := Lib.hid (B0.out.trans (b.mono B0.out.size)); clear b B0
 go_wp2_with fail
 refine (C.out.2.1 _ B1.out).mono ?_
 rintro e w2 ⟨rfl, b⟩
 have B2 := Lib.hid (B1.out.trans (b.mono B1.out.size)); clear b B1
 go_wp2_with fail
 refine (C.out.2.2.1 _ B2.out).mono ?_
 rintro e w3 ⟨rfl, b⟩
 have B3 := Lib.hid (B2.out.trans (b.mono B2.out.size)); clear b B2
 go_wp2_with fail
 refine (C.out.2.2.2.1 _ B3.out).mono ?_
 rintro e w4 ⟨rfl, b⟩
 have B4 := Lib.hid (B3.out.trans (b.mono B3.out.size)); clear b B3
 go_wp2_with fail
 refine (C.out.2.2.2.2.1 _ B4.out).mono ?_
 rintro e w5 ⟨rfl, b⟩
 have B5 := Lib.hid (B4.out.trans (b.mono B4.out.size)); clear b B4
 go_wp2_with fail
 refine (C.out.2.2.2.2.2 _ B5.out).mono ?_
 rintro e w6 ⟨rfl, b⟩
 have B6 := Lib.hid (B5.out.trans (b.mono B5.out.size)); clear b B5
 go_wp2
 go_ret2
 exact ⟨rfl, B6.out⟩
theorem rDiv_lt (a b p q r s : ByteArray) (n d m c : Int) (u : ByteArray) (f : Int) (w : World) (hz : (b.toList == [48]) = false)
   (h0 : CqB w 56 #[.string a, .string b] (.int .i64 0))
   (h1 : CqB w 59 #[.string a] (.tuple #[.int .i64 n, .int .i64 d, .bool true]))
   (h2 : CqB w 59 #[.string b] (.tuple #[.int .i64 m, .int .i64 c, .bool false]))
   (h3 : CqB w 61 #[.string a] (.tuple #[.string p, .string q]))
   (h4 : CqB w 61 #[.string b] (.tuple #[.string r, .string s]))
   (h5 : CqB w 62 #[.string p, .string q, .string s, .string r] (.tuple #[.string u, .int .i64 f])) :
   Calls Tryz.prog 20 #[.string a, .string b] w fun e W' => e = .returned (.tuple #[.string u, .int .i64 f]) ∧ Below w.heap.size w W' := by
 have C := Lib.hid ((And.intro h0 (And.intro h1 (And.intro h2 (And.intro h3 (And.intro h4 h5)))))); clear h0 h1 h2 h3 h4 h5
 have B0 := Lib.hid (Below.refl w.heap.size w)
 go_enter Tryz.func20, Tryz.ntmps20
 go_wp2_with fail
 refine (C.out.1 _ B0.out).mono ?_
 rintro e w1 ⟨rfl, b⟩
 have B1 := Lib.hid (B0.out.trans (b.mono B0.out.size)); clear b B0
 go_wp2_with fail
 refine (C.out.2.1 _ B1.out).mono ?_
 rintro e w2 ⟨rfl, b⟩
 have B2 := Lib.hid (B1.out.trans (b.mono B1.out.size)); clear b B1
 go_wp2_with fail
 refine (C.out.2.2.1 _ B2.out).mono ?_
 rintro e w3 ⟨rfl, b⟩
 have B3 := Lib.hid (B2.out.trans (b.mono B2.out.size)); clear b B2
 go_wp2_with fail
 refine (C.out.2.2.2.1 _ B3.out).mono ?_
 rintro e w4 ⟨rfl, b⟩
 have B4 := Lib.hid (B3.out.trans (b.mono B3.out.size)); clear b B3
 go_wp2_with fail
 refine (C.out.2.2.2.2.1 _ B4.out).mono ?_
 rintro e w5 ⟨rfl, b⟩
 have B5 := Lib.hid (B4.out.trans (b.mono B4.out.size)); clear b B4
 go_wp2_with fail
 refine (C.out.2.2.2.2.2 _ B5.out).mono ?_
 rintro e w6 ⟨rfl, b⟩
 have B6 := Lib.hid (B5.out.trans (b.mono B5.out.size)); clear b B5
 go_wp2
 go_ret2
 exact ⟨rfl, B6.out⟩
theorem rCompare_et (a b p q r s : ByteArray) (n d m c : Int) (x y : ByteArray) (f : Int) (w : World) (n1 : (f == 0) = false) (n2 : (f != 0) = true)
   (h0 : CqB w 56 #[.string a, .string b] (.int .i64 0))
   (h1 : CqB w 59 #[.string a] (.tuple #[.int .i64 n, .int .i64 d, .bool true]))
   (h2 : CqB w 59 #[.string b] (.tuple #[.int .i64 m, .int .i64 c, .bool false]))
   (h3 : CqB w 61 #[.string a] (.tuple #[.string p, .string q]))
   (h4 : CqB w 61 #[.string b] (.tuple #[.string r, .string s]))
   (h5 : CqB w 66 #[.string p, .string s, .string r, .string q] (.tuple #[.string x, .string y, .int .i64 f])) :
   Calls Tryz.prog 22 #[.string a, .string b] w fun e W' => e = .returned (.tuple #[.int .i64 0, .int .i64 f]) ∧ Below w.heap.size w W' := by
 have C := Lib.hid ((And.intro h0 (And.intro h1 (And.intro h2 (And.intro h3 (And.intro h4 h5)))))); clear h0 h1 h2 h3 h4 h5
 have B0 := Lib.hid (Below.refl w.heap.size w)
 go_enter Tryz.func22, Tryz.ntmps22
 go_wp2_with fail
 refine (C.out.1 _ B0.out).mono ?_
 rintro e w1 ⟨rfl, b⟩
 have B1 := Lib.hid (B0.out.trans (b.mono B0.out.size)); clear b B0
 go_wp2_with fail
 refine (C.out.2.1 _ B1.out).mono ?_
 rintro e w2 ⟨rfl, b⟩
 have B2 := Lib.hid (B1.out.trans (b.mono B1.out.size)); clear b B1
 go_wp2_with fail
 refine (C.out.2.2.1 _ B2.out).mono ?_
 rintro e w3 ⟨rfl, b⟩
 have B3 := Lib.hid (B2.out.trans (b.mono B2.out.size)); clear b B2
 go_wp2_with fail
 refine (C.out.2.2.2.1 _ B3.out).mono ?_
 rintro e w4 ⟨rfl, b⟩
 have B4 := Lib.hid (B3.out.trans (b.mono B3.out.size)); clear b B3
 go_wp2_with fail
 refine (C.out.2.2.2.2.1 _ B4.out).mono ?_
 rintro e w5 ⟨rfl, b⟩
 have B5 := Lib.hid (B4.out.trans (b.mono B4.out.size)); clear b B4
 go_wp2_with fail
 refine (C.out.2.2.2.2.2 _ B5.out).mono ?_
 rintro e w6 ⟨rfl, b⟩
 have B6 := Lib.hid (B5.out.trans (b.mono B5.out.size)); clear b B5
 go_wp2
 go_ret2
 exact ⟨rfl, B6.out⟩
theorem rCompare_wt (a b p q r s : ByteArray) (n d m c : Int) (x y : ByteArray) (u f : Int) (w : World)
   (h0 : CqB w 56 #[.string a, .string b] (.int .i64 0))
   (h1 : CqB w 59 #[.string a] (.tuple #[.int .i64 n, .int .i64 d, .bool true]))
   (h2 : CqB w 59 #[.string b] (.tuple #[.int .i64 m, .int .i64 c, .bool false]))
   (h3 : CqB w 61 #[.string a] (.tuple #[.string p, .string q]))
   (h4 : CqB w 61 #[.string b] (.tuple #[.string r, .string s]))
   (h5 : CqB w 66 #[.string p, .string s, .string r, .string q] (.tuple #[.string x, .string y, .int .i64 0]))
   (h6 : CqB w 67 #[.string x, .string y] (.tuple #[.int .i64 u, .int .i64 f])) :
   Calls Tryz.prog 22 #[.string a, .string b] w fun e W' => e = .returned (.tuple #[.int .i64 u, .int .i64 f]) ∧ Below w.heap.size w W' := by
 have C := Lib.hid ((And.intro h0 (And.intro h1 (And.intro h2 (And.intro h3 (And.intro h4 (And.intro h5 h6))))))); clear h0 h1 h2 h3 h4 h5 h6
 have B0 := Lib.hid (Below.refl w.heap.size w)
 go_enter Tryz.func22, Tryz.ntmps22
 go_wp2_with fail
 refine (C.out.1 _ B0.out).mono ?_
 rintro e w1 ⟨rfl, b⟩
 have B1 := Lib.hid (B0.out.trans (b.mono B0.out.size)); clear b B0
 go_wp2_with fail
 refine (C.out.2.1 _ B1.out).mono ?_
 rintro e w2 ⟨rfl, b⟩
 have B2 := Lib.hid (B1.out.trans (b.mono B1.out.size)); clear b B1
 go_wp2_with fail
 refine (C.out.2.2.1 _ B2.out).mono ?_
 rintro e w3 ⟨rfl, b⟩
 have B3 := Lib.hid (B2.out.trans (b.mono B2.out.size)); clear b B2
 go_wp2_with fail
 refine (C.out.2.2.2.1 _ B3.out).mono ?_
 rintro e w4 ⟨rfl, b⟩
 have B4 := Lib.hid (B3.out.trans (b.mono B3.out.size)); clear b B3
 go_wp2_with fail
 refine (C.out.2.2.2.2.1 _ B4.out).mono ?_
 rintro e w5 ⟨rfl, b⟩
 have B5 := Lib.hid (B4.out.trans (b.mono B4.out.size)); clear b B4
 go_wp2_with fail
 refine (C.out.2.2.2.2.2.1 _ B5.out).mono ?_
 rintro e w6 ⟨rfl, b⟩
 have B6 := Lib.hid (B5.out.trans (b.mono B5.out.size)); clear b B5
 go_wp2_with fail
 refine (C.out.2.2.2.2.2.2 _ B6.out).mono ?_
 rintro e w7 ⟨rfl, b⟩
 have B7 := Lib.hid (B6.out.trans (b.mono B6.out.size)); clear b B6
 go_wp2
 go_ret2
 exact ⟨rfl, B7.out⟩
end Go.Proofs.YtmafghdgmdbpnaaGreatDoor
