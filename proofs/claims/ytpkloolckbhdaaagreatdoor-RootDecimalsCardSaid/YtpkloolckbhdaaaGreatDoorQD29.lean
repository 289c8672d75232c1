/- Parts of the proof of the text YtpkloolckbhdaaaGreatDoorQD31. -/
import Derived.Test.YtpkloolckbhdaaaGreatDoorQD1
import Derived.Test.YtpkloolckbhdaaaGreatDoorQD20
import Derived.Test.YtpkloolckbhdaaaGreatDoorQD21
import Derived.Test.YtpkloolckbhdaaaGreatDoorQD28
set_option linter.all false
set_option maxRecDepth 100000
set_option maxHeartbeats 8000000
namespace Go.Proofs.YtpkloolckbhdaaaGreatDoor.T
open Go.Proofs.YtpkloolckbhdaaaGreatDoor Go Go.RowKit
theorem sN_size {m : Nat} : (sN m).size ≤ 18 ↔ m < 1000000000000000000 := by
 unfold sN
 rw [strB_len, Lib.itoa_nonneg, Lib.decDigits_length]
 exact nDigits_le_iff m 18 (by decide)
theorem wsq_any (m : Nat) (w : World) (h0 : 0 < m) (hm : m < lim) (ht : Tab w) (hS : Sm w) :
   Calls Tryz.prog 118 #[.string (sN m)] w fun e W' => e = .returned (.tuple #[.string (sN (strips primes m).1), .string (sN (strips primes m).2)]) ∧ Below w.heap.size w W' := by
 by_cases hs : (sN m).size ≤ 18
 · exact short_any m w h0 (sN_size.1 hs) hs ht hS
 · have C := Lib.hid (long_any m w h0 hm ht hS); clear ht hS h0
   have hz : (sN m).size ≤ 301 := strB_size (nat_short.2 hm)
   have h1 : (18 : Int) < (sN m).size := by omega
   have h2 : ((sN m).size : Int) ≤ 9223372036854775807 := by omega
   generalize sN (strips primes m).1 = a at *
   generalize sN (strips primes m).2 = b at *
   generalize sN m = s at *
   clear hs hz hm
   go_enter Tryz.func118, Tryz.ntmps118
   go_wp2_with fail
   refine C.out.mono ?_
   rintro e w1 ⟨rfl, b⟩
   have B1 := Lib.hid b; clear b
   go_wp2
   go_ret2
   exact ⟨rfl, B1.out⟩
theorem normal_yes (n d c : ByteArray) (w : World)
   (h : ∀ W, Below w.heap.size w W → Calls Tryz.prog 73 #[.agg #[.string n, .string d]] W fun e W' => e = .returned (.tuple #[.string c, .bool true]) ∧ Below W.heap.size W W') :
   Calls Tryz.prog 72 #[.agg #[.string n, .string d]] w fun e W' => e = .returned (.tuple #[.string c, .string ⟨#[49]⟩]) ∧ Below w.heap.size w W' := by
 have C := Lib.hid (And.intro h True.intro); clear h
 go_enter Tryz.func72, Tryz.ntmps72
 go_wp2_with fail
 have hbx : Bxs w w.heap.size [[.string n, .string d]] (w.alloc (.cells #[.string n, .string d] 75)) := ((Bxs.nil w w (Below.refl _ _)).push rfl [.string n, .string d] 75)
 generalize (w.alloc (.cells #[.string n, .string d] 75)) = W0 at *
 generalize hk : w.heap.size = k at *
 have HK := Lib.hid hk; clear hk
 have HB := Lib.hid hbx
 clear hbx
 have e00 := (show World.cell? _ ⟨k, 0, none⟩ = some (.string n) from HB.out.cells 0 _ rfl 0 _ rfl)
 have e01 := (show World.cell? _ ⟨k, 1, none⟩ = some (.string d) from HB.out.cells 0 _ rfl 1 _ rfl)
 refine (C.out.1 _ (by have := HB.out.below; rwa [HK.out] at this)).mono ?_
 rintro e w1 ⟨rfl, b⟩
 have HN := Lib.hid (HB.out.next b); clear HB b; have HB := HN; clear HN; have e00 := (show World.cell? _ ⟨k, 0, none⟩ = some (.string n) from HB.out.cells 0 _ rfl 0 _ rfl); have e01 := (show World.cell? _ ⟨k, 1, none⟩ = some (.string d) from HB.out.cells 0 _ rfl 1 _ rfl)
 go_wp2
 go_ret2
 refine ⟨rfl, ?_⟩
 have hbl := HB.out.below
 rwa [HK.out] at hbl ⊢
theorem normal_no (n d a m b k bk c mk : ByteArray) (w : World)
   (h1 : ∀ W, Below w.heap.size w W → Calls Tryz.prog 73 #[.agg #[.string n, .string d]] W fun e W' => e = .returned (.tuple #[.string ⟨#[]⟩, .bool false]) ∧ Below W.heap.size W W')
   (h2 : ∀ W, Below w.heap.size w W → Calls Tryz.prog 118 #[.string n] W fun e W' => e = .returned (.tuple #[.string a, .string m]) ∧ Below W.heap.size W W')
   (h3 : ∀ W, Below w.heap.size w W → Calls Tryz.prog 118 #[.string d] W fun e W' => e = .returned (.tuple #[.string b, .string k]) ∧ Below W.heap.size W W')
   (h4 : ∀ W, Below w.heap.size w W → Calls Tryz.prog 88 #[.string b, .string k] W fun e W' => e = .returned (.string bk) ∧ Below W.heap.size W W')
   (h5 : ∀ W, Below w.heap.size w W → Calls Tryz.prog 41 #[.agg #[.string a, .string bk]] W fun e W' => e = .returned (.string c) ∧ Below W.heap.size W W')
   (h6 : ∀ W, Below w.heap.size w W → Calls Tryz.prog 88 #[.string m, .string k] W fun e W' => e = .returned (.string mk) ∧ Below W.heap.size W W') :
   Calls Tryz.prog 72 #[.agg #[.string n, .string d]] w fun e W' => e = .returned (.tuple #[.string c, .string mk]) ∧ Below w.heap.size w W' := by
 have C := Lib.hid (And.intro h1 (And.intro h2 (And.intro h3 (And.intro h4 (And.intro h5 h6))))); clear h1 h2 h3 h4 h5 h6
 go_enter Tryz.func72, Tryz.ntmps72
 go_wp2_with fail
 have hbx : Bxs w w.heap.size [[.string n, .string d]] (w.alloc (.cells #[.string n, .string d] 75)) := ((Bxs.nil w w (Below.refl _ _)).push rfl [.string n, .string d] 75)
 generalize (w.alloc (.cells #[.string n, .string d] 75)) = W0 at *
 generalize hk : w.heap.size = k at *
 have HK := Lib.hid hk; clear hk
 have HB := Lib.hid hbx
 clear hbx
 have e00 := (show World.cell? _ ⟨k, 0, none⟩ = some (.string n) from HB.out.cells 0 _ rfl 0 _ rfl)
 have e01 := (show World.cell? _ ⟨k, 1, none⟩ = some (.string d) from HB.out.cells 0 _ rfl 1 _ rfl)
 refine (C.out.1 _ (by have := HB.out.below; rwa [HK.out] at this)).mono ?_
 rintro e w1 ⟨rfl, b⟩
 have HN := Lib.hid (HB.out.next b); clear HB b; have HB := HN; clear HN; have e00 := (show World.cell? _ ⟨k, 0, none⟩ = some (.string n) from HB.out.cells 0 _ rfl 0 _ rfl); have e01 := (show World.cell? _ ⟨k, 1, none⟩ = some (.string d) from HB.out.cells 0 _ rfl 1 _ rfl)
 go_wp2_with fail
 refine (C.out.2.1 _ (by have := HB.out.below; rwa [HK.out] at this)).mono ?_
 rintro e w2 ⟨rfl, b⟩
 have HN := Lib.hid (HB.out.next b); clear HB b; have HB := HN; clear HN; have e00 := (show World.cell? _ ⟨k, 0, none⟩ = some (.string n) from HB.out.cells 0 _ rfl 0 _ rfl); have e01 := (show World.cell? _ ⟨k, 1, none⟩ = some (.string d) from HB.out.cells 0 _ rfl 1 _ rfl)
 go_wp2_with fail
 refine (C.out.2.2.1 _ (by have := HB.out.below; rwa [HK.out] at this)).mono ?_
 rintro e w3 ⟨rfl, b⟩
 have HN := Lib.hid (HB.out.next b); clear HB b; have HB := HN; clear HN; have e00 := (show World.cell? _ ⟨k, 0, none⟩ = some (.string n) from HB.out.cells 0 _ rfl 0 _ rfl); have e01 := (show World.cell? _ ⟨k, 1, none⟩ = some (.string d) from HB.out.cells 0 _ rfl 1 _ rfl)
 go_wp2_with fail
 refine (C.out.2.2.2.1 _ (by have := HB.out.below; rwa [HK.out] at this)).mono ?_
 rintro e w4 ⟨rfl, b⟩
 have HN := Lib.hid (HB.out.next b); clear HB b; have HB := HN; clear HN; have e00 := (show World.cell? _ ⟨k, 0, none⟩ = some (.string n) from HB.out.cells 0 _ rfl 0 _ rfl); have e01 := (show World.cell? _ ⟨k, 1, none⟩ = some (.string d) from HB.out.cells 0 _ rfl 1 _ rfl)
 go_wp2_with fail
 refine (C.out.2.2.2.2.1 _ (by have := HB.out.below; rwa [HK.out] at this)).mono ?_
 rintro e w5 ⟨rfl, b⟩
 have HN := Lib.hid (HB.out.next b); clear HB b; have HB := HN; clear HN; have e00 := (show World.cell? _ ⟨k, 0, none⟩ = some (.string n) from HB.out.cells 0 _ rfl 0 _ rfl); have e01 := (show World.cell? _ ⟨k, 1, none⟩ = some (.string d) from HB.out.cells 0 _ rfl 1 _ rfl)
 go_wp2_with fail
 refine (C.out.2.2.2.2.2 _ (by have := HB.out.below; rwa [HK.out] at this)).mono ?_
 rintro e w6 ⟨rfl, b⟩
 have HN := Lib.hid (HB.out.next b); clear HB b; have HB := HN; clear HN; have e00 := (show World.cell? _ ⟨k, 0, none⟩ = some (.string n) from HB.out.cells 0 _ rfl 0 _ rfl); have e01 := (show World.cell? _ ⟨k, 1, none⟩ = some (.string d) from HB.out.cells 0 _ rfl 1 _ rfl)
 go_wp2
 go_ret2
 refine ⟨rfl, ?_⟩
 have hbl := HB.out.below
 rwa [HK.out] at hbl ⊢
theorem ten180 : tenTo 180 ≤ lim := tenTo_mono (by decide)
theorem onormal (q : Rat) (w : World) (h0 : 0 ≤ q) (hq : Bq 90 q) (ht : Tab w) (hS : Sm w) :
   Calls Tryz.prog 72 #[.agg #[.string (strB q.num), .string (strB (q.den : Int))]] w fun e W' => e = .returned (.tuple #[.string (strQ (nC q)), .string (strB (nN q : Nat))]) ∧ Below w.heap.size w W' := by
 have sq : Sq q := hq.lim (by decide)
 by_cases hb : bothS q
 · obtain ⟨e1, e2⟩ := nC_both hb
   rw [e1, e2, show strB ((1 : Nat) : Int) = ⟨#[49]⟩ from str_of 1 [49] itoa_one]
   exact normal_yes _ _ _ w (fun W h => oroot q _ W h0 sq (ht.next h) (fun _ => rfl) (fun k => absurd hb k))
 · have hn := num_pos_of hb
   obtain ⟨a1, a2, a3, a4, _⟩ := strips_spec primes primes_2 hn
   obtain ⟨b1, b2, b3, b4, _⟩ := strips_spec primes primes_2 q.den_pos
   have la : (strips primes q.num.natAbs).1 ≤ q.num.natAbs := by
     conv => rhs; rw [a1, Nat.mul_assoc]
     exact Nat.le_mul_of_pos_right _ (Nat.mul_pos a2 a3)
   have lm : (strips primes q.num.natAbs).2 ≤ q.num.natAbs := Nat.le_of_dvd hn a4
   have lk : (strips primes q.den).2 ≤ q.den := Nat.le_of_dvd q.den_pos b4
   have lb : (strips primes q.den).1 ≤ q.den := by
     conv => rhs; rw [b1, Nat.mul_assoc]
     exact Nat.le_mul_of_pos_right _ (Nat.mul_pos b2 b3)
   have lbk : (strips primes q.den).1 * (strips primes q.den).2 ≤ q.den := by
     conv => rhs; rw [b1, Nat.mul_assoc]
     exact Nat.le_mul_of_pos_left _ b2
   have lmk : (strips primes q.num.natAbs).2 * (strips primes q.den).2 < lim :=
     Nat.lt_of_lt_of_le (Nat.lt_of_le_of_lt (Nat.mul_le_mul lm lk) (by rw [show (180 : Nat) = 90 + 90 from rfl, tenTo_add] ; exact Nat.mul_lt_mul'' hq.1 hq.2)) ten180
   have eC : nC q = Rat.divInt ((strips primes q.num.natAbs).1 : Nat) (((strips primes q.den).1 * (strips primes q.den).2 : Nat) : Int) := by
     unfold nC cN cD; rw [if_neg hb, if_neg hb]; rfl
   have eN : nN q = (strips primes q.num.natAbs).2 * (strips primes q.den).2 := by unfold nN; rw [if_neg hb]
   have hc := cop q
   unfold cN cD at hc
   rw [if_neg hb, if_neg hb] at hc
   rw [eC, eN]
   have hd : q.den < lim := sq.2
   have hnl : q.num.natAbs < lim := sq.1
   have en : strB q.num = sN q.num.natAbs := by unfold sN; rw [num_nat h0]
   rw [en]
   have p := Nat.mul_pos b2 b3
   exact normal_no (sN q.num.natAbs) (sN q.den) _ _ _ _ (sN ((strips primes q.den).1 * (strips primes q.den).2)) _ _ w
     (fun W h => by have c := oroot q _ W h0 sq (ht.next h) (fun k => absurd k hb) (fun _ => rfl); rwa [en] at c)
     (fun W h => wsq_any _ W hn hnl (ht.next h) (hS.next h)) (fun W h => wsq_any _ W q.den_pos hd (ht.next h) (hS.next h))
     (fun W h => n_times _ _ W (Nat.lt_of_le_of_lt lb hd) (Nat.lt_of_le_of_lt lk hd) (Nat.lt_of_le_of_lt lbk hd) (ht.next h))
     (fun W h => onumber _ _ W (by omega) (by rw [Int.natAbs_natCast, Int.natAbs_natCast]; exact hc) (nat_short.2 (Nat.lt_of_le_of_lt la hnl)) (nat_short.2 (Nat.lt_of_le_of_lt lbk hd)))
     (fun W h => n_times _ _ W (Nat.lt_of_le_of_lt lm hnl) (Nat.lt_of_le_of_lt lk hd) lmk (ht.next h))
theorem nn1 {q : Rat} (h : 0 ≤ q) : neg3L [strQ q] = 0 := by
 unfold neg3L; simp only [List.any_cons, List.any_nil, neg3_str, Bool.or_false]; rw [decide_eq_false (by grind)]; rfl
theorem Normal_q (q : Rat) (w : World) (h0 : 0 ≤ q) (hq : Bq 90 q) (ht : Tab w) (ht2 : Tab64 w) (hS : Sm w) :
   Calls Tryz.prog 34 #[.string (strQ q)] w fun e W' => e = .returned (.tuple #[.string (strQ (nC q)), .string (strB (nN q : Nat)), .int .i64 0]) ∧ Below w.heap.size w W' := by
 have o1 := fun (b : Nat) W (hx : Sl W b [strQ q]) (h : Below w.heap.size w W) => check_ok1 b q W hq hx (ht.next h) (TabQ_next ht2 h)
 have o2 := fun (b : Nat) W (hx : Sl W b [strQ q]) (h : Below w.heap.size w W) => croots_any b [strQ q] W (by simp) hx
 rw [nn1 h0] at o2
 have o3 := fun W (_ : Below w.heap.size w W) => oparts_q q W (hq.lim (by decide))
 have o4 := fun W (h : Below w.heap.size w W) => onormal q W h0 hq (ht.next h) (hS.next h)
 have O := Lib.hid (And.intro o1 (And.intro o2 (And.intro o3 o4))); clear o1 o2 o3 o4 ht ht2 hS h0 hq
 generalize strB q.num = n at *
 generalize strB (q.den : Int) = d at *
 generalize strQ (nC q) = c at *
 generalize strB (nN q : Nat) = m at *
 generalize strQ q = s at *
 go_enter Tryz.func34, Tryz.ntmps34
 go_wp2_with fail
 have hS1 := Sl.new1 w s 22
 have BB := Lib.hid ((Below.refl _ w).alloc (Nat.le_refl _) (.cells #[.string s] 22))
 generalize w.alloc (.cells #[.string s] 22) = v0 at *
 generalize hk0 : w.heap.size = k0 at hS1
 refine (O.out.1 _ _ hS1 BB.out).mono ?_
 rintro e v1 ⟨rfl, b⟩
 have B1 := Lib.hid (BB.out.trans (b.mono BB.out.size)); clear b BB hS1 hk0
 go_wp2_with fail
 have hS2 := Sl.new1 v1 s 22
 have BB := Lib.hid (B1.out.alloc B1.out.size (.cells #[.string s] 22))
 generalize v1.alloc (.cells #[.string s] 22) = v2 at *
 generalize v1.heap.size = k1 at hS2 ⊢
 refine (O.out.2.1 _ _ hS2 BB.out).mono ?_
 rintro e v3 ⟨rfl, b⟩
 have B3 := Lib.hid (BB.out.trans (b.mono BB.out.size)); clear b BB hS2 B1
 go_wp2_with fail
 have hS3 := Blk.new v3 #[.int .i64 0, .int .i64 0] 28
 have BB := Lib.hid (B3.out.alloc B3.out.size (.cells #[.int .i64 0, .int .i64 0] 28))
 generalize v3.alloc (.cells #[.int .i64 0, .int .i64 0] 28) = v4 at *
 generalize v3.heap.size = k3 at hS3 ⊢
 refine (cmpOr2 _ 0 0 v4 hS3).mono ?_
 rintro e v5 ⟨rfl, b⟩
 rw [if_pos rfl]
 have B5 := Lib.hid (BB.out.trans (b.mono BB.out.size)); clear b BB hS3 B3
 go_wp2_with fail
 refine (O.out.2.2.1 _ B5.out).mono ?_
 rintro e v6 ⟨rfl, b⟩
 have B6 := Lib.hid (B5.out.trans (b.mono B5.out.size)); clear b B5
 go_wp2_with fail
 refine (O.out.2.2.2 _ B6.out).mono ?_
 rintro e v7 ⟨rfl, b⟩
 have B7 := Lib.hid (B6.out.trans (b.mono B6.out.size)); clear b B6
 go_wp2
 go_ret3
 exact ⟨rfl, B7.out⟩
theorem Exact_yes (q : Rat) (w : World) (h0 : 0 ≤ q) (hq : Bq 90 q) (hb : bothS q) (ht : Tab w) (ht2 : Tab64 w) :
   Calls Tryz.prog 35 #[.string (strQ q)] w fun e W' => e = .returned (.tuple #[.string (strQ (rootR q)), .bool true, .int .i64 0]) ∧ Below w.heap.size w W' := by
 have o1 := fun (b : Nat) W (hx : Sl W b [strQ q]) (h : Below w.heap.size w W) => check_ok1 b q W hq hx (ht.next h) (TabQ_next ht2 h)
 have o2 := fun (b : Nat) W (hx : Sl W b [strQ q]) (h : Below w.heap.size w W) => croots_any b [strQ q] W (by simp) hx
 rw [nn1 h0] at o2
 have o3 := fun W (_ : Below w.heap.size w W) => oparts_q q W (hq.lim (by decide))
 have o4 := fun W (h : Below w.heap.size w W) => oroot q (.tuple #[.string (strQ (rootR q)), .bool true]) W h0 (hq.lim (by decide)) (ht.next h) (fun _ => rfl) (fun k => absurd hb k)
 have O := Lib.hid (And.intro o1 (And.intro o2 (And.intro o3 o4))); clear o1 o2 o3 o4 ht ht2 h0 hq hb
 generalize strB q.num = n at *
 generalize strB (q.den : Int) = d at *
 generalize strQ (rootR q) = c at *
 generalize strQ q = s at *
 go_enter Tryz.func35, Tryz.ntmps35
 go_wp2_with fail
 have hS1 := Sl.new1 w s 22
 have BB := Lib.hid ((Below.refl _ w).alloc (Nat.le_refl _) (.cells #[.string s] 22))
 generalize w.alloc (.cells #[.string s] 22) = v0 at *
 generalize hk0 : w.heap.size = k0 at hS1
 refine (O.out.1 _ _ hS1 BB.out).mono ?_
 rintro e v1 ⟨rfl, b⟩
 have B1 := Lib.hid (BB.out.trans (b.mono BB.out.size)); clear b BB hS1 hk0
 go_wp2_with fail
 have hS2 := Sl.new1 v1 s 22
 have BB := Lib.hid (B1.out.alloc B1.out.size (.cells #[.string s] 22))
 generalize v1.alloc (.cells #[.string s] 22) = v2 at *
 generalize v1.heap.size = k1 at hS2 ⊢
 refine (O.out.2.1 _ _ hS2 BB.out).mono ?_
 rintro e v3 ⟨rfl, b⟩
 have B3 := Lib.hid (BB.out.trans (b.mono BB.out.size)); clear b BB hS2 B1
 go_wp2_with fail
 have hS3 := Blk.new v3 #[.int .i64 0, .int .i64 0] 28
 have BB := Lib.hid (B3.out.alloc B3.out.size (.cells #[.int .i64 0, .int .i64 0] 28))
 generalize v3.alloc (.cells #[.int .i64 0, .int .i64 0] 28) = v4 at *
 generalize v3.heap.size = k3 at hS3 ⊢
 refine (cmpOr2 _ 0 0 v4 hS3).mono ?_
 rintro e v5 ⟨rfl, b⟩
 rw [if_pos rfl]
 have B5 := Lib.hid (BB.out.trans (b.mono BB.out.size)); clear b BB hS3 B3
 go_wp2_with fail
 refine (O.out.2.2.1 _ B5.out).mono ?_
 rintro e v6 ⟨rfl, b⟩
 have B6 := Lib.hid (B5.out.trans (b.mono B5.out.size)); clear b B5
 go_wp2_with fail
 refine (O.out.2.2.2 _ B6.out).mono ?_
 rintro e v7 ⟨rfl, b⟩
 have B7 := Lib.hid (B6.out.trans (b.mono B6.out.size)); clear b B6
 go_wp2
 go_ret3
 exact ⟨rfl, B7.out⟩
theorem rounded_fl (q u r : Rat) (m : ByteArray) (w : World) (h0 : 0 ≤ q) (u0 : 0 < u) (hq : Bq 90 q) (hu : Bq 90 u) (ht : Tab w) (ht2 : Tab64 w)
   (hc : ∀ W, Below w.heap.size w W → Calls Tryz.prog 43 #[.agg #[.string (strB (uN q u : Nat)), .string (strB (uD q u : Nat))]] W fun e W' => e = .returned (.string m) ∧ Below W.heap.size W W')
   (hm : ∀ W, Below w.heap.size w W → Calls Tryz.prog 45 #[.string m, .string (strQ u)] W fun e W' => e = .returned (.string (strQ r)) ∧ Below W.heap.size W W') :
   Calls Tryz.prog 74 #[.string (strQ q), .string (strQ u), .func (.func 43) #[] #[]] w fun e W' => e = .returned (.tuple #[.string (strQ r), .int .i64 0]) ∧ Below w.heap.size w W' := by
 have o1 := fun (b : Nat) W (hx : Sl W b [strQ q, strQ u]) (h : Below w.heap.size w W) => check_ok2 b q u W hq hu hx (ht.next h) (TabQ_next ht2 h)
 have o2 := fun (b : Nat) W (hx : Sl W b [strQ q]) (h : Below w.heap.size w W) => croots_any b [strQ q] W (by simp) hx
 rw [nn1 h0] at o2
 have z0 : ((strQ u).toList == [48]) = false := by
   rw [Bool.eq_false_iff]; intro h
   have h2 := (is0_iff _).1 h
   rw [← strQ_zero] at h2
   have := strQ_inj h2
   grind
 have o3 := fun W (_ : Below w.heap.size w W) => oneg_any (strQ u) W
 rw [show isNeg (strQ u).data.toList = false from (neg3_str u).trans (decide_eq_false (by grind))] at o3
 have o4 := fun W (h : Below w.heap.size w W) => oinUnits q u 90 90 W h0 u0 hq hu (by decide) (ht.next h)
 have O := Lib.hid (And.intro o1 (And.intro o2 (And.intro o3 (And.intro o4 (And.intro hc hm))))); clear o1 o2 o3 o4 hc hm ht ht2 h0 u0 hq hu
 generalize strB (uN q u : Nat) = n at *
 generalize strB (uD q u : Nat) = d at *
 generalize strQ r = c at *
 generalize strQ q = s at *
 generalize strQ u = t at *
 have eg : ∀ args W, (callFunc 43 args).run Tryz.prog W = .ok (.enter 43 args) W := enters_of Tryz.func43 (by kernel_rfl) rfl
 go_enter Tryz.func74, Tryz.ntmps74
 go_wp2_with fail
 have hS1 := Sl.new2 w s t 22
 have BB := Lib.hid ((Below.refl _ w).alloc (Nat.le_refl _) (.cells #[.string s, .string t] 22))
 generalize w.alloc (.cells #[.string s, .string t] 22) = v0 at *
 generalize hk0 : w.heap.size = k0 at hS1
 refine (O.out.1 _ _ hS1 BB.out).mono ?_
 rintro e v1 ⟨rfl, b⟩
 have B1 := Lib.hid (BB.out.trans (b.mono BB.out.size)); clear b BB hS1 hk0
 go_wp2_with fail
 have hS2 := Sl.new1 v1 s 22
 have BB := Lib.hid (B1.out.alloc B1.out.size (.cells #[.string s] 22))
 generalize v1.alloc (.cells #[.string s] 22) = v2 at *
 generalize v1.heap.size = k1 at hS2 ⊢
 refine (O.out.2.1 _ _ hS2 BB.out).mono ?_
 rintro e v3 ⟨rfl, b⟩
 have B3 := Lib.hid (BB.out.trans (b.mono BB.out.size)); clear b BB hS2 B1
 go_wp2_with fail
 have hS3 := Blk.new v3 #[.int .i64 0, .int .i64 0] 28
 have BB := Lib.hid (B3.out.alloc B3.out.size (.cells #[.int .i64 0, .int .i64 0] 28))
 generalize v3.alloc (.cells #[.int .i64 0, .int .i64 0] 28) = v4 at *
 generalize v3.heap.size = k3 at hS3 ⊢
 refine (cmpOr2 _ 0 0 v4 hS3).mono ?_
 rintro e v5 ⟨rfl, b⟩
 rw [if_pos rfl]
 have B5 := Lib.hid (BB.out.trans (b.mono BB.out.size)); clear b BB hS3 B3
 go_wp2_with fail
 refine (O.out.2.2.1 _ B5.out).mono ?_
 rintro e v6 ⟨rfl, b⟩
 have B6 := Lib.hid (B5.out.trans (b.mono B5.out.size)); clear b B5
 go_wp2_with fail
 refine (O.out.2.2.2.1 _ B6.out).mono ?_
 rintro e v7 ⟨rfl, b⟩
 have B7 := Lib.hid (B6.out.trans (b.mono B6.out.size)); clear b B6
 go_wp2_with fail
 refine (O.out.2.2.2.2.1 _ B7.out).mono ?_
 rintro e v8 ⟨rfl, b⟩
 have B8 := Lib.hid (B7.out.trans (b.mono B7.out.size)); clear b B7
 go_wp2_with fail
 refine (O.out.2.2.2.2.2 _ B8.out).mono ?_
 rintro e v9 ⟨rfl, b⟩
 have B9 := Lib.hid (B8.out.trans (b.mono B8.out.size)); clear b B8
 go_wp2
 go_ret2
 exact ⟨rfl, B9.out⟩
theorem Floor_core (s t r : ByteArray) (e0 : Int) (w : World)
   (h : ∀ W, Below w.heap.size w W → Calls Tryz.prog 74 #[.string s, .string t, .func (.func 43) #[] #[]] W fun e W' => e = .returned (.tuple #[.string r, .int .i64 e0]) ∧ Below W.heap.size W W') :
   Calls Tryz.prog 36 #[.string s, .string t] w fun e W' => e = .returned (.tuple #[.string r, .int .i64 e0]) ∧ Below w.heap.size w W' := by
 have C := Lib.hid h; clear h
 go_enter Tryz.func36, Tryz.ntmps36
 go_wp2_with fail
 refine (C.out _ (Below.refl _ _)).mono ?_
 rintro e w1 ⟨rfl, b⟩
 have B1 := Lib.hid b; clear b
 go_wp2
 go_ret2
 exact ⟨rfl, B1.out⟩
theorem fl_bd {q u : Rat} {k : Nat} (hq : Bq k q) (hu : Bq k u) (h0 : 0 < u) : flN q u < tenTo (k + k) := by
 unfold flN
 refine root_bd (Nat.lt_of_le_of_lt (Nat.div_le_self _ _) (Nat.lt_of_lt_of_le (uN_bd hq hu) (tenTo_mono (by omega))))
theorem Floor_q (q u : Rat) (w : World) (h0 : 0 ≤ q) (u0 : 0 < u) (hq : Bq 90 q) (hu : Bq 90 u) (ht : Tab w) (ht2 : Tab64 w) :
   Calls Tryz.prog 36 #[.string (strQ q), .string (strQ u)] w fun e W' => e = .returned (.tuple #[.string (strQ ((flN q u : Nat) * u)), .int .i64 0]) ∧ Below w.heap.size w W' :=
 Floor_core _ _ _ _ w fun W hW => rounded_fl q u _ _ W h0 u0 hq hu (ht.next hW) (TabQ_next ht2 hW)
   (fun W' h => orootDown _ _ W' (ten_lim (by decide) (uN_bd hq hu)) (ten_lim (by decide) (uD_bd hq hu)) (uD_pos q u0) ((ht.next hW).next h))
   (fun W' h => omultiple _ u 180 90 W' (fl_bd hq hu u0) (by decide) hu (by decide) ((ht.next hW).next h) (TabQ_next (TabQ_next ht2 hW) h))
end Go.Proofs.YtpkloolckbhdaaaGreatDoor.T
namespace Go.Proofs.YtpkloolckbhdaaaGreatDoor.T
open Go.Proofs.YtpkloolckbhdaaaGreatDoor Go.Lib
def q12 : Rat := ⟨1, 2, by decide, by decide⟩
def q94 : Rat := ⟨9, 4, by decide, by decide⟩
def q32 : Rat := ⟨3, 2, by decide, by decide⟩
def q1c : Rat := ⟨1, 100, by decide, by decide⟩
def q141 : Rat := ⟨141, 100, by decide, by decide⟩
theorem strQ_of (q : Rat) (l : List UInt8) (h : itoaQ q = l) : strQ q = ⟨l.toArray⟩ := by unfold strQ; rw [h]
theorem s_8 : strQ 8 = ⟨#[56]⟩ := strQ_of _ [56] (by decide +kernel)
theorem s_2 : strQ 2 = ⟨#[50]⟩ := strQ_of _ [50] (by decide +kernel)
theorem s_12 : strQ q12 = ⟨#[49, 47, 50]⟩ := strQ_of _ [49, 47, 50] (by decide +kernel)
theorem s_94 : strQ q94 = ⟨#[57, 47, 52]⟩ := strQ_of _ [57, 47, 52] (by decide +kernel)
theorem s_32 : strQ q32 = ⟨#[51, 47, 50]⟩ := strQ_of _ [51, 47, 50] (by decide +kernel)
theorem s_1c : strQ q1c = ⟨#[49, 47, 49, 48, 48]⟩ := strQ_of _ [49, 47, 49, 48, 48] (by decide +kernel)
theorem s_141 : strQ q141 = ⟨#[49, 52, 49, 47, 49, 48, 48]⟩ := strQ_of _ [49, 52, 49, 47, 49, 48, 48] (by decide +kernel)
theorem root_2 : rootN 2 = 1 := rootN_eq ⟨by decide, by decide⟩
theorem root_8 : rootN 8 = 2 := rootN_eq ⟨by decide, by decide⟩
theorem root_9 : rootN 9 = 3 := rootN_eq ⟨by decide, by decide⟩
theorem root_4 : rootN 4 = 2 := rootN_eq ⟨by decide, by decide⟩
theorem strips_1 : strips primes 1 = (1, 1) := strips_small (by decide) primes (by decide)
theorem strips_2 : strips primes 2 = (1, 2) := strips_small (by decide) primes (by decide)
theorem strip_28 : strip 2 8 = (2, 2) := by
 rw [strip_yes (by decide) (by decide) (by decide), show 8 / (2 * 2) = 2 from rfl, strip_no (by decide)]; rfl
theorem strips_8 : strips primes 8 = (2, 2) := by
 show ((strip 2 8).1 * (strips [3, 5, 7, 11, 13, 17, 19, 23, 29, 31, 37, 41, 43, 47, 53, 59, 61, 67, 71, 73, 79, 83, 89, 97] (strip 2 8).2).1, (strips [3, 5, 7, 11, 13, 17, 19, 23, 29, 31, 37, 41, 43, 47, 53, 59, 61, 67, 71, 73, 79, 83, 89, 97] (strip 2 8).2).2) = _
 rw [strip_28, strips_small (by decide) _ (by decide)]; rfl
theorem not_both8 : ¬ bothS 8 := by
 unfold bothS
 rw [show (8 : Rat).num.natAbs = 8 from rfl, root_8]
 exact fun h => by cases h.1
theorem norm_8 : nC 8 = 2 ∧ nN 8 = 2 := by
 unfold nC cN cD nN
 rw [if_neg not_both8, if_neg not_both8, if_neg not_both8, show (8 : Rat).num.natAbs = 8 from rfl, show (8 : Rat).den = 1 from rfl, strips_8, strips_1]
 exact ⟨by decide +kernel, rfl⟩
theorem not_both12 : ¬ bothS q12 := by
 unfold bothS
 rw [show q12.den = 2 from rfl, root_2]
 exact fun h => by cases h.2
theorem norm_12 : nC q12 = q12 ∧ nN q12 = 2 := by
 unfold nC cN cD nN
 rw [if_neg not_both12, if_neg not_both12, if_neg not_both12, show q12.num.natAbs = 1 from rfl, show q12.den = 2 from rfl, strips_1, strips_2]
 exact ⟨by decide +kernel, rfl⟩
theorem both94 : bothS q94 := by
 unfold bothS
 rw [show q94.num.natAbs = 9 from rfl, show q94.den = 4 from rfl, root_9, root_4]
 exact ⟨rfl, rfl⟩
theorem root_94 : rootR q94 = q32 := by
 unfold rootR
 rw [show q94.num.natAbs = 9 from rfl, show q94.den = 4 from rfl, root_9, root_4]
 decide +kernel
theorem fl_141 : ((flN 2 q1c : Nat) : Rat) * q1c = q141 := by
 unfold flN uN uD
 rw [show (2 : Rat).num.natAbs * q1c.den * q1c.den / ((2 : Rat).den * q1c.num.natAbs * q1c.num.natAbs) = 20000 by decide +kernel, rootN_eq (r := 141) ⟨by decide, by decide⟩]
 decide +kernel
end Go.Proofs.YtpkloolckbhdaaaGreatDoor.T
namespace Go.Proofs.YtpkloolckbhdaaaGreatDoor.T
open Go.Proofs.YtpkloolckbhdaaaGreatDoor Go Go.RowKit
def prodR (l : List Rat) : Rat := l.foldl (· * ·) 1
theorem prodR_snoc (l : List Rat) (q : Rat) : prodR (l ++ [q]) = prodR l * q := by unfold prodR; rw [List.foldl_append]; rfl
theorem prod_bd (k : Nat) : ∀ (l : List Rat), (∀ q ∈ l, Bq k q) → 1 + l.length * k ≤ 300 → Bq (1 + l.length * k) (prodR l) := by
 intro l
 generalize hn : l.length = n
 induction n generalizing l with
 | zero =>
   intro _ _
   have : l = [] := List.eq_nil_of_length_eq_zero hn
   subst this
   exact (Bq_one).up (by omega)
 | succ n ih =>
   intro hq hk
   have hne : l ≠ [] := fun e => by rw [e] at hn; cases hn
   have e : l = l.dropLast ++ [l.getLast hne] := (List.dropLast_concat_getLast hne).symm
   have h1 : l.dropLast.length = n := by rw [List.length_dropLast]; omega
   have h2 : (n + 1) * k = n * k + k := Nat.succ_mul n k
   have h3 := ih l.dropLast h1 (fun q h => hq q (List.dropLast_subset l h)) (by omega)
   have h4 := hq _ (List.getLast_mem hne)
   rw [e, prodR_snoc]
   have h5 := (qmul_ok h3 h4 (by omega)).2.2
   rw [h2, ← Nat.add_assoc]; exact h5
theorem take_map (qs : List Rat) (j : Nat) (h : j < qs.length) : qs.take (j + 1) = qs.take j ++ [qs[j]] := List.take_succ_eq_append_getElem h
theorem ltimes (b : Nat) (qs : List Rat) (k : Nat) (w : World) (hl : qs.length ≤ 100) (hq : ∀ q ∈ qs, Bq k q) (hk : 1 + qs.length * k ≤ 300) (hx : Sl w b (qs.map strQ)) (ht : Tab w) (ht2 : Tab64 w) :
   Calls Tryz.prog 17 #[.slice (some ⟨b, 0, none⟩) qs.length qs.length] w fun e W' => e = .returned (.string (strQ (prodR qs))) ∧ Below w.heap.size w W' := by
 have hb := hx.lt
 have HC : Hid (∀ j (h : j < qs.length), w.cell? ⟨b, j, none⟩ = some (.string (strQ qs[j]))) := Lib.hid (fun j h => by
   have c := hx.cell j (by rw [List.length_map]; exact h)
   rw [atS_get (by rw [List.length_map]; exact h), List.getElem_map] at c
   exact c)
 have HT : Hid (∀ j (h : j < qs.length) W, Below w.heap.size w W → Calls Tryz.prog 56 #[.string (strQ (prodR (qs.take j))), .string (strQ qs[j])] W fun e W' => e = .returned (.tuple #[.string (strQ (prodR (qs.take (j + 1)))), .int .i64 0]) ∧ Below W.heap.size W W') := Lib.hid (fun j h W hW => by
   have h0 : (qs.take j).length = j := by rw [List.length_take]; omega
   have hjk : j * k + k ≤ qs.length * k := by rw [← Nat.succ_mul]; exact Nat.mul_le_mul_right k h
   have h1 := prod_bd k (qs.take j) (fun q hq' => hq q (List.mem_of_mem_take hq')) (by rw [h0]; omega)
   rw [h0] at h1
   have h2 := hq qs[j] (List.getElem_mem h)
   obtain ⟨a1, a2, _⟩ := qmul_ok h1 h2 (by omega)
   have c := Mul_q (prodR (qs.take j)) qs[j] W (h1.lim (by omega)) (h2.lim (by omega)) (ht.next hW) (TabQ_next ht2 hW)
   rwa [a1, a2, ← prodR_snoc, ← take_map qs j h] at c)
 clear hx hq hk ht ht2
 have e1 : (⟨#[49]⟩ : ByteArray) = strQ (prodR (qs.take 0)) := strQ_one.symm
 go_enter Tryz.func17, Tryz.ntmps17
 go_wp2
 go_loopw [3, 9] (fun o i wr => ∃ j : Nat, i = .int .i64 j ∧ j ≤ qs.length ∧ o = .string (strQ (prodR (qs.take j))) ∧ Hid (Below w.heap.size w wr)) (fun _ i _ => qs.length - (intOf i).toNat)
 case atStart => exact ⟨0, rfl, by omega, by rw [e1], Below.refl _ _⟩
 case round =>
   clear e1
   obtain ⟨j, rfl, hj, rfl, HBw⟩ := hrel
   by_cases hlt : j < qs.length
   · have hck := (HBw.out.cell (p := ⟨b, j, none⟩) hb).trans (HC.out j hlt)
     have hr := Lib.hid (HT.out j hlt wr HBw.out)
     generalize h2 : strQ (prodR (qs.take (j + 1))) = s2 at *
     have H2 := Lib.hid h2; clear h2
     generalize strQ qs[j] = s at *
     generalize strQ (prodR (qs.take j)) = s1 at *
     go_wp2_with fail
     refine hr.out.mono ?_
     rintro e w' ⟨rfl, b⟩
     have HB2 := Lib.hid (HBw.out.trans (b.mono HBw.out.size)); clear b HBw
     go_wp2
     go_roundw
     case rel => exact ⟨j + 1, by go_num, by omega, by rw [H2.out], HB2.out⟩
     case measure => simp [intOf]; omega
   · have he : qs.take j = qs := List.take_of_length_le (by omega)
     rw [he]
     go_wp2
     go_ret
     exact ⟨rfl, HBw.out⟩
theorem lsign_core (s : ByteArray) (r : Int) (w : World)
   (h : ∀ W, Below w.heap.size w W → Calls Tryz.prog 16 #[.string s, .string ⟨#[48]⟩] W fun e W' => e = .returned (.tuple #[.int .i64 r, .int .i64 0]) ∧ Below W.heap.size W W') :
   Calls Tryz.prog 11 #[.string s] w fun e W' => e = .returned (.int .i64 r) ∧ Below w.heap.size w W' := by
 have C := Lib.hid h; clear h
 go_enter Tryz.func11, Tryz.ntmps11
 go_wp2_with fail
 refine (C.out _ (Below.refl _ _)).mono ?_
 rintro e w1 ⟨rfl, b⟩
 have B1 := Lib.hid b; clear b
 go_wp2
 go_ret
 exact ⟨rfl, B1.out⟩
theorem lsign (q : Rat) (k : Nat) (w : World) (hq : Bq k q) (hk : k + 1 ≤ 300) (ht : Tab w) (ht2 : Tab64 w) :
   Calls Tryz.prog 11 #[.string (strQ q)] w fun e W' => e = .returned (.int .i64 (cmpQ q 0)) ∧ Below w.heap.size w W' :=
 lsign_core _ _ w fun W h => by
   have hz : Bq 1 (0 : Rat) := Bq_zero
   have c := Compare_q q 0 W (hq.lim (by omega)) (hz.lim (by decide)) (ht.next h) (TabQ_next ht2 h)
   rwa [(qcmp_ok hq hz hk).1, (qcmp_ok hq hz hk).2, strQ_zero] at c
theorem bq90 (q : Rat) (h1 : q.num.natAbs < 1000000000000000000000 ) (h2 : q.den < 1000000000000000000000) : Bq 90 q :=
 (show Bq 21 q from ⟨h1, h2⟩).up (by decide)
theorem mx4 (W : World) : (Builtin.max_ #[28, 28, 28, 28] 28 #[.int .i64 0, .int .i64 0, .int .i64 0, .int .i64 0]).run Tryz.prog W = .ok (.int .i64 0) W := by kernel_rfl
theorem awake3_any (w : World) (ht : Tab w) (ht2 : Tab64 w) (hS : Sm w) : Calls Tryz.prog 12 #[] w fun e W' => e = .returned (.bool true) ∧ Below w.heap.size w W' := by
 have n8 : (0 : Rat) ≤ 8 := by decide
 have o1 := fun W (h : Below w.heap.size w W) => Normal_q 8 W n8 (bq90 _ (by decide +kernel) (by decide +kernel)) (ht.next h) (TabQ_next ht2 h) (hS.next h)
 rw [norm_8.1, norm_8.2, s_8, s_2, show strB ((2 : Nat) : Int) = ⟨#[50]⟩ from strB_nat1 (by decide +kernel)] at o1
 have o2 := fun W (h : Below w.heap.size w W) => Normal_q q12 W (by decide +kernel) (bq90 _ (by decide +kernel) (by decide +kernel)) (ht.next h) (TabQ_next ht2 h) (hS.next h)
 rw [norm_12.1, norm_12.2, s_12, show strB ((2 : Nat) : Int) = ⟨#[50]⟩ from strB_nat1 (by decide +kernel)] at o2
 have o3 := fun W (h : Below w.heap.size w W) => Exact_yes q94 W (by decide +kernel) (bq90 _ (by decide +kernel) (by decide +kernel)) both94 (ht.next h) (TabQ_next ht2 h)
 rw [root_94, s_94, s_32] at o3
 have o4 := fun W (h : Below w.heap.size w W) => Floor_q 2 q1c W (by decide) (by decide +kernel) (bq90 _ (by decide +kernel) (by decide +kernel)) (bq90 _ (by decide +kernel) (by decide +kernel)) (ht.next h) (TabQ_next ht2 h)
 rw [fl_141, s_2, s_1c, s_141] at o4
 have O := Lib.hid (And.intro o1 (And.intro o2 (And.intro o3 o4))); clear o1 o2 o3 o4 ht ht2 hS n8
 have hm := mx4
 go_enter Tryz.func12, Tryz.ntmps12
 go_wp2_with fail
 refine (O.out.1 _ (Below.refl _ _)).mono ?_
 rintro e v1 ⟨rfl, b⟩
 have B1 := Lib.hid b; clear b
 go_wp2_with fail
 refine (O.out.2.1 _ B1.out).mono ?_
 rintro e v2 ⟨rfl, b⟩
 have B2 := Lib.hid (B1.out.trans (b.mono B1.out.size)); clear b B1
 go_wp2_with fail
 refine (O.out.2.2.1 _ B2.out).mono ?_
 rintro e v3 ⟨rfl, b⟩
 have B3 := Lib.hid (B2.out.trans (b.mono B2.out.size)); clear b B2
 go_wp2_with fail
 refine (O.out.2.2.2 _ B3.out).mono ?_
 rintro e v4 ⟨rfl, b⟩
 have B4 := Lib.hid (B3.out.trans (b.mono B3.out.size)); clear b B3
 go_wp2
 go_ret
 exact ⟨rfl, B4.out⟩
end Go.Proofs.YtpkloolckbhdaaaGreatDoor.T
namespace Go.Proofs.YtpkloolckbhdaaaGreatDoor.T
open Go.Proofs.YtpkloolckbhdaaaGreatDoor Go Go.RowKit
theorem okS_num {s : ByteArray} (h : okS s = true) : ∃ q : Rat, s = strQ q ∧ Bq 20 q := by
 unfold okS at h
 simp only [Bool.and_eq_true, decide_eq_true_eq] at h
 exact short_num h.2 20 h.1 (by decide)
theorem cmp_neg {x : Rat} : cmpQ x 0 < 0 ↔ x < 0 := by
 rcases ratTri x 0 with h | rfl | h
 · rw [cmpQ_lt h]; exact ⟨fun _ => h, fun _ => by decide⟩
 · rw [cmpQ_eq]; exact ⟨fun k => absurd k (by decide), fun k => absurd k (by decide)⟩
 · rw [cmpQ_gt h]; exact ⟨fun k => absurd k (by decide), fun k => by grind⟩
theorem cmp_le {x y : Rat} : cmpQ x y ≤ 0 ↔ x ≤ y := by
 rcases ratTri x y with h | rfl | h
 · rw [cmpQ_lt h]; exact ⟨fun _ => Rat.le_of_lt h, fun _ => by decide⟩
 · rw [cmpQ_eq]; exact ⟨fun _ => Rat.le_refl, fun _ => by decide⟩
 · rw [cmpQ_gt h]; exact ⟨fun k => absurd k (by decide), fun k => by grind⟩
theorem prod2 (x y : Rat) : prodR [x, y] = x * y := by show 1 * x * y = _; rw [Rat.one_mul]
theorem lt2 (x y : Rat) (k : Nat) (w : World) (hx : Bq k x) (hy : Bq k y) (hk : 1 + 2 * k ≤ 300) (ht : Tab w) (ht2 : Tab64 w) (b : Nat) (hs : Sl w b [strQ x, strQ y]) :
   Calls Tryz.prog 17 #[.slice (some ⟨b, 0, none⟩) 2 2] w fun e W' => e = .returned (.string (strQ (x * y))) ∧ Below w.heap.size w W' := by
 have c := ltimes b [x, y] k w (by simp) (fun q hq => by
   have h : q = x ∨ q = y := by simpa using hq
   rcases h with rfl | rfl <;> assumption) hk hs ht ht2
 rwa [prod2] at c
theorem sq_bd {k : Nat} {x y : Rat} (hx : Bq k x) (hy : Bq k y) (h : k + k ≤ 300) : Bq (k + k) (x * y) := (qmul_ok hx hy h).2.2
theorem mx3 (W : World) : (Builtin.max_ #[28, 28, 28] 28 #[.int .i64 0, .int .i64 0, .int .i64 0]).run Tryz.prog W = .ok (.int .i64 0) W := by kernel_rfl
end Go.Proofs.YtpkloolckbhdaaaGreatDoor.T
namespace Go.Proofs.YtpkloolckbhdaaaGreatDoor.T
open Go.Proofs.YtpkloolckbhdaaaGreatDoor Go Go.RowKit
theorem repeatL_one (c : UInt8) : ∀ n, Lib.repeatL [c] n = List.replicate n c
 | 0 => rfl
 | n + 1 => by
   show [c] ++ Lib.repeatL [c] n = _
   rw [repeatL_one c n, List.replicate_succ]; rfl
theorem decDigits_ten : ∀ n, Lib.decDigits (10 ^ n) = 49 :: List.replicate n 48
 | 0 => by rw [Nat.pow_zero, Lib.decDigits_one (by decide)]; rfl
 | n + 1 => by
   have h : ¬ 10 ^ (n + 1) < 10 := by
     have := tenTo_pos n
     have e : tenTo n = 10 ^ n := rfl
     rw [Nat.pow_succ]; omega
   rw [Lib.decDigits, dif_neg h, show 10 ^ (n + 1) / 10 = 10 ^ n by rw [Nat.pow_succ]; omega, show 10 ^ (n + 1) % 10 = 0 by rw [Nat.pow_succ]; omega, decDigits_ten n, List.replicate_succ']
   rfl
theorem strB_ten (n : Nat) : (⟨#[49]⟩ : ByteArray) ++ ⟨(List.replicate n 48).toArray⟩ = strB ((tenTo n : Nat) : Int) := by
 apply bytes_ext
 rw [strB_data, Lib.itoa_nonneg]
 rw [ByteArray.data_append, show tenTo n = 10 ^ n from rfl, decDigits_ten]
 simp
theorem rep0 (n : Nat) (w : World) (h : n ≤ 1000) :
   Calls Tryz.prog 40 #[.string ⟨#[48]⟩, .int .i64 n] w fun e W' => e = .returned (.string ⟨(List.replicate n 48).toArray⟩) ∧ Below w.heap.size w W' := by
 match n, h with
 | 0, _ => exact (Tryz.strings_Repeat_zero ⟨#[48]⟩ w).mono fun e W' ⟨a, b⟩ => ⟨a, by rw [b]; exact Below.refl _ _⟩
 | 1, _ => exact (Tryz.strings_Repeat_one ⟨#[48]⟩ w).mono fun e W' ⟨a, b⟩ => ⟨a, by rw [b]; exact Below.refl _ _⟩
 | n + 2, h =>
   have c := Tryz.strings_Repeat_main ⟨#[48]⟩ (n + 2) w (by omega) (by omega) (by show 1 * (n + 2) ≤ _; omega) (by decide)
   rwa [show (⟨#[48]⟩ : ByteArray).data.toList = [48] from rfl, repeatL_one] at c
end Go.Proofs.YtpkloolckbhdaaaGreatDoor.T
namespace Go.Proofs.YtpkloolckbhdaaaGreatDoor.T
open Go.Proofs.YtpkloolckbhdaaaGreatDoor Go.Lib
def uT (n : Nat) : Rat := ⟨1, tenTo n, Nat.ne_of_gt (tenTo_pos n), Nat.coprime_one_left _⟩
theorem uT_mk (n : Nat) : uT n = mkRat 1 (tenTo n) := Rat.mk_eq_mkRat ..
theorem uT_mul (n : Nat) : uT n * ((tenTo n : Nat) : Rat) = 1 := by
 rw [uT_mk, Rat.mkRat_eq_div, Rat.intCast_one]
 exact Rat.div_mul_cancel (by have := tenTo_pos n; have := Rat.natCast_lt_natCast (a := 0).2 this; grind)
theorem uT_pos (n : Nat) : 0 < uT n := by
 refine Rat.lt_of_le_of_ne (Rat.num_nonneg.1 (show (0 : Int) ≤ 1 by decide)) fun h => ?_
 have := uT_mul n
 rw [← h, Rat.zero_mul] at this
 exact absurd this (by decide)
theorem uT_succ (n : Nat) : uT n = 10 * uT (n + 1) := by
 have h := uT_mul n
 have h' := uT_mul (n + 1)
 rw [tenTo_succ, Rat.natCast_mul] at h'
 have p := Rat.natCast_lt_natCast (a := 0).2 (tenTo_pos n)
 have e : (uT n - 10 * uT (n + 1)) * ((tenTo n : Nat) : Rat) = 0 := by
   have : ((10 : Nat) : Rat) = 10 := rfl
   rw [this] at h'
   grind
 rcases Rat.mul_eq_zero.1 e with k | k
 · grind
 · grind
theorem uT_div (n : Nat) : uT n / 10 = uT (n + 1) := by rw [uT_succ n, Rat.mul_comm, Rat.mul_div_cancel (by decide)]
def zT (q : Rat) (n : Nat) : Rat := mkRat (uN q (uT n) : Nat) (uD q (uT n))
theorem zT_succ {q : Rat} (hq : 0 ≤ q) (n : Nat) : zT q (n + 1) = 100 * zT q n := by
 have a := zU_eq hq (uT_pos n)
 have b := zU_eq hq (uT_pos (n + 1))
 change zT q n * _ = q at a
 change zT q (n + 1) * _ = q at b
 rw [uT_succ n] at a
 have p := Rat.mul_pos (uT_pos (n + 1)) (uT_pos (n + 1))
 have e : (zT q (n + 1) - 100 * zT q n) * (uT (n + 1) * uT (n + 1)) = 0 := by grind
 rcases Rat.mul_eq_zero.1 e with k | k
 · grind
 · grind
theorem up_CQ {n d : Nat} (hd : 0 < d) {c : Nat} (h : c = if rootN (n / d) * rootN (n / d) * d = n then rootN (n / d) else rootN (n / d) + 1) : CQ (mkRat (n : Int) d) c := by
 have r : RQ (mkRat (n : Int) d) (rootN (n / d)) := RQ.div hd (rootN_is _)
 have e : ((rootN (n / d) * rootN (n / d) : Nat) : Rat) = mkRat (n : Int) d ↔ rootN (n / d) * rootN (n / d) * d = n := by
   constructor
   · intro k
     have k1 := (le_nat_div (n := n) (x := rootN (n / d) * rootN (n / d)) hd).1 (by rw [k]; exact Rat.le_refl)
     have k2 : ¬ n < rootN (n / d) * rootN (n / d) * d → False ∨ True := fun _ => .inr trivial
     rcases Nat.lt_or_ge (rootN (n / d) * rootN (n / d) * d) n with l | l
     · exfalso
       have : ¬ mkRat (n : Int) d ≤ ((rootN (n / d) * rootN (n / d) : Nat) : Rat) := by
         rw [Rat.not_le]
         have f : (0 : Rat) < (d : Rat) := Rat.natCast_lt_natCast (a := 0).2 hd
         rw [Rat.mkRat_eq_div, Rat.intCast_natCast, Rat.lt_div_iff f, ← Rat.natCast_mul, Rat.natCast_lt_natCast]
         exact l
       exact this (by rw [k]; exact Rat.le_refl)
     · omega
   · intro k
     refine Rat.le_antisymm ((le_nat_div hd).2 (by omega)) ?_
     have f : (0 : Rat) < (d : Rat) := Rat.natCast_lt_natCast (a := 0).2 hd
     rw [← Rat.not_lt, Rat.mkRat_eq_div, Rat.intCast_natCast, Rat.lt_div_iff f, ← Rat.natCast_mul, Rat.natCast_lt_natCast]
     omega
 subst h
 by_cases k : rootN (n / d) * rootN (n / d) * d = n
 · rw [if_pos k]; exact CQ.exact (e.2 k)
 · rw [if_neg k]; exact CQ.next r (fun l => k (e.1 l))
end Go.Proofs.YtpkloolckbhdaaaGreatDoor.T
namespace Go.Proofs.YtpkloolckbhdaaaGreatDoor.T
open Go.Proofs.YtpkloolckbhdaaaGreatDoor Go.Lib
noncomputable def upR (n d : Nat) : Nat := if rootN (n / d) * rootN (n / d) * d = n then rootN (n / d) else rootN (n / d) + 1
noncomputable def loN (q : Rat) (n : Nat) : Nat := flN q (uT n)
noncomputable def hiN (q : Rat) (n : Nat) : Nat := upR (uN q (uT n)) (uD q (uT n))
noncomputable def loT (q : Rat) (n : Nat) : Rat := ((loN q n : Nat) : Rat) * uT n
noncomputable def hiT (q : Rat) (n : Nat) : Rat := ((hiN q n : Nat) : Rat) * uT n
theorem mk_nat_iff {n d x : Nat} (hd : 0 < d) : ((x : Nat) : Rat) = mkRat (n : Int) d ↔ x * d = n := by
 have f : (0 : Rat) < (d : Rat) := Rat.natCast_lt_natCast (a := 0).2 hd
 rw [Rat.mkRat_eq_div, Rat.intCast_natCast]
 constructor
 · intro k
   have : (x : Rat) * (d : Rat) = (n : Rat) := by rw [k]; exact Rat.div_mul_cancel (by grind)
   rw [← Rat.natCast_mul] at this
   exact Rat.natCast_inj.1 this
 · intro k
   rw [← k, Rat.natCast_mul]
   exact (Rat.mul_div_cancel (by grind)).symm
theorem hi_lo (q : Rat) (n : Nat) : (hiN q n = loN q n ∧ loN q n * loN q n * uD q (uT n) = uN q (uT n)) ∨ (hiN q n = loN q n + 1 ∧ ¬ loN q n * loN q n * uD q (uT n) = uN q (uT n)) := by
 unfold hiN upR loN flN
 by_cases k : rootN (uN q (uT n) / uD q (uT n)) * rootN (uN q (uT n) / uD q (uT n)) * uD q (uT n) = uN q (uT n)
 · rw [if_pos k]; exact .inl ⟨rfl, k⟩
 · rw [if_neg k]; exact .inr ⟨rfl, k⟩
theorem lo_sq {q : Rat} (hq : 0 ≤ q) (n : Nat) : loT q n * loT q n = q ↔ loN q n * loN q n * uD q (uT n) = uN q (uT n) := by
 have z := zU_eq hq (uT_pos n)
 have u := Rat.mul_pos (uT_pos n) (uT_pos n)
 have m := mk_nat_iff (n := uN q (uT n)) (x := loN q n * loN q n) (uD_pos q (uT_pos n))
 rw [← m, Rat.natCast_mul]
 unfold loT
 constructor
 · intro k
   have e : (((loN q n : Nat) : Rat) * (loN q n : Nat) - mkRat (uN q (uT n) : Nat) (uD q (uT n))) * (uT n * uT n) = 0 := by grind
   rcases Rat.mul_eq_zero.1 e with h | h
   · grind
   · grind
 · intro k
   rw [← z, ← k]; grind
theorem hi_CQ {q : Rat} (n : Nat) : CQ (mkRat (uN q (uT n) : Nat) (uD q (uT n))) (hiN q n) := up_CQ (uD_pos q (uT_pos n)) rfl
theorem lo_RQ {q : Rat} (n : Nat) : RQ (mkRat (uN q (uT n) : Nat) (uD q (uT n))) (loN q n) := flN_RQ (uT_pos n)
theorem deci_law {q : Rat} (hq : 0 ≤ q) (n : Nat) :
   (hiT q n - loT q n = 0 ∧ loT q n * loT q n = q ∨ hiT q n - loT q n = uT n ∧ ¬ loT q n * loT q n = q) ∧
   loT q n * loT q n ≤ q ∧ q ≤ hiT q n * hiT q n ∧ loT q n ≤ loT q (n + 1) ∧ hiT q (n + 1) ≤ hiT q n ∧ 0 ≤ loT q n ∧ 0 ≤ hiT q n := by
 have z := zU_eq hq (uT_pos n)
 have p := uT_pos (n + 1)
 have pn := uT_pos n
 have u := Rat.mul_pos pn pn
 have us := uT_succ n
 have e := zT_succ hq n
 have l0 := castn_nonneg (loN q n)
 have h0 := castn_nonneg (hiN q n)
 refine ⟨?_, ?_, ?_, ?_, ?_, ?_, ?_⟩
 · rcases hi_lo q n with ⟨a, b⟩ | ⟨a, b⟩
   · left
     refine ⟨?_, (lo_sq hq n).2 b⟩
     unfold hiT loT; rw [a]; grind
   · right
     refine ⟨?_, fun k => b ((lo_sq hq n).1 k)⟩
     unfold hiT loT; rw [a, Rat.natCast_add]
     have : ((1 : Nat) : Rat) = 1 := rfl
     grind
 · exact (floor_le pn z (lo_RQ n)).1
 · have c := (hi_CQ (q := q) n).1
   rw [Rat.natCast_mul] at c
   have k := Rat.mul_le_mul_of_nonneg_right c (Rat.le_of_lt u)
   unfold hiT
   rw [z] at k
   have : ((hiN q n : Nat) : Rat) * (hiN q n : Nat) * (uT n * uT n) = ((hiN q n : Nat) : Rat) * uT n * (((hiN q n : Nat) : Rat) * uT n) := by grind
   rwa [this] at k
 · have a := lo_RQ (q := q) n
   have b := lo_RQ (q := q) (n + 1)
   change RQ (zT q n) _ at a
   change RQ (zT q (n + 1)) _ at b
   rw [e] at b
   have k := RQ.ten a b
   have k2 : ((10 * loN q n : Nat) : Rat) ≤ ((loN q (n + 1) : Nat) : Rat) := Rat.natCast_le_natCast.2 k
   rw [Rat.natCast_mul, show ((10 : Nat) : Rat) = 10 from rfl] at k2
   have k3 := Rat.mul_le_mul_of_nonneg_right k2 (Rat.le_of_lt p)
   unfold loT
   rw [us]; grind
 · have a := hi_CQ (q := q) n
   have b := hi_CQ (q := q) (n + 1)
   change CQ (zT q n) _ at a
   change CQ (zT q (n + 1)) _ at b
   rw [e] at b
   have k := CQ.ten a b
   have k2 : ((hiN q (n + 1) : Nat) : Rat) ≤ ((10 * hiN q n : Nat) : Rat) := Rat.natCast_le_natCast.2 k
   rw [Rat.natCast_mul, show ((10 : Nat) : Rat) = 10 from rfl] at k2
   have k3 := Rat.mul_le_mul_of_nonneg_right k2 (Rat.le_of_lt p)
   unfold hiT
   rw [us]; grind
 · exact nat_mul_nonneg pn
 · exact nat_mul_nonneg pn
end Go.Proofs.YtpkloolckbhdaaaGreatDoor.T
