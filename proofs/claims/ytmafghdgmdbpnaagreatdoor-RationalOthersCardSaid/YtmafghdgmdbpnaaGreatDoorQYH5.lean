/- Parts of the proof of the text YtmafghdgmdbpnaaGreatDoorQYH6. -/
import Derived.RegionIn
import Derived.Shelf.RegionOpen
import Derived.Test.YtmafghdgmdbpnaaGreatDoorQY1
import Derived.Test.YtmafghdgmdbpnaaGreatDoorQY30
import Derived.Test.YtmafghdgmdbpnaaGreatDoorQYH1
import Derived.Test.YtmafghdgmdbpnaaGreatDoorQYH4
set_option linter.all false
set_option maxRecDepth 100000
set_option maxHeartbeats 8000000
namespace Go.Proofs.YtmafghdgmdbpnaaGreatDoor
open Go.RowKit
theorem bytesLess_nat : ∀ (l m : List UInt8), l.length = m.length → (∀ c ∈ l, isDig c = true) → (∀ c ∈ m, isDig c = true) → Op.bytesLess l m = decide (natOf l < natOf m)
 | [], [], _, _, _ => rfl
 | [], _ :: _, h, _, _ => by simp at h
 | _ :: _, [], h, _, _ => by simp at h
 | a :: l, b :: m, h, h1, h2 => by
   have hl : l.length = m.length := by simpa using h
   have ih := bytesLess_nat l m hl (fun c hc => h1 c (by simp [hc])) (fun c hc => h2 c (by simp [hc]))
   have da := (isDig_iff a).1 (h1 a (by simp))
   have db := (isDig_iff b).1 (h2 b (by simp))
   have p := natOf_lt l (fun c hc => h1 c (by simp [hc]))
   have q := natOf_lt m (fun c hc => h2 c (by simp [hc]))
   rw [natOf_cons, natOf_cons, ← hl]
   rw [← hl] at q
   show (decide (a < b) || (a == b && Op.bytesLess l m)) = _
   rw [ih]
   generalize 10 ^ l.length = r at *
   generalize natOf l = x at *
   generalize natOf m = y at *
   rcases Nat.lt_trichotomy a.toNat b.toNat with h | h | h
   · have e1 : a < b := by rw [UInt8.lt_iff_toNat_lt]; exact h
     have e2 : (a.toNat - 48) * r + r ≤ (b.toNat - 48) * r := by rw [← Nat.succ_mul]; exact Nat.mul_le_mul_right r (by omega)
     rw [decide_eq_true e1, Bool.true_or, eq_comm, decide_eq_true_eq]; omega
   · have e1 : a = b := UInt8.toNat_inj.1 h
     subst e1
     rw [show decide (a < a) = false from decide_eq_false (by rw [UInt8.lt_iff_toNat_lt]; omega), Bool.false_or, beq_self_eq_true, Bool.true_and]
     apply decide_eq_decide.2; omega
   · have e1 : ¬ a < b := by rw [UInt8.lt_iff_toNat_lt]; omega
     have e2 : (b.toNat - 48) * r + r ≤ (a.toNat - 48) * r := by rw [← Nat.succ_mul]; exact Nat.mul_le_mul_right r (by omega)
     have e3 : (a == b) = false := by rw [beq_eq_false_iff_ne]; intro e; rw [e] at h; omega
     rw [decide_eq_false e1, Bool.false_or, e3, Bool.false_and, eq_comm, decide_eq_false_iff_not]; omega
theorem rInt_bad (a : ByteArray) (f : Int) (w : World) (n1 : (f == 0) = false) (n2 : (f != 0) = true)
   (h1 : CqB w 24 #[.string a] (.int .i64 f)) :
   Calls Tryz.prog 35 #[.string a] w fun e W' => e = .returned (.tuple #[.int .i64 0, .int .i64 f]) ∧ Below w.heap.size w W' := by
 have C := Lib.hid h1; clear h1
 go_enter Tryz.func35, Tryz.ntmps35
 go_wp2_with fail
 refine (C.out _ (Below.refl _ _)).mono ?_
 rintro e w1 ⟨rfl, b⟩
 have H1 := Lib.hid b; clear b
 go_wp2
 go_ret2
 exact ⟨rfl, H1.out⟩
theorem rInt_kind (a n d : ByteArray) (m : Bool) (w : World)
   (h1 : CqB w 24 #[.string a] (.int .i64 0))
   (h2 : CqB w 70 #[.string a] (.tuple #[.bool m, .string n, .string d, .bool true])) :
   Calls Tryz.prog 35 #[.string a] w fun e W' => e = .returned (.tuple #[.int .i64 0, .int .i64 8]) ∧ Below w.heap.size w W' := by
 have C := Lib.hid (And.intro h1 h2); clear h1 h2
 go_enter Tryz.func35, Tryz.ntmps35
 go_wp2_with fail
 refine (C.out.1 _ (Below.refl _ _)).mono ?_
 rintro e w1 ⟨rfl, b⟩
 have H1 := Lib.hid b; clear b
 go_wp2_with fail
 refine (C.out.2 _ H1.out).mono ?_
 rintro e w2 ⟨rfl, b⟩
 have H2 := Lib.hid (H1.out.trans (b.mono H1.out.size)); clear b H1
 go_wp2
 go_ret2
 exact ⟨rfl, H2.out⟩
theorem rInt_range (a n d : ByteArray) (m : Bool) (w : World) (hz : n.size ≤ 1000) (hc : (19 : Int) < n.size ∨ (¬ (19 : Int) < n.size ∧ ((n.size : Int) == 19) = true ∧ Op.bytesLess n.toList [52, 54, 49, 49, 54, 56, 54, 48, 49, 56, 52, 50, 55, 51, 56, 55, 57, 48, 52] = false ∧ (n.toList == [52, 54, 49, 49, 54, 56, 54, 48, 49, 56, 52, 50, 55, 51, 56, 55, 57, 48, 52]) = false))
   (h1 : CqB w 24 #[.string a] (.int .i64 0))
   (h2 : CqB w 70 #[.string a] (.tuple #[.bool m, .string n, .string d, .bool false])) :
   Calls Tryz.prog 35 #[.string a] w fun e W' => e = .returned (.tuple #[.int .i64 0, .int .i64 2]) ∧ Below w.heap.size w W' := by
 have C := Lib.hid (And.intro h1 h2); clear h1 h2
 rcases hc with hc | ⟨hc, h19, hL, hE⟩
 all_goals
   go_enter Tryz.func35, Tryz.ntmps35
   go_wp2_with fail
   refine (C.out.1 _ (Below.refl _ _)).mono ?_
   rintro e w1 ⟨rfl, b⟩
   have H1 := Lib.hid b; clear b
   go_wp2_with fail
   refine (C.out.2 _ H1.out).mono ?_
   rintro e w2 ⟨rfl, b⟩
   have H2 := Lib.hid (H1.out.trans (b.mono H1.out.size)); clear b H1
   go_wp2
   go_ret2
   exact ⟨rfl, H2.out⟩
theorem natOf_take_le (l : List UInt8) (j : Nat) : natOf (l.take j) ≤ natOf l := by
 conv => rhs; rw [← List.take_append_drop j l]
 rw [natOf_append]
 exact Nat.le_trans (Nat.le_mul_of_pos_right _ (Nat.pow_pos (by decide))) (Nat.le_add_right _ _)
theorem rInt_ok (a n d : ByteArray) (m : Bool) (w : World) (hz : n.size ≤ 19) (hd : n.data.toList.all isDig = true) (hk : natOf n.data.toList ≤ 4611686018427387904) (hc : ((n.size : Int) == 19) = false ∨ (((n.size : Int) == 19) = true ∧ (Op.bytesLess n.toList [52, 54, 49, 49, 54, 56, 54, 48, 49, 56, 52, 50, 55, 51, 56, 55, 57, 48, 52] || (n.toList == [52, 54, 49, 49, 54, 56, 54, 48, 49, 56, 52, 50, 55, 51, 56, 55, 57, 48, 52])) = true))
   (h1 : CqB w 24 #[.string a] (.int .i64 0))
   (h2 : CqB w 70 #[.string a] (.tuple #[.bool m, .string n, .string d, .bool false])) :
   Calls Tryz.prog 35 #[.string a] w fun e W' => e = .returned (.tuple #[.int .i64 (if m = true then -(natOf n.data.toList : Int) else (natOf n.data.toList : Int)), .int .i64 0]) ∧ Below w.heap.size w W' := by
 have C := Lib.hid (And.intro h1 h2); clear h1 h2
 have hz' : ¬ (19 : Int) < n.size := by omega
 have HD := Lib.hid hd; clear hd
 have HK := Lib.hid hk; clear hk
 rcases hc with h19 | ⟨h19, hL⟩
 all_goals
   go_enter Tryz.func35, Tryz.ntmps35
   go_wp2_with fail
   refine (C.out.1 _ (Below.refl _ _)).mono ?_
   rintro e w1 ⟨rfl, b⟩
   have H1 := Lib.hid b; clear b
   go_wp2_with fail
   refine (C.out.2 _ H1.out).mono ?_
   rintro e w2 ⟨rfl, b⟩
   have H2 := Lib.hid (H1.out.trans (b.mono H1.out.size)); clear b H1
   go_wp2
   go_loop [9, 10] (fun x i => ∃ k : Nat, k ≤ n.size ∧ i = .int .i64 k ∧ x = .int .i64 (natOf (n.data.toList.take k) : Nat)) (fun _ i => n.size - (intOf i).toNat)
   case atStart => exact ⟨0, Nat.zero_le _, rfl, rfl⟩
   case round =>
     obtain ⟨k, hk, rfl, rfl⟩ := hrel
     by_cases hlt : k < n.size
     · have hdk := List.all_eq_true.1 HD.out n[k] (mem_get n k hlt)
       rw [isDig_iff] at hdk
       have h3 : ¬ (n[k].toNat : Int) < 48 := by omega
       have h4 : ¬ (57 : Int) < n[k].toNat := by omega
       have HS : Hid (natOf (n.data.toList.take (k + 1)) = natOf (n.data.toList.take k) * 10 + (n[k].toNat - 48)) := by rw [take_snoc n k hlt]; exact natOf_snoc _ _
       have hn := Nat.le_trans (natOf_take_le n.data.toList k) HK.out
       have hn17 := Nat.le_trans (natOf_take_le n.data.toList (k + 1)) HK.out
       rw [HS.out] at hn17
       clear hdk
       go_wp2
       go_round
       case rel => exact ⟨k + 1, by omega, by go_num, by rw [HS.out]; go_num⟩
       case measure => simp [intOf]; omega
     · have hk2 : n.data.toList.take k = n.data.toList := List.take_of_length_le (by rw [size_len]; omega)
       rw [hk2]
       clear hk2
       have hkk := HK.out
       cases m
       all_goals
         go_wp2
         go_ret2
         exact ⟨by simp, H2.out⟩
theorem nd_le : ∀ (k u : Nat), u < 10 ^ (k + 1) → Lib.nDigits u ≤ k + 1
 | 0, u, h => by rw [Lib.nDigits_small (by simpa using h)]; exact Nat.le_refl _
 | k + 1, u, h => by
   by_cases h0 : u < 10
   · rw [Lib.nDigits_small h0]; omega
   · rw [Lib.nDigits_big h0]
     have := nd_le k (u / 10) (by rw [Nat.pow_succ] at h; omega)
     omega
theorem rsz (k : Nat) : (strB (k : Int)).size = Lib.nDigits k := by
 rw [← size_len, strB_data]
 unfold Lib.itoa
 rw [if_neg (by omega), Int.toNat_natCast, Lib.decDigits_length]
theorem rInt_any (a : ByteArray) (w : World) (ha : a.size ≤ maxLen) (ht : Tab w) :
   Calls Tryz.prog 35 #[.string a] w fun e W' => e = .returned (.tuple #[.int .i64 (int1R a), .int .i64 (int1E a)]) ∧ Below w.heap.size w W' := by
 have hk := fun W (hW : Below w.heap.size w W) => Check2_any a W ha (ht.next hW)
 unfold int1R int1E
 by_cases h : chkQ a.data.toList = 0
 · rw [if_pos h, if_pos h]
   rw [h] at hk
   have sx := chkQ_sq h
   have hs := fun W (_ : Below w.heap.size w W) => split_q (rat a) W sx
   rw [chkQ_str h] at hs
   unfold intR intE
   by_cases h1 : (rat a).den = 1
   · rw [show decide ((rat a).den ≠ 1) = false from decide_eq_false (fun q => q h1)] at hs
     rw [if_pos h1]
     have e48 : (4611686018427387904 : Nat) = natOf [52, 54, 49, 49, 54, 56, 54, 48, 49, 56, 52, 50, 55, 51, 56, 55, 57, 48, 52] := by decide
     have hsz := rsz (rat a).num.natAbs
     have hdig := nat_dig (rat a).num.natAbs
     have hval := nat_dec (rat a).num.natAbs
     have hless : (strB ((rat a).num.natAbs : Int)).size = 19 → Op.bytesLess (strB ((rat a).num.natAbs : Int)).toList [52, 54, 49, 49, 54, 56, 54, 48, 49, 56, 52, 50, 55, 51, 56, 55, 57, 48, 52] = decide ((rat a).num.natAbs < 4611686018427387904) := fun q => by
       rw [ByteArray.toList_eq, bytesLess_nat _ _ (by rw [size_len, q]; rfl) (fun c hc => List.all_eq_true.1 hdig c hc) (by decide), hval, ← e48]
     have heq : ((strB ((rat a).num.natAbs : Int)).toList == [52, 54, 49, 49, 54, 56, 54, 48, 49, 56, 52, 50, 55, 51, 56, 55, 57, 48, 52]) = decide ((rat a).num.natAbs = 4611686018427387904) := by
       have e : (⟨#[52, 54, 49, 49, 54, 56, 54, 48, 49, 56, 52, 50, 55, 51, 56, 55, 57, 48, 52]⟩ : ByteArray) = strB ((4611686018427387904 : Nat) : Int) := by decide +kernel
       by_cases q : (rat a).num.natAbs = 4611686018427387904
       · rw [decide_eq_true q, q, ← e, ByteArray.toList_eq]; rfl
       · rw [decide_eq_false q, beq_eq_false_iff_ne, ByteArray.toList_eq]
         intro hx
         apply q
         rw [← hval, hx, ← e48]
     by_cases hb : -4611686018427387904 ≤ (rat a).num ∧ (rat a).num ≤ 4611686018427387904
     · rw [if_pos ⟨h1, hb⟩, if_pos hb]
       have hk2 : natOf (strB ((rat a).num.natAbs : Int)).data.toList ≤ 4611686018427387904 := by rw [hval]; omega
       have hlen : (strB ((rat a).num.natAbs : Int)).size ≤ 19 := by
         rw [hsz]
         rcases Nat.lt_or_ge 19 (Lib.nDigits (rat a).num.natAbs) with q | q
         · exact absurd (nd_le 18 (rat a).num.natAbs (Nat.lt_of_le_of_lt (show (rat a).num.natAbs ≤ 4611686018427387904 by omega) (by decide))) (by omega)
         · exact q
       have c := rInt_ok a _ _ _ w hlen hdig hk2 (by
         by_cases q : (strB ((rat a).num.natAbs : Int)).size = 19
         · right
           refine ⟨by rw [q]; rfl, ?_⟩
           rw [hless q, heq]
           rcases Nat.lt_or_ge (rat a).num.natAbs 4611686018427387904 with p | p
           · rw [decide_eq_true p]; rfl
           · rw [show decide ((rat a).num.natAbs = 4611686018427387904) = true from decide_eq_true (by omega), Bool.or_true]
         · left
           rw [beq_eq_false_iff_ne]; omega) hk hs
       rw [hval] at c
       have e : (if decide ((rat a).num < 0) = true then -((rat a).num.natAbs : Int) else ((rat a).num.natAbs : Int)) = (rat a).num := by
         by_cases q : (rat a).num < 0
         · rw [decide_eq_true q, if_pos rfl]; omega
         · rw [decide_eq_false q, if_neg (by decide)]; omega
       rwa [e] at c
     · rw [if_neg (fun q => hb q.2), if_neg hb]
       have hgt : 4611686018427387904 < (rat a).num.natAbs := by omega
       refine rInt_range a _ _ _ w (s1000 (by show Int.natAbs _ < lim; rw [Int.natAbs_natCast]; exact sx.1)) ?_ hk hs
       by_cases q : (19 : Int) < (strB ((rat a).num.natAbs : Int)).size
       · exact .inl q
       · right
         have q2 : (strB ((rat a).num.natAbs : Int)).size = 19 := by
           have h18 : ¬ (strB ((rat a).num.natAbs : Int)).size ≤ 18 := fun p => by
             have := nat_len (k := (rat a).num.natAbs) (j := 18) p
             unfold tenTo at this; omega
           omega
         refine ⟨q, by rw [q2]; rfl, ?_, ?_⟩
         · rw [hless q2]; exact decide_eq_false (by omega)
         · rw [heq]; exact decide_eq_false (by omega)
   · rw [show decide ((rat a).den ≠ 1) = true from decide_eq_true h1] at hs
     rw [if_neg (fun q => h1 q.1), if_neg h1]
     exact rInt_kind a _ _ _ w hk hs
 · rw [if_neg h, if_neg h]
   exact rInt_bad a _ w (bool_ne h).1 (bool_ne h).2 hk
end Go.Proofs.YtmafghdgmdbpnaaGreatDoor
namespace Go.Proofs.YtmafghdgmdbpnaaGreatDoor
open Go.RowKit Go.Shelf
def lastC (xs : List ByteArray) : Int := match xs.getLast? with
 | some s => chkQ s.data.toList
 | none => 0
theorem lastC_snoc (xs : List ByteArray) (s : ByteArray) : lastC (xs ++ [s]) = chkQ s.data.toList := by unfold lastC; rw [List.getLast?_append]; rfl
def stB (pre : List ByteArray) : Value := .string (oB (sumS pre))
def stE (pre : List ByteArray) : Value := .int .i64 (oE (sumS pre))
def laE (pre : List ByteArray) : Value := .int .i64 (lastC pre)
theorem sumB_all {xs : List ByteArray} (h : ∀ s ∈ xs, chkQ s.data.toList = 0) : sumB xs = oB (sumS xs) ∧ sumE xs = oE (sumS xs) := by
 unfold sumB sumE; rw [if_pos (badC_ok h), if_pos (badC_ok h)]; exact ⟨rfl, rfl⟩
theorem sumB_bad {xs pre : List ByteArray} {k : Nat} (hk : pre = xs.take k) (h : ∀ s ∈ pre.dropLast, chkQ s.data.toList = 0) (hl : lastC pre ≠ 0) : sumB xs = ⟨#[]⟩ ∧ sumE xs = lastC pre := by
 have hb : badC xs = lastC pre := by
   have hne : pre ≠ [] := fun e => by rw [e] at hl; exact hl rfl
   have e1 : pre = pre.dropLast ++ [pre.getLast hne] := (List.dropLast_concat_getLast hne).symm
   have e2 : lastC pre = chkQ (pre.getLast hne).data.toList := by unfold lastC; rw [List.getLast?_eq_some_getLast hne]
   have e3 : xs = pre.dropLast ++ pre.getLast hne :: xs.drop k := by
     have e4 : pre ++ xs.drop k = xs := by rw [hk]; exact List.take_append_drop k xs
     rw [e1, List.append_assoc] at e4
     exact e4.symm
   rw [e3, badC_bad h (by rw [← e2]; exact hl), e2]
 unfold sumB sumE
 rw [hb, if_neg hl, if_neg hl]; exact ⟨rfl, rfl⟩
section
attribute [local go_sem] Oper.semAt_some
theorem Sum_any (p : Option Addr) (cap : Nat) (xs : List ByteArray) (w : World) (hv : StrsAt w.heap.size w (.slice p xs.length cap) xs) (hl : xs.length ≤ 4096) (hs : ∀ s ∈ xs, s.size ≤ maxLen) (ht : Tab w) (ht2 : Tab64 w) :
   Calls Tryz.prog 30 #[.slice p xs.length cap] w fun e W' => e = .returned (.tuple #[.string (sumB xs), .int .i64 (sumE xs)]) ∧ Below w.heap.size w W' := by
 refine (callsIn_wide (n := 9)).1 ?_
 have HV := Lib.hid (And.intro hv (And.intro hs (And.intro ht ht2))); clear hv hs ht ht2
 have hl' : ¬ (4096 : Int) < xs.length := by omega
 refine callsIn_of_wp_marks Tryz.func30 rfl trivial ?_ rfl
 simp only [Tryz.ntmps30, List.size_toArray, List.length_cons, List.length_nil, Nat.reduceAdd, Nat.reduceSub, Array.replicate_succ, Array.replicate_zero, List.push_toArray, List.append_toArray, List.nil_append, List.cons_append]
 gi_wp2_with fail
 refine ⟨trivial, ?_⟩
 refine (callsIn_wide.2 (checked_any _ _ ⟨_, _, _, rfl⟩)).mono ?_
 rintro e W1 ⟨rfl, rfl⟩
 gi_wp2
 have b0 := ((((Boxed.new w 22 (.string ⟨#[]⟩)).alloc (.cells #[.int .i64 0] 27)).alloc (.cells #[.string ⟨#[48]⟩] 22)).alloc (.cells #[.int .i64 0] 27)).alloc (.cells #[.slice p xs.length cap] 33)
 have b1 := (((Boxed.new (w.alloc (.cells #[.string ⟨#[]⟩] 22)) 27 (.int .i64 0)).alloc (.cells #[.string ⟨#[48]⟩] 22)).alloc (.cells #[.int .i64 0] 27)).alloc (.cells #[.slice p xs.length cap] 33)
 have b2 := ((Boxed.new ((w.alloc (.cells #[.string ⟨#[]⟩] 22)).alloc (.cells #[.int .i64 0] 27)) 22 (.string ⟨#[48]⟩)).alloc (.cells #[.int .i64 0] 27)).alloc (.cells #[.slice p xs.length cap] 33)
 have b3 := (Boxed.new (((w.alloc (.cells #[.string ⟨#[]⟩] 22)).alloc (.cells #[.int .i64 0] 27)).alloc (.cells #[.string ⟨#[48]⟩] 22)) 27 (.int .i64 0)).alloc (.cells #[.slice p xs.length cap] 33)
 have b4 := Boxed.new ((((w.alloc (.cells #[.string ⟨#[]⟩] 22)).alloc (.cells #[.int .i64 0] 27)).alloc (.cells #[.string ⟨#[48]⟩] 22)).alloc (.cells #[.int .i64 0] 27)) 33 (.slice p xs.length cap)
 simp only [World.size_alloc] at b1 b2 b3 b4
 have hB0 : Below w.heap.size w (((((w.alloc (.cells #[.string ⟨#[]⟩] 22)).alloc (.cells #[.int .i64 0] 27)).alloc (.cells #[.string ⟨#[48]⟩] 22)).alloc (.cells #[.int .i64 0] 27)).alloc (.cells #[.slice p xs.length cap] 33)) :=
   (((((Below.refl _ w).alloc (Nat.le_refl _) _).alloc (by simp) _).alloc (by simp; omega) _).alloc (by simp; omega) _).alloc (by simp; omega) _
 have hsz : (((((w.alloc (.cells #[.string ⟨#[]⟩] 22)).alloc (.cells #[.int .i64 0] 27)).alloc (.cells #[.string ⟨#[48]⟩] 22)).alloc (.cells #[.int .i64 0] 27)).alloc (.cells #[.slice p xs.length cap] 33)).heap.size = w.heap.size + 1 + 1 + 1 + 1 + 1 := by simp
 generalize ((((w.alloc (.cells #[.string ⟨#[]⟩] 22)).alloc (.cells #[.int .i64 0] 27)).alloc (.cells #[.string ⟨#[48]⟩] 22)).alloc (.cells #[.int .i64 0] 27)).alloc (.cells #[.slice p xs.length cap] 33) = W5 at *
 have HB := Lib.hid (And.intro hB0 (And.intro hsz (And.intro b0 (And.intro b1 (And.intro b2 (And.intro b3 b4)))))); clear b0 b1 b2 b3 b4 hB0 hsz
 refine wpIn_rangeFunc_ownG rfl (by omega) (gf := 112) (lb := #[.pointer (some ⟨w.heap.size + 1 + 1 + 1 + 1, 0, none⟩)]) rfl trivial (enters_of Tryz.func112 (by kernel_rfl) rfl)
   (checked_stops (9 - 1) (by omega) w (w.heap.size + 1 + 1 + 1 + 1) (.slice p xs.length cap) xs hl HV.out.2.1 HV.out.2.2.1 HV.out.2.2.2 W5 (by rw [HB.out.2.1]; omega) HB.out.1 HB.out.2.2.2.2.2.2.cell HV.out.1) belowK_t (belowK_b (by rw [HB.out.2.1]; omega)) (Below.refl _ _) (fun _ => rfl)
   (fun pre W => (((Boxed W w.heap.size 22 (.string ⟨#[]⟩) ∧ Boxed W (w.heap.size + 1) 27 (.int .i64 0)) ∧ (Boxed W (w.heap.size + 1 + 1) 22 (stB pre) ∧ Boxed W (w.heap.size + 1 + 1 + 1) 27 (stE pre))) ∧ ∀ s ∈ pre, chkQ s.data.toList = 0) ∧ Below w.heap.size w W)
   (fun c pre W => ((c = .ret ∧ lastC pre ≠ 0 ∧ ∀ s ∈ pre.dropLast, chkQ s.data.toList = 0) ∧ (Boxed W w.heap.size 22 (.string ⟨#[]⟩) ∧ Boxed W (w.heap.size + 1) 27 (laE pre))) ∧ Below w.heap.size w W)
   (OwnFrom.and (OwnFrom.and (OwnFrom.and (OwnFrom.and (Own.from (boxed_own _ _ (fun _ => .string ⟨#[]⟩)) _) (Own.from (boxed_own _ _ (fun _ => .int .i64 0)) _)) (OwnFrom.and (Own.from (boxed_own _ _ stB) _) (Own.from (boxed_own _ _ stE) _))) (ownFrom_pure _ _)) (ownFrom_below (Nat.le_refl _) (by rw [HB.out.2.1]; omega)))
   (fun c => OwnFrom.and (OwnFrom.and (ownFrom_pure _ _) (OwnFrom.and (Own.from (boxed_own _ _ (fun _ => .string ⟨#[]⟩)) _) (Own.from (boxed_own _ _ laE) _))) (ownFrom_below (Nat.le_refl _) (by rw [HB.out.2.1]; omega)))
   ⟨⟨⟨⟨HB.out.2.2.1, HB.out.2.2.2.1⟩, ⟨by have := HB.out.2.2.2.2.1; rwa [show stB [] = .string ⟨#[48]⟩ from congrArg Value.string strQ_zero], HB.out.2.2.2.2.2.1⟩⟩, fun _ h => by cases h⟩, HB.out.1⟩
   (fun x => { tmps := #[.slice p xs.length cap, undef, .pointer (some ⟨w.heap.size, 0, none⟩), .pointer (some ⟨w.heap.size + 1, 0, none⟩), .pointer (some ⟨w.heap.size + 1 + 1, 0, none⟩), .pointer (some ⟨w.heap.size + 1 + 1 + 1, 0, none⟩), .string x, .int .i64 (chkQ x.data.toList), .slice p xs.length cap, .int .i64 xs.length, .bool false, .slice p xs.length cap, .func (.func 112) #[] #[.pointer (some ⟨w.heap.size + 1 + 1 + 1 + 1, 0, none⟩)], .string x, .int .i64 (chkQ x.data.toList), undef, undef, undef, undef, undef, undef, undef, undef, undef, undef, undef, undef, undef], defers := [] }) ?assign ?body ?done ?stop
 case assign =>
   intro l x W K hK
   gi_wp2
   exact hK
 case body =>
   rintro l pre x W ⟨⟨⟨⟨h0, h1⟩, ⟨h2, h3⟩⟩, hp⟩, hB⟩ hlt
   have HH := Lib.hid (And.intro h0 (And.intro h1 (And.intro h2 (And.intro h3 (And.intro hp hB)))))
   clear h0 h1 h2 h3 hp hB
   have HX := Lib.hid (show ∀ c, chkQ x.data.toList = c → chkQ x.data.toList = c from fun _ h => h)
   by_cases hx : chkQ x.data.toList = 0
   · have HX0 := Lib.hid hx
     rw [hx]
     clear hx
     have hc2 := HH.out.2.2.1.cell
     have hc3 := HH.out.2.2.2.1.cell
     have hf2 := HH.out.2.2.1.frozen
     have hf3 := HH.out.2.2.2.1.frozen
     unfold stB at hc2
     unfold stE at hc3
     have hsn := sumS_snoc pre x
     cases hs : sumS pre with
     | none =>
       rw [hs] at hc2 hc3 hsn
       have HS := Lib.hid (And.intro hs hsn); clear hs hsn
       change _ = some (Value.int .i64 4) at hc3
       clear hc2 hf2 hf3
       gi_wp2
       have e1 : stB (pre ++ [x]) = stB pre := by unfold stB; rw [HS.out.2, HS.out.1]; rfl
       have e2 : stE (pre ++ [x]) = stE pre := by unfold stE; rw [HS.out.2, HS.out.1]; rfl
       exact ⟨KeepsFrom.refl _ _, Below.refl _ _, ⟨⟨⟨⟨HH.out.1, HH.out.2.1⟩, ⟨by rw [e1]; exact HH.out.2.2.1, by rw [e2]; exact HH.out.2.2.2.1⟩⟩, fun s hs => (List.mem_append.1 hs).elim (HH.out.2.2.2.2.1 s) (fun e => by rw [List.mem_singleton.1 e]; exact HX0.out)⟩, HH.out.2.2.2.2.2⟩⟩
     | some t =>
       rw [hs] at hc2 hc3
       change _ = some (Value.int .i64 0) at hc3
       change _ = some (Value.string (strQ t)) at hc2
       obtain ⟨g1, g2⟩ := sumS_step (sumS pre) x t hs
       have HS := Lib.hid (show stB (pre ++ [x]) = .string (qaddB t (rat x)) ∧ stE (pre ++ [x]) = .int .i64 (qaddE t (rat x)) from ⟨by unfold stB; rw [hsn, ← g1], by unfold stE; rw [hsn, ← g2]⟩)
       have C := Add_q t (rat x) W (sumS_ok hs) (chkQ_sq HX0.out) (HV.out.2.2.1.next HH.out.2.2.2.2.2) (TabQ_next HV.out.2.2.2 HH.out.2.2.2.2.2)
       rw [chkQ_str HX0.out] at C
       have C := Lib.hid C
       clear hs hsn g1 g2
       generalize strQ t = st at *
       generalize qaddB t (rat x) = rb at *
       generalize qaddE t (rat x) = re at *
       gi_wp2_with fail
       refine ⟨trivial, ?_⟩
       refine (CallsIn.inRound l (callsIn_wide.2 C.out)).mono ?_
       rintro e w' ⟨rfl, b⟩
       clear hc2 hc3 hf2 hf3 C
       have g := grown_below b
       have HG := Lib.hid (And.intro (HH.out.1.kept g (by simp)) (And.intro (HH.out.2.1.kept g (by simp)) (And.intro (HH.out.2.2.1.kept g (by simp)) (And.intro (HH.out.2.2.2.1.kept g (by simp)) (And.intro (KeepsFrom.of_grownBy (B := W5.heap.size) g (fun j e => by cases e)) b)))))
       clear g b
       have hc2 := HG.out.2.2.1.cell
       have hc3 := HG.out.2.2.2.1.cell
       have hf2 := HG.out.2.2.1.frozen
       have hf3 := HG.out.2.2.2.1.frozen
       gi_wp2
       refine ⟨HG.out.2.2.2.2.1.trans (((KeepsOthers.setCell _ _ _).from _).trans ((KeepsOthers.setCell _ _ _).from _)), ((HG.out.2.2.2.2.2.mono HH.out.2.2.2.2.2.size).setCell (p := ⟨w.heap.size + 1 + 1, 0, none⟩) (by show w.heap.size ≤ w.heap.size + 1 + 1; omega) _).setCell (p := ⟨w.heap.size + 1 + 1 + 1, 0, none⟩) (by show w.heap.size ≤ w.heap.size + 1 + 1 + 1; omega) _, ⟨⟨⟨⟨(HG.out.1.other (by omega) _).other (by omega) _, (HG.out.2.1.other (by omega) _).other (by omega) _⟩, ⟨?_, ?_⟩⟩, fun s hs => (List.mem_append.1 hs).elim (HH.out.2.2.2.2.1 s) (fun e => by rw [List.mem_singleton.1 e]; exact HX0.out)⟩, ?_⟩⟩
       · rw [HS.out.1]; exact (HG.out.2.2.1.set _).other (by omega) _
       · rw [HS.out.2]; exact (HG.out.2.2.2.1.other (by omega) _).set _
       · exact HH.out.2.2.2.2.2.trans (((HG.out.2.2.2.2.2.mono HH.out.2.2.2.2.2.size).setCell (p := ⟨w.heap.size + 1 + 1, 0, none⟩) (by show w.heap.size ≤ w.heap.size + 1 + 1; omega) _).setCell (p := ⟨w.heap.size + 1 + 1 + 1, 0, none⟩) (by show w.heap.size ≤ w.heap.size + 1 + 1 + 1; omega) _)
   · have hl := lastC_snoc pre x
     generalize chkQ x.data.toList = c at *
     have HL := Lib.hid (And.intro hl hx)
     have n1 : (c == 0) = false := by rw [beq_eq_false_iff_ne]; exact hx
     have n2 : (c != 0) = true := by rw [bne_iff_ne]; exact hx
     clear hl hx HX
     have hc0 := HH.out.1.cell
     have hc1 := HH.out.2.1.cell
     have hf0 := HH.out.1.frozen
     have hf1 := HH.out.2.1.frozen
     gi_wp2
     refine ⟨((KeepsOthers.setCell _ _ _).from _).trans ((KeepsOthers.setCell _ _ _).from _), ⟨⟨⟨rfl, by rw [HL.out.1]; exact HL.out.2, fun s hs => HH.out.2.2.2.2.1 s (by simpa using hs)⟩, ⟨(HH.out.1.set _).other (by omega) _, ?_⟩⟩, (HH.out.2.2.2.2.2.setCell (p := ⟨w.heap.size, 0, none⟩) (Nat.le_refl _) _).setCell (p := ⟨w.heap.size + 1, 0, none⟩) (by show w.heap.size ≤ w.heap.size + 1; omega) _⟩⟩
     unfold laE; rw [HL.out.1]; exact (HH.out.2.1.other (by omega) _).set _
 case done =>
   rintro D ys W hD rfl ⟨⟨⟨⟨h0, h1⟩, ⟨h2, h3⟩⟩, hp⟩, hB⟩ hK
   have HH := Lib.hid (And.intro h0 (And.intro h1 (And.intro h2 (And.intro h3 (And.intro hp (And.intro hB (And.intro hK hD)))))))
   clear h0 h1 h2 h3 hp hB hK hD
   have hc2 := HH.out.2.2.1.cell
   have hc3 := HH.out.2.2.2.1.cell
   have hf0 := HH.out.1.frozen
   have hf1 := HH.out.2.1.frozen
   have hc0 := HH.out.1.cell
   have hc1 := HH.out.2.1.cell
   unfold stB at hc2
   unfold stE at hc3
   have hmx : Tryz.prog.follows .mixedOrders = true := by kernel_rfl
   gi_wp2
   gi_region_with_o (fail)
   all_goals
     gi_wp2
     have g0 := (HH.out.1.set (.string (oB (sumS ys)))).other (B' := w.heap.size + 1) (by omega) (.int .i64 (oE (sumS ys)))
     have g1 := (HH.out.2.1.other (B' := w.heap.size) (by omega) (.string (oB (sumS ys)))).set (.int .i64 (oE (sumS ys)))
     have hK' := ((KeepsOthers.setCell W ⟨w.heap.size, 0, none⟩ (.string (oB (sumS ys)))).trans (KeepsOthers.setCell _ ⟨w.heap.size + 1, 0, none⟩ (.int .i64 (oE (sumS ys))))).same D _ HH.out.2.2.2.2.2.2.1 rfl
     have hBB := (HH.out.2.2.2.2.2.1.setCell (p := ⟨w.heap.size, 0, none⟩) (Nat.le_refl _) (.string (oB (sumS ys)))).setCell (p := ⟨w.heap.size + 1, 0, none⟩) (by show w.heap.size ≤ w.heap.size + 1; omega) (.int .i64 (oE (sumS ys)))
     have hBB2 := hBB.drew
     have k0 : World.cell? (World.drew ((W.setCell ⟨w.heap.size, 0, none⟩ (.string (oB (sumS ys)))).setCell ⟨w.heap.size + 1, 0, none⟩ (.int .i64 (oE (sumS ys))))) ⟨w.heap.size, 0, none⟩ = some (.string (oB (sumS ys))) := g0.cell
     have k1 : World.cell? (World.drew ((W.setCell ⟨w.heap.size, 0, none⟩ (.string (oB (sumS ys)))).setCell ⟨w.heap.size + 1, 0, none⟩ (.int .i64 (oE (sumS ys))))) ⟨w.heap.size + 1, 0, none⟩ = some (.int .i64 (oE (sumS ys))) := g1.cell
     have hKd : (World.drew ((W.setCell ⟨w.heap.size, 0, none⟩ (.string (oB (sumS ys)))).setCell ⟨w.heap.size + 1, 0, none⟩ (.int .i64 (oE (sumS ys))))).heap[D]? = some (.deferred (some [])) := hK'
     refine ⟨by simp, .inl ⟨_, _, rfl, run_takeDeferred hKd, ?_⟩⟩
     have hc5 := cell_kept k0 (grownBy_putObj' _ D (.deferred none)) (fun r e => by cases e; exact ⟨_, hKd, rfl⟩)
     have hc6 := cell_kept k1 (grownBy_putObj' _ D (.deferred none)) (fun r e => by cases e; exact ⟨_, hKd, rfl⟩)
     refine ⟨.tuple #[.string (oB (sumS ys)), .int .i64 (oE (sumS ys))], ?_, by rw [(sumB_all HH.out.2.2.2.2.1).1, (sumB_all HH.out.2.2.2.2.1).2], hBB2.trans (belowK_b (w := w) (Nat.le_refl _) _ D _ _ (by have := HH.out.2.2.2.2.2.2.2; rw [HB.out.2.1] at this; omega) hKd rfl rfl)⟩
     simp [results, Tryz.f30, go_sem, hc5, hc6]
 case stop =>
   rintro D c pre W hD ⟨k, hk, hpre⟩ ⟨⟨⟨rfl, hl0, hok⟩, ⟨h0, h1⟩⟩, hB⟩ hK
   have hc0 := h0.cell
   have hc1 := h1.cell
   have HS := Lib.hid (sumB_bad hpre hok hl0)
   have HH := Lib.hid (And.intro hB (And.intro hK hD))
   clear hpre hok hl0 hB hD
   gi_wp2
   refine ⟨by simp, .inl ⟨_, _, rfl, run_takeDeferred hK, ?_⟩⟩
   have hc5 := cell_kept hc0 (grownBy_putObj' _ D (.deferred none)) (fun r e => by cases e; exact ⟨_, hK, rfl⟩)
   have hc6 := cell_kept hc1 (grownBy_putObj' _ D (.deferred none)) (fun r e => by cases e; exact ⟨_, hK, rfl⟩)
   unfold laE at hc6
   refine ⟨.tuple #[.string ⟨#[]⟩, .int .i64 (lastC pre)], ?_, by rw [HS.out.1, HS.out.2], HH.out.1.trans (belowK_b (w := w) (Nat.le_refl _) W D _ _ (by have := HH.out.2.2; rw [HB.out.2.1] at this; omega) hK rfl rfl)⟩
   simp [results, Tryz.f30, go_sem, hc5, hc6]
end
end Go.Proofs.YtmafghdgmdbpnaaGreatDoor
namespace Go.Proofs.YtmafghdgmdbpnaaGreatDoor
open Go.RowKit
def longQ (a : ByteArray) : Bool := decide ((82 : Int) < a.size) && decide ((a.size : Int) < 602) || decide ((700 : Int) < a.size)
theorem rLong_any (a : ByteArray) (w : World) (ha : a.size ≤ maxLen) :
   Calls Tryz.prog 11 #[.string a] w fun e W' => e = .returned (.bool (longQ a)) ∧ w = W' := by
 have hm : (a.size : Int) ≤ 9223372036854775807 := by unfold maxLen at ha; omega
 unfold longQ
 clear ha
 by_cases h1 : (82 : Int) < a.size
 · by_cases h2 : (a.size : Int) < 602
   · rw [decide_eq_true h1, decide_eq_true h2]
     go_enter Tryz.func11, Tryz.ntmps11
     go_wp2
     go_ret
     exact ⟨rfl, rfl⟩
   · rw [decide_eq_true h1, decide_eq_false h2]
     by_cases h3 : (700 : Int) < a.size
     · rw [decide_eq_true h3]
       go_enter Tryz.func11, Tryz.ntmps11
       go_wp2
       go_ret
       exact ⟨rfl, rfl⟩
     · rw [decide_eq_false h3]
       go_enter Tryz.func11, Tryz.ntmps11
       go_wp2
       go_ret
       exact ⟨rfl, rfl⟩
 · have h3 : ¬ (700 : Int) < a.size := by omega
   rw [decide_eq_false h1, decide_eq_false h3]
   go_enter Tryz.func11, Tryz.ntmps11
   go_wp2
   go_ret
   exact ⟨rfl, rfl⟩
theorem sumS_none : ∀ (r pre : List ByteArray), sumS pre = none → sumS (pre ++ r) = none
 | [], pre, h => by rw [List.append_nil]; exact h
 | s :: r, pre, h => by
   have e : pre ++ s :: r = (pre ++ [s]) ++ r := by simp
   rw [e]
   apply sumS_none r
   rw [sumS_snoc, h]; rfl
theorem sum_stop {xs : List ByteArray} {k : Nat} {s : ByteArray} {t : Rat} (hall : ∀ s ∈ xs, chkQ s.data.toList = 0) (hk : xs.take (k + 1) = xs.take k ++ [s]) (ht : sumS (xs.take k) = some t) (he : qaddE t (rat s) ≠ 0) : sumB xs = ⟨#[]⟩ ∧ sumE xs = qaddE t (rat s) := by
 obtain ⟨h1, h2⟩ := sumB_all hall
 have h3 : sumS (xs.take (k + 1)) = none := by
   rw [hk, sumS_snoc, ht, Option.bind_some, if_neg he]
 have h4 := sumS_none (xs.drop (k + 1)) _ h3
 rw [List.take_append_drop] at h4
 rw [h1, h2, h4, (qadd_E4 he).2]; exact ⟨rfl, rfl⟩
theorem sum_go {xs : List ByteArray} {k : Nat} {s : ByteArray} {t : Rat} (hk : xs.take (k + 1) = xs.take k ++ [s]) (ht : sumS (xs.take k) = some t) (he : qaddE t (rat s) = 0) : sumS (xs.take (k + 1)) = some (t + rat s) ∧ qaddB t (rat s) = strQ (t + rat s) := by
 refine ⟨?_, (qadd_E0 he).1⟩
 rw [hk, sumS_snoc, ht, Option.bind_some, if_pos he]
theorem sum_bad {xs : List ByteArray} {k : Nat} {s : ByteArray} (hk : xs.take (k + 1) = xs.take k ++ [s]) (hok : ∀ s ∈ xs.take k, chkQ s.data.toList = 0) (hs : chkQ s.data.toList ≠ 0) : sumB xs = ⟨#[]⟩ ∧ sumE xs = chkQ s.data.toList := by
 have h := sumB_bad (xs := xs) (pre := xs.take (k + 1)) rfl (by rw [hk]; intro x hx; rw [List.dropLast_concat] at hx; exact hok x hx) (by rw [hk, lastC_snoc]; exact hs)
 rw [hk, lastC_snoc] at h
 exact h
theorem ret_sum {b b' : ByteArray} {e e' : Int} (h : b' = b ∧ e' = e) : Ending.returned (.tuple #[.string b, .int .i64 e]) = .returned (.tuple #[.string b', .int .i64 e']) := by rw [h.1, h.2]
theorem allC_next {xs : List ByteArray} {k : Nat} {s : ByteArray} (hk : xs.take (k + 1) = xs.take k ++ [s]) (hok : ∀ s ∈ xs.take k, chkQ s.data.toList = 0) (hs : chkQ s.data.toList = 0) : ∀ s ∈ xs.take (k + 1), chkQ s.data.toList = 0 := by
 rw [hk]
 intro x hx
 rcases List.mem_append.1 hx with h | h
 · exact hok x h
 · rw [List.mem_singleton.1 h]; exact hs
theorem rSum_at (b off cap : Nat) (xs : List ByteArray) (w : World) (hb : b < w.heap.size) (hcl : xs.length ≤ cap) (hc : ∀ j, j < xs.length → w.cell? ⟨b, off + j, none⟩ = some (.string (atS xs j))) (hl : xs.length ≤ 4096) (hs : ∀ s ∈ xs, s.size ≤ maxLen) (ht : Tab w) :
   Calls Tryz.prog 31 #[.slice (some ⟨b, off, none⟩) xs.length cap] w fun e W' => e = .returned (.tuple #[.string (sumB xs), .int .i64 (sumE xs)]) ∧ Below w.heap.size w W' := by
 have HC := Lib.hid (And.intro hs hc); clear hs hc
 have HT := Lib.hid ht; clear ht
 have hl' : ¬ (4096 : Int) < xs.length := by omega
 go_enter Tryz.func31, Tryz.ntmps31
 go_wp2
 go_loopw [4] (fun i wr => ∃ k : Nat, k ≤ xs.length ∧ i = .int .i64 k ∧ Hid ((∀ s ∈ xs.take k, chkQ s.data.toList = 0) ∧ Below w.heap.size w wr)) (fun i _ => xs.length - (intOf i).toNat)
 case atStart => exact ⟨0, Nat.zero_le _, rfl, fun _ h => (by simp at h), Below.refl _ _⟩
 case round =>
   obtain ⟨k, hk, rfl, hR⟩ := hrel
   by_cases hlt : k < xs.length
   · have hck := (hR.out.2.cell (p := ⟨b, off + k, none⟩) hb).trans (HC.out.2 k hlt)
     have C := Lib.hid (Check2_any (atS xs k) wr (HC.out.1 _ (atS_mem hlt)) (HT.out.next hR.out.2))
     have hsn := Lib.hid (take_at hlt)
     by_cases hx : chkQ (atS xs k).data.toList = 0
     · rw [hx] at C
       have HX := Lib.hid (allC_next hsn.out hR.out.1 hx)
       clear hx
       generalize atS xs k = s at *
       go_wp2_with fail
       refine C.out.mono ?_
       rintro e w' ⟨rfl, b1⟩
       have HB2 := Lib.hid (hR.out.2.trans (b1.mono hR.out.2.size)); clear b1 C hR
       go_wp2
       go_roundw
       case rel => exact ⟨k + 1, by omega, by go_num, HX.out, HB2.out⟩
       case measure => simp [intOf]; omega
     · have HX := Lib.hid (sum_bad hsn.out hR.out.1 hx)
       have n1 := (bool_ne hx).1
       have n2 := (bool_ne hx).2
       clear hx
       generalize chkQ (atS xs k).data.toList = c at *
       generalize atS xs k = s at *
       go_wp2_with fail
       refine C.out.mono ?_
       rintro e w' ⟨rfl, b1⟩
       have HB2 := Lib.hid (hR.out.2.trans (b1.mono hR.out.2.size)); clear b1 C hR
       go_wp2
       go_ret2
       exact ⟨ret_sum HX.out, HB2.out⟩
   · have hall := hR.out.1
     rw [List.take_of_length_le (by omega)] at hall
     have HA := Lib.hid (And.intro hall hR.out.2); clear hall hR
     go_wp2
     go_loopw [6, 7] (fun v i wr2 => ∃ (k : Nat) (t : Rat), k ≤ xs.length ∧ i = .int .i64 k ∧ v = .string (strQ t) ∧ Hid (sumS (xs.take k) = some t ∧ Below w.heap.size w wr2)) (fun _ i _ => xs.length - (intOf i).toNat)
     case atStart => exact ⟨0, 0, Nat.zero_le _, rfl, by rw [strQ_zero], rfl, HA.out.2⟩
     case round =>
       obtain ⟨j, t, hj, rfl, rfl, hS⟩ := hrel
       by_cases hlt2 : j < xs.length
       · have hcj := (hS.out.2.cell (p := ⟨b, off + j, none⟩) hb).trans (HC.out.2 j hlt2)
         have hsn := Lib.hid (take_at hlt2)
         have hxj := HA.out.1 _ (atS_mem hlt2)
         have c := radd_q t (rat (atS xs j)) _ (sumS_ok hS.out.1) (chkQ_sq hxj) (HT.out.next hS.out.2)
         rw [chkQ_str hxj] at c
         clear hxj
         have C := Lib.hid c; clear c
         by_cases he : qaddE t (rat (atS xs j)) = 0
         · have HG := Lib.hid (sum_go hsn.out hS.out.1 he)
           rw [he, HG.out.2] at C
           clear he
           generalize t + rat (atS xs j) = t2 at *
           generalize atS xs j = s at *
           generalize strQ t = st at *
           go_wp2_with fail
           refine C.out.mono ?_
           rintro e w' ⟨rfl, b1⟩
           have HB2 := Lib.hid (hS.out.2.trans (b1.mono hS.out.2.size)); clear b1 C hS
           go_wp2
           go_roundw
           case rel => exact ⟨j + 1, t2, by omega, by go_num, rfl, HG.out.1, HB2.out⟩
           case measure => simp [intOf]; omega
         · have HG := Lib.hid (sum_stop HA.out.1 hsn.out hS.out.1 he)
           have n1 := (bool_ne he).1
           have n2 := (bool_ne he).2
           clear he
           generalize qaddE t (rat (atS xs j)) = ee at *
           generalize qaddB t (rat (atS xs j)) = bb at *
           generalize atS xs j = s at *
           generalize strQ t = st at *
           go_wp2_with fail
           refine C.out.mono ?_
           rintro e w' ⟨rfl, b1⟩
           have HB2 := Lib.hid (hS.out.2.trans (b1.mono hS.out.2.size)); clear b1 C hS
           go_wp2
           go_ret2
           exact ⟨ret_sum HG.out, HB2.out⟩
       · have hS1 := hS.out.1
         rw [List.take_of_length_le (by omega)] at hS1
         have HG := Lib.hid (show sumB xs = strQ t ∧ sumE xs = 0 by rw [(sumB_all HA.out.1).1, (sumB_all HA.out.1).2, hS1]; exact ⟨rfl, rfl⟩)
         clear hS1
         generalize strQ t = st at *
         go_wp2
         go_ret2
         exact ⟨ret_sum HG.out, hS.out.2⟩
theorem rSum_nil (p : Option Addr) (cap : Nat) (w : World) :
   Calls Tryz.prog 31 #[.slice p 0 cap] w fun e W' => e = .returned (.tuple #[.string ⟨#[48]⟩, .int .i64 0]) ∧ Below w.heap.size w W' := by
 go_enter Tryz.func31, Tryz.ntmps31
 go_wp2
 go_loopw [4] (fun i wr => i = .int .i64 0 ∧ Hid (Below w.heap.size w wr)) (fun _ _ => 0)
 case atStart => exact ⟨rfl, Below.refl _ _⟩
 case round =>
   obtain ⟨rfl, hR⟩ := hrel
   go_wp2
   go_loopw [6, 7] (fun v i wr2 => i = .int .i64 0 ∧ v = .string ⟨#[48]⟩ ∧ Hid (Below w.heap.size w wr2)) (fun _ _ _ => 0)
   case atStart => exact ⟨rfl, rfl, hR.out⟩
   case round =>
     obtain ⟨rfl, rfl, hS⟩ := hrel
     go_wp2
     go_ret2
     exact ⟨rfl, hS.out⟩
theorem sum_nil : sumB [] = ⟨#[48]⟩ ∧ sumE [] = 0 := by
 obtain ⟨h1, h2⟩ := sumB_all (xs := []) (fun _ h => by cases h)
 rw [h1, h2]
 exact ⟨strQ_zero, rfl⟩
theorem slice_inj {p q : Option Addr} {n m c d : Nat} (h : Value.slice p n c = Value.slice q m d) : p = q ∧ n = m ∧ c = d := by
 injection h with h1 h2 h3
 exact ⟨h1, h2, h3⟩
theorem rSum_any (p : Option Addr) (cap : Nat) (xs : List ByteArray) (w : World) (hv : StrsAt w.heap.size w (.slice p xs.length cap) xs) (hl : xs.length ≤ 4096) (hs : ∀ s ∈ xs, s.size ≤ maxLen) (ht : Tab w) :
   Calls Tryz.prog 31 #[.slice p xs.length cap] w fun e W' => e = .returned (.tuple #[.string (sumB xs), .int .i64 (sumE xs)]) ∧ Below w.heap.size w W' := by
 rcases hv with ⟨q, c, _, e2⟩ | ⟨b, off, c, e1, hb, h1, _, hc⟩
 · subst e2
   rw [sum_nil.1, sum_nil.2]
   exact rSum_nil p cap w
 · obtain ⟨rfl, _, rfl⟩ := slice_inj e1
   exact rSum_at b off cap xs w hb h1 hc hl hs ht
def longL (xs : List ByteArray) : Bool := xs.any longQ || decide ((8 : Int) < xs.length)
theorem longL_here {xs : List ByteArray} {k : Nat} (hk : k < xs.length) (h : longQ (atS xs k) = true) : longL xs = true := by
 unfold longL
 rw [List.any_eq_true.2 ⟨_, atS_mem hk, h⟩]; rfl
theorem longL_end {xs : List ByteArray} {k : Nat} (hk : xs.length ≤ k) (h : (xs.take k).any longQ = false) : longL xs = decide ((8 : Int) < xs.length) := by
 unfold longL
 rw [List.take_of_length_le hk] at h
 rw [h]; rfl
theorem longL_next {xs : List ByteArray} {k : Nat} (hk : k < xs.length) (h : (xs.take k).any longQ = false) (h2 : longQ (atS xs k) = false) : (xs.take (k + 1)).any longQ = false := by
 rw [take_at hk, List.any_append, h]; simp [h2]
theorem ret_bool' {a b : Bool} (h : a = b) : Ending.returned (.bool b) = .returned (.bool a) := by rw [h]
theorem rLongList_at (b off cap : Nat) (xs : List ByteArray) (w : World) (hcl : xs.length ≤ cap) (hreach : xs.length * 16 ≤ 140737488351232) (hc : ∀ j, j < xs.length → w.cell? ⟨b, off + j, none⟩ = some (.string (atS xs j))) (hs : ∀ s ∈ xs, s.size ≤ maxLen) :
   Calls Tryz.prog 25 #[.slice (some ⟨b, off, none⟩) xs.length cap] w fun e W' => e = .returned (.bool (longL xs)) ∧ w = W' := by
 have HC := Lib.hid (And.intro hs hc); clear hs hc
 go_enter Tryz.func25, Tryz.ntmps25
 go_wp2
 go_loopw [3] (fun i wr => ∃ k : Nat, k ≤ xs.length ∧ i = .int .i64 k ∧ Hid ((xs.take k).any longQ = false) ∧ wr = w) (fun i _ => xs.length - (intOf i).toNat)
 case atStart => exact ⟨0, Nat.zero_le _, rfl, by show _ = false; simp, rfl⟩
 case round =>
   obtain ⟨k, hk, rfl, hR, rfl⟩ := hrel
   by_cases hlt : k < xs.length
   · have hck := HC.out.2 k hlt
     have C := Lib.hid (rLong_any (atS xs k) wr (HC.out.1 _ (atS_mem hlt)))
     cases hq : longQ (atS xs k)
     · rw [hq] at C
       have HX := Lib.hid (longL_next hlt hR.out hq)
       clear hq
       generalize atS xs k = s at *
       go_wp2_with fail
       refine C.out.mono ?_
       rintro e w' ⟨rfl, rfl⟩
       go_wp2
       go_roundw
       case rel => exact ⟨k + 1, by omega, by go_num, HX.out, by first | rfl | trivial⟩
       case measure => simp [intOf]; omega
     · rw [hq] at C
       have HX := Lib.hid (longL_here hlt hq)
       clear hq
       generalize atS xs k = s at *
       go_wp2_with fail
       refine C.out.mono ?_
       rintro e w' ⟨rfl, rfl⟩
       go_wp2
       go_ret
       exact ⟨ret_bool' HX.out, by first | rfl | trivial⟩
   · have HX := Lib.hid (longL_end (by omega) hR.out)
     clear hR
     by_cases h8 : (8 : Int) < xs.length
     · rw [decide_eq_true h8] at HX
       go_wp2
       go_ret
       exact ⟨ret_bool' HX.out, by first | rfl | trivial⟩
     · rw [decide_eq_false h8] at HX
       go_wp2
       go_ret
       exact ⟨ret_bool' HX.out, by first | rfl | trivial⟩
theorem rLongList_nil (p : Option Addr) (cap : Nat) (w : World) :
   Calls Tryz.prog 25 #[.slice p 0 cap] w fun e W' => e = .returned (.bool false) ∧ w = W' := by
 go_enter Tryz.func25, Tryz.ntmps25
 go_wp2
 go_loopw [3] (fun i wr => i = .int .i64 0 ∧ wr = w) (fun _ _ => 0)
 case atStart => exact ⟨rfl, rfl⟩
 case round =>
   obtain ⟨rfl, rfl⟩ := hrel
   go_wp2
   go_ret
   exact ⟨rfl, rfl⟩
theorem rLongList_any (p : Option Addr) (cap : Nat) (xs : List ByteArray) (w : World) (hv : StrsAt w.heap.size w (.slice p xs.length cap) xs) (hreach : xs.length * 16 ≤ 140737488351232) (hs : ∀ s ∈ xs, s.size ≤ maxLen) :
   Calls Tryz.prog 25 #[.slice p xs.length cap] w fun e W' => e = .returned (.bool (longL xs)) ∧ w = W' := by
 rcases hv with ⟨q, c, _, e2⟩ | ⟨b, off, c, e1, hb, h1, _, hc⟩
 · subst e2
   exact rLongList_nil p cap w
 · obtain ⟨rfl, _, rfl⟩ := slice_inj e1
   exact rLongList_at b off cap xs w h1 hreach hc hs
end Go.Proofs.YtmafghdgmdbpnaaGreatDoor
