/- Parts of the proof of the text YtmafghdgmdbpnaaGreatDoorQY30. -/
import Derived.Test.YtmafghdgmdbpnaaGreatDoorQY1
import Derived.Test.YtmafghdgmdbpnaaGreatDoorQY10
import Derived.Test.YtmafghdgmdbpnaaGreatDoorQY16
import Derived.Test.YtmafghdgmdbpnaaGreatDoorQY3
import Derived.Test.YtmafghdgmdbpnaaGreatDoorQY8
set_option linter.all false
set_option maxRecDepth 100000
set_option maxHeartbeats 8000000
namespace Go.Proofs.YtmafghdgmdbpnaaGreatDoor
open Go.RowKit
theorem digs_dig {l : List UInt8} (h : l.all isDig = false) : digs l = false := by unfold digs; rw [h]; rfl
theorem digs_48 {l : List UInt8} (h : 1 < l.length) (h48 : l.head? = some 48) : digs l = false := by
 unfold digs; rw [decide_eq_true h, h48]; simp
theorem digs_good {l : List UInt8} (h : l.all isDig = true) (h0 : 0 < l.length) (h48 : l[0]? = some 48 → l.length ≤ 1) : digs l = true := by
 unfold digs
 rw [h]
 cases l with
 | nil => simp at h0
 | cons c t =>
   simp only [Bool.true_and, List.isEmpty_cons, Bool.not_false, Bool.not_eq_true', Bool.and_eq_false_iff, decide_eq_false_iff_not]
   by_cases hl : 1 < (c :: t).length
   · right; rw [beq_eq_false_iff_ne]; intro e; have := h48 (by simpa using e); omega
   · left; exact hl
theorem digits2_any (s : ByteArray) (w : World) (hs : s.size ≤ maxLen) :
   Calls Tryz.prog 71 #[.string s] w fun e w' => e = .returned (.bool (digs s.data.toList)) ∧ w = w' := by
 have hm : s.size ≤ 9223372036854775807 := by unfold maxLen at hs; omega
 clear hs
 by_cases h0 : s.size = 0
 · have h0' : ((s.size : Int) == 0) = true := by rw [h0]; rfl
   have hr := Lib.hid (show digs s.data.toList = false by rw [data_nil h0]; rfl)
   go_enter Tryz.func71, Tryz.ntmps71
   go_wp2
   go_ret
   exact ⟨ret_bool hr.out.symm, rfl⟩
 have hp : 0 < s.size := by omega
 have h0' : ((s.size : Int) == 0) = false := by rw [beq_eq_false_iff_ne]; omega
 by_cases h1 : 1 < s.size
 · have h1' : (1 : Int) < s.size := by omega
   by_cases hc : ((s[0].toNat : Int) == 48) = true
   · have hr := Lib.hid (digs_48 (l := s.data.toList) (by rw [size_len]; omega) (by
       rw [head_size hp]
       have := u8_eq s[0] 48 (by decide)
       rw [show ((48 : Nat) : Int) = 48 from rfl, hc] at this
       exact congrArg some (by simpa using this.symm)))
     go_enter Tryz.func71, Tryz.ntmps71
     go_wp2
     go_ret
     exact ⟨ret_bool hr.out.symm, rfl⟩
   · have hc' : ((s[0].toNat : Int) == 48) = false := by simpa using hc
     clear hc
     have H48 := Lib.hid (fun h : s.data.toList[0]? = some 48 => show s.size ≤ 1 from absurd h (not_48 hp hc'))
     go_enter Tryz.func71, Tryz.ntmps71
     go_wp2
     go_loop [3] (fun i => ∃ k : Nat, k ≤ s.size ∧ i = .int .i64 k ∧ Hid ((s.data.toList.take k).all isDig = true)) (fun i => s.size - (intOf i).toNat)
     case atStart => exact ⟨0, by omega, rfl, rfl⟩
     case round =>
       obtain ⟨k, hk, rfl, hd⟩ := hrel
       by_cases hlt : k < s.size
       · by_cases h3 : (s[k].toNat : Int) < 48
         · have hr := Lib.hid (digs_dig (l := s.data.toList) (by rw [List.all_eq_false]; exact ⟨s[k], mem_get s k hlt, by rw [isDig_iff]; omega⟩))
           clear hd
           go_wp2
           go_ret
           exact ⟨ret_bool hr.out.symm, rfl⟩
         · by_cases h4 : (57 : Int) < s[k].toNat
           · have hr := Lib.hid (digs_dig (l := s.data.toList) (by rw [List.all_eq_false]; exact ⟨s[k], mem_get s k hlt, by rw [isDig_iff]; omega⟩))
             clear hd
             go_wp2
             go_ret
             exact ⟨ret_bool hr.out.symm, rfl⟩
           · have hdk : isDig s[k] = true := by rw [isDig_iff]; omega
             have hd' : Hid ((s.data.toList.take (k + 1)).all isDig = true) := by
               show (s.data.toList.take (k + 1)).all isDig = true
               rw [take_snoc s k hlt, List.all_append, hd.out]; simp [hdk]
             clear hd hdk
             go_wp2
             go_round
             case rel => exact ⟨k + 1, by omega, by go_num, hd'⟩
             case measure => simp [intOf]; omega
       · have hr := Lib.hid (digs_good (l := s.data.toList) (by have := hd.out; rwa [List.take_of_length_le (by rw [size_len]; omega)] at this) (by rw [size_len]; omega) (fun h => by rw [size_len]; exact H48.out h))
         clear hd
         go_wp2
         go_ret
         exact ⟨ret_bool hr.out.symm, rfl⟩
 · have h1' : ¬ (1 : Int) < s.size := by omega
   have H48 := Lib.hid (fun _ : s.data.toList[0]? = some 48 => show s.size ≤ 1 by omega)
   go_enter Tryz.func71, Tryz.ntmps71
   go_wp2
   go_loop [3] (fun i => ∃ k : Nat, k ≤ s.size ∧ i = .int .i64 k ∧ Hid ((s.data.toList.take k).all isDig = true)) (fun i => s.size - (intOf i).toNat)
   case atStart => exact ⟨0, by omega, rfl, rfl⟩
   case round =>
     obtain ⟨k, hk, rfl, hd⟩ := hrel
     by_cases hlt : k < s.size
     · by_cases h3 : (s[k].toNat : Int) < 48
       · have hr := Lib.hid (digs_dig (l := s.data.toList) (by rw [List.all_eq_false]; exact ⟨s[k], mem_get s k hlt, by rw [isDig_iff]; omega⟩))
         clear hd
         go_wp2
         go_ret
         exact ⟨ret_bool hr.out.symm, rfl⟩
       · by_cases h4 : (57 : Int) < s[k].toNat
         · have hr := Lib.hid (digs_dig (l := s.data.toList) (by rw [List.all_eq_false]; exact ⟨s[k], mem_get s k hlt, by rw [isDig_iff]; omega⟩))
           clear hd
           go_wp2
           go_ret
           exact ⟨ret_bool hr.out.symm, rfl⟩
         · have hdk : isDig s[k] = true := by rw [isDig_iff]; omega
           have hd' : Hid ((s.data.toList.take (k + 1)).all isDig = true) := by
             show (s.data.toList.take (k + 1)).all isDig = true
             rw [take_snoc s k hlt, List.all_append, hd.out]; simp [hdk]
           clear hd hdk
           go_wp2
           go_round
           case rel => exact ⟨k + 1, by omega, by go_num, hd'⟩
           case measure => simp [intOf]; omega
     · have hr := Lib.hid (digs_good (l := s.data.toList) (by have := hd.out; rwa [List.take_of_length_le (by rw [size_len]; omega)] at this) (by rw [size_len]; omega) (fun h => by rw [size_len]; exact H48.out h))
       clear hd
       go_wp2
       go_ret
       exact ⟨ret_bool hr.out.symm, rfl⟩
def bsN (s : ByteArray) : ByteArray := ⟨(sN s.data.toList).toArray⟩
def bsD (s : ByteArray) : ByteArray := ⟨(sD s.data.toList).toArray⟩
theorem bsN_data (s : ByteArray) : (bsN s).data.toList = sN s.data.toList := by simp [bsN]
theorem bsD_data (s : ByteArray) : (bsD s).data.toList = sD s.data.toList := by simp [bsD]
theorem hasS_sz (l : List UInt8) : hasS l = hasS (szL l) ∧ (hasS l = true → cutD l = cutD (szL l)) := by
 cases hn : isNeg l
 · rw [szL_same hn]; exact ⟨rfl, fun _ => rfl⟩
 · obtain ⟨t, rfl, hs⟩ := isNeg_cons hn
   rw [hs]
   have h1 : hasS (45 :: t) = hasS t := by unfold hasS; simp
   refine ⟨h1, fun h => ?_⟩
   unfold cutD
   rw [h, ← h1, h, if_pos rfl, if_pos rfl, List.dropWhile_cons_of_pos (by decide)]
theorem sN_cut (l : List UInt8) : sN l = cutN (szL l) := rfl
theorem split_at {l t u : List UInt8} (hz : szL l = t ++ 47 :: u) (hno : (47 : UInt8) ∉ t) : sN l = t ∧ hasS l = true ∧ sD l = u := by
 obtain ⟨c1, c2, c3⟩ := cut_some hno u
 obtain ⟨e1, e2⟩ := hasS_sz l
 rw [hz] at e1 e2
 rw [c2] at e1
 refine ⟨by rw [sN_cut, hz, c1], e1, ?_⟩
 unfold sD
 rw [if_pos e1, e2 e1, c3]
theorem split_no {l : List UInt8} (hno : (47 : UInt8) ∉ szL l) : sN l = szL l ∧ hasS l = false ∧ sD l = [] := by
 obtain ⟨c1, c2, c3⟩ := cut_none hno
 obtain ⟨e1, e2⟩ := hasS_sz l
 rw [c2] at e1
 refine ⟨by rw [sN_cut, c1], e1, ?_⟩
 unfold sD
 rw [e1]; rfl
theorem not_mem_snoc {s : ByteArray} {k : Nat} (h : (47 : UInt8) ∉ s.data.toList.take k) (hk : k < s.size) (h47 : ((s[k].toNat : Int) == 47) = false) : (47 : UInt8) ∉ s.data.toList.take (k + 1) := by
 rw [take_snoc s k hk, List.mem_append, not_or]
 refine ⟨h, fun e => ?_⟩
 have e := List.mem_singleton.1 e
 rw [← e] at h47
 exact absurd h47 (by decide)
theorem cut_here {s t : ByteArray} {k : Nat} (hz : szL s.data.toList = t.data.toList) (h : (47 : UInt8) ∉ t.data.toList.take k) (hk : k < t.size) (h47 : ((t[k].toNat : Int) == 47) = true) : t.extract 0 k = bsN s ∧ t.extract (k + 1) t.size = bsD s ∧ hasS s.data.toList = true := by
 have hc : t[k] = 47 := by
   have := u8_eq t[k] 47 (by decide)
   rw [show ((47 : Nat) : Int) = 47 from rfl, h47] at this
   simpa using this.symm
 have hspl : szL s.data.toList = t.data.toList.take k ++ 47 :: t.data.toList.drop (k + 1) := by
   rw [hz, ← hc]
   have h1 : t[k] = t.data.toList[k]'(by rw [size_len]; exact hk) := rfl
   rw [h1, ← List.drop_eq_getElem_cons, List.take_append_drop]
 obtain ⟨e1, e2, e3⟩ := split_at hspl h
 refine ⟨bytes_ext ?_, bytes_ext ?_, e2⟩
 · rw [Lib.extract_data, bsN_data, e1]; simp
 · rw [Lib.extract_data, bsD_data, e3, List.take_of_length_le (by rw [List.length_drop, size_len]; omega)]
theorem cut_never {s t : ByteArray} {k : Nat} (hz : szL s.data.toList = t.data.toList) (h : (47 : UInt8) ∉ t.data.toList.take k) (hk : t.size ≤ k) : t = bsN s ∧ bsD s = ⟨#[]⟩ ∧ hasS s.data.toList = false := by
 rw [List.take_of_length_le (by rw [size_len]; omega)] at h
 obtain ⟨e1, e2, e3⟩ := split_no (l := s.data.toList) (by rw [hz]; exact h)
 refine ⟨bytes_ext (by rw [bsN_data, e1, hz]), bytes_ext (by rw [bsD_data, e3]), e2⟩
theorem results_tmp4 {fn : Func} {t u v z : Tmp} (h : fn.results = #[.tmp t, .tmp u, .tmp v, .tmp z]) (tmps : Array Value) (P : Program) (w : World) :
   (results fn tmps).run P w = .ok (.tuple #[tmps.getD t undef, tmps.getD u undef, tmps.getD v undef, tmps.getD z undef]) w := by
 simp [results, h]
theorem ret_split {a b : Bool} {n d n' d' : ByteArray} {f : Bool} (h1 : n = n') (h2 : d = d') (h3 : b = f) : Ending.returned (.tuple #[.bool a, .string n, .string d, .bool b]) = .returned (.tuple #[.bool a, .string n', .string d', .bool f]) := by rw [h1, h2, h3]
theorem split2_any (s : ByteArray) (w : World) (hs : s.size ≤ maxLen) :
   Calls Tryz.prog 70 #[.string s] w fun e w' => e = .returned (.tuple #[.bool (isNeg s.data.toList), .string (bsN s), .string (bsD s), .bool (hasS s.data.toList)]) ∧ Below w.heap.size w w' := by
 have hm : s.size ≤ 9223372036854775807 := by unfold maxLen at hs; omega
 clear hs
 cases hn : isNeg s.data.toList
 · have HT := Lib.hid (show szL s.data.toList = s.data.toList from szL_same hn)
   by_cases h0 : s.size = 0
   · have h0' : ¬ (0 : Int) < s.size := by omega
     go_enter Tryz.func70, Tryz.ntmps70
     go_wp2
     go_loop [8] (fun i => ∃ k : Nat, k ≤ s.size ∧ i = .int .i64 k ∧ Hid ((47 : UInt8) ∉ s.data.toList.take k)) (fun i => s.size - (intOf i).toNat)
     case atStart => exact ⟨0, by omega, rfl, by show (47 : UInt8) ∉ s.data.toList.take 0; simp⟩
     case round =>
       obtain ⟨k, hk, rfl, hd⟩ := hrel
       have hlt : ¬ k < s.size := by omega
       have hr := Lib.hid (cut_never HT.out hd.out (by omega))
       clear hd
       go_wp2
       (try simp only [Exit.inBlock, Exit.then]); refine bodyPost_ret (results_tmp4 rfl _ _ _) rfl ?_
       exact ⟨ret_split hr.out.1 hr.out.2.1.symm hr.out.2.2.symm, Below.refl _ _⟩
   · have hp : 0 < s.size := by omega
     have h0' : (0 : Int) < s.size := by omega
     have h45 : ((s[0].toNat : Int) == 45) = false := (isNeg_pos hp).trans hn
     go_enter Tryz.func70, Tryz.ntmps70
     go_wp2
     go_loop [8] (fun i => ∃ k : Nat, k ≤ s.size ∧ i = .int .i64 k ∧ Hid ((47 : UInt8) ∉ s.data.toList.take k)) (fun i => s.size - (intOf i).toNat)
     case atStart => exact ⟨0, by omega, rfl, by show (47 : UInt8) ∉ s.data.toList.take 0; simp⟩
     case round =>
       obtain ⟨k, hk, rfl, hd⟩ := hrel
       by_cases hlt : k < s.size
       · by_cases h47 : ((s[k].toNat : Int) == 47) = true
         · have hr := Lib.hid (cut_here HT.out hd.out hlt h47)
           clear hd
           go_wp2
           go_quiet (fail)
           go_wp2
           (try simp only [Exit.inBlock, Exit.then]); refine bodyPost_ret (results_tmp4 rfl _ _ _) rfl ?_
           exact ⟨ret_split hr.out.1 (by first | exact hr.out.2.1 | (rw [← ht]; exact hr.out.2.1)) hr.out.2.2.symm, Below.drewK _ _ _⟩
         · have h47' : ((s[k].toNat : Int) == 47) = false := by simpa using h47
           have hd' := Lib.hid (not_mem_snoc hd.out hlt h47')
           clear hd h47
           go_wp2
           go_round
           case rel => exact ⟨k + 1, by omega, by go_num, hd'⟩
           case measure => simp [intOf]; omega
       · have hr := Lib.hid (cut_never HT.out hd.out (by omega))
         clear hd
         go_wp2
         (try simp only [Exit.inBlock, Exit.then]); refine bodyPost_ret (results_tmp4 rfl _ _ _) rfl ?_
         exact ⟨ret_split hr.out.1 hr.out.2.1.symm hr.out.2.2.symm, Below.refl _ _⟩
 · have hp := isNeg_size hn
   have h0' : (0 : Int) < s.size := by omega
   have h45 : ((s[0].toNat : Int) == 45) = true := (isNeg_pos hp).trans hn
   have hz : szL s.data.toList = (s.extract 1 s.size).data.toList := by
     rw [szL_neg hn, Lib.extract_data, List.take_of_length_le (by rw [List.length_drop, size_len]; omega)]
   have ht := ext_size s
   generalize hte : s.extract 1 s.size = t at *
   have HT := Lib.hid hz
   clear hz hn
   go_enter Tryz.func70, Tryz.ntmps70
   go_wp2
   clear hte
   go_loop [8] (fun i => ∃ k : Nat, k ≤ t.size ∧ i = .int .i64 k ∧ Hid ((47 : UInt8) ∉ t.data.toList.take k)) (fun i => t.size - (intOf i).toNat)
   case atStart => exact ⟨0, by omega, rfl, by show (47 : UInt8) ∉ t.data.toList.take 0; simp⟩
   case round =>
     obtain ⟨k, hk, rfl, hd⟩ := hrel
     by_cases hlt : k < t.size
     · by_cases h47 : ((t[k].toNat : Int) == 47) = true
       · have hr := Lib.hid (cut_here HT.out hd.out hlt h47)
         clear hd
         go_wp2
         go_quiet (fail)
         go_wp2
         (try simp only [Exit.inBlock, Exit.then]); refine bodyPost_ret (results_tmp4 rfl _ _ _) rfl ?_
         exact ⟨ret_split hr.out.1 (by first | exact hr.out.2.1 | (rw [← ht]; exact hr.out.2.1)) hr.out.2.2.symm, Below.drewK _ _ _⟩
       · have h47' : ((t[k].toNat : Int) == 47) = false := by simpa using h47
         have hd' := Lib.hid (not_mem_snoc hd.out hlt h47')
         clear hd h47
         go_wp2
         go_round
         case rel => exact ⟨k + 1, by omega, by go_num, hd'⟩
         case measure => simp [intOf]; omega
     · have hr := Lib.hid (cut_never HT.out hd.out (by omega))
       clear hd
       go_wp2
       (try simp only [Exit.inBlock, Exit.then]); refine bodyPost_ret (results_tmp4 rfl _ _ _) rfl ?_
       exact ⟨ret_split hr.out.1 hr.out.2.1.symm hr.out.2.2.symm, Below.refl _ _⟩
theorem small2_any (t : ByteArray) (w : World) (hs : t.size ≤ 18) (ha : t.data.toList.all isDig = true) :
   Calls Tryz.prog 73 #[.string t] w fun e w' => e = .returned (.int .i64 (natOf t.data.toList : Nat)) ∧ w = w' := by
 have HA := Lib.hid ha; clear ha
 go_enter Tryz.func73, Tryz.ntmps73
 go_wp2
 go_loop [3, 4] (fun n i => ∃ k : Nat, k ≤ t.size ∧ i = .int .i64 k ∧ n = .int .i64 (natOf (t.data.toList.take k) : Nat)) (fun _ i => t.size - (intOf i).toNat)
 case atStart => exact ⟨0, Nat.zero_le _, rfl, rfl⟩
 case round =>
   obtain ⟨k, hk, rfl, rfl⟩ := hrel
   by_cases hlt : k < t.size
   · have hdk := List.all_eq_true.1 HA.out t[k] (mem_get t k hlt)
     rw [isDig_iff] at hdk
     have h3 : ¬ (t[k].toNat : Int) < 48 := by omega
     have h4 : ¬ (57 : Int) < t[k].toNat := by omega
     have htk : ∀ j, j ≤ 18 → natOf (t.data.toList.take j) < 1000000000000000000 := fun j hj => by
       refine Nat.lt_of_lt_of_le (natOf_lt _ (fun c hc => List.all_eq_true.1 HA.out c (List.mem_of_mem_take hc))) ?_
       exact Nat.le_trans (Nat.pow_le_pow_right (by decide) (Nat.le_trans (List.length_take_le _ _) hj)) (by decide)
     have hn := htk k (by omega)
     have HS : Hid (natOf (t.data.toList.take (k + 1)) = natOf (t.data.toList.take k) * 10 + (t[k].toNat - 48)) := by rw [take_snoc t k hlt]; exact natOf_snoc _ _
     have hn17 := htk (k + 1) (by omega)
     rw [HS.out] at hn17
     clear hdk htk
     go_wp2
     go_round
     case rel => exact ⟨k + 1, by omega, by go_num, by rw [HS.out]; go_num⟩
     case measure => simp [intOf]; omega
   · have hk2 : t.data.toList.take k = t.data.toList := List.take_of_length_le (by rw [size_len]; omega)
     rw [hk2]
     clear hk2
     go_wp2
     go_ret
     exact ⟨rfl, rfl⟩
theorem gcd2_any (a b : Nat) (w : World) (ha : a < 9223372036854775808) (hb : b < 9223372036854775808) :
   Calls Tryz.prog 72 #[.int .i64 a, .int .i64 b] w fun e w' => e = .returned (.int .i64 (Nat.gcd a b : Nat)) ∧ Below w.heap.size w w' := by
 go_enter Tryz.func72, Tryz.ntmps72
 go_wp2
 go_loopw [0, 1] (fun x y wr => ∃ a' b' : Nat, a' < 9223372036854775808 ∧ b' < 9223372036854775808 ∧ x = .int .i64 a' ∧ y = .int .i64 b' ∧ Hid (Nat.gcd a' b' = Nat.gcd a b) ∧ ∃ n, wr = w.drewN n) (fun _ y _ => (intOf y).toNat)
 case atStart => exact ⟨a, b, ha, hb, rfl, rfl, rfl, 0, rfl⟩
 case round =>
   obtain ⟨a', b', ha', hb', rfl, rfl, hg, m, rfl⟩ := hrel
   clear ha hb
   by_cases h0 : b' = 0
   · subst h0
     go_wp2
     go_ret
     exact ⟨ret_int (by have := hg.out; rw [Nat.gcd_zero_right] at this; rw [this]), Below.drewK _ _ _⟩
   · have hne : ((b' : Int) != 0) = true := by simpa using h0
     have hne2 : ((b' : Int) == 0) = false := by simpa using h0
     have hlt : a' % b' < b' := Nat.mod_lt _ (by omega)
     have hg2 : Hid (Nat.gcd b' (a' % b') = Nat.gcd a b) := by
       show Nat.gcd b' (a' % b') = Nat.gcd a b
       rw [← hg.out, Nat.gcd_comm a' b', Nat.gcd_rec b' a', Nat.gcd_comm]
     clear hg h0
     go_wp2
     go_quiet (fail)
     go_wp2
     go_roundw
     case rel => exact ⟨b', a' % b', hb', by omega, rfl, by rw [Int.natCast_emod], hg2, _, World.drewN_drewN _ _ _⟩
     case measure =>
       show (intOf (.int .i64 ((a' : Int) % b'))).toNat < _
       rw [← Int.natCast_emod]; simp [intOf]; omega
end Go.Proofs.YtmafghdgmdbpnaaGreatDoor
namespace Go.Proofs.YtmafghdgmdbpnaaGreatDoor.R
def B : Nat := 1000000
theorem B_eq : B = 1000000 := rfl
theorem B_pos : 0 < B := by decide
def toN : List Nat → Nat
 | [] => 0
 | d :: r => d + B * toN r
def Dig (l : List Nat) : Prop := ∀ x ∈ l, x < 1000000
theorem Dig.nil : Dig [] := fun _ h => by cases h
theorem Dig.cons {d : Nat} {l : List Nat} (h : d < 1000000) (hl : Dig l) : Dig (d :: l) := fun x hx => by
 rcases List.mem_cons.1 hx with rfl | hx
 · exact h
 · exact hl x hx
theorem Dig.head {d : Nat} {l : List Nat} (h : Dig (d :: l)) : d < 1000000 := h d (by simp)
theorem Dig.tail {d : Nat} {l : List Nat} (h : Dig (d :: l)) : Dig l := fun x hx => h x (by simp [hx])
theorem Dig.take {l : List Nat} (h : Dig l) (k : Nat) : Dig (l.take k) := fun x hx => h x (List.mem_of_mem_take hx)
theorem Dig.drop {l : List Nat} (h : Dig l) (k : Nat) : Dig (l.drop k) := fun x hx => h x (List.mem_of_mem_drop hx)
theorem Dig.append {l m : List Nat} (h : Dig l) (h' : Dig m) : Dig (l ++ m) := fun x hx => by
 rcases List.mem_append.1 hx with hx | hx
 · exact h x hx
 · exact h' x hx
theorem Dig.one {d : Nat} (h : d < 1000000) : Dig [d] := Dig.cons h Dig.nil
theorem Dig.getD {l : List Nat} (h : Dig l) (i : Nat) : l.getD i 0 < 1000000 := by
 by_cases hi : i < l.length
 · rw [List.getD_eq_getElem?_getD, List.getElem?_eq_getElem hi]; exact h _ (List.getElem_mem _)
 · rw [List.getD_eq_getElem?_getD, List.getElem?_eq_none (by omega)]; simp
theorem Dig.replicate (k : Nat) : Dig (List.replicate k 0) := fun x hx => by
 rw [(List.mem_replicate.1 hx).2]; decide
theorem toN_append (l m : List Nat) : toN (l ++ m) = toN l + B ^ l.length * toN m := by
 induction l with
 | nil => simp [toN]
 | cons d r ih =>
   simp only [List.cons_append, toN, ih, List.length_cons, Nat.pow_succ]
   rw [Nat.mul_add, Nat.add_assoc, ← Nat.mul_assoc, Nat.mul_comm B (B ^ r.length)]
theorem toN_snoc (l : List Nat) (d : Nat) : toN (l ++ [d]) = toN l + B ^ l.length * d := by
 rw [toN_append]; simp [toN]
theorem toN_replicate (k : Nat) : toN (List.replicate k 0) = 0 := by
 induction k with
 | zero => rfl
 | succ k ih => rw [List.replicate_succ]; simp [toN, ih]
theorem toN_lt {l : List Nat} (h : Dig l) : toN l < B ^ l.length := by
 induction l with
 | nil => simp [toN]
 | cons d r ih =>
   have h1 := ih h.tail
   have h2 := h.head
   rw [toN, List.length_cons, Nat.pow_succ, Nat.mul_comm (B ^ r.length) B]
   have h3 : B * toN r + B ≤ B * B ^ r.length := by
     rw [← Nat.mul_succ]; exact Nat.mul_le_mul_left B h1
   rw [B_eq] at *
   omega
theorem take_succ_getD (l : List Nat) (k : Nat) (h : k < l.length) : l.take (k + 1) = l.take k ++ [l.getD k 0] := by
 rw [List.take_succ_eq_append_getElem h, List.getD_eq_getElem?_getD, List.getElem?_eq_getElem h]; rfl
theorem toN_take_succ (l : List Nat) (k : Nat) (h : k < l.length) : toN (l.take (k + 1)) = toN (l.take k) + B ^ k * l.getD k 0 := by
 rw [take_succ_getD l k h, toN_snoc, List.length_take, Nat.min_eq_left (by omega)]
def dg (n : Nat) : List Nat := if _h : n = 0 then [] else n % B :: dg (n / B)
termination_by n
decreasing_by exact Nat.div_lt_self (by omega) (by decide)
theorem dg_zero : dg 0 = [] := by rw [dg]; rfl
theorem dg_pos {n : Nat} (h : n ≠ 0) : dg n = n % B :: dg (n / B) := by rw [dg, dif_neg h]
theorem toN_dg (n : Nat) : toN (dg n) = n := by
 induction n using Nat.strongRecOn with
 | _ n ih =>
   by_cases h : n = 0
   · subst h; rw [dg_zero]; rfl
   · rw [dg_pos h, toN, ih (n / B) (Nat.div_lt_self (by omega) (by decide))]
     exact Nat.mod_add_div n B
theorem dg_Dig (n : Nat) : Dig (dg n) := by
 induction n using Nat.strongRecOn with
 | _ n ih =>
   by_cases h : n = 0
   · subst h; rw [dg_zero]; exact Dig.nil
   · rw [dg_pos h]
     exact Dig.cons (Nat.mod_lt _ (by decide)) (ih (n / B) (Nat.div_lt_self (by omega) (by decide)))
theorem toN_pos_of_last {l : List Nat} (hne : l ≠ []) (hl : l.getLast? ≠ some 0) : 0 < toN l := by
 induction l with
 | nil => exact absurd rfl hne
 | cons d r ih =>
   rw [toN]
   by_cases hr : r = []
   · subst hr
     have : d ≠ 0 := fun e => hl (by rw [e]; rfl)
     omega
   · have h1 := ih hr (by rwa [List.getLast?_cons_of_ne_nil hr] at hl)
     have := Nat.mul_pos B_pos h1
     omega
theorem dg_toN {l : List Nat} (h : Dig l) (hl : l.getLast? ≠ some 0) : dg (toN l) = l := by
 induction l with
 | nil => exact dg_zero
 | cons d r ih =>
   have h0 := toN_pos_of_last (l := d :: r) (by simp) hl
   have hd : d < B := h.head
   rw [dg_pos (by omega)]
   simp only [toN]
   have e1 : (d + B * toN r) % B = d := by rw [Nat.add_mul_mod_self_left]; exact Nat.mod_eq_of_lt hd
   have e2 : (d + B * toN r) / B = toN r := by
     rw [Nat.add_mul_div_left _ _ B_pos, Nat.div_eq_of_lt hd]; omega
   rw [e1, e2]
   by_cases hr : r = []
   · subst hr; rw [show toN [] = 0 from rfl, dg_zero]
   · rw [ih h.tail (by rwa [List.getLast?_cons_of_ne_nil hr] at hl)]
theorem dg_nil_iff (n : Nat) : dg n = [] ↔ n = 0 := by
 constructor
 · intro h; have := toN_dg n; rw [h] at this; exact this.symm
 · rintro rfl; exact dg_zero
theorem dg_length_le (n k : Nat) : (dg n).length ≤ k ↔ n < B ^ k := by
 constructor
 · intro h
   have h1 := toN_lt (dg_Dig n)
   rw [toN_dg] at h1
   exact Nat.lt_of_lt_of_le h1 (Nat.pow_le_pow_right B_pos h)
 · induction k generalizing n with
   | zero => intro h; have : n = 0 := by simpa using h
             subst this; rw [dg_zero]; exact Nat.le_refl _
   | succ k ih =>
     intro h
     by_cases h0 : n = 0
     · subst h0; rw [dg_zero]; simp
     · rw [dg_pos h0, List.length_cons]
       have := ih (n / B) (by rw [Nat.div_lt_iff_lt_mul B_pos]; rwa [Nat.pow_succ] at h)
       omega
theorem dg_of_take {l : List Nat} (h : Dig l) (k : Nat) (hk : k ≤ l.length) (hv : toN (l.take k) = toN l) (hl : k = 0 ∨ l.getD (k - 1) 0 ≠ 0) : dg (toN l) = l.take k := by
 rw [← hv]
 refine dg_toN (h.take k) ?_
 rcases hl with rfl | hl
 · simp
 · intro e
   by_cases h0 : k = 0
   · subst h0; simp at e
   · apply hl
     have h1 : k - 1 < l.length := by omega
     have h2 := take_succ_getD l (k - 1) h1
     rw [Nat.sub_add_cancel (by omega)] at h2
     rw [h2, List.getLast?_concat] at e
     exact Option.some.inj e
theorem dg_one {n : Nat} (h0 : n ≠ 0) (h : n < B) : dg n = [n] := by
 rw [dg_pos h0, Nat.mod_eq_of_lt h, Nat.div_eq_of_lt h, dg_zero]
end Go.Proofs.YtmafghdgmdbpnaaGreatDoor.R
namespace Go.Proofs.YtmafghdgmdbpnaaGreatDoor.R
theorem getD_lt {l : List Nat} {k : Nat} (h : k < l.length) : l.getD k 0 = l[k] := by
 rw [List.getD_eq_getElem?_getD, List.getElem?_eq_getElem h]; rfl
theorem toN_set (l : List Nat) (k d : Nat) (h : k < l.length) : toN (l.set k d) + B ^ k * l.getD k 0 = toN l + B ^ k * d := by
 induction l generalizing k with
 | nil => simp at h
 | cons a r ih =>
   cases k with
   | zero => simp [toN]; omega
   | succ k =>
     have h1 := ih k (by simpa using h)
     simp only [List.set_cons_succ, toN, List.getD_cons_succ, Nat.pow_succ]
     have h2 : B * toN (r.set k d) + B * (B ^ k * r.getD k 0) = B * toN r + B * (B ^ k * d) := by rw [← Nat.mul_add, ← Nat.mul_add, h1]
     rw [Nat.mul_comm (B ^ k) B, Nat.mul_assoc, Nat.mul_assoc]
     omega
theorem Dig.set {l : List Nat} (h : Dig l) (k : Nat) {d : Nat} (hd : d < 1000000) : Dig (l.set k d) := fun x hx => by
 rcases List.mem_or_eq_of_mem_set hx with hx | rfl
 · exact h x hx
 · exact hd
theorem getD_set_ne (l : List Nat) (k m d : Nat) (h : k ≠ m) : (l.set k d).getD m 0 = l.getD m 0 := by
 rw [List.getD_eq_getElem?_getD, List.getD_eq_getElem?_getD, List.getElem?_set_ne h]
theorem mul_bd {x y : Nat} (hx : x < 1000000) (hy : y < 1000000) : x * y ≤ 999998000001 := by
 have := Nat.mul_le_mul (show x ≤ 999999 by omega) (show y ≤ 999999 by omega)
 omega
theorem mul_step {o : List Nat} {k x y c : Nat} (hk : k < o.length) (ho : Dig o) (hx : x < 1000000) (hy : y < 1000000) (hc : c < 1000000) :
   let t := o.getD k 0 + x * y + c
   t / 1000000 < 1000000 ∧ t % 1000000 < 1000000 ∧ toN (o.set k (t % 1000000)) + B ^ (k + 1) * (t / 1000000) = toN o + B ^ k * (x * y + c) := by
 intro t
 have h1 := mul_bd hx hy
 have h2 := ho.getD k
 have h3 : t < 1000000 * 1000000 := by show o.getD k 0 + x * y + c < _; omega
 refine ⟨by omega, by omega, ?_⟩
 have h4 := toN_set o k (t % 1000000) hk
 have h5 : B ^ k * t = B ^ k * (t % 1000000) + B ^ (k + 1) * (t / 1000000) := by
   rw [Nat.pow_succ, Nat.mul_assoc, ← Nat.mul_add, B_eq]
   congr 1
   omega
 have h6 : B ^ k * t = B ^ k * o.getD k 0 + B ^ k * (x * y + c) := by
   rw [← Nat.mul_add]; congr 1; show o.getD k 0 + x * y + c = _; omega
 omega
end Go.Proofs.YtmafghdgmdbpnaaGreatDoor.R
namespace Go.Proofs.YtmafghdgmdbpnaaGreatDoor.R
open Go.RowKit
def Nats (w : World) (v : Value) (l : List Nat) : Prop :=
 ∃ p cap, v = .slice p l.length cap ∧ l.length ≤ cap ∧ cap ≤ 9223372036854775807 ∧
   (l ≠ [] → ∃ b off, p = some ⟨b, off, none⟩ ∧ ∀ i, i < l.length → w.cell? ⟨b, off + i, none⟩ = some (.int .i64 (l.getD i 0 : Nat)))
theorem Nats.next {w w' : World} {v : Value} {l : List Nat} (h : Nats w v l) (hb : Below w.heap.size w w') : Nats w' v l := by
 obtain ⟨p, cap, rfl, h1, h2, h3⟩ := h
 refine ⟨p, cap, rfl, h1, h2, fun hne => ?_⟩
 obtain ⟨b, off, e, hc⟩ := h3 hne
 exact ⟨b, off, e, fun i hi => (hb.cell (World.block_lt_of_cell? w _ (hc i hi))).trans (hc i hi)⟩
theorem Nats.nil (w : World) : Nats w (.slice none 0 0) [] := ⟨none, 0, rfl, Nat.le_refl _, by decide, fun h => absurd rfl h⟩
theorem dg_prefix {l : List Nat} (h : Dig l) : dg (toN l) <+: l := by
 induction l using snoc_ind with
 | h0 => rw [show toN [] = 0 from rfl, dg_zero]; exact List.prefix_refl _
 | hs m d ih =>
   by_cases hd : d = 0
   · subst hd
     rw [toN_snoc, Nat.mul_zero, Nat.add_zero]
     exact (ih (fun x hx => h x (by simp [hx]))).trans (List.prefix_append _ _)
   · rw [dg_toN h (by rw [List.getLast?_concat]; intro e; exact hd (Option.some.inj e))]
     exact List.prefix_refl _
theorem Nats.take {w : World} {p : Option Addr} {cap : Nat} {l m : List Nat} (h : Nats w (.slice p l.length cap) l) (hm : m <+: l) : Nats w (.slice p m.length cap) m := by
 obtain ⟨p', cap', he, h1, h2, h3⟩ := h
 simp only [Value.slice.injEq, true_and] at he
 obtain ⟨rfl, rfl⟩ := he
 refine ⟨p, cap, rfl, Nat.le_trans hm.length_le h1, h2, fun hne => ?_⟩
 obtain ⟨r, rfl⟩ := hm
 obtain ⟨b, off, e, hc⟩ := h3 (by simp [hne])
 refine ⟨b, off, e, fun i hi => ?_⟩
 rw [hc i (by rw [List.length_append]; omega)]
 rw [List.getD_eq_getElem?_getD, List.getD_eq_getElem?_getD, List.getElem?_append_left hi]
def IsNat (w : World) (v : Value) (n : Nat) : Prop := Nats w v (dg n)
theorem IsNat.next {w w' : World} {v : Value} {n : Nat} (h : IsNat w v n) (hb : Below w.heap.size w w') : IsNat w' v n := Nats.next h hb
theorem Nats.of_cells {w : World} {b : Nat} {l : List Nat} {cap : Nat} (h1 : l.length ≤ cap) (h2 : cap ≤ 9223372036854775807)
   (h : ∀ i, i < l.length → w.cell? ⟨b, i, none⟩ = some (.int .i64 (l.getD i 0 : Nat))) : Nats w (.slice (some ⟨b, 0, none⟩) l.length cap) l :=
 ⟨_, cap, rfl, h1, h2, fun _ => ⟨b, 0, rfl, fun i hi => by rw [Nat.zero_add]; exact h i hi⟩⟩
theorem info_int : (Tryz.prog.info? 3).map (fun i => (i.zero, i.size, i.bytes)) = some (some (.int .i64 0), 1, 8) := by kernel_rfl
theorem nats_of_owns {w : World} {base : Nat} {v : Value} {l : List Nat} {e : TypeId} (h : w.ownsRow base e 1 v l.length (l.map fun x => Value.int .i64 (x : Nat))) : Nats w v l := by
 have h' := h
 obtain ⟨h1, h2⟩ := h
 rcases h2 with ⟨rfl, h3⟩ | ⟨g, cap, cur, rfl, hb, hh, hn, hcap, hsz, htk⟩
 · have : l = [] := List.eq_nil_of_length_eq_zero h3
   subst this; exact Nats.nil w
 · refine ⟨_, cap, rfl, hn, by unfold maxLen at hcap; omega, fun _ => ⟨g, 0, rfl, fun i hi => ?_⟩⟩
   have h3 := h'.cells (g := g) rfl i (.int .i64 (l.getD i 0 : Nat)) (by
     rw [List.getElem?_map, List.getElem?_eq_getElem hi, List.getD_eq_getElem?_getD, List.getElem?_eq_getElem hi]; rfl)
   have hadd : (⟨g, 0, none⟩ : Addr).add i = ⟨g, 0 + i, none⟩ := by unfold Addr.add; split <;> simp_all
   rwa [hadd] at h3
def cells64 (l : List Nat) : List Value := l.map fun x => Value.int .i64 (x : Nat)
theorem cells64_snoc (l : List Nat) (x : Nat) : cells64 l ++ [Value.int .i64 (x : Nat)] = cells64 (l ++ [x]) := by simp [cells64]
def Row (w : World) (g : Nat) (l : List Nat) : Prop := w.heap[g]? = some (.cells (cells64 l).toArray 3 (0, 0))
theorem Row.cell {w : World} {g : Nat} {l : List Nat} (h : Row w g l) {i : Nat} (hi : i < l.length) : w.cell? ⟨g, i, none⟩ = some (.int .i64 (l.getD i 0 : Nat)) := by
 rw [cell_of_row w g i _ _ (0, 0) h]
 simp [cells64, hi]
theorem Row.frozen {w : World} {g : Nat} {l : List Nat} (h : Row w g l) (i : Nat) : w.frozen? ⟨g, i, none⟩ = false := by
 unfold Row at h
 simp [World.frozen?, h]
theorem Row.set {w : World} {g : Nat} {l : List Nat} (h : Row w g l) (i : Nat) (x : Nat) : Row (w.setCell ⟨g, i, none⟩ (.int .i64 (x : Nat))) g (l.set i x) := by
 unfold Row at h ⊢
 simp [World.setCell, Array.getElem?_modify, h, cells64, List.map_set]
theorem Row.lt {w : World} {g : Nat} {l : List Nat} (h : Row w g l) : g < w.heap.size := (Array.getElem?_eq_some_iff.1 h).1
theorem Row.nats {w : World} {g : Nat} {l : List Nat} (h : Row w g l) {cap : Nat} (h1 : l.length ≤ cap) (h2 : cap ≤ 9223372036854775807) : Nats w (.slice (some ⟨g, 0, none⟩) l.length cap) l :=
 Nats.of_cells h1 h2 (fun _ hi => h.cell hi)
theorem made_cells (n : Nat) : (madeCells (Value.int .i64 0).cells (n * 1)).toList = cells64 (List.replicate n 0) := by
 rw [Nat.mul_one]
 have h : (Value.int .i64 0).cells = #[.int .i64 0] := by simp [Value.cells]
 rw [h, toList_madeCells_one]
 simp [cells64]
theorem Row.of_made {w : World} {base g n : Nat} (h : w.ownsRow base 3 1 (.slice (some ⟨g, 0, none⟩) n n) n (madeCells (Value.int .i64 0).cells (n * 1)).toList) : Row w g (List.replicate n 0) := by
 rcases h.2 with ⟨h1, _⟩ | ⟨g', cap, cur, h1, _, hh, _, _, hsz, htk⟩
 · cases h1
 · simp only [Value.slice.injEq, Option.some.injEq, Addr.mk.injEq, true_and, and_true] at h1
   obtain ⟨rfl, rfl⟩ := h1
   rw [made_cells, List.take_of_length_le (by simp [hsz])] at htk
   unfold Row
   rw [hh, ← htk]
def RowC (w : World) (g : Nat) (l : List Nat) : Prop := ∃ cur, w.heap[g]? = some (.cells cur 3 (0, 0)) ∧ cur.toList.take l.length = cells64 l
theorem RowC.cell {w : World} {g : Nat} {l : List Nat} (h : RowC w g l) {i : Nat} (hi : i < l.length) : w.cell? ⟨g, i, none⟩ = some (.int .i64 (l.getD i 0 : Nat)) := by
 obtain ⟨cur, h1, h2⟩ := h
 rw [cell_of_row w g i _ _ (0, 0) h1, ← Array.getElem?_toList]
 have : (cur.toList.take l.length)[i]? = (cells64 l)[i]? := by rw [h2]
 rw [List.getElem?_take_of_lt hi] at this
 rw [this]
 simp [cells64, hi]
theorem RowC.frozen {w : World} {g : Nat} {l : List Nat} (h : RowC w g l) (i : Nat) : w.frozen? ⟨g, i, none⟩ = false := by
 obtain ⟨cur, h1, h2⟩ := h
 simp [World.frozen?, h1]
theorem RowC.set {w : World} {g : Nat} {l : List Nat} (h : RowC w g l) (i : Nat) (x : Nat) : RowC (w.setCell ⟨g, i, none⟩ (.int .i64 (x : Nat))) g (l.set i x) := by
 obtain ⟨cur, h1, h2⟩ := h
 refine ⟨cur.setIfInBounds i (.int .i64 (x : Nat)), ?_, ?_⟩
 · simp [World.setCell, Array.getElem?_modify, h1]
 · rw [List.length_set, Array.toList_setIfInBounds, List.take_set, h2]
   simp [cells64, List.map_set]
theorem RowC.lt {w : World} {g : Nat} {l : List Nat} (h : RowC w g l) : g < w.heap.size := by
 obtain ⟨cur, h1, h2⟩ := h
 exact (Array.getElem?_eq_some_iff.1 h1).1
theorem RowC.nats {w : World} {g : Nat} {l : List Nat} (h : RowC w g l) {cap : Nat} (h1 : l.length ≤ cap) (h2 : cap ≤ 9223372036854775807) : Nats w (.slice (some ⟨g, 0, none⟩) l.length cap) l :=
 Nats.of_cells h1 h2 (fun _ hi => h.cell hi)
theorem RowC.of_block {w w' : World} {g : Nat} {l : List Nat} (h : RowC w g l) (hb : w'.heap[g]? = w.heap[g]?) : RowC w' g l := by
 obtain ⟨cur, h1, h2⟩ := h
 exact ⟨cur, hb.trans h1, h2⟩
theorem RowC.next {w w' : World} {g B : Nat} {l : List Nat} (h : RowC w g l) (hb : Below B w w') (hg : g < B) : RowC w' g l := h.of_block (hb.block g hg)
theorem dg_len_le {a b : Nat} (h : a ≤ b) : (dg a).length ≤ (dg b).length := by
 rw [dg_length_le]
 exact Nat.lt_of_le_of_lt h ((dg_length_le b _).1 (Nat.le_refl _))
theorem dg_len_pos {b : Nat} (h : b ≠ 0) : 0 < (dg b).length := List.length_pos_iff.2 (fun e => h ((dg_nil_iff b).1 e))
theorem IsNat.shape {w : World} {v : Value} {n : Nat} (h : IsNat w v n) : ∃ p cap, v = .slice p (dg n).length cap := by
 obtain ⟨p, cap, e, _⟩ := h; exact ⟨p, cap, e⟩
theorem lt_of_len {a b : Nat} (h : (dg a).length < (dg b).length) : a < b := by
 have h1 := (dg_length_le a _).1 (Nat.le_refl _)
 have h2 : ¬ b < B ^ (dg a).length := fun hc => by have := (dg_length_le b _).2 hc; omega
 omega
theorem toN_split (l : List Nat) (i : Nat) (h : i < l.length) : toN l = toN (l.take i) + B ^ i * l.getD i 0 + B ^ (i + 1) * toN (l.drop (i + 1)) := by
 conv => lhs; rw [← List.take_append_drop (i + 1) l]
 rw [toN_append, toN_take_succ l i h, List.length_take, Nat.min_eq_left (by omega)]
theorem lt_of_digit {la lb : List Nat} {i : Nat} (ha : Dig la) (hia : i < la.length) (hib : i < lb.length) (hd : la.drop (i + 1) = lb.drop (i + 1)) (h : la.getD i 0 < lb.getD i 0) : toN la < toN lb := by
 rw [toN_split la i hia, toN_split lb i hib, hd]
 have h1 := toN_lt (ha.take i)
 rw [List.length_take, Nat.min_eq_left (by omega)] at h1
 have h2 : B ^ i * la.getD i 0 + B ^ i ≤ B ^ i * lb.getD i 0 := by rw [← Nat.mul_succ]; exact Nat.mul_le_mul_left _ h
 omega
theorem div_step {la o : List Nat} {b r j : Nat} (hj : j < la.length) (hl : o.length = la.length) (h : toN (la.drop (j + 1)) = b * toN (o.drop (j + 1)) + r) :
   toN (la.drop j) = b * toN ((o.set j ((r * 1000000 + la.getD j 0) / b)).drop j) + (r * 1000000 + la.getD j 0) % b := by
 rw [drop_cons hj, set_drop (by omega)]
 show la.getD j 0 + B * toN _ = b * ((r * 1000000 + la.getD j 0) / b + B * toN _) + _
 rw [h]
 have e := Nat.div_add_mod (r * 1000000 + la.getD j 0) b
 generalize (r * 1000000 + la.getD j 0) / b = q at *
 generalize (r * 1000000 + la.getD j 0) % b = s at *
 generalize toN (o.drop (j + 1)) = T at *
 have hB : B = 1000000 := rfl
 rw [hB, Nat.mul_add b q, Nat.mul_add 1000000 (b * T) r]
 have : b * (1000000 * T) = 1000000 * (b * T) := Nat.mul_left_comm _ _ _
 omega
theorem div_bd {b r d : Nat} (hb0 : 0 < b) (hb : b < 1000000) (hr : r < b) (hd : d < 1000000) :
   (r * 1000000 + d) / b < 1000000 ∧ (r * 1000000 + d) % b < b ∧ r * 1000000 + d < 1000000000000 := by
 refine ⟨?_, Nat.mod_lt _ hb0, by omega⟩
 rw [Nat.div_lt_iff_lt_mul hb0]
 have : (r + 1) * 1000000 ≤ b * 1000000 := Nat.mul_le_mul_right _ hr
 omega
theorem dg_getD (n i : Nat) : (dg n).getD i 0 = n / B ^ i % B := by
 induction i generalizing n with
 | zero =>
   by_cases h : n = 0
   · subst h; rw [dg_zero]; simp
   · rw [dg_pos h]; simp
 | succ i ih =>
   by_cases h : n = 0
   · subst h; rw [dg_zero]; simp
   · rw [dg_pos h, List.getD_cons_succ, ih, Nat.pow_succ, Nat.mul_comm, Nat.div_div_eq_div_mul]
theorem Nats.setCell {w : World} {v : Value} {l : List Nat} {base : Nat} (h : Nats w v l) (hf : Fresh base v) {a : Addr} (ha : a.block < base) (u : Value) : Nats (w.setCell a u) v l := by
 obtain ⟨p, cap, rfl, h1, h2, h3⟩ := h
 refine ⟨p, cap, rfl, h1, h2, fun hne => ?_⟩
 obtain ⟨b, off, e, hc⟩ := h3 hne
 refine ⟨b, off, e, fun i hi => ?_⟩
 have hb : base ≤ b := hf b (by rw [e]; rfl)
 exact (World.cell?_of_block (Below.heap_setCell _ _ _ _ (by show b ≠ a.block; omega))).trans (hc i hi)
theorem IsNat.setCell {w : World} {v : Value} {n base : Nat} (h : IsNat w v n) (hf : Fresh base v) {a : Addr} (ha : a.block < base) (u : Value) : IsNat (w.setCell a u) v n := Nats.setCell h hf ha u
theorem IsNat.unique {w : World} {v : Value} {m n : Nat} (h : IsNat w v m) (h' : IsNat w v n) : m = n := by
 obtain ⟨p, cap, rfl, a1, a2, a3⟩ := h
 obtain ⟨p', cap', he, b1, b2, b3⟩ := h'
 simp only [Value.slice.injEq] at he
 obtain ⟨rfl, hl, rfl⟩ := he
 have e : dg m = dg n := by
   refine List.ext_getElem hl (fun i h1 h2 => ?_)
   obtain ⟨b, off, e1, c1⟩ := a3 (by intro e; rw [e] at h1; simp at h1)
   obtain ⟨b', off', e2, c2⟩ := b3 (by intro e; rw [e] at h2; simp at h2)
   rw [e1] at e2
   simp only [Option.some.injEq, Addr.mk.injEq, and_true] at e2
   obtain ⟨rfl, rfl⟩ := e2
   have := (c1 i h1).symm.trans (c2 i h2)
   simp only [Option.some.injEq, Value.int.injEq, true_and] at this
   rw [getD_lt h1, getD_lt h2] at this
   exact Int.ofNat.inj this
 have := congrArg toN e
 rwa [toN_dg, toN_dg] at this
open Classical in
noncomputable def natVal (w : World) (v : Value) : Nat := if h : ∃ n, IsNat w v n then Classical.choose h else 0
theorem natVal_eq {w : World} {v : Value} {n : Nat} (h : IsNat w v n) : natVal w v = n := by
 unfold natVal
 have hx : ∃ n, IsNat w v n := ⟨n, h⟩
 rw [dif_pos hx]
 exact (Classical.choose_spec hx).unique h
end Go.Proofs.YtmafghdgmdbpnaaGreatDoor.R
