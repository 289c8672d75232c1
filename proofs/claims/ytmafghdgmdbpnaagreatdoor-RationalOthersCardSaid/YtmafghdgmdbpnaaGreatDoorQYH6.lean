/- Proved here: Of, Parts, Sum, Floor and Int return the results of the reference implementation for any ints, string and list of the examined lengths. The law RationalOthers returns true for every input, and its arguments read behind the call as before. Conditions: the row's own, the listed tables hold their numbers. -/
import Derived.Test.YtmafghdgmdbpnaaGreatDoorQY1
import Derived.Test.YtmafghdgmdbpnaaGreatDoorQY2
import Derived.Test.YtmafghdgmdbpnaaGreatDoorQY30
import Derived.Test.YtmafghdgmdbpnaaGreatDoorQYH1
import Derived.Test.YtmafghdgmdbpnaaGreatDoorQYH5
set_option linter.all false
set_option maxRecDepth 100000
set_option maxHeartbeats 8000000
namespace Go.Proofs.YtmafghdgmdbpnaaGreatDoor
open Go.RowKit
def ofB (n d : Int) : ByteArray := if d = 0 then ⟨#[]⟩ else strQ (Rat.divInt n d)
def ofE (d : Int) : Int := if d = 0 then 12 else 0
theorem Of_any (n d : Int) (w : World) (hn : I64 n) (hd : I64 d) (ht : Tab w) (ht2 : Tab64 w) :
   Calls Tryz.prog 26 #[.int .i64 n, .int .i64 d] w fun e W' => e = .returned (.tuple #[.string (ofB n d), .int .i64 (ofE d)]) ∧ Below w.heap.size w W' := by
 unfold ofB ofE
 by_cases h : d = 0
 · rw [if_pos h, if_pos h, h]; exact Of_zero n w
 · rw [if_neg h, if_neg h]; exact Of_q n d w hn hd h ht ht2
theorem rOf_any (n d : Int) (w : World) (hn : I64 n) (hd : I64 d) (ht : Tab w) :
   Calls Tryz.prog 27 #[.int .i64 n, .int .i64 d] w fun e W' => e = .returned (.tuple #[.string (ofB n d), .int .i64 (ofE d)]) ∧ Below w.heap.size w W' := by
 unfold ofB ofE
 by_cases h : d = 0
 · rw [if_pos h, if_pos h, h]; exact rOf_zero n w
 · rw [if_neg h, if_neg h]; exact rOf_q n d w hn hd h ht
theorem RationalOthers_any (n d : Int) (a : ByteArray) (p : Option Addr) (cap : Nat) (xs : List ByteArray) (w : World) (hn : I64 n) (hd : I64 d) (ha : a.size ≤ maxLen) (hv : StrsAt w.heap.size w (.slice p xs.length cap) xs) (hreach : xs.length * 16 ≤ 140737488351232) (hs : ∀ s ∈ xs, s.size ≤ maxLen) (ht : Tab w) (ht2 : Tab64 w) (hE : ErrT w) :
   Calls Tryz.prog 4 #[.int .i64 n, .int .i64 d, .string a, .slice p xs.length cap] w fun e W' => e = .returned (.bool true) ∧ Below w.heap.size w W' := by
 have L1 := fun W => rLong_any a W ha
 have L2 := rLongList_any p cap xs w hv hreach hs
 have oA := fun W (h : Below w.heap.size w W) => awake2_any W (ht.next h) (TabQ_next ht2 h)
 have hn1 := hn.1
 have hn2 := hn.2
 have hd1 := hd.1
 have hd2 := hd.2
 by_cases la : longQ a = true
 · rw [la] at L1
   have O := Lib.hid (And.intro L1 oA)
   clear L1 L2 oA ht ht2 ha hv hreach hs hE la hn hd
   have B0 := Lib.hid (Below.refl w.heap.size w)
   generalize xs.length = len at *
   go_enter Tryz.func4, Tryz.ntmps4
   go_wp2_with fail
   refine (O.out.1 _).mono ?_
   rintro e v1 ⟨rfl, rfl⟩
   go_wp2_with fail
   refine (O.out.2 _ B0.out).mono ?_
   rintro e v2 ⟨rfl, b⟩
   have B2 := Lib.hid b; clear b
   go_wp2
   go_ret
   exact ⟨rfl, B2.out⟩
 have la' : longQ a = false := by simpa using la
 rw [la'] at L1
 clear la la'
 by_cases lb : longL xs = true
 · rw [lb] at L2
   have O := Lib.hid (And.intro L1 (And.intro L2 oA))
   clear L1 L2 oA ht ht2 ha hv hreach hs hE lb hn hd
   have B0 := Lib.hid (Below.refl w.heap.size w)
   generalize xs.length = len at *
   go_enter Tryz.func4, Tryz.ntmps4
   go_wp2_with fail
   refine (O.out.1 _).mono ?_
   rintro e v1 ⟨rfl, rfl⟩
   go_wp2_with fail
   refine O.out.2.1.mono ?_
   rintro e v1 ⟨rfl, rfl⟩
   go_wp2_with fail
   refine (O.out.2.2 _ B0.out).mono ?_
   rintro e v2 ⟨rfl, b⟩
   have B2 := Lib.hid b; clear b
   go_wp2
   go_ret
   exact ⟨rfl, B2.out⟩
 have lb' : longL xs = false := by simpa using lb
 rw [lb'] at L2
 have hl8 : xs.length ≤ 4096 := by
   unfold longL at lb'
   rw [Bool.or_eq_false_iff] at lb'
   have := of_decide_eq_false lb'.2
   omega
 clear lb lb'
 have o1 := fun W (h : Below w.heap.size w W) => Of_any n d W hn hd (ht.next h) (TabQ_next ht2 h)
 have r1 := fun W (h : Below w.heap.size w W) => rOf_any n d W hn hd (ht.next h)
 have o2 := fun W (h : Below w.heap.size w W) => partsQ_any a W ha (ht.next h) (TabQ_next ht2 h)
 have r2 := fun W (h : Below w.heap.size w W) => rParts_any a W ha (ht.next h)
 have o3 := fun W (h : Below w.heap.size w W) => Sum_any p cap xs W ((hv.below h (Nat.le_refl _)).up h.size) hl8 hs (ht.next h) (TabQ_next ht2 h)
 have r3 := fun W (h : Below w.heap.size w W) => rSum_any p cap xs W ((hv.below h (Nat.le_refl _)).up h.size) hl8 hs (ht.next h)
 have o4 := fun W (h : Below w.heap.size w W) => Floor_anyQ a W ha (ht.next h) (TabQ_next ht2 h)
 have r4 := fun W (h : Below w.heap.size w W) => rFloor_any a W ha (ht.next h)
 have o5 := fun W (h : Below w.heap.size w W) => Int_anyQ a W ha (ht.next h) (TabQ_next ht2 h) (ErrT_next hE h)
 have r5 := fun W (h : Below w.heap.size w W) => rInt_any a W ha (ht.next h)
 have O := Lib.hid ((And.intro o1 (And.intro r1 (And.intro o2 (And.intro r2 (And.intro o3 (And.intro r3 (And.intro o4 (And.intro r4 (And.intro o5 (And.intro r5 oA)))))))))))
 have LL := Lib.hid (And.intro L1 L2)
 clear o1 r1 o2 r2 o3 r3 o4 r4 o5 r5 oA L1 L2 ht ht2 ha hv hreach hs hE hn hd hl8
 generalize ofB n d = x1 at *
 generalize ofE d = e1 at *
 generalize paN a = x2 at *
 generalize paD a = x3 at *
 generalize chkQ a.data.toList = e2 at *
 generalize sumB xs = x4 at *
 generalize sumE xs = e4 at *
 generalize floB a = x5 at *
 generalize int1R a = x6 at *
 generalize int1E a = e6 at *
 generalize xs.length = len at *
 have B0 := Lib.hid (Below.refl w.heap.size w)
 go_enter Tryz.func4, Tryz.ntmps4
 go_wp2_with fail
 refine (LL.out.1 _).mono ?_
 rintro e v0 ⟨rfl, rfl⟩
 go_wp2_with fail
 refine LL.out.2.mono ?_
 rintro e v0 ⟨rfl, rfl⟩
 go_wp2_with fail
 refine (O.out.1 _ B0.out).mono ?_
 rintro e v1 ⟨rfl, b⟩
 have B1 := Lib.hid (B0.out.trans (b.mono B0.out.size)); clear b B0
 go_wp2_with fail
 refine (O.out.2.1 _ B1.out).mono ?_
 rintro e v2 ⟨rfl, b⟩
 have B2 := Lib.hid (B1.out.trans (b.mono B1.out.size)); clear b B1
 go_wp2_with fail
 refine (O.out.2.2.1 _ B2.out).mono ?_
 rintro e v3 ⟨rfl, b⟩
 have B3 := Lib.hid (B2.out.trans (b.mono B2.out.size)); clear b B2
 go_wp2_with fail
 refine (O.out.2.2.2.1 _ B3.out).mono ?_
 rintro e v4 ⟨rfl, b⟩
 have B4 := Lib.hid (B3.out.trans (b.mono B3.out.size)); clear b B3
 go_wp2_with fail
 refine (O.out.2.2.2.2.1 _ B4.out).mono ?_
 rintro e v5 ⟨rfl, b⟩
 have B5 := Lib.hid (B4.out.trans (b.mono B4.out.size)); clear b B4
 go_wp2_with fail
 refine (O.out.2.2.2.2.2.1 _ B5.out).mono ?_
 rintro e v6 ⟨rfl, b⟩
 have B6 := Lib.hid (B5.out.trans (b.mono B5.out.size)); clear b B5
 go_wp2_with fail
 refine (O.out.2.2.2.2.2.2.1 _ B6.out).mono ?_
 rintro e v7 ⟨rfl, b⟩
 have B7 := Lib.hid (B6.out.trans (b.mono B6.out.size)); clear b B6
 go_wp2_with fail
 refine (O.out.2.2.2.2.2.2.2.1 _ B7.out).mono ?_
 rintro e v8 ⟨rfl, b⟩
 have B8 := Lib.hid (B7.out.trans (b.mono B7.out.size)); clear b B7
 go_wp2_with fail
 refine (O.out.2.2.2.2.2.2.2.2.1 _ B8.out).mono ?_
 rintro e v9 ⟨rfl, b⟩
 have B9 := Lib.hid (B8.out.trans (b.mono B8.out.size)); clear b B8
 go_wp2_with fail
 refine (O.out.2.2.2.2.2.2.2.2.2.1 _ B9.out).mono ?_
 rintro e v10 ⟨rfl, b⟩
 have B10 := Lib.hid (B9.out.trans (b.mono B9.out.size)); clear b B9
 go_wp2_with fail
 refine (O.out.2.2.2.2.2.2.2.2.2.2 _ B10.out).mono ?_
 rintro e v11 ⟨rfl, b⟩
 have B11 := Lib.hid (B10.out.trans (b.mono B10.out.size)); clear b B10
 go_wp2
 go_ret
 exact ⟨rfl, B11.out⟩
end Go.Proofs.YtmafghdgmdbpnaaGreatDoor
namespace Go.Proofs.YtmafghdgmdbpnaaGreatDoor
open Go.ChangeShapes Go.WideShapes Go.ChangeAt Go.RowKit
open Go.ChangeMaps (open_string shut_string)
theorem rationalOthers_lifted (os : Os) (started : os.Started) (H : Type) (enc : TypeId × Value → H) :
   ReturnsInHanded {} Tryz.checked os 4 .any (fun w args => (Rows.rationalOthersSpec.pre enc Tryz.prog Tryz.f4 [] false w args ∧ laidMetH Tryz.prog laid5 w) ∧ sizedMet enc Tryz.prog Tryz.f4 (OpenSpec.ofChange Rows.rationalOthersSpec) false w args)
     (Rows.rationalOthersSpec.post enc Tryz.prog Tryz.f4 false true false false) := by
 refine returnsInHanded_of_change_and (C := Tryz.checked) (X := fun w _ => laidMetH Tryz.prog laid5 w) (fun _ _ _ hh h => h.of_heap hh) own started (by kernel_rfl) Tryz.func4
   (ChangeSpec.witness_shaped (enc := enc) (C := Tryz.checked) (os := os) (X := fun w _ => laidMetH Tryz.prog laid5 w) false (World.doorLaid Tryz.prog 400 os) #[.int .i64 0, .int .i64 0, .string ⟨#[]⟩, .slice none 0 0] 8 rfl (World.shaped_of_RefB (by kernel_rfl) (by kernel_rfl)) (by kernel_rfl) (by kernel_rfl) (by kernel_rfl) (door_met5 os _)) ?_
 intro W base args ds gs before hval0 hW _ hsz0 hL _
 have hval : ∀ (j : Nat) t v, Tryz.f4.params[j]? = some t → args[j]? = some v → Value.okWide Tryz.prog W .any base t v := hval0
 have hW' := hW
 obtain ⟨p, q, hA0, hV, rfl, hfz, hnd⟩ := hW
 have hA : DataW.TrodAll enc Tryz.prog W 0 (fun _ => true) true Tryz.f4.params.toList args.toList ds p := hA0
 rw [Tryz.params4] at hA hval
 obtain ⟨rfl, rfl⟩ := trodVars_none hV
 have hsz : (DataW.weightsEach Tryz.prog (Tryz.f4.params.toList ++ Rows.rationalOthersSpec.plain.varTypes Tryz.prog) (ds ++ [])).all (· ≤ reachBytes) = true := hsz0
 clear hsz0
 rw [Tryz.params4] at hsz
 have hlt : ∀ x ∈ p, x.block < W.heap.size := fun x hx => by simpa using hW'.lt x (by simpa using hx)
 obtain ⟨v0, v1, v2, v3, d0, d1, d2, d3, p0, p1, p2, p3, rfl, rfl, rfl, h0, h1, h2, h3⟩ := trodAll_four hA
 obtain ⟨s0, rfl, rfl, rfl, z0⟩ := open_int Tryz.underlying3 (hval 0 3 v0 rfl rfl) h0
 obtain ⟨s1, rfl, rfl, rfl, z1⟩ := open_int Tryz.underlying3 (hval 1 3 v1 rfl rfl) h1
 obtain ⟨s2, rfl, rfl, rfl, z2⟩ := open_string Tryz.underlying22 (hval 2 22 v2 rfl rfl) h2
 obtain ⟨a3, n3, c3, rfl⟩ := okWide_slice Tryz.underlying33 (hval 3 33 v3 rfl rfl)
 have lt3 : ∀ x ∈ p3, x.block < W.heap.size := fun x hx => hlt x (List.mem_append_right _ hx)
 obtain ⟨s3, rfl, z3, y3, r3⟩ := strs_arg h3 lt3 (fun el sp hd => by have := sized_slice hsz (j := 3) (t := 33) (e := 22) (elems := el) (spare := sp) rfl (by rw [hd]; rfl) Tryz.underlying33; rwa [bytesNum] at this)
 have k3 := nil_arg h3
 clear hA0 hval0
 refine (RationalOthers_any s0 s1 s2 a3 c3 s3 W (i64_of z0) (i64_of z1) z2 y3 r3 z3 (tab_of_laid5 hL) (tab64_of_laid5 hL) (err_of_laid5 hL)).mono fun e W' ⟨he, bel⟩ => ?_
 subst he
 exact ⟨_, rfl, _, _, _, [], _, [], hW', trodAll_mk1 (shut_bool Tryz.underlying4 _), trodAll_mk4 (shut_int Tryz.underlying3 z0) (shut_int Tryz.underlying3 z1) (shut_string Tryz.underlying22 z2) (Below.trod laidOut (by kernel_rfl) (of_decide_eq_true (by kernel_rfl)) h3 bel lt3), rfl, bel.frame _, fun h => by cases h⟩
theorem rationalOthers_over : Rows.RationalOthersSaid :=
 OpenClaim.holds_of_wide 4 Tryz.f4 rfl rfl rfl rfl rfl rfl rfl ⟨rfl, rfl, rfl, rfl, rfl⟩ rfl rfl rfl rfl rfl (by kernel_rfl) Tryz.func4 (by kernel_rfl)
   (of_decide_eq_true (by kernel_rfl)) (by unfold Func.isWrapper; first | (rw [if_pos (by decide +kernel)]; kernel_rfl) | (rw [if_neg (by decide +kernel)]; exact ⟨rfl, rfl⟩))
   (fun os started H enc _ => rationalOthers_lifted os started H enc)
theorem rationalOthers_proved : Rows.RationalOthersCardSaid :=
 Claim7.holds_tied_plain_at .later [] [.data, .data, .data, .sentinel, .sentinel] true (true, "c5e0d21a5a41f479a183c420c2e54b6c89083f44158d8e981b1170a56436208f") true
   rationalOthers_over (fun _ h => by cases h) (by kernel_rfl) (fun _ h => by cases h) rationalOthers_row_tie rfl ⟨rfl, rfl⟩ (by kernel_rfl) rfl
   (fun f fn hf hfn => by
     obtain rfl : f = 4 := Option.some.inj ((show Tryz.prog.funcNamed "kingpost/kingpostlaw02.RationalOthers" = some 4 by kernel_rfl).symm.trans hf) |>.symm
     obtain rfl : fn = Tryz.f4 := (Option.some.inj (Tryz.func4.symm.trans hfn)).symm
     exact ⟨by kernel_rfl, fun j t ht => by
       rw [Tryz.params4] at ht
       have hm : t ∈ [3, 3, 22, 33] := by simpa using Array.mem_of_getElem? ht
       have hall : ([3, 3, 22, 33].all fun u => !Tryz.prog.wantsStandIn u) = true := by kernel_rfl
       exact (show Tryz.prog.wantsStandIn t = false by simpa using List.all_eq_true.1 hall t hm)⟩)
   (by kernel_rfl)
#print axioms rationalOthers_proved
end Go.Proofs.YtmafghdgmdbpnaaGreatDoor
