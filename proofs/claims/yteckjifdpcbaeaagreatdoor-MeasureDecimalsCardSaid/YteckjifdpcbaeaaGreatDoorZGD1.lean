/- Parts of the proof of the text YteckjifdpcbaeaaGreatDoorZGD4. -/
import Derived.Test.YteckjifdpcbaeaaGreatDoorRows
import Derived.Test.YteckjifdpcbaeaaGreatDoorCards
import Derived.Test.YteckjifdpcbaeaaGreatDoorTie
import Derived.ProofKit
import Derived.LaidMore
import Derived.OpenShut
import Derived.Stop.Joined
import Derived.Stop.LaidErr
import Derived.SevenTiedAt
import Derived.Below
import Derived.Lay
import Derived.Test.YteckjifdpcbaeaaGreatDoorZG1
import Derived.Test.YteckjifdpcbaeaaGreatDoorZG11
import Derived.Test.YteckjifdpcbaeaaGreatDoorZG25
import Derived.Test.YteckjifdpcbaeaaGreatDoorZG3
import Derived.Test.YteckjifdpcbaeaaGreatDoorZG38
import Derived.Test.YteckjifdpcbaeaaGreatDoorZG8
set_option linter.all false
set_option maxRecDepth 100000
set_option maxHeartbeats 8000000
namespace Go.Proofs.YteckjifdpcbaeaaGreatDoor
open Go.ChangeShapes Go.WideShapes Go.ChangeAt Go.RowKit
theorem own:ownKnob Tryz.prog.godebug=none:=by kernel_rfl
theorem gTab64:Tryz.prog.globalNamed "math/bits.deBruijn64tab" = some 4:=by kernel_rfl
theorem laid64_tab:(Rows.laid_math_bits_deBruijn64tab:DataW Unit)=Lib.tabData .u8 (Lib.deBruijn64tab.map fun n:Nat=>(n:Int)):=rfl
theorem tab64_of {W:World} (h:Lib.TabIs Tryz.prog W "math/bits.deBruijn64tab" .u8 (Lib.deBruijn64tab.map fun n:Nat=>(n:Int))):Tab64 W:=by
 intro j hj
 unfold Lib.TabIs World.var? at h
 rw [gTab64] at h
 unfold World.cell?
 cases hh:W.heap[4]? with
 | none=>simp [hh] at h
 | some o =>
  cases o with
  | cells cs t f =>
   have h1:some cs=some ((Lib.deBruijn64tab.map fun n:Nat=>(n:Int)).map fun z=>Value.int .u8 z).toArray:=by
    rw [←h];simp only [Option.bind_some,hh]
   have h2:=Option.some.inj h1
   subst h2
   have hj':j<64:=hj
   simp only [List.map_map,List.getElem?_toArray,List.getElem?_map]
   rw [List.getD_eq_getElem?_getD,List.getElem?_eq_getElem hj]
   rfl
  | _=>simp [hh] at h
section
variable {H:Type} {enc:TypeId × Value→H} {P:Program} {w:World} {base:Nat} {spare:Nat→Bool} {held:Bool}
end
end Go.Proofs.YteckjifdpcbaeaaGreatDoor
namespace Go.Proofs.YteckjifdpcbaeaaGreatDoor.T
open Go.Proofs.YteckjifdpcbaeaaGreatDoor Go.ChangeShapes Go.WideShapes Go.ChangeAt Go.RowKit
def laid7:List (String × DataW Unit) := [("math/bits.deBruijn32tab", Rows.laid_math_bits_deBruijn32tab),("math/bits.deBruijn64tab", Rows.laid_math_bits_deBruijn64tab),("internal/strconv.uint64pow10", Rows.laid_internal_strconv_uint64pow10),("unicode/utf8.acceptRanges", Rows.laid_unicode_utf8_acceptRanges),("unicode/utf8.first", Rows.laid_unicode_utf8_first)]
theorem plain7 {W:World} (h:laidMetH Tryz.prog laid7 W):laidMet Tryz.prog laid7 W:=by
 rwa [MakeChecks.laidMetH_plain _ _ _ (by kernel_rfl)] at h
theorem tabM_of {W:World} (h:laidMetH Tryz.prog laid7 W):TabM W:=by
 have h1:=laidMet.tail (plain7 h)
 have h2:laidMet Tryz.prog (("internal/strconv.uint64pow10", Lib.tabData .u64 Lib.pow10Tab) :: [("unicode/utf8.acceptRanges", Rows.laid_unicode_utf8_acceptRanges),("unicode/utf8.first", Rows.laid_unicode_utf8_first)]) W:=laidMet.tail h1
 rw [laid64_tab] at h1
 exact ⟨Lib.tabIs_of_head gTab (t:=230) (e:=159) (n:=20) (by kernel_rfl) (by kernel_rfl) (by kernel_rfl) (by kernel_rfl) (by kernel_rfl) h2,
  tab64_of (Lib.tabIs_of_head gTab64 (t:=242) (e:=5) (n:=64) (by kernel_rfl) (by kernel_rfl) (by kernel_rfl) (by kernel_rfl) (by kernel_rfl) h1)⟩
theorem door_met7 (os:Os) (args:Array Value):laidMetH Tryz.prog laid7 ((World.laidAll Tryz.prog os laid7).forCall (fun _ _=>0) ⟨#[],args,[]⟩).memory:=by
 rw [MakeChecks.laidMetH_plain _ _ _ (by kernel_rfl)]
 exact laidMet_laidAll _ (by kernel_rfl) (by kernel_rfl)
end Go.Proofs.YteckjifdpcbaeaaGreatDoor.T
namespace Go.Proofs.YteckjifdpcbaeaaGreatDoor.T
open Go.Proofs.YteckjifdpcbaeaaGreatDoor Go Go.RowKit
theorem s_12m:strB 12=⟨#[49,50]⟩:=by decide+kernel
theorem div12 (m:Nat) (w:World) (h:m<tenTo 250) (T:TabM w) :
  Calls Tryz.prog 78 #[.string (bO (Lib.decDigits m)),.string ⟨#[49,50]⟩] w fun e W'=>e = .returned (.tuple #[.string (bO (Lib.decDigits (m / 12))),.string (bO (Lib.decDigits (m % 12))),.int .i64 0])∧Below w.heap.size w W':=by
 have c:=Divide_strs (m:Int) 12 w (by rw [Int.natAbs_natCast];exact Nat.lt_of_lt_of_le h (tenTo_mono (by decide))) (small_lim (by decide)) (by decide) T.1
 rw [Int.fdiv_eq_ediv_of_nonneg _ (by decide),Int.fmod_eq_emod_of_nonneg _ (by decide),s_12m,show (m:Int) / 12=((m / 12:Nat):Int) by omega,show (m:Int) % 12=((m % 12:Nat):Int) by omega,←strB_dec,←strB_dec,←strB_dec] at c
 exact c
theorem feet_q (z:Int) (w:World) (hz:Bd 250 z) (T:TabM w) :
  Calls Tryz.prog 40 #[.string (strB z)] w fun e W'=>e = .returned (.tuple #[.string (bO (ftT z)),.int .i64 0])∧Below w.heap.size w W':=by
 have hz':z.natAbs<tenTo 250:=hz
 have hq:z.natAbs / 12<tenTo 250:=Nat.lt_of_le_of_lt (Nat.div_le_self _ _) hz'
 have hf:z.natAbs / 144<tenTo 250:=Nat.lt_of_le_of_lt (Nat.div_le_self _ _) hz'
 have ef:z.natAbs / 12 / 12=z.natAbs / 144:=by rw [Nat.div_div_eq_div_mul]
 have l1:=dec_len (k:=250) (by decide) hf
 have l2:=dec_len (k:=2) (m:=z.natAbs / 12 % 12) (by decide) (by show _<100;omega)
 have l3:=dec_len (k:=2) (m:=z.natAbs % 12) (by decide) (by show _<100;omega)
 refine feet_core (strB z) (bO (Lib.decDigits z.natAbs)) (bO (Lib.decDigits (z.natAbs / 12))) (bO (Lib.decDigits (z.natAbs % 12))) (bO (Lib.decDigits (z.natAbs / 144))) (bO (Lib.decDigits (z.natAbs / 12 % 12))) _ (decide (z<0)) w (by rw [bO_size];omega) (by rw [bO_size];omega) (by rw [bO_size];omega) (fun W _ => ?_) (fun W hW=>div12 _ W hz' (T.next hW)) (fun W hW => ?_) (fun W _ => ?_)
 ·have c:=mprefix (strB z) W
  rwa [zB_str,neg_str] at c
 ·have c:=div12 _ W hq (T.next hW)
  rwa [ef] at c
 ·rw [show (⟨#[39]⟩:ByteArray)=bO [39] from rfl,show (⟨#[34]⟩:ByteArray)=bO [34] from rfl,bO_app,bO_app,bO_app,bO_app]
  have e:Lib.decDigits (z.natAbs / 144) ++ [39]++Lib.decDigits (z.natAbs / 12 % 12) ++ [34]++Lib.decDigits (z.natAbs % 12)=ftU z.natAbs:=by unfold ftU;simp
  rw [e]
  have c:=msigned (decide (z<0)) (bO (ftU z.natAbs)) W (by rw [bO_size];unfold ftU;rw [List.length_append,List.length_cons,List.length_append,List.length_cons];omega)
  rwa [sgB_bO (fun _ e=>by
   have:=congrArg List.length e
   unfold ftU at this
   rw [List.length_append,List.length_cons,List.length_append,List.length_cons,List.length_singleton] at this
   omega)] at c
theorem Feet_q (x:Rat) (w:World) (h:Bq 90 x) (T:TabM w) :
  Calls Tryz.prog 13 #[.string (strQ x)] w fun e W'=>e = .returned (.tuple #[.string (bO (ftT (nr (x / tw)))),.int .i64 0])∧Below w.heap.size w W':=by
 obtain ⟨a1,a2,a3⟩:=qdiv_ok h tw_bq (by decide) tw_ne
 obtain ⟨_,_,b3⟩:=half_add a3 (by decide)
 refine feetQ_core _ (strQ (x / tw)) _ _ 0 w (fun W hW=>check_q7 x W h (T.next hW)) (fun W hW => ?_) (fun W hW=>near_q _ W a3 (by decide) (T.next hW)) (fun W hW=>feet_q _ W ((nr_bd b3).up (by decide)) (T.next hW))
 have c:=Div_q x tw W (h.lim (by decide)) (tw_bq.lim (by decide)) tw_ne (T.next hW).1 (T.next hW).2
 rwa [a1,a2,tw_str] at c
theorem tidx0 (a b c:ByteArray) (W:World):(Instr.index 92 (.agg #[.string a,.string b,.string c]) (.int .i64 0)).run Tryz.prog W = .ok (.string a) W:=by kernel_rfl
theorem tidx1 (a b c:ByteArray) (W:World):(Instr.index 92 (.agg #[.string a,.string b,.string c]) (.int .i64 1)).run Tryz.prog W = .ok (.string b) W:=by kernel_rfl
theorem tidx2 (a b c:ByteArray) (W:World):(Instr.index 92 (.agg #[.string a,.string b,.string c]) (.int .i64 2)).run Tryz.prog W = .ok (.string c) W:=by kernel_rfl
theorem twe_core (s z rest m t:ByteArray) (g h1 h2:Bool) (N P:Nat→ByteArray) (Q:Nat→ByteArray) (w:World) (hN:N 0=⟨#[48]⟩)
   (c1:∀ W,Below w.heap.size w W→Calls Tryz.prog 31 #[.string s,.string ⟨#[45]⟩] W fun e W'=>e = .returned (.tuple #[.string z,.bool g])∧Below W.heap.size W W')
   (c2:∀ W,Below w.heap.size w W→Calls Tryz.prog 29 #[.string z,.string ⟨#[39]⟩] W fun e W'=>e = .returned (.tuple #[.string (P 0),.string rest,.bool h1])∧Below W.heap.size W W')
   (c3:∀ W,Below w.heap.size w W→Calls Tryz.prog 29 #[.string rest,.string ⟨#[34]⟩] W fun e W'=>e = .returned (.tuple #[.string (P 1),.string (P 2),.bool h2])∧Below W.heap.size W W')
   (c4:∀ j,j<3→∀ W,Below w.heap.size w W→Calls Tryz.prog 82 #[.string (N j),.string ⟨#[49,50]⟩] W fun e W'=>e = .returned (.tuple #[.string (Q j),.int .i64 0])∧Below W.heap.size W W')
   (c5:∀ j,j<3→∀ W,Below w.heap.size w W→Calls Tryz.prog 48 #[.string (P j),.func (.func 67) #[] #[]] W fun e W'=>e = .returned (.bool true)∧Below W.heap.size W W')
   (c6:∀ j,j<3→∀ W,Below w.heap.size w W→Calls Tryz.prog 83 #[.string (Q j),.string (P j)] W fun e W'=>e = .returned (.tuple #[.string (N (j+1)),.int .i64 0])∧Below W.heap.size W W')
   (c7:∀ W,Below w.heap.size w W→Calls Tryz.prog 34 #[.string (N 3),.bool g] W fun e W'=>e = .returned (.string m)∧Below W.heap.size W W')
   (c8:∀ W,Below w.heap.size w W→Calls Tryz.prog 40 #[.string m] W fun e W'=>e = .returned (.tuple #[.string t,.int .i64 0])∧Below W.heap.size W W') :
   Calls Tryz.prog 44 #[.string s] w fun e W'=>e = .returned (.tuple #[.string m,.bool (t.toList==s.toList)])∧Below w.heap.size w W':=by
 have O:=Lib.hid (And.intro c1 (And.intro c2 (And.intro c3 (And.intro c4 (And.intro c5 (And.intro c6 (And.intro c7 c8)))))));clear c1 c2 c3 c4 c5 c6 c7 c8
 have HN0:=Lib.hid hN;clear hN
 have ix0:=tidx0
 have ix1:=tidx1
 have ix2:=tidx2
 go_enter Tryz.func44,Tryz.ntmps44
 have HB:=Lib.hid (Below.refl w.heap.size w)
 go_wp2_with fail
 refine (O.out.1 _ HB.out).mono ?_
 rintro e w1 ⟨rfl,b⟩
 have HN:=Lib.hid (HB.out.trans (b.mono HB.out.size));clear HB b;have HB:=HN;clear HN
 go_wp2_with fail
 refine (O.out.2.1 _ HB.out).mono ?_
 rintro e w2 ⟨rfl,b⟩
 have HN:=Lib.hid (HB.out.trans (b.mono HB.out.size));clear HB b;have HB:=HN;clear HN
 go_wp2_with fail
 refine (O.out.2.2.1 _ HB.out).mono ?_
 rintro e w3 ⟨rfl,b⟩
 have HN:=Lib.hid (HB.out.trans (b.mono HB.out.size));clear HB b;have HB:=HN;clear HN
 go_wp2
 go_loopw [12,40] (fun x i wr=>∃ j:Nat,x = .string (N j)∧i = .int .i64 j∧j≤3∧Hid (Below w.heap.size w wr)) (fun _ i _=>3 - (intOf i).toNat)
 case atStart=>exact ⟨0,by rw [HN0.out],rfl,by omega,HB⟩
 case round =>
   clear HB
   obtain ⟨j,rfl,rfl,hj,HB⟩:=hrel
   by_cases hlt:j<3
   · have X:=Lib.hid (And.intro (O.out.2.2.2.1 j hlt) (And.intro (O.out.2.2.2.2.1 j hlt) (O.out.2.2.2.2.2.1 j hlt)))
     have hjj:j=0∨j=1∨j=2:=by omega
     clear hlt hj
     rcases hjj with rfl | rfl | rfl <;>
     (go_wp2_with fail
      refine (X.out.1 _ HB.out).mono ?_
      rintro e w4 ⟨rfl,b⟩
      have HN:=Lib.hid (HB.out.trans (b.mono HB.out.size));clear HB b;have HB:=HN;clear HN
      go_wp2_with fail
      refine (X.out.2.1 _ HB.out).mono ?_
      rintro e w5 ⟨rfl,b⟩
      have HN:=Lib.hid (HB.out.trans (b.mono HB.out.size));clear HB b;have HB:=HN;clear HN
      go_wp2_with fail
      refine (X.out.2.2 _ HB.out).mono ?_
      rintro e w6 ⟨rfl,b⟩
      have HN:=Lib.hid (HB.out.trans (b.mono HB.out.size));clear HB b;have HB:=HN;clear HN
      go_wp2
      go_roundw
      case rel=>exact ⟨_,rfl,rfl,by decide,HB⟩
      case measure=>simp [intOf])
   · obtain rfl:j=3:=by omega
     clear hlt hj
     go_wp2_with fail
     refine (O.out.2.2.2.2.2.2.1 _ HB.out).mono ?_
     rintro e w4 ⟨rfl,b⟩
     have HN:=Lib.hid (HB.out.trans (b.mono HB.out.size));clear HB b;have HB:=HN;clear HN
     go_wp2_with fail
     refine (O.out.2.2.2.2.2.2.2 _ HB.out).mono ?_
     rintro e w5 ⟨rfl,b⟩
     have HN:=Lib.hid (HB.out.trans (b.mono HB.out.size));clear HB b;have HB:=HN;clear HN
     go_wp2
     go_ret2
     exact ⟨rfl,HB.out⟩
def tN (m:Nat):Nat→Nat
 | 0=>0
 | 1=>m / 144
 | 2=>m / 12
 | _=>m
def tP (m:Nat):Nat→Nat
 | 0=>m / 144
 | 1=>m / 12 % 12
 | _=>m % 12
theorem tN_le (m j:Nat):tN m j≤m:=by
 unfold tN;split <;> omega
theorem tN_step (m j:Nat) (h:j<3):tN m j*12+tP m j=tN m (j+1):=by
 have hj:j=0∨j=1∨j=2:=by omega
 rcases hj with rfl | rfl | rfl
 ·show 0*12+m / 144=m / 144;omega
 ·show m / 144*12+m / 12 % 12=m / 12;omega
 ·show m / 12*12+m % 12=m;omega
theorem ftT_len {z:Int} (h:Bd 80 z):(ftT z).length≤90:=by
 have h':z.natAbs<tenTo 80:=h
 have l1:=dec_len (k:=80) (m:=z.natAbs / 144) (by decide) (Nat.lt_of_le_of_lt (Nat.div_le_self _ _) h')
 have l2:=dec_len (k:=2) (m:=z.natAbs / 12 % 12) (by decide) (by show _<100;omega)
 have l3:=dec_len (k:=2) (m:=z.natAbs % 12) (by decide) (by show _<100;omega)
 unfold ftT ftU sg
 split <;> simp only [List.length_cons,List.length_append] <;> omega
theorem twe_q (z:Int) (w:World) (hz:Bd 80 z) (T:TabM w) :
  Calls Tryz.prog 44 #[.string (bO (ftT z))] w fun e W'=>e = .returned (.tuple #[.string (strB z),.bool true])∧Below w.heap.size w W':=by
 have hz':z.natAbs<tenTo 80:=hz
 have hlen:=ftT_len hz
 obtain ⟨n1,n2⟩:=sg_neg (b:=decide (z<0)) (ftU_neg z.natAbs)
 obtain ⟨u1,u2,u3⟩:=ftU_cut z.natAbs
 have lu:(ftU z.natAbs).length≤90:=by rw [←n2];exact Nat.le_trans (szL_len _) hlen
 have big:∀ k,k≤z.natAbs*12+12→((k:Nat):Int).natAbs<lim:=fun k hk=>by
  rw [Int.natAbs_natCast]
  have e:tenTo 83=tenTo 80*1000:=by unfold tenTo;rw [show 83=80+3 from rfl,Nat.pow_add]
  have h1:k<tenTo 83:=by rw [e];omega
  exact Nat.lt_of_lt_of_le h1 (tenTo_mono (by decide))
 have P0:∀ j,j<3→∀ c∈Lib.decDigits (tP z.natAbs j),isDig c=true:=fun j _=>decDigits_dig _
 have hP:∀ j,j<3→tP z.natAbs j≤z.natAbs:=fun j hj=>by
  have:=tN_step z.natAbs j hj
  have:=tN_le z.natAbs (j+1)
  omega
 have c:=twe_core (bO (ftT z)) (bO (ftU z.natAbs)) (bO (kB 39 (ftU z.natAbs))) (strB z) (bO (ftT z)) (decide (z<0)) (kH 39 (ftU z.natAbs)) (kH 34 (kB 39 (ftU z.natAbs))) (fun j=>strB ((tN z.natAbs j:Nat):Int)) (fun j=>strB ((tP z.natAbs j:Nat):Int)) (fun j=>strB ((tN z.natAbs j*12:Nat):Int)) w (by show strB 0=_;decide+kernel)
  (fun W _ => ?_) (fun W _ => ?_) (fun W _ => ?_) (fun j hj W hW => ?_) (fun j hj W hW => ?_) (fun j hj W hW => ?_) (fun W hW => ?_) (fun W hW=>feet_q z W (hz.up (by decide)) (T.next hW))
 ·rwa [beq_self_eq_true] at c
 ·have c:=mprefix (bO (ftT z)) W
  unfold zB at c
  rw [bO_data] at c
  unfold ftT at c ⊢
  rwa [n1,n2] at c
 ·have c:=mcut 39 (bO (ftU z.natAbs)) W (by rw [bO_size];omega)
  unfold k1 k2 at c
  rw [bO_data,u1] at c
  rw [strB_dec] at c
  exact c
 ·have c:=mcut 34 (bO (kB 39 (ftU z.natAbs))) W (by rw [bO_size];have:=(k_len 39 (ftU z.natAbs)).2;omega)
  unfold k1 k2 at c
  rw [bO_data,u2,u3,strB_dec,strB_dec] at c
  exact c
 ·have c:=Mul_str ((tN z.natAbs j:Nat):Int) 12 W (big _ (by have:=tN_le z.natAbs j;omega)) (small_lim (by decide)) (by
   have:=big (tN z.natAbs j*12) (by have:=tN_le z.natAbs j;omega)
   rwa [Int.natCast_mul] at this) (T.next hW).1
  rw [s_12m] at c
  rw [Int.natCast_mul]
  exact c
 ·have c:=mcons (strB ((tP z.natAbs j:Nat):Int)) W (by
   rw [←strB_dec,bO_size]
   have:=dec_len (k:=80) (m:=tP z.natAbs j) (by decide) (Nat.lt_of_le_of_lt (hP j hj) hz')
   omega)
  rwa [←strB_dec,bO_data,dgs_of (decDigits_dig _) (decDigits_ne _)] at c
 ·have e:=tN_step z.natAbs j hj
  have c:=Add_str ((tN z.natAbs j*12:Nat):Int) ((tP z.natAbs j:Nat):Int) W (big _ (by have:=tN_le z.natAbs j;omega)) (big _ (by have:=hP j hj;omega)) (by
   rw [←Int.natCast_add,e];exact big _ (by have:=tN_le z.natAbs (j+1);omega)) (T.next hW).1
  rwa [←Int.natCast_add,e] at c
 ·have c:=msigned (decide (z<0)) (bO (Lib.decDigits z.natAbs)) W (by rw [bO_size];have:=dec_len (k:=80) (by decide) hz';omega)
  rwa [sgB_str,sign_abs,strB_dec] at c
theorem pfeet_q (z:Int) (w:World) (hz:Bd 80 z) (T:TabM w) :
  Calls Tryz.prog 15 #[.string (bO (ftT z))] w fun e W'=>e = .returned (.tuple #[.string (strQ ((z:Rat)*tw)),.int .i64 0])∧Below w.heap.size w W':=by
 have hq:=Bq_int (by decide:1≤80) hz
 obtain ⟨a1,a2,_⟩:=qmul_ok hq tw_bq (by decide)
 refine pfeet_core (bO (ftT z)) (strB z) _ 0 w (by rw [bO_size];have:=ftT_len hz;omega) (fun W hW=>twe_q z W hz (T.next hW)) (fun W hW => ?_)
 have c:=Mul_q (z:Rat) tw W (hq.lim (by decide)) (tw_bq.lim (by decide)) (T.next hW).1 (T.next hW).2
 rwa [a1,a2,tw_str,strQ_int] at c
end Go.Proofs.YteckjifdpcbaeaaGreatDoor.T
namespace Go.Proofs.YteckjifdpcbaeaaGreatDoor.T
open Go.Proofs.YteckjifdpcbaeaaGreatDoor Go Go.RowKit
theorem mx4m (W:World):(Builtin.max_ #[25,25,25,25] 25 #[.int .i64 0,.int .i64 0,.int .i64 0,.int .i64 0]).run Tryz.prog W = .ok (.int .i64 0) W:=by kernel_rfl
theorem awake7_core  (w:World)
  (h1:∀ W,Below w.heap.size w W→Calls Tryz.prog 7 #[.string ⟨#[53,47,50]⟩,.int .i64 0] W fun e W'=>e = .returned (.tuple #[.string ⟨#[51]⟩,.int .i64 0])∧Below W.heap.size W W')
  (h2:∀ W,Below w.heap.size w W→Calls Tryz.prog 7 #[.string ⟨#[45,53,47,50]⟩,.int .i64 0] W fun e W'=>e = .returned (.tuple #[.string ⟨#[45,50]⟩,.int .i64 0])∧Below W.heap.size W W')
  (h3:∀ W,Below w.heap.size w W→Calls Tryz.prog 7 #[.string ⟨#[49,47,51]⟩,.int .i64 2] W fun e W'=>e = .returned (.tuple #[.string ⟨#[48,46,51,51]⟩,.int .i64 0])∧Below W.heap.size W W')
  (h4:∀ W,Below w.heap.size w W→Calls Tryz.prog 13 #[.string ⟨#[49,48,48,48]⟩] W fun e W'=>e = .returned (.tuple #[.string ⟨#[51,39,51,34,52]⟩,.int .i64 0])∧Below W.heap.size W W')
  (h5:∀ W,Below w.heap.size w W→Calls Tryz.prog 15 #[.string ⟨#[48,39,49,34,48]⟩] W fun e W'=>e = .returned (.tuple #[.string ⟨#[49,50,55,47,53]⟩,.int .i64 0])∧Below W.heap.size W W')
  : Calls Tryz.prog 6 #[] w fun e W'=>e = .returned (.bool true)∧Below w.heap.size w W':=by
 have O:=Lib.hid (And.intro h1 (And.intro h2 (And.intro h3 (And.intro h4 (h5)))));clear h1 h2 h3 h4 h5
 have hm4:=mx4m
 go_enter Tryz.func6,Tryz.ntmps6
 have HB:=Lib.hid (Below.refl w.heap.size w)
 go_wp2_with fail
 refine (O.out.1 _ HB.out).mono ?_
 rintro e w1 ⟨rfl,b⟩
 have HN:=Lib.hid (HB.out.trans (b.mono HB.out.size));clear HB b;have HB:=HN;clear HN
 go_wp2_with fail
 refine (O.out.2.1 _ HB.out).mono ?_
 rintro e w2 ⟨rfl,b⟩
 have HN:=Lib.hid (HB.out.trans (b.mono HB.out.size));clear HB b;have HB:=HN;clear HN
 go_wp2_with fail
 refine (O.out.2.2.1 _ HB.out).mono ?_
 rintro e w3 ⟨rfl,b⟩
 have HN:=Lib.hid (HB.out.trans (b.mono HB.out.size));clear HB b;have HB:=HN;clear HN
 go_wp2_with fail
 refine (O.out.2.2.2.1 _ HB.out).mono ?_
 rintro e w4 ⟨rfl,b⟩
 have HN:=Lib.hid (HB.out.trans (b.mono HB.out.size));clear HB b;have HB:=HN;clear HN
 go_wp2_with fail
 refine (O.out.2.2.2.2 _ HB.out).mono ?_
 rintro e w5 ⟨rfl,b⟩
 have HN:=Lib.hid (HB.out.trans (b.mono HB.out.size));clear HB b;have HB:=HN;clear HN
 go_wp2
 go_ret
 exact ⟨rfl,HB.out⟩
theorem awake7_any (w:World) (T:TabM w):Calls Tryz.prog 6 #[] w fun e W'=>e = .returned (.bool true)∧Below w.heap.size w W':=by
 have b1:Bq 90 (mkRat 5 2):=by constructor <;> decide+kernel
 have b2:Bq 90 (mkRat (-5) 2):=by constructor <;> decide+kernel
 have b3:Bq 90 (mkRat 1 3):=by constructor <;> decide+kernel
 have b4:Bq 90 1000:=by constructor <;> decide+kernel
 refine awake7_core w (fun W hW => ?_) (fun W hW => ?_) (fun W hW => ?_) (fun W hW => ?_) (fun W hW => ?_)
 ·have c:=print_q (mkRat 5 2) 0 W b1 (by decide) (T.next hW)
  rwa [show strQ (mkRat 5 2)=⟨#[53,47,50]⟩ by decide+kernel,show nr (mkRat 5 2*pw 0)=3 by decide+kernel,show bO (decT 0 3)=⟨#[51]⟩ by decide+kernel] at c
 ·have c:=print_q (mkRat (-5) 2) 0 W b2 (by decide) (T.next hW)
  rwa [show strQ (mkRat (-5) 2)=⟨#[45,53,47,50]⟩ by decide+kernel,show nr (mkRat (-5) 2*pw 0) = -2 by decide+kernel,show bO (decT 0 (-2))=⟨#[45,50]⟩ by decide+kernel] at c
 ·have c:=print_q (mkRat 1 3) 2 W b3 (by decide) (T.next hW)
  rwa [show strQ (mkRat 1 3)=⟨#[49,47,51]⟩ by decide+kernel,show nr (mkRat 1 3*pw 2)=33 by decide+kernel,show bO (decT 2 33)=⟨#[48,46,51,51]⟩ by decide+kernel] at c
 ·have c:=Feet_q 1000 W b4 (T.next hW)
  rwa [show strQ 1000=⟨#[49,48,48,48]⟩ by decide+kernel,show nr (1000 / tw)=472 by decide+kernel,show bO (ftT 472)=⟨#[51,39,51,34,52]⟩ by decide+kernel] at c
 ·have c:=pfeet_q 12 W (by show Int.natAbs 12<tenTo 80;exact Nat.lt_of_lt_of_le (show 12<tenTo 2 by decide) (tenTo_mono (by decide))) (T.next hW)
  rwa [show bO (ftT 12)=⟨#[48,39,49,34,48]⟩ by decide+kernel,show strQ (((12:Int):Rat)*tw)=⟨#[49,50,55,47,53]⟩ by decide+kernel] at c
end Go.Proofs.YteckjifdpcbaeaaGreatDoor.T
namespace Go.Proofs.YteckjifdpcbaeaaGreatDoor.T
open Go.Proofs.YteckjifdpcbaeaaGreatDoor Go Go.RowKit
theorem rPrint_err (a:ByteArray) (q E:Int) (w:World) (e0:(E==0)=false) (e1:(E != 0)=true)
  (h1:∀ W,Below w.heap.size w W→Calls Tryz.prog 22 #[.string a] W fun e W'=>e = .returned (.int .i64 E)∧Below W.heap.size W W')
  : Calls Tryz.prog 8 #[.string a,.int .i64 q] w fun e W'=>e = .returned (.tuple #[.string ⟨#[]⟩,.int .i64 E])∧Below w.heap.size w W':=by
 have O:=Lib.hid (h1);clear h1
 go_enter Tryz.func8,Tryz.ntmps8
 have HB:=Lib.hid (Below.refl w.heap.size w)
 go_wp2_with fail
 refine (O.out _ HB.out).mono ?_
 rintro e w1 ⟨rfl,b⟩
 have HN:=Lib.hid (HB.out.trans (b.mono HB.out.size));clear HB b;have HB:=HN;clear HN
 go_wp2
 go_ret2
 exact ⟨rfl,HB.out⟩
theorem rPrint_rng1 (a:ByteArray) (q:Int) (w:World) (q1:q<0)
  (h1:∀ W,Below w.heap.size w W→Calls Tryz.prog 22 #[.string a] W fun e W'=>e = .returned (.int .i64 0)∧Below W.heap.size W W')
  : Calls Tryz.prog 8 #[.string a,.int .i64 q] w fun e W'=>e = .returned (.tuple #[.string ⟨#[]⟩,.int .i64 2])∧Below w.heap.size w W':=by
 have O:=Lib.hid (h1);clear h1
 go_enter Tryz.func8,Tryz.ntmps8
 have HB:=Lib.hid (Below.refl w.heap.size w)
 go_wp2_with fail
 refine (O.out _ HB.out).mono ?_
 rintro e w1 ⟨rfl,b⟩
 have HN:=Lib.hid (HB.out.trans (b.mono HB.out.size));clear HB b;have HB:=HN;clear HN
 go_wp2
 go_ret2
 exact ⟨rfl,HB.out⟩
theorem rPrint_rng2 (a:ByteArray) (q:Int) (w:World) (q1:¬ q<0) (q2:100<q)
  (h1:∀ W,Below w.heap.size w W→Calls Tryz.prog 22 #[.string a] W fun e W'=>e = .returned (.int .i64 0)∧Below W.heap.size W W')
  : Calls Tryz.prog 8 #[.string a,.int .i64 q] w fun e W'=>e = .returned (.tuple #[.string ⟨#[]⟩,.int .i64 2])∧Below w.heap.size w W':=by
 have O:=Lib.hid (h1);clear h1
 go_enter Tryz.func8,Tryz.ntmps8
 have HB:=Lib.hid (Below.refl w.heap.size w)
 go_wp2_with fail
 refine (O.out _ HB.out).mono ?_
 rintro e w1 ⟨rfl,b⟩
 have HN:=Lib.hid (HB.out.trans (b.mono HB.out.size));clear HB b;have HB:=HN;clear HN
 go_wp2
 go_ret2
 exact ⟨rfl,HB.out⟩
theorem rPrint_bad (a:ByteArray) (q:Int) (w:World) (ha:a.size≤maxLen) (h:plV a.data.toList q≠0) (T:TabM w) :
  Calls Tryz.prog 8 #[.string a,.int .i64 q] w fun e W'=>e = .returned (.tuple #[.string ⟨#[]⟩,.int .i64 (plV a.data.toList q)])∧Below w.heap.size w W':=by
 have kc:=fun W (hW:Below w.heap.size w W)=>rchk7 a W ha (T.next hW)
 unfold plV at h ⊢
 by_cases h1:ckV a.data.toList=0
 ·rw [if_pos h1] at h ⊢
  rw [h1] at kc
  by_cases h2:0≤q∧q≤100
  ·rw [if_pos h2] at h;exact absurd rfl h
  ·rw [if_neg h2]
   by_cases h3:q<0
   ·exact rPrint_rng1 a q w h3 kc
   ·exact rPrint_rng2 a q w h3 (by omega) kc
 ·rw [if_neg h1] at h ⊢
  obtain ⟨e0,e1⟩:=bool_ne h1
  exact rPrint_err a q _ w e0 e1 kc
theorem rExact_err (a:ByteArray) (q E:Int) (w:World) (e0:(E==0)=false) (e1:(E != 0)=true)
  (h1:∀ W,Below w.heap.size w W→Calls Tryz.prog 22 #[.string a] W fun e W'=>e = .returned (.int .i64 E)∧Below W.heap.size W W')
  : Calls Tryz.prog 10 #[.string a,.int .i64 q] w fun e W'=>e = .returned (.tuple #[.bool false,.int .i64 E])∧Below w.heap.size w W':=by
 have O:=Lib.hid (h1);clear h1
 go_enter Tryz.func10,Tryz.ntmps10
 have HB:=Lib.hid (Below.refl w.heap.size w)
 go_wp2_with fail
 refine (O.out _ HB.out).mono ?_
 rintro e w1 ⟨rfl,b⟩
 have HN:=Lib.hid (HB.out.trans (b.mono HB.out.size));clear HB b;have HB:=HN;clear HN
 go_wp2
 go_ret2
 exact ⟨rfl,HB.out⟩
theorem rExact_rng1 (a:ByteArray) (q:Int) (w:World) (q1:q<0)
  (h1:∀ W,Below w.heap.size w W→Calls Tryz.prog 22 #[.string a] W fun e W'=>e = .returned (.int .i64 0)∧Below W.heap.size W W')
  : Calls Tryz.prog 10 #[.string a,.int .i64 q] w fun e W'=>e = .returned (.tuple #[.bool false,.int .i64 2])∧Below w.heap.size w W':=by
 have O:=Lib.hid (h1);clear h1
 go_enter Tryz.func10,Tryz.ntmps10
 have HB:=Lib.hid (Below.refl w.heap.size w)
 go_wp2_with fail
 refine (O.out _ HB.out).mono ?_
 rintro e w1 ⟨rfl,b⟩
 have HN:=Lib.hid (HB.out.trans (b.mono HB.out.size));clear HB b;have HB:=HN;clear HN
 go_wp2
 go_ret2
 exact ⟨rfl,HB.out⟩
theorem rExact_rng2 (a:ByteArray) (q:Int) (w:World) (q1:¬ q<0) (q2:100<q)
  (h1:∀ W,Below w.heap.size w W→Calls Tryz.prog 22 #[.string a] W fun e W'=>e = .returned (.int .i64 0)∧Below W.heap.size W W')
  : Calls Tryz.prog 10 #[.string a,.int .i64 q] w fun e W'=>e = .returned (.tuple #[.bool false,.int .i64 2])∧Below w.heap.size w W':=by
 have O:=Lib.hid (h1);clear h1
 go_enter Tryz.func10,Tryz.ntmps10
 have HB:=Lib.hid (Below.refl w.heap.size w)
 go_wp2_with fail
 refine (O.out _ HB.out).mono ?_
 rintro e w1 ⟨rfl,b⟩
 have HN:=Lib.hid (HB.out.trans (b.mono HB.out.size));clear HB b;have HB:=HN;clear HN
 go_wp2
 go_ret2
 exact ⟨rfl,HB.out⟩
theorem rExact_bad (a:ByteArray) (q:Int) (w:World) (ha:a.size≤maxLen) (h:plV a.data.toList q≠0) (T:TabM w) :
  Calls Tryz.prog 10 #[.string a,.int .i64 q] w fun e W'=>e = .returned (.tuple #[.bool false,.int .i64 (plV a.data.toList q)])∧Below w.heap.size w W':=by
 have kc:=fun W (hW:Below w.heap.size w W)=>rchk7 a W ha (T.next hW)
 unfold plV at h ⊢
 by_cases h1:ckV a.data.toList=0
 ·rw [if_pos h1] at h ⊢
  rw [h1] at kc
  by_cases h2:0≤q∧q≤100
  ·rw [if_pos h2] at h;exact absurd rfl h
  ·rw [if_neg h2]
   by_cases h3:q<0
   ·exact rExact_rng1 a q w h3 kc
   ·exact rExact_rng2 a q w h3 (by omega) kc
 ·rw [if_neg h1] at h ⊢
  obtain ⟨e0,e1⟩:=bool_ne h1
  exact rExact_err a q _ w e0 e1 kc
theorem rExact_core (a t y n:ByteArray) (p:Nat) (F:Int) (w:World) (p1:¬ (p:Int)<0) (p2:¬ (100:Int)<p)
  (h1:∀ W,Below w.heap.size w W→Calls Tryz.prog 22 #[.string a] W fun e W'=>e = .returned (.int .i64 0)∧Below W.heap.size W W')
  (h2:∀ W,Below w.heap.size w W→Calls Tryz.prog 28 #[.int .i64 p] W fun e W'=>e = .returned (.string t)∧Below W.heap.size W W')
  (h3:∀ W,Below w.heap.size w W→Calls Tryz.prog 27 #[.string a,.string t] W fun e W'=>e = .returned (.string y)∧Below W.heap.size W W')
  (h4:∀ W,Below w.heap.size w W→Calls Tryz.prog 30 #[.string y] W fun e W'=>e = .returned (.tuple #[.string n,.int .i64 F])∧Below W.heap.size W W')
  : Calls Tryz.prog 10 #[.string a,.int .i64 p] w fun e W'=>e = .returned (.tuple #[.bool (y.toList==n.toList),.int .i64 0])∧Below w.heap.size w W':=by
 have O:=Lib.hid (And.intro h1 (And.intro h2 (And.intro h3 (h4))));clear h1 h2 h3 h4
 go_enter Tryz.func10,Tryz.ntmps10
 have HB:=Lib.hid (Below.refl w.heap.size w)
 go_wp2_with fail
 refine (O.out.1 _ HB.out).mono ?_
 rintro e w1 ⟨rfl,b⟩
 have HN:=Lib.hid (HB.out.trans (b.mono HB.out.size));clear HB b;have HB:=HN;clear HN
 go_wp2_with fail
 refine (O.out.2.1 _ HB.out).mono ?_
 rintro e w2 ⟨rfl,b⟩
 have HN:=Lib.hid (HB.out.trans (b.mono HB.out.size));clear HB b;have HB:=HN;clear HN
 go_wp2_with fail
 refine (O.out.2.2.1 _ HB.out).mono ?_
 rintro e w3 ⟨rfl,b⟩
 have HN:=Lib.hid (HB.out.trans (b.mono HB.out.size));clear HB b;have HB:=HN;clear HN
 go_wp2_with fail
 refine (O.out.2.2.2 _ HB.out).mono ?_
 rintro e w4 ⟨rfl,b⟩
 have HN:=Lib.hid (HB.out.trans (b.mono HB.out.size));clear HB b;have HB:=HN;clear HN
 go_wp2
 go_ret2
 exact ⟨rfl,HB.out⟩
theorem rExact_q (x:Rat) (n:Nat) (w:World) (h:Bq 90 x) (hn:n≤100) (T:TabM w) :
  Calls Tryz.prog 10 #[.string (strQ x),.int .i64 n] w fun e W'=>e = .returned (.tuple #[.bool (decide ((x*pw n).den=1)),.int .i64 0])∧Below w.heap.size w W':=by
 obtain ⟨_,_,a3⟩:=qmul_ok h (pw_bq n) (by omega)
 have sx:Sq x:=h.lim (by decide)
 have sa:Sq (x*pw n):=a3.lim (by omega)
 have c0:ckV (strQ x).data.toList=0:=by
  unfold ckV
  rw [if_pos sx.chk,show ratOf (strQ x).data.toList=x from strQ_rat x,if_pos ⟨h.num,h.den⟩]
 have c:=rExact_core (strQ x) (strQ (pw n)) (strQ (x*pw n)) (strB ((x*pw n).num.fdiv (x*pw n).den)) n 0 w (by omega) (by omega) (fun W hW=>by
   have k:=rchk7 (strQ x) W sx.size (T.next hW)
   rwa [c0] at k) (fun W _=>rpw n W (by omega)) (fun W hW=>rprod x (pw n) W h (pw_bq n) (by omega) (T.next hW)) (fun W hW=>by
   have k:=rFloor_any (strQ (x*pw n)) W sa.size (T.next hW).1
   unfold floB at k
   rwa [if_pos sa.chk,sa.chk,show rat (strQ (x*pw n))=x*pw n from strQ_rat _] at k)
 have e:((strQ (x*pw n)).toList==(strB ((x*pw n).num.fdiv (x*pw n).den)).toList)=decide ((x*pw n).den=1):=by
  rw [←strQ_int,strQ_toList]
  generalize x*pw n=y
  by_cases hd:y.den=1
  ·rw [decide_eq_true hd]
   apply decide_eq_true
   have:=num_div y
   rw [hd] at this
   rw [hd,show y.num.fdiv ((1:Nat):Int)=y.num from Int.fdiv_one _]
   rw [show (((1:Nat):Int):Rat)=1 from rfl,Rat.div_def,show (1:Rat)⁻¹=1 by decide+kernel,Rat.mul_one] at this
   exact this.symm
  ·rw [decide_eq_false hd]
   apply decide_eq_false
   intro he
   have:=congrArg Rat.den he
   rw [Rat.den_intCast] at this
   exact hd this
 rwa [e] at c
theorem wr64 {z:Int} (h1:0≤z) (h2:z≤9223372036854775807):IntKind.i64.wrap z=z:=by rw [IntKind.wrap_i64];omega
theorem rPrint_neg (a t y s z D E:ByteArray) (p k:Nat) (w:World) (p1:¬ (p:Int)<0) (p2:¬ (100:Int)<p) (hp:0<s.size) (h45:((s[0].toNat:Int)==45)=true) (hz:s.extract 1 s.size=z) (zz:z.size≤400) (s1:s.size≤401)
  (hk:k=p+1 - z.size) (f2:(bO (List.replicate k 48++z.data.toList)).extract 0 (k+z.size - p)=D) (f3:(bO (List.replicate k 48++z.data.toList)).extract (k+z.size - p) (k+z.size)=E) (sD:D.size≤1000) (sE:E.size≤1000)
  (h1:∀ W,Below w.heap.size w W→Calls Tryz.prog 22 #[.string a] W fun e W'=>e = .returned (.int .i64 0)∧Below W.heap.size W W')
  (h2:∀ W,Below w.heap.size w W→Calls Tryz.prog 28 #[.int .i64 p] W fun e W'=>e = .returned (.string t)∧Below W.heap.size W W')
  (h3:∀ W,Below w.heap.size w W→Calls Tryz.prog 27 #[.string a,.string t] W fun e W'=>e = .returned (.string y)∧Below W.heap.size W W')
  (h4:∀ W,Below w.heap.size w W→Calls Tryz.prog 26 #[.string y] W fun e W'=>e = .returned (.string s)∧Below W.heap.size W W')
  : Calls Tryz.prog 8 #[.string a,.int .i64 p] w fun e W'=>e = .returned (.tuple #[.string (if p=0 then ⟨#[45]⟩++bO (List.replicate k 48++z.data.toList) else ⟨#[45]⟩++D++⟨#[46]⟩++E),.int .i64 0])∧Below w.heap.size w W':=by
 have O:=Lib.hid (And.intro h1 (And.intro h2 (And.intro h3 h4)));clear h1 h2 h3 h4
 have HF:=Lib.hid (And.intro f2 (And.intro f3 hk));clear f2 f3 hk
 have hm:s.size≤9223372036854775807:=by omega
 have hs1:(1:Int)≤(s.size:Int):=by omega
 go_enter Tryz.func8,Tryz.ntmps8
 have HB:=Lib.hid (Below.refl w.heap.size w)
 go_wp2_with fail
 refine (O.out.1 _ HB.out).mono ?_
 rintro e w1 ⟨rfl,b⟩
 have HN:=Lib.hid (HB.out.trans (b.mono HB.out.size));clear HB b;have HB:=HN;clear HN
 go_wp2_with fail
 refine (O.out.2.1 _ HB.out).mono ?_
 rintro e w2 ⟨rfl,b⟩
 have HN:=Lib.hid (HB.out.trans (b.mono HB.out.size));clear HB b;have HB:=HN;clear HN
 go_wp2_with fail
 refine (O.out.2.2.1 _ HB.out).mono ?_
 rintro e w3 ⟨rfl,b⟩
 have HN:=Lib.hid (HB.out.trans (b.mono HB.out.size));clear HB b;have HB:=HN;clear HN
 go_wp2_with fail
 refine (O.out.2.2.2 _ HB.out).mono ?_
 rintro e w4 ⟨rfl,b⟩
 have HN:=Lib.hid (HB.out.trans (b.mono HB.out.size));clear HB b;have HB:=HN;clear HN
 go_wp2
 have HD:=Lib.hid HB.out.drew;clear HB;have HB:=HD;clear HD
 go_region_held3 (fun _=>True) (first | trivial | (go_keep;done)) (first | fail)
 go_wp2
 have HZ:=Lib.hid zz;clear zz s1
 go_loopw [7] (fun x wr=>∃ (j:Nat) (u:ByteArray),x = .string u∧j≤k∧u.size=j+z.size∧Hid (u=bO (List.replicate j 48++z.data.toList))∧Hid (Below w.heap.size w wr)) (fun x _=>match x with | .string u=>p+1 - u.size | _=>0)
 case atStart=>exact ⟨0,z,rfl,by omega,by omega,by show _=_;rw [List.replicate_zero,List.nil_append,bO_of],HB.out⟩
 case round =>
  clear HB
  obtain ⟨j,u,rfl,hj,hz,hu,HB⟩:=hrel
  have hk:=HF.out.2.2
  have hzz:=HZ.out
  by_cases hlt:(u.size:Int)≤p
  ·have HU:Hid (⟨#[48]⟩++u=bO (List.replicate (j+1) 48++z.data.toList)):=by
    show _=_
    rw [hu.out,show (⟨#[48]⟩:ByteArray)=bO [48] from rfl,bO_app,List.replicate_succ];rfl
   have HY:=Lib.hid (show (⟨#[48]⟩++u).size=j+1+z.size by rw [ByteArray.size_append,hz];show 1+_=_;omega)
   have HJ:=Lib.hid (show j+1≤k by omega)
   have HM:=Lib.hid (show p+1 - (⟨#[48]⟩++u).size<p+1 - u.size by rw [ByteArray.size_append];show p+1 - (1+u.size)<_;omega)
   have n1:¬ (9223372036854775807:Int)<1+(u.size:Int):=by omega
   clear hk hzz hz hj hu
   go_wp2
   go_roundw
   case rel=>exact ⟨j+1,_,rfl,HJ.out,HY.out,HU,HB.out⟩
   case measure=>exact HM.out
  ·obtain rfl:j=k:=by omega
   have U2:=Lib.hid (show u.extract 0 (j+z.size - p)=D by rw [hu.out];exact HF.out.1)
   have U3:=Lib.hid (show u.extract (j+z.size - p) u.size=E by rw [hz];rw [hu.out];exact HF.out.2.1)
   have n1:¬ (9223372036854775807:Int)<1+(u.size:Int):=by omega
   by_cases h0:p=0
   ·have h0':((p:Int)==0)=true:=by rw [beq_iff_eq];omega
    have HH:=Lib.hid h0
    clear hk hzz hz hj h0 U2 U3
    go_wp2
    go_ret2
    exact ⟨by rw [←hu.out];rfl,HB.out⟩
   ·have h0':((p:Int)==0)=false:=by rw [beq_eq_false_iff_ne];omega
    have HH:=Lib.hid h0
    obtain ⟨m,em⟩:∃ m,m=j+z.size - p:=⟨_,rfl⟩
    rw [←em] at U2 U3
    have hm':(u.size:Int) - (p:Int)=(m:Int):=by omega
    have g0:(0:Int)≤(m:Int):=by omega
    have g1:(m:Int)≤(u.size:Int):=by omega
    have hmb:(m:Int)≤9223372036854775807:=by omega
    have hw2:IntKind.i64.wrap ((u.size:Int) - (p:Int))=(m:Int):=by rw [hm'];exact wr64 g0 hmb
    have hw4:IntKind.i64.wrap (m:Int)=(m:Int):=wr64 g0 hmb
    have e1:¬ 9223372036854775807<1+D.size:=by omega
    have e2:¬ 9223372036854775807<1+D.size+1:=by omega
    have e3:¬ 9223372036854775807<1+D.size+1+E.size:=by omega
    have e4:¬ 9223372036854775807<D.size:=by omega
    have e5:¬ 9223372036854775807<D.size+1:=by omega
    have e6:¬ 9223372036854775807<D.size+1+E.size:=by omega
    have f2:=U2.out
    have f3:=U3.out
    have c1:¬ (9223372036854775807:Int)<1+(D.size:Int):=by omega
    have c2:¬ (9223372036854775807:Int)<1+(D.size:Int)+1:=by omega
    have c3:¬ (9223372036854775807:Int)<1+(D.size:Int)+1+(E.size:Int):=by omega
    have d1:¬ (9223372036854775807:Int)<(D.size:Int):=by omega
    have d2:¬ (9223372036854775807:Int)<(D.size:Int)+1:=by omega
    have d3:¬ (9223372036854775807:Int)<(D.size:Int)+1+(E.size:Int):=by omega
    clear hk hzz hz hj h0 em U2 U3 sD sE hmb
    go_wp2
    clear c1 c2 c3 d1 d2 d3
    have HD:=Lib.hid HB.out.drew;clear HB;have HB:=HD;clear HD
    go_region_held3 (fun _=>True) (first | trivial | (go_keep;done)) (first | fail)
    go_wp2
    go_ret2
    exact ⟨by first | rfl | rw [if_neg HH.out] | simp [HH.out],HB.out⟩
theorem rPrint_pos (a t y s z D E:ByteArray) (p k:Nat) (w:World) (p1:¬ (p:Int)<0) (p2:¬ (100:Int)<p) (hp:0<s.size) (h45:((s[0].toNat:Int)==45)=false) (hz:s=z) (zz:z.size≤400) (s1:s.size≤401)
  (hk:k=p+1 - z.size) (f2:(bO (List.replicate k 48++z.data.toList)).extract 0 (k+z.size - p)=D) (f3:(bO (List.replicate k 48++z.data.toList)).extract (k+z.size - p) (k+z.size)=E) (sD:D.size≤1000) (sE:E.size≤1000)
  (h1:∀ W,Below w.heap.size w W→Calls Tryz.prog 22 #[.string a] W fun e W'=>e = .returned (.int .i64 0)∧Below W.heap.size W W')
  (h2:∀ W,Below w.heap.size w W→Calls Tryz.prog 28 #[.int .i64 p] W fun e W'=>e = .returned (.string t)∧Below W.heap.size W W')
  (h3:∀ W,Below w.heap.size w W→Calls Tryz.prog 27 #[.string a,.string t] W fun e W'=>e = .returned (.string y)∧Below W.heap.size W W')
  (h4:∀ W,Below w.heap.size w W→Calls Tryz.prog 26 #[.string y] W fun e W'=>e = .returned (.string s)∧Below W.heap.size W W')
  : Calls Tryz.prog 8 #[.string a,.int .i64 p] w fun e W'=>e = .returned (.tuple #[.string (if p=0 then ⟨#[]⟩++bO (List.replicate k 48++z.data.toList) else ⟨#[]⟩++D++⟨#[46]⟩++E),.int .i64 0])∧Below w.heap.size w W':=by
 have O:=Lib.hid (And.intro h1 (And.intro h2 (And.intro h3 h4)));clear h1 h2 h3 h4
 have HF:=Lib.hid (And.intro f2 (And.intro f3 hk));clear f2 f3 hk
 have hm:s.size≤9223372036854775807:=by omega
 go_enter Tryz.func8,Tryz.ntmps8
 have HB:=Lib.hid (Below.refl w.heap.size w)
 go_wp2_with fail
 refine (O.out.1 _ HB.out).mono ?_
 rintro e w1 ⟨rfl,b⟩
 have HN:=Lib.hid (HB.out.trans (b.mono HB.out.size));clear HB b;have HB:=HN;clear HN
 go_wp2_with fail
 refine (O.out.2.1 _ HB.out).mono ?_
 rintro e w2 ⟨rfl,b⟩
 have HN:=Lib.hid (HB.out.trans (b.mono HB.out.size));clear HB b;have HB:=HN;clear HN
 go_wp2_with fail
 refine (O.out.2.2.1 _ HB.out).mono ?_
 rintro e w3 ⟨rfl,b⟩
 have HN:=Lib.hid (HB.out.trans (b.mono HB.out.size));clear HB b;have HB:=HN;clear HN
 go_wp2_with fail
 refine (O.out.2.2.2 _ HB.out).mono ?_
 rintro e w4 ⟨rfl,b⟩
 have HN:=Lib.hid (HB.out.trans (b.mono HB.out.size));clear HB b;have HB:=HN;clear HN
 subst hz
 go_wp2
 have HZ:=Lib.hid zz;clear zz s1
 go_loopw [7] (fun x wr=>∃ (j:Nat) (u:ByteArray),x = .string u∧j≤k∧u.size=j+s.size∧Hid (u=bO (List.replicate j 48++s.data.toList))∧Hid (Below w.heap.size w wr)) (fun x _=>match x with | .string u=>p+1 - u.size | _=>0)
 case atStart=>exact ⟨0,s,rfl,by omega,by omega,by show _=_;rw [List.replicate_zero,List.nil_append,bO_of],HB.out⟩
 case round =>
  clear HB
  obtain ⟨j,u,rfl,hj,hz,hu,HB⟩:=hrel
  have hk:=HF.out.2.2
  have hzz:=HZ.out
  by_cases hlt:(u.size:Int)≤p
  ·have HU:Hid (⟨#[48]⟩++u=bO (List.replicate (j+1) 48++s.data.toList)):=by
    show _=_
    rw [hu.out,show (⟨#[48]⟩:ByteArray)=bO [48] from rfl,bO_app,List.replicate_succ];rfl
   have HY:=Lib.hid (show (⟨#[48]⟩++u).size=j+1+s.size by rw [ByteArray.size_append,hz];show 1+_=_;omega)
   have HJ:=Lib.hid (show j+1≤k by omega)
   have HM:=Lib.hid (show p+1 - (⟨#[48]⟩++u).size<p+1 - u.size by rw [ByteArray.size_append];show p+1 - (1+u.size)<_;omega)
   have n1:¬ (9223372036854775807:Int)<1+(u.size:Int):=by omega
   clear hk hzz hz hj hu
   go_wp2
   go_roundw
   case rel=>exact ⟨j+1,_,rfl,HJ.out,HY.out,HU,HB.out⟩
   case measure=>exact HM.out
  ·obtain rfl:j=k:=by omega
   have U2:=Lib.hid (show u.extract 0 (j+s.size - p)=D by rw [hu.out];exact HF.out.1)
   have U3:=Lib.hid (show u.extract (j+s.size - p) u.size=E by rw [hz];rw [hu.out];exact HF.out.2.1)
   have n1:¬ (9223372036854775807:Int)<1+(u.size:Int):=by omega
   by_cases h0:p=0
   ·have h0':((p:Int)==0)=true:=by rw [beq_iff_eq];omega
    have HH:=Lib.hid h0
    clear hk hzz hz hj h0 U2 U3
    go_wp2
    go_ret2
    exact ⟨by rw [←hu.out];rfl,HB.out⟩
   ·have h0':((p:Int)==0)=false:=by rw [beq_eq_false_iff_ne];omega
    have HH:=Lib.hid h0
    obtain ⟨m,em⟩:∃ m,m=j+s.size - p:=⟨_,rfl⟩
    rw [←em] at U2 U3
    have hm':(u.size:Int) - (p:Int)=(m:Int):=by omega
    have g0:(0:Int)≤(m:Int):=by omega
    have g1:(m:Int)≤(u.size:Int):=by omega
    have hmb:(m:Int)≤9223372036854775807:=by omega
    have hw2:IntKind.i64.wrap ((u.size:Int) - (p:Int))=(m:Int):=by rw [hm'];exact wr64 g0 hmb
    have hw4:IntKind.i64.wrap (m:Int)=(m:Int):=wr64 g0 hmb
    have e1:¬ 9223372036854775807<1+D.size:=by omega
    have e2:¬ 9223372036854775807<1+D.size+1:=by omega
    have e3:¬ 9223372036854775807<1+D.size+1+E.size:=by omega
    have e4:¬ 9223372036854775807<D.size:=by omega
    have e5:¬ 9223372036854775807<D.size+1:=by omega
    have e6:¬ 9223372036854775807<D.size+1+E.size:=by omega
    have f2:=U2.out
    have f3:=U3.out
    have c1:¬ (9223372036854775807:Int)<1+(D.size:Int):=by omega
    have c2:¬ (9223372036854775807:Int)<1+(D.size:Int)+1:=by omega
    have c3:¬ (9223372036854775807:Int)<1+(D.size:Int)+1+(E.size:Int):=by omega
    have d1:¬ (9223372036854775807:Int)<(D.size:Int):=by omega
    have d2:¬ (9223372036854775807:Int)<(D.size:Int)+1:=by omega
    have d3:¬ (9223372036854775807:Int)<(D.size:Int)+1+(E.size:Int):=by omega
    clear hk hzz hz hj h0 em U2 U3 sD sE hmb
    go_wp2
    clear c1 c2 c3 d1 d2 d3
    have HD:=Lib.hid HB.out.drew;clear HB;have HB:=HD;clear HD
    go_region_held3 (fun _=>True) (first | trivial | (go_keep;done)) (first | fail)
    go_wp2
    go_ret2
    exact ⟨by first | rfl | rw [if_neg HH.out] | simp [HH.out],HB.out⟩
end Go.Proofs.YteckjifdpcbaeaaGreatDoor.T
