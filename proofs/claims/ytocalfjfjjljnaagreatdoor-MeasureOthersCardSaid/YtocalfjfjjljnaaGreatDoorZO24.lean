/- Parts of the proof of the text YtocalfjfjjljnaaGreatDoorZO44. -/
import Derived.RangeFuncNested
import Derived.RangeFuncBound
import Derived.RangeFuncCalls
import Derived.RangeFuncLeaves
import Derived.RangeFuncBox
import Derived.Shelf.Abstract
import Derived.OwnWalkIn
import Derived.TacticsInMore
import Derived.LoopNIn
import Derived.LoopIn
import Derived.Maps.AppendAt
import Derived.RegionIn
import Derived.Shelf.RegionOpen
import Derived.Test.YtocalfjfjjljnaaGreatDoorZO1
import Derived.Test.YtocalfjfjjljnaaGreatDoorZO11
import Derived.Test.YtocalfjfjjljnaaGreatDoorZO23
set_option linter.all false
set_option maxRecDepth 100000
set_option maxHeartbeats 8000000
namespace Go.Proofs.YtocalfjfjjljnaaGreatDoor
namespace T
open Go.Proofs.YtocalfjfjjljnaaGreatDoor Go Go.Lib
def half:Rat:=mkRat 1 2
def tw:Rat:=mkRat 127 60
theorem uU:tw≠0:=by decide+kernel
def pw (n:Nat):Rat:=(((aA n:Nat):Int):Rat)
theorem rQ {m:Nat} (h:0<m):(0:Rat)<(((m:Nat):Int):Rat):=by
 have:=Rat.intCast_lt_intCast (a:=0) (b:=(m:Int))
 rw [Rat.intCast_zero] at this
 exact this.2 (by omega)
def nr (x:Rat):Int:=(x+half).num.fdiv (x+half).den
theorem Ef (y:Rat):((y.num.fdiv y.den:Int):Rat)≤y∧y<((y.num.fdiv y.den:Int):Rat)+1:=by
 have hd:(0:Int)<y.den:=by have:=y.den_nz;omega
 have e1:y.num.fdiv y.den=y.num / (y.den:Int):=Int.fdiv_eq_ediv_of_nonneg _ (by omega)
 have h1:=Int.ediv_mul_le y.num (b:=(y.den:Int)) (by omega)
 have h2:=Int.lt_ediv_add_one_mul_self y.num hd
 have e2:((y.num.fdiv y.den:Int):Rat)+1=((y.num.fdiv y.den+1:Int):Rat):=by rw [Rat.intCast_add,Rat.intCast_one]
 rw [e2,e1,Rat.le_iff,Rat.lt_iff,Rat.num_intCast,Rat.den_intCast,Rat.num_intCast,Rat.den_intCast]
 constructor
 ·show _≤y.num*((1:Nat):Int);omega
 ·show y.num*((1:Nat):Int)<_;omega
theorem Ak {d:Nat} (h:d≠0):(((d:Nat):Int):Rat)≠0:=fun e=>by have:=rQ (Nat.pos_of_ne_zero h);rw [e] at this;exact Rat.lt_irrefl this
theorem x7 (z:Int):(if decide (z<0)=true then -(z.natAbs:Int) else (z.natAbs:Int))=z:=by
 by_cases h:z<0
 ·rw [decide_eq_true h,if_pos rfl];omega
 ·rw [decide_eq_false h,if_neg (by decide)];omega
end T
namespace T
open Go.RowKit
def TabM (w:World):Prop:=Tab w∧cE w
theorem TabM.next {w W:World} (h:TabM w) (b:Below w.heap.size w W):TabM W:=⟨h.1.next b,aF h.2 b⟩
theorem rR:ag half=⟨#[49,47,50]⟩:=by decide+kernel
theorem qf:Bq 1 half:=by constructor <;> decide+kernel
theorem mj:ag tw=⟨#[49,50,55,47,54,48]⟩:=by decide+kernel
theorem j6:Bq 3 tw:=by constructor <;> decide+kernel
theorem DM (n:Nat):Bd (n+1) ((aA n:Nat):Int):=by
 show Int.natAbs _<aA (n+1)
 rw [Int.natAbs_natCast]
 exact Nat.pow_lt_pow_right (by decide) (by omega)
theorem x8 (n:Nat):Bq (n+1) (pw n):=mg (by omega) (DM n)
theorem aR (m:Nat):bO (Lib.decDigits m)=aa (m:Int):=by
 unfold aa bO;rw [Lib.itoa_nonneg]
theorem qg (z:Int):aa z=bO (sg (decide (z<0)) (Lib.decDigits z.natAbs)):=by
 unfold aa bO;rw [zT]
theorem Co (n:Nat):bO (49::List.replicate n 48)=ag (pw n):=by
 unfold pw
 rw [cR,←aR,show aA n=10 ^ n from rfl,q9]
theorem nZ (z:Int):zB (aa z)=bO (Lib.decDigits z.natAbs):=by unfold zB;rw [aB,iY]
theorem fm (z:Int):af (aa z).data.toList=decide (z<0):=by rw [aB,aN]
theorem cG {k m:Nat} (hk:1≤k) (h:m<aA k):(Lib.decDigits m).length≤k:=by
 rw [Lib.decDigits_length];exact (bh _ k hk).2 h
theorem yc {k:Nat} {x:Rat} (h:Bq k (x+half)):Bd k (nr x):=Nat.lt_of_le_of_lt (nJ (x:=(x+half).num) (jh _)).1 h.num
theorem ji {k:Nat} {x:Rat} (h:Bq k x) (hk:k≤290):fK x half=ag (x+half)∧fL x half=0∧Bq (k+2) (x+half):=nA h qf (by omega)
theorem n8 (x:Rat) (w:World) (h:Bq 90 x) (T:TabM w) :
  Calls Tryz.prog 17 #[.string (ag x)] w fun e W'=>e = .returned (.int .i64 0)∧Below w.heap.size w W':=by
 have l1:=cG (k:=90) (by decide) h.num
 have l2:=cG (k:=90) (by decide) h.2
 refine tE _ (aa x.num) (aa (x.den:Int)) (bO (Lib.decDigits x.num.natAbs)) (decide (x.num<0)) w ?_ ?_ (fun W hW=>qe x W (h.lim (by decide)) (T.next hW).1 (T.next hW).2) (fun W hW => ?_)
 ·rw [ai];omega
 ·rw [←aR,ai];omega
 ·have c:=jO (aa x.num) W
  rwa [nZ,fm] at c
theorem qh {b:Bool} {l:List UInt8} (h:b=true→l ≠ [48]):sgB b (bO l)=bO (sg b l):=by
 unfold sgB sg
 cases b
 ·rfl
 ·have h1:((bO l).toList != [48])=true:=by rw [bne,ByteArray.toList_eq,aP,Bool.not_eq_true',beq_eq_false_iff_ne];exact h rfl
  rw [h1]
  exact ee [45] l
theorem BN {m:Nat} (h:Lib.decDigits m = [48]):m=0:=by
 have h1:=bY m
 rw [h] at h1;rw [←h1];decide
theorem uV (b:Bool) (m:Nat):sgB b (bO (Lib.decDigits m))=aa (if b then -(m:Int) else (m:Int)):=by
 cases b
 ·unfold sgB;rw [Bool.false_and,if_neg (by decide)];exact aR m
 ·by_cases h:m=0
  ·subst h
   have e:Lib.decDigits 0 = [48]:=by decide+kernel
   have h1:((bO [48]).toList != [48])=false:=by rw [bne,ByteArray.toList_eq,aP];rfl
   unfold sgB
   rw [e,h1]
   show bO [48]=aa (-((0:Nat):Int))
   rw [←e]
   exact aR 0
  ·rw [qh (fun _ e=>h (BN e)),if_pos rfl,qg,decide_eq_true (show -(m:Int)<0 by omega),show (-(m:Int)).natAbs=m by omega]
theorem bT (l:List UInt8) (a:Nat):(bO l).extract 0 a=bO (l.take a):=by
 apply aK
 rw [Lib.extract_data,aP,aP];simp
theorem df (l:List UInt8) (a:Nat):(bO l).extract a (bO l).size=bO (l.drop a):=by
 apply aK
 rw [Lib.extract_data,aP,aP,ai,List.take_of_length_le (by rw [List.length_drop];exact Nat.le_refl _)]
theorem DO (z:Int) (n:Nat) (w:World) (hn:n≤100) (hz:Bd 300 z) :
  Calls Tryz.prog 41 #[.string (aa z),.int .i64 n] w fun e W'=>e = .returned (.string (bO (xC n z)))∧Below w.heap.size w W':=by
 have l1:=cG (k:=300) (by decide) hz
 have kp:∀ W,Below w.heap.size w W→Calls Tryz.prog 43 #[.string (aa z),.string ⟨#[45]⟩] W fun e W'=>e = .returned (.tuple #[.string (bO (Lib.decDigits z.natAbs)),.bool (decide (z<0))])∧Below W.heap.size W W':=fun W _=>by
  have c:=jO (aa z) W
  rwa [nZ,fm] at c
 by_cases h0:n=0
 ·subst h0
  refine wj _ _ _ (decide (z<0)) w kp (fun W hW => ?_)
  have c:=lk (decide (z<0)) (bO (Lib.decDigits z.natAbs)) W (by rw [ai];omega)
  rwa [qh (fun h e=>by have:=BN e;have:=of_decide_eq_true h;omega)] at c
 ·have p1:=zU n z.natAbs
  have p2:=xA n z.natAbs
  have ep:bO (List.replicate (n+1 - (Lib.decDigits z.natAbs).length) 48)++bO (Lib.decDigits z.natAbs)=bO (pad n z.natAbs):=ee _ _
  have el:(pad n z.natAbs).length=(n+1 - (Lib.decDigits z.natAbs).length)+(Lib.decDigits z.natAbs).length:=by unfold pad;rw [List.length_append,List.length_replicate]
  refine x6 _ (bO (Lib.decDigits z.natAbs)) _ (bO (List.replicate (n+1 - (Lib.decDigits z.natAbs).length) 48)) (bO ((pad n z.natAbs).take ((pad n z.natAbs).length - n))) (bO ((pad n z.natAbs).drop ((pad n z.natAbs).length - n))) (decide (z<0)) n (n+1 - (Lib.decDigits z.natAbs).length) ((pad n z.natAbs).length - n) w (by simp;omega) (by rw [ai]) (by omega) (by rw [ai];omega) (by rw [ai,List.length_replicate]) (by rw [ai,ai,List.length_replicate];omega) (by rw [ep];exact bT _ _) (by rw [ep];exact df _ _) (by rw [ep,ai,ai,ai,List.length_replicate];omega) (by rw [ai,List.length_take];omega) (by rw [ai,List.length_drop];omega) kp (fun j hj W hW=>by rw [hj];exact DK _ W (by omega)) (fun W hW => ?_)
  rw [show (⟨#[46]⟩:ByteArray)=bO [46] from rfl,ee,ee,List.append_assoc,List.singleton_append]
  have e:(pad n z.natAbs).take ((pad n z.natAbs).length - n)++46::(pad n z.natAbs).drop ((pad n z.natAbs).length - n)=tf n z.natAbs:=by unfold tf;rw [if_neg h0]
  rw [e]
  have c:=lk (decide (z<0)) (bO (tf n z.natAbs)) W (by rw [ai];have:=xB n z.natAbs;omega)
  rwa [qh (fun _ e=>by
   have:=congrArg List.length e
   unfold tf at this
   rw [if_neg h0,List.length_append,List.length_cons,List.length_take,List.length_drop,List.length_singleton] at this
   omega)] at c
theorem Cp (b:Bool) (l:List UInt8):(sg b l).length≤l.length+1:=by
 unfold sg
 cases b
 ·exact Nat.le_succ _
 ·exact Nat.le_refl _
theorem bj (l:List UInt8):(szL l).length≤l.length:=by
 unfold szL;split
 ·rw [List.length_tail];omega
 ·exact Nat.le_refl _
end T
namespace T
open Go.RowKit
theorem ye:aa 12=⟨#[49,50]⟩:=by decide+kernel
theorem BO (m:Nat) (w:World) (h:m<aA 250) (T:TabM w) :
  Calls Tryz.prog 52 #[.string (bO (Lib.decDigits m)),.string ⟨#[49,50]⟩] w fun e W'=>e = .returned (.tuple #[.string (bO (Lib.decDigits (m / 12))),.string (bO (Lib.decDigits (m % 12))),.int .i64 0])∧Below w.heap.size w W':=by
 have c:=i7 (m:Int) 12 w (by rw [Int.natAbs_natCast];exact Nat.lt_of_lt_of_le h (ay (by decide))) (jY (by decide)) (by decide) T.1
 rw [Int.fdiv_eq_ediv_of_nonneg _ (by decide),Int.fmod_eq_emod_of_nonneg _ (by decide),ye,show (m:Int) / 12=((m / 12:Nat):Int) by omega,show (m:Int) % 12=((m % 12:Nat):Int) by omega,←aR,←aR,←aR] at c
 exact c
theorem tH (z:Int) (w:World) (hz:Bd 250 z) (T:TabM w) :
  Calls Tryz.prog 20 #[.string (aa z)] w fun e W'=>e = .returned (.tuple #[.string (bO (ftT z)),.int .i64 0])∧Below w.heap.size w W':=by
 have hz':z.natAbs<aA 250:=hz
 have hq:z.natAbs / 12<aA 250:=Nat.lt_of_le_of_lt (Nat.div_le_self _ _) hz'
 have hf:z.natAbs / 144<aA 250:=Nat.lt_of_le_of_lt (Nat.div_le_self _ _) hz'
 have ef:z.natAbs / 12 / 12=z.natAbs / 144:=by rw [Nat.div_div_eq_div_mul]
 have l1:=cG (k:=250) (by decide) hf
 have l2:=cG (k:=2) (m:=z.natAbs / 12 % 12) (by decide) (by show _<100;omega)
 have l3:=cG (k:=2) (m:=z.natAbs % 12) (by decide) (by show _<100;omega)
 refine wk (aa z) (bO (Lib.decDigits z.natAbs)) (bO (Lib.decDigits (z.natAbs / 12))) (bO (Lib.decDigits (z.natAbs % 12))) (bO (Lib.decDigits (z.natAbs / 144))) (bO (Lib.decDigits (z.natAbs / 12 % 12))) _ (decide (z<0)) w (by rw [ai];omega) (by rw [ai];omega) (by rw [ai];omega) (fun W _ => ?_) (fun W hW=>BO _ W hz' (T.next hW)) (fun W hW => ?_) (fun W _ => ?_)
 ·have c:=jO (aa z) W
  rwa [nZ,fm] at c
 ·have c:=BO _ W hq (T.next hW)
  rwa [ef] at c
 ·rw [show (⟨#[39]⟩:ByteArray)=bO [39] from rfl,show (⟨#[34]⟩:ByteArray)=bO [34] from rfl,ee,ee,ee,ee]
  have e:Lib.decDigits (z.natAbs / 144) ++ [39]++Lib.decDigits (z.natAbs / 12 % 12) ++ [34]++Lib.decDigits (z.natAbs % 12)=ftU z.natAbs:=by unfold ftU;simp
  rw [e]
  have c:=lk (decide (z<0)) (bO (ftU z.natAbs)) W (by rw [ai];unfold ftU;rw [List.length_append,List.length_cons,List.length_append,List.length_cons];omega)
  rwa [qh (fun _ e=>by
   have:=congrArg List.length e
   unfold ftU at this
   rw [List.length_append,List.length_cons,List.length_append,List.length_cons,List.length_singleton] at this
   omega)] at c
theorem BP (a b c:ByteArray) (W:World):(Instr.index 85 (.agg #[.string a,.string b,.string c]) (.int .i64 0)).run Tryz.prog W = .ok (.string a) W:=by kernel_rfl
theorem BQ (a b c:ByteArray) (W:World):(Instr.index 85 (.agg #[.string a,.string b,.string c]) (.int .i64 1)).run Tryz.prog W = .ok (.string b) W:=by kernel_rfl
theorem BR (a b c:ByteArray) (W:World):(Instr.index 85 (.agg #[.string a,.string b,.string c]) (.int .i64 2)).run Tryz.prog W = .ok (.string c) W:=by kernel_rfl
theorem rS (s z rest m t:ByteArray) (g h1 h2:Bool) (N P:Nat→ByteArray) (Q:Nat→ByteArray) (w:World) (hN:N 0=⟨#[48]⟩)
   (c1:∀ W,Below w.heap.size w W→Calls Tryz.prog 43 #[.string s,.string ⟨#[45]⟩] W fun e W'=>e = .returned (.tuple #[.string z,.bool g])∧Below W.heap.size W W')
   (c2:∀ W,Below w.heap.size w W→Calls Tryz.prog 66 #[.string z,.string ⟨#[39]⟩] W fun e W'=>e = .returned (.tuple #[.string (P 0),.string rest,.bool h1])∧Below W.heap.size W W')
   (c3:∀ W,Below w.heap.size w W→Calls Tryz.prog 66 #[.string rest,.string ⟨#[34]⟩] W fun e W'=>e = .returned (.tuple #[.string (P 1),.string (P 2),.bool h2])∧Below W.heap.size W W')
   (c4:∀ j,j<3→∀ W,Below w.heap.size w W→Calls Tryz.prog 67 #[.string (N j),.string ⟨#[49,50]⟩] W fun e W'=>e = .returned (.tuple #[.string (Q j),.int .i64 0])∧Below W.heap.size W W')
   (c5:∀ j,j<3→∀ W,Below w.heap.size w W→Calls Tryz.prog 34 #[.string (P j),.func (.func 68) #[] #[]] W fun e W'=>e = .returned (.bool true)∧Below W.heap.size W W')
   (c6:∀ j,j<3→∀ W,Below w.heap.size w W→Calls Tryz.prog 69 #[.string (Q j),.string (P j)] W fun e W'=>e = .returned (.tuple #[.string (N (j+1)),.int .i64 0])∧Below W.heap.size W W')
   (c7:∀ W,Below w.heap.size w W→Calls Tryz.prog 53 #[.string (N 3),.bool g] W fun e W'=>e = .returned (.string m)∧Below W.heap.size W W')
   (c8:∀ W,Below w.heap.size w W→Calls Tryz.prog 20 #[.string m] W fun e W'=>e = .returned (.tuple #[.string t,.int .i64 0])∧Below W.heap.size W W') :
   Calls Tryz.prog 28 #[.string s] w fun e W'=>e = .returned (.tuple #[.string m,.bool (t.toList==s.toList)])∧Below w.heap.size w W':=by
 have O:=Ha (Hb c1 (Hb c2 (Hb c3 (Hb c4 (Hb c5 (Hb c6 (Hb c7 c8)))))));clear c1 c2 c3 c4 c5 c6 c7 c8
 have HN0:=Ha hN;clear hN
 have ix0:=BP
 have ix1:=BQ
 have ix2:=BR
 go_enter Tryz.func28,Tryz.ntmps28
 have HB:=Ha (Below.refl w.heap.size w)
 go_wp2_with fail
 refine (O.out.1 _ HB.out).mono ?_
 rintro e w1 ⟨rfl,b⟩
 replace HB:=Ha (HB.out.trans (b.mono HB.out.size));clear b
 go_wp2_with fail
 refine (O.out.2.1 _ HB.out).mono ?_
 rintro e w2 ⟨rfl,b⟩
 replace HB:=Ha (HB.out.trans (b.mono HB.out.size));clear b
 go_wp2_with fail
 refine (O.out.2.2.1 _ HB.out).mono ?_
 rintro e w3 ⟨rfl,b⟩
 replace HB:=Ha (HB.out.trans (b.mono HB.out.size));clear b
 go_wp2
 go_loopw [12,40] (fun x i wr=>∃ j:Nat,x = .string (N j)∧i = .int .i64 j∧j≤3∧Hid (Below w.heap.size w wr)) (fun _ i _=>3 - (intOf i).toNat)
 case atStart=>exact ⟨0,by rw [HN0.out],rfl,by omega,HB⟩
 case round =>
   clear HB
   obtain ⟨j,rfl,rfl,hj,HB⟩:=hrel
   by_cases hlt:j<3
   · have X:=Ha (Hb (O.out.2.2.2.1 j hlt) (Hb (O.out.2.2.2.2.1 j hlt) (O.out.2.2.2.2.2.1 j hlt)))
     have hjj:j=0∨j=1∨j=2:=by omega
     clear hlt hj
     rcases hjj with rfl | rfl | rfl <;>
     (go_wp2_with fail
      refine (X.out.1 _ HB.out).mono ?_
      rintro e w4 ⟨rfl,b⟩
      replace HB:=Ha (HB.out.trans (b.mono HB.out.size));clear b
      go_wp2_with fail
      refine (X.out.2.1 _ HB.out).mono ?_
      rintro e w5 ⟨rfl,b⟩
      replace HB:=Ha (HB.out.trans (b.mono HB.out.size));clear b
      go_wp2_with fail
      refine (X.out.2.2 _ HB.out).mono ?_
      rintro e w6 ⟨rfl,b⟩
      replace HB:=Ha (HB.out.trans (b.mono HB.out.size));clear b
      go_wp2
      go_roundw
      case rel=>exact ⟨_,rfl,rfl,by decide,HB⟩
      case measure=>simp [intOf])
   · obtain rfl:j=3:=by omega
     clear hlt hj
     go_wp2_with fail
     refine (O.out.2.2.2.2.2.2.1 _ HB.out).mono ?_
     rintro e w4 ⟨rfl,b⟩
     replace HB:=Ha (HB.out.trans (b.mono HB.out.size));clear b
     go_wp2_with fail
     refine (O.out.2.2.2.2.2.2.2 _ HB.out).mono ?_
     rintro e w5 ⟨rfl,b⟩
     replace HB:=Ha (HB.out.trans (b.mono HB.out.size));clear b
     go_wp2
     go_ret2
     exact ⟨rfl,HB.out⟩
def tN (m:Nat):Nat→Nat
 | 0=>0
 | 1=>m / 144
 | 2=>m / 12
 | _=>m
def tP (m:Nat):Nat→Nat
 | 0=>m / 144
 | 1=>m / 12 % 12
 | _=>m % 12
theorem rT (m j:Nat):tN m j≤m:=by
 unfold tN;split <;> omega
theorem uW (m j:Nat) (h:j<3):tN m j*12+tP m j=tN m (j+1):=by
 have hj:j=0∨j=1∨j=2:=by omega
 rcases hj with rfl | rfl | rfl
 ·show 0*12+m / 144=m / 144;omega
 ·show m / 144*12+m / 12 % 12=m / 12;omega
 ·show m / 12*12+m % 12=m;omega
theorem uX {z:Int} (h:Bd 80 z):(ftT z).length≤90:=by
 have h':z.natAbs<aA 80:=h
 have l1:=cG (k:=80) (m:=z.natAbs / 144) (by decide) (Nat.lt_of_le_of_lt (Nat.div_le_self _ _) h')
 have l2:=cG (k:=2) (m:=z.natAbs / 12 % 12) (by decide) (by show _<100;omega)
 have l3:=cG (k:=2) (m:=z.natAbs % 12) (by decide) (by show _<100;omega)
 unfold ftT ftU sg
 split <;> simp only [List.length_cons,List.length_append] <;> omega
theorem DP (z:Int) (w:World) (hz:Bd 80 z) (T:TabM w) :
  Calls Tryz.prog 28 #[.string (bO (ftT z))] w fun e W'=>e = .returned (.tuple #[.string (aa z),.bool true])∧Below w.heap.size w W':=by
 have hz':z.natAbs<aA 80:=hz
 have hlen:=uX hz
 obtain ⟨n1,n2⟩:=xz (b:=decide (z<0)) (uG z.natAbs)
 obtain ⟨u1,u2,u3⟩:=uH z.natAbs
 have lu:(ftU z.natAbs).length≤90:=by rw [←n2];exact Nat.le_trans (bj _) hlen
 have big:∀ k,k≤z.natAbs*12+12→((k:Nat):Int).natAbs<lim:=fun k hk=>by
  rw [Int.natAbs_natCast]
  have e:aA 83=aA 80*1000:=by unfold aA;rw [show 83=80+3 from rfl,Nat.pow_add]
  have h1:k<aA 83:=by rw [e];omega
  exact Nat.lt_of_lt_of_le h1 (ay (by decide))
 have P0:∀ j,j<3→∀ c∈Lib.decDigits (tP z.natAbs j),aj c=true:=fun j _=>aG _
 have hP:∀ j,j<3→tP z.natAbs j≤z.natAbs:=fun j hj=>by
  have:=uW z.natAbs j hj
  have:=rT z.natAbs (j+1)
  omega
 have c:=rS (bO (ftT z)) (bO (ftU z.natAbs)) (bO (kB 39 (ftU z.natAbs))) (aa z) (bO (ftT z)) (decide (z<0)) (kH 39 (ftU z.natAbs)) (kH 34 (kB 39 (ftU z.natAbs))) (fun j=>aa ((tN z.natAbs j:Nat):Int)) (fun j=>aa ((tP z.natAbs j:Nat):Int)) (fun j=>aa ((tN z.natAbs j*12:Nat):Int)) w (by show aa 0=_;decide+kernel)
  (fun W _ => ?_) (fun W _ => ?_) (fun W _ => ?_) (fun j hj W hW => ?_) (fun j hj W hW => ?_) (fun j hj W hW => ?_) (fun W hW => ?_) (fun W hW=>tH z W (hz.up (by decide)) (T.next hW))
 ·rwa [beq_self_eq_true] at c
 ·have c:=jO (bO (ftT z)) W
  unfold zB at c
  rw [aP] at c
  unfold ftT at c ⊢
  rwa [n1,n2] at c
 ·have c:=xX 39 (bO (ftU z.natAbs)) W (by rw [ai];omega)
  unfold k1 k2 at c
  rw [aP,u1] at c
  rw [aR] at c
  exact c
 ·have c:=xX 34 (bO (kB 39 (ftU z.natAbs))) W (by rw [ai];have:=(kS 39 (ftU z.natAbs)).2;omega)
  unfold k1 k2 at c
  rw [aP,u2,u3,aR,aR] at c
  exact c
 ·have c:=vz ((tN z.natAbs j:Nat):Int) 12 W (big _ (by have:=rT z.natAbs j;omega)) (jY (by decide)) (by
   have:=big (tN z.natAbs j*12) (by have:=rT z.natAbs j;omega)
   rwa [Int.natCast_mul] at this) (T.next hW).1
  rw [ye] at c
  rw [Int.natCast_mul]
  exact c
 ·have c:=BM (aa ((tP z.natAbs j:Nat):Int)) W (by
   rw [←aR,ai]
   have:=cG (k:=80) (m:=tP z.natAbs j) (by decide) (Nat.lt_of_le_of_lt (hP j hj) hz')
   omega)
  rwa [←aR,aP,tb (aG _) (bL _)] at c
 ·have e:=uW z.natAbs j hj
  have c:=vy ((tN z.natAbs j*12:Nat):Int) ((tP z.natAbs j:Nat):Int) W (big _ (by have:=rT z.natAbs j;omega)) (big _ (by have:=hP j hj;omega)) (by
   rw [←Int.natCast_add,e];exact big _ (by have:=rT z.natAbs (j+1);omega)) (T.next hW).1
  rwa [←Int.natCast_add,e] at c
 ·have c:=lk (decide (z<0)) (bO (Lib.decDigits z.natAbs)) W (by rw [ai];have:=cG (k:=80) (by decide) hz';omega)
  rwa [uV,x7,aR] at c
end T
namespace T
open Go.Proofs.YtocalfjfjjljnaaGreatDoor Go Go.Lib
def spB:Nat→List UInt8→List ByteArray
 | 0,_ => []
 | n+1,l=>bO (kA 32 l)::(if kH 32 l then spB n (kB 32 l) else [])
theorem yg {c:UInt8} {l:List UInt8} (h:kH c l=true):(kB c l).length<l.length:=by
 have:=congrArg List.length (nh (lV.1 h))
 rw [List.length_append,List.length_cons] at this
 omega
theorem rU:∀ (n m:Nat) (l:List UInt8),l.length<n→l.length<m→spB n l=spB m l
 | 0,_,_,h,_=>by omega
 | _+1,0,_,_,h=>by omega
 | n+1,m+1,l,h1,h2=>by
  unfold spB
  cases h:kH 32 l
  ·rfl
  ·have:=yg h
   rw [if_pos rfl,if_pos rfl,rU n m (kB 32 l) (by omega) (by omega)]
def wsp (l:List UInt8):List ByteArray:=spB (l.length+1) l
theorem tI (l:List UInt8):wsp l=bO (kA 32 l)::(if kH 32 l then wsp (kB 32 l) else []):=by
 unfold wsp
 rw [spB]
 cases h:kH 32 l
 ·rfl
 ·have:=yg h
  rw [if_pos rfl,if_pos rfl,rU l.length ((kB 32 l).length+1) (kB 32 l) (by omega) (by omega)]
def wl (l:List UInt8):List ByteArray:=if l = [] then [] else wsp l
def rem (b:Bool) (l:List UInt8):List ByteArray:=if b then wsp l else []
theorem Cq (l:List UInt8):wl l=rem (!l.isEmpty) l:=by
 unfold wl rem
 cases l with
 | nil=>rfl
 | cons a t=>rfl
theorem uY:∀ (n:Nat) (l:List UInt8),(spB n l).length≤n
 | 0,_=>Nat.le_refl _
 | n+1,l=>by
  unfold spB
  rw [List.length_cons]
  cases kH 32 l
  ·rw [if_neg (by decide)];simp
  ·rw [if_pos rfl];have:=uY n (kB 32 l);omega
theorem yh (l:List UInt8):(wl l).length≤l.length+1:=by
 unfold wl
 split
 ·simp
 ·exact uY _ _
end T
namespace T
open Go.Proofs.YtocalfjfjjljnaaGreatDoor Go Go.RowKit Go.Shelf
theorem qk {a b:World} (h:Below a.heap.size a b):a.grownBy b none:=⟨h.os,h.tape,h.output,h.size,fun k hk _=>h.block k hk⟩
theorem yi (s:ByteArray) (w:World) :
  Calls Tryz.prog 33 #[.string s] w fun e w'=>e = .returned (.func (.func 73) #[] #[.pointer (some ⟨w.heap.size,0,none⟩)])∧w'=w.alloc (.cells #[.string s] 9):=by
 go_enter Tryz.func33,Tryz.ntmps33
 go_wp2
 go_ret
 exact ⟨rfl,rfl⟩
abbrev WS:={x:ByteArray // x.size≤1000}
def yj (r m:Value):Nat:=match r,m with
 | .string t,.bool true=>t.size+1
 | _,_=>0
section
attribute [local go_sem] Oper.semAt_some
theorem wm (n:Nat) (hn:1≤n) (l Bs N0:Nat) (s:ByteArray) (hs:s.size≤1000) (J Jx:List WS→World→Prop)
  (hY:∀ pre x W1,J pre W1→pre.length<(wl s.data.toList).length→YieldAt Fence.wide (n - 1) Tryz.prog l #[.string x.1] W1 fun e W' =>
   (e = .returned (.bool true)∧J (pre ++ [x]) W'∧Below N0 W1 W')∨(e = .returned (.bool false)∧Jx (pre ++ [x]) W'))
  (W:World) (hJ:AbidesFrom W.heap.size J) (hBs:W.cell? ⟨Bs,0,none⟩=some (.string s)) (h0:J [] W) :
  CallsIn Fence.wide n Tryz.prog 73 #[.func (.yield l) #[] #[],.pointer (some ⟨Bs,0,none⟩)] W fun e W'=>(∃ v,e = .returned v) ∧
   ((∃ ys:List WS,ys.map (·.1)=wl s.data.toList∧J ys W')∨(∃ pre:List WS,(∃ rest,wl s.data.toList=pre.map (·.1)++rest)∧Jx pre W')):=by
 have HY:=Ha hY;clear hY
 have HJ:=Ha hJ;clear hJ
 have H0:=Ha h0;clear h0
 refine callsIn_of_wp Tryz.func73 rfl trivial ?_ rfl
 simp only [Tryz.ntmps73,List.size_toArray,List.length_cons,List.length_nil,Nat.reduceAdd,Nat.reduceSub,Array.replicate_succ,Array.replicate_zero,List.push_toArray,List.append_toArray,List.nil_append,List.cons_append]
 have hmx:Tryz.prog.follows .mixedOrders=true:=by kernel_rfl
 gi_wp2
 gi_region_with_o (fail)
 all_goals
  change Exit.then _ _ Exit.normal { tmps := #[.func (.yield l) #[] #[],.pointer (some ⟨Bs,0,none⟩),undef,.string s,.bool (!s.toList.isEmpty),undef,.string s,.string s,.bool (!s.toList.isEmpty),undef,undef,undef,undef,undef,undef,undef,undef,undef,undef,undef],defers := [] } _
  gi_wp2
  have HJ0:=Ha (HJ.out [] W W.drew none H0.out (qk (Below.refl _ W).drew) (fun r e=>by cases e))
  generalize W.drew=Wd at *
  gi_loopw [3,4] (fun r m wr=>∃ (pre:List WS) (t:ByteArray) (b:Bool),r = .string t∧m = .bool b∧Hid (wl s.data.toList=pre.map (·.1)++rem b t.data.toList)∧t.size≤1000∧Hid (J pre wr))
   (fun r m _=>yj r m)
  case atStart=>exact ⟨[],s,!s.toList.isEmpty,rfl,rfl,by show _=_;rw [List.map_nil,List.nil_append,Cq,ByteArray.toList_eq],hs,HJ0⟩
  case round =>
   clear HJ0 H0
   obtain ⟨pre,t,b,rfl,rfl,hx,ht,hJs⟩:=hrel
   cases b
   ·gi_wp2
    go_end0
    exact ⟨⟨_,rfl⟩,.inl ⟨_,by have:=hx.out;unfold rem at this;rw [if_neg (by decide),List.append_nil] at this;exact this.symm,hJs.out⟩⟩
   ·have C:=Ha (xX 32 t wr (by omega))
    have h2:=rO (c:=32) (s:=t)
    have hk1:(k1 32 t).size≤1000:=by
     show (bO _).size≤1000
     rw [ai]
     exact Nat.le_trans (kS 32 t.data.toList).1 ht
    obtain ⟨y,hy⟩:∃ y:WS,y.1=k1 32 t:=⟨⟨_,hk1⟩,rfl⟩
    clear hk1
    have hx2:Hid (wl s.data.toList=(pre ++ [y]).map (·.1)++rem (kH 32 t.data.toList) (k2 32 t).data.toList):=by
     show _=_
     have:=hx.out
     unfold rem at this ⊢
     rw [if_pos rfl,tI] at this
     rw [this,List.map_append,List.map_singleton,hy,List.append_assoc,List.singleton_append,show (k2 32 t).data.toList=kB 32 t.data.toList from aP _]
     rfl
    have hlen:=Ha (show pre.length<(wl s.data.toList).length by rw [hx2.out,List.length_append,List.length_map,List.length_append,List.length_singleton];omega)
    have HYk:=Ha (fun W1 (h:J pre W1)=>HY.out pre y W1 h hlen.out)
    have hk2:(k2 32 t).size≤1000:=by
     show (bO _).size≤1000
     rw [ai]
     exact Nat.le_trans (kS 32 t.data.toList).2 ht
    have HM:Hid (yj (.string (k2 32 t)) (.bool (kH 32 t.data.toList))<yj (.string t) (.bool true)):=by
     show _<t.size+1
     cases hh:kH 32 t.data.toList
     ·exact Nat.succ_pos _
     ·show (k2 32 t).size+1<t.size+1
      have:=yg hh
      show (bO _).size+1<_
      rw [ai]
      have e:t.data.toList.length=t.size:=rfl
      omega
    clear hx h2
    rw [←hy] at C
    clear hy
    generalize k2 32 t=x2 at *
    generalize kH 32 t.data.toList=b2 at *
    gi_wp2_with fail
    refine ⟨trivial,?_⟩
    refine (callsIn_wide.2 C.out).mono ?_
    rintro e w' ⟨rfl,b1⟩
    have hJ2:=Ha (HJ.out pre wr w' none hJs.out (qk b1) (fun r e=>by cases e))
    clear b1 C hJs
    obtain ⟨fn,tmps,assign,body,hy2,hR⟩:=HYk.out w' hJ2.out
    have HR:=Ha hR;clear hR
    gi_wp2
    refine HR.out.mono ?_
    clear HR
    rintro e W3 (⟨rfl,hJ3,hk3⟩ | ⟨rfl,hJx3⟩)
    ·gi_wp2
     go_roundw
     case rel=>exact ⟨_,x2,b2,rfl,rfl,hx2,hk2,hJ3⟩
     case measure=>exact HM.out
    ·gi_wp2
     refine bodyPost_ret (results_none rfl _ _ _) rfl ?_
     exact ⟨⟨_,rfl⟩,.inr ⟨_,⟨_,hx2.out⟩,hJx3⟩⟩
theorem rV (n:Nat) (hn:1≤n) (s:ByteArray) (hs:s.size≤1000) (Bs N0:Nat) (w:World) (hBs:Bs<w.heap.size) (hc:w.cell? ⟨Bs,0,none⟩=some (.string s)) :
  SeqStopsK Fence.wide n Tryz.prog 73 #[.pointer (some ⟨Bs,0,none⟩)] (fun x:WS => #[Value.string x.1]) (Below N0) (fun ys=>ys.map (·.1)=wl s.data.toList) (fun pre=>∃ rest,wl s.data.toList=pre.map (·.1)++rest) (wl s.data.toList).length w:=fun l J Jx W hW hJ _ hY h0 =>
 wm n hn l Bs N0 s hs J Jx hY W hJ ((hW.cell (p:=⟨Bs,0,none⟩) hBs).trans hc) h0
end
end T
end Go.Proofs.YtocalfjfjjljnaaGreatDoor
