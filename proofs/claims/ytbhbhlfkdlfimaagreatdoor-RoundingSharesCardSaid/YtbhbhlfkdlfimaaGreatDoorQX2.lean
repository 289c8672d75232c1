/- Parts of the proof of the text YtbhbhlfkdlfimaaGreatDoorQX29. -/
import Derived.WalkSmall
import Derived.RangeFuncNested
import Derived.RangeFuncBound
import Derived.RangeFuncCalls
import Derived.RangeFuncLeaves
import Derived.RangeFuncBox
import Derived.Shelf.Abstract
import Derived.OwnWalkIn
import Derived.TacticsInMore
import Derived.LoopNIn
import Derived.LoopIn
import Derived.Maps.AppendAt
import Derived.Test.YtbhbhlfkdlfimaaGreatDoorQX1
set_option linter.all false
set_option maxRecDepth 100000
set_option maxHeartbeats 8000000
namespace Go.Proofs.YtbhbhlfkdlfimaaGreatDoor
section
open Go.RowKit
def Tab (w:World):Prop:=Lib.TabIs Tryz.prog w "internal/strconv.uint64pow10" .u64 Lib.pow10Tab
theorem Fo:Tryz.prog.globalNamed "internal/strconv.uint64pow10" = some 2:=by kernel_rfl
theorem Tab.below {w w':World} {B:Nat} (h:Tab w) (hb:Below B w w') (hB:2<B):Tab w' :=
 var?_below hb Fo hB h
theorem Tab.lt {w:World} (h:Tab w):2<w.heap.size:=by
 unfold Tab Lib.TabIs World.var? at h
 simp only [Fo,Option.bind_some] at h
 by_cases hlt:2<w.heap.size
 ·exact hlt
 ·rw [Array.getElem?_eq_none (by omega)] at h;simp at h
theorem Tab.next {w w':World} (h:Tab w) (hb:Below w.heap.size w w'):Tab w':=h.below hb h.lt
def c9 (a b:List UInt8):Int:=if chk a=0 then chk b else chk a
theorem bW (a b:ByteArray) (w:World) (ha:a.size≤maxLen) (hb:b.size≤maxLen) :
  Calls Tryz.prog 43 #[.string a,.string b] w fun e w'=>e = .returned (.int .i64 (c9 a.data.toList b.data.toList))∧w=w':=by
 generalize hx:chk a.data.toList=x
 have HX:=Ha hx;clear hx
 by_cases h0:(x==0)=true
 ·have hn:(x != 0)=false:=by simpa using h0
  go_enter Tryz.func43,Tryz.ntmps43
  go_wp2_with fail
  refine (f9 a _ ha).mono ?_
  rw [HX.out];rintro e w' ⟨rfl,rfl⟩
  go_wp2_with fail
  refine (f9 b _ hb).mono ?_
  rintro e w' ⟨rfl,rfl⟩
  go_wp2
  go_ret
  exact ⟨ao (by unfold c9;rw [HX.out,if_pos (by simpa using h0)]),rfl⟩
 ·have hn:(x != 0)=true:=by simpa using h0
  go_enter Tryz.func43,Tryz.ntmps43
  go_wp2_with fail
  refine (f9 a _ ha).mono ?_
  rw [HX.out];rintro e w' ⟨rfl,rfl⟩
  go_wp2
  go_ret
  exact ⟨ao (by unfold c9;rw [HX.out,if_neg (by simpa using h0)]),rfl⟩
theorem aY (s:ByteArray) (w:World) (_hs:s.size≤maxLen) :
  Calls Tryz.prog 45 #[.string s] w fun e w'=>e = .returned (.bool (decide ((s.size:Int)≤18)))∧w=w':=by
 go_enter Tryz.func45,Tryz.ntmps45
 go_wp2
 go_ret
 exact ⟨rfl,rfl⟩
theorem dh {l:List UInt8} (h:chk l=0):∀ c∈szL l,aA c=true:=by
 by_cases h1:(szL l).all aA=true
 ·exact List.all_eq_true.1 h1
 ·rw [cS (by simpa using h1)] at h;cases h
theorem jo (l:List UInt8) (h:∀ c∈l,aA c=true) (hl:l.length≤18):ah l<1000000000000000000:=by
 have:=j4 l h l.length hl
 rwa [List.take_length] at this
theorem bY (l:List UInt8):valOf l=if aw l=true then -(ah (szL l):Int) else (ah (szL l):Int):=by
 unfold valOf szL;split <;> simp_all
theorem gA (l:List UInt8):(szL l).length≤l.length:=by
 unfold szL;split
 ·rw [List.length_tail];omega
 ·exact Nat.le_refl _
theorem bX {l:List UInt8} (h:chk l=0) (hl:l.length≤18) : -1000000000000000000<valOf l∧valOf l<1000000000000000000:=by
 have h1:=jo (szL l) (dh h) (Nat.le_trans (gA l) hl)
 rw [bY];split <;> omega
theorem dc (s:ByteArray) (w:World) (hs:s.size≤18) (hc:chk s.data.toList=0) :
  Calls Tryz.prog 262 #[.string s] w fun e w'=>e = .returned (.int .i64 (valOf s.data.toList))∧w=w':=by
 have hd:=Ha (dh hc)
 clear hc
 have h1:=jo (szL s.data.toList) hd.out (Nat.le_trans (gA _) hs)
 have hv:=Ha (bY s.data.toList)
 by_cases h:aw s.data.toList=true
 ·have h0:=iA h
  have hz:szB s=s.extract 1 s.size:=by unfold szB;rw [if_pos h]
  have HZ:=Ha (bL s);have HZ2:=Ha hz;clear hz
  have hz3:(s.extract 1 s.size).size≤18:=by rw [ByteArray.size_extract];omega
  have c:=gU (s.extract 1 s.size) w hz3 (by rw [←HZ2.out,HZ.out];exact hd.out)
  rw [←HZ2.out,HZ.out] at c
  rw [HZ2.out] at c
  generalize ah (szL s.data.toList)=n at *
  go_enter Tryz.func262,Tryz.ntmps262
  go_wp2_with fail
  refine (bK s _).mono ?_;rw [h];rintro e w' ⟨rfl,rfl⟩
  go_wp2_with fail
  refine c.mono ?_;clear c;rintro e w' ⟨rfl,rfl⟩
  go_wp2
  go_ret
  exact ⟨ao (by rw [hv.out,if_pos h]),rfl⟩
 ·have h':aw s.data.toList=false:=by simpa using h
  have hz:szB s=s:=by unfold szB;rw [if_neg h]
  have HZ:=Ha (bL s);have HZ2:=Ha hz;clear hz
  have c:=gU s w hs (by rw [←HZ2.out,HZ.out];exact hd.out)
  rw [←HZ2.out,HZ.out] at c
  rw [HZ2.out] at c
  generalize ah (szL s.data.toList)=n at *
  go_enter Tryz.func262,Tryz.ntmps262
  go_wp2_with fail
  refine (bK s _).mono ?_;rw [h'];rintro e w' ⟨rfl,rfl⟩
  go_wp2_with fail
  refine c.mono ?_;clear c;rintro e w' ⟨rfl,rfl⟩
  go_wp2
  go_ret
  exact ⟨ao (by rw [hv.out,if_neg h]),rfl⟩
def aa (z:Int):ByteArray:=⟨(Lib.itoa z).toArray⟩
theorem aF (z:Int):(aa z).data.toList=Lib.itoa z:=by unfold aa;simp
theorem dt (z:Int) (w:World) (h0 : -9223372036854775808≤z) (h1:z≤9223372036854775807) (ht:Tab w) :
  Calls Tryz.prog 46 #[.int .i64 z] w fun e w'=>e = .returned (.string (aa z))∧Below w.heap.size w w':=by
 have c:=Tryz.strconv_FormatInt_10 z h0 h1 w ht
 clear h0 h1
 go_enter Tryz.func46,Tryz.ntmps46
 go_wp2_with fail
 refine c.mono ?_
 clear c
 rintro e w' ⟨rfl,k,os,rfl⟩
 go_wp2
 go_ret
 exact ⟨rfl,Lib.below_grow _ _ (Nat.le_refl _) _ _⟩
theorem fg {k1 k2:IntKind} {a b c d:Int} (h:a=b) (h2:c=d):Ending.returned (.tuple #[.int k1 a,.int k2 c]) = .returned (.tuple #[.int k1 b,.int k2 d]):=by rw [h,h2]
theorem xW (a b:Int) (ha : -1000000000000000000<a) (ha':a<1000000000000000000) : -1000000000000000000<a.tdiv b∧a.tdiv b<1000000000000000000:=by
 have h:=Int.natAbs_tdiv_le_natAbs a b
 omega
theorem xX (a b:Int) (ha : -1000000000000000000<a) (ha':a<1000000000000000000) : -1000000000000000000<a.tmod b∧a.tmod b<1000000000000000000:=by
 have h:=Int.natAbs_tmod a b
 have h2:=Nat.mod_le a.natAbs b.natAbs
 omega
theorem gK (a b:Int) (w:World) (ha : -1000000000000000000<a) (ha':a<1000000000000000000) (hb : -1000000000000000000<b) (hb':b<1000000000000000000) (h0:b≠0) :
   Calls Tryz.prog 200 #[.int .i64 a,.int .i64 b] w fun e w'=>e = .returned (.tuple #[.int .i64 (a.fdiv b),.int .i64 (a.fmod b)])∧∃ n,w'=w.drewN n:=by
 have hq:=xW a b ha ha'
 have hr:=xX a b ha ha'
 have hz:(b==0)=false:=by simpa using h0
 have e1:=Ha (fun h => @lV a b h0 h)
 have e2:=Ha (fun h h' => @kg a b h0 h h')
 go_enter Tryz.func200,Tryz.ntmps200
 go_wp2
 go_quiet (fail)
 generalize a.tdiv b=q at *
 generalize a.tmod b=r at *
 by_cases c0:r=0
 · have c1:(r != 0)=false:=by simpa using c0
   clear c0
   go_wp2
   go_returns
   obtain ⟨f1,f2⟩:=e1.out (.inl (by simpa using c1))
   exact ⟨fg f1.symm f2.symm,_,rfl⟩
 · have c1:(r != 0)=true:=by simpa using c0
   clear c0
   by_cases c2:r<0 <;> by_cases c3:b<0
   all_goals
     go_wp2
     go_returns
     first
     | (obtain ⟨f1,f2⟩:=e1.out (.inr (by omega))
        exact ⟨fg f1.symm f2.symm,_,rfl⟩)
     | (obtain ⟨f1,f2⟩:=e2.out (by simpa using c1) (by omega)
        exact ⟨fg f1.symm f2.symm,_,rfl⟩)
theorem gB (a b:Nat) (w:World) (ha:a<18446744073709551616) (hb:b<18446744073709551616) :
  Calls Tryz.prog 47 #[.int .u64 a,.int .u64 b] w fun e w'=>e = .returned (.int .u64 (Nat.gcd a b:Nat))∧∃ n,w'=w.drewN n:=by
 go_enter Tryz.func47,Tryz.ntmps47
 go_wp2
 go_loopw [0,1] (fun x y wr=>∃ a' b':Nat,a'<18446744073709551616∧b'<18446744073709551616∧x = .int .u64 a'∧y = .int .u64 b'∧Hid (Nat.gcd a' b'=Nat.gcd a b)∧∃ n,wr=w.drewN n) (fun _ y _=>(intOf y).toNat)
 case atStart=>exact ⟨a,b,ha,hb,rfl,rfl,rfl,0,rfl⟩
 case round =>
  obtain ⟨a',b',ha',hb',rfl,rfl,hg,m,rfl⟩:=hrel
  clear ha hb
  by_cases h0:b'=0
  ·subst h0
   go_wp2
   go_ret
   exact ⟨ao (by have:=hg.out;rw [Nat.gcd_zero_right] at this;rw [this]),m,rfl⟩
  ·have hne:((b':Int) != 0)=true:=by simpa using h0
   have hne2:((b':Int)==0)=false:=by simpa using h0
   have hlt:a' % b'<b':=Nat.mod_lt _ (by omega)
   have hcast:((a' % b':Nat):Int)=(a':Int) % (b':Int):=Int.natCast_emod _ _
   have HC:=Ha hcast;clear hcast
   have hg2:Hid (Nat.gcd b' (a' % b')=Nat.gcd a b):=by
    show Nat.gcd b' (a' % b')=Nat.gcd a b
    rw [←hg.out,Nat.gcd_comm a' b',Nat.gcd_rec b' a',Nat.gcd_comm]
   clear hg h0
   go_wp2
   go_quiet (fail)
   go_wp2
   go_roundw
   case rel=>exact ⟨b',a' % b',hb',by omega,rfl,by rw [HC.out],hg2,_,World.drewN_drewN _ _ _⟩
   case measure=>simp [intOf];omega
theorem ud (n:Nat) (hn:n<1000000000000000000) (h0:n≠0) :
  Lib.bitLen n≤60∧am n<2 ^ ((Lib.bitLen n+1) / 2):=by
 have h1:Lib.bitLen n≤60:=Lib.bitLen_le n 60 (by decide) (by omega)
 refine ⟨h1,tz _ _ ?_⟩
 obtain ⟨_,_,h4⟩:=Lib.bitLenAux_bounds 64 n (by omega) h0
 have h5:n<2 ^ Lib.bitLen n:=h4
 refine Nat.lt_of_lt_of_le h5 ?_
 rw [←Nat.pow_add]
 exact Nat.pow_le_pow_right (by decide) (by omega)
theorem DA (k:Nat) (h:k≤30):IntKind.u64.wrap ((2:Int) ^ k)=((2 ^ k:Nat):Int)∧0<2 ^ k∧2 ^ k≤1073741824:=by
 have h1:2 ^ k≤2 ^ 30:=Nat.pow_le_pow_right (by decide) h
 have h2:0<2 ^ k:=Nat.pow_pos (by decide)
 refine ⟨?_,h2,h1⟩
 have h3:((2:Int) ^ k)=((2 ^ k:Nat):Int):=by rw [Int.natCast_pow];rfl
 rw [h3]
 exact IntWalk.u64_in _ ⟨by omega,by omega⟩
theorem nF (n:Nat) (w:World) (hn:n<1000000000000000000) :
  Calls Tryz.prog 306 #[.int .u64 n] w fun e w'=>e = .returned (.int .u64 (am n:Nat))∧w=w':=by
 by_cases h0:n=0
 ·subst h0
  have hr:am 0=0:=gn (by simp [IsRoot])
  have HR:=Ha hr;clear hr
  go_enter Tryz.func306,Tryz.ntmps306
  go_wp2
  go_ret
  exact ⟨ao (by rw [HR.out];rfl),rfl⟩
 ·have hne:((n:Int)==0)=false:=by simpa using h0
  obtain ⟨hl,hg⟩:=ud n hn h0
  obtain ⟨hw,hp,hle⟩:=DA ((Lib.bitLen n+1) / 2) (by omega)
  have HR:=Ha (bZ n)
  have hr1:0<am n:=by
   have h2:=(bZ n).2
   apply Decidable.byContradiction;intro hc
   have e:am n=0:=by omega
   rw [e] at h2;simp at h2;omega
  generalize am n=r at *
  have HW:=Ha hw;clear hw
  go_enter Tryz.func306,Tryz.ntmps306
  go_wp2_with fail
  refine (Tryz.bits_Len64 n _ (by omega) (by omega)).mono ?_
  rw [Int.toNat_natCast]
  rintro e w' ⟨rfl,rfl⟩
  generalize Lib.bitLen n=L at *
  generalize 2 ^ ((L+1) / 2)=g0 at *
  go_wp2
  rw [HW.out]
  clear HW
  go_loop [3] (fun x=>∃ g:Nat,0<g∧g≤1073741824∧r≤g∧x = .int .u64 g) (fun x=>(intOf x).toNat)
  case atStart=>exact ⟨g0,hp,hle,by omega,rfl⟩
  case round =>
   clear hg hle hp
   obtain ⟨g,hp,hle,hg,rfl⟩:=hrel
   have hgz:((g:Int)==0)=false:=by rw [beq_eq_false_iff_ne];omega
   have hd:n / g≤n:=Nat.div_le_self _ _
   have H1:=qL n g hp r HR.out
   have H2:=Ha (mN n g r hp HR.out hg)
   have HC:=Ha (Int.natCast_ediv n g)
   generalize n / g=d at *
   rw [show Hid ((d:Int)=(n:Int) / (g:Int))=((d:Int)=(n:Int) / (g:Int)) from rfl] at HC
   have HD:=Ha HC;clear HC
   have hq0:0≤(n:Int) / (g:Int):=by rw [←HD.out];omega
   have hq1:(n:Int) / (g:Int)≤n:=by rw [←HD.out];omega
   by_cases hc:g≤(g+d) / 2
   ·have hc':(g:Int)≤((g:Int)+(n:Int) / (g:Int)) / 2:=by rw [←HD.out];omega
    go_wp2
    go_ret
    exact ⟨ao (by rw [H2.out hc]),rfl⟩
   ·have hc':((g:Int)+(n:Int) / (g:Int)) / 2<(g:Int):=by rw [←HD.out];omega
    go_wp2
    go_round
    case rel=>exact ⟨(g+d) / 2,by omega,by omega,H1,by rw [←HD.out];go_num⟩
    case measure=>simp [intOf];omega
end
section
def B:Nat:=1000000000
theorem fN:B=1000000000:=rfl
theorem cK:0<B:=by decide
def toN:List Nat→Nat
 | []=>0
 | d::r=>d+B*toN r
def Dig (l:List Nat):Prop:=∀ x∈l,x<1000000000
theorem Dig.nil:Dig []:=fun _ h=>by cases h
theorem Dig.cons {d:Nat} {l:List Nat} (h:d<1000000000) (hl:Dig l):Dig (d::l):=fun x hx=>by
 rcases List.mem_cons.1 hx with rfl | hx
 ·exact h
 ·exact hl x hx
theorem Dig.head {d:Nat} {l:List Nat} (h:Dig (d::l)):d<1000000000:=h d (by simp)
theorem Dig.tail {d:Nat} {l:List Nat} (h:Dig (d::l)):Dig l:=fun x hx=>h x (by simp [hx])
theorem Dig.take {l:List Nat} (h:Dig l) (k:Nat):Dig (l.take k):=fun x hx=>h x (List.mem_of_mem_take hx)
theorem Dig.drop {l:List Nat} (h:Dig l) (k:Nat):Dig (l.drop k):=fun x hx=>h x (List.mem_of_mem_drop hx)
theorem Dig.append {l m:List Nat} (h:Dig l) (h':Dig m):Dig (l++m):=fun x hx=>by
 rcases List.mem_append.1 hx with hx | hx
 ·exact h x hx
 ·exact h' x hx
theorem Dig.one {d:Nat} (h:d<1000000000):Dig [d]:=Dig.cons h Dig.nil
theorem Dig.getD {l:List Nat} (h:Dig l) (i:Nat):l.getD i 0<1000000000:=by
 by_cases hi:i<l.length
 ·rw [List.getD_eq_getElem?_getD,List.getElem?_eq_getElem hi];exact h _ (List.getElem_mem _)
 ·rw [List.getD_eq_getElem?_getD,List.getElem?_eq_none (by omega)];simp
theorem Dig.replicate (k:Nat):Dig (List.replicate k 0):=fun x hx=>by
 rw [(List.mem_replicate.1 hx).2];decide
theorem bT (l m:List Nat):toN (l++m)=toN l+B ^ l.length*toN m:=by
 induction l with
 | nil=>simp [toN]
 | cons d r ih =>
  simp only [List.cons_append,toN,ih,List.length_cons,Nat.pow_succ]
  rw [Nat.mul_add,Nat.add_assoc,←Nat.mul_assoc,Nat.mul_comm B (B ^ r.length)]
theorem aW (l:List Nat) (d:Nat):toN (l ++ [d])=toN l+B ^ l.length*d:=by
 rw [bT];simp [toN]
theorem dQ (k:Nat):toN (List.replicate k 0)=0:=by
 induction k with
 | zero=>rfl
 | succ k ih=>rw [List.replicate_succ];simp [toN,ih]
theorem cO {l:List Nat} (h:Dig l):toN l<B ^ l.length:=by
 induction l with
 | nil=>simp [toN]
 | cons d r ih =>
  have h1:=ih h.tail
  have h2:=h.head
  rw [toN,List.length_cons,Nat.pow_succ,Nat.mul_comm (B ^ r.length) B]
  have h3:B*toN r+B≤B*B ^ r.length:=by
   rw [←Nat.mul_succ];exact Nat.mul_le_mul_left B h1
  rw [fN] at *
  omega
theorem bj (l:List Nat) (k:Nat) (h:k<l.length):l.take (k+1)=l.take k ++ [l.getD k 0]:=by
 rw [List.take_succ_eq_append_getElem h,List.getD_eq_getElem?_getD,List.getElem?_eq_getElem h];rfl
theorem aC (l:List Nat) (k:Nat) (h:k<l.length):toN (l.take (k+1))=toN (l.take k)+B ^ k*l.getD k 0:=by
 rw [bj l k h,aW,List.length_take,Nat.min_eq_left (by omega)]
def dg (n:Nat):List Nat:=if _h:n=0 then [] else n % B::dg (n / B)
termination_by n
decreasing_by exact Nat.div_lt_self (by omega) (by decide)
theorem aD:dg 0 = []:=by rw [dg];rfl
theorem dC {n:Nat} (h:n≠0):dg n=n % B::dg (n / B):=by rw [dg,dif_neg h]
theorem aE (n:Nat):toN (dg n)=n:=by
 induction n using Nat.strongRecOn with
 | _ n ih =>
  by_cases h:n=0
  ·subst h;rw [aD];rfl
  ·rw [dC h,toN,ih (n / B) (Nat.div_lt_self (by omega) (by decide))]
   exact Nat.mod_add_div n B
theorem aB (n:Nat):Dig (dg n):=by
 induction n using Nat.strongRecOn with
 | _ n ih =>
  by_cases h:n=0
  ·subst h;rw [aD];exact Dig.nil
  ·rw [dC h]
   exact Dig.cons (Nat.mod_lt _ (by decide)) (ih (n / B) (Nat.div_lt_self (by omega) (by decide)))
theorem dW {l:List Nat} (hne:l ≠ []) (hl:l.getLast? ≠ some 0):0<toN l:=by
 induction l with
 | nil=>exact absurd rfl hne
 | cons d r ih =>
  rw [toN]
  by_cases hr:r = []
  ·subst hr
   have:d≠0:=fun e=>hl (by rw [e];rfl)
   omega
  ·have h1:=ih hr (by rwa [List.getLast?_cons_of_ne_nil hr] at hl)
   have:=Nat.mul_pos cK h1
   omega
theorem pg {l:List Nat} (h:Dig l) (hl:l.getLast? ≠ some 0):dg (toN l)=l:=by
 induction l with
 | nil=>exact aD
 | cons d r ih =>
  have h0:=dW (l:=d::r) (by simp) hl
  have hd:d<B:=h.head
  rw [dC (by omega)]
  simp only [toN]
  have e1:(d+B*toN r) % B=d:=by rw [Nat.add_mul_mod_self_left];exact Nat.mod_eq_of_lt hd
  have e2:(d+B*toN r) / B=toN r:=by
   rw [Nat.add_mul_div_left _ _ cK,Nat.div_eq_of_lt hd];omega
  rw [e1,e2]
  by_cases hr:r = []
  ·subst hr;rw [show toN []=0 from rfl,aD]
  ·rw [ih h.tail (by rwa [List.getLast?_cons_of_ne_nil hr] at hl)]
theorem xY (n:Nat):(dg n).getLast? ≠ some 0:=by
 induction n using Nat.strongRecOn with
 | _ n ih =>
  by_cases h:n=0
  ·subst h;rw [aD];simp
  ·rw [dC h]
   have h1:=ih (n / B) (Nat.div_lt_self (by omega) (by decide))
   by_cases hr:dg (n / B) = []
   ·rw [hr]
    intro e
    have e:n % B=0:=by simpa using e
    have e2:n / B=0:=by have:=aE (n / B);rw [hr] at this;exact this.symm
    have:=Nat.mod_add_div n B
    rw [e,e2] at this;omega
   ·rwa [List.getLast?_cons_of_ne_nil hr]
theorem dD (n:Nat):dg n = []↔n=0:=by
 constructor
 ·intro h;have:=aE n;rw [h] at this;exact this.symm
 ·rintro rfl;exact aD
theorem av (n k : Nat) : (dg n).length ≤ k ↔ n < B ^ k := by
 constructor
 · intro h
   have h1 := cO (aB n)
   rw [aE] at h1
   exact Nat.lt_of_lt_of_le h1 (Nat.pow_le_pow_right cK h)
 · induction k generalizing n with
   | zero => intro h; have : n = 0 := by simpa using h
             subst this; rw [aD]; exact Nat.le_refl _
   | succ k ih =>
     intro h
     by_cases h0 : n = 0
     · subst h0; rw [aD]; simp
     · rw [dC h0, List.length_cons]
       have := ih (n / B) (by rw [Nat.div_lt_iff_lt_mul cK]; rwa [Nat.pow_succ] at h)
       omega
theorem gC {l:List Nat} (h:Dig l) (k:Nat) (hk:k≤l.length) (hv:toN (l.take k)=toN l) (hl:k=0∨l.getD (k - 1) 0≠0):dg (toN l)=l.take k:=by
 rw [←hv]
 refine pg (h.take k) ?_
 rcases hl with rfl | hl
 ·simp
 ·intro e
  by_cases h0:k=0
  ·subst h0;simp at e
  ·apply hl
   have h1:k - 1<l.length:=by omega
   have h2:=bj l (k - 1) h1
   rw [Nat.sub_add_cancel (by omega)] at h2
   rw [h2,List.getLast?_concat] at e
   exact Option.some.inj e
theorem wg {n:Nat} (h0:n≠0) (h:n<B):dg n = [n]:=by
 rw [dC h0,Nat.mod_eq_of_lt h,Nat.div_eq_of_lt h,aD]
end
section
open Go.RowKit
def Nats (w:World) (v:Value) (l:List Nat):Prop :=
 ∃ p cap,v = .slice p l.length cap∧l.length≤cap∧cap≤9223372036854775807 ∧
  (l ≠ []→∃ b off,p=some ⟨b,off,none⟩∧∀ i,i<l.length→w.cell? ⟨b,off+i,none⟩=some (.int .u64 (l.getD i 0:Nat)))
theorem Nats.next {w w':World} {v:Value} {l:List Nat} (h:Nats w v l) (hb:Below w.heap.size w w'):Nats w' v l:=by
 obtain ⟨p,cap,rfl,h1,h2,h3⟩:=h
 refine ⟨p,cap,rfl,h1,h2,fun hne => ?_⟩
 obtain ⟨b,off,e,hc⟩:=h3 hne
 exact ⟨b,off,e,fun i hi=>(hb.cell (World.block_lt_of_cell? w _ (hc i hi))).trans (hc i hi)⟩
theorem Nats.nil (w:World):Nats w (.slice none 0 0) []:=⟨none,0,rfl,Nat.le_refl _,by decide,fun h=>absurd rfl h⟩
theorem sE (v:Value) (l:List Nat) (i:Int) (w:World) (h:Nats w v l) (hi:0≤i) (hi':i≤4611686018427387904) :
  Calls Tryz.prog 137 #[v,.int .i64 i] w fun e w'=>e = .returned (.int .u64 (l.getD i.toNat 0:Nat))∧w=w':=by
 obtain ⟨p,cap,rfl,h1,h2,h3⟩:=h
 by_cases hlt:i<(l.length:Int)
 ·obtain ⟨b,off,rfl,hc⟩:=h3 (by intro e;subst e;simp at hlt;omega)
  have hc':=hc i.toNat (by omega)
  clear hc
  have e1:((i.toNat:Nat):Int)=i:=by omega
  generalize l.length=n at *
  generalize l.getD i.toNat 0=d at *
  obtain ⟨k,rfl⟩:∃ k:Nat,i=k:=⟨i.toNat,by omega⟩
  rw [Int.toNat_natCast] at hc'
  clear e1
  go_enter Tryz.func137,Tryz.ntmps137
  go_wp2
  go_ret
  exact ⟨rfl,rfl⟩
 ·have e:l.getD i.toNat 0=0:=by rw [List.getD_eq_getElem?_getD,List.getElem?_eq_none (by omega)];rfl
  rw [e]
  generalize l.length=n at *
  clear h3 e
  go_enter Tryz.func137,Tryz.ntmps137
  go_wp2
  go_ret
  exact ⟨rfl,rfl⟩
def lenOf:Value→Nat | .slice _ n _=>n | _=>0
theorem bE (p:Option Addr) (cap:Nat) (l:List Nat) (w:World) (h:Nats w (.slice p l.length cap) l) (hd:Dig l) :
  Calls Tryz.prog 94 #[.slice p l.length cap] w fun e w'=>e = .returned (.slice p (dg (toN l)).length cap)∧w=w':=by
 obtain ⟨p',cap',he,h1,h2,h3⟩:=h
 simp only [Value.slice.injEq,true_and] at he
 obtain ⟨rfl,rfl⟩:=he
 have H3:=Ha h3;clear h3
 have HD:=Ha hd;clear hd
 go_enter Tryz.func94,Tryz.ntmps94
 go_wp2
 go_loop [0] (fun x=>∃ k:Nat,k≤l.length∧x = .slice p k cap∧Hid (toN (l.take k)=toN l)) (fun x=>lenOf x)
 case atStart=>exact ⟨l.length,Nat.le_refl _,rfl,by show toN _=_;rw [List.take_length]⟩
 case round =>
  obtain ⟨k,hk,rfl,hv⟩:=hrel
  by_cases h0:k=0
  ·subst h0
   have he:=gC HD.out 0 hk hv.out (.inl rfl)
   have HE:=Ha (show (dg (toN l)).length=0 by rw [he];simp);clear he
   go_wp2
   go_ret
   exact ⟨by rw [HE.out];rfl,rfl⟩
  ·obtain ⟨b,off,rfl,hc⟩:=H3.out (by intro e;subst e;simp at hk;omega)
   have hc1:=hc (k - 1) (by omega)
   have HC:=Ha hc;clear hc
   obtain ⟨j,rfl⟩:∃ j,k=j+1:=⟨k - 1,by omega⟩
   rw [Nat.add_sub_cancel] at hc1
   have ej:((j+1:Nat):Int) - 1=(j:Int):=by omega
   have HJ:=Ha ej;clear ej
   have hs:=aC l j (by omega)
   have HS:=Ha hs;clear hs
   have hl:=Ha (gC HD.out (j+1) hk hv.out)
   have hdd:=Ha (show l.getD j 0=l.getD j 0 from rfl)
   by_cases hz:l.getD j 0=0
   ·have hv2:Hid (toN (l.take j)=toN l):=by
     show toN (l.take j)=toN l
     rw [←hv.out,HS.out,hz];simp
    rw [hz] at hc1
    have HZ:=Ha hz;clear hz hl hv HS hdd
    generalize l.length=n at *
    go_wp2
    go_round
    case rel=>exact ⟨j,by omega,rfl,hv2⟩
    case measure=>simp [lenOf]
   ·have hz':(((l.getD j 0:Nat):Int)==0)=false:=by rw [beq_eq_false_iff_ne];omega
    have hr:(dg (toN l)).length=j+1:=by
     rw [hl.out (.inr (by rw [Nat.add_sub_cancel];exact hz)),List.length_take];omega
    have HR:=Ha hr;clear hr hz hl hv HS hdd
    generalize l.getD j 0=d at *
    generalize l.length=n at *
    go_wp2
    go_ret
    exact ⟨by rw [HR.out];rfl,rfl⟩
theorem aO {l:List Nat} (h:Dig l):dg (toN l) <+: l:=by
 induction l using gj with
 | h0=>rw [show toN []=0 from rfl,aD];exact List.prefix_refl _
 | hs m d ih =>
  by_cases hd:d=0
  ·subst hd
   rw [aW,Nat.mul_zero,Nat.add_zero]
   exact (ih (fun x hx=>h x (by simp [hx]))).trans (List.prefix_append _ _)
  ·rw [pg h (by rw [List.getLast?_concat];intro e;exact hd (Option.some.inj e))]
   exact List.prefix_refl _
theorem Nats.take {w:World} {p:Option Addr} {cap:Nat} {l m:List Nat} (h:Nats w (.slice p l.length cap) l) (hm:m <+: l):Nats w (.slice p m.length cap) m:=by
 obtain ⟨p',cap',he,h1,h2,h3⟩:=h
 simp only [Value.slice.injEq,true_and] at he
 obtain ⟨rfl,rfl⟩:=he
 refine ⟨p,cap,rfl,Nat.le_trans hm.length_le h1,h2,fun hne => ?_⟩
 obtain ⟨r,rfl⟩:=hm
 obtain ⟨b,off,e,hc⟩:=h3 (by simp [hne])
 refine ⟨b,off,e,fun i hi => ?_⟩
 rw [hc i (by rw [List.length_append];omega)]
 rw [List.getD_eq_getElem?_getD,List.getD_eq_getElem?_getD,List.getElem?_append_left hi]
def Fresh (base:Nat) (v:Value):Prop:=∀ k,v.ownBlock=some k→base≤k
theorem Fresh.mono {a b:Nat} {v:Value} (h:Fresh b v) (hab:a≤b):Fresh a v:=fun k hk=>Nat.le_trans hab (h k hk)
theorem Fresh.nil (b:Nat):Fresh b (.slice none 0 0):=fun k hk=>by cases hk
theorem fO (v:Value) (l:List Nat) (w:World) (h:Nats w v l) (hd:Dig l) :
  Calls Tryz.prog 94 #[v] w fun e w'=>w=w'∧∃ v',e = .returned v'∧Nats w v' (dg (toN l))∧v'.ownBlock=v.ownBlock:=by
 have h':=h
 obtain ⟨p,cap,rfl,h1,h2,h3⟩:=h
 refine (bE p cap l w h' hd).mono fun e w' ⟨he,hw⟩=>⟨hw,_,he,h'.take (aO hd),?_⟩
 cases p <;> rfl
def IsNat (w:World) (v:Value) (n:Nat):Prop:=Nats w v (dg n)
theorem IsNat.next {w w':World} {v:Value} {n:Nat} (h:IsNat w v n) (hb:Below w.heap.size w w'):IsNat w' v n:=Nats.next h hb
theorem wh (w:World):IsNat w (.slice none 0 0) 0:=by unfold IsNat;rw [aD];exact Nats.nil w
theorem Nats.of_cells {w:World} {b:Nat} {l:List Nat} {cap:Nat} (h1:l.length≤cap) (h2:cap≤9223372036854775807)
  (h:∀ i,i<l.length→w.cell? ⟨b,i,none⟩=some (.int .u64 (l.getD i 0:Nat))):Nats w (.slice (some ⟨b,0,none⟩) l.length cap) l :=
 ⟨_,cap,rfl,h1,h2,fun _=>⟨b,0,rfl,fun i hi=>by rw [Nat.zero_add];exact h i hi⟩⟩
theorem Be (w:World) (x y:Nat) (e:TypeId) :
  Nats (w.alloc (.cells #[.int .u64 x,.int .u64 y] e)) (.slice (some ⟨w.heap.size,0,none⟩) 2 2) [x,y] :=
 Nats.of_cells (l := [x,y]) (Nat.le_refl _) (by decide) (fun i hi=>by
  match i,hi with
  | 0,_=>go_cell
  | 1,_=>go_cell)
theorem gL (n:Nat) (w:World) (hn:n<1000000000000000000) :
  Calls Tryz.prog 91 #[.int .u64 n] w fun e w'=>∃ v,e = .returned v∧IsNat w' v n∧Fresh w.heap.size v∧Below w.heap.size w w':=by
 have hv:toN [n % 1000000000,n / 1000000000]=n:=by
  simp only [toN,Nat.mul_zero,Nat.add_zero,fN];omega
 have hd:Dig [n % 1000000000,n / 1000000000]:=Dig.cons (by omega) (Dig.one (by omega))
 have c:=fO _ _ _ (Be w (n % 1000000000) (n / 1000000000) 82) hd
 rw [Int.natCast_emod,Int.natCast_ediv,hv] at c
 have C:=Ha c;clear c hv hd
 go_enter Tryz.func91,Tryz.ntmps91
 go_wp2_with fail
 refine C.out.mono ?_
 rintro e w' ⟨rfl,v,rfl,hv,ho⟩
 have HV:=Ha hv;clear hv C
 have HO:=Ha ho;clear ho
 go_wp2
 go_ret
 exact ⟨v,rfl,HV.out,fun k hk=>by rw [HO.out] at hk;cases hk;exact Nat.le_refl _,(Below.refl _ _).alloc (Nat.le_refl _) _⟩
theorem dw (n i:Nat):(dg n).getD i 0=n / B ^ i % B:=by
 induction i generalizing n with
 | zero =>
  by_cases h:n=0
  ·subst h;rw [aD];simp
  ·rw [dC h];simp
 | succ i ih =>
  by_cases h:n=0
  ·subst h;rw [aD];simp
  ·rw [dC h,List.getD_cons_succ,ih,Nat.pow_succ,Nat.mul_comm,Nat.div_div_eq_div_mul]
theorem dE (v:Value) (n:Nat) (w:World) (h:IsNat w v n) (hn:n<1000000000000000000) :
  Calls Tryz.prog 92 #[v] w fun e w'=>e = .returned (.int .u64 n)∧w=w':=by
 have c1:=sE v (dg n) 1 w h (by decide) (by decide)
 have c0:=sE v (dg n) 0 w h (by decide) (by decide)
 have g1:(dg n).getD 1 0=n / 1000000000:=by
  rw [dw,Nat.pow_one,fN];omega
 have g0:(dg n).getD 0 0=n % 1000000000:=by
  rw [dw,Nat.pow_zero,fN];omega
 rw [show (1:Int).toNat=1 from rfl,g1] at c1
 rw [show (0:Int).toNat=0 from rfl,g0] at c0
 have C1:=Ha c1;have C0:=Ha c0
 clear c1 c0 g1 g0
 obtain ⟨q,hq⟩:∃ q,n / 1000000000=q:=⟨_,rfl⟩
 obtain ⟨r,hr⟩:∃ r,n % 1000000000=r:=⟨_,rfl⟩
 have hqr:q*1000000000+r=n:=by omega
 have hq2:q<1000000000:=by omega
 have hr2:r<1000000000:=by omega
 rw [hq] at C1;rw [hr] at C0
 have HN:=Ha hqr;clear hq hr hqr
 go_enter Tryz.func92,Tryz.ntmps92
 go_wp2_with fail
 refine C1.out.mono ?_
 rintro e w' ⟨rfl,rfl⟩
 go_wp2_with fail
 refine C0.out.mono ?_
 rintro e w' ⟨rfl,rfl⟩
 clear C0 C1
 go_wp2
 go_ret
 exact ⟨ao (by have:=HN.out;omega),rfl⟩
theorem ph (u:Nat) (h:0<u):10 ^ (Lib.nDigits u - 1)≤u:=by
 induction u using Nat.strongRecOn with
 | _ u ih =>
  by_cases hu:u<10
  ·rw [Lib.nDigits_small hu];simp;omega
  ·rw [Lib.nDigits_big hu,Nat.add_sub_cancel]
   have h1:=ih (u / 10) (by omega) (by omega)
   have h2:=Lib.nDigits_pos (u / 10)
   obtain ⟨k,hk⟩:∃ k,Lib.nDigits (u / 10)=k+1:=⟨Lib.nDigits (u / 10) - 1,by omega⟩
   rw [hk] at h1 ⊢
   rw [Nat.add_sub_cancel] at h1
   rw [Nat.pow_succ];omega
theorem pk (d k r:Nat) (hd:0<d) (hr:r<10 ^ k):Lib.nDigits (r+10 ^ k*d)=k+Lib.nDigits d:=by
 have h1:=Lib.nDigits_pos d
 obtain ⟨m,hm⟩:∃ m,Lib.nDigits d=m+1:=⟨Lib.nDigits d - 1,by omega⟩
 have h2:=ph d hd
 have h3:=Lib.lt_pow_nDigits d
 rw [hm] at h2 h3 ⊢
 rw [Nat.add_sub_cancel] at h2
 rw [show k+(m+1)=(k+m)+1 by omega]
 refine Lib.nDigits_unique (k+m) _ ?_ ?_
 ·rw [Nat.pow_add]
  exact Nat.le_trans (Nat.mul_le_mul_left _ h2) (Nat.le_add_left _ _)
 ·have h4:10 ^ k*(d+1)≤10 ^ k*10 ^ (m+1):=Nat.mul_le_mul_left _ h3
  rw [show k+m+1=k+(m+1) by omega,Nat.pow_add]
  rw [Nat.mul_succ] at h4
  omega
theorem ED (k:Nat):B ^ k=10 ^ (9*k):=by rw [Nat.pow_mul];rfl
theorem gD (n:Nat) (h:n≠0):∃ r,r<B ^ ((dg n).length - 1)∧0<(dg n).getD ((dg n).length - 1) 0∧n=r+B ^ ((dg n).length - 1)*(dg n).getD ((dg n).length - 1) 0:=by
 have hne:dg n ≠ []:=fun e=>h ((dD n).1 e)
 have hl:0<(dg n).length:=List.length_pos_iff.2 hne
 have h1:=aC (dg n) ((dg n).length - 1) (by omega)
 rw [Nat.sub_add_cancel hl,List.take_length,aE] at h1
 have h2:=cO ((aB n).take ((dg n).length - 1))
 rw [List.length_take,Nat.min_eq_left (by omega)] at h2
 refine ⟨_,h2,?_,h1⟩
 apply Nat.pos_of_ne_zero
 intro e
 apply xY n
 rw [List.getLast?_eq_getElem?, List.getElem?_eq_getElem (by omega)]
 rw [List.getD_eq_getElem?_getD,List.getElem?_eq_getElem (by omega)] at e
 exact congrArg some e
theorem wi (n:Nat) (h:n≠0):Lib.nDigits n=9*((dg n).length - 1)+Lib.nDigits ((dg n).getD ((dg n).length - 1) 0):=by
 obtain ⟨r,h1,h2,h3⟩:=gD n h
 rw [ED] at h1 h3
 generalize (dg n).getD ((dg n).length - 1) 0=d at *
 generalize (dg n).length - 1=k at *
 subst h3
 exact pk d (9*k) r h2 h1
def fP (n:Nat):Nat:=if n=0 then 0 else Lib.nDigits n
theorem Bf (f:Nat) (h:f≠0):fP f=fP (f / 10)+1:=by
 unfold fP
 rw [if_neg h]
 by_cases h2:f<10
 ·rw [Lib.nDigits_small h2,if_pos (by omega)]
 ·rw [Lib.nDigits_big h2,if_neg (by omega)]
theorem wj (v:Value) (n:Nat) (w:World) (h:IsNat w v n) (hn:(dg n).length≤1000000) :
  Calls Tryz.prog 95 #[v] w fun e w'=>e = .returned (.int .i64 (fP n:Nat))∧w=w':=by
 obtain ⟨p,cap,rfl,h1,h2,h3⟩:=h
 have H3:=Ha h3;clear h3
 by_cases h0:n=0
 ·subst h0
  have HL:=Ha (show (dg 0).length=0 by rw [aD];rfl)
  rw [HL.out]
  rw [HL.out] at h1
  clear hn
  go_enter Tryz.func95,Tryz.ntmps95
  go_wp2
  go_ret
  exact ⟨rfl,rfl⟩
 ·have hne:dg n ≠ []:=fun e=>h0 ((dD n).1 e)
  have hl:0<(dg n).length:=List.length_pos_iff.2 hne
  obtain ⟨b,off,rfl,hc⟩:=H3.out hne
  have hc1:=hc ((dg n).length - 1) (by omega)
  have hd:=(aB n).getD ((dg n).length - 1)
  have HN:=Ha (wi n h0)
  have hdp:0<(dg n).getD ((dg n).length - 1) 0:=by
   obtain ⟨r,_,h5,_⟩:=gD n h0;exact h5
  clear hc H3
  have HR:=Ha (show fP n=Lib.nDigits n by unfold fP;rw [if_neg h0])
  generalize (dg n).getD ((dg n).length - 1) 0=d at *
  generalize Lib.nDigits n=m at *
  obtain ⟨k,hk⟩:∃ k,(dg n).length=k+1:=⟨(dg n).length - 1,by omega⟩
  rw [hk] at hn h1 hc1 HN ⊢
  clear hk hl
  rw [Nat.add_sub_cancel] at hc1 HN
  have ej:((k+1:Nat):Int) - 1=(k:Int):=by omega
  have HD:=Ha (show fP d=Lib.nDigits d by unfold fP;rw [if_neg (by omega)])
  have hdl:fP d≤9:=by rw [HD.out];exact (bh d 9 (by decide)).2 (by omega)
  go_enter Tryz.func95,Tryz.ntmps95
  go_wp2
  go_loop [3,4] (fun x y=>∃ c f:Nat,c≤100∧f<1000000000∧x = .int .i64 ((k:Int)*9+c)∧y = .int .u64 f∧Hid (c+fP f=fP d)) (fun _ y=>(intOf y).toNat)
  case atStart=>exact ⟨0,d,by omega,hd,by go_num,rfl,by show 0+fP d=fP d;omega⟩
  case round =>
   obtain ⟨c,f,hc,hf,rfl,rfl,hh⟩:=hrel
   by_cases hf0:f=0
   ·subst hf0
    have hz:fP 0=0:=rfl
    have hh2:=hh.out
    rw [hz] at hh2
    have HH:=Ha hh2;clear hh2 hz hh hdl
    go_wp2
    go_ret
    exact ⟨ao (by have e1:=HH.out;have e2:=HN.out;have e3:=HR.out;have e4:=HD.out;omega),rfl⟩
   ·have hs:=Bf f hf0
    have hc2:c+1≤100:=by have:=hh.out;omega
    have hh2:Hid (c+1+fP (f / 10)=fP d):=by have:=hh.out;show c+1+fP (f / 10)=fP d;omega
    have HC:=Ha (Int.natCast_ediv f 10)
    have hf10:f / 10<1000000000:=by omega
    clear hs hh hdl
    go_wp2
    go_round
    case rel=>exact ⟨c+1,f / 10,hc2,hf10,by go_num,by rw [HC.out];rfl,hh2⟩
    case measure=>simp [intOf];omega
end
section
open Go.RowKit Go.Shelf
attribute [local go_sem] Oper.semAt_some
abbrev Dg:={ x:Nat // x<1000000000 }
def rd (l:List UInt8):List Dg :=
 if _h:l = [] then [] else ⟨ah (l.drop (l.length - 9)) % 1000000000,Nat.mod_lt _ (by decide)⟩::rd (l.take (l.length - 9))
termination_by l.length
decreasing_by
 have:=List.length_pos_iff.2 _h
 rw [List.length_take];omega
theorem pm:rd [] = []:=by rw [rd];rfl
theorem pn {l:List UInt8} (h:l ≠ []):rd l=⟨ah (l.drop (l.length - 9)) % 1000000000,Nat.mod_lt _ (by decide)⟩::rd (l.take (l.length - 9)):=by
 rw [rd,dif_neg h]
def gR (l:List Dg):List Nat:=l.map (·.1)
theorem ue (l:List Dg):Dig (gR l):=fun x hx=>by
 obtain ⟨y,_,rfl⟩:=List.mem_map.1 hx
 exact y.2
theorem qW (n:Nat):∀ l:List UInt8,l.length≤n→(rd l).length≤l.length:=by
 induction n with
 | zero=>intro l h;have:l = []:=List.eq_nil_of_length_eq_zero (by omega);subst this;rw [pm];simp
 | succ n ih =>
  intro l h
  by_cases h0:l = []
  ·subst h0;rw [pm];simp
  ·have hp:=List.length_pos_iff.2 h0
   rw [pn h0,List.length_cons]
   have:=ih (l.take (l.length - 9)) (by rw [List.length_take];omega)
   rw [List.length_take] at this
   omega
theorem Bg (n:Nat):∀ l:List UInt8,l.length≤n→(∀ c∈l,aA c=true)→toN (gR (rd l))=ah l:=by
 induction n with
 | zero=>intro l h _;have:l = []:=List.eq_nil_of_length_eq_zero (by omega);subst this;rw [pm];rfl
 | succ n ih =>
  intro l h hd
  by_cases h0:l = []
  ·subst h0;rw [pm];rfl
  ·have hp:=List.length_pos_iff.2 h0
   rw [pn h0]
   have h1:=ih (l.take (l.length - 9)) (by rw [List.length_take];omega) (fun c hc=>hd c (List.mem_of_mem_take hc))
   simp only [gR,List.map_cons,toN]
   rw [show toN (List.map (fun x=>x.1) (rd (l.take (l.length - 9))))=ah (l.take (l.length - 9)) from h1]
   have h2:ah (l.drop (l.length - 9))<10 ^ 9:=Nat.lt_of_lt_of_le (aX _ (fun c hc=>hd c (List.mem_of_mem_drop hc))) (Nat.pow_le_pow_right (by decide) (by rw [List.length_drop];omega))
   rw [Nat.mod_eq_of_lt h2]
   conv=>rhs;rw [←List.take_append_drop (l.length - 9) l,eI]
   by_cases h9:l.length≤9
   ·rw [show l.length - 9=0 by omega];simp [ah]
   ·rw [List.length_drop,show l.length - (l.length - 9)=9 by omega,fN,Nat.mul_comm,Nat.add_comm]
def KpS (Bn:Nat) (s:ByteArray) (W W':World):Prop:=W.cell? ⟨Bn,0,none⟩=some (.string s)→W'.cell? ⟨Bn,0,none⟩=some (.string s)
theorem KpS.t {Bn:Nat} {s:ByteArray} {A B C:World} (h:KpS Bn s A B) (k:KpS Bn s B C):KpS Bn s A C:=fun x=>k (h x)
theorem jp {W:World} {l:Nat} {o o':Obj} {a:Addr} {v:Value} (h:W.cell? a=some v) (hl:W.heap[l]? = some o) (ho:o.isCells=false):(W.putObj l o').cell? a=some v:=by
 have hne:a.block≠l:=by
  intro e
  unfold World.cell? at h
  rw [e,hl] at h
  cases o <;> simp_all [Obj.isCells]
 exact (World.cell?_of_block (World.putObj_heap_other hne)).trans h
theorem KpS.b {Bn:Nat} {s:ByteArray} {w:World} (W:World) (l:Nat) (o o':Obj) (_:w.heap.size≤l) (h:W.heap[l]? = some o) (hc:o.isCells=false) (_:o.isWalk=false):KpS Bn s W (W.putObj l o'):=fun hx=>jp hx h hc
theorem DB (s:ByteArray) (e:Nat) (he:e≤s.size) (h0:e≠0) (hd:∀ c∈s.data.toList,aA c=true) :
  ∃ x:Dg,x.1=ah (s.extract (e - 9) e).data.toList∧rd (s.data.toList.take e)=x::rd (s.data.toList.take (e - 9)):=by
 have hl:(s.data.toList.take e).length=e:=by rw [List.length_take,ag];omega
 have hne:s.data.toList.take e ≠ []:=by intro h;rw [h] at hl;simp at hl;omega
 have e1:(s.data.toList.take e).drop (e - 9)=(s.extract (e - 9) e).data.toList:=by
  rw [Lib.extract_data,List.drop_take]
 refine ⟨⟨ah ((s.data.toList.take e).drop (e - 9)) % 1000000000,Nat.mod_lt _ (by decide)⟩,?_,?_⟩
 ·show ah ((s.data.toList.take e).drop (e - 9)) % 1000000000=_
  rw [←e1]
  refine Nat.mod_eq_of_lt ?_
  refine Nat.lt_of_lt_of_le (aX _ (fun c hc=>hd c (List.mem_of_mem_take (List.mem_of_mem_drop hc)))) ?_
  exact Nat.le_trans (Nat.pow_le_pow_right (by decide) (by rw [List.length_drop,hl];omega)) (show 10 ^ 9≤1000000000 by decide)
 ·rw [pn hne,hl,List.take_take,Nat.min_eq_left (by omega)]
theorem wk (n:Nat) (hn:1≤n) (l Bn:Nat) (s:ByteArray) (hs:s.size≤1000000) (hd:∀ c∈s.data.toList,aA c=true) (J Jx:List Dg→World→Prop)
  (hY:∀ pre x W,J pre W→pre.length<(rd s.data.toList).length→YieldAt Fence.wide (n - 1) Tryz.prog l #[.int .u64 (x.1:Nat)] W fun e W' =>
   (e = .returned (.bool true)∧J (pre ++ [x]) W'∧KpS Bn s W W')∨(e = .returned (.bool false)∧Jx (pre ++ [x]) W'))
  (W:World) (hBn:W.cell? ⟨Bn,0,none⟩=some (.string s)) (h0:J [] W) :
  CallsIn Fence.wide n Tryz.prog 138 #[.func (.yield l) #[] #[],.pointer (some ⟨Bn,0,none⟩)] W fun e W'=>(∃ v,e = .returned v) ∧
   ((∃ ys,ys=rd s.data.toList∧J ys W')∨(∃ pre,pre <+: rd s.data.toList∧Jx pre W')):=by
 have HY:=Ha hY;clear hY
 have HD:=Ha hd;clear hd
 refine callsIn_of_wp Tryz.func138 rfl trivial ?_ rfl
 simp only [Tryz.ntmps138,List.size_toArray,List.length_cons,List.length_nil,Nat.reduceAdd,Nat.reduceSub,Array.replicate_succ,Array.replicate_zero,List.push_toArray,List.append_toArray,List.nil_append,List.cons_append]
 gi_wp2
 gi_loopw [3] (fun p wr=>∃ (pre:List Dg) (z:Int),p = .int .i64 z ∧ -9≤z∧z≤s.size∧Hid (rd s.data.toList=pre++rd (s.data.toList.take z.toNat))∧J pre wr∧wr.cell? ⟨Bn,0,none⟩=some (.string s))
  (fun p wr=>(intOf p).toNat)
 case atStart =>
  exact ⟨[],s.size,rfl,by omega,by omega,by show rd _=_;rw [Int.toNat_natCast,List.take_of_length_le (by rw [ag];omega)];rfl,h0,hBn⟩
 case round =>
  clear h0 hBn
  obtain ⟨pre,z,rfl,hz9,he,hx,hJs,hc⟩:=hrel
  by_cases h0:z≤0
  ·have hx2:Hid (rd s.data.toList=pre):=by
    show rd s.data.toList=pre
    rw [hx.out,show z.toNat=0 by omega];simp [pm]
   clear hx
   gi_wp2
   go_end0
   exact ⟨⟨_,rfl⟩,.inl ⟨pre,hx2.out.symm,hJs⟩⟩
  ·obtain ⟨e,rfl⟩:∃ e:Nat,z=e:=⟨z.toNat,by omega⟩
   rw [Int.toNat_natCast] at hx
   have he:e≤s.size:=by omega
   have h0:e≠0:=by omega
   obtain ⟨x,hxv,hrd⟩:=DB s e he h0 HD.out
   have hsz:(s.extract (e - 9) e).size≤18:=by rw [ByteArray.size_extract];omega
   have hdd:∀ c∈(s.extract (e - 9) e).data.toList,aA c=true:=fun c hc=>by
    rw [Lib.extract_data] at hc;exact HD.out c (List.mem_of_mem_drop (List.mem_of_mem_take hc))
   have c:=gU (s.extract (e - 9) e) wr hsz hdd
   rw [←hxv] at c
   have C:=Ha c;clear c hdd hsz
   have hx2:Hid (rd s.data.toList=(pre ++ [x])++rd (s.data.toList.take (e - 9))):=by
    show rd s.data.toList=_
    rw [hx.out,hrd];simp
   have hlen:pre.length<(rd s.data.toList).length:=by rw [hx2.out];simp
   obtain ⟨fn,tmps,assign,body,hy,hR⟩:=HY.out pre x wr hJs hlen
   obtain ⟨xv,hxb⟩:=x
   dsimp only at hy
   have HR:=Ha hR
   clear hxv hrd hx hlen hR
   have em:(max 0 ((e:Int) - 9)).toNat=e - 9:=by omega
   have EM:=Ha em;clear em
   gi_wp2_with fail
   rw [EM.out]
   refine ⟨trivial,?_⟩
   refine (callsIn_wide.2 C.out).mono ?_
   rintro e' w' ⟨rfl,rfl⟩
   clear C
   gi_wp2
   refine HR.out.mono ?_
   clear HR
   rintro e' W3 (⟨rfl,hJ3,hk3⟩ | ⟨rfl,hJx3⟩)
   ·have hc3:W3.cell? ⟨Bn,0,none⟩=some (.string s):=hk3 hc
    gi_wp2
    go_roundw
    case rel=>exact ⟨pre ++ [⟨xv,hxb⟩],(e:Int) - 9,rfl,by omega,by omega,by rw [show ((e:Int) - 9).toNat=e - 9 by omega];exact hx2,hJ3,hc3⟩
    case measure=>simp [intOf];omega
   ·gi_wp2
    refine bodyPost_ret (results_none rfl _ _ _) rfl ?_
    exact ⟨⟨_,rfl⟩,.inr ⟨pre ++ [⟨xv,hxb⟩],⟨_,hx2.out.symm⟩,hJx3⟩⟩
theorem ls (n:Nat) (hn:1≤n) (Bn:Nat) (s:ByteArray) (hs:s.size≤1000000) (hd:∀ c∈s.data.toList,aA c=true) (w:World) (hBn:Bn<w.heap.size)
  (hc:w.cell? ⟨Bn,0,none⟩=some (.string s)) :
  SeqStopsK Fence.wide n Tryz.prog 138 #[.pointer (some ⟨Bn,0,none⟩)] (fun x:Dg => #[Value.int .u64 (x.1:Nat)]) (KpS Bn s) (fun ys=>ys=rd s.data.toList) (fun pre=>pre <+: rd s.data.toList) (rd s.data.toList).length w:=fun l J Jx W hW _ _ hY h0 =>
 wk n hn l Bn s hs hd J Jx hY W ((hW.cell (p:=⟨Bn,0,none⟩) hBn).trans hc) h0
theorem po (s:ByteArray) (w:World) :
  Calls Tryz.prog 93 #[.string s] w fun e w'=>e = .returned (.func (.func 138) #[] #[.pointer (some ⟨w.heap.size,0,none⟩)])∧w'=w.alloc (.cells #[.string s] 9):=by
 go_enter Tryz.func93,Tryz.ntmps93
 go_wp2
 go_ret
 exact ⟨rfl,rfl⟩
theorem dF:(Tryz.prog.info? 82).map (fun i=>(i.zero,i.size,i.bytes))=some (some (.int .u64 0),1,8):=by kernel_rfl
theorem bI {w:World} {base:Nat} {v:Value} {l:List Nat} {e:TypeId} (h:w.ownsRow base e 1 v l.length (l.map fun x=>Value.int .u64 (x:Nat))):Nats w v l:=by
 have h':=h
 obtain ⟨h1,h2⟩:=h
 rcases h2 with ⟨rfl,h3⟩ | ⟨g,cap,cur,rfl,hb,hh,hn,hcap,hsz,htk⟩
 ·have:l = []:=List.eq_nil_of_length_eq_zero h3
  subst this;exact Nats.nil w
 ·refine ⟨_,cap,rfl,hn,by unfold maxLen at hcap;omega,fun _=>⟨g,0,rfl,fun i hi => ?_⟩⟩
  have h3:=h'.cells (g:=g) rfl i (.int .u64 (l.getD i 0:Nat)) (by
   rw [List.getElem?_map,List.getElem?_eq_getElem hi,List.getD_eq_getElem?_getD,List.getElem?_eq_getElem hi];rfl)
  have hadd:(⟨g,0,none⟩:Addr).add i=⟨g,0+i,none⟩:=by unfold Addr.add;split <;> simp_all
  rwa [hadd] at h3
def aj (l:List Nat):List Value:=l.map fun x=>Value.int .u64 (x:Nat)
theorem bJ (l:List Nat) (x:Nat):aj l ++ [Value.int .u64 (x:Nat)]=aj (l ++ [x]):=by simp [aj]
theorem qX (l:List Dg) (x:Dg):gR (l ++ [x])=gR l ++ [x.1]:=by simp [gR]
theorem mZ (l:List Dg):(gR l).length=l.length:=by simp [gR]
theorem Nats.putObj {W:World} {l:Nat} {o o':Obj} {v:Value} {m:List Nat} (h:Nats W v m) (hl:W.heap[l]? = some o) (ho:o.isCells=false):Nats (W.putObj l o') v m:=by
 obtain ⟨p,cap,rfl,h1,h2,h3⟩:=h
 refine ⟨p,cap,rfl,h1,h2,fun hne => ?_⟩
 obtain ⟨b,off,e,hc⟩:=h3 hne
 exact ⟨b,off,e,fun i hi=>jp (hc i hi) hl ho⟩
theorem iT (s:ByteArray) (w:World) (hs:s.size≤1000000) (hd:∀ c∈s.data.toList,aA c=true) :
  Calls Tryz.prog 50 #[.string s] w fun e W'=>∃ v,e = .returned v∧IsNat W' v (ah s.data.toList)∧Fresh w.heap.size v∧Below w.heap.size w W':=by
 refine (callsIn_wide (n:=9)).1 ?_
 have hlen:(rd s.data.toList).length≤1000000:=Nat.le_trans (qW _ _ (Nat.le_refl _)) (by rw [ag];exact hs)
 have hval:=Bg _ s.data.toList (Nat.le_refl _) hd
 have HV:=Ha hval;clear hval
 have HD:=Ha hd;clear hd
 obtain ⟨i0,hi,hz0,hz1,hz2⟩:=info_parts dF
 have HI:=Ha (Hb hi (Hb hz0 (Hb hz1 hz2)));clear hi hz0 hz1 hz2
 obtain ⟨m,hm⟩:∃ m:Nat,(s.size:Int) / 9+1=m:=⟨s.size / 9+1,by omega⟩
 have hm2:m≤1000000:=by omega
 have HM:=Ha hm;clear hm
 refine callsIn_of_wp_marks Tryz.func50 rfl trivial ?_ rfl
 simp only [Tryz.ntmps50,List.size_toArray,List.length_cons,List.length_nil,Nat.reduceAdd,Nat.reduceSub,Array.replicate_succ,Array.replicate_zero,List.push_toArray,List.append_toArray,List.nil_append,List.cons_append]
 gi_wp2_with (gi_at_make;refine wpListIn_make_own _ rfl _ _ 86 rfl w.heap.size 82 i0 (.int .u64 0) 1 Tryz.underlying86 HI.out.1 HI.out.2.1 HI.out.2.2.1 .i64 .i64 _ m rfl rfl HM.out (by rw [HI.out.2.2.2];omega) (by unfold maxLen;omega) (Nat.le_refl _) ?_;intro w1 hown hgrow)
 refine ⟨trivial,?_⟩
 refine (callsIn_wide.2 (po s _)).mono ?_
 rintro e w' ⟨rfl,rfl⟩
 gi_wp2
 have bO:=Boxed.new w1 86 (.slice (some ⟨w.heap.size,0,none⟩) 0 m)
 have bS:=Boxed.new (w1.alloc (.cells #[.slice (some ⟨w.heap.size,0,none⟩) 0 m] 86)) 9 (.string s)
 rw [World.size_alloc] at bS
 have hsz1:w.heap.size≤w1.heap.size:=hgrow.size
 have hB0:Below w.heap.size w ((w1.alloc (.cells #[.slice (some ⟨w.heap.size,0,none⟩) 0 m] 86)).alloc (.cells #[.string s] 9)) :=
  (((Below.refl _ w).grown hgrow (Nat.le_refl _) (fun k e=>by cases e)).alloc hsz1 _).alloc (by simp;omega) _
 refine wpIn_rangeFunc_ownG rfl (by omega) (gf:=138) (lb := #[.pointer (some ⟨w1.heap.size+1,0,none⟩)]) rfl trivial (enters_of Tryz.func138 (by kernel_rfl) rfl)
  (ls (9 - 1) (by omega) (w1.heap.size+1) s hs HD.out _ (by simp) bS.cell) KpS.t KpS.b (Below.refl _ _) (fun _=>rfl)
  (fun pre W=>((∃ v,Boxed W w1.heap.size 86 v∧W.ownsRow w.heap.size 82 1 v (gR pre).length (aj (gR pre))∧True)∧Boxed W (w1.heap.size+1) 9 (.string s))∧Below w.heap.size w W)
  (fun _ _ _=>False)
  (OwnFrom.and (OwnFrom.and (Own.from (holdsRow_own w.heap.size w1.heap.size 86 82 1 (fun pre=>(gR pre).length) (fun pre=>aj (gR pre)) (fun _ _=>True)) _) (Own.from (boxed_own (w1.heap.size+1) 9 (fun _ => .string s)) _)) (ownFrom_below (Nat.le_refl _) (by simp;omega)))
  (fun _ _ _ _ _ hs _ _=>hs)
  ⟨⟨⟨_,bO.alloc _,(hown.alloc _).alloc _,trivial⟩,bS⟩,hB0⟩
  (fun x=>{ tmps := #[.string s,undef,.slice none 0 0,.pointer (some ⟨w1.heap.size,0,none⟩),.int .u64 (x.1:Nat),.string s,.int .i64 s.size,.int .i64 ((s.size:Int) / 9),.int .i64 ((s.size:Int) / 9+1),.slice (some ⟨w.heap.size,0,none⟩) 0 m,.string s,.func (.func 138) #[] #[.pointer (some ⟨w1.heap.size+1,0,none⟩)],.int .u64 (x.1:Nat),undef,undef,undef,undef,undef,undef],defers := [] }) ?assign ?body ?done ?stop
 case assign =>
  clear hown bO bS hB0 hgrow
  intro l x W K hK
  gi_wp2
  exact hK
 case body =>
  clear hown bO bS hB0 hgrow
  rintro l pre x W ⟨⟨⟨v,hv,hrow,_⟩,hS⟩,hB⟩ hlt
  have hc:=hv.cell
  have hp:=mZ pre
  have HP:=Ha hp;clear hp
  have hpl:(gR pre).length≤1000000:=by rw [HP.out];omega
  obtain ⟨hi,hz0,hz1,hz2⟩:=HI.out
  gi_wp2_with (gi_at_builtin;refine wpListIn_append_own _ rfl _ _ 86 rfl w.heap.size 82 i0 (.int .u64 0) 1 8 Tryz.underlying86 hi hz0 hz1 hz2 rfl (by decide) _ _ _ rfl (hrow.alloc _) ⟨W.heap.size,0,none⟩ 1 1 [.int .u64 (x.1:Nat)] rfl rfl (cell_one_new _ _ _) (by simp [Value.oneCell']) (by unfold maxLen;omega) (by omega) (by have:=hB.size;simp;omega) ?_;intro v' w2 hown' hgrow _;obtain ⟨g',cap',rfl⟩:=ownsRow_succ hown';obtain ⟨hv1,hv2,hr2,hk2,hb2⟩:=hv.appended (by decide) hrow hB.size hsz1 hown' hgrow;have hS2:=(hS.alloc _).kept hgrow (hS.not_row (by decide) hrow);have hc1:=hv1.cell;have hf1:=hv1.frozen)
  have hS3:=hS2.other (B':=w1.heap.size) (by omega) (.slice (some ⟨g',0,none⟩) ((gR pre).length+1) cap')
  refine ⟨hk2.from _,fun _=>hS3.cell,⟨⟨_,hv2,?_,trivial⟩,hS3⟩,hB.trans hb2⟩
  rw [qX,←bJ,List.length_append,List.length_singleton]
  exact hr2
 case done =>
  clear hown bO bS hB0 hgrow
  rintro D ys W hD rfl ⟨⟨⟨v,hv,hrow,_⟩,hS⟩,hB⟩ hK
  have hc:=hv.cell
  have hN:=bI hrow
  have ct:=fO v _ W hN (ue _)
  rw [HV.out] at ct
  have CT:=Ha ct;clear ct hN
  gi_wp2_with fail
  refine ⟨trivial,?_⟩
  refine (callsIn_wide.2 CT.out).mono ?_
  clear CT
  rintro e w' ⟨rfl,v',rfl,hN',ho⟩
  have HN:=Ha hN';clear hN'
  have HO:=Ha ho;clear ho
  gi_wp2
  refine ⟨by simp,.inl ⟨_,_,rfl,run_takeDeferred hK,?_⟩⟩
  exact ⟨_,results_tmp rfl _ _ _,v',rfl,HN.out.putObj hK rfl,fun k hk=>by rw [HO.out] at hk;exact (hrow.lt k hk).1,hB.trans (belowK_b (w:=w) (Nat.le_refl _) W D _ _ (by simp at hD;omega) hK rfl rfl)⟩
 case stop =>
  rintro D c pre W _ _ h _
  exact h.elim
end
section
open Go.RowKit
theorem DC (s:ByteArray) (hs:s.size≤1000000):(szB s).size≤1000000:=Nat.le_trans (eK s) hs
theorem Nats.setCell {w:World} {v:Value} {l:List Nat} {base:Nat} (h:Nats w v l) (hf:Fresh base v) {a:Addr} (ha:a.block<base) (u:Value):Nats (w.setCell a u) v l:=by
 obtain ⟨p,cap,rfl,h1,h2,h3⟩:=h
 refine ⟨p,cap,rfl,h1,h2,fun hne => ?_⟩
 obtain ⟨b,off,e,hc⟩:=h3 hne
 refine ⟨b,off,e,fun i hi => ?_⟩
 have hb:base≤b:=hf b (by rw [e];rfl)
 exact (World.cell?_of_block (Below.heap_setCell _ _ _ _ (by show b≠a.block;omega))).trans (hc i hi)
theorem IsNat.setCell {w:World} {v:Value} {n base:Nat} (h:IsNat w v n) (hf:Fresh base v) {a:Addr} (ha:a.block<base) (u:Value):IsNat (w.setCell a u) v n:=Nats.setCell h hf ha u
theorem aJ {w:World} {b:Nat} {x0 x1:Value} (c0:w.cell? ⟨b,0,none⟩=some x0) (c1:w.cell? ⟨b,1,none⟩=some x1) (X Y:Value) :
  (w.setCell ⟨b,0,none⟩ X).cell? ⟨b,0,none⟩=some X∧((w.setCell ⟨b,0,none⟩ X).setCell ⟨b,1,none⟩ Y).cell? ⟨b,1,none⟩=some Y:=by
 have h0:(w.setCell ⟨b,0,none⟩ X).cell? ⟨b,0,none⟩=some X:=World.cell?_setCell_same' _ _ _ (by rw [c0];rfl)
 refine ⟨h0,World.cell?_setCell_same' _ _ _ ?_⟩
 have:(w.setCell ⟨b,0,none⟩ X).cell? ⟨b,1,none⟩=some x1:=by go_cell
 rw [this];rfl
theorem dG (s:ByteArray) (w:World) (hs:s.size≤1000000) (hc:chk s.data.toList=0) :
  Calls Tryz.prog 263 #[.string s] w fun e W'=>∃ v,e = .returned (.agg #[.bool (aw s.data.toList),v])∧IsNat W' v (ah (szL s.data.toList))∧Fresh w.heap.size v∧Below w.heap.size w W':=by
 have hd:=dh hc
 clear hc
 have c:=fun w=>iT (szB s) w (DC s hs) (by rw [bL];exact hd)
 rw [bL] at c
 have C:=Ha c;clear c hd
 generalize ah (szL s.data.toList)=n at *
 have k0:=cell_two_new w (.bool false) (.slice none 0 0) 90
 go_enter Tryz.func263,Tryz.ntmps263
 go_wp2_with fail
 refine (bK s _).mono ?_
 rintro e w' ⟨rfl,rfl⟩
 go_wp2_with fail
 refine (cF s _ (by unfold maxLen;omega)).mono ?_
 rintro e w' ⟨rfl,rfl⟩
 go_wp2_with fail
 refine (C.out _).mono ?_
 rintro e w1 ⟨v,rfl,hv,hf,hb⟩
 clear C
 obtain ⟨p,cap,hv1,_⟩:=id hv
 subst hv1
 have c0:w1.cell? ⟨w.heap.size,0,none⟩=some (.bool false):=(hb.cell (p:=⟨w.heap.size,0,none⟩) (by simp)).trans (by go_cell)
 have c1:w1.cell? ⟨w.heap.size,1,none⟩=some (.slice none 0 0):=(hb.cell (p:=⟨w.heap.size,1,none⟩) (by simp)).trans (by go_cell)
 have f0:w1.frozen? ⟨w.heap.size,0,none⟩=false:=(hb.frozen (p:=⟨w.heap.size,0,none⟩) (by simp)).trans (by simp [go_sem])
 have f1:w1.frozen? ⟨w.heap.size,1,none⟩=false:=(hb.frozen (p:=⟨w.heap.size,1,none⟩) (by simp)).trans (by simp [go_sem])
 have HV:=Ha (Hb hv (Hb hf hb));clear hv hf hb
 clear k0
 have hback:=aJ c0 c1 (.bool (aw s.data.toList)) (.slice p (dg n).length cap)
 obtain ⟨b0,b1⟩:=hback
 go_wp2
 refine bodyPost_ret (v := .agg #[.bool (aw s.data.toList),.slice p (dg n).length cap]) (by simp [results,Tryz.results263,go_sem,b0,b1]) rfl ?_
 refine ⟨_,rfl,?_⟩
 obtain ⟨hv,hf,hb⟩:=HV.out
 have hf':Fresh (w.heap.size+1) (.slice p (dg n).length cap):=hf.mono (by simp)
 refine ⟨(hv.setCell hf' (Nat.lt_succ_self _) _).setCell hf' (Nat.lt_succ_self _) _,hf'.mono (by omega),?_⟩
 exact ((((Below.refl _ w).alloc (Nat.le_refl _) _).trans (hb.mono (by simp))).setCell (p:=⟨w.heap.size,0,none⟩) (Nat.le_refl _) _).setCell (p:=⟨w.heap.size,1,none⟩) (Nat.le_refl _) _
end
section
theorem getD_lt {l:List Nat} {k:Nat} (h:k<l.length):l.getD k 0=l[k]:=by
 rw [List.getD_eq_getElem?_getD,List.getElem?_eq_getElem h];rfl
theorem nR (l:List Nat) (k d:Nat) (h:k<l.length):toN (l.set k d)+B ^ k*l.getD k 0=toN l+B ^ k*d:=by
 induction l generalizing k with
 | nil=>simp at h
 | cons a r ih =>
  cases k with
  | zero=>simp [toN];omega
  | succ k =>
   have h1:=ih k (by simpa using h)
   simp only [List.set_cons_succ,toN,List.getD_cons_succ,Nat.pow_succ]
   have h2:B*toN (r.set k d)+B*(B ^ k*r.getD k 0)=B*toN r+B*(B ^ k*d):=by rw [←Nat.mul_add,←Nat.mul_add,h1]
   rw [Nat.mul_comm (B ^ k) B,Nat.mul_assoc,Nat.mul_assoc]
   omega
theorem Dig.set {l:List Nat} (h:Dig l) (k:Nat) {d:Nat} (hd:d<1000000000):Dig (l.set k d):=fun x hx=>by
 rcases List.mem_or_eq_of_mem_set hx with hx | rfl
 ·exact h x hx
 ·exact hd
theorem getD_set_ne (l:List Nat) (k m d:Nat) (h:k≠m):(l.set k d).getD m 0=l.getD m 0:=by
 rw [List.getD_eq_getElem?_getD,List.getD_eq_getElem?_getD,List.getElem?_set_ne h]
theorem fU {x y:Nat} (hx:x<1000000000) (hy:y<1000000000):x*y≤999999998000000001:=by
 have:=Nat.mul_le_mul (show x≤999999999 by omega) (show y≤999999999 by omega)
 omega
theorem jq {o:List Nat} {k x y c:Nat} (hk:k<o.length) (ho:Dig o) (hx:x<1000000000) (hy:y<1000000000) (hc:c<1000000000) :
  let t:=o.getD k 0+x*y+c
  t / 1000000000<1000000000∧t % 1000000000<1000000000∧toN (o.set k (t % 1000000000))+B ^ (k+1)*(t / 1000000000)=toN o+B ^ k*(x*y+c):=by
 intro t
 have h1:=fU hx hy
 have h2:=ho.getD k
 have h3:t<1000000000*1000000000:=by show o.getD k 0+x*y+c<_;omega
 refine ⟨by omega,by omega,?_⟩
 have h4:=nR o k (t % 1000000000) hk
 have h5:B ^ k*t=B ^ k*(t % 1000000000)+B ^ (k+1)*(t / 1000000000):=by
  rw [Nat.pow_succ,Nat.mul_assoc,←Nat.mul_add,fN]
  congr 1
  omega
 have h6:B ^ k*t=B ^ k*o.getD k 0+B ^ k*(x*y+c):=by
  rw [←Nat.mul_add];congr 1;show o.getD k 0+x*y+c=_;omega
 omega
theorem zo {o:List Nat} {i j x c S:Nat} {b:List Nat} (hk:i+j<o.length) (hj:j<b.length) (ho:Dig o) (hb:Dig b) (hx:x<1000000000) (hc:c<1000000000)
  (h:toN o+B ^ (i+j)*c=S+B ^ i*(x*toN (b.take j))) :
  let t:=o.getD (i+j) 0+x*b.getD j 0+c
  toN (o.set (i+j) (t % 1000000000))+B ^ (i+(j+1))*(t / 1000000000)=S+B ^ i*(x*toN (b.take (j+1))):=by
 intro t
 obtain ⟨_,_,h3⟩:=jq hk ho hx (hb.getD j) hc
 rw [←Nat.add_assoc i j 1]
 refine h3.trans ?_
 rw [aC b j hj,Nat.mul_add x,Nat.mul_add (B ^ i),Nat.mul_add (B ^ (i+j))]
 have h4:B ^ i*(x*(B ^ j*b.getD j 0))=B ^ (i+j)*(x*b.getD j 0):=by
  rw [Nat.pow_add,Nat.mul_assoc];congr 1
  rw [←Nat.mul_assoc,←Nat.mul_assoc,Nat.mul_comm x]
 omega
theorem zp {o:List Nat} {i c:Nat} {a b:List Nat} (hi:i<a.length) (hk:i+b.length<o.length)
  (h:toN o+B ^ (i+b.length)*c=toN (a.take i)*toN b+B ^ i*(a.getD i 0*toN (b.take b.length))) (hz:o.getD (i+b.length) 0=0) :
  toN (o.set (i+b.length) c)=toN (a.take (i+1))*toN b:=by
 have h1:=nR o (i+b.length) c hk
 rw [hz,Nat.mul_zero,Nat.add_zero] at h1
 rw [List.take_length] at h
 rw [h1,h,aC a i hi,Nat.add_mul,Nat.mul_assoc (B ^ i)]
end
end Go.Proofs.YtbhbhlfkdlfimaaGreatDoor
