/- Parts of the proof of the text YtjdomibbaemdnaaGreatDoorZK42. -/
import Derived.WalkSmall
import Derived.Test.YtjdomibbaemdnaaGreatDoorZK1
import Derived.Test.YtjdomibbaemdnaaGreatDoorZK2
set_option linter.all false
set_option maxRecDepth 100000
set_option maxHeartbeats 8000000
namespace Go.Proofs.YtjdomibbaemdnaaGreatDoor
section
open Go.RowKit
def Tab (w:World):Prop:=Lib.TabIs Tryz.prog w "internal/strconv.uint64pow10" .u64 Lib.pow10Tab
theorem Al:Tryz.prog.globalNamed "internal/strconv.uint64pow10" = some 5:=by kernel_rfl
theorem Tab.below {w w':World} {B:Nat} (h:Tab w) (hb:Below B w w') (hB:5<B):Tab w' :=
 var?_below hb Al hB h
theorem Tab.lt {w:World} (h:Tab w):5<w.heap.size:=by
 unfold Tab Lib.TabIs World.var? at h
 simp only [Al,Option.bind_some] at h
 by_cases hlt:5<w.heap.size
 ·exact hlt
 ·rw [Array.getElem?_eq_none (by omega)] at h;simp at h
theorem Tab.next {w w':World} (h:Tab w) (hb:Below w.heap.size w w'):Tab w':=h.below hb h.lt
def bC (a b:List UInt8):Int:=if chk a=0 then chk b else chk a
theorem bQ (a b:ByteArray) (w:World) (ha:a.size≤maxLen) (hb:b.size≤maxLen) :
  Calls Tryz.prog 156 #[.string a,.string b] w fun e w'=>e = .returned (.int .i64 (bC a.data.toList b.data.toList))∧w=w':=by
 generalize hx:chk a.data.toList=x
 have HX:=Ha hx;clear hx
 by_cases h0:(x==0)=true
 ·have hn:(x != 0)=false:=by simpa using h0
  go_enter Tryz.func156,Tryz.ntmps156
  go_wp2_with fail
  refine (dV a _ ha).mono ?_
  rw [HX.out];rintro e w' ⟨rfl,rfl⟩
  go_wp2_with fail
  refine (dV b _ hb).mono ?_
  rintro e w' ⟨rfl,rfl⟩
  go_wp2
  go_ret
  exact ⟨an (by unfold bC;rw [HX.out,if_pos (by simpa using h0)]),rfl⟩
 ·have hn:(x != 0)=true:=by simpa using h0
  go_enter Tryz.func156,Tryz.ntmps156
  go_wp2_with fail
  refine (dV a _ ha).mono ?_
  rw [HX.out];rintro e w' ⟨rfl,rfl⟩
  go_wp2
  go_ret
  exact ⟨an (by unfold bC;rw [HX.out,if_neg (by simpa using h0)]),rfl⟩
theorem bm (s:ByteArray) (w:World) (_hs:s.size≤maxLen) :
  Calls Tryz.prog 179 #[.string s] w fun e w'=>e = .returned (.bool (decide ((s.size:Int)≤18)))∧w=w':=by
 go_enter Tryz.func179,Tryz.ntmps179
 go_wp2
 go_ret
 exact ⟨rfl,rfl⟩
theorem bY {l:List UInt8} (h:chk l=0):∀ c∈szL l,az c=true:=by
 by_cases h1:(szL l).all az=true
 ·exact List.all_eq_true.1 h1
 ·rw [cL (by simpa using h1)] at h;cases h
theorem iI (l:List UInt8) (h:∀ c∈l,az c=true) (hl:l.length≤18):ae l<1000000000000000000:=by
 have:=jv l h l.length hl
 rwa [List.take_length] at this
theorem ck (l:List UInt8):valOf l=if ap l=true then -(ae (szL l):Int) else (ae (szL l):Int):=by
 unfold valOf szL;split <;> simp_all
theorem df (l:List UInt8):(szL l).length≤l.length:=by
 unfold szL;split
 ·rw [List.length_tail];omega
 ·exact Nat.le_refl _
theorem cR {l:List UInt8} (h:chk l=0) (hl:l.length≤18) : -1000000000000000000<valOf l∧valOf l<1000000000000000000:=by
 have h1:=iI (szL l) (bY h) (Nat.le_trans (df l) hl)
 rw [ck];split <;> omega
theorem dN (s:ByteArray) (w:World) (hs:s.size≤18) (hc:chk s.data.toList=0) :
  Calls Tryz.prog 158 #[.string s] w fun e w'=>e = .returned (.int .i64 (valOf s.data.toList))∧w=w':=by
 have hd:=Ha (bY hc)
 clear hc
 have h1:=iI (szL s.data.toList) hd.out (Nat.le_trans (df _) hs)
 have hv:=Ha (ck s.data.toList)
 by_cases h:ap s.data.toList=true
 ·have h0:=hO h
  have hz:szB s=s.extract 1 s.size:=by unfold szB;rw [if_pos h]
  have HZ:=Ha (bU s);have HZ2:=Ha hz;clear hz
  have hz3:(s.extract 1 s.size).size≤18:=by rw [ByteArray.size_extract];omega
  have c:=gw (s.extract 1 s.size) w hz3 (by rw [←HZ2.out,HZ.out];exact hd.out)
  rw [←HZ2.out,HZ.out] at c
  rw [HZ2.out] at c
  generalize ae (szL s.data.toList)=n at *
  go_enter Tryz.func158,Tryz.ntmps158
  go_wp2_with fail
  refine (bT s _).mono ?_;rw [h];rintro e w' ⟨rfl,rfl⟩
  go_wp2_with fail
  refine c.mono ?_;clear c;rintro e w' ⟨rfl,rfl⟩
  go_wp2
  go_ret
  exact ⟨an (by rw [hv.out,if_pos h]),rfl⟩
 ·have h':ap s.data.toList=false:=by simpa using h
  have hz:szB s=s:=by unfold szB;rw [if_neg h]
  have HZ:=Ha (bU s);have HZ2:=Ha hz;clear hz
  have c:=gw s w hs (by rw [←HZ2.out,HZ.out];exact hd.out)
  rw [←HZ2.out,HZ.out] at c
  rw [HZ2.out] at c
  generalize ae (szL s.data.toList)=n at *
  go_enter Tryz.func158,Tryz.ntmps158
  go_wp2_with fail
  refine (bT s _).mono ?_;rw [h'];rintro e w' ⟨rfl,rfl⟩
  go_wp2_with fail
  refine c.mono ?_;clear c;rintro e w' ⟨rfl,rfl⟩
  go_wp2
  go_ret
  exact ⟨an (by rw [hv.out,if_neg h]),rfl⟩
def aa (z:Int):ByteArray:=⟨(Lib.itoa z).toArray⟩
theorem ay (z:Int):(aa z).data.toList=Lib.itoa z:=by unfold aa;simp
theorem dB (z:Int) (w:World) (h0 : -9223372036854775808≤z) (h1:z≤9223372036854775807) (ht:Tab w) :
  Calls Tryz.prog 157 #[.int .i64 z] w fun e w'=>e = .returned (.string (aa z))∧Below w.heap.size w w':=by
 have c:=Tryz.strconv_FormatInt_10 z h0 h1 w ht
 clear h0 h1
 go_enter Tryz.func157,Tryz.ntmps157
 go_wp2_with fail
 refine c.mono ?_
 clear c
 rintro e w' ⟨rfl,k,os,rfl⟩
 go_wp2
 go_ret
 exact ⟨rfl,Lib.below_grow _ _ (Nat.le_refl _) _ _⟩
theorem il {k1 k2:IntKind} {a b c d:Int} (h:a=b) (h2:c=d):Ending.returned (.tuple #[.int k1 a,.int k2 c]) = .returned (.tuple #[.int k1 b,.int k2 d]):=by rw [h,h2]
theorem pK (a b:Int) (ha : -1000000000000000000<a) (ha':a<1000000000000000000) : -1000000000000000000<a.tdiv b∧a.tdiv b<1000000000000000000:=by
 have h:=Int.natAbs_tdiv_le_natAbs a b
 omega
theorem pL (a b:Int) (ha : -1000000000000000000<a) (ha':a<1000000000000000000) : -1000000000000000000<a.tmod b∧a.tmod b<1000000000000000000:=by
 have h:=Int.natAbs_tmod a b
 have h2:=Nat.mod_le a.natAbs b.natAbs
 omega
theorem fY (a b:Int) (w:World) (ha : -1000000000000000000<a) (ha':a<1000000000000000000) (hb : -1000000000000000000<b) (hb':b<1000000000000000000) (h0:b≠0) :
   Calls Tryz.prog 180 #[.int .i64 a,.int .i64 b] w fun e w'=>e = .returned (.tuple #[.int .i64 (a.fdiv b),.int .i64 (a.fmod b)])∧∃ n,w'=w.drewN n:=by
 have hq:=pK a b ha ha'
 have hr:=pL a b ha ha'
 have hz:(b==0)=false:=by simpa using h0
 have e1:=Ha (fun h => @fq a b h0 h)
 have e2:=Ha (fun h h' => @dY a b h0 h h')
 go_enter Tryz.func180,Tryz.ntmps180
 go_wp2
 go_quiet (fail)
 generalize a.tdiv b=q at *
 generalize a.tmod b=r at *
 by_cases c0:r=0
 · have c1:(r != 0)=false:=by simpa using c0
   clear c0
   go_wp2
   go_returns
   obtain ⟨f1,f2⟩:=e1.out (.inl (by simpa using c1))
   exact ⟨il f1.symm f2.symm,_,rfl⟩
 · have c1:(r != 0)=true:=by simpa using c0
   clear c0
   by_cases c2:r<0 <;> by_cases c3:b<0
   all_goals
     go_wp2
     go_returns
     first
     | (obtain ⟨f1,f2⟩:=e1.out (.inr (by omega))
        exact ⟨il f1.symm f2.symm,_,rfl⟩)
     | (obtain ⟨f1,f2⟩:=e2.out (by simpa using c1) (by omega)
        exact ⟨il f1.symm f2.symm,_,rfl⟩)
theorem fM (a b:Nat) (w:World) (ha:a<18446744073709551616) (hb:b<18446744073709551616) :
  Calls Tryz.prog 222 #[.int .u64 a,.int .u64 b] w fun e w'=>e = .returned (.int .u64 (Nat.gcd a b:Nat))∧∃ n,w'=w.drewN n:=by
 go_enter Tryz.func222,Tryz.ntmps222
 go_wp2
 go_loopw [0,1] (fun x y wr=>∃ a' b':Nat,a'<18446744073709551616∧b'<18446744073709551616∧x = .int .u64 a'∧y = .int .u64 b'∧Hid (Nat.gcd a' b'=Nat.gcd a b)∧∃ n,wr=w.drewN n) (fun _ y _=>(intOf y).toNat)
 case atStart=>exact ⟨a,b,ha,hb,rfl,rfl,rfl,0,rfl⟩
 case round =>
  obtain ⟨a',b',ha',hb',rfl,rfl,hg,m,rfl⟩:=hrel
  clear ha hb
  by_cases h0:b'=0
  ·subst h0
   go_wp2
   go_ret
   exact ⟨an (by have:=hg.out;rw [Nat.gcd_zero_right] at this;rw [this]),m,rfl⟩
  ·have hne:((b':Int) != 0)=true:=by simpa using h0
   have hne2:((b':Int)==0)=false:=by simpa using h0
   have hlt:a' % b'<b':=Nat.mod_lt _ (by omega)
   have hcast:((a' % b':Nat):Int)=(a':Int) % (b':Int):=Int.natCast_emod _ _
   have HC:=Ha hcast;clear hcast
   have hg2:Hid (Nat.gcd b' (a' % b')=Nat.gcd a b):=by
    show Nat.gcd b' (a' % b')=Nat.gcd a b
    rw [←hg.out,Nat.gcd_comm a' b',Nat.gcd_rec b' a',Nat.gcd_comm]
   clear hg h0
   go_wp2
   go_quiet (fail)
   go_wp2
   go_roundw
   case rel=>exact ⟨b',a' % b',hb',by omega,rfl,by rw [HC.out],hg2,_,World.drewN_drewN _ _ _⟩
   case measure=>simp [intOf];omega
theorem q9 (n:Nat) (hn:n<1000000000000000000) (h0:n≠0) :
  Lib.bitLen n≤60∧aj n<2 ^ ((Lib.bitLen n+1) / 2):=by
 have h1:Lib.bitLen n≤60:=Lib.bitLen_le n 60 (by decide) (by omega)
 refine ⟨h1,jZ _ _ ?_⟩
 obtain ⟨_,_,h4⟩:=Lib.bitLenAux_bounds 64 n (by omega) h0
 have h5:n<2 ^ Lib.bitLen n:=h4
 refine Nat.lt_of_lt_of_le h5 ?_
 rw [←Nat.pow_add]
 exact Nat.pow_le_pow_right (by decide) (by omega)
theorem yx (k:Nat) (h:k≤30):IntKind.u64.wrap ((2:Int) ^ k)=((2 ^ k:Nat):Int)∧0<2 ^ k∧2 ^ k≤1073741824:=by
 have h1:2 ^ k≤2 ^ 30:=Nat.pow_le_pow_right (by decide) h
 have h2:0<2 ^ k:=Nat.pow_pos (by decide)
 refine ⟨?_,h2,h1⟩
 have h3:((2:Int) ^ k)=((2 ^ k:Nat):Int):=by rw [Int.natCast_pow];rfl
 rw [h3]
 exact IntWalk.u64_in _ ⟨by omega,by omega⟩
theorem mf (n:Nat) (w:World) (hn:n<1000000000000000000) :
  Calls Tryz.prog 210 #[.int .u64 n] w fun e w'=>e = .returned (.int .u64 (aj n:Nat))∧w=w':=by
 by_cases h0:n=0
 ·subst h0
  have hr:aj 0=0:=du (by simp [IsRoot])
  have HR:=Ha hr;clear hr
  go_enter Tryz.func210,Tryz.ntmps210
  go_wp2
  go_ret
  exact ⟨an (by rw [HR.out];rfl),rfl⟩
 ·have hne:((n:Int)==0)=false:=by simpa using h0
  obtain ⟨hl,hg⟩:=q9 n hn h0
  obtain ⟨hw,hp,hle⟩:=yx ((Lib.bitLen n+1) / 2) (by omega)
  have HR:=Ha (cC n)
  have hr1:0<aj n:=by
   have h2:=(cC n).2
   apply Decidable.byContradiction;intro hc
   have e:aj n=0:=by omega
   rw [e] at h2;simp at h2;omega
  generalize aj n=r at *
  have HW:=Ha hw;clear hw
  go_enter Tryz.func210,Tryz.ntmps210
  go_wp2_with fail
  refine (Tryz.bits_Len64 n _ (by omega) (by omega)).mono ?_
  rw [Int.toNat_natCast]
  rintro e w' ⟨rfl,rfl⟩
  generalize Lib.bitLen n=L at *
  generalize 2 ^ ((L+1) / 2)=g0 at *
  go_wp2
  rw [HW.out]
  clear HW
  go_loop [3] (fun x=>∃ g:Nat,0<g∧g≤1073741824∧r≤g∧x = .int .u64 g) (fun x=>(intOf x).toNat)
  case atStart=>exact ⟨g0,hp,hle,by omega,rfl⟩
  case round =>
   clear hg hle hp
   obtain ⟨g,hp,hle,hg,rfl⟩:=hrel
   have hgz:((g:Int)==0)=false:=by rw [beq_eq_false_iff_ne];omega
   have hd:n / g≤n:=Nat.div_le_self _ _
   have H1:=k9 n g hp r HR.out
   have H2:=Ha (lJ n g r hp HR.out hg)
   have HC:=Ha (Int.natCast_ediv n g)
   generalize n / g=d at *
   rw [show Hid ((d:Int)=(n:Int) / (g:Int))=((d:Int)=(n:Int) / (g:Int)) from rfl] at HC
   have HD:=Ha HC;clear HC
   have hq0:0≤(n:Int) / (g:Int):=by rw [←HD.out];omega
   have hq1:(n:Int) / (g:Int)≤n:=by rw [←HD.out];omega
   by_cases hc:g≤(g+d) / 2
   ·have hc':(g:Int)≤((g:Int)+(n:Int) / (g:Int)) / 2:=by rw [←HD.out];omega
    go_wp2
    go_ret
    exact ⟨an (by rw [H2.out hc]),rfl⟩
   ·have hc':((g:Int)+(n:Int) / (g:Int)) / 2<(g:Int):=by rw [←HD.out];omega
    go_wp2
    go_round
    case rel=>exact ⟨(g+d) / 2,by omega,by omega,H1,by rw [←HD.out];go_num⟩
    case measure=>simp [intOf];omega
end
section
def B:Nat:=1000000000
theorem dH:B=1000000000:=rfl
theorem bP:0<B:=by decide
def toN:List Nat→Nat
 | []=>0
 | d::r=>d+B*toN r
def Dig (l:List Nat):Prop:=∀ x∈l,x<1000000000
theorem Dig.nil:Dig []:=fun _ h=>by cases h
theorem Dig.cons {d:Nat} {l:List Nat} (h:d<1000000000) (hl:Dig l):Dig (d::l):=fun x hx=>by
 rcases List.mem_cons.1 hx with rfl | hx
 ·exact h
 ·exact hl x hx
theorem Dig.head {d:Nat} {l:List Nat} (h:Dig (d::l)):d<1000000000:=h d (by simp)
theorem Dig.tail {d:Nat} {l:List Nat} (h:Dig (d::l)):Dig l:=fun x hx=>h x (by simp [hx])
theorem Dig.take {l:List Nat} (h:Dig l) (k:Nat):Dig (l.take k):=fun x hx=>h x (List.mem_of_mem_take hx)
theorem Dig.drop {l:List Nat} (h:Dig l) (k:Nat):Dig (l.drop k):=fun x hx=>h x (List.mem_of_mem_drop hx)
theorem Dig.append {l m:List Nat} (h:Dig l) (h':Dig m):Dig (l++m):=fun x hx=>by
 rcases List.mem_append.1 hx with hx | hx
 ·exact h x hx
 ·exact h' x hx
theorem Dig.one {d:Nat} (h:d<1000000000):Dig [d]:=Dig.cons h Dig.nil
theorem Dig.getD {l:List Nat} (h:Dig l) (i:Nat):l.getD i 0<1000000000:=by
 by_cases hi:i<l.length
 ·rw [List.getD_eq_getElem?_getD,List.getElem?_eq_getElem hi];exact h _ (List.getElem_mem _)
 ·rw [List.getD_eq_getElem?_getD,List.getElem?_eq_none (by omega)];simp
theorem Dig.replicate (k:Nat):Dig (List.replicate k 0):=fun x hx=>by
 rw [(List.mem_replicate.1 hx).2];decide
theorem bJ (l m:List Nat):toN (l++m)=toN l+B ^ l.length*toN m:=by
 induction l with
 | nil=>simp [toN]
 | cons d r ih =>
  simp only [List.cons_append,toN,ih,List.length_cons,Nat.pow_succ]
  rw [Nat.mul_add,Nat.add_assoc,←Nat.mul_assoc,Nat.mul_comm B (B ^ r.length)]
theorem aQ (l:List Nat) (d:Nat):toN (l ++ [d])=toN l+B ^ l.length*d:=by
 rw [bJ];simp [toN]
theorem dw (k:Nat):toN (List.replicate k 0)=0:=by
 induction k with
 | zero=>rfl
 | succ k ih=>rw [List.replicate_succ];simp [toN,ih]
theorem cI {l:List Nat} (h:Dig l):toN l<B ^ l.length:=by
 induction l with
 | nil=>simp [toN]
 | cons d r ih =>
  have h1:=ih h.tail
  have h2:=h.head
  rw [toN,List.length_cons,Nat.pow_succ,Nat.mul_comm (B ^ r.length) B]
  have h3:B*toN r+B≤B*B ^ r.length:=by
   rw [←Nat.mul_succ];exact Nat.mul_le_mul_left B h1
  rw [dH] at *
  omega
theorem bf (l:List Nat) (k:Nat) (h:k<l.length):l.take (k+1)=l.take k ++ [l.getD k 0]:=by
 rw [List.take_succ_eq_append_getElem h,List.getD_eq_getElem?_getD,List.getElem?_eq_getElem h];rfl
theorem aB (l:List Nat) (k:Nat) (h:k<l.length):toN (l.take (k+1))=toN (l.take k)+B ^ k*l.getD k 0:=by
 rw [bf l k h,aQ,List.length_take,Nat.min_eq_left (by omega)]
def dg (n:Nat):List Nat:=if _h:n=0 then [] else n % B::dg (n / B)
termination_by n
decreasing_by exact Nat.div_lt_self (by omega) (by decide)
theorem av:dg 0 = []:=by rw [dg];rfl
theorem de {n:Nat} (h:n≠0):dg n=n % B::dg (n / B):=by rw [dg,dif_neg h]
theorem ar (n:Nat):toN (dg n)=n:=by
 induction n using Nat.strongRecOn with
 | _ n ih =>
  by_cases h:n=0
  ·subst h;rw [av];rfl
  ·rw [de h,toN,ih (n / B) (Nat.div_lt_self (by omega) (by decide))]
   exact Nat.mod_add_div n B
theorem aq (n:Nat):Dig (dg n):=by
 induction n using Nat.strongRecOn with
 | _ n ih =>
  by_cases h:n=0
  ·subst h;rw [av];exact Dig.nil
  ·rw [de h]
   exact Dig.cons (Nat.mod_lt _ (by decide)) (ih (n / B) (Nat.div_lt_self (by omega) (by decide)))
theorem dF {l:List Nat} (hne:l ≠ []) (hl:l.getLast? ≠ some 0):0<toN l:=by
 induction l with
 | nil=>exact absurd rfl hne
 | cons d r ih =>
  rw [toN]
  by_cases hr:r = []
  ·subst hr
   have:d≠0:=fun e=>hl (by rw [e];rfl)
   omega
  ·have h1:=ih hr (by rwa [List.getLast?_cons_of_ne_nil hr] at hl)
   have:=Nat.mul_pos bP h1
   omega
theorem m8 {l:List Nat} (h:Dig l) (hl:l.getLast? ≠ some 0):dg (toN l)=l:=by
 induction l with
 | nil=>exact av
 | cons d r ih =>
  have h0:=dF (l:=d::r) (by simp) hl
  have hd:d<B:=h.head
  rw [de (by omega)]
  simp only [toN]
  have e1:(d+B*toN r) % B=d:=by rw [Nat.add_mul_mod_self_left];exact Nat.mod_eq_of_lt hd
  have e2:(d+B*toN r) / B=toN r:=by
   rw [Nat.add_mul_div_left _ _ bP,Nat.div_eq_of_lt hd];omega
  rw [e1,e2]
  by_cases hr:r = []
  ·subst hr;rw [show toN []=0 from rfl,av]
  ·rw [ih h.tail (by rwa [List.getLast?_cons_of_ne_nil hr] at hl)]
theorem tW (n:Nat):(dg n).getLast? ≠ some 0:=by
 induction n using Nat.strongRecOn with
 | _ n ih =>
  by_cases h:n=0
  ·subst h;rw [av];simp
  ·rw [de h]
   have h1:=ih (n / B) (Nat.div_lt_self (by omega) (by decide))
   by_cases hr:dg (n / B) = []
   ·rw [hr]
    intro e
    have e:n % B=0:=by simpa using e
    have e2:n / B=0:=by have:=ar (n / B);rw [hr] at this;exact this.symm
    have:=Nat.mod_add_div n B
    rw [e,e2] at this;omega
   ·rwa [List.getLast?_cons_of_ne_nil hr]
theorem cU (n:Nat):dg n = []↔n=0:=by
 constructor
 ·intro h;have:=ar n;rw [h] at this;exact this.symm
 ·rintro rfl;exact av
theorem ak (n k : Nat) : (dg n).length ≤ k ↔ n < B ^ k := by
 constructor
 · intro h
   have h1 := cI (aq n)
   rw [ar] at h1
   exact Nat.lt_of_lt_of_le h1 (Nat.pow_le_pow_right bP h)
 · induction k generalizing n with
   | zero => intro h; have : n = 0 := by simpa using h
             subst this; rw [av]; exact Nat.le_refl _
   | succ k ih =>
     intro h
     by_cases h0 : n = 0
     · subst h0; rw [av]; simp
     · rw [de h0, List.length_cons]
       have := ih (n / B) (by rw [Nat.div_lt_iff_lt_mul bP]; rwa [Nat.pow_succ] at h)
       omega
theorem fK {l:List Nat} (h:Dig l) (k:Nat) (hk:k≤l.length) (hv:toN (l.take k)=toN l) (hl:k=0∨l.getD (k - 1) 0≠0):dg (toN l)=l.take k:=by
 rw [←hv]
 refine m8 (h.take k) ?_
 rcases hl with rfl | hl
 ·simp
 ·intro e
  by_cases h0:k=0
  ·subst h0;simp at e
  ·apply hl
   have h1:k - 1<l.length:=by omega
   have h2:=bf l (k - 1) h1
   rw [Nat.sub_add_cancel (by omega)] at h2
   rw [h2,List.getLast?_concat] at e
   exact Option.some.inj e
theorem gl {n:Nat} (h0:n≠0) (h:n<B):dg n = [n]:=by
 rw [de h0,Nat.mod_eq_of_lt h,Nat.div_eq_of_lt h,av]
end
section
open Go.RowKit
def Nats (w:World) (v:Value) (l:List Nat):Prop :=
 ∃ p cap,v = .slice p l.length cap∧l.length≤cap∧cap≤9223372036854775807 ∧
  (l ≠ []→∃ b off,p=some ⟨b,off,none⟩∧∀ i,i<l.length→w.cell? ⟨b,off+i,none⟩=some (.int .u64 (l.getD i 0:Nat)))
theorem Nats.next {w w':World} {v:Value} {l:List Nat} (h:Nats w v l) (hb:Below w.heap.size w w'):Nats w' v l:=by
 obtain ⟨p,cap,rfl,h1,h2,h3⟩:=h
 refine ⟨p,cap,rfl,h1,h2,fun hne => ?_⟩
 obtain ⟨b,off,e,hc⟩:=h3 hne
 exact ⟨b,off,e,fun i hi=>(hb.cell (World.block_lt_of_cell? w _ (hc i hi))).trans (hc i hi)⟩
theorem Nats.nil (w:World):Nats w (.slice none 0 0) []:=⟨none,0,rfl,Nat.le_refl _,by decide,fun h=>absurd rfl h⟩
theorem pM (v:Value) (l:List Nat) (i:Int) (w:World) (h:Nats w v l) (hi:0≤i) (hi':i≤4611686018427387904) :
  Calls Tryz.prog 232 #[v,.int .i64 i] w fun e w'=>e = .returned (.int .u64 (l.getD i.toNat 0:Nat))∧w=w':=by
 obtain ⟨p,cap,rfl,h1,h2,h3⟩:=h
 by_cases hlt:i<(l.length:Int)
 ·obtain ⟨b,off,rfl,hc⟩:=h3 (by intro e;subst e;simp at hlt;omega)
  have hc':=hc i.toNat (by omega)
  clear hc
  have e1:((i.toNat:Nat):Int)=i:=by omega
  generalize l.length=n at *
  generalize l.getD i.toNat 0=d at *
  obtain ⟨k,rfl⟩:∃ k:Nat,i=k:=⟨i.toNat,by omega⟩
  rw [Int.toNat_natCast] at hc'
  clear e1
  go_enter Tryz.func232,Tryz.ntmps232
  go_wp2
  go_ret
  exact ⟨rfl,rfl⟩
 ·have e:l.getD i.toNat 0=0:=by rw [List.getD_eq_getElem?_getD,List.getElem?_eq_none (by omega)];rfl
  rw [e]
  generalize l.length=n at *
  clear h3 e
  go_enter Tryz.func232,Tryz.ntmps232
  go_wp2
  go_ret
  exact ⟨rfl,rfl⟩
def lenOf:Value→Nat | .slice _ n _=>n | _=>0
theorem bv (p:Option Addr) (cap:Nat) (l:List Nat) (w:World) (h:Nats w (.slice p l.length cap) l) (hd:Dig l) :
  Calls Tryz.prog 218 #[.slice p l.length cap] w fun e w'=>e = .returned (.slice p (dg (toN l)).length cap)∧w=w':=by
 obtain ⟨p',cap',he,h1,h2,h3⟩:=h
 simp only [Value.slice.injEq,true_and] at he
 obtain ⟨rfl,rfl⟩:=he
 have H3:=Ha h3;clear h3
 have HD:=Ha hd;clear hd
 go_enter Tryz.func218,Tryz.ntmps218
 go_wp2
 go_loop [0] (fun x=>∃ k:Nat,k≤l.length∧x = .slice p k cap∧Hid (toN (l.take k)=toN l)) (fun x=>lenOf x)
 case atStart=>exact ⟨l.length,Nat.le_refl _,rfl,by show toN _=_;rw [List.take_length]⟩
 case round =>
  obtain ⟨k,hk,rfl,hv⟩:=hrel
  by_cases h0:k=0
  ·subst h0
   have he:=fK HD.out 0 hk hv.out (.inl rfl)
   have HE:=Ha (show (dg (toN l)).length=0 by rw [he];simp);clear he
   go_wp2
   go_ret
   exact ⟨by rw [HE.out];rfl,rfl⟩
  ·obtain ⟨b,off,rfl,hc⟩:=H3.out (by intro e;subst e;simp at hk;omega)
   have hc1:=hc (k - 1) (by omega)
   have HC:=Ha hc;clear hc
   obtain ⟨j,rfl⟩:∃ j,k=j+1:=⟨k - 1,by omega⟩
   rw [Nat.add_sub_cancel] at hc1
   have ej:((j+1:Nat):Int) - 1=(j:Int):=by omega
   have HJ:=Ha ej;clear ej
   have hs:=aB l j (by omega)
   have HS:=Ha hs;clear hs
   have hl:=Ha (fK HD.out (j+1) hk hv.out)
   have hdd:=Ha (show l.getD j 0=l.getD j 0 from rfl)
   by_cases hz:l.getD j 0=0
   ·have hv2:Hid (toN (l.take j)=toN l):=by
     show toN (l.take j)=toN l
     rw [←hv.out,HS.out,hz];simp
    rw [hz] at hc1
    have HZ:=Ha hz;clear hz hl hv HS hdd
    generalize l.length=n at *
    go_wp2
    go_round
    case rel=>exact ⟨j,by omega,rfl,hv2⟩
    case measure=>simp [lenOf]
   ·have hz':(((l.getD j 0:Nat):Int)==0)=false:=by rw [beq_eq_false_iff_ne];omega
    have hr:(dg (toN l)).length=j+1:=by
     rw [hl.out (.inr (by rw [Nat.add_sub_cancel];exact hz)),List.length_take];omega
    have HR:=Ha hr;clear hr hz hl hv HS hdd
    generalize l.getD j 0=d at *
    generalize l.length=n at *
    go_wp2
    go_ret
    exact ⟨by rw [HR.out];rfl,rfl⟩
theorem aK {l:List Nat} (h:Dig l):dg (toN l) <+: l:=by
 induction l using fz with
 | h0=>rw [show toN []=0 from rfl,av];exact List.prefix_refl _
 | hs m d ih =>
  by_cases hd:d=0
  ·subst hd
   rw [aQ,Nat.mul_zero,Nat.add_zero]
   exact (ih (fun x hx=>h x (by simp [hx]))).trans (List.prefix_append _ _)
  ·rw [m8 h (by rw [List.getLast?_concat];intro e;exact hd (Option.some.inj e))]
   exact List.prefix_refl _
theorem Nats.take {w:World} {p:Option Addr} {cap:Nat} {l m:List Nat} (h:Nats w (.slice p l.length cap) l) (hm:m <+: l):Nats w (.slice p m.length cap) m:=by
 obtain ⟨p',cap',he,h1,h2,h3⟩:=h
 simp only [Value.slice.injEq,true_and] at he
 obtain ⟨rfl,rfl⟩:=he
 refine ⟨p,cap,rfl,Nat.le_trans hm.length_le h1,h2,fun hne => ?_⟩
 obtain ⟨r,rfl⟩:=hm
 obtain ⟨b,off,e,hc⟩:=h3 (by simp [hne])
 refine ⟨b,off,e,fun i hi => ?_⟩
 rw [hc i (by rw [List.length_append];omega)]
 rw [List.getD_eq_getElem?_getD,List.getD_eq_getElem?_getD,List.getElem?_append_left hi]
def Fresh (base:Nat) (v:Value):Prop:=∀ k,v.ownBlock=some k→base≤k
theorem Fresh.mono {a b:Nat} {v:Value} (h:Fresh b v) (hab:a≤b):Fresh a v:=fun k hk=>Nat.le_trans hab (h k hk)
theorem Fresh.nil (b:Nat):Fresh b (.slice none 0 0):=fun k hk=>by cases hk
theorem eI (v:Value) (l:List Nat) (w:World) (h:Nats w v l) (hd:Dig l) :
  Calls Tryz.prog 218 #[v] w fun e w'=>w=w'∧∃ v',e = .returned v'∧Nats w v' (dg (toN l))∧v'.ownBlock=v.ownBlock:=by
 have h':=h
 obtain ⟨p,cap,rfl,h1,h2,h3⟩:=h
 refine (bv p cap l w h' hd).mono fun e w' ⟨he,hw⟩=>⟨hw,_,he,h'.take (aK hd),?_⟩
 cases p <;> rfl
def IsNat (w:World) (v:Value) (n:Nat):Prop:=Nats w v (dg n)
theorem IsNat.next {w w':World} {v:Value} {n:Nat} (h:IsNat w v n) (hb:Below w.heap.size w w'):IsNat w' v n:=Nats.next h hb
theorem sI (w:World):IsNat w (.slice none 0 0) 0:=by unfold IsNat;rw [av];exact Nats.nil w
theorem Nats.of_cells {w:World} {b:Nat} {l:List Nat} {cap:Nat} (h1:l.length≤cap) (h2:cap≤9223372036854775807)
  (h:∀ i,i<l.length→w.cell? ⟨b,i,none⟩=some (.int .u64 (l.getD i 0:Nat))):Nats w (.slice (some ⟨b,0,none⟩) l.length cap) l :=
 ⟨_,cap,rfl,h1,h2,fun _=>⟨b,0,rfl,fun i hi=>by rw [Nat.zero_add];exact h i hi⟩⟩
theorem wD (w:World) (x y:Nat) (e:TypeId) :
  Nats (w.alloc (.cells #[.int .u64 x,.int .u64 y] e)) (.slice (some ⟨w.heap.size,0,none⟩) 2 2) [x,y] :=
 Nats.of_cells (l := [x,y]) (Nat.le_refl _) (by decide) (fun i hi=>by
  match i,hi with
  | 0,_=>go_cell
  | 1,_=>go_cell)
theorem fZ (n:Nat) (w:World) (hn:n<1000000000000000000) :
  Calls Tryz.prog 209 #[.int .u64 n] w fun e w'=>∃ v,e = .returned v∧IsNat w' v n∧Fresh w.heap.size v∧Below w.heap.size w w':=by
 have hv:toN [n % 1000000000,n / 1000000000]=n:=by
  simp only [toN,Nat.mul_zero,Nat.add_zero,dH];omega
 have hd:Dig [n % 1000000000,n / 1000000000]:=Dig.cons (by omega) (Dig.one (by omega))
 have c:=eI _ _ _ (wD w (n % 1000000000) (n / 1000000000) 143) hd
 rw [Int.natCast_emod,Int.natCast_ediv,hv] at c
 have C:=Ha c;clear c hv hd
 go_enter Tryz.func209,Tryz.ntmps209
 go_wp2_with fail
 refine C.out.mono ?_
 rintro e w' ⟨rfl,v,rfl,hv,ho⟩
 have HV:=Ha hv;clear hv C
 have HO:=Ha ho;clear ho
 go_wp2
 go_ret
 exact ⟨v,rfl,HV.out,fun k hk=>by rw [HO.out] at hk;cases hk;exact Nat.le_refl _,(Below.refl _ _).alloc (Nat.le_refl _) _⟩
theorem cY (n i:Nat):(dg n).getD i 0=n / B ^ i % B:=by
 induction i generalizing n with
 | zero =>
  by_cases h:n=0
  ·subst h;rw [av];simp
  ·rw [de h];simp
 | succ i ih =>
  by_cases h:n=0
  ·subst h;rw [av];simp
  ·rw [de h,List.getD_cons_succ,ih,Nat.pow_succ,Nat.mul_comm,Nat.div_div_eq_div_mul]
theorem dh (v:Value) (n:Nat) (w:World) (h:IsNat w v n) (hn:n<1000000000000000000) :
  Calls Tryz.prog 211 #[v] w fun e w'=>e = .returned (.int .u64 n)∧w=w':=by
 have c1:=pM v (dg n) 1 w h (by decide) (by decide)
 have c0:=pM v (dg n) 0 w h (by decide) (by decide)
 have g1:(dg n).getD 1 0=n / 1000000000:=by
  rw [cY,Nat.pow_one,dH];omega
 have g0:(dg n).getD 0 0=n % 1000000000:=by
  rw [cY,Nat.pow_zero,dH];omega
 rw [show (1:Int).toNat=1 from rfl,g1] at c1
 rw [show (0:Int).toNat=0 from rfl,g0] at c0
 have C1:=Ha c1;have C0:=Ha c0
 clear c1 c0 g1 g0
 obtain ⟨q,hq⟩:∃ q,n / 1000000000=q:=⟨_,rfl⟩
 obtain ⟨r,hr⟩:∃ r,n % 1000000000=r:=⟨_,rfl⟩
 have hqr:q*1000000000+r=n:=by omega
 have hq2:q<1000000000:=by omega
 have hr2:r<1000000000:=by omega
 rw [hq] at C1;rw [hr] at C0
 have HN:=Ha hqr;clear hq hr hqr
 go_enter Tryz.func211,Tryz.ntmps211
 go_wp2_with fail
 refine C1.out.mono ?_
 rintro e w' ⟨rfl,rfl⟩
 go_wp2_with fail
 refine C0.out.mono ?_
 rintro e w' ⟨rfl,rfl⟩
 clear C0 C1
 go_wp2
 go_ret
 exact ⟨an (by have:=HN.out;omega),rfl⟩
theorem ni (u:Nat) (h:0<u):10 ^ (Lib.nDigits u - 1)≤u:=by
 induction u using Nat.strongRecOn with
 | _ u ih =>
  by_cases hu:u<10
  ·rw [Lib.nDigits_small hu];simp;omega
  ·rw [Lib.nDigits_big hu,Nat.add_sub_cancel]
   have h1:=ih (u / 10) (by omega) (by omega)
   have h2:=Lib.nDigits_pos (u / 10)
   obtain ⟨k,hk⟩:∃ k,Lib.nDigits (u / 10)=k+1:=⟨Lib.nDigits (u / 10) - 1,by omega⟩
   rw [hk] at h1 ⊢
   rw [Nat.add_sub_cancel] at h1
   rw [Nat.pow_succ];omega
theorem nj (d k r:Nat) (hd:0<d) (hr:r<10 ^ k):Lib.nDigits (r+10 ^ k*d)=k+Lib.nDigits d:=by
 have h1:=Lib.nDigits_pos d
 obtain ⟨m,hm⟩:∃ m,Lib.nDigits d=m+1:=⟨Lib.nDigits d - 1,by omega⟩
 have h2:=ni d hd
 have h3:=Lib.lt_pow_nDigits d
 rw [hm] at h2 h3 ⊢
 rw [Nat.add_sub_cancel] at h2
 rw [show k+(m+1)=(k+m)+1 by omega]
 refine Lib.nDigits_unique (k+m) _ ?_ ?_
 ·rw [Nat.pow_add]
  exact Nat.le_trans (Nat.mul_le_mul_left _ h2) (Nat.le_add_left _ _)
 ·have h4:10 ^ k*(d+1)≤10 ^ k*10 ^ (m+1):=Nat.mul_le_mul_left _ h3
  rw [show k+m+1=k+(m+1) by omega,Nat.pow_add]
  rw [Nat.mul_succ] at h4
  omega
theorem zJ (k:Nat):B ^ k=10 ^ (9*k):=by rw [Nat.pow_mul];rfl
theorem fN (n:Nat) (h:n≠0):∃ r,r<B ^ ((dg n).length - 1)∧0<(dg n).getD ((dg n).length - 1) 0∧n=r+B ^ ((dg n).length - 1)*(dg n).getD ((dg n).length - 1) 0:=by
 have hne:dg n ≠ []:=fun e=>h ((cU n).1 e)
 have hl:0<(dg n).length:=List.length_pos_iff.2 hne
 have h1:=aB (dg n) ((dg n).length - 1) (by omega)
 rw [Nat.sub_add_cancel hl,List.take_length,ar] at h1
 have h2:=cI ((aq n).take ((dg n).length - 1))
 rw [List.length_take,Nat.min_eq_left (by omega)] at h2
 refine ⟨_,h2,?_,h1⟩
 apply Nat.pos_of_ne_zero
 intro e
 apply tW n
 rw [List.getLast?_eq_getElem?, List.getElem?_eq_getElem (by omega)]
 rw [List.getD_eq_getElem?_getD,List.getElem?_eq_getElem (by omega)] at e
 exact congrArg some e
theorem sJ (n:Nat) (h:n≠0):Lib.nDigits n=9*((dg n).length - 1)+Lib.nDigits ((dg n).getD ((dg n).length - 1) 0):=by
 obtain ⟨r,h1,h2,h3⟩:=fN n h
 rw [zJ] at h1 h3
 generalize (dg n).getD ((dg n).length - 1) 0=d at *
 generalize (dg n).length - 1=k at *
 subst h3
 exact nj d (9*k) r h2 h1
def eJ (n:Nat):Nat:=if n=0 then 0 else Lib.nDigits n
theorem wE (f:Nat) (h:f≠0):eJ f=eJ (f / 10)+1:=by
 unfold eJ
 rw [if_neg h]
 by_cases h2:f<10
 ·rw [Lib.nDigits_small h2,if_pos (by omega)]
 ·rw [Lib.nDigits_big h2,if_neg (by omega)]
theorem sK (v:Value) (n:Nat) (w:World) (h:IsNat w v n) (hn:(dg n).length≤1000000) :
  Calls Tryz.prog 204 #[v] w fun e w'=>e = .returned (.int .i64 (eJ n:Nat))∧w=w':=by
 obtain ⟨p,cap,rfl,h1,h2,h3⟩:=h
 have H3:=Ha h3;clear h3
 by_cases h0:n=0
 ·subst h0
  have HL:=Ha (show (dg 0).length=0 by rw [av];rfl)
  rw [HL.out]
  rw [HL.out] at h1
  clear hn
  go_enter Tryz.func204,Tryz.ntmps204
  go_wp2
  go_ret
  exact ⟨rfl,rfl⟩
 ·have hne:dg n ≠ []:=fun e=>h0 ((cU n).1 e)
  have hl:0<(dg n).length:=List.length_pos_iff.2 hne
  obtain ⟨b,off,rfl,hc⟩:=H3.out hne
  have hc1:=hc ((dg n).length - 1) (by omega)
  have hd:=(aq n).getD ((dg n).length - 1)
  have HN:=Ha (sJ n h0)
  have hdp:0<(dg n).getD ((dg n).length - 1) 0:=by
   obtain ⟨r,_,h5,_⟩:=fN n h0;exact h5
  clear hc H3
  have HR:=Ha (show eJ n=Lib.nDigits n by unfold eJ;rw [if_neg h0])
  generalize (dg n).getD ((dg n).length - 1) 0=d at *
  generalize Lib.nDigits n=m at *
  obtain ⟨k,hk⟩:∃ k,(dg n).length=k+1:=⟨(dg n).length - 1,by omega⟩
  rw [hk] at hn h1 hc1 HN ⊢
  clear hk hl
  rw [Nat.add_sub_cancel] at hc1 HN
  have ej:((k+1:Nat):Int) - 1=(k:Int):=by omega
  have HD:=Ha (show eJ d=Lib.nDigits d by unfold eJ;rw [if_neg (by omega)])
  have hdl:eJ d≤9:=by rw [HD.out];exact (aJ d 9 (by decide)).2 (by omega)
  go_enter Tryz.func204,Tryz.ntmps204
  go_wp2
  go_loop [3,4] (fun x y=>∃ c f:Nat,c≤100∧f<1000000000∧x = .int .i64 ((k:Int)*9+c)∧y = .int .u64 f∧Hid (c+eJ f=eJ d)) (fun _ y=>(intOf y).toNat)
  case atStart=>exact ⟨0,d,by omega,hd,by go_num,rfl,by show 0+eJ d=eJ d;omega⟩
  case round =>
   obtain ⟨c,f,hc,hf,rfl,rfl,hh⟩:=hrel
   by_cases hf0:f=0
   ·subst hf0
    have hz:eJ 0=0:=rfl
    have hh2:=hh.out
    rw [hz] at hh2
    have HH:=Ha hh2;clear hh2 hz hh hdl
    go_wp2
    go_ret
    exact ⟨an (by have e1:=HH.out;have e2:=HN.out;have e3:=HR.out;have e4:=HD.out;omega),rfl⟩
   ·have hs:=wE f hf0
    have hc2:c+1≤100:=by have:=hh.out;omega
    have hh2:Hid (c+1+eJ (f / 10)=eJ d):=by have:=hh.out;show c+1+eJ (f / 10)=eJ d;omega
    have HC:=Ha (Int.natCast_ediv f 10)
    have hf10:f / 10<1000000000:=by omega
    clear hs hh hdl
    go_wp2
    go_round
    case rel=>exact ⟨c+1,f / 10,hc2,hf10,by go_num,by rw [HC.out];rfl,hh2⟩
    case measure=>simp [intOf];omega
end
end Go.Proofs.YtjdomibbaemdnaaGreatDoor
