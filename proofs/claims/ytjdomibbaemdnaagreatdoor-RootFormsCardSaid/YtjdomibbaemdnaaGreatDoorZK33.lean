/- Parts of the proof of the text YtjdomibbaemdnaaGreatDoorZK42. -/
import Derived.Test.YtjdomibbaemdnaaGreatDoorZK1
import Derived.Test.YtjdomibbaemdnaaGreatDoorZK16
import Derived.Test.YtjdomibbaemdnaaGreatDoorZK17
import Derived.Test.YtjdomibbaemdnaaGreatDoorZK18
import Derived.Test.YtjdomibbaemdnaaGreatDoorZK32
import Derived.Test.YtjdomibbaemdnaaGreatDoorZK5
import Derived.Test.YtjdomibbaemdnaaGreatDoorZK8
set_option linter.all false
set_option maxRecDepth 100000
set_option maxHeartbeats 8000000
namespace Go.Proofs.YtjdomibbaemdnaaGreatDoor
namespace R
open Go.RowKit
theorem Divide_any (a b:ByteArray) (w:World) (ha:a.size≤1000) (hb:b.size≤1000) (ht:Tab w) :
  Calls Tryz.prog 65 #[.string a,.string b] w fun e W'=>e = .returned (.tuple #[.string (qm (bC a.data.toList b.data.toList) (valOf a.data.toList) (valOf b.data.toList)),.string (qo (bC a.data.toList b.data.toList) (valOf a.data.toList) (valOf b.data.toList)),.int .i64 (qp (bC a.data.toList b.data.toList) (valOf b.data.toList))])∧Below w.heap.size w W':=by
 have cb:=gN a b w (by unfold maxLen;omega) (by unfold maxLen;omega)
 by_cases hz:bC a.data.toList b.data.toList=0
 ·obtain ⟨k1,k2⟩:=fw hz
  rw [hz]
  by_cases h0:valOf b.data.toList=0
  ·rw [h0,(gx _).1,(gx _).2.1,(gx 0).2.2]
   have e48:=vU k2 h0
   have hb48:(b.toList == [48])=true:=by rw [ByteArray.toList_eq,e48];rfl
   rw [hz] at cb
   have C:=Ha cb
   clear cb e48 h0 k1 k2 hz ht
   go_enter Tryz.func65,Tryz.ntmps65
   go_wp2_with fail
   refine C.out.mono ?_
   rintro e w' ⟨rfl,rfl⟩
   go_wp2
   go_ret3
   exact ⟨rfl,Below.refl _ _⟩
  ·rw [(jC h0).1,(jC h0).2.1,(jC (x:=0) h0).2.2]
   by_cases hs:a.size≤17∧b.size≤17
   ·exact pN a b w hs.1 hs.2 k1 k2 h0 ht
   ·exact iB a b w hs k1 k2 h0
 ·rw [(i6 hz _ _).1,(i6 hz _ _).2.1,(i6 hz 0 _).2.2]
  generalize bC a.data.toList b.data.toList=e at *
  have C:=Ha cb
  have hn:(e != 0)=true:=by simpa using hz
  clear cb hz ht
  go_enter Tryz.func65,Tryz.ntmps65
  go_wp2_with fail
  refine C.out.mono ?_
  rintro e w' ⟨rfl,rfl⟩
  go_wp2
  go_ret3
  exact ⟨rfl,Below.refl _ _⟩
def Bp (e:Int) (x y:Nat):ByteArray:=if e=0 then aa (Nat.gcd x y:Nat) else ⟨#[]⟩
theorem Gcd_any (a b:ByteArray) (w:World) (ha:a.size≤maxLen) (hb:b.size≤maxLen) (ht:Tab w) :
  Calls Tryz.prog 104 #[.string a,.string b] w fun e W'=>e = .returned (.tuple #[.string (Bp (bC a.data.toList b.data.toList) (ae (szL a.data.toList)) (ae (szL b.data.toList))),.int .i64 (bC a.data.toList b.data.toList)])∧Below w.heap.size w W':=by
 by_cases hz:bC a.data.toList b.data.toList=0
 ·obtain ⟨k1,k2⟩:=fw hz
  rw [hz]
  exact Am a b w k1 k2 ht
 ·refine (yB a b w ha hb hz).mono ?_
  rintro e w' ⟨rfl,rfl⟩
  refine ⟨?_,Below.refl _ _⟩
  unfold Bp
  rw [if_neg hz]
end R
section
open Go.RowKit
def gO:Nat→Nat→List UInt8
 | _,0 => []
 | n,k+1=>gO (n / 10) k ++ [UInt8.ofNat (48+n % 10)]
theorem rk:∀ (n k:Nat),(gO n k).length=k
 | _,0=>rfl
 | n,k+1=>by unfold gO;rw [List.length_append,rk];rfl
theorem oJ:∀ (k n:Nat),gO n (k+1)=UInt8.ofNat (48+n / 10 ^ k % 10)::gO n k
 | 0,n=>by simp [gO]
 | k+1,n=>by
  have h:=oJ k (n / 10)
  rw [show gO n (k+1+1)=gO (n / 10) (k+1) ++ [UInt8.ofNat (48+n % 10)] from rfl,h,Nat.div_div_eq_div_mul,←Nat.pow_succ']
  rfl
theorem rl:∀ (k n:Nat),n / 10 ^ (k+1)=0→(k=0∨n / 10 ^ k≠0)→gO n (k+1)=Lib.decDigits n
 | 0,n,h,_=>by
  have hn:n<10:=by
   rw [Nat.div_eq_zero_iff] at h;simpa using h
  unfold Lib.decDigits
  rw [dif_pos hn]
  simp [gO,Nat.mod_eq_of_lt hn]
 | k+1,n,h,h'=>by
  have hn:¬ n<10:=fun q=>by
   rcases h' with h' | h'
   ·cases h'
   ·apply h'
    rw [Nat.pow_succ',←Nat.div_div_eq_div_mul,Nat.div_eq_of_lt q,Nat.zero_div]
  have e:=rl k (n / 10) (by rw [Nat.div_div_eq_div_mul,←Nat.pow_succ'];exact h) (by
   rcases h' with h' | h'
   ·cases h'
   ·right;rw [Nat.div_div_eq_div_mul,←Nat.pow_succ'];exact h')
  rw [show gO n (k+1+1)=gO (n / 10) (k+1) ++ [UInt8.ofNat (48+n % 10)] from rfl,e]
  conv=>rhs;unfold Lib.decDigits
  rw [dif_neg hn]
theorem rn {W:World} {B:Nat} {e:TypeId} {g n cap:Nat} {xs:List Value} (h:W.ownsRow B e 1 (.slice (some ⟨g,0,none⟩) n cap) n xs):∃ cur,Blk W g cur∧n≤cur.size:=by
 obtain ⟨_,h2⟩:=h
 rcases h2 with ⟨hv,_⟩ | ⟨g',cap',cur,hv,hg,hh,r1,r2,r3,_⟩
 ·cases hv
 ·cases hv
  exact ⟨cur,⟨e,hh⟩,by omega⟩
theorem ou {cur:Array Value} {p j:Nat} {u v:Value} (h:cur[j]? = some v) (hne:p≠j):(cur.setIfInBounds p u)[j]? = some v:=by
 rw [Array.getElem?_setIfInBounds,if_neg hne];exact h
theorem pO {cur:Array Value} {p:Nat} {u:Value} (h:p<cur.size):(cur.setIfInBounds p u)[p]? = some u:=by
 rw [Array.getElem?_setIfInBounds,if_pos rfl,if_pos h]
theorem wH (m:Nat):((UInt8.ofNat (48+m % 10)).toNat:Int)=48+(m:Int) % 10:=by
 rw [show (UInt8.ofNat (48+m % 10)).toNat=(48+m % 10) % 256 from UInt8.toNat_ofNat,Nat.mod_eq_of_lt (by omega)];omega
theorem gd (n:Nat) (w:World) (hn:n<9223372036854775808) :
  Calls Tryz.prog 146 #[.int .i64 n] w fun e w'=>e = .returned (.string (aa n))∧Below w.heap.size w w':=by
 obtain ⟨i0,hi,hz0,hz1,hz2⟩:=info_parts eh
 have HI:=Ha (Hb hi (Hb hz0 (Hb hz1 hz2)));clear hi hz0 hz1 hz2
 go_enter Tryz.func146,Tryz.ntmps146
 go_wp2_with (at_make;refine wpList_make_full _ rfl _ _ 115 rfl w.heap.size 5 i0 (.int .u8 0) 1 Tryz.underlying115 HI.out.1 HI.out.2.1 HI.out.2.2.1 .i64 .i64 _ _ 20 rfl rfl rfl rfl (by rw [HI.out.2.2.2];omega) (by unfold maxLen;omega) (Nat.le_refl _) ?_;intro w1 hown hgrow)
 have hB1:Below w.heap.size w w1:=(Below.refl _ w).grown hgrow (Nat.le_refl _) (fun k e=>by cases e)
 have hbk:=rn hown
 clear hown hgrow HI i0
 have H1:=Ha (Hb hB1 hbk);clear hB1 hbk
 have HN:=Ha hn;clear hn
 go_loopw [0,4] (fun x y wr=>∃ k p:Nat,k+p+1=20∧x = .int .i64 (n / 10 ^ k:Nat)∧y = .int .i64 ((p+1:Nat):Int)∧Hid (∃ cur,Blk wr w.heap.size cur∧20≤cur.size∧∀ j v,(Lib.byteCells (gO n k))[j]? = some v→cur[p+1+j]? = some v)∧Hid (k=0∨n / 10 ^ k≠0)∧Hid (Below w.heap.size w wr)) (fun _ y _=>(intOf y).toNat)
 case atStart =>
  obtain ⟨cur,hb,hc⟩:=H1.out.2
  exact ⟨0,19,rfl,by simp,rfl,⟨cur,hb,hc,fun j v h=>by simp [gO,Lib.byteCells] at h⟩,.inl rfl,H1.out.1⟩
 case round =>
  obtain ⟨k,p,hkp,rfl,rfl,hbk,hz,hB⟩:=hrel
  clear H1
  obtain ⟨cur,hb,hc,hcs⟩:=hbk.out
  clear hbk
  have ⟨v0,hv0⟩:∃ v,cur[p]? = some v:=⟨_,Array.getElem?_eq_getElem (by omega)⟩
  have c0:=hb.cell p v0 hv0
  have f0:=hb.free p
  have hm:n / 10 ^ k<9223372036854775808:=Nat.lt_of_le_of_lt (Nat.div_le_self _ _) HN.out
  have HB:=Ha (Hb hb (Hb hc (Hb hv0 hcs)));clear hb hc hv0 hcs
  have hd:n / 10 ^ k / 10=n / 10 ^ (k+1):=by rw [Nat.div_div_eq_div_mul,←Nat.pow_succ]
  generalize hmm:n / 10 ^ k=m at *
  have hcons:gO n (k+1)=UInt8.ofNat (48+m % 10)::gO n k:=by rw [oJ,hmm]
  have hset:=HB.out.1.set p (.int .u8 (48+(m:Int) % 10))
  have hnew:∀ j v,(Lib.byteCells (gO n (k+1)))[j]? = some v→(cur.setIfInBounds p (.int .u8 (48+(m:Int) % 10)))[p+j]? = some v:=by
   intro j v hj
   rw [hcons] at hj
   cases j with
   | zero =>
    rw [Nat.add_zero,pO (by have:=HB.out.2.1;omega)]
    simp only [Lib.byteCells,List.map_cons,List.getElem?_cons_zero] at hj
    rw [←hj,wH]
   | succ j =>
    have h2:=HB.out.2.2.2 j v (by simpa [Lib.byteCells] using hj)
    rw [show p+(j+1)=p+1+j by omega]
    exact ou h2 (by omega)
  have hB':=hB.out.setCell (p:=⟨w.heap.size,p,none⟩) (Nat.le_refl _) (.int .u8 (48+(m:Int) % 10))
  have HS:=Ha (Hb hset (Hb hnew hB'));clear hset hnew hB' hB
  have HM:=Ha (Hb hmm hd);clear hmm hd hcons
  by_cases h10:m / 10=0
  ·have q1:(((m:Int) / 10)==0)=true:=by rw [beq_iff_eq];omega
   have hl:=rk n (k+1)
   have he:=rl k n (by rw [←HM.out.2];exact h10) (by rw [HM.out.1];exact hz.out)
   have hconv:=run_convert_bytes_back (P:=Tryz.prog) (wr.setCell ⟨w.heap.size,p,none⟩ (.int .u8 (48+(m:Int) % 10))) 115 9 5 ⟨w.heap.size,p,none⟩ (20 - p) (gO n (k+1)) Tryz.underlying115 Tryz.underlying5 Tryz.underlying9 (fun j hj=>by
    have:=HS.out.1.cell (p+j) _ (HS.out.2.1 j (.int .u8 ((gO n (k+1))[j].toNat:Int)) (by simp [Lib.byteCells,List.getElem?_eq_getElem hj]))
    rw [show (⟨w.heap.size,p,none⟩:Addr).add j=⟨w.heap.size,p+j,none⟩ by simp [Addr.add]]
    exact this)
   rw [hl,show k+1=20 - p by omega,show (⟨(gO n (20 - p)).toArray⟩:ByteArray)=aa n by
    rw [show 20 - p=k+1 by omega,he];unfold aa Lib.itoa;rw [if_neg (by omega)];rfl] at hconv
   clear hl he
   go_wp2
   go_ret
   exact ⟨rfl,HS.out.2.2⟩
  ·have q1:(((m:Int) / 10)==0)=false:=by rw [beq_eq_false_iff_ne];omega
   have hk:k≤17:=by
    rcases Nat.lt_or_ge 17 k with hk | hk
    ·exfalso
     apply h10
     rw [HM.out.2]
     have h1:10 ^ 19≤10 ^ (k+1):=Nat.pow_le_pow_right (by decide) (by omega)
     exact Nat.div_eq_of_lt (Nat.lt_of_lt_of_le (Nat.lt_trans HN.out (by decide)) h1)
    ·exact hk
   obtain ⟨p,rfl⟩:∃ q,p=q+1:=⟨p - 1,by omega⟩
   go_wp2
   go_roundw
   case rel =>
    refine ⟨k+1,p,by omega,?_,rfl,⟨_,HS.out.1,?_,fun j v hj => ?_⟩,.inr ?_,HS.out.2.2⟩
    ·rw [←HM.out.2];rfl
    ·rw [Array.size_setIfInBounds];exact HB.out.2.1
    ·have:=HS.out.2.1 j v hj
     exact this
    ·rw [←HM.out.2];exact h10
   case measure=>simp [intOf];omega
theorem kw {l:List UInt8} (h:l.all az=false):eU l=false:=by unfold eU;rw [h];rfl
theorem yE {l:List UInt8} (h:1<l.length) (h48:l.head? = some 48):eU l=false:=by
 unfold eU;rw [decide_eq_true h,h48];simp
theorem oK {l:List UInt8} (h:l.all az=true) (h0:0<l.length) (h48:l[0]? = some 48→l.length≤1):eU l=true:=by
 unfold eU
 rw [h]
 cases l with
 | nil=>simp at h0
 | cons c t =>
  simp only [Bool.true_and,List.isEmpty_cons,Bool.not_false,Bool.not_eq_true',Bool.and_eq_false_iff,decide_eq_false_iff_not]
  by_cases hl:1<(c::t).length
  ·right;rw [beq_eq_false_iff_ne];intro e;have:=h48 (by simpa using e);omega
  ·left;exact hl
theorem lV (s:ByteArray) (w:World) (hs:s.size≤maxLen) :
  Calls Tryz.prog 101 #[.string s] w fun e w'=>e = .returned (.bool (eU s.data.toList))∧w=w':=by
 have hm:s.size≤9223372036854775807:=by unfold maxLen at hs;omega
 clear hs
 by_cases h0:s.size=0
 ·have h0':((s.size:Int)==0)=true:=by rw [h0];rfl
  have hr:=Ha (show eU s.data.toList=false by rw [dO h0];rfl)
  go_enter Tryz.func101,Tryz.ntmps101
  go_wp2
  go_ret
  exact ⟨bL hr.out.symm,rfl⟩
 have hp:0<s.size:=by omega
 have h0':((s.size:Int)==0)=false:=by rw [beq_eq_false_iff_ne];omega
 by_cases h1:1<s.size
 ·have h1':(1:Int)<s.size:=by omega
  by_cases hc:((s[0].toNat:Int)==48)=true
  ·have hr:=Ha (yE (l:=s.data.toList) (by rw [ac];omega) (by
    rw [gV hp]
    have:=lD s[0] 48 (by decide)
    rw [show ((48:Nat):Int)=48 from rfl,hc] at this
    exact congrArg some (by simpa using this.symm)))
   go_enter Tryz.func101,Tryz.ntmps101
   go_wp2
   go_ret
   exact ⟨bL hr.out.symm,rfl⟩
  ·have hc':((s[0].toNat:Int)==48)=false:=by simpa using hc
   clear hc
   have H48:=Ha (fun h:s.data.toList[0]? = some 48=>show s.size≤1 from absurd h (tp hp hc'))
   go_enter Tryz.func101,Tryz.ntmps101
   go_wp2
   go_loop [3] (fun i=>∃ k:Nat,k≤s.size∧i = .int .i64 k∧Hid ((s.data.toList.take k).all az=true)) (fun i=>s.size - (intOf i).toNat)
   case atStart=>exact ⟨0,by omega,rfl,rfl⟩
   case round =>
    obtain ⟨k,hk,rfl,hd⟩:=hrel
    by_cases hlt:k<s.size
    ·by_cases h3:(s[k].toNat:Int)<48
     ·have hr:=Ha (kw (l:=s.data.toList) (by rw [List.all_eq_false];exact ⟨s[k],cK s k hlt,by rw [aA];omega⟩))
      clear hd
      go_wp2
      go_ret
      exact ⟨bL hr.out.symm,rfl⟩
     ·by_cases h4:(57:Int)<s[k].toNat
      ·have hr:=Ha (kw (l:=s.data.toList) (by rw [List.all_eq_false];exact ⟨s[k],cK s k hlt,by rw [aA];omega⟩))
       clear hd
       go_wp2
       go_ret
       exact ⟨bL hr.out.symm,rfl⟩
      ·have hdk:az s[k]=true:=by rw [aA];omega
       have hd':Hid ((s.data.toList.take (k+1)).all az=true):=by
        show (s.data.toList.take (k+1)).all az=true
        rw [bG s k hlt,List.all_append,hd.out];simp [hdk]
       clear hd hdk
       go_wp2
       go_round
       case rel=>exact ⟨k+1,by omega,by go_num,hd'⟩
       case measure=>simp [intOf];omega
    ·have hr:=Ha (oK (l:=s.data.toList) (by have:=hd.out;rwa [List.take_of_length_le (by rw [ac];omega)] at this) (by rw [ac];omega) (fun h=>by rw [ac];exact H48.out h))
     clear hd
     go_wp2
     go_ret
     exact ⟨bL hr.out.symm,rfl⟩
 ·have h1':¬ (1:Int)<s.size:=by omega
  have H48:=Ha (fun _:s.data.toList[0]? = some 48=>show s.size≤1 by omega)
  go_enter Tryz.func101,Tryz.ntmps101
  go_wp2
  go_loop [3] (fun i=>∃ k:Nat,k≤s.size∧i = .int .i64 k∧Hid ((s.data.toList.take k).all az=true)) (fun i=>s.size - (intOf i).toNat)
  case atStart=>exact ⟨0,by omega,rfl,rfl⟩
  case round =>
   obtain ⟨k,hk,rfl,hd⟩:=hrel
   by_cases hlt:k<s.size
   ·by_cases h3:(s[k].toNat:Int)<48
    ·have hr:=Ha (kw (l:=s.data.toList) (by rw [List.all_eq_false];exact ⟨s[k],cK s k hlt,by rw [aA];omega⟩))
     clear hd
     go_wp2
     go_ret
     exact ⟨bL hr.out.symm,rfl⟩
    ·by_cases h4:(57:Int)<s[k].toNat
     ·have hr:=Ha (kw (l:=s.data.toList) (by rw [List.all_eq_false];exact ⟨s[k],cK s k hlt,by rw [aA];omega⟩))
      clear hd
      go_wp2
      go_ret
      exact ⟨bL hr.out.symm,rfl⟩
     ·have hdk:az s[k]=true:=by rw [aA];omega
      have hd':Hid ((s.data.toList.take (k+1)).all az=true):=by
       show (s.data.toList.take (k+1)).all az=true
       rw [bG s k hlt,List.all_append,hd.out];simp [hdk]
      clear hd hdk
      go_wp2
      go_round
      case rel=>exact ⟨k+1,by omega,by go_num,hd'⟩
      case measure=>simp [intOf];omega
   ·have hr:=Ha (oK (l:=s.data.toList) (by have:=hd.out;rwa [List.take_of_length_le (by rw [ac];omega)] at this) (by rw [ac];omega) (fun h=>by rw [ac];exact H48.out h))
    clear hd
    go_wp2
    go_ret
    exact ⟨bL hr.out.symm,rfl⟩
def bsN (s:ByteArray):ByteArray:=⟨(sN s.data.toList).toArray⟩
def bsD (s:ByteArray):ByteArray:=⟨(sD s.data.toList).toArray⟩
theorem iK (s:ByteArray):(bsN s).data.toList=sN s.data.toList:=by simp [bsN]
theorem gP (s:ByteArray):(bsD s).data.toList=sD s.data.toList:=by simp [bsD]
theorem pP (l:List UInt8):bI l=bI (szL l)∧(bI l=true→aH l=aH (szL l)):=by
 cases hn:ap l
 ·rw [a8 hn];exact ⟨rfl,fun _=>rfl⟩
 ·obtain ⟨t,rfl,hs⟩:=jN hn
  rw [hs]
  have h1:bI (45::t)=bI t:=by unfold bI;simp
  refine ⟨h1,fun h => ?_⟩
  unfold aH
  rw [h,←h1,h,if_pos rfl,if_pos rfl,List.dropWhile_cons_of_pos (by decide)]
theorem pQ (l:List UInt8):sN l=bj (szL l):=rfl
theorem m6 {l t u:List UInt8} (hz:szL l=t++47::u) (hno:(47:UInt8) ∉ t):sN l=t∧bI l=true∧sD l=u:=by
 obtain ⟨c1,c2,c3⟩:=mC hno u
 obtain ⟨e1,e2⟩:=pP l
 rw [hz] at e1 e2
 rw [c2] at e1
 refine ⟨by rw [pQ,hz,c1],e1,?_⟩
 unfold sD
 rw [if_pos e1,e2 e1,c3]
theorem wI {l:List UInt8} (hno:(47:UInt8) ∉ szL l):sN l=szL l∧bI l=false∧sD l = []:=by
 obtain ⟨c1,c2,c3⟩:=mB hno
 obtain ⟨e1,e2⟩:=pP l
 rw [c2] at e1
 refine ⟨by rw [pQ,c1],e1,?_⟩
 unfold sD
 rw [e1];rfl
theorem kx {s:ByteArray} {k:Nat} (h:(47:UInt8) ∉ s.data.toList.take k) (hk:k<s.size) (h47:((s[k].toNat:Int)==47)=false):(47:UInt8) ∉ s.data.toList.take (k+1):=by
 rw [bG s k hk,List.mem_append,not_or]
 refine ⟨h,fun e => ?_⟩
 have e:=List.mem_singleton.1 e
 rw [←e] at h47
 exact absurd h47 (by decide)
theorem rp {s t:ByteArray} {k:Nat} (hz:szL s.data.toList=t.data.toList) (h:(47:UInt8) ∉ t.data.toList.take k) (hk:k<t.size) (h47:((t[k].toNat:Int)==47)=true):t.extract 0 k=bsN s∧t.extract (k+1) t.size=bsD s∧bI s.data.toList=true:=by
 have hc:t[k]=47:=by
  have:=lD t[k] 47 (by decide)
  rw [show ((47:Nat):Int)=47 from rfl,h47] at this
  simpa using this.symm
 have hspl:szL s.data.toList=t.data.toList.take k++47::t.data.toList.drop (k+1):=by
  rw [hz,←hc]
  have h1:t[k]=t.data.toList[k]'(by rw [ac];exact hk):=rfl
  rw [h1,←List.drop_eq_getElem_cons,List.take_append_drop]
 obtain ⟨e1,e2,e3⟩:=m6 hspl h
 refine ⟨aY ?_,aY ?_,e2⟩
 ·rw [Lib.extract_data,iK,e1];simp
 ·rw [Lib.extract_data,gP,e3,List.take_of_length_le (by rw [List.length_drop,ac];omega)]
theorem lj {s t:ByteArray} {k:Nat} (hz:szL s.data.toList=t.data.toList) (h:(47:UInt8) ∉ t.data.toList.take k) (hk:t.size≤k):t=bsN s∧bsD s=⟨#[]⟩∧bI s.data.toList=false:=by
 rw [List.take_of_length_le (by rw [ac];omega)] at h
 obtain ⟨e1,e2,e3⟩:=wI (l:=s.data.toList) (by rw [hz];exact h)
 refine ⟨aY (by rw [iK,e1,hz]),aY (by rw [gP,e3]),e2⟩
theorem dR {fn:Func} {t u v z:Tmp} (h:fn.results = #[.tmp t,.tmp u,.tmp v,.tmp z]) (tmps:Array Value) (P:Program) (w:World) :
  (results fn tmps).run P w = .ok (.tuple #[tmps.getD t undef,tmps.getD u undef,tmps.getD v undef,tmps.getD z undef]) w:=by
 simp [results,h]
theorem gQ {a b:Bool} {n d n' d':ByteArray} {f:Bool} (h1:n=n') (h2:d=d') (h3:b=f):Ending.returned (.tuple #[.bool a,.string n,.string d,.bool b]) = .returned (.tuple #[.bool a,.string n',.string d',.bool f]):=by rw [h1,h2,h3]
theorem nk (s:ByteArray) (w:World) (hs:s.size≤maxLen) :
  Calls Tryz.prog 100 #[.string s] w fun e w'=>e = .returned (.tuple #[.bool (ap s.data.toList),.string (bsN s),.string (bsD s),.bool (bI s.data.toList)])∧Below w.heap.size w w':=by
 have hm:s.size≤9223372036854775807:=by unfold maxLen at hs;omega
 clear hs
 cases hn:ap s.data.toList
 ·have HT:=Ha (show szL s.data.toList=s.data.toList from a8 hn)
  by_cases h0:s.size=0
  ·have h0':¬ (0:Int)<s.size:=by omega
   go_enter Tryz.func100,Tryz.ntmps100
   go_wp2
   go_loop [8] (fun i=>∃ k:Nat,k≤s.size∧i = .int .i64 k∧Hid ((47:UInt8) ∉ s.data.toList.take k)) (fun i=>s.size - (intOf i).toNat)
   case atStart=>exact ⟨0,by omega,rfl,by show (47:UInt8) ∉ s.data.toList.take 0;simp⟩
   case round =>
    obtain ⟨k,hk,rfl,hd⟩:=hrel
    have hlt:¬ k<s.size:=by omega
    have hr:=Ha (lj HT.out hd.out (by omega))
    clear hd
    go_wp2
    (try simp only [Exit.inBlock,Exit.then]);refine bodyPost_ret (dR rfl _ _ _) rfl ?_
    exact ⟨gQ hr.out.1 hr.out.2.1.symm hr.out.2.2.symm,Below.refl _ _⟩
  ·have hp:0<s.size:=by omega
   have h0':(0:Int)<s.size:=by omega
   have h45:((s[0].toNat:Int)==45)=false:=(bF hp).trans hn
   go_enter Tryz.func100,Tryz.ntmps100
   go_wp2
   go_loop [8] (fun i=>∃ k:Nat,k≤s.size∧i = .int .i64 k∧Hid ((47:UInt8) ∉ s.data.toList.take k)) (fun i=>s.size - (intOf i).toNat)
   case atStart=>exact ⟨0,by omega,rfl,by show (47:UInt8) ∉ s.data.toList.take 0;simp⟩
   case round =>
    obtain ⟨k,hk,rfl,hd⟩:=hrel
    by_cases hlt:k<s.size
    ·by_cases h47:((s[k].toNat:Int)==47)=true
     ·have hr:=Ha (rp HT.out hd.out hlt h47)
      clear hd
      go_wp2
      go_quiet (fail)
      go_wp2
      (try simp only [Exit.inBlock,Exit.then]);refine bodyPost_ret (dR rfl _ _ _) rfl ?_
      exact ⟨gQ hr.out.1 (by first | exact hr.out.2.1 | (rw [←ht];exact hr.out.2.1)) hr.out.2.2.symm,Below.drewK _ _ _⟩
     ·have h47':((s[k].toNat:Int)==47)=false:=by simpa using h47
      have hd':=Ha (kx hd.out hlt h47')
      clear hd h47
      go_wp2
      go_round
      case rel=>exact ⟨k+1,by omega,by go_num,hd'⟩
      case measure=>simp [intOf];omega
    ·have hr:=Ha (lj HT.out hd.out (by omega))
     clear hd
     go_wp2
     (try simp only [Exit.inBlock,Exit.then]);refine bodyPost_ret (dR rfl _ _ _) rfl ?_
     exact ⟨gQ hr.out.1 hr.out.2.1.symm hr.out.2.2.symm,Below.refl _ _⟩
 ·have hp:=hO hn
  have h0':(0:Int)<s.size:=by omega
  have h45:((s[0].toNat:Int)==45)=true:=(bF hp).trans hn
  have hz:szL s.data.toList=(s.extract 1 s.size).data.toList:=by
   rw [ui hn,Lib.extract_data,List.take_of_length_le (by rw [List.length_drop,ac];omega)]
  have ht:=ext_size s
  generalize hte:s.extract 1 s.size=t at *
  have HT:=Ha hz
  clear hz hn
  go_enter Tryz.func100,Tryz.ntmps100
  go_wp2
  clear hte
  go_loop [8] (fun i=>∃ k:Nat,k≤t.size∧i = .int .i64 k∧Hid ((47:UInt8) ∉ t.data.toList.take k)) (fun i=>t.size - (intOf i).toNat)
  case atStart=>exact ⟨0,by omega,rfl,by show (47:UInt8) ∉ t.data.toList.take 0;simp⟩
  case round =>
   obtain ⟨k,hk,rfl,hd⟩:=hrel
   by_cases hlt:k<t.size
   ·by_cases h47:((t[k].toNat:Int)==47)=true
    ·have hr:=Ha (rp HT.out hd.out hlt h47)
     clear hd
     go_wp2
     go_quiet (fail)
     go_wp2
     (try simp only [Exit.inBlock,Exit.then]);refine bodyPost_ret (dR rfl _ _ _) rfl ?_
     exact ⟨gQ hr.out.1 (by first | exact hr.out.2.1 | (rw [←ht];exact hr.out.2.1)) hr.out.2.2.symm,Below.drewK _ _ _⟩
    ·have h47':((t[k].toNat:Int)==47)=false:=by simpa using h47
     have hd':=Ha (kx hd.out hlt h47')
     clear hd h47
     go_wp2
     go_round
     case rel=>exact ⟨k+1,by omega,by go_num,hd'⟩
     case measure=>simp [intOf];omega
   ·have hr:=Ha (lj HT.out hd.out (by omega))
    clear hd
    go_wp2
    (try simp only [Exit.inBlock,Exit.then]);refine bodyPost_ret (dR rfl _ _ _) rfl ?_
    exact ⟨gQ hr.out.1 hr.out.2.1.symm hr.out.2.2.symm,Below.refl _ _⟩
theorem jF (t:ByteArray) (w:World) (hs:t.size≤18) (ha:t.data.toList.all az=true) :
  Calls Tryz.prog 103 #[.string t] w fun e w'=>e = .returned (.int .i64 (ae t.data.toList:Nat))∧w=w':=by
 have HA:=Ha ha;clear ha
 go_enter Tryz.func103,Tryz.ntmps103
 go_wp2
 go_loop [3,4] (fun n i=>∃ k:Nat,k≤t.size∧i = .int .i64 k∧n = .int .i64 (ae (t.data.toList.take k):Nat)) (fun _ i=>t.size - (intOf i).toNat)
 case atStart=>exact ⟨0,Nat.zero_le _,rfl,rfl⟩
 case round =>
  obtain ⟨k,hk,rfl,rfl⟩:=hrel
  by_cases hlt:k<t.size
  ·have hdk:=List.all_eq_true.1 HA.out t[k] (cK t k hlt)
   rw [aA] at hdk
   have h3:¬ (t[k].toNat:Int)<48:=by omega
   have h4:¬ (57:Int)<t[k].toNat:=by omega
   have htk:∀ j,j≤18→ae (t.data.toList.take j)<1000000000000000000:=fun j hj=>by
    refine Nat.lt_of_lt_of_le (a7 _ (fun c hc=>List.all_eq_true.1 HA.out c (List.mem_of_mem_take hc))) ?_
    exact Nat.le_trans (Nat.pow_le_pow_right (by decide) (Nat.le_trans (List.length_take_le _ _) hj)) (by decide)
   have hn:=htk k (by omega)
   have HS:Hid (ae (t.data.toList.take (k+1))=ae (t.data.toList.take k)*10+(t[k].toNat - 48)):=by rw [bG t k hlt];exact bo _ _
   have hn17:=htk (k+1) (by omega)
   rw [HS.out] at hn17
   clear hdk htk
   go_wp2
   go_round
   case rel=>exact ⟨k+1,by omega,by go_num,by rw [HS.out];go_num⟩
   case measure=>simp [intOf];omega
  ·have hk2:t.data.toList.take k=t.data.toList:=List.take_of_length_le (by rw [ac];omega)
   rw [hk2]
   clear hk2
   go_wp2
   go_ret
   exact ⟨rfl,rfl⟩
theorem nl (a b:Nat) (w:World) (ha:a<9223372036854775808) (hb:b<9223372036854775808) :
  Calls Tryz.prog 102 #[.int .i64 a,.int .i64 b] w fun e w'=>e = .returned (.int .i64 (Nat.gcd a b:Nat))∧Below w.heap.size w w':=by
 go_enter Tryz.func102,Tryz.ntmps102
 go_wp2
 go_loopw [0,1] (fun x y wr=>∃ a' b':Nat,a'<9223372036854775808∧b'<9223372036854775808∧x = .int .i64 a'∧y = .int .i64 b'∧Hid (Nat.gcd a' b'=Nat.gcd a b)∧∃ n,wr=w.drewN n) (fun _ y _=>(intOf y).toNat)
 case atStart=>exact ⟨a,b,ha,hb,rfl,rfl,rfl,0,rfl⟩
 case round =>
  obtain ⟨a',b',ha',hb',rfl,rfl,hg,m,rfl⟩:=hrel
  clear ha hb
  by_cases h0:b'=0
  ·subst h0
   go_wp2
   go_ret
   exact ⟨an (by have:=hg.out;rw [Nat.gcd_zero_right] at this;rw [this]),Below.drewK _ _ _⟩
  ·have hne:((b':Int) != 0)=true:=by simpa using h0
   have hne2:((b':Int)==0)=false:=by simpa using h0
   have hlt:a' % b'<b':=Nat.mod_lt _ (by omega)
   have hg2:Hid (Nat.gcd b' (a' % b')=Nat.gcd a b):=by
    show Nat.gcd b' (a' % b')=Nat.gcd a b
    rw [←hg.out,Nat.gcd_comm a' b',Nat.gcd_rec b' a',Nat.gcd_comm]
   clear hg h0
   go_wp2
   go_quiet (fail)
   go_wp2
   go_roundw
   case rel=>exact ⟨b',a' % b',hb',by omega,rfl,by rw [Int.natCast_emod],hg2,_,World.drewN_drewN _ _ _⟩
   case measure =>
    show (intOf (.int .i64 ((a':Int) % b'))).toNat<_
    rw [←Int.natCast_emod];simp [intOf];omega
end
end Go.Proofs.YtjdomibbaemdnaaGreatDoor
