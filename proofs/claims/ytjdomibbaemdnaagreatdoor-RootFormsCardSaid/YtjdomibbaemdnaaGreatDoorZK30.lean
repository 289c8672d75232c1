/- Parts of the proof of the text YtjdomibbaemdnaaGreatDoorZK42. -/
import Derived.Test.YtjdomibbaemdnaaGreatDoorZK1
import Derived.Test.YtjdomibbaemdnaaGreatDoorZK12
import Derived.Test.YtjdomibbaemdnaaGreatDoorZK29
set_option linter.all false
set_option maxRecDepth 100000
set_option maxHeartbeats 8000000
namespace Go.Proofs.YtjdomibbaemdnaaGreatDoor
namespace R
open Go.RowKit
theorem rh (s:ByteArray) (k:Nat) (h:k<s.size):s[k]=s.data.toList[k]'(by rw [ac];exact h):=rfl
theorem yy (s:ByteArray) (hn:ap s.data.toList=true) (j:Nat) (hj:j+1<s.size):∃ h:j<(szL s.data.toList).length,s[j+1]=(szL s.data.toList)[j]:=by
 have h1:szL s.data.toList=s.data.toList.tail:=by unfold szL;rw [if_pos hn]
 have h2:j<(szL s.data.toList).length:=by rw [h1,List.length_tail,ac];omega
 refine ⟨h2,?_⟩
 rw [rh s (j+1) hj]
 simp only [h1,List.getElem_tail]
theorem yA (s:ByteArray) (hn:ap s.data.toList=false) (j:Nat) (hj:j<s.size):∃ h:j<(szL s.data.toList).length,s[j]=(szL s.data.toList)[j]:=by
 have h1:szL s.data.toList=s.data.toList:=by unfold szL;rw [hn];rfl
 have h2:j<(szL s.data.toList).length:=by rw [h1,ac];omega
 refine ⟨h2,?_⟩
 rw [rh s j hj]
 simp only [h1]
theorem ix (l:List UInt8) (j:Nat) (h:j<l.length):ae (l.take (j+1))=ae (l.take j)*10+(l[j].toNat - 48):=by
 rw [List.take_succ_eq_append_getElem h,bo]
theorem dC (l:List UInt8) (h:∀ c∈l,az c=true) (k:Nat) (hk:k≤17):ae (l.take k)<100000000000000000 :=
 Nat.lt_of_lt_of_le (ju l h k) (Nat.le_trans (Nat.pow_le_pow_right (by decide) hk) (by decide))
theorem li (s:ByteArray) (w:World) (hs:s.size≤17) (hc:chk s.data.toList=0) :
  Calls Tryz.prog 168 #[.string s] w fun e w'=>e = .returned (.tuple #[.int .i64 (valOf s.data.toList),.bool true])∧w=w':=by
 have hd:=bY hc
 have hpos:0<s.size:=by
  rcases Nat.eq_zero_or_pos s.size with h | h
  ·have:s.data.toList = []:=List.eq_nil_of_length_eq_zero (by rw [ac];exact h)
   rw [this] at hc;simp [chk,szL,ap] at hc
  ·exact h
 have hb:=bF hpos
 have hv:=ck s.data.toList
 have HD:=Ha hd
 have hsl:=df s.data.toList
 rw [ac] at hsl
 clear hc hd
 by_cases hn:ap s.data.toList=true
 ·rw [hn] at hb
  rw [if_pos hn] at hv
  have HV:=Ha hv
  have HG:=Ha (yy s hn)
  have hl:(szL s.data.toList).length+1=s.size:=by unfold szL;rw [if_pos hn,List.length_tail,ac];omega
  have HL:=Ha hl
  clear hv hn hl hsl
  generalize szL s.data.toList=l at *
  go_enter Tryz.func168,Tryz.ntmps168
  go_wp2
  go_loop [4,5] (fun x y=>∃ i:Nat,i≤s.size∧y = .int .i64 i∧x = .int .i64 (ae (l.take (i - 1)):Nat)) (fun _ y=>s.size - (intOf y).toNat)
  case atStart=>exact ⟨0,Nat.zero_le _,rfl,rfl⟩
  case round =>
   obtain ⟨i,hi,rfl,rfl⟩:=hrel
   by_cases hlt:i<s.size
   ·cases i with
    | zero =>
     have h45:((s[0].toNat:Int) != 45)=false:=by simpa using hb
     go_wp2
     go_round
     case rel=>exact ⟨1,by omega,rfl,rfl⟩
     case measure=>simp [intOf];omega
    | succ j =>
     obtain ⟨hjl,hjg⟩:=HG.out j hlt
     have hc:=(aA l[j]).1 (HD.out _ (List.getElem_mem _))
     rw [←hjg] at hc
     have h45:((s[j+1].toNat:Int) != 45)=true:=by rw [bne_iff_ne];omega
     have hn18:=dC l HD.out j (by have:=HL.out;omega)
     have HS:=Ha (ix l j hjl)
     have HJ:=Ha hjg
     rw [show j+1 - 1=j by omega]
     clear hjg
     obtain ⟨n,hn⟩:∃ n,ae (l.take j)=n:=⟨_,rfl⟩
     rw [hn] at hn18 ⊢
     have HN:=Ha hn
     clear hn
     go_wp2
     go_round
     case rel=>exact ⟨j+1+1,by omega,by go_num,by rw [show j+1+1 - 1=j+1 by omega,HS.out,HN.out,←HJ.out];go_num⟩
     case measure=>simp [intOf];omega
   ·have hn18:=dC l HD.out (i - 1) (by omega)
    have HE:=Ha (show ae (l.take (i - 1))=ae l by rw [List.take_of_length_le (by have:=HL.out;omega)])
    generalize ae (l.take (i - 1))=n at *
    go_wp2
    go_ret2
    exact ⟨by rw [HV.out,←HE.out];rfl,rfl⟩
 ·have hn':ap s.data.toList=false:=by simpa using hn
  rw [hn'] at hb
  rw [if_neg hn] at hv
  have HV:=Ha hv
  have HG:=Ha (yA s hn')
  have hl:(szL s.data.toList).length=s.size:=by unfold szL;rw [hn',if_neg (by simp),ac]
  have HL:=Ha hl
  clear hv hn hn' hl hsl
  generalize szL s.data.toList=l at *
  go_enter Tryz.func168,Tryz.ntmps168
  go_wp2
  go_loop [4,5] (fun x y=>∃ i:Nat,i≤s.size∧y = .int .i64 i∧x = .int .i64 (ae (l.take i):Nat)) (fun _ y=>s.size - (intOf y).toNat)
  case atStart=>exact ⟨0,Nat.zero_le _,rfl,rfl⟩
  case round =>
   obtain ⟨j,hi,rfl,rfl⟩:=hrel
   by_cases hlt:j<s.size
   ·obtain ⟨hjl,hjg⟩:=HG.out j hlt
    have hc:=(aA l[j]).1 (HD.out _ (List.getElem_mem _))
    rw [←hjg] at hc
    have h45:((s[j].toNat:Int) != 45)=true:=by rw [bne_iff_ne];omega
    have hn18:=dC l HD.out j (by have:=HL.out;omega)
    have HS:=Ha (ix l j hjl)
    have HJ:=Ha hjg
    clear hjg
    obtain ⟨n,hn⟩:∃ n,ae (l.take j)=n:=⟨_,rfl⟩
    rw [hn] at hn18 ⊢
    have HN:=Ha hn
    clear hn
    go_wp2
    go_round
    case rel=>exact ⟨j+1,by omega,by go_num,by rw [HS.out,HN.out,←HJ.out];go_num⟩
    case measure=>simp [intOf];omega
   ·have hn18:=dC l HD.out j (by omega)
    have HE:=Ha (show ae (l.take j)=ae l by rw [List.take_of_length_le (by have:=HL.out;omega)])
    generalize ae (l.take j)=n at *
    go_wp2
    go_ret2
    exact ⟨by rw [HV.out,←HE.out];rfl,rfl⟩
theorem ri (s:ByteArray) (w:World) (hs:17<s.size) (_hm:s.size≤maxLen) :
  Calls Tryz.prog 168 #[.string s] w fun e w'=>e = .returned (.tuple #[.int .i64 0,.bool false])∧w=w':=by
 go_enter Tryz.func168,Tryz.ntmps168
 go_wp2
 go_ret2
 exact ⟨rfl,rfl⟩
theorem mm (a b:ByteArray) (w:World) (ha:a.size≤17) (hb:b.size≤17) (ca:chk a.data.toList=0) (cb:chk b.data.toList=0) :
  Calls Tryz.prog 118 #[.string a,.string b] w fun e w'=>e = .returned (.tuple #[.int .i64 (valOf a.data.toList),.int .i64 (valOf b.data.toList),.bool true])∧w=w':=by
 have C:=Ha (Hb (li a w ha ca) (li b w hb cb))
 clear ca cb ha hb
 generalize valOf a.data.toList=x at *
 generalize valOf b.data.toList=y at *
 go_enter Tryz.func118,Tryz.ntmps118
 go_wp2_with fail
 refine C.out.1.mono ?_
 rintro e w' ⟨rfl,rfl⟩
 go_wp2_with fail
 refine C.out.2.mono ?_
 rintro e w' ⟨rfl,rfl⟩
 go_wp2
 go_ret3
 exact ⟨rfl,rfl⟩
theorem sL (a b:ByteArray) (w:World) (h:¬ (a.size≤17∧b.size≤17)) (ca:chk a.data.toList=0) (ma:a.size≤maxLen) (mb:b.size≤maxLen) :
  Calls Tryz.prog 118 #[.string a,.string b] w fun e w'=>∃ x y:Int,e = .returned (.tuple #[.int .i64 x,.int .i64 y,.bool false])∧w=w':=by
 by_cases ha:a.size≤17
 ·have C:=Ha (Hb (li a w ha ca) (ri b w (by omega) mb))
  clear ca ha h
  generalize valOf a.data.toList=x at *
  go_enter Tryz.func118,Tryz.ntmps118
  go_wp2_with fail
  refine C.out.1.mono ?_
  rintro e w' ⟨rfl,rfl⟩
  go_wp2_with fail
  refine C.out.2.mono ?_
  rintro e w' ⟨rfl,rfl⟩
  go_wp2
  go_ret3
  exact ⟨x,0,rfl,rfl⟩
 ·have C:=Ha (ri a w (by omega) ma)
  clear ca h
  go_enter Tryz.func118,Tryz.ntmps118
  go_wp2_with fail
  refine C.out.mono ?_
  rintro e w' ⟨rfl,rfl⟩
  go_wp2
  go_ret3
  exact ⟨0,0,rfl,rfl⟩
theorem gN (a b:ByteArray) (w:World) (ha:a.size≤maxLen) (hb:b.size≤maxLen) :
  Calls Tryz.prog 117 #[.string a,.string b] w fun e w'=>e = .returned (.int .i64 (bC a.data.toList b.data.toList))∧w=w':=by
 have C:=Ha (Hb (fun W=>dq a W ha) (fun W=>dq b W hb))
 generalize hx:chk a.data.toList=x at *
 have HX:=Ha hx;clear hx
 by_cases h0:(x==0)=true
 ·have hn:(x != 0)=false:=by simpa using h0
  go_enter Tryz.func117,Tryz.ntmps117
  go_wp2_with fail
  refine (C.out.1 _).mono ?_
  rintro e w' ⟨rfl,rfl⟩
  go_wp2_with fail
  refine (C.out.2 _).mono ?_
  rintro e w' ⟨rfl,rfl⟩
  go_wp2
  go_ret
  exact ⟨an (by unfold bC;rw [HX.out,if_pos (by simpa using h0)]),rfl⟩
 ·have hn:(x != 0)=true:=by simpa using h0
  go_enter Tryz.func117,Tryz.ntmps117
  go_wp2_with fail
  refine (C.out.1 _).mono ?_
  rintro e w' ⟨rfl,rfl⟩
  go_wp2
  go_ret
  exact ⟨an (by unfold bC;rw [HX.out,if_neg (by simpa using h0)]),rfl⟩
end R
namespace R
open Go.RowKit
theorem cH (va vb:Value) (a b:Nat) (w:World) (ha:IsNat w va a) (hb:IsNat w vb b) (h0:b≠0) (hla:(dg a).length≤50000) (hlb:(dg b).length≤50000) :
  Calls Tryz.prog 119 #[va,vb] w fun e W'=>∃ q r,e = .returned (.tuple #[q,r])∧IsNat W' q (a / b)∧IsNat W' r (a % b)∧Fresh w.heap.size q∧Fresh w.heap.size r∧Below w.heap.size w W':=by
 have hp:=aR h0
 by_cases h1:(dg b).length=1
 ·have hb1:b<1000000:=by have:=(ak b 1).1 (by omega);rwa [Nat.pow_one] at this
  have hd:(dg b).getD 0 0=b:=by rw [gl h0 hb1];rfl
  have cs:=lh va (dg a) b w ha (aq a) (by omega) (by omega) hb1
  rw [ar] at cs
  have CS:=Ha cs
  obtain ⟨pa,ca,rfl⟩:=ha.shape
  obtain ⟨pb,cb,rfl⟩:=hb.shape
  obtain ⟨bb,off,rfl,hc⟩:∃ bb off,pb=some ⟨bb,off,none⟩∧w.cell? ⟨bb,off,none⟩=some (.int .i64 (b:Nat)):=by
   obtain ⟨p',cap',he,_,_,h3⟩:=hb
   obtain ⟨bb,off,e,hc⟩:=h3 (by intro e;rw [e] at h1;simp at h1)
   simp only [Value.slice.injEq] at he
   exact ⟨bb,off,he.1.trans e,by have:=hc 0 (by omega);rwa [hd,Nat.add_zero] at this⟩
  rw [h1]
  clear cs ha hb hla hlb h0 hp hd h1
  generalize (dg a).length=la at *
  go_enter Tryz.func119,Tryz.ntmps119
  go_wp2_with fail
  refine CS.out.mono ?_
  rintro e W' ⟨q,r,rfl,h1,h2,h3,h4,h5⟩
  obtain ⟨pq,cq,rfl⟩:=h1.shape
  obtain ⟨pr,cr,rfl⟩:=h2.shape
  have H:=Ha (Hb h1 (Hb h2 (Hb h3 (Hb h4 h5))))
  clear CS h1 h2 h3 h4 h5 hc
  generalize (dg (a / b)).length=lq at *
  generalize (dg (a % b)).length=lr at *
  go_wp2
  go_ret2
  exact ⟨_,_,rfl,H.out⟩
 ·obtain ⟨n,hn⟩:∃ n,(dg b).length=n+2:=⟨(dg b).length - 2,by omega⟩
  exact q7 va vb a b n w ha hb hn hla (by omega)
theorem im {n:Nat} (h:n<lim):(dg n).length≤50:=by
 have q:=yw (6*50) (by decide)
 have r:=Nat.le_trans q (Nat.le_of_eq (nh 50).symm)
 exact (ak n 50).2 (Nat.lt_of_lt_of_le h r)
theorem sM (u v:Value) (w:World):(Instr.field 122 (.agg #[u,v]) 1).run Tryz.prog w = .ok v w:=by kernel_rfl
theorem yB (a b:ByteArray) (w:World) (ha:a.size≤maxLen) (hb:b.size≤maxLen) (hc:bC a.data.toList b.data.toList≠0) :
  Calls Tryz.prog 104 #[.string a,.string b] w fun e W'=>e = .returned (.tuple #[.string ⟨#[]⟩,.int .i64 (bC a.data.toList b.data.toList)])∧w=W':=by
 have C:=Ha (gN a b w ha hb)
 generalize bC a.data.toList b.data.toList=c at *
 have hn:(c != 0)=true:=by rw [bne_iff_ne];exact hc
 clear hc
 go_enter Tryz.func104,Tryz.ntmps104
 go_wp2_with fail
 refine C.out.mono ?_
 rintro e w' ⟨rfl,rfl⟩
 go_wp2
 go_ret2
 exact ⟨rfl,rfl⟩
theorem Am (a b:ByteArray) (w:World) (k1:chk a.data.toList=0) (k2:chk b.data.toList=0) (ht:Tab w) :
  Calls Tryz.prog 104 #[.string a,.string b] w fun e W'=>e = .returned (.tuple #[.string (aa (Nat.gcd (ae (szL a.data.toList)) (ae (szL b.data.toList)):Nat)),.int .i64 0])∧Below w.heap.size w W':=by
 have s1:=bz k1
 have s2:=bz k2
 have hc2:bC a.data.toList b.data.toList=0:=by unfold bC;rw [if_pos k1];exact k2
 have cb:=gN a b w (by unfold maxLen;omega) (by unfold maxLen;omega)
 rw [hc2] at cb
 have CB:=Ha cb
 clear cb hc2
 by_cases hs:a.size≤17∧b.size≤17
 ·have ct:=mm a b w hs.1 hs.2 k1 k2
  have b1:=cR k1 (by rw [ac];omega)
  have b2:=cR k2 (by rw [ac];omega)
  have e1:=fF a.data.toList
  have e2:=fF b.data.toList
  rw [←e1,←e2]
  have CT:=Ha ct
  have hg:Nat.gcd (valOf a.data.toList).natAbs (valOf b.data.toList).natAbs<1000000000000000000:=by
   by_cases h0:(valOf a.data.toList).natAbs=0
   ·rw [h0,Nat.gcd_zero_left];omega
   ·exact Nat.lt_of_le_of_lt (Nat.gcd_le_left _ (by omega)) (by omega)
  clear ct e1 e2 k1 k2 hs s1 s2
  generalize valOf a.data.toList=x at *
  generalize valOf b.data.toList=y at *
  obtain ⟨G,hG⟩:∃ G,Nat.gcd x.natAbs y.natAbs=G:=⟨_,rfl⟩
  rw [hG] at hg ⊢
  have HG:=Ha hG
  have ci:=fun W (h:Below w.heap.size w W)=>gS (G:Nat) W (by omega) (by omega) (ht.next h)
  have CI:=Ha ci
  have HT:=Ha ht
  clear hG ht ci
  go_enter Tryz.func104,Tryz.ntmps104
  go_wp2_with fail
  refine CB.out.mono ?_
  rintro e w' ⟨rfl,rfl⟩
  go_wp2_with fail
  refine CT.out.mono ?_
  rintro e w' ⟨rfl,rfl⟩
  clear CB CT
  go_wp2
  go_loopw [7,8] (fun u v wr=>∃ x' y':Int,u = .int .i64 x'∧v = .int .i64 y' ∧ -1000000000000000000<x'∧x'<1000000000000000000 ∧ -1000000000000000000<y'∧y'<1000000000000000000∧Hid (Nat.gcd x'.natAbs y'.natAbs=G)∧Hid (Below w.heap.size w wr))
   (fun _ v _=>(intOf v).natAbs)
  case atStart=>exact ⟨x,y,rfl,rfl,b1.1,b1.2,b2.1,b2.2,HG.out,Below.refl _ _⟩
  case round =>
   clear b1 b2
   obtain ⟨x',y',rfl,rfl,q1,q2,q3,q4,hg',hB⟩:=hrel
   by_cases h0:y'=0
   ·subst h0
    have hx:(x'.natAbs:Int)=(G:Int):=by have:=hg'.out;rw [Int.natAbs_zero,Nat.gcd_zero_right] at this;omega
    have hm:max x' (-x')=(G:Int):=by omega
    have CW:=Ha (CI.out wr hB.out)
    clear hx hg' CI
    go_wp2_with fail
    refine CW.out.mono ?_
    rintro e w' ⟨rfl,hb⟩
    have HB2:=Ha (hB.out.trans (hb.mono hB.out.size))
    clear hb CW
    go_wp2
    go_ret2
    exact ⟨rfl,HB2.out⟩
   ·have hne:(y' != 0)=true:=by rw [bne_iff_ne];exact h0
    have hz:(y'==0)=false:=by rw [beq_eq_false_iff_ne];exact h0
    have hm:=pL x' y' q1 q2
    have hab:=Int.natAbs_tmod x' y'
    have hlt:(x'.tmod y').natAbs<y'.natAbs:=by rw [hab];exact Nat.mod_lt _ (by omega)
    have hg2:Hid (Nat.gcd y'.natAbs (x'.tmod y').natAbs=G):=by
     show _=_
     rw [hab,←hg'.out,Nat.gcd_comm x'.natAbs,Nat.gcd_rec y'.natAbs x'.natAbs,Nat.gcd_comm]
    have HLT:=Ha hlt
    clear hab hlt hg'
    go_wp2
    go_quiet (fail)
    generalize x'.tmod y'=z at *
    go_wp2
    go_roundw
    case rel=>exact ⟨y',z,rfl,rfl,q3,q4,hm.1,hm.2,hg2,hB.out.trans (Below.drewK _ _ _)⟩
    case measure=>exact HLT.out
 ·obtain ⟨zx,zy,ct⟩:∃ zx zy:Int,True:=⟨0,0,trivial⟩
  have ct:=sL a b w hs k1 (by unfold maxLen;omega) (by unfold maxLen;omega)
  have n1:=cO k1
  have n2:=cO k2
  have r1:=fun W=>bM a W (by omega) k1
  have r2:=fun W=>bM b W (by omega) k2
  generalize ap a.data.toList=na at *
  generalize ap b.data.toList=nb at *
  generalize ae (szL a.data.toList)=x at *
  generalize ae (szL b.data.toList)=y at *
  have lx:=im n1
  have ly:=im n2
  obtain ⟨M,hM⟩:∃ M,max x y=M:=⟨_,rfl⟩
  have hML:(dg M).length≤50:=by
   rw [←hM]
   rcases Nat.le_total x y with h | h
   ·rw [Nat.max_eq_right h];exact ly
   ·rw [Nat.max_eq_left h];exact lx
  have hxM:x≤M:=by omega
  have hyM:y≤M:=by omega
  obtain ⟨G,hG⟩:∃ G,Nat.gcd x y=G:=⟨_,rfl⟩
  rw [hG]
  have HG:=Ha hG
  have HML:=Ha hML
  have CT:=Ha ct
  have CR:=Ha (Hb r1 r2)
  clear hG hM r1 r2 ct k1 k2 hs s1 s2 n1 n2 lx ly hML
  go_enter Tryz.func104,Tryz.ntmps104
  go_wp2_with fail
  refine CB.out.mono ?_
  rintro e w' ⟨rfl,rfl⟩
  go_wp2_with fail
  refine CT.out.mono ?_
  rintro e w' ⟨tx,ty,rfl,rfl⟩
  clear CB CT
  go_wp2_with fail
  refine (CR.out.1 _).mono ?_
  rintro e w1 ⟨va,rfl,hva,_,hb1⟩
  obtain ⟨pa,ca,rfl⟩:=hva.shape
  have H1:=Ha (Hb hva hb1)
  clear hva hb1
  have fd1:=fun W=>sM (.bool na) (.slice pa (dg x).length ca) W
  generalize hlx:(dg x).length=lx at *
  have HLX:=Ha hlx
  clear hlx
  go_wp2_with fail
  clear fd1
  refine (CR.out.2 _).mono ?_
  rintro e w2 ⟨vb,rfl,hvb,_,hb2⟩
  obtain ⟨pb,cb,rfl⟩:=hvb.shape
  have H2:=Ha (Hb (H1.out.1.next hb2) (Hb hvb (H1.out.2.trans (hb2.mono H1.out.2.size))))
  clear hvb hb2 H1 CR
  have fd2:=fun W=>sM (.bool nb) (.slice pb (dg y).length cb) W
  generalize hly:(dg y).length=ly at *
  have HLY:=Ha hly
  clear hly
  go_wp2
  clear fd2
  go_loopw [10,11] (fun u v wr=>∃ (x' y' lx ly:Nat) (pa pb:Option Addr) (ca cb:Nat),u = .slice pa lx ca∧v = .slice pb ly cb∧Hid (lx=(dg x').length)∧Hid (ly=(dg y').length)∧x'≤M∧y'≤M∧Hid (IsNat wr u x')∧Hid (IsNat wr v y')∧Hid (Nat.gcd x' y'=G)∧Hid (Below w.heap.size w wr))
   (fun _ v wr=>aX wr v)
  case atStart=>exact ⟨x,y,lx,ly,pa,pb,ca,cb,rfl,rfl,HLX.out.symm,HLY.out.symm,hxM,hyM,H2.out.1,H2.out.2.1,HG.out,H2.out.2.2⟩
  case round =>
   clear H2 HG HLX HLY hxM hyM
   obtain ⟨x',y',lx',ly',pa',pb',ca',cb',rfl,rfl,hlx,hly,mx,my,h1,h2,hg,hB⟩:=hrel
   by_cases h0:y'=0
   ·subst h0
    obtain rfl:ly'=0:=by have:=hly.out;rwa [av] at this
    obtain rfl:x'=G:=by have:=hg.out;rwa [Nat.gcd_zero_right] at this
    have cw:=aZ false _ x' wr h1.out (Nat.le_trans (aC mx) (by have:=HML.out;omega))
    rw [show am false x'=(x':Int) from rfl] at cw
    have CW:=Ha cw
    clear cw
    go_wp2_with fail
    refine CW.out.mono ?_
    rintro e w' ⟨rfl,hb⟩
    have HB2:=Ha (hB.out.trans (hb.mono hB.out.size))
    clear hb CW
    go_wp2
    go_ret2
    exact ⟨rfl,HB2.out⟩
   ·have hlp:0<ly':=by rw [hly.out];exact aR h0
    have cd:=cH _ _ x' y' wr h1.out h2.out h0 (Nat.le_trans (aC mx) (by have:=HML.out;omega)) (Nat.le_trans (aC my) (by have:=HML.out;omega))
    have CD:=Ha cd
    have hm:=Nat.mod_lt x' (show 0<y' by omega)
    have HV:=Ha (aL h2.out)
    clear cd h0
    go_wp2_with fail
    refine CD.out.mono ?_
    rintro e w3 ⟨q,r,rfl,hq,hr,_,_,hb3⟩
    obtain ⟨pq,cq,rfl⟩:=hq.shape
    obtain ⟨pr,cr,rfl⟩:=hr.shape
    have H3:=Ha (Hb (h2.out.next hb3) (Hb hr (hB.out.trans (hb3.mono hB.out.size))))
    clear CD hq hr hb3
    generalize (dg (x' / y')).length=lq at *
    go_wp2
    go_roundw
    case rel=>exact ⟨y',x' % y',ly',_,pb',pr,cb',cr,rfl,rfl,hly,rfl,my,by omega,H3.out.1,H3.out.2.1,by show _=_;rw [←hg.out,Nat.gcd_comm y',←Nat.gcd_rec,Nat.gcd_comm],H3.out.2.2⟩
    case measure =>
     show aX w3 _<aX wr _
     rw [HV.out,aL H3.out.2.1];exact hm
end R
namespace R
open Go.RowKit
theorem wF (z:Int):chk (aa z).data.toList=0↔z.natAbs<lim:=by
 constructor
 ·intro h
  have h1:=cO h
  rwa [←fF,bB] at h1
 ·exact bX
theorem aT (neg:Bool) (v:Value) (n:Nat) (w:World) (h:IsNat w v n) (hn:(dg n).length≤10000) :
  Calls Tryz.prog 94 #[.agg #[.bool neg,v]] w fun e W'=>e = .returned (.tuple #[.string (fj (am neg n)),.int .i64 (fk (am neg n))])∧Below w.heap.size w W':=by
 have cw:=fun W (hW:Below w.heap.size w W)=>aZ neg v n W (h.next hW) hn
 have hl:(aa (am neg n)).size≤maxLen:=by
  rw [fQ]
  by_cases h0:n=0
  ·subst h0
   have:am neg 0=0:=aS neg
   rw [this];decide+kernel
  ·have hp:=aR h0
   have hd:=(aJ n (6*(dg n).length) (by omega)).2 (by rw [←nh];exact (ak n _).1 (Nat.le_refl _))
   rw [nG neg h0,List.length_append,Lib.decDigits_length]
   have hs:(lY neg).length≤1:=by cases neg <;> simp [lY]
   unfold maxLen
   omega
 have cc:=fun W=>dq (aa (am neg n)) W hl
 obtain ⟨p,cap,rfl⟩:=h.shape
 have C:=Ha (Hb cw cc)
 have hk:=wF (am neg n)
 by_cases hb:(am neg n).natAbs<lim
 ·have e1:fj (am neg n)=aa (am neg n):=if_pos hb
  have e2:fk (am neg n)=0:=if_pos hb
  rw [e1,e2]
  rw [hk.2 hb] at C
  clear cw cc hk hb e1 e2 h hl
  generalize aa (am neg n)=s at *
  generalize (dg n).length=l at *
  go_enter Tryz.func94,Tryz.ntmps94
  go_wp2_with fail
  refine (C.out.1 _ ((Below.refl _ _).alloc (Nat.le_refl _) _)).mono ?_
  rintro e w1 ⟨rfl,hb1⟩
  have HB:=Ha (((Below.refl _ w).alloc (Nat.le_refl _) _).trans (hb1.mono (by simp)))
  clear hb1
  go_wp2_with fail
  refine (C.out.2 _).mono ?_
  rintro e w' ⟨rfl,rfl⟩
  go_wp2
  go_ret2
  exact ⟨rfl,HB.out⟩
 ·have e1:fj (am neg n)=⟨#[]⟩:=if_neg hb
  have e2:fk (am neg n)=4:=if_neg hb
  rw [e1,e2]
  have hne:(chk (aa (am neg n)).data.toList != 0)=true:=by rw [bne_iff_ne];exact fun e=>hb (hk.1 e)
  clear cw cc hk hb e1 e2 h hl
  generalize aa (am neg n)=s at *
  generalize chk s.data.toList=c at *
  generalize (dg n).length=l at *
  go_enter Tryz.func94,Tryz.ntmps94
  go_wp2_with fail
  refine (C.out.1 _ ((Below.refl _ _).alloc (Nat.le_refl _) _)).mono ?_
  rintro e w1 ⟨rfl,hb1⟩
  have HB:=Ha (((Below.refl _ w).alloc (Nat.le_refl _) _).trans (hb1.mono (by simp)))
  clear hb1
  go_wp2_with fail
  refine (C.out.2 _).mono ?_
  rintro e w' ⟨rfl,rfl⟩
  go_wp2
  go_ret2
  exact ⟨rfl,HB.out⟩
theorem ao {w:World} {a:Addr} {o:Obj} {u:Value} (h:w.cell? a=some u):(w.alloc o).drew.cell? a=some u :=
 (World.cell?_of_block (w:=w) (Below.heap_alloc w o _ (World.block_lt_of_cell? w a h))).trans h
theorem aU {w:World} {a:Addr} {o:Obj} {u:Value} (h:w.cell? a=some u):(w.alloc o).cell? a=some u :=
 (World.cell?_of_block (w:=w) (Below.heap_alloc w o _ (World.block_lt_of_cell? w a h))).trans h
structure OB (w:World) (k o:Nat) (ng:Bool) (V:Value) (n:Nat) (W:World):Prop where
 p0:W.cell? ⟨o,0,none⟩=some (.bool ng)
 p1:W.cell? ⟨o,1,none⟩=some V
 g0:W.frozen? ⟨o,0,none⟩=false
 r0:∃ u,W.cell? ⟨k+1+1,0,none⟩=some u
 r1:∃ u,W.cell? ⟨k+1+1,1,none⟩=some u
 f0:W.frozen? ⟨k+1+1,0,none⟩=false
 f1:W.frozen? ⟨k+1+1,1,none⟩=false
 ho:k+3≤o
 nat:IsNat W V n
 fr:Fresh (k+3) V
 bel:Below k w W
theorem OB.alloc {w w1:World} {k:Nat} {ng:Bool} {V x0 x1 y0 y1 z0 z1:Value} {n:Nat} {T:TypeId} (h:Boxes w k x0 x1 y0 y1 z0 z1 w1) (hn:IsNat w1 V n) (hf:Fresh (k+3) V):OB w k w1.heap.size ng V n (w1.alloc (.cells #[.bool ng,V] T)):=by
 have hs:=h.size
 have ha:Below w1.heap.size w1 (w1.alloc (.cells #[.bool ng,V] T)):=(Below.refl _ _).alloc (Nat.le_refl _) _
 exact ⟨by go_cell,by go_cell,by simp [go_sem],⟨_,aU h.c5⟩,⟨_,aU h.c6⟩,(ha.frozen (p:=⟨k+1+1,0,none⟩) (by show k+1+1<_;omega)).trans h.f5,(ha.frozen (p:=⟨k+1+1,1,none⟩) (by show k+1+1<_;omega)).trans h.f6,hs,hn.next ha,hf,h.below.trans (ha.mono (by omega))⟩
theorem aD (w:World) (p q:Addr) (u:Value):(w.setCell p u).frozen? q=w.frozen? q:=by simp [go_sem]
theorem OB.set {w w1:World} {k o:Nat} {ng:Bool} {V x0 x1 y0 y1 z0 z1 u0 u1:Value} {n:Nat} (h:Boxes w k x0 x1 y0 y1 z0 z1 w1) (h0:w1.cell? ⟨o,0,none⟩=some u0) (h1:w1.cell? ⟨o,1,none⟩=some u1) (hfz:w1.frozen? ⟨o,0,none⟩=false) (ho:k+3≤o) (hn:IsNat w1 V n) (hf:Fresh (o+1) V) :
  OB w k o ng V n ((w1.setCell ⟨o,0,none⟩ (.bool ng)).setCell ⟨o,1,none⟩ V):=by
 have hs:=h.size
 obtain ⟨b0,b1⟩:=au h0 h1 (.bool ng) V
 have q0:((w1.setCell ⟨o,0,none⟩ (.bool ng)).setCell ⟨o,1,none⟩ V).cell? ⟨o,0,none⟩=some (.bool ng):=by go_cell
 refine ⟨q0,b1,by rw [aD,aD];exact hfz,⟨_,dU (by omega) h.c5⟩,⟨_,dU (by omega) h.c6⟩,by rw [aD,aD];exact h.f5,by rw [aD,aD];exact h.f6,ho,(hn.setCell hf (by show o<o+1;omega) _).setCell hf (by show o<o+1;omega) _,hf.mono (by omega),(h.below.setCell (p:=⟨o,0,none⟩) (by show k≤o;omega) _).setCell (p:=⟨o,1,none⟩) (by show k≤o;omega) _⟩
theorem IsNat.any0 {w W:World} {v:Value} (h:IsNat w v 0):IsNat W v 0:=by
 obtain ⟨p,cap,e,h1,h2,_⟩:=h
 exact ⟨p,cap,e,h1,h2,fun h=>absurd av h⟩
theorem yC (na nb:Bool) (va vb:Value) (a b:Nat) (w:World) (ha:IsNat w va a) (hb:IsNat w vb b) (hla:(dg a).length≤100000) (hlb:(dg b).length≤100000) :
  Calls Tryz.prog 93 #[.agg #[.bool na,va],.agg #[.bool nb,vb]] w fun e W'=>∃ neg v,e = .returned (.agg #[.bool neg,v])∧IsNat W' v (a*b)∧am neg (a*b)=am na a*am nb b∧Fresh w.heap.size v∧Below w.heap.size w W':=by
 have cp:∀ W,Below w.heap.size w W→Calls Tryz.prog 123 #[va,vb] W fun e W'=>∃ v,e = .returned v∧IsNat W' v (a*b)∧Fresh W.heap.size v∧Below W.heap.size W W':=fun W hW=>by
  have:=gM va vb (dg a) (dg b) W (Nats.next ha hW) (Nats.next hb hW) (aq a) (aq b) hla hlb
  rwa [ar,ar] at this
 obtain ⟨pa,ca,rfl⟩:=ha.shape
 obtain ⟨pb,cb,rfl⟩:=hb.shape
 have CP:=Ha cp;clear cp ha hb hla hlb
 generalize (dg a).length=la at *
 generalize (dg b).length=lb at *
 go_enter Tryz.func93,Tryz.ntmps93
 go_wp2
 have hbx:=bR w (.bool na) (.slice pa la ca) (.bool nb) (.slice pb lb cb) (.bool false) (.slice none 0 0) 122
 generalize ((w.alloc (.cells #[.bool na,.slice pa la ca] 122)).alloc (.cells #[.bool nb,.slice pb lb cb] 122)).alloc (.cells #[.bool false,.slice none 0 0] 122)=W0 at *
 generalize hk:w.heap.size=k at *
 have HK:=Ha hk;clear hk
 have HBX:=Ha hbx
 have HBD:=Ha hbx.drew
 have HBA:=Ha (hbx.next ((Below.refl _ W0).alloc (Nat.le_refl _) (.cells #[.bool false,.slice none 0 0] 122))).drew
 clear hbx
 obtain ⟨c1,c2,c3,c4,_,_,_,_,_,_⟩:=HBX.out
 have hs0:k+3≤W0.heap.size:=HBX.out.size
 go_region_held3 (fun w'=>w'.cell? ⟨k,0,none⟩=some (.bool na)∧w'.cell? ⟨k,1,none⟩=some (.slice pa la ca)∧w'.cell? ⟨k+1,0,none⟩=some (.bool nb)∧w'.cell? ⟨k+1,1,none⟩=some (.slice pb lb cb))
  (first | (go_keep;done) | (exact ⟨ao c1,ao c2,ao c3,ao c4⟩) | (exact ⟨aU e1,aU e2,aU e3,aU e4⟩) | (exact ⟨ao e1,ao e2,ao e3,ao e4⟩) | (refine ⟨?_,?_,?_,?_⟩ <;> (first | (exact dU (by omega) (by assumption)) | (exact dU (by omega) (aU (by assumption))) | (exact dU (by omega) (ao (by assumption))))))
  (first
   | (go_at_call 123;with_reducible refine (CP.out _ HBA.out.below).mono ?_;rintro e w1 ⟨v,rfl,hv,hf,hb1⟩;obtain ⟨p,cap,rfl⟩:=hv.shape;have HB1:=Ha (HBA.out.next hb1);have z0:w1.cell? ⟨W0.heap.size,0,none⟩=some (.bool false):=(hb1.cell (p:=⟨W0.heap.size,0,none⟩) (by simp)).trans (by go_cell);have z1:w1.cell? ⟨W0.heap.size,1,none⟩=some (.slice none 0 0):=(hb1.cell (p:=⟨W0.heap.size,1,none⟩) (by simp)).trans (by go_cell);have y0:w1.frozen? ⟨W0.heap.size,0,none⟩=false:=(hb1.frozen (p:=⟨W0.heap.size,0,none⟩) (by simp)).trans (by simp [go_sem]);have y1:w1.frozen? ⟨W0.heap.size,1,none⟩=false:=(hb1.frozen (p:=⟨W0.heap.size,1,none⟩) (by simp)).trans (by simp [go_sem]);have HV:=Ha (Hb hv (Hb hf hb1));clear hv hf hb1;obtain ⟨e1,e2,e3,e4,e5,e6,e7,e8,hsz,_⟩:=HB1.out)
   | (go_at_call 123;with_reducible refine (CP.out _ HBD.out.below).mono ?_;rintro e w1 ⟨v,rfl,hv,hf,hb1⟩;obtain ⟨p,cap,rfl⟩:=hv.shape;have HB1:=Ha (HBD.out.next hb1);have HV:=Ha (Hb hv (Hb hf hb1));clear hv hf hb1;obtain ⟨e1,e2,e3,e4,e5,e6,e7,e8,hsz,_⟩:=HB1.out))
 ·have HOB:=Ha (OB.alloc (ng := !(na==nb)) (T:=122) HB1.out HV.out.1 (HV.out.2.1.mono hs0))
  clear e1 e2 e3 e4 e5 e6 e7 e8 hsz HB1 HV c1 c2 c3 c4 HBX HBD HBA hs0 CP
  rename_i hHeld
  clear hHeld
  generalize w1.alloc (.cells #[.bool (!(na==nb)),.slice p (dg (a*b)).length cap] 122)=W2 at *
  generalize w1.heap.size=o at *
  obtain ⟨p0,p1,g0,⟨u0,r0⟩,⟨u1,r1⟩,f0,f1,ho,hnat,hfr,hbel⟩:=HOB.out
  have hok:k+1+1≠o:=by omega
  have HX:=Ha (Hb hnat (Hb hfr (Hb hbel ho)))
  clear hnat hfr hbel HOB
  by_cases hz:a*b=0
  ·have hl:(dg (a*b)).length=0:=by rw [hz,av];rfl
   rw [hl] at p1 HX ⊢
   have HZ:=Ha hz
   have q0:(W2.setCell ⟨o,0,none⟩ (.bool false)).cell? ⟨o,0,none⟩=some (.bool false):=World.cell?_setCell_same' _ _ _ (by rw [p0];rfl)
   have q1:(W2.setCell ⟨o,0,none⟩ (.bool false)).cell? ⟨o,1,none⟩=some (.slice p 0 cap):=by go_cell
   have s0:(W2.setCell ⟨o,0,none⟩ (.bool false)).cell? ⟨k+1+1,0,none⟩=some u0:=(World.cell?_of_block (Below.heap_setCell _ _ _ _ (by show k+1+1≠o;exact hok))).trans r0
   have s1:(W2.setCell ⟨o,0,none⟩ (.bool false)).cell? ⟨k+1+1,1,none⟩=some u1:=(World.cell?_of_block (Below.heap_setCell _ _ _ _ (by show k+1+1≠o;exact hok))).trans r1
   have f2:(W2.setCell ⟨o,0,none⟩ (.bool false)).frozen? ⟨k+1+1,0,none⟩=false:=by rw [aD];exact f0
   have f3:(W2.setCell ⟨o,0,none⟩ (.bool false)).frozen? ⟨k+1+1,1,none⟩=false:=by rw [aD];exact f1
   obtain ⟨b0,b1⟩:=au s0 s1 (.bool false) (.slice p 0 cap)
   clear hz hl r0 r1
   go_wp2
   refine bodyPost_ret (v := .agg #[.bool false,.slice p 0 cap]) (by simp [results,Tryz.results93,go_sem,b0,b1]) rfl ?_
   obtain ⟨hn,hf,hb,hoo⟩:=HX.out
   rw [HZ.out] at hn ⊢
   refine ⟨false,_,rfl,hn.any0,?_,hf.mono (by rw [HK.out];omega),?_⟩
   ·have:=HZ.out
    rcases Nat.mul_eq_zero.1 this with rfl | rfl
    ·rw [aS,aS,Int.zero_mul]
    ·rw [aS,aS,Int.mul_zero]
   ·rw [HK.out]
    exact ((hb.setCell (p:=⟨o,0,none⟩) (by show k≤o;omega) _).setCell (p:=⟨k+1+1,0,none⟩) (by show k≤k+1+1;omega) _).setCell (p:=⟨k+1+1,1,none⟩) (by show k≤k+1+1;omega) _
  ·have hl:(((dg (a*b)).length:Int)==0)=false:=by rw [beq_eq_false_iff_ne];have:=aR hz;omega
   obtain ⟨b0,b1⟩:=au r0 r1 (.bool (!(na==nb))) (.slice p (dg (a*b)).length cap)
   clear hz
   go_wp2
   refine bodyPost_ret (v := .agg #[.bool (!(na==nb)),.slice p (dg (a*b)).length cap]) (by simp [results,Tryz.results93,go_sem,b0,b1]) rfl ?_
   obtain ⟨hn,hf,hb,hoo⟩:=HX.out
   refine ⟨_,_,rfl,(hn.setCell hf (by show k+1+1<k+3;omega) _).setCell hf (by show k+1+1<k+3;omega) _,?_,hf.mono (by rw [HK.out];omega),?_⟩
   ·exact p8 na nb a b
   ·rw [HK.out]
    exact (hb.setCell (p:=⟨k+1+1,0,none⟩) (by show k≤k+1+1;omega) _).setCell (p:=⟨k+1+1,1,none⟩) (by show k≤k+1+1;omega) _
 ·have HOB:=Ha (OB.set (ng := !(na==nb)) HB1.out z0 z1 y0 hs0 HV.out.1 (HV.out.2.1.mono (by simp)))
  clear e1 e2 e3 e4 e5 e6 e7 e8 hsz HB1 HV c1 c2 c3 c4 HBX HBD HBA CP z0 z1 y0 y1
  rename_i hHeld
  clear hHeld
  generalize hsz0:W0.heap.size=o at *
  generalize (w1.setCell ⟨o,0,none⟩ (.bool (!(na==nb)))).setCell ⟨o,1,none⟩ (.slice p (dg (a*b)).length cap)=W2 at *
  obtain ⟨p0,p1,g0,⟨u0,r0⟩,⟨u1,r1⟩,f0,f1,ho,hnat,hfr,hbel⟩:=HOB.out
  have hok:k+1+1≠o:=by omega
  have HX:=Ha (Hb hnat (Hb hfr (Hb hbel ho)))
  clear hnat hfr hbel HOB
  by_cases hz:a*b=0
  ·have hl:(dg (a*b)).length=0:=by rw [hz,av];rfl
   rw [hl] at p1 HX ⊢
   have HZ:=Ha hz
   have q0:(W2.setCell ⟨o,0,none⟩ (.bool false)).cell? ⟨o,0,none⟩=some (.bool false):=World.cell?_setCell_same' _ _ _ (by rw [p0];rfl)
   have q1:(W2.setCell ⟨o,0,none⟩ (.bool false)).cell? ⟨o,1,none⟩=some (.slice p 0 cap):=by go_cell
   have s0:(W2.setCell ⟨o,0,none⟩ (.bool false)).cell? ⟨k+1+1,0,none⟩=some u0:=(World.cell?_of_block (Below.heap_setCell _ _ _ _ (by show k+1+1≠o;exact hok))).trans r0
   have s1:(W2.setCell ⟨o,0,none⟩ (.bool false)).cell? ⟨k+1+1,1,none⟩=some u1:=(World.cell?_of_block (Below.heap_setCell _ _ _ _ (by show k+1+1≠o;exact hok))).trans r1
   have f2:(W2.setCell ⟨o,0,none⟩ (.bool false)).frozen? ⟨k+1+1,0,none⟩=false:=by rw [aD];exact f0
   have f3:(W2.setCell ⟨o,0,none⟩ (.bool false)).frozen? ⟨k+1+1,1,none⟩=false:=by rw [aD];exact f1
   obtain ⟨b0,b1⟩:=au s0 s1 (.bool false) (.slice p 0 cap)
   clear hz hl r0 r1
   go_wp2
   refine bodyPost_ret (v := .agg #[.bool false,.slice p 0 cap]) (by simp [results,Tryz.results93,go_sem,b0,b1]) rfl ?_
   obtain ⟨hn,hf,hb,hoo⟩:=HX.out
   rw [HZ.out] at hn ⊢
   refine ⟨false,_,rfl,hn.any0,?_,hf.mono (by rw [HK.out];omega),?_⟩
   ·have:=HZ.out
    rcases Nat.mul_eq_zero.1 this with rfl | rfl
    ·rw [aS,aS,Int.zero_mul]
    ·rw [aS,aS,Int.mul_zero]
   ·rw [HK.out]
    exact ((hb.setCell (p:=⟨o,0,none⟩) (by show k≤o;omega) _).setCell (p:=⟨k+1+1,0,none⟩) (by show k≤k+1+1;omega) _).setCell (p:=⟨k+1+1,1,none⟩) (by show k≤k+1+1;omega) _
  ·have hl:(((dg (a*b)).length:Int)==0)=false:=by rw [beq_eq_false_iff_ne];have:=aR hz;omega
   obtain ⟨b0,b1⟩:=au r0 r1 (.bool (!(na==nb))) (.slice p (dg (a*b)).length cap)
   clear hz
   go_wp2
   refine bodyPost_ret (v := .agg #[.bool (!(na==nb)),.slice p (dg (a*b)).length cap]) (by simp [results,Tryz.results93,go_sem,b0,b1]) rfl ?_
   obtain ⟨hn,hf,hb,hoo⟩:=HX.out
   refine ⟨_,_,rfl,(hn.setCell hf (by show k+1+1<k+3;omega) _).setCell hf (by show k+1+1<k+3;omega) _,?_,hf.mono (by rw [HK.out];omega),?_⟩
   ·exact p8 na nb a b
   ·rw [HK.out]
    exact (hb.setCell (p:=⟨k+1+1,0,none⟩) (by show k≤k+1+1;omega) _).setCell (p:=⟨k+1+1,1,none⟩) (by show k≤k+1+1;omega) _
end R
end Go.Proofs.YtjdomibbaemdnaaGreatDoor
