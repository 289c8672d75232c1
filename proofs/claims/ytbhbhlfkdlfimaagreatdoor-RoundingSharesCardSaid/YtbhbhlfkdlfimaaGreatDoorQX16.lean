/- Parts of the proof of the text YtbhbhlfkdlfimaaGreatDoorQX29. -/
import Derived.Test.YtbhbhlfkdlfimaaGreatDoorQX1
import Derived.Test.YtbhbhlfkdlfimaaGreatDoorQX12
import Derived.Test.YtbhbhlfkdlfimaaGreatDoorQX14
import Derived.Test.YtbhbhlfkdlfimaaGreatDoorQX15
set_option linter.all false
set_option maxRecDepth 100000
set_option maxHeartbeats 8000000
namespace Go.Proofs.YtbhbhlfkdlfimaaGreatDoor
namespace T
open Go.Proofs.YtbhbhlfkdlfimaaGreatDoor Go Go.RowKit Go.Lib
theorem gx (c:UInt8) (l:List UInt8):ah (c::l)=(c.toNat - 48)*10 ^ l.length+ah l:=by
 have h:=eI [c] l
 rw [show ah [c]=c.toNat - 48 by simp [ah]] at h
 exact h
theorem AP {c:UInt8} (h:aA c=true):48≤c.toNat:=by
 simp [aA] at h
 exact UInt8.le_iff_toNat_le.1 h.1
theorem oJ:∀ (l m:List UInt8),l.length=m.length→(∀ c∈l,aA c=true)→(∀ c∈m,aA c=true)→compareBytes l m=bF (ah l) (ah m)
 | [],[],_,_,_=>by unfold compareBytes bF;simp
 | [],_::_,h,_,_=>by simp at h
 | _::_,[],h,_,_=>by simp at h
 | a::l1,b::m1,h,ha,hb=>by
  have hl:l1.length=m1.length:=by simpa using h
  have ih:=oJ l1 m1 hl (fun c hc=>ha c (List.mem_cons_of_mem _ hc)) (fun c hc=>hb c (List.mem_cons_of_mem _ hc))
  have xa:=aX l1 fun c hc=>ha c (List.mem_cons_of_mem _ hc)
  have xb:=aX m1 fun c hc=>hb c (List.mem_cons_of_mem _ hc)
  have da:=AP (ha a List.mem_cons_self)
  have db:=AP (hb b List.mem_cons_self)
  unfold compareBytes
  rw [gx,gx,hl]
  rw [hl] at xa
  generalize 10 ^ m1.length=p at *
  generalize ah l1=x at *
  generalize ah m1=y at *
  have L:∀ (u v X Y:Nat),u<v→X<p→bF ((u*p+X:Nat):Int) ((v*p+Y:Nat):Int) = -1:=fun u v X Y h k=>by
   have h2:(u+1)*p≤v*p:=Nat.mul_le_mul_right p h
   rw [Nat.add_mul] at h2
   generalize u*p=U at *
   generalize v*p=V at *
   unfold bF;rw [if_pos (by omega)]
  have G:∀ (u v X Y:Nat),v<u→Y<p→bF ((u*p+X:Nat):Int) ((v*p+Y:Nat):Int)=1:=fun u v X Y h k=>by
   have h2:(v+1)*p≤u*p:=Nat.mul_le_mul_right p h
   rw [Nat.add_mul] at h2
   generalize u*p=U at *
   generalize v*p=V at *
   unfold bF;rw [if_neg (by omega),if_pos (by omega)]
  have E:∀ (U X Y:Nat),bF ((U+X:Nat):Int) ((U+Y:Nat):Int)=bF (X:Int) (Y:Int):=fun U X Y=>AG (by omega) (by omega)
  by_cases h1:a<b
  ·have h1':=UInt8.lt_iff_toNat_lt.1 h1
   rw [if_pos h1];exact (L _ _ _ _ (by omega) xa).symm
  ·by_cases h2:b<a
   ·have h2':=UInt8.lt_iff_toNat_lt.1 h2
    rw [if_neg h1,if_pos h2];exact (G _ _ _ _ (by omega) xb).symm
   ·have e:a.toNat=b.toNat:=by
     have h1':¬ a.toNat<b.toNat:=fun k=>h1 (UInt8.lt_iff_toNat_lt.2 k)
     have h2':¬ b.toNat<a.toNat:=fun k=>h2 (UInt8.lt_iff_toNat_lt.2 k)
     omega
    rw [if_neg h1,if_neg h2,ih,e,E]
theorem mi (a:Nat):(aa (a:Int)).size=nDigits a:=by rw [lN,itoa_nonneg,decDigits_length]
theorem xK {a b:Nat} (h:nDigits a<nDigits b) (h0:0<nDigits a):a<b:=by
 have h1:=(cL a (nDigits a) h0).1 (Nat.le_refl _)
 have h2:¬ b<ak (nDigits a):=fun k=>by have:=(cL b (nDigits a) h0).2 k;omega
 omega
theorem r9 (a:Nat):0<nDigits a:=by
 rw [←decDigits_length,decDigits]
 split <;> simp
theorem E1 (b:Nat) (x y:Int) (w:World) (hb:Blk w b #[.int .i64 x,.int .i64 y]) :
  Calls Tryz.prog 106 #[.slice (some ⟨b,0,none⟩) 2 2] w fun e W'=>e = .returned (.int .i64 (if x=0 then y else x))∧Below w.heap.size w W':=by
 have c0:=hb.cell 0 _ rfl
 have c1:=hb.cell 1 _ rfl
 clear hb
 by_cases h:x=0
 ·rw [if_pos h]
  subst h
  by_cases h2:y=0
  ·subst h2
   go_enter Tryz.func106,Tryz.ntmps106
   go_wp2
   go_rounds 3
   all_goals go_ret
   all_goals exact ⟨rfl,Below.refl _ _⟩
  ·obtain ⟨n1,n2⟩:=cJ h2
   go_enter Tryz.func106,Tryz.ntmps106
   go_wp2
   go_rounds 3
   all_goals go_ret
   all_goals exact ⟨rfl,Below.refl _ _⟩
 ·rw [if_neg h]
  obtain ⟨n1,n2⟩:=cJ h
  go_enter Tryz.func106,Tryz.ntmps106
  go_wp2
  go_rounds 3
  all_goals go_ret
  all_goals exact ⟨rfl,Below.refl _ _⟩
theorem AQ (a b:Nat) (w:World) (ha:a<lim) (hb:b<lim) :
  Calls Tryz.prog 169 #[.string (aa (a:Int)),.string (aa (b:Int))] w fun e W'=>e = .returned (.int .i64 (bF a b))∧Below w.heap.size w W':=by
 have c1:=fun W=>Tryz.cmp_Compare_int (aa (a:Int)).size (aa (b:Int)).size W
 have c2:=fun W=>Tryz.strings_Compare (aa (a:Int)) (aa (b:Int)) W
 have c3:=fun (k:Nat) W h=>E1 k (compareInt (aa (a:Int)).size (aa (b:Int)).size) (compareBytes (aa (a:Int)).data.toList (aa (b:Int)).data.toList) W h
 have za:(aa (a:Int)).size≤301:=aM (aq.2 ha)
 have zb:(aa (b:Int)).size≤301:=aM (aq.2 hb)
 have e:(if compareInt (aa (a:Int)).size (aa (b:Int)).size=0 then compareBytes (aa (a:Int)).data.toList (aa (b:Int)).data.toList else compareInt (aa (a:Int)).size (aa (b:Int)).size)=bF a b:=by
  rw [mi,mi]
  unfold compareInt
  by_cases h1:(nDigits a:Int)<nDigits b
  ·rw [if_pos h1,if_neg (by decide)]
   have:=xK (a:=a) (b:=b) (by omega) (r9 a)
   unfold bF;rw [if_pos (by omega)]
  ·by_cases h2:(nDigits a:Int) > nDigits b
   ·rw [if_neg h1,if_pos h2,if_neg (by decide)]
    have:=xK (a:=b) (b:=a) (by omega) (r9 b)
    unfold bF;rw [if_neg (by omega),if_pos (by omega)]
   ·rw [if_neg h1,if_neg h2,if_pos rfl,aF,aF,itoa_nonneg,itoa_nonneg,oJ,cU,cU]
    ·rw [decDigits_length,decDigits_length];omega
    ·exact bg _
    ·exact bg _
 rw [←e]
 clear e ha hb
 have za':((aa (a:Int)).size:Int)≤9223372036854775807:=by omega
 have zb':((aa (b:Int)).size:Int)≤9223372036854775807:=by omega
 generalize compareInt (aa (a:Int)).size (aa (b:Int)).size=x at *
 generalize compareBytes (aa (a:Int)).data.toList (aa (b:Int)).data.toList=y at *
 generalize aa (a:Int)=s at *
 generalize aa (b:Int)=t at *
 generalize (if x=0 then y else x)=r at *
 have O:=Ha (Hb c1 (Hb c2 c3));clear c1 c2 c3 za zb
 go_enter Tryz.func169,Tryz.ntmps169
 go_wp2_with fail
 refine (O.out.1 _).mono ?_
 rintro e v1 ⟨rfl,rfl⟩
 go_wp2_with fail
 refine (O.out.2.1 _).mono ?_
 rintro e v2 ⟨rfl,rfl⟩
 go_wp2_with fail
 have hS:=Blk.new v2 #[.int .i64 x,.int .i64 y] 3
 have BB:=Ha ((Below.refl v2.heap.size v2).alloc (Nat.le_refl _) (.cells #[.int .i64 x,.int .i64 y] 3))
 generalize v2.alloc (.cells #[.int .i64 x,.int .i64 y] 3)=v4 at *
 generalize hk:v2.heap.size=k3 at hS
 clear hk
 refine (O.out.2.2 _ v4 hS).mono ?_
 rintro e v5 ⟨rfl,b⟩
 have B5:=Ha (BB.out.trans (b.mono BB.out.size));clear b BB hS
 go_wp2
 go_ret
 exact ⟨rfl,B5.out⟩
end T
section
open Go.RowKit
theorem mkf:∀ (fn:Fn) (first cap:Array Value) (w:World),(Instr.makeFunc fn first cap).run Tryz.prog w = .ok (.func fn first cap) w:=fun _ _ _ _=>rfl
theorem je (kr:FuncId) (w:World) :
  Calls Tryz.prog 30 #[.func (.func kr) #[] #[]] w fun e W'=>e = .returned (.func (.func 76) #[] #[.pointer (some ⟨w.heap.size,0,none⟩)])∧Blk W' w.heap.size #[.func (.func kr) #[] #[]]∧Below w.heap.size w W':=by
 have hmf:=mkf
 go_enter Tryz.func30,Tryz.ntmps30
 go_wp2
 go_ret
 exact ⟨rfl,Blk.new w _ _,(Below.refl _ w).alloc (Nat.le_refl _) _⟩
theorem jf (kr:FuncId) (w:World) :
  Calls Tryz.prog 32 #[.func (.func kr) #[] #[]] w fun e W'=>e = .returned (.func (.func 78) #[] #[.pointer (some ⟨w.heap.size,0,none⟩)])∧Blk W' w.heap.size #[.func (.func kr) #[] #[]]∧Below w.heap.size w W':=by
 have hmf:=mkf
 go_enter Tryz.func32,Tryz.ntmps32
 go_wp2
 go_ret
 exact ⟨rfl,Blk.new w _ _,(Below.refl _ w).alloc (Nat.le_refl _) _⟩
theorem mm (kr:FuncId) (p:Nat) (a b c d n m:Int) (r:ByteArray) (x:Int) (w:World) (eg:∀ args W,(callFunc kr args).run Tryz.prog W = .ok (.enter kr args) W) (hb:Blk w p #[.func (.func kr) #[] #[]])
  (hr:CqB w kr #[.agg #[.int .i64 a,.int .i64 b],.agg #[.int .i64 c,.int .i64 d]] (.agg #[.int .i64 n,.int .i64 m]))
  (hl:CqB w 77 #[.agg #[.int .i64 n,.int .i64 m]] (.tuple #[.string r,.int .i64 x])) :
  Calls Tryz.prog 76 #[.agg #[.int .i64 a,.int .i64 b],.agg #[.int .i64 c,.int .i64 d],.pointer (some ⟨p,0,none⟩)] w fun e W'=>e = .returned (.tuple #[.string r,.int .i64 x])∧Below w.heap.size w W':=by
 have cp:((w.alloc (.cells #[.int .i64 a,.int .i64 b] 115)).alloc (.cells #[.int .i64 c,.int .i64 d] 115)).cell? ⟨p,0,none⟩=some (.func (.func kr) #[] #[]):=((hb.alloc _).alloc _).cell 0 _ rfl
 have hB:Below w.heap.size w ((w.alloc (.cells #[.int .i64 a,.int .i64 b] 115)).alloc (.cells #[.int .i64 c,.int .i64 d] 115)):=((Below.refl _ w).alloc (Nat.le_refl _) _).alloc (by simp) _
 have C:=Ha (Hb hr hl)
 clear hr hl hb
 go_enter Tryz.func76,Tryz.ntmps76
 go_wp2_with fail
 generalize (w.alloc (.cells #[.int .i64 a,.int .i64 b] 115)).alloc (.cells #[.int .i64 c,.int .i64 d] 115)=W0 at *
 have HB:=Ha hB;clear hB cp
 refine (C.out.1 _ HB.out).mono ?_
 rintro e w1 ⟨rfl,b⟩
 have H1:=Ha (HB.out.trans (b.mono HB.out.size));clear b HB
 go_wp2_with fail
 refine (C.out.2 _ H1.out).mono ?_
 rintro e w2 ⟨rfl,b⟩
 have H2:=Ha (H1.out.trans (b.mono H1.out.size));clear b H1
 go_wp2
 go_ret2
 exact ⟨rfl,H2.out⟩
theorem mq (kr:FuncId) (p:Nat) (a b c d n m:ByteArray) (a' b' c' d' n' m':Int) (r:ByteArray) (x:Int) (w:World) (eg:∀ args W,(callFunc kr args).run Tryz.prog W = .ok (.enter kr args) W) (hb:Blk w p #[.func (.func kr) #[] #[]])
  (hr:CqB w kr #[.agg #[.string a,.int .i64 a',.string b,.int .i64 b'],.agg #[.string c,.int .i64 c',.string d,.int .i64 d']] (.agg #[.string n,.int .i64 n',.string m,.int .i64 m']))
  (hl:CqB w 79 #[.agg #[.string n,.int .i64 n',.string m,.int .i64 m']] (.tuple #[.string r,.int .i64 x])) :
  Calls Tryz.prog 78 #[.agg #[.string a,.int .i64 a',.string b,.int .i64 b'],.agg #[.string c,.int .i64 c',.string d,.int .i64 d'],.pointer (some ⟨p,0,none⟩)] w fun e W'=>e = .returned (.tuple #[.string r,.int .i64 x])∧Below w.heap.size w W':=by
 have cp:((w.alloc (.cells #[.string a,.int .i64 a',.string b,.int .i64 b'] 119)).alloc (.cells #[.string c,.int .i64 c',.string d,.int .i64 d'] 119)).cell? ⟨p,0,none⟩=some (.func (.func kr) #[] #[]):=((hb.alloc _).alloc _).cell 0 _ rfl
 have hB:Below w.heap.size w ((w.alloc (.cells #[.string a,.int .i64 a',.string b,.int .i64 b'] 119)).alloc (.cells #[.string c,.int .i64 c',.string d,.int .i64 d'] 119)):=((Below.refl _ w).alloc (Nat.le_refl _) _).alloc (by simp) _
 have C:=Ha (Hb hr hl)
 clear hr hl hb
 go_enter Tryz.func78,Tryz.ntmps78
 go_wp2_with fail
 generalize (w.alloc (.cells #[.string a,.int .i64 a',.string b,.int .i64 b'] 119)).alloc (.cells #[.string c,.int .i64 c',.string d,.int .i64 d'] 119)=W0 at *
 have HB:=Ha hB;clear hB cp
 refine (C.out.1 _ HB.out).mono ?_
 rintro e w1 ⟨rfl,b⟩
 have H1:=Ha (HB.out.trans (b.mono HB.out.size));clear b HB
 go_wp2_with fail
 refine (C.out.2 _ H1.out).mono ?_
 rintro e w2 ⟨rfl,b⟩
 have H2:=Ha (H1.out.trans (b.mono H1.out.size));clear b H1
 go_wp2
 go_ret2
 exact ⟨rfl,H2.out⟩
theorem oK (ks kl:FuncId) (p q:Nat) (a b:ByteArray) (x0 x1 y0 y1:Int) (r:ByteArray) (w:World)
  (hm:CqB w 74 #[.string a,.string b] (.tuple #[.agg #[.int .i64 x0,.int .i64 x1],.agg #[.int .i64 y0,.int .i64 y1],.bool true]))
  (es:∀ args W,(callFunc ks args).run Tryz.prog W = .ok (.enter ks args) W)
  (hs:CqB w ks #[.agg #[.int .i64 x0,.int .i64 x1],.agg #[.int .i64 y0,.int .i64 y1],.pointer (some ⟨p,0,none⟩)] (.tuple #[.string r,.int .i64 0])) :
  Calls Tryz.prog 29 #[.string a,.string b,(.func (.func ks) #[] #[.pointer (some ⟨p,0,none⟩)]),(.func (.func kl) #[] #[.pointer (some ⟨q,0,none⟩)])] w fun e W'=>e = .returned (.tuple #[.string r,.int .i64 0])∧Below w.heap.size w W':=by
 have C:=Ha ((Hb hm (Hb hs trivial)));clear hm hs
 go_enter Tryz.func29,Tryz.ntmps29
 go_wp2_with fail
 refine (C.out.1 _ (Below.refl _ _)).mono ?_
 rintro e w1 ⟨rfl,b⟩
 have q0:=(Blk.new w1 #[.int .i64 x0,.int .i64 x1] 115).alloc (.cells #[.int .i64 y0,.int .i64 y1] 115)
 have q1:=Blk.new (w1.alloc (.cells #[.int .i64 x0,.int .i64 x1] 115)) #[.int .i64 y0,.int .i64 y1] 115
 rw [World.size_alloc] at q1
 have c0:=q0.cell 0 (.int .i64 x0) rfl
 have c1:=q0.cell 1 (.int .i64 x1) rfl
 have c2:=q1.cell 0 (.int .i64 y0) rfl
 have c3:=q1.cell 1 (.int .i64 y1) rfl
 have hB:=(b.alloc b.size (.cells #[.int .i64 x0,.int .i64 x1] 115)).alloc (by have:=b.size;simp;omega) (.cells #[.int .i64 y0,.int .i64 y1] 115)
 clear q0 q1
 go_wp2_with fail
 generalize (w1.alloc (.cells #[.int .i64 x0,.int .i64 x1] 115)).alloc (.cells #[.int .i64 y0,.int .i64 y1] 115)=w2 at *
 have H2:=Ha hB;clear hB b c0 c1 c2 c3
 refine (C.out.2.1 _ H2.out).mono ?_
 rintro e w3 ⟨rfl,b⟩
 have H3:=Ha (H2.out.trans (b.mono H2.out.size));clear b H2
 go_wp2
 go_ret2
 exact ⟨rfl,H3.out⟩
theorem qs (ks kl:FuncId) (p q:Nat) (a b:ByteArray) (x0 x1 y0 y1:Int) (n d m f:ByteArray) (r' r:ByteArray) (e' e0:Int) (w:World) (n1:(e'==0)=false) (n2:(e' != 0)=true)
  (hm:CqB w 74 #[.string a,.string b] (.tuple #[.agg #[.int .i64 x0,.int .i64 x1],.agg #[.int .i64 y0,.int .i64 y1],.bool true]))
  (es:∀ args W,(callFunc ks args).run Tryz.prog W = .ok (.enter ks args) W)
  (hs:CqB w ks #[.agg #[.int .i64 x0,.int .i64 x1],.agg #[.int .i64 y0,.int .i64 y1],.pointer (some ⟨p,0,none⟩)] (.tuple #[.string r',.int .i64 e']))
  (hra:CqB w 75 #[.string a] (.tuple #[.agg #[.string n,.int .i64 0,.string d,.int .i64 0],.int .i64 0]))
  (hrb:CqB w 75 #[.string b] (.tuple #[.agg #[.string m,.int .i64 0,.string f,.int .i64 0],.int .i64 0]))
  (el:∀ args W,(callFunc kl args).run Tryz.prog W = .ok (.enter kl args) W)
  (hl:CqB w kl #[.agg #[.string n,.int .i64 0,.string d,.int .i64 0],.agg #[.string m,.int .i64 0,.string f,.int .i64 0],.pointer (some ⟨q,0,none⟩)] (.tuple #[.string r,.int .i64 e0])) :
  Calls Tryz.prog 29 #[.string a,.string b,(.func (.func ks) #[] #[.pointer (some ⟨p,0,none⟩)]),(.func (.func kl) #[] #[.pointer (some ⟨q,0,none⟩)])] w fun e W'=>e = .returned (.tuple #[.string r,.int .i64 e0])∧Below w.heap.size w W':=by
 have C:=Ha ((Hb hm (Hb hs (Hb hra (Hb hrb hl)))));clear hm hs hra hrb hl
 go_enter Tryz.func29,Tryz.ntmps29
 go_wp2_with fail
 refine (C.out.1 _ (Below.refl _ _)).mono ?_
 rintro e w1 ⟨rfl,b⟩
 have q0:=(Blk.new w1 #[.int .i64 x0,.int .i64 x1] 115).alloc (.cells #[.int .i64 y0,.int .i64 y1] 115)
 have q1:=Blk.new (w1.alloc (.cells #[.int .i64 x0,.int .i64 x1] 115)) #[.int .i64 y0,.int .i64 y1] 115
 rw [World.size_alloc] at q1
 have c0:=q0.cell 0 (.int .i64 x0) rfl
 have c1:=q0.cell 1 (.int .i64 x1) rfl
 have c2:=q1.cell 0 (.int .i64 y0) rfl
 have c3:=q1.cell 1 (.int .i64 y1) rfl
 have hB:=(b.alloc b.size (.cells #[.int .i64 x0,.int .i64 x1] 115)).alloc (by have:=b.size;simp;omega) (.cells #[.int .i64 y0,.int .i64 y1] 115)
 clear q0 q1
 go_wp2_with fail
 generalize (w1.alloc (.cells #[.int .i64 x0,.int .i64 x1] 115)).alloc (.cells #[.int .i64 y0,.int .i64 y1] 115)=w2 at *
 have H2:=Ha hB;clear hB b c0 c1 c2 c3
 refine (C.out.2.1 _ H2.out).mono ?_
 rintro e w3 ⟨rfl,b⟩
 have H3:=Ha (H2.out.trans (b.mono H2.out.size));clear b H2
 go_wp2_with fail
 refine (C.out.2.2.1 _ H3.out).mono ?_
 rintro e w4 ⟨rfl,b⟩
 have H4:=Ha (H3.out.trans (b.mono H3.out.size));clear b H3
 go_wp2_with fail
 have q0:=Blk.new w4 #[.string n,.int .i64 0,.string d,.int .i64 0] 119
 have hB:=H4.out.alloc H4.out.size (.cells #[.string n,.int .i64 0,.string d,.int .i64 0] 119)
 generalize w4.alloc (.cells #[.string n,.int .i64 0,.string d,.int .i64 0] 119)=w5 at *
 generalize w4.heap.size=j at *
 have H5:=Ha (Hb hB q0);clear hB q0 H4
 refine (C.out.2.2.2.1 _ H5.out.1).mono ?_
 rintro e w6 ⟨rfl,b⟩
 have q0:=(H5.out.2.next b).alloc (.cells #[.string m,.int .i64 0,.string f,.int .i64 0] 119)
 have q1:=Blk.new w6 #[.string m,.int .i64 0,.string f,.int .i64 0] 119
 have hB:=(H5.out.1.trans (b.mono H5.out.1.size)).alloc (Nat.le_trans H5.out.1.size b.size) (.cells #[.string m,.int .i64 0,.string f,.int .i64 0] 119)
 have c0:=q0.cell 0 (.string n) rfl
 have c1:=q0.cell 1 (.int .i64 0) rfl
 have c2:=q0.cell 2 (.string d) rfl
 have c3:=q0.cell 3 (.int .i64 0) rfl
 have c4:=q1.cell 0 (.string m) rfl
 have c5:=q1.cell 1 (.int .i64 0) rfl
 have c6:=q1.cell 2 (.string f) rfl
 have c7:=q1.cell 3 (.int .i64 0) rfl
 clear b H5 q0 q1
 go_wp2_with fail
 generalize w6.alloc (.cells #[.string m,.int .i64 0,.string f,.int .i64 0] 119)=w7 at *
 have H7:=Ha hB;clear hB c0 c1 c2 c3 c4 c5 c6 c7
 refine (C.out.2.2.2.2 _ H7.out).mono ?_
 rintro e w8 ⟨rfl,b⟩
 have H8:=Ha (H7.out.trans (b.mono H7.out.size));clear b H7
 go_wp2
 go_ret2
 exact ⟨rfl,H8.out⟩
theorem qt (ks kl:FuncId) (p q:Nat) (a b:ByteArray) (n d m f:ByteArray) (r:ByteArray) (e0:Int) (w:World)
  (hm:∀ W,Below w.heap.size w W→Calls Tryz.prog 74 #[.string a,.string b] W fun e W'=>(∃ x y z u,e = .returned (.tuple #[.agg #[.int .i64 x,.int .i64 y],.agg #[.int .i64 z,.int .i64 u],.bool false]))∧Below W.heap.size W W')
  (hra:CqB w 75 #[.string a] (.tuple #[.agg #[.string n,.int .i64 0,.string d,.int .i64 0],.int .i64 0]))
  (hrb:CqB w 75 #[.string b] (.tuple #[.agg #[.string m,.int .i64 0,.string f,.int .i64 0],.int .i64 0]))
  (el:∀ args W,(callFunc kl args).run Tryz.prog W = .ok (.enter kl args) W)
  (hl:CqB w kl #[.agg #[.string n,.int .i64 0,.string d,.int .i64 0],.agg #[.string m,.int .i64 0,.string f,.int .i64 0],.pointer (some ⟨q,0,none⟩)] (.tuple #[.string r,.int .i64 e0])) :
  Calls Tryz.prog 29 #[.string a,.string b,(.func (.func ks) #[] #[.pointer (some ⟨p,0,none⟩)]),(.func (.func kl) #[] #[.pointer (some ⟨q,0,none⟩)])] w fun e W'=>e = .returned (.tuple #[.string r,.int .i64 e0])∧Below w.heap.size w W':=by
 have C:=Ha ((Hb hm (Hb hra (Hb hrb hl))));clear hm hra hrb hl
 go_enter Tryz.func29,Tryz.ntmps29
 go_wp2_with fail
 refine (C.out.1 _ (Below.refl _ _)).mono ?_
 rintro e w1 ⟨⟨x,y,z,u,rfl⟩,b⟩
 go_wp2_with fail
 have H3:=Ha ((b.alloc b.size (.cells #[.int .i64 x,.int .i64 y] 115)).alloc (by have:=b.size;simp;omega) (.cells #[.int .i64 z,.int .i64 u] 115));clear b
 generalize (w1.alloc (.cells #[.int .i64 x,.int .i64 y] 115)).alloc (.cells #[.int .i64 z,.int .i64 u] 115)=w3 at *
 go_wp2_with fail
 refine (C.out.2.1 _ H3.out).mono ?_
 rintro e w4 ⟨rfl,b⟩
 have H4:=Ha (H3.out.trans (b.mono H3.out.size));clear b H3
 go_wp2_with fail
 have q0:=Blk.new w4 #[.string n,.int .i64 0,.string d,.int .i64 0] 119
 have hB:=H4.out.alloc H4.out.size (.cells #[.string n,.int .i64 0,.string d,.int .i64 0] 119)
 generalize w4.alloc (.cells #[.string n,.int .i64 0,.string d,.int .i64 0] 119)=w5 at *
 generalize w4.heap.size=j at *
 have H5:=Ha (Hb hB q0);clear hB q0 H4
 refine (C.out.2.2.1 _ H5.out.1).mono ?_
 rintro e w6 ⟨rfl,b⟩
 have q0:=(H5.out.2.next b).alloc (.cells #[.string m,.int .i64 0,.string f,.int .i64 0] 119)
 have q1:=Blk.new w6 #[.string m,.int .i64 0,.string f,.int .i64 0] 119
 have hB:=(H5.out.1.trans (b.mono H5.out.1.size)).alloc (Nat.le_trans H5.out.1.size b.size) (.cells #[.string m,.int .i64 0,.string f,.int .i64 0] 119)
 have c0:=q0.cell 0 (.string n) rfl
 have c1:=q0.cell 1 (.int .i64 0) rfl
 have c2:=q0.cell 2 (.string d) rfl
 have c3:=q0.cell 3 (.int .i64 0) rfl
 have c4:=q1.cell 0 (.string m) rfl
 have c5:=q1.cell 1 (.int .i64 0) rfl
 have c6:=q1.cell 2 (.string f) rfl
 have c7:=q1.cell 3 (.int .i64 0) rfl
 clear b H5 q0 q1
 go_wp2_with fail
 generalize w6.alloc (.cells #[.string m,.int .i64 0,.string f,.int .i64 0] 119)=w7 at *
 have H7:=Ha hB;clear hB c0 c1 c2 c3 c4 c5 c6 c7
 refine (C.out.2.2.2 _ H7.out).mono ?_
 rintro e w8 ⟨rfl,b⟩
 have H8:=Ha (H7.out.trans (b.mono H7.out.size));clear b H7
 go_wp2
 go_ret2
 exact ⟨rfl,H8.out⟩
theorem oL (ks kl:FuncId) (a b:ByteArray) (x0 x1 y0 y1:Int) (r:Int) (w:World)
  (hm:CqB w 74 #[.string a,.string b] (.tuple #[.agg #[.int .i64 x0,.int .i64 x1],.agg #[.int .i64 y0,.int .i64 y1],.bool true]))
  (es:∀ args W,(callFunc ks args).run Tryz.prog W = .ok (.enter ks args) W)
  (hs:CqB w ks #[.agg #[.int .i64 x0,.int .i64 x1],.agg #[.int .i64 y0,.int .i64 y1]] (.tuple #[.int .i64 r,.int .i64 0])) :
  Calls Tryz.prog 39 #[.string a,.string b,(.func (.func ks) #[] #[]),(.func (.func kl) #[] #[])] w fun e W'=>e = .returned (.tuple #[.int .i64 r,.int .i64 0])∧Below w.heap.size w W':=by
 have C:=Ha ((Hb hm (Hb hs trivial)));clear hm hs
 go_enter Tryz.func39,Tryz.ntmps39
 go_wp2_with fail
 refine (C.out.1 _ (Below.refl _ _)).mono ?_
 rintro e w1 ⟨rfl,b⟩
 have q0:=(Blk.new w1 #[.int .i64 x0,.int .i64 x1] 115).alloc (.cells #[.int .i64 y0,.int .i64 y1] 115)
 have q1:=Blk.new (w1.alloc (.cells #[.int .i64 x0,.int .i64 x1] 115)) #[.int .i64 y0,.int .i64 y1] 115
 rw [World.size_alloc] at q1
 have c0:=q0.cell 0 (.int .i64 x0) rfl
 have c1:=q0.cell 1 (.int .i64 x1) rfl
 have c2:=q1.cell 0 (.int .i64 y0) rfl
 have c3:=q1.cell 1 (.int .i64 y1) rfl
 have hB:=(b.alloc b.size (.cells #[.int .i64 x0,.int .i64 x1] 115)).alloc (by have:=b.size;simp;omega) (.cells #[.int .i64 y0,.int .i64 y1] 115)
 clear q0 q1
 go_wp2_with fail
 generalize (w1.alloc (.cells #[.int .i64 x0,.int .i64 x1] 115)).alloc (.cells #[.int .i64 y0,.int .i64 y1] 115)=w2 at *
 have H2:=Ha hB;clear hB b c0 c1 c2 c3
 refine (C.out.2.1 _ H2.out).mono ?_
 rintro e w3 ⟨rfl,b⟩
 have H3:=Ha (H2.out.trans (b.mono H2.out.size));clear b H2
 go_wp2
 go_ret2
 exact ⟨rfl,H3.out⟩
theorem qu (ks kl:FuncId) (a b:ByteArray) (x0 x1 y0 y1:Int) (n d m f:ByteArray) (r' r:Int) (e' e0:Int) (w:World) (n1:(e'==0)=false) (n2:(e' != 0)=true)
  (hm:CqB w 74 #[.string a,.string b] (.tuple #[.agg #[.int .i64 x0,.int .i64 x1],.agg #[.int .i64 y0,.int .i64 y1],.bool true]))
  (es:∀ args W,(callFunc ks args).run Tryz.prog W = .ok (.enter ks args) W)
  (hs:CqB w ks #[.agg #[.int .i64 x0,.int .i64 x1],.agg #[.int .i64 y0,.int .i64 y1]] (.tuple #[.int .i64 r',.int .i64 e']))
  (hra:CqB w 75 #[.string a] (.tuple #[.agg #[.string n,.int .i64 0,.string d,.int .i64 0],.int .i64 0]))
  (hrb:CqB w 75 #[.string b] (.tuple #[.agg #[.string m,.int .i64 0,.string f,.int .i64 0],.int .i64 0]))
  (el:∀ args W,(callFunc kl args).run Tryz.prog W = .ok (.enter kl args) W)
  (hl:CqB w kl #[.agg #[.string n,.int .i64 0,.string d,.int .i64 0],.agg #[.string m,.int .i64 0,.string f,.int .i64 0]] (.tuple #[.int .i64 r,.int .i64 e0])) :
  Calls Tryz.prog 39 #[.string a,.string b,(.func (.func ks) #[] #[]),(.func (.func kl) #[] #[])] w fun e W'=>e = .returned (.tuple #[.int .i64 r,.int .i64 e0])∧Below w.heap.size w W':=by
 have C:=Ha ((Hb hm (Hb hs (Hb hra (Hb hrb hl)))));clear hm hs hra hrb hl
 go_enter Tryz.func39,Tryz.ntmps39
 go_wp2_with fail
 refine (C.out.1 _ (Below.refl _ _)).mono ?_
 rintro e w1 ⟨rfl,b⟩
 have q0:=(Blk.new w1 #[.int .i64 x0,.int .i64 x1] 115).alloc (.cells #[.int .i64 y0,.int .i64 y1] 115)
 have q1:=Blk.new (w1.alloc (.cells #[.int .i64 x0,.int .i64 x1] 115)) #[.int .i64 y0,.int .i64 y1] 115
 rw [World.size_alloc] at q1
 have c0:=q0.cell 0 (.int .i64 x0) rfl
 have c1:=q0.cell 1 (.int .i64 x1) rfl
 have c2:=q1.cell 0 (.int .i64 y0) rfl
 have c3:=q1.cell 1 (.int .i64 y1) rfl
 have hB:=(b.alloc b.size (.cells #[.int .i64 x0,.int .i64 x1] 115)).alloc (by have:=b.size;simp;omega) (.cells #[.int .i64 y0,.int .i64 y1] 115)
 clear q0 q1
 go_wp2_with fail
 generalize (w1.alloc (.cells #[.int .i64 x0,.int .i64 x1] 115)).alloc (.cells #[.int .i64 y0,.int .i64 y1] 115)=w2 at *
 have H2:=Ha hB;clear hB b c0 c1 c2 c3
 refine (C.out.2.1 _ H2.out).mono ?_
 rintro e w3 ⟨rfl,b⟩
 have H3:=Ha (H2.out.trans (b.mono H2.out.size));clear b H2
 go_wp2_with fail
 refine (C.out.2.2.1 _ H3.out).mono ?_
 rintro e w4 ⟨rfl,b⟩
 have H4:=Ha (H3.out.trans (b.mono H3.out.size));clear b H3
 go_wp2_with fail
 have q0:=Blk.new w4 #[.string n,.int .i64 0,.string d,.int .i64 0] 119
 have hB:=H4.out.alloc H4.out.size (.cells #[.string n,.int .i64 0,.string d,.int .i64 0] 119)
 generalize w4.alloc (.cells #[.string n,.int .i64 0,.string d,.int .i64 0] 119)=w5 at *
 generalize w4.heap.size=j at *
 have H5:=Ha (Hb hB q0);clear hB q0 H4
 refine (C.out.2.2.2.1 _ H5.out.1).mono ?_
 rintro e w6 ⟨rfl,b⟩
 have q0:=(H5.out.2.next b).alloc (.cells #[.string m,.int .i64 0,.string f,.int .i64 0] 119)
 have q1:=Blk.new w6 #[.string m,.int .i64 0,.string f,.int .i64 0] 119
 have hB:=(H5.out.1.trans (b.mono H5.out.1.size)).alloc (Nat.le_trans H5.out.1.size b.size) (.cells #[.string m,.int .i64 0,.string f,.int .i64 0] 119)
 have c0:=q0.cell 0 (.string n) rfl
 have c1:=q0.cell 1 (.int .i64 0) rfl
 have c2:=q0.cell 2 (.string d) rfl
 have c3:=q0.cell 3 (.int .i64 0) rfl
 have c4:=q1.cell 0 (.string m) rfl
 have c5:=q1.cell 1 (.int .i64 0) rfl
 have c6:=q1.cell 2 (.string f) rfl
 have c7:=q1.cell 3 (.int .i64 0) rfl
 clear b H5 q0 q1
 go_wp2_with fail
 generalize w6.alloc (.cells #[.string m,.int .i64 0,.string f,.int .i64 0] 119)=w7 at *
 have H7:=Ha hB;clear hB c0 c1 c2 c3 c4 c5 c6 c7
 refine (C.out.2.2.2.2 _ H7.out).mono ?_
 rintro e w8 ⟨rfl,b⟩
 have H8:=Ha (H7.out.trans (b.mono H7.out.size));clear b H7
 go_wp2
 go_ret2
 exact ⟨rfl,H8.out⟩
theorem qv (ks kl:FuncId) (a b:ByteArray) (n d m f:ByteArray) (r:Int) (e0:Int) (w:World)
  (hm:∀ W,Below w.heap.size w W→Calls Tryz.prog 74 #[.string a,.string b] W fun e W'=>(∃ x y z u,e = .returned (.tuple #[.agg #[.int .i64 x,.int .i64 y],.agg #[.int .i64 z,.int .i64 u],.bool false]))∧Below W.heap.size W W')
  (hra:CqB w 75 #[.string a] (.tuple #[.agg #[.string n,.int .i64 0,.string d,.int .i64 0],.int .i64 0]))
  (hrb:CqB w 75 #[.string b] (.tuple #[.agg #[.string m,.int .i64 0,.string f,.int .i64 0],.int .i64 0]))
  (el:∀ args W,(callFunc kl args).run Tryz.prog W = .ok (.enter kl args) W)
  (hl:CqB w kl #[.agg #[.string n,.int .i64 0,.string d,.int .i64 0],.agg #[.string m,.int .i64 0,.string f,.int .i64 0]] (.tuple #[.int .i64 r,.int .i64 e0])) :
  Calls Tryz.prog 39 #[.string a,.string b,(.func (.func ks) #[] #[]),(.func (.func kl) #[] #[])] w fun e W'=>e = .returned (.tuple #[.int .i64 r,.int .i64 e0])∧Below w.heap.size w W':=by
 have C:=Ha ((Hb hm (Hb hra (Hb hrb hl))));clear hm hra hrb hl
 go_enter Tryz.func39,Tryz.ntmps39
 go_wp2_with fail
 refine (C.out.1 _ (Below.refl _ _)).mono ?_
 rintro e w1 ⟨⟨x,y,z,u,rfl⟩,b⟩
 go_wp2_with fail
 have H3:=Ha ((b.alloc b.size (.cells #[.int .i64 x,.int .i64 y] 115)).alloc (by have:=b.size;simp;omega) (.cells #[.int .i64 z,.int .i64 u] 115));clear b
 generalize (w1.alloc (.cells #[.int .i64 x,.int .i64 y] 115)).alloc (.cells #[.int .i64 z,.int .i64 u] 115)=w3 at *
 go_wp2_with fail
 refine (C.out.2.1 _ H3.out).mono ?_
 rintro e w4 ⟨rfl,b⟩
 have H4:=Ha (H3.out.trans (b.mono H3.out.size));clear b H3
 go_wp2_with fail
 have q0:=Blk.new w4 #[.string n,.int .i64 0,.string d,.int .i64 0] 119
 have hB:=H4.out.alloc H4.out.size (.cells #[.string n,.int .i64 0,.string d,.int .i64 0] 119)
 generalize w4.alloc (.cells #[.string n,.int .i64 0,.string d,.int .i64 0] 119)=w5 at *
 generalize w4.heap.size=j at *
 have H5:=Ha (Hb hB q0);clear hB q0 H4
 refine (C.out.2.2.1 _ H5.out.1).mono ?_
 rintro e w6 ⟨rfl,b⟩
 have q0:=(H5.out.2.next b).alloc (.cells #[.string m,.int .i64 0,.string f,.int .i64 0] 119)
 have q1:=Blk.new w6 #[.string m,.int .i64 0,.string f,.int .i64 0] 119
 have hB:=(H5.out.1.trans (b.mono H5.out.1.size)).alloc (Nat.le_trans H5.out.1.size b.size) (.cells #[.string m,.int .i64 0,.string f,.int .i64 0] 119)
 have c0:=q0.cell 0 (.string n) rfl
 have c1:=q0.cell 1 (.int .i64 0) rfl
 have c2:=q0.cell 2 (.string d) rfl
 have c3:=q0.cell 3 (.int .i64 0) rfl
 have c4:=q1.cell 0 (.string m) rfl
 have c5:=q1.cell 1 (.int .i64 0) rfl
 have c6:=q1.cell 2 (.string f) rfl
 have c7:=q1.cell 3 (.int .i64 0) rfl
 clear b H5 q0 q1
 go_wp2_with fail
 generalize w6.alloc (.cells #[.string m,.int .i64 0,.string f,.int .i64 0] 119)=w7 at *
 have H7:=Ha hB;clear hB c0 c1 c2 c3 c4 c5 c6 c7
 refine (C.out.2.2.2 _ H7.out).mono ?_
 rintro e w8 ⟨rfl,b⟩
 have H8:=Ha (H7.out.trans (b.mono H7.out.size));clear b H7
 go_wp2
 go_ret2
 exact ⟨rfl,H8.out⟩
theorem vZ (a b c d n m:Int) (x:Int) (n1:(x==0)=false) (n2:(x != 0)=true) (w:World)
  (hr:CqB w 36 #[.agg #[.int .i64 a,.int .i64 b],.agg #[.int .i64 c,.int .i64 d]] (.agg #[.int .i64 n,.int .i64 m]))
  (hf:CqB w 81 #[.agg #[.int .i64 n,.int .i64 m]] (.int .i64 x)) :
  Calls Tryz.prog 40 #[.agg #[.int .i64 a,.int .i64 b],.agg #[.int .i64 c,.int .i64 d]] w fun e W'=>e = .returned (.tuple #[.int .i64 0,.int .i64 x])∧Below w.heap.size w W':=by
 have C:=Ha (Hb hr (Hb hf trivial));clear hr hf
 have hB:Below w.heap.size w ((w.alloc (.cells #[.int .i64 a,.int .i64 b] 115)).alloc (.cells #[.int .i64 c,.int .i64 d] 115)):=((Below.refl _ w).alloc (Nat.le_refl _) _).alloc (by simp) _
 go_enter Tryz.func40,Tryz.ntmps40
 go_wp2_with fail
 generalize (w.alloc (.cells #[.int .i64 a,.int .i64 b] 115)).alloc (.cells #[.int .i64 c,.int .i64 d] 115)=W0 at *
 have HB:=Ha hB;clear hB
 refine (C.out.1 _ HB.out).mono ?_
 rintro e w1 ⟨rfl,b⟩
 have q0:=Blk.new w1 #[.int .i64 n,.int .i64 m] 115
 have hB:=(HB.out.trans (b.mono HB.out.size)).alloc (Nat.le_trans HB.out.size b.size) (.cells #[.int .i64 n,.int .i64 m] 115)
 have c0:=q0.cell 0 (.int .i64 n) rfl
 have c1:=q0.cell 1 (.int .i64 m) rfl
 clear b HB
 go_wp2_with fail
 generalize w1.alloc (.cells #[.int .i64 n,.int .i64 m] 115)=w2 at *
 generalize w1.heap.size=j at *
 have H2:=Ha (Hb hB q0);clear hB q0 c0 c1
 refine (C.out.2.1 _ H2.out.1).mono ?_
 rintro e w3 ⟨rfl,b⟩
 have H3:=Ha (Hb (H2.out.1.trans (b.mono H2.out.1.size)) (H2.out.2.next b));clear b H2
 have c0:=H3.out.2.cell 0 (.int .i64 n) rfl
 have c1:=H3.out.2.cell 1 (.int .i64 m) rfl
 go_wp2
 go_ret2
 exact ⟨rfl,H3.out.1⟩
theorem y3 (a b c d n m:Int) (r:Int) (w:World)
  (hr:CqB w 36 #[.agg #[.int .i64 a,.int .i64 b],.agg #[.int .i64 c,.int .i64 d]] (.agg #[.int .i64 n,.int .i64 m]))
  (hf:CqB w 81 #[.agg #[.int .i64 n,.int .i64 m]] (.int .i64 0))
  (hc:CqB w 334 #[.int .i64 n,.int .i64 m] (.int .i64 r)) :
  Calls Tryz.prog 40 #[.agg #[.int .i64 a,.int .i64 b],.agg #[.int .i64 c,.int .i64 d]] w fun e W'=>e = .returned (.tuple #[.int .i64 r,.int .i64 0])∧Below w.heap.size w W':=by
 have C:=Ha (Hb hr (Hb hf hc));clear hr hf hc
 have hB:Below w.heap.size w ((w.alloc (.cells #[.int .i64 a,.int .i64 b] 115)).alloc (.cells #[.int .i64 c,.int .i64 d] 115)):=((Below.refl _ w).alloc (Nat.le_refl _) _).alloc (by simp) _
 go_enter Tryz.func40,Tryz.ntmps40
 go_wp2_with fail
 generalize (w.alloc (.cells #[.int .i64 a,.int .i64 b] 115)).alloc (.cells #[.int .i64 c,.int .i64 d] 115)=W0 at *
 have HB:=Ha hB;clear hB
 refine (C.out.1 _ HB.out).mono ?_
 rintro e w1 ⟨rfl,b⟩
 have q0:=Blk.new w1 #[.int .i64 n,.int .i64 m] 115
 have hB:=(HB.out.trans (b.mono HB.out.size)).alloc (Nat.le_trans HB.out.size b.size) (.cells #[.int .i64 n,.int .i64 m] 115)
 have c0:=q0.cell 0 (.int .i64 n) rfl
 have c1:=q0.cell 1 (.int .i64 m) rfl
 clear b HB
 go_wp2_with fail
 generalize w1.alloc (.cells #[.int .i64 n,.int .i64 m] 115)=w2 at *
 generalize w1.heap.size=j at *
 have H2:=Ha (Hb hB q0);clear hB q0 c0 c1
 refine (C.out.2.1 _ H2.out.1).mono ?_
 rintro e w3 ⟨rfl,b⟩
 have H3:=Ha (Hb (H2.out.1.trans (b.mono H2.out.1.size)) (H2.out.2.next b));clear b H2
 have c0:=H3.out.2.cell 0 (.int .i64 n) rfl
 have c1:=H3.out.2.cell 1 (.int .i64 m) rfl
 go_wp2_with fail
 refine (C.out.2.2 _ H3.out.1).mono ?_
 rintro e w4 ⟨rfl,b⟩
 have H4:=Ha (H3.out.1.trans (b.mono H3.out.1.size));clear b
 go_wp2
 go_ret2
 exact ⟨rfl,H4.out⟩
theorem oM (a b c d n m:ByteArray) (a' b' c' d' n' m':Int) (x:Int) (n1:(x==0)=false) (n2:(x != 0)=true) (w:World)
  (hr:CqB w 37 #[.agg #[.string a,.int .i64 a',.string b,.int .i64 b'],.agg #[.string c,.int .i64 c',.string d,.int .i64 d']] (.agg #[.string n,.int .i64 n',.string m,.int .i64 m']))
  (hf:CqB w 82 #[.agg #[.string n,.int .i64 n',.string m,.int .i64 m']] (.int .i64 x)) :
  Calls Tryz.prog 41 #[.agg #[.string a,.int .i64 a',.string b,.int .i64 b'],.agg #[.string c,.int .i64 c',.string d,.int .i64 d']] w fun e W'=>e = .returned (.tuple #[.int .i64 0,.int .i64 x])∧Below w.heap.size w W':=by
 have C:=Ha (Hb hr (Hb hf trivial));clear hr hf
 have hB:Below w.heap.size w ((w.alloc (.cells #[.string a,.int .i64 a',.string b,.int .i64 b'] 119)).alloc (.cells #[.string c,.int .i64 c',.string d,.int .i64 d'] 119)):=((Below.refl _ w).alloc (Nat.le_refl _) _).alloc (by simp) _
 go_enter Tryz.func41,Tryz.ntmps41
 go_wp2_with fail
 generalize (w.alloc (.cells #[.string a,.int .i64 a',.string b,.int .i64 b'] 119)).alloc (.cells #[.string c,.int .i64 c',.string d,.int .i64 d'] 119)=W0 at *
 have HB:=Ha hB;clear hB
 refine (C.out.1 _ HB.out).mono ?_
 rintro e w1 ⟨rfl,b⟩
 have q0:=Blk.new w1 #[.string n,.int .i64 n',.string m,.int .i64 m'] 119
 have hB:=(HB.out.trans (b.mono HB.out.size)).alloc (Nat.le_trans HB.out.size b.size) (.cells #[.string n,.int .i64 n',.string m,.int .i64 m'] 119)
 have c0:=q0.cell 0 (.string n) rfl
 have c1:=q0.cell 1 (.int .i64 n') rfl
 have c2:=q0.cell 2 (.string m) rfl
 have c3:=q0.cell 3 (.int .i64 m') rfl
 clear b HB
 go_wp2_with fail
 generalize w1.alloc (.cells #[.string n,.int .i64 n',.string m,.int .i64 m'] 119)=w2 at *
 generalize w1.heap.size=j at *
 have H2:=Ha (Hb hB q0);clear hB q0 c0 c1 c2 c3
 refine (C.out.2.1 _ H2.out.1).mono ?_
 rintro e w3 ⟨rfl,b⟩
 have H3:=Ha (Hb (H2.out.1.trans (b.mono H2.out.1.size)) (H2.out.2.next b));clear b H2
 have c0:=H3.out.2.cell 0 (.string n) rfl
 have c1:=H3.out.2.cell 1 (.int .i64 n') rfl
 have c2:=H3.out.2.cell 2 (.string m) rfl
 have c3:=H3.out.2.cell 3 (.int .i64 m') rfl
 go_wp2
 go_ret2
 exact ⟨rfl,H3.out.1⟩
theorem y4 (a b c d n m:ByteArray) (a' b' c' d' n' m':Int) (r:Int) (w:World)
  (hr:CqB w 37 #[.agg #[.string a,.int .i64 a',.string b,.int .i64 b'],.agg #[.string c,.int .i64 c',.string d,.int .i64 d']] (.agg #[.string n,.int .i64 n',.string m,.int .i64 m']))
  (hf:CqB w 82 #[.agg #[.string n,.int .i64 n',.string m,.int .i64 m']] (.int .i64 0))
  (hc:CqB w 348 #[.agg #[.string n,.int .i64 n'],.agg #[.string m,.int .i64 m']] (.int .i64 r)) :
  Calls Tryz.prog 41 #[.agg #[.string a,.int .i64 a',.string b,.int .i64 b'],.agg #[.string c,.int .i64 c',.string d,.int .i64 d']] w fun e W'=>e = .returned (.tuple #[.int .i64 r,.int .i64 0])∧Below w.heap.size w W':=by
 have C:=Ha (Hb hr (Hb hf hc));clear hr hf hc
 have hB:Below w.heap.size w ((w.alloc (.cells #[.string a,.int .i64 a',.string b,.int .i64 b'] 119)).alloc (.cells #[.string c,.int .i64 c',.string d,.int .i64 d'] 119)):=((Below.refl _ w).alloc (Nat.le_refl _) _).alloc (by simp) _
 go_enter Tryz.func41,Tryz.ntmps41
 go_wp2_with fail
 generalize (w.alloc (.cells #[.string a,.int .i64 a',.string b,.int .i64 b'] 119)).alloc (.cells #[.string c,.int .i64 c',.string d,.int .i64 d'] 119)=W0 at *
 have HB:=Ha hB;clear hB
 refine (C.out.1 _ HB.out).mono ?_
 rintro e w1 ⟨rfl,b⟩
 have q0:=Blk.new w1 #[.string n,.int .i64 n',.string m,.int .i64 m'] 119
 have hB:=(HB.out.trans (b.mono HB.out.size)).alloc (Nat.le_trans HB.out.size b.size) (.cells #[.string n,.int .i64 n',.string m,.int .i64 m'] 119)
 have c0:=q0.cell 0 (.string n) rfl
 have c1:=q0.cell 1 (.int .i64 n') rfl
 have c2:=q0.cell 2 (.string m) rfl
 have c3:=q0.cell 3 (.int .i64 m') rfl
 clear b HB
 go_wp2_with fail
 generalize w1.alloc (.cells #[.string n,.int .i64 n',.string m,.int .i64 m'] 119)=w2 at *
 generalize w1.heap.size=j at *
 have H2:=Ha (Hb hB q0);clear hB q0 c0 c1 c2 c3
 refine (C.out.2.1 _ H2.out.1).mono ?_
 rintro e w3 ⟨rfl,b⟩
 have H3:=Ha (Hb (H2.out.1.trans (b.mono H2.out.1.size)) (H2.out.2.next b));clear b H2
 have c0:=H3.out.2.cell 0 (.string n) rfl
 have c1:=H3.out.2.cell 1 (.int .i64 n') rfl
 have c2:=H3.out.2.cell 2 (.string m) rfl
 have c3:=H3.out.2.cell 3 (.int .i64 m') rfl
 go_wp2_with fail
 refine (C.out.2.2 _ H3.out.1).mono ?_
 rintro e w4 ⟨rfl,b⟩
 have H4:=Ha (H3.out.1.trans (b.mono H3.out.1.size));clear b
 go_wp2
 go_ret2
 exact ⟨rfl,H4.out⟩
theorem wa (n d n' d':Int) (en : -n=n') (ed : -d=d') (w:World) (n0 : -9223372036854775808<n) (n1:n≤9223372036854775807) (d0 : -9223372036854775808<d) (d1:d≤9223372036854775807) (hd:d<0) (hg:aN n' d'=1) (ht:Tab w) (ht2:aH w) :
  Calls Tryz.prog 77 #[.agg #[.int .i64 n,.int .i64 d]] w fun e W'=>e = .returned (.tuple #[.string (gu n' d'),.int .i64 0])∧Below w.heap.size w W':=by
 have cf:=fun W=>gY n d W
 rw [if_neg (show ¬ (n=aT∨d=aT) by unfold aT;omega)] at cf
 have cn:=fun W=>kT d W
 rw [decide_eq_true hd] at cn
 have co1:=fun W=>still (fI n W n0 n1)
 have co2:=fun W=>still (fI d W d0 d1)
 rw [en] at co1
 rw [ed] at co2
 have cg:=fun W (hW:Below w.heap.size w W)=>eV n' d' W (by omega) (by omega) (by omega) (by omega) (ae ht2 hW)
 have c1:=fun W=>i6 (aN n' d') W
 rw [show (aN n' d'==1)=true by simpa using hg] at c1
 have cv1:=trivial
 have cv2:=trivial
 have ct:=fun W (hW:Below w.heap.size w W)=>jM n' d' W (by omega) (by omega) (by omega) (by omega) (ht.next hW)
 have C:=Ha (Hb cf (Hb cn (Hb co1 (Hb co2 (Hb cg (Hb c1 (Hb cv1 (Hb cv2 ct))))))))
 clear en ed cf cn co1 co2 cg c1 cv1 cv2 ct ht ht2 n0 n1 d0 d1 hd hg
 rw [show ((Nat.gcd (n').natAbs (d').natAbs:Nat):Int)=aN n' d' from rfl] at C
 generalize aN n' d'=g at *
 go_enter Tryz.func77,Tryz.ntmps77
 go_wp2_with fail
 have hb:=Cell2.new w (.int .i64 n) (.int .i64 d) 115
 generalize w.alloc (.cells #[.int .i64 n,.int .i64 d] 115)=W0 at *
 generalize hk:w.heap.size=k at *
 have HK:=Ha hk;clear hk
 have HB:=Ha hb;clear hb
 refine (C.out.1 _).mono ?_
 rintro e w1 ⟨rfl,b⟩
 have H1:=Ha (HB.out.next b);clear b HB
 have c0:=H1.out.c0
 have c1:=H1.out.c1
 go_wp2_with fail
 refine (C.out.2.1 _).mono ?_
 rintro e w' ⟨rfl,rfl⟩
 have f0:=H1.out.f0
 have f1:=H1.out.f1
 go_wp2
 have H2:=Ha (show Cell2 w k _ _ w1.drew from H1.out.next (Below.refl _ _).drew)
 clear H1
 have c0:=H2.out.c0
 have c1:=H2.out.c1
 have mt:=xE
 have en1:∀ args W,(callFunc 339 args).run Tryz.prog W = .ok (.enter 339 args) W:=enters_of Tryz.func339 (by kernel_rfl) rfl
 go_still_tail 8,(by kernel_rfl)
 still_call (C.out.2.2.1 _)
 repeat still_step
 still_call (C.out.2.2.2.1 _)
 repeat still_step
 refine wpStill_nil ?_
 change wpList _ _ _ _ _ w1.drew
 clear c0 c1 f0 f1 mt en1
 generalize w1.drew=w1 at *
 have f0:=H2.out.f0
 have f1:=H2.out.f1
 have H1:=Ha (H2.out.put2 (.int .i64 n') (.int .i64 d'))
 have c0:=H1.out.c0
 have c1:=H1.out.c1
 have d0:=H2.out.c0
 have d1:=H2.out.c1
 obtain ⟨g0,g1⟩:=aJ d0 d1 (.int .i64 n') (.int .i64 d')
 clear H2
 go_wp2_with fail
 clear f0 f1 d0 d1 g0 g1
 generalize (w1.setCell ⟨k,0,none⟩ (.int .i64 n')).setCell ⟨k,1,none⟩ (.int .i64 d')=w1 at *
 go_wp2_with fail
 refine (C.out.2.2.2.2.1 _ (by have:=H1.out.below;rwa [HK.out] at this)).mono ?_
 rintro e w' ⟨rfl,rfl⟩
 go_wp2_with fail
 refine (C.out.2.2.2.2.2.1 _).mono ?_
 rintro e w' ⟨rfl,rfl⟩
 go_wp2_with fail
 refine (C.out.2.2.2.2.2.2.2.2 _ (by have:=H1.out.below;rwa [HK.out] at this)).mono ?_
 rintro e w2 ⟨rfl,b⟩
 have H2:=Ha (H1.out.below.trans (b.mono H1.out.below.size))
 clear b c0 c1
 go_wp2
 go_ret2
 exact ⟨rfl,by have:=H2.out;rwa [HK.out] at this ⊢⟩
theorem wb (n d n' d':Int) (en : -n=n') (ed : -d=d') (w:World) (n0 : -9223372036854775808<n) (n1:n≤9223372036854775807) (d0 : -9223372036854775808<d) (d1:d≤9223372036854775807) (hd:d<0) (hg:¬ aN n' d'=1) (ht:Tab w) (ht2:aH w) :
  Calls Tryz.prog 77 #[.agg #[.int .i64 n,.int .i64 d]] w fun e W'=>e = .returned (.tuple #[.string (gu (n'.tdiv (aN n' d')) (d'.tdiv (aN n' d'))),.int .i64 0])∧Below w.heap.size w W':=by
 have cf:=fun W=>gY n d W
 rw [if_neg (show ¬ (n=aT∨d=aT) by unfold aT;omega)] at cf
 have cn:=fun W=>kT d W
 rw [decide_eq_true hd] at cn
 have co1:=fun W=>still (fI n W n0 n1)
 have co2:=fun W=>still (fI d W d0 d1)
 rw [en] at co1
 rw [ed] at co2
 have cg:=fun W (hW:Below w.heap.size w W)=>eV n' d' W (by omega) (by omega) (by omega) (by omega) (ae ht2 hW)
 have c1:=fun W=>i6 (aN n' d') W
 rw [show (aN n' d'==1)=false by simpa using hg] at c1
 have hgp:=oB (n:=n') (d:=d') (by omega)
 have hgl:aN n' d'≤9223372036854775807:=by
  have:aN n' d'≤d':=Int.le_of_dvd (by omega) (kZ n' d').2
  omega
 have bn:=rX (n:=n') hgp (by omega) (by omega)
 have bd:=rX (n:=d') hgp (by omega) (by omega)
 have cv1:=fun W=>still (jH n' (aN n' d') W (by omega) (by omega) hgp hgl)
 have cv2:=fun W=>still (jH d' (aN n' d') W (by omega) (by omega) hgp hgl)
 have ct:=fun W (hW:Below w.heap.size w W)=>jM (n'.tdiv (aN n' d')) (d'.tdiv (aN n' d')) W bn.1 bn.2 bd.1 bd.2 (ht.next hW)
 clear hgp hgl bn bd
 have C:=Ha (Hb cf (Hb cn (Hb co1 (Hb co2 (Hb cg (Hb c1 (Hb cv1 (Hb cv2 ct))))))))
 clear en ed cf cn co1 co2 cg c1 cv1 cv2 ct ht ht2 n0 n1 d0 d1 hd hg
 rw [show ((Nat.gcd (n').natAbs (d').natAbs:Nat):Int)=aN n' d' from rfl] at C
 generalize aN n' d'=g at *
 go_enter Tryz.func77,Tryz.ntmps77
 go_wp2_with fail
 have hb:=Cell2.new w (.int .i64 n) (.int .i64 d) 115
 generalize w.alloc (.cells #[.int .i64 n,.int .i64 d] 115)=W0 at *
 generalize hk:w.heap.size=k at *
 have HK:=Ha hk;clear hk
 have HB:=Ha hb;clear hb
 refine (C.out.1 _).mono ?_
 rintro e w1 ⟨rfl,b⟩
 have H1:=Ha (HB.out.next b);clear b HB
 have c0:=H1.out.c0
 have c1:=H1.out.c1
 go_wp2_with fail
 refine (C.out.2.1 _).mono ?_
 rintro e w' ⟨rfl,rfl⟩
 have f0:=H1.out.f0
 have f1:=H1.out.f1
 go_wp2
 have H2:=Ha (show Cell2 w k _ _ w1.drew from H1.out.next (Below.refl _ _).drew)
 clear H1
 have c0:=H2.out.c0
 have c1:=H2.out.c1
 have mt:=xE
 have en1:∀ args W,(callFunc 339 args).run Tryz.prog W = .ok (.enter 339 args) W:=enters_of Tryz.func339 (by kernel_rfl) rfl
 go_still_tail 8,(by kernel_rfl)
 still_call (C.out.2.2.1 _)
 repeat still_step
 still_call (C.out.2.2.2.1 _)
 repeat still_step
 refine wpStill_nil ?_
 change wpList _ _ _ _ _ w1.drew
 clear c0 c1 f0 f1 mt en1
 generalize w1.drew=w1 at *
 have f0:=H2.out.f0
 have f1:=H2.out.f1
 have H1:=Ha (H2.out.put2 (.int .i64 n') (.int .i64 d'))
 have c0:=H1.out.c0
 have c1:=H1.out.c1
 have d0:=H2.out.c0
 have d1:=H2.out.c1
 obtain ⟨g0,g1⟩:=aJ d0 d1 (.int .i64 n') (.int .i64 d')
 clear H2
 go_wp2_with fail
 clear f0 f1 d0 d1 g0 g1
 generalize (w1.setCell ⟨k,0,none⟩ (.int .i64 n')).setCell ⟨k,1,none⟩ (.int .i64 d')=w1 at *
 go_wp2_with fail
 refine (C.out.2.2.2.2.1 _ (by have:=H1.out.below;rwa [HK.out] at this)).mono ?_
 rintro e w' ⟨rfl,rfl⟩
 go_wp2_with fail
 refine (C.out.2.2.2.2.2.1 _).mono ?_
 rintro e w' ⟨rfl,rfl⟩
 have f0:=H1.out.f0
 have f1:=H1.out.f1
 go_wp2
 have H2:=Ha (show Cell2 w k _ _ w1.drew from H1.out.next (Below.refl _ _).drew)
 clear H1
 have c0:=H2.out.c0
 have c1:=H2.out.c1
 have mt:=tS
 have en1:∀ args W,(callFunc 340 args).run Tryz.prog W = .ok (.enter 340 args) W:=enters_of Tryz.func340 (by kernel_rfl) rfl
 go_still_tail 10,(by kernel_rfl)
 still_call (C.out.2.2.2.2.2.2.1 _)
 repeat still_step
 still_call (C.out.2.2.2.2.2.2.2.1 _)
 repeat still_step
 refine wpStill_nil ?_
 change wpList _ _ _ _ _ w1.drew
 clear c0 c1 f0 f1 mt en1
 generalize w1.drew=w1 at *
 have f0:=H2.out.f0
 have f1:=H2.out.f1
 have H1:=Ha (H2.out.put2 (.int .i64 (n'.tdiv g)) (.int .i64 (d'.tdiv g)))
 have c0:=H1.out.c0
 have c1:=H1.out.c1
 have d0:=H2.out.c0
 have d1:=H2.out.c1
 obtain ⟨g0,g1⟩:=aJ d0 d1 (.int .i64 (n'.tdiv g)) (.int .i64 (d'.tdiv g))
 clear H2
 go_wp2_with fail
 clear f0 f1 d0 d1 g0 g1
 generalize (w1.setCell ⟨k,0,none⟩ (.int .i64 (n'.tdiv g))).setCell ⟨k,1,none⟩ (.int .i64 (d'.tdiv g))=w1 at *
 go_wp2_with fail
 refine (C.out.2.2.2.2.2.2.2.2 _ (by have:=H1.out.below;rwa [HK.out] at this)).mono ?_
 rintro e w2 ⟨rfl,b⟩
 have H2:=Ha (H1.out.below.trans (b.mono H1.out.below.size))
 clear b c0 c1
 go_wp2
 go_ret2
 exact ⟨rfl,by have:=H2.out;rwa [HK.out] at this ⊢⟩
def gy (n d:Int):Int:=if n=aT∨d=aT then 4 else 0
theorem jg (n d:Int) (w:World) (n0 : -9223372036854775808≤n) (n1:n≤9223372036854775807) (d0 : -9223372036854775808≤d) (d1:d≤9223372036854775807) (hd:d≠0) (ht:Tab w) (ht2:aH w) :
  Calls Tryz.prog 77 #[.agg #[.int .i64 n,.int .i64 d]] w fun e W'=>e = .returned (.tuple #[.string (qp n d),.int .i64 (gy n d)])∧Below w.heap.size w W':=by
 by_cases h:n=aT∨d=aT
 ·have c:=tT n d w h
  unfold qp gy
  rw [if_pos h,if_pos h];exact c
 ·unfold qp gy
  rw [if_neg h,if_neg h]
  have hn : -9223372036854775808<n:=by
   have:n≠aT:=fun e=>h (.inl e)
   unfold aT at this;omega
  have hd2 : -9223372036854775808<d:=by
   have:d≠aT:=fun e=>h (.inr e)
   unfold aT at this;omega
  rcases Int.lt_or_gt_of_ne hd with hs | hs
  ·have hp:0 < -d:=by omega
   by_cases hg:aN (-n) (-d)=1
   ·have c:=wa n d (-n) (-d) rfl rfl w hn n1 hd2 d1 hs hg ht ht2
    rwa [AF hp hg,Rat.neg_divInt_neg] at c
   ·have c:=wb n d (-n) (-d) rfl rfl w hn n1 hd2 d1 hs hg ht ht2
    rwa [AE hp,Rat.neg_divInt_neg] at c
  ·by_cases hg:aN n d=1
   ·have c:=vQ n d w hn n1 hd2 d1 hs hg ht ht2
    rwa [AF hs hg] at c
   ·have c:=vR n d w hn n1 hd2 d1 hs hg ht ht2
    rwa [AE hs] at c
theorem GX {x y:Int} (h:y≠0):(0<y∧0≤x.fmod y∧x.fmod y<y)∨(y<0∧y<x.fmod y∧x.fmod y≤0):=by
 have h1:=rG x y h
 by_cases h0:x.tmod y=0∨((x.tmod y<0)↔(y<0))
 ·rw [(lV h h0).2];omega
 ·rw [not_or] at h0;rw [(kg h h0.1 h0.2).2];omega
theorem GZ {x y : Int} (h : y ≠ 0) : (x.fdiv y).natAbs ≤ x.natAbs ∧ (x.fmod y).natAbs ≤ y.natAbs := by
 constructor
 · have h1 : (x.tdiv y).natAbs ≤ x.natAbs := Int.natAbs_tdiv_le_natAbs x y
   by_cases h0 : x.tmod y = 0 ∨ ((x.tmod y < 0) ↔ (y < 0))
   · rw [(lV h h0).1]; exact h1
   · rw [not_or] at h0
     rw [(kg h h0.1 h0.2).1]
     have h2 : 2 ≤ y.natAbs := by
       rcases Nat.lt_or_ge y.natAbs 2 with h3 | h3
       · exfalso; have := rG x y h; apply h0.1; omega
       · exact h3
     have h3 : (x.tdiv y).natAbs = x.natAbs / y.natAbs := Int.natAbs_tdiv x y
     have hx : x.natAbs ≠ 0 := fun e => h0.1 (by have : x = 0 := by omega
                                                 rw [this]; exact Int.zero_tmod y)
     have h4 : x.natAbs / y.natAbs < x.natAbs := Nat.div_lt_self (by omega) h2
     omega
 · rcases GX (x := x) h with h1 | h1 <;> omega
theorem GU {x y:Int} (hx:short x) (h0:y≠0):short (x.fdiv y):=Nat.lt_of_le_of_lt (GZ (x:=x) h0).1 hx
theorem GY (x y:Int) (w:World) (hx:short x) (hy:short y) (h0:y≠0) (ht:Tab w) :
  Calls Tryz.prog 357 #[.string (aa x),.string (aa y)] w fun e W'=>e = .returned (.tuple #[.string (LB (mkL (x.fdiv y))),.int .i64 (LE (mkL (x.fdiv y)))])∧Below w.heap.size w W':=by
 rw [i8 (GU hx h0)]
 have C:=Ha (jD x y w hx hy h0 ht)
 clear hx hy h0 ht
 show Calls _ _ _ _ (fun e W'=>e = .returned (.tuple #[.string (aa (x.fdiv y)),.int .i64 0])∧_)
 generalize aa (x.fdiv y)=q at *
 generalize aa (x.fmod y)=r at *
 generalize aa x=sx at *
 generalize aa y=sy at *
 go_enter Tryz.func357,Tryz.ntmps357
 go_wp2_with fail
 refine C.out.mono ?_
 rintro e w' ⟨rfl,b⟩
 have B:=Ha b;clear b C
 go_wp2
 go_ret2
 exact ⟨rfl,B.out⟩
theorem GW (o p:Option Int) (w:World) (ho:Lwf o) (hp:Lwf p) (h0:p≠some 0) (ht:Tab w) :
  Calls Tryz.prog 353 #[.agg #[.string (LB o),.int .i64 (LE o)],.agg #[.string (LB p),.int .i64 (LE p)]] w fun e W'=>e = .returned (.agg #[.string (LB (opL (Int.fdiv) o p)),.int .i64 (LE (opL (Int.fdiv) o p))])∧Below w.heap.size w W':=by
 have c:=fun W (hW:Below w.heap.size w W)=>kU o p (opL (Int.fdiv) o p) 357 W (enters_of Tryz.func357 (by kernel_rfl) rfl) (fun h=>by rw [h];rfl) (fun h=>by rw [h];exact i7 _ _)
  (fun x y hx hy W' hW'=>by
   have hb:=hW.trans (hW'.mono hW.size)
   subst hx;subst hy
   exact GY x y W' (ho x rfl) (hp y rfl) (fun e=>h0 (by rw [e])) (ht.next hb))
 have C:=Ha c;clear c ho hp ht
 generalize opL (Int.fdiv) o p=r at *
 generalize LB o=ob at *
 generalize LE o=oe at *
 generalize LB p=pb at *
 generalize LE p=pe at *
 generalize LB r=rb at *
 generalize LE r=re at *
 go_enter Tryz.func353,Tryz.ntmps353
 go_wp2_with fail
 have hbx:=cX w (.string ob) (.int .i64 oe) (.string pb) (.int .i64 pe) (.string ⟨#[]⟩) (.int .i64 0) 71
 generalize ((w.alloc (.cells #[.string ob,.int .i64 oe] 71)).alloc (.cells #[.string pb,.int .i64 pe] 71)).alloc (.cells #[.string ⟨#[]⟩,.int .i64 0] 71)=W0 at *
 have CC:=Ha (C.out W0 hbx.below)
 clear C
 generalize hk:w.heap.size=k at *
 have HK:=Ha hk;clear hk
 have HB:=Ha hbx
 clear hbx
 refine CC.out.mono ?_
 rintro e w1 ⟨rfl,b⟩
 have HB1:=Ha (HB.out.next b)
 clear b CC HB
 obtain ⟨_,_,_,_,c5,c6,f5,f6,_,_⟩:=HB1.out
 obtain ⟨g5,g6⟩:=aJ c5 c6 (.string rb) (.int .i64 re)
 go_wp2
 refine bodyPost_ret (v := .agg #[.string rb,.int .i64 re]) (by simp [results,Tryz.results353,go_sem,g5,g6]) rfl ?_
 refine ⟨rfl,?_⟩
 rw [HK.out]
 exact ((HB1.out.below).setCell (p:=⟨k+1+1,0,none⟩) (by show k≤k+1+1;omega) _).setCell (p:=⟨k+1+1,1,none⟩) (by show k≤k+1+1;omega) _
theorem GV (n d:Int) (w:World) (hn:short n) (hd:short d) (h0:d≠0) (ht:Tab w) :
  Calls Tryz.prog 353 #[.agg #[.string (aa n),.int .i64 0],.agg #[.string (aa d),.int .i64 0]] w fun e W'=>e = .returned (.agg #[.string (aa (n.fdiv d)),.int .i64 0])∧Below w.heap.size w W':=by
 have c:=GW (some n) (some d) w (jJ hn) (jJ hd) (fun e=>h0 (Option.some.inj e)) ht
 rw [show opL Int.fdiv (some n) (some d)=some (n.fdiv d) by show mkL _=_;rw [i8 (GU hn h0)]] at c
 exact c
theorem tX (n d N D:Int) (o:Bool) (w:World) (hn:short n) (hd:short d) (hN:short N) (hD:short D) (hs:0<D) (ho:decide (d<0)=o) (hS:(o=true∧N = -n∧D = -d)∨(o=false∧N=n∧D=d)) (hg:¬ aN N D=1) (ht:Tab w) :
  Calls Tryz.prog 79 #[.agg #[.string (aa n),.int .i64 0,.string (aa d),.int .i64 0]] w fun e W'=>e = .returned (.tuple #[.string (gu (N.fdiv (aN N D)) (D.fdiv (aN N D))),.int .i64 0])∧Below w.heap.size w W':=by
 have cf:∀ W,Calls Tryz.prog 82 #[.agg #[.string (aa n),.int .i64 0,.string (aa d),.int .i64 0]] W fun e W'=>e = .returned (.int .i64 0)∧Below W.heap.size W W':=fun W=>jN n (some d) W
 have cn:=fun W=>tL d W
 rw [ho] at cn
 have co1:=fun W (hW:Below w.heap.size w W)=>jO n W hn (ht.next hW)
 have co2:=fun W (hW:Below w.heap.size w W)=>jO d W hd (ht.next hW)
 have cg:=fun W (hW:Below w.heap.size w W)=>l8 N D W hN hD (ht.next hW)
 have c1:=fun W=>kV (aN N D) W
 rw [show (decide (aN N D=1))=false by simpa using hg] at c1
 have hgp:=oB (n:=N) (d:=D) (by omega)
 have hgs:=km hN hD
 have cv1:=fun W (hW:Below w.heap.size w W)=>GV N (aN N D) W hN hgs (by omega) (ht.next hW)
 have cv2:=fun W (hW:Below w.heap.size w W)=>GV D (aN N D) W hD hgs (by omega) (ht.next hW)
 have ct:=fun W (_:Below w.heap.size w W)=>qP (N.fdiv (aN N D)) (D.fdiv (aN N D)) W (GU hN (by omega)) (GU hD (by omega))
 clear hgp hgs
 have hT:(o=true∧aa (-n)=aa N∧aa (-d)=aa D)∨(o=false∧aa n=aa N∧aa d=aa D):=by
  rcases hS with ⟨h1,h2,h3⟩ | ⟨h1,h2,h3⟩
  ·exact .inl ⟨h1,by rw [h2],by rw [h3]⟩
  ·exact .inr ⟨h1,by rw [h2],by rw [h3]⟩
 have C:=Ha (Hb cf (Hb cn (Hb co1 (Hb co2 (Hb cg (Hb c1 (Hb cv1 (Hb cv2 ct))))))))
 clear cf cn co1 co2 cg c1 cv1 cv2 ct ht hn hd hN hD hs hg ho hS
 generalize gu (N.fdiv (aN N D)) (D.fdiv (aN N D))=res at *
 generalize aa (N.fdiv (aN N D))=qn at *
 generalize aa (D.fdiv (aN N D))=qd at *
 generalize aa (aN N D)=sg at *
 generalize aa (-n)=mn at *
 generalize aa (-d)=md at *
 generalize aa N=tn at *
 generalize aa D=td at *
 generalize aa n=sn at *
 generalize aa d=sd at *
 go_enter Tryz.func79,Tryz.ntmps79
 go_wp2_with fail
 have hb:BB w w.heap.size #[.string sn,.int .i64 0,.string sd,.int .i64 0] (w.alloc (.cells #[.string sn,.int .i64 0,.string sd,.int .i64 0] 119)):=BB.new w _ _
 generalize w.alloc (.cells #[.string sn,.int .i64 0,.string sd,.int .i64 0] 119)=W0 at *
 generalize hk:w.heap.size=k at *
 have HK:=Ha hk;clear hk
 have HB:=Ha hb;clear hb
 refine (C.out.1 _).mono ?_
 rintro e w1 ⟨rfl,b⟩
 have H1:=Ha (HB.out.next b);clear b HB
 have c0:=H1.out.blk.cell 0 (.string sn) rfl;have c1:=H1.out.blk.cell 1 (.int .i64 0) rfl;have c2:=H1.out.blk.cell 2 (.string sd) rfl;have c3:=H1.out.blk.cell 3 (.int .i64 0) rfl
 go_wp2_with fail
 refine (C.out.2.1 _).mono ?_
 rintro e w2 ⟨rfl,b⟩
 have H2:=Ha (H1.out.next b);clear b H1;have H1:=H2;clear H2
 clear c0 c1 c2 c3
 go_upto_if 14 with fail
 go_cut [] from 15 to 23 (fun wx=>BB w k #[.string tn,.int .i64 0,.string td,.int .i64 0] wx)
 case first =>
  rcases hT with ⟨rfl,rfl,rfl⟩ | ⟨rfl,rfl,rfl⟩
  ·have c0:=H1.out.blk.cell 0 (.string sn) rfl;have c1:=H1.out.blk.cell 1 (.int .i64 0) rfl;have c2:=H1.out.blk.cell 2 (.string sd) rfl;have c3:=H1.out.blk.cell 3 (.int .i64 0) rfl
   have f0:=H1.out.blk.free 0;have f1:=H1.out.blk.free 1;have f2:=H1.out.blk.free 2;have f3:=H1.out.blk.free 3
   go_wp2_with fail
   skip
   have HD:=Ha (H1.out.next (Below.refl _ _).drew);clear H1;have H1:=HD;clear HD
   have c0:=H1.out.blk.cell 0 (.string sn) rfl;have c1:=H1.out.blk.cell 1 (.int .i64 0) rfl;have c2:=H1.out.blk.cell 2 (.string sd) rfl;have c3:=H1.out.blk.cell 3 (.int .i64 0) rfl
   have f0:=H1.out.blk.free 0;have f1:=H1.out.blk.free 1;have f2:=H1.out.blk.free 2;have f3:=H1.out.blk.free 3
   go_region_with (first | (go_at_call 352;refine (C.out.2.2.1 _ (by have:=H1.out.below;rwa [HK.out] at this)).mono ?_;rintro e wr ⟨rfl,hbw⟩;have HN:=Ha (H1.out.next hbw);clear H1 hbw;have H1:=HN;clear HN;have c0:=H1.out.blk.cell 0 (.string sn) rfl;have c1:=H1.out.blk.cell 1 (.int .i64 0) rfl;have c2:=H1.out.blk.cell 2 (.string sd) rfl;have c3:=H1.out.blk.cell 3 (.int .i64 0) rfl;have f0:=H1.out.blk.free 0;have f1:=H1.out.blk.free 1;have f2:=H1.out.blk.free 2;have f3:=H1.out.blk.free 3) | (go_at_call 352;refine (C.out.2.2.2.1 _ (by have:=H1.out.below;rwa [HK.out] at this)).mono ?_;rintro e wr ⟨rfl,hbw⟩;have HN:=Ha (H1.out.next hbw);clear H1 hbw;have H1:=HN;clear HN;have c0:=H1.out.blk.cell 0 (.string sn) rfl;have c1:=H1.out.blk.cell 1 (.int .i64 0) rfl;have c2:=H1.out.blk.cell 2 (.string sd) rfl;have c3:=H1.out.blk.cell 3 (.int .i64 0) rfl;have f0:=H1.out.blk.free 0;have f1:=H1.out.blk.free 1;have f2:=H1.out.blk.free 2;have f3:=H1.out.blk.free 3))
   all_goals
    have HP:=Ha (H1.out.put4 (.string mn) (.int .i64 0) (.string md) (.int .i64 0))
    go_wp2_with fail
    go_meet
    exact HP.out
  ·go_wp2_with fail
   go_meet
   exact H1.out
 case rest =>
 clear H1
 have H1:=Ha hcut;clear hcut hT
 have c0:=H1.out.blk.cell 0 (.string tn) rfl;have c1:=H1.out.blk.cell 1 (.int .i64 0) rfl;have c2:=H1.out.blk.cell 2 (.string td) rfl;have c3:=H1.out.blk.cell 3 (.int .i64 0) rfl
 go_wp2_with fail
 refine (C.out.2.2.2.2.1 _ (by have:=H1.out.below;rwa [HK.out] at this)).mono ?_
 rintro e w3 ⟨rfl,b⟩
 have H2:=Ha (H1.out.next b);clear b H1;have H1:=H2;clear H2
 have c0:=H1.out.blk.cell 0 (.string tn) rfl;have c1:=H1.out.blk.cell 1 (.int .i64 0) rfl;have c2:=H1.out.blk.cell 2 (.string td) rfl;have c3:=H1.out.blk.cell 3 (.int .i64 0) rfl
 go_wp2_with fail
 have HM:=Ha (Blk.new w3 #[.string sg,.int .i64 0] 71)
 have H2:=Ha (H1.out.next ((Below.refl _ w3).alloc (Nat.le_refl _) (.cells #[.string sg,.int .i64 0] 71)))
 have hkj:k≠w3.heap.size:=by have:=H1.out.blk.lt;omega
 clear H1 c0 c1 c2 c3;have H1:=H2;clear H2
 generalize w3.alloc (.cells #[.string sg,.int .i64 0] 71)=w3' at *
 generalize w3.heap.size=j at *
 refine (C.out.2.2.2.2.2.1 _).mono ?_
 rintro e w4 ⟨rfl,b⟩
 have H2:=Ha (H1.out.next b);clear H1;have H1:=H2;clear H2
 have HM2:=Ha (HM.out.next b);clear HM b;have HM:=HM2;clear HM2
 have c0:=H1.out.blk.cell 0 (.string tn) rfl;have c1:=H1.out.blk.cell 1 (.int .i64 0) rfl;have c2:=H1.out.blk.cell 2 (.string td) rfl;have c3:=H1.out.blk.cell 3 (.int .i64 0) rfl
 have f0:=H1.out.blk.free 0;have f1:=H1.out.blk.free 1;have f2:=H1.out.blk.free 2;have f3:=H1.out.blk.free 3
 have m0:=HM.out.cell 0 (.string sg) rfl;have m1:=HM.out.cell 1 (.int .i64 0) rfl
 go_upto_region 8 with fail
 go_cut [] from 34 to 44 (fun wx=>BB w k #[.string qn,.int .i64 0,.string qd,.int .i64 0] wx)
 case first =>
  have HMN:=Ha (HM.out.next (Below.refl _ _).drew);clear HM;have HM:=HMN;clear HMN;have m0:=HM.out.cell 0 (.string sg) rfl;have m1:=HM.out.cell 1 (.int .i64 0) rfl
  have HD:=Ha (H1.out.next (Below.refl _ _).drew);clear H1;have H1:=HD;clear HD
  have c0:=H1.out.blk.cell 0 (.string tn) rfl;have c1:=H1.out.blk.cell 1 (.int .i64 0) rfl;have c2:=H1.out.blk.cell 2 (.string td) rfl;have c3:=H1.out.blk.cell 3 (.int .i64 0) rfl
  have f0:=H1.out.blk.free 0;have f1:=H1.out.blk.free 1;have f2:=H1.out.blk.free 2;have f3:=H1.out.blk.free 3
  go_region_with (first | (go_at_call 353;refine (C.out.2.2.2.2.2.2.1 _ (by have:=H1.out.below;rwa [HK.out] at this)).mono ?_;rintro e wr ⟨rfl,hbw⟩;have HMN:=Ha (HM.out.next hbw);clear HM;have HM:=HMN;clear HMN;have m0:=HM.out.cell 0 (.string sg) rfl;have m1:=HM.out.cell 1 (.int .i64 0) rfl;have HN:=Ha (H1.out.next hbw);clear H1 hbw;have H1:=HN;clear HN;have c0:=H1.out.blk.cell 0 (.string tn) rfl;have c1:=H1.out.blk.cell 1 (.int .i64 0) rfl;have c2:=H1.out.blk.cell 2 (.string td) rfl;have c3:=H1.out.blk.cell 3 (.int .i64 0) rfl;have f0:=H1.out.blk.free 0;have f1:=H1.out.blk.free 1;have f2:=H1.out.blk.free 2;have f3:=H1.out.blk.free 3) | (go_at_call 353;refine (C.out.2.2.2.2.2.2.2.1 _ (by have:=H1.out.below;rwa [HK.out] at this)).mono ?_;rintro e wr ⟨rfl,hbw⟩;have HMN:=Ha (HM.out.next hbw);clear HM;have HM:=HMN;clear HMN;have m0:=HM.out.cell 0 (.string sg) rfl;have m1:=HM.out.cell 1 (.int .i64 0) rfl;have HN:=Ha (H1.out.next hbw);clear H1 hbw;have H1:=HN;clear HN;have c0:=H1.out.blk.cell 0 (.string tn) rfl;have c1:=H1.out.blk.cell 1 (.int .i64 0) rfl;have c2:=H1.out.blk.cell 2 (.string td) rfl;have c3:=H1.out.blk.cell 3 (.int .i64 0) rfl;have f0:=H1.out.blk.free 0;have f1:=H1.out.blk.free 1;have f2:=H1.out.blk.free 2;have f3:=H1.out.blk.free 3))
  all_goals
   have HP:=Ha (H1.out.put4 (.string qn) (.int .i64 0) (.string qd) (.int .i64 0))
   go_wp2_with fail
   go_meet
   exact HP.out
 case rest =>
 clear H1 c0 c1 c2 c3 f0 f1 f2 f3 HM m0 m1
 have H1:=Ha hcut;clear hcut
 have c0:=H1.out.blk.cell 0 (.string qn) rfl;have c1:=H1.out.blk.cell 1 (.int .i64 0) rfl;have c2:=H1.out.blk.cell 2 (.string qd) rfl;have c3:=H1.out.blk.cell 3 (.int .i64 0) rfl
 go_wp2_with fail
 refine (C.out.2.2.2.2.2.2.2.2 _ (by have:=H1.out.below;rwa [HK.out] at this)).mono ?_
 rintro e w5 ⟨rfl,b⟩
 have H2:=Ha (H1.out.below.trans (b.mono H1.out.below.size))
 clear b c0 c1 c2 c3
 go_wp2
 go_ret2
 exact ⟨rfl,by have:=H2.out;rwa [HK.out] at this ⊢⟩
def GR:Option Int→Option Int→ByteArray
 | some n,some d=>af (Rat.divInt n d)
 | _,_=>⟨#[]⟩
def GQ:Option Int→Option Int→Int
 | some _,some _=>0
 | _,_=>4
theorem jh (o p:Option Int) (w:World) (ho:Lwf o) (hp:Lwf p) (h0:p≠some 0) (ht:Tab w) :
  Calls Tryz.prog 79 #[.agg #[.string (LB o),.int .i64 (LE o),.string (LB p),.int .i64 (LE p)]] w fun e W'=>e = .returned (.tuple #[.string (GR o p),.int .i64 (GQ o p)])∧Below w.heap.size w W':=by
 cases o with
 | none=>exact mT none p w (.inl rfl)
 | some n =>
  cases p with
  | none=>exact mT (some n) none w (.inr rfl)
  | some d =>
   have hn:=ho n rfl
   have hd:=hp d rfl
   have hz:d≠0:=fun e=>h0 (by rw [e])
   show Calls _ _ _ _ (fun e W'=>e = .returned (.tuple #[.string (af (Rat.divInt n d)),.int .i64 0])∧_)
   have key:∀ (N D:Int) (o:Bool),short N→short D→0<D→decide (d<0)=o→((o=true∧N = -n∧D = -d)∨(o=false∧N=n∧D=d))→Calls Tryz.prog 79 #[.agg #[.string (aa n),.int .i64 0,.string (aa d),.int .i64 0]] w fun e W'=>e = .returned (.tuple #[.string (af (Rat.divInt N D)),.int .i64 0])∧Below w.heap.size w W':=by
    intro N D o hN hD hs ho hS
    by_cases hg:aN N D=1
    ·have c:=tU n d N D o w hn hd hN hD hs ho hS hg ht
     rw [AF hs hg] at c;exact c
    ·have c:=tX n d N D o w hn hd hN hD hs ho hS hg ht
     rw [F0 hs] at c;exact c
   rcases Int.lt_or_gt_of_ne hz with hs | hs
   ·have c:=key (-n) (-d) true (l7 hn) (l7 hd) (by omega) (decide_eq_true hs) (.inl ⟨rfl,rfl,rfl⟩)
    rw [Rat.neg_divInt_neg] at c;exact c
   ·exact key n d false hn hd hs (decide_eq_false (by omega)) (.inr ⟨rfl,rfl,rfl⟩)
end
end Go.Proofs.YtbhbhlfkdlfimaaGreatDoor
