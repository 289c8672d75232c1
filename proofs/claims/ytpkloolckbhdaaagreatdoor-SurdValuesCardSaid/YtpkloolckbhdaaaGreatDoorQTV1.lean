/- Parts of the proof of the text YtpkloolckbhdaaaGreatDoorQTV6. -/
import Derived.Test.YtpkloolckbhdaaaGreatDoorQT1
import Derived.Test.YtpkloolckbhdaaaGreatDoorQT38
set_option linter.all false
set_option maxRecDepth 100000
set_option maxHeartbeats 8000000
namespace Go.Proofs.YtpkloolckbhdaaaGreatDoor.T
open Go.Proofs.YtpkloolckbhdaaaGreatDoor Go Go.RowKit Go.WideShapes
structure Wf8 (A C E B D F N M:Int):Prop where
 a:(Lit.int .i8 A).wf=true
 c:(Lit.int .i8 C).wf=true
 e:(Lit.int .i8 E).wf=true
 b:(Lit.int .u8 B).wf=true
 d:(Lit.int .u8 D).wf=true
 f:(Lit.int .u8 F).wf=true
 n:(Lit.int .u8 N).wf=true
 m:(Lit.int .u8 M).wf=true
theorem cells_i8:Tryz.prog.cellsOf 37=1:=by kernel_rfl
theorem cells_u8:Tryz.prog.cellsOf 5=1:=by kernel_rfl
theorem cells_small:Tryz.prog.cellsOf 39=8:=by kernel_rfl
theorem open_small {H:Type} {enc:TypeId × Value→H} {w:World} {base:Nat} {sp:Nat→Bool} {held:Bool} {r:Reach} {b0:Nat} {v:Value} {d:DataW H} {ps:List MemPlace}
  (hval:Value.okWide Tryz.prog w r b0 39 v) (hd:DataW.Trod enc Tryz.prog w base sp held 39 v d ps) :
  ∃ A C E B D F N M:Int,v = .agg #[.int .i8 A,.int .i8 C,.int .i8 E,.int .u8 B,.int .u8 D,.int .u8 F,.int .u8 N,.int .u8 M]∧ps = []∧Wf8 A C E B D F N M:=by
 obtain ⟨cs,rfl,hsz⟩:=okWide_struct Tryz.underlying39 hval
 rw [cells_small] at hsz
 obtain ⟨fuel,hy⟩:=hd
 obtain ⟨ys,m,_,hx,_,hlen,hf⟩:=DataW.trod_struct Tryz.underlying39 hy
 obtain ⟨l,hl⟩:∃ l,l=cs.toList:=⟨_,rfl⟩
 have hl8:l.length=8:=by rw [hl,Array.length_toList];exact hsz
 have e:(Value.agg cs).cells.toList=l:=hl.symm
 rw [e] at hf
 have hc:cs=l.toArray:=by rw [hl]
 match l,hl8,ys,hlen with
 | [a0,a1,a2,a3,a4,a5,a6,a7],_,[y0,y1,y2,y3,y4,y5,y6,y7],_ =>
  have h0:=hf 0 _ rfl
  have h1:=hf 1 _ rfl
  have h2:=hf 2 _ rfl
  have h3:=hf 3 _ rfl
  have h4:=hf 4 _ rfl
  have h5:=hf 5 _ rfl
  have h6:=hf 6 _ rfl
  have h7:=hf 7 _ rfl
  simp [cells_i8,cells_u8] at h0 h1 h2 h3 h4 h5 h6 h7
  obtain ⟨A,e0,x0,s0⟩:=DataW.trod_int Tryz.underlying37 h0
  obtain ⟨C,e1,x1,s1⟩:=DataW.trod_int Tryz.underlying37 h1
  obtain ⟨E,e2,x2,s2⟩:=DataW.trod_int Tryz.underlying37 h2
  obtain ⟨B,e3,x3,s3⟩:=DataW.trod_int Tryz.underlying5 h3
  obtain ⟨D,e4,x4,s4⟩:=DataW.trod_int Tryz.underlying5 h4
  obtain ⟨F,e5,x5,s5⟩:=DataW.trod_int Tryz.underlying5 h5
  obtain ⟨N,e6,x6,s6⟩:=DataW.trod_int Tryz.underlying5 h6
  obtain ⟨M,e7,x7,s7⟩:=DataW.trod_int Tryz.underlying5 h7
  refine ⟨A,C,E,B,D,F,N,M,?_,?_,⟨s0,s1,s2,s3,s4,s5,s6,s7⟩⟩
  ·rw [hc]
   simp at e0 e1 e2 e3 e4 e5 e6 e7
   rw [e0,e1,e2,e3,e4,e5,e6,e7]
  ·have:=congrArg Prod.snd hx
   rw [show (d,ps).2=ps from rfl] at this
   rw [this,x0,x1,x2,x3,x4,x5,x6,x7];rfl
theorem bd_i8 {n:Int} (h:(Lit.int .i8 n).wf=true) : -128≤n∧n≤127:=by
 simpa [Lit.wf,IntKind.min,IntKind.max,IntKind.signed,IntKind.bits] using h
theorem bd_u8 {n:Int} (h:(Lit.int .u8 n).wf=true):∃ k:Nat,n=k∧k≤255:=by
 have:0≤n∧n≤255:=by simpa [Lit.wf,IntKind.min,IntKind.max,IntKind.signed,IntKind.bits] using h
 exact ⟨n.toNat,by omega,by omega⟩
theorem Wf8.sp {A C E B D F N M:Int} (h:Wf8 A C E B D F N M):∃ B' D' F' N' M':Nat,B=B'∧D=D'∧F=F'∧N=N'∧M=M'∧Sp A C E B' D' F' N' M':=by
 obtain ⟨B',eB,lB⟩:=bd_u8 h.b
 obtain ⟨D',eD,lD⟩:=bd_u8 h.d
 obtain ⟨F',eF,lF⟩:=bd_u8 h.f
 obtain ⟨N',eN,lN⟩:=bd_u8 h.n
 obtain ⟨M',eM,lM⟩:=bd_u8 h.m
 exact ⟨B',D',F',N',M',eB,eD,eF,eN,eM,bd_i8 h.a,bd_i8 h.c,bd_i8 h.e,⟨lB,lD,lF⟩,lN,lM⟩
end Go.Proofs.YtpkloolckbhdaaaGreatDoor.T
namespace Go.Proofs.YtpkloolckbhdaaaGreatDoor.T
open Go.Proofs.YtpkloolckbhdaaaGreatDoor Go Go.RowKit
theorem laidOut4:laidOutB Tryz.prog=true:=by kernel_rfl
theorem vI_yes {l:List Tm} (h:vI l=true):∃ x:Rat,vS l=strQ x∧(l = []∧x=0∨l = [(x,1)]):=by
 match l,h with
 | [],_=>exact ⟨0,by rw [strQ_zero];rfl,.inl ⟨rfl,rfl⟩⟩
 | [t],h =>
  have e:t.2=1:=by simpa [vI] using h
  exact ⟨t.1,by simp [vS,e],.inr (by rw [←e])⟩
theorem vI_no {l:List Tm} (hg:Good l) (h:vI l=false):vS l=⟨#[]⟩∧0<l.length∧(tat l (l.length - 1)).2≠1:=by
 match l,hg,h with
 | [t],_,h =>
  have e:t.2≠1:=by simpa [vI] using h
  exact ⟨by simp [vS,e],by simp,e⟩
 | t::s::r,hg,_ =>
  refine ⟨rfl,by simp,fun e => ?_⟩
  have hl:(t::s::r).length - 1<(t::s::r).length:=by simp
  have h0:0<(t::s::r).length:=by simp
  have a:=List.pairwise_iff_getElem.1 hg.asc 0 ((t::s::r).length - 1) h0 hl (by simp)
  rw [←tat_get hl,e] at a
  obtain ⟨_,_,b,eb,nb,_⟩:=hg.ok t List.mem_cons_self
  have b1:(1:Rat)≤(b:Rat):=by
   have:=Rat.natCast_le_natCast (a:=1) (b:=b)
   exact this.2 nb.1
  have:t.2<1:=a
  rw [eb] at this
  grind
theorem one_gd {x:Rat} {D M:Nat} (hD:0<D) (h:J D M x) (h1:M<tenTo 60) (h2:D<tenTo 60):Gd [(x,(1:Rat))]∧∀ r,r.Perm (T.fin [(x,(1:Rat))])→Good r→r=if x=0 then [] else [(x,1)]:=by
 have ns:∀ t ∈ [(x,(1:Rat))],Ns D M 1 t:=fun t ht=>by obtain rfl:=List.mem_singleton.1 ht;exact ⟨h,1,rfl,by decide⟩
 have cl:Cl [1] [(x,(1:Rat))]:=fun t ht _=>by obtain rfl:=List.mem_singleton.1 ht;exact ⟨1,by simp,Rl.refl _⟩
 have gd:=gd_raw (k:=1) ns hD (by decide) (Nat.le_refl 1) (by decide) (by decide+kernel) (by simpa using h1) (by simpa using h2) cl (by simp)
 refine ⟨gd,fun r hp hg => ?_⟩
 have ok:=Ok.fin (Ln:=1) ns (Nat.le_refl 1) (fun t ht=>(ns t ht).r) (fun _ _=>rfl) gd cl hp
 refine one_only ok.red (fun t ht=>by obtain ⟨q,e,nq,_⟩:=ok.rt t ht;exact ⟨q,e,nq⟩) (fun t ht=>(hg.ok t ht).1) fun m hm => ?_
 rw [ok.vl m hm]
 show co m (x,1)+0=_
 rw [Rat.add_zero]
theorem val_make {C:List Rat} {L l:List Tm} {x:Rat} (o:Ok D0 M0 255 3 C L l) (hl:l = []∧x=0∨l = [(x,1)]):(Gd [(x,(1:Rat))]∧∀ r,r.Perm (T.fin [(x,(1:Rat))])→Good r→r=l∨x=0∧r = [])∧Bq 60 x:=by
 have hj:J (D0*1) (3*(M0*(255*1))) x:=by
  rcases hl with ⟨_,rfl⟩ | rfl
  ·exact J.zero _ _
  ·obtain ⟨b,e,nb,lb,j⟩:=o.J (t:=(x,1)) List.mem_cons_self
   have e1:(1:Rat)=(b:Rat):=e
   have:b=1:=(Rat.natCast_inj.1 (show ((1:Nat):Rat)=(b:Rat) from e1)).symm
   subst this
   exact j
 obtain ⟨gd,hr⟩:=one_gd (by decide) hj (by decide+kernel) (by decide+kernel)
 refine ⟨⟨gd,fun r hp hg => ?_⟩,hj.bq (by decide) (by decide+kernel) (by decide+kernel)⟩
 have:=hr r hp hg
 by_cases z:x=0
 ·rw [if_pos z] at this;exact .inr ⟨z,this⟩
 ·rw [if_neg z] at this
  rcases hl with ⟨_,e⟩ | e
  ·exact absurd e z
  ·exact .inl (by rw [this,e])
theorem val_own {C:List Rat} {L l:List Tm} {x:Rat} (W:World) (b:Nat) (v:Value) (sx:ByteArray) (hs:Sv W l v) (o:Ok D0 M0 255 3 C L l) (hC:C.length≤16) (hl:l = []∧x=0∨l = [(x,1)]) (hx:strQ x=sx) (h:Blk W b #[.string sx,.string ⟨#[49]⟩]) (ht:Tab W) (ht2:Tab64 W) (hS:Sm W) :
  Calls Tryz.prog 27 #[.slice (some ⟨b,0,none⟩) 1 1] W fun e W'=>∃ u,e = .returned (.tuple #[u,.int .i64 0])∧(∀ W2,Below W'.heap.size W' W2→Tab W2→Tab64 W2→Sm W2→Calls Tryz.prog 21 #[u,v] W2 fun e W'=>e = .returned (.bool true)∧Below W2.heap.size W2 W')∧Below W.heap.size W W':=by
 rw [←hx,←sq1] at h
 obtain ⟨⟨gd,hr⟩,bx⟩:=val_make o hl
 refine (Make_ok [(x,(1:Rat))] b 1 W (Tl.lit1 x 1 h) gd (fun t ht => ?_) ht ht2 hS).mono fun e W' ⟨p,n,c,r,e1,hp,hs',hb⟩=>⟨_,e1,fun W2 h2 t1 t2 t3 => ?_,hb⟩
 ·obtain rfl:=List.mem_singleton.1 ht
  exact ⟨bx,Bq_one.up (by decide)⟩
 ·have e:r=l:=by
   rcases hr r hp hs'.good with e | ⟨z,e⟩
   ·exact e
   ·rcases hl with ⟨e2,_⟩ | e2
    ·rw [e,e2]
    ·exfalso
     obtain ⟨_,_,_,_,sl⟩:=hs
     exact (sl.good.ok (x,1) (by rw [e2];exact List.mem_cons_self)).1 z
  subst e
  obtain ⟨p',n',c',rfl,sl⟩:=hs
  obtain ⟨gd2,_⟩:=o.add o.neg nb3 (by decide+kernel) hC (o.cl.both o.neg.cl)
  exact equal_ok r r p p' n n' c c' W2 (hs'.next h2) (sl.next (hb.trans (h2.mono hb.size))) gd2 (fun _ _=>rfl) t1 t2 t3
theorem SurdValues_main (A C E:Int) (B D F N M:Nat) (w:World) (s1:Sp A C E B D F N M) (ht:Tab w) (ht2:Tab64 w) (hS:Sm w) :
  Calls Tryz.prog 8 #[.agg #[.int .i8 A,.int .i8 C,.int .i8 E,.int .u8 B,.int .u8 D,.int .u8 F,.int .u8 N,.int .u8 M]] w fun e W'=>e = .returned (.bool true)∧Below w.heap.size w W':=by
 have T:=Lib.hid (fun W (h:Below w.heap.size w W)=>And.intro (ht.next h) (And.intro (TabQ_next ht2 h) (hS.next h)));clear ht ht2 hS
 have S1:=Lib.hid s1;clear s1
 have HB:=Lib.hid ((Below.refl _ w).alloc (Nat.le_refl _) (.cells #[.int .i8 A,.int .i8 C,.int .i8 E,.int .u8 B,.int .u8 D,.int .u8 F,.int .u8 N,.int .u8 M] 39))
 go_enter Tryz.func8,Tryz.ntmps8
 go_wp2_with fail
 generalize w.alloc (.cells #[.int .i8 A,.int .i8 C,.int .i8 E,.int .u8 B,.int .u8 D,.int .u8 F,.int .u8 N,.int .u8 M] 39)=W0 at *
 refine (of_sv A C E B D F N M _ S1.out (T.out _ HB.out).1 (T.out _ HB.out).2.1 (T.out _ HB.out).2.2).mono ?_
 rintro e W ⟨v,rfl,s,b⟩
 have HN:=Lib.hid (HB.out.trans (b.mono HB.out.size))
 have O:=Lib.hid (s)
 clear s
 clear HB b;have HB:=HN;clear HN
 obtain ⟨l,⟨p,n,c,rfl,hs⟩,ho⟩:=O.out
 have hln:=hs.sr.1
 have hlc:=hs.sr.2.1
 have HV:=Lib.hid (fun t1 t2 t3=>Value_ok l p n c W hs t1 t2 t3)
 have HS:=Lib.hid hs
 have HO:=Lib.hid ho
 have hat:=hs.at
 clear O hs ho S1
 cases hvi:vI l
 ·obtain ⟨e1,e2,e3⟩:=vI_no HS.out.good hvi
  obtain ⟨bb,eb,tb⟩:=hat
  have n0:0<n:=by omega
  obtain rfl:=eb n0
  have hc0:=(tb n0).c1 (n - 1) (by omega)
  have hbb:=(tb n0).lt
  have hr1:((strQ (tat l (n - 1)).2).toList == [49])=false:=by
   rw [is1Q,hln];exact decide_eq_false e3
  generalize strQ (tat l (n - 1)).2=sr at *
  have hv2:=HV.out
  rw [hvi,e1] at hv2
  have HV2:=Lib.hid hv2
  have h16:=HS.out.le
  obtain ⟨j,hj⟩:∃ j:Nat,n=j+1:=⟨n - 1,by omega⟩
  have j16:(j:Int)≤100:=by omega
  have j17:(0:Int)≤j:=by omega
  have hjc:(j:Int)+1≤c:=by omega
  rw [show n - 1=j by omega] at hc0
  clear hv2 HV HS HO hvi e1 e2 e3 tb eb hln hlc n0 h16
  subst hj
  have BB:=Lib.hid hbb
  have C0:=Lib.hid hc0
  clear hc0 hbb
  go_wp2_with fail
  refine (HV2.out (T.out _ HB.out).1 (T.out _ HB.out).2.1 (T.out _ HB.out).2.2).mono ?_
  rintro e W ⟨rfl,b⟩
  have HN:=Lib.hid (HB.out.trans (b.mono HB.out.size))
  have C1:=Lib.hid ((b.cell (p:=⟨bb,j*2+1,none⟩) BB.out).trans C0.out)
  clear HB b;have HB:=HN;clear HN C0 HV2 BB
  have c1:=C1.out
  have hr2:(sr.toList != [49])=true:=by rw [bne,hr1];rfl
  go_wp2_with fail
  refine (awake4_any _ (T.out _ HB.out).1 (T.out _ HB.out).2.1 (T.out _ HB.out).2.2).mono ?_
  rintro e W ⟨rfl,b⟩
  have HN:=Lib.hid (HB.out.trans (b.mono HB.out.size))
  clear HB b;have HB:=HN;clear HN
  go_wp2
  go_ret
  exact ⟨rfl,HB.out⟩
 ·obtain ⟨x,ex,hl⟩:=vI_yes hvi
  have n1:n≤1:=by
   rcases hl with ⟨e,_⟩ | e <;> rw [e] at hln <;> simp at hln <;> omega
  have hv2:=HV.out
  rw [hvi,ex] at hv2
  have HV2:=Lib.hid hv2
  have HX:=Lib.hid (And.intro ex hl)
  have SV:=Lib.hid (show Sv W l (.slice p n c) from ⟨p,n,c,rfl,HS.out⟩)
  have y1:(n:Int)≤1:=by omega
  have H16:=Lib.hid (show (cls N M).length≤16 from (by decide:3≤16))
  clear hv2 HV HS hvi ex hl hln hlc hat n1
  obtain ⟨sx,hsx⟩:∃ sx,sx=strQ x:=⟨_,rfl⟩
  rw [←hsx] at HV2
  have HSX:=Lib.hid hsx.symm;clear hsx
  go_wp2_with fail
  refine (HV2.out (T.out _ HB.out).1 (T.out _ HB.out).2.1 (T.out _ HB.out).2.2).mono ?_
  rintro e W ⟨rfl,b⟩
  have HN:=Lib.hid (HB.out.trans (b.mono HB.out.size))
  have SV':=Lib.hid (SV.out.next b);clear SV;have SV:=SV';clear SV'
  clear HB b;have HB:=HN;clear HN
  clear HV2
  go_wp2_with fail
  have K:=Lib.hid (Blk.new W #[.string sx,.string ⟨#[49]⟩] 60)
  have SV':=Lib.hid (SV.out.next ((Below.refl _ W).alloc (Nat.le_refl _) (.cells #[.string sx,.string ⟨#[49]⟩] 60)));clear SV;have SV:=SV';clear SV'
  have HN:=Lib.hid (HB.out.alloc HB.out.size (.cells #[.string sx,.string ⟨#[49]⟩] 60));clear HB;have HB:=HN;clear HN
  generalize W.alloc (.cells #[.string sx,.string ⟨#[49]⟩] 60)=W5 at *
  generalize W.heap.size=kt at *
  refine (val_own _ _ _ sx SV.out HO.out H16.out HX.out.2 HSX.out K.out (T.out _ HB.out).1 (T.out _ HB.out).2.1 (T.out _ HB.out).2.2).mono ?_
  rintro e W ⟨u,rfl,q,b⟩
  have HN:=Lib.hid (HB.out.trans (b.mono HB.out.size))
  clear HB b;have HB:=HN;clear HN
  have EQ:=Lib.hid q;clear q K SV
  go_wp2_with fail
  refine (EQ.out _ (Below.refl _ _) (T.out _ HB.out).1 (T.out _ HB.out).2.1 (T.out _ HB.out).2.2).mono ?_
  rintro e W ⟨rfl,b⟩
  have HN:=Lib.hid (HB.out.trans (b.mono HB.out.size))
  clear HB b;have HB:=HN;clear HN
  clear EQ
  go_wp2_with fail
  refine (awake4_any _ (T.out _ HB.out).1 (T.out _ HB.out).2.1 (T.out _ HB.out).2.2).mono ?_
  rintro e W ⟨rfl,b⟩
  have HN:=Lib.hid (HB.out.trans (b.mono HB.out.size))
  clear HB b;have HB:=HN;clear HN
  go_wp2
  go_ret
  exact ⟨rfl,HB.out⟩
theorem SurdValues_any {A C E B D F N M:Int} (w:World) (z:Wf8 A C E B D F N M) (ht:Tab w) (ht2:Tab64 w) (hS:Sm w) :
  Calls Tryz.prog 8 #[.agg #[.int .i8 A,.int .i8 C,.int .i8 E,.int .u8 B,.int .u8 D,.int .u8 F,.int .u8 N,.int .u8 M]] w fun e W'=>e = .returned (.bool true)∧Below w.heap.size w W':=by
 obtain ⟨B',D',F',N',M',rfl,rfl,rfl,rfl,rfl,s⟩:=z.sp
 exact SurdValues_main A C E B' D' F' N' M' w s ht ht2 hS
end Go.Proofs.YtpkloolckbhdaaaGreatDoor.T
