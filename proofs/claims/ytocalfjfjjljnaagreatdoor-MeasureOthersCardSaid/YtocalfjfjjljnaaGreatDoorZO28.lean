/- Parts of the proof of the text YtocalfjfjjljnaaGreatDoorZO44. -/
import Derived.Laws.AppendOwnNone
import Derived.Test.YtocalfjfjjljnaaGreatDoorZO1
import Derived.Test.YtocalfjfjjljnaaGreatDoorZO27
import Derived.Test.YtocalfjfjjljnaaGreatDoorZO9
set_option linter.all false
set_option maxRecDepth 100000
set_option maxHeartbeats 8000000
namespace Go.Proofs.YtocalfjfjjljnaaGreatDoor
namespace R
open Go.RowKit
theorem Ct {b R n:Nat} (hlb:(dg b).length=n+2) (hR:R<B*b) :
  (((dg R).getD (n+2) 0*1000000+(dg R).getD (n+1) 0)*1000000+(dg R).getD n 0) / ((dg b).getD (n+1) 0*1000000+(dg b).getD n 0+1)*b≤R ∧
  (((dg R).getD (n+2) 0*1000000+(dg R).getD (n+1) 0)*1000000+(dg R).getD n 0) / ((dg b).getD (n+1) 0*1000000+(dg b).getD n 0+1)<1000000:=by
 have hb:b<B ^ (n+2):=(an b (n+2)).1 (by omega)
 have hR2:R<B ^ (n+3):=by
  have:B*b≤B*B ^ (n+2):=Nat.mul_le_mul_left _ (Nat.le_of_lt hb)
  rw [Nat.mul_comm B (B ^ (n+2))] at this
  have e:B ^ (n+3)=B ^ (n+2)*B:=Nat.pow_succ _ _
  omega
 have e2:(dg R).getD (n+2) 0=R / B ^ n / B / B:=by
  rw [dt,Nat.pow_succ,Nat.pow_succ,Nat.mul_assoc,←Nat.div_div_eq_div_mul,←Nat.div_div_eq_div_mul]
  refine Nat.mod_eq_of_lt ?_
  rw [Nat.div_lt_iff_lt_mul cS,Nat.div_lt_iff_lt_mul cS,Nat.div_lt_iff_lt_mul (Nat.pow_pos cS)]
  have:B*B*B*B ^ n=B ^ (n+3):=by rw [Nat.pow_succ,Nat.pow_succ,Nat.pow_succ];grind
  omega
 have e1:(dg R).getD (n+1) 0=R / B ^ n / B % B:=by
  rw [dt,Nat.pow_succ,←Nat.div_div_eq_div_mul]
 have e0:(dg R).getD n 0=R / B ^ n % B:=dt R n
 have f1:(dg b).getD (n+1) 0=b / B ^ n / B:=by
  rw [dt,Nat.pow_succ,←Nat.div_div_eq_div_mul]
  refine Nat.mod_eq_of_lt ?_
  rw [Nat.div_lt_iff_lt_mul cS,Nat.div_lt_iff_lt_mul (Nat.pow_pos cS)]
  have:B*B*B ^ n=B ^ (n+2):=by rw [Nat.pow_succ,Nat.pow_succ];grind
  omega
 have f0:(dg b).getD n 0=b / B ^ n % B:=dt b n
 rw [e2,e1,e0,f1,f0]
 have kX:∀ X:Nat,(X / B / B*1000000+X / B % B)*1000000+X % B=X:=fun X=>by
  show (X / 1000000 / 1000000*1000000+X / 1000000 % 1000000)*1000000+X % 1000000=X
  omega
 have kY:∀ X:Nat,X / B*1000000+X % B=X:=fun X=>by
  show X / 1000000*1000000+X % 1000000=X
  omega
 have hX:=kX (R / B ^ n)
 have hY:=kY (b / B ^ n)
 rw [hX,hY]
 have hlow:=Nat.mod_lt b (show 0<B ^ n from Nat.pow_pos cS)
 have hbm:=Nat.mod_add_div b (B ^ n)
 have hRd:R / B ^ n*B ^ n≤R:=Nat.div_mul_le_self _ _
 generalize R / B ^ n=X at *
 generalize b / B ^ n=Y at *
 have hb2:b≤(Y+1)*B ^ n:=by rw [Nat.add_mul,Nat.one_mul,Nat.mul_comm Y];omega
 have hg:X / (Y+1)*(Y+1)≤X:=Nat.div_mul_le_self _ _
 generalize X / (Y+1)=g at *
 have h1:g*b≤g*((Y+1)*B ^ n):=Nat.mul_le_mul_left _ hb2
 have h2:g*(Y+1)*B ^ n≤X*B ^ n:=Nat.mul_le_mul_right _ hg
 rw [←Nat.mul_assoc] at h1
 have h3:g*b≤R:=by omega
 refine ⟨h3,?_⟩
 apply Decidable.byContradiction
 intro hc
 have:B*b≤g*b:=Nat.mul_le_mul_right _ (by rw [dS];omega)
 omega
theorem Ap {g M:Nat} (h:g+1≤M):M - (intOf (.int .i64 ((g:Int)+1))).toNat<M - (intOf (.int .i64 (g:Int))).toNat:=by
 simp only [intOf];omega
structure DS (w:World) (base gq:Nat) (o:List Nat) (v:Value) (r:Nat) (wr:World):Prop where
 row:Row wr gq o
 nat:IsNat wr v r
 fr:Fresh (gq+1) v
 bel:Below base w wr
 hb:base≤gq
theorem DS.next {w:World} {base gq:Nat} {o:List Nat} {v:Value} {r:Nat} {wr W:World} (h:DS w base gq o v r wr) (hb:Below wr.heap.size wr W):DS w base gq o v r W:=by
 have hl:=h.row.lt
 exact ⟨(hb.block gq hl).trans h.row,h.nat.next hb,h.fr,h.bel.trans (hb.mono (by have:=h.hb;omega)),h.hb⟩
theorem DS.rest {w:World} {base gq:Nat} {o:List Nat} {v v':Value} {r r':Nat} {wr:World} (h:DS w base gq o v r wr) (h1:IsNat wr v' r') (h2:Fresh (gq+1) v'):DS w base gq o v' r' wr :=
 ⟨h.row,h1,h2,h.bel,h.hb⟩
theorem DS.set {w:World} {base gq:Nat} {o:List Nat} {v:Value} {r:Nat} {wr:World} (h:DS w base gq o v r wr) (i x:Nat):DS w base gq (o.set i x) v r (wr.setCell ⟨gq,i,none⟩ (.int .i64 (x:Nat))) :=
 ⟨h.row.set i x,h.nat.setCell h.fr (by show gq<gq+1;omega) _,h.fr,h.bel.setCell (p:=⟨gq,i,none⟩) h.hb _,h.hb⟩
theorem i8 {l:List Nat} {j:Nat} {u:Value} (h:(ae l)[j]? = some u):j<l.length∧some (Value.int .i64 (l.getD j 0:Nat))=some u:=by
 have hj:j<l.length:=by
  have:=(List.getElem?_eq_some_iff.1 h).1
  simpa [ae] using this
 refine ⟨hj,?_⟩
 rw [←h]
 simp [ae,hj]
theorem addr_add (b off j:Nat):(⟨b,off,none⟩:Addr).add j=⟨b,off+j,none⟩:=by unfold Addr.add;split <;> simp_all
theorem ww {w:World} {b off n cap:Nat} {l:List Nat} (h:Nats w (.slice (some ⟨b,off,none⟩) n cap) l):∀ j u,(ae l)[j]? = some u→w.cell? ((⟨b,off,none⟩:Addr).add j)=some u:=by
 intro j u hu
 obtain ⟨hj,e⟩:=i8 hu
 obtain ⟨p',cap',he,h1,h2,h3⟩:=h
 obtain ⟨b',off',e',hc⟩:=h3 (by intro e;rw [e] at hj;simp at hj)
 simp only [Value.slice.injEq] at he
 have e2:=he.1.trans e'
 simp only [Option.some.injEq,Addr.mk.injEq,and_true] at e2
 obtain ⟨rfl,rfl⟩:=e2
 rw [←e]
 rw [addr_add]
 exact hc j hj
theorem cells_one (l:List Nat):∀ u∈ae l,u.oneCell'=true:=by
 intro u hu
 obtain ⟨x,_,rfl⟩:=List.mem_map.1 hu
 rfl
theorem rZ (va vb:Value) (a b n:Nat) (w:World) (ha:IsNat w va a) (hb:IsNat w vb b) (hlb:(dg b).length=n+2) (hla:(dg a).length≤50000) (hn:n≤50000) :
  Calls Tryz.prog 104 #[va,vb] w fun e W'=>∃ q r,e = .returned (.tuple #[q,r])∧IsNat W' q (a / b)∧IsNat W' r (a % b)∧Fresh w.heap.size q∧Fresh w.heap.size r∧Below w.heap.size w W':=by
 obtain ⟨i0,hi,hz0,hz1,hz2⟩:=info_parts io
 have HI:=Ha (Hb hi (Hb hz0 (Hb hz1 hz2)));clear hi hz0 hz1 hz2
 have HB:=Ha hb
 have HA:=Ha ha
 obtain ⟨pa,ca,rfl⟩:=ha.shape
 obtain ⟨pb,cb,rfl⟩:=hb.shape
 have hcells:∃ bb off,pb=some ⟨bb,off,none⟩∧w.cell? ⟨bb,off+(n+1),none⟩=some (.int .i64 ((dg b).getD (n+1) 0:Nat))∧w.cell? ⟨bb,off+n,none⟩=some (.int .i64 ((dg b).getD n 0:Nat)):=by
  obtain ⟨p',cap',he,h1,h2,h3⟩:=hb
  obtain ⟨bb,off,e,hc⟩:=h3 (by intro e;rw [e] at hlb;simp at hlb)
  simp only [Value.slice.injEq] at he
  exact ⟨bb,off,he.1.trans e,hc (n+1) (by omega),hc n (by omega)⟩
 obtain ⟨bb,off,rfl,hc1,hc0⟩:=hcells
 have HLB:=Ha hlb
 have t1:=(aq b).getD (n+1)
 have t0:=(aq b).getD n
 have EST:=Ha (fun R (h:R<B*b)=>Ct (R:=R) hlb h)
 rw [hlb] at HB ⊢
 have hn1:(((n+2:Nat):Int)==1)=false:=by rw [beq_eq_false_iff_ne];omega
 have j1:((n+2:Nat):Int) - 1=((n+1:Nat):Int):=by omega
 have j0:((n+2:Nat):Int) - 2=((n:Nat):Int):=by omega
 have x1:((n+1:Nat):Int)<((n+2:Nat):Int):=by omega
 have x0:((n:Nat):Int)<((n+2:Nat):Int):=by omega
 have hb0:0<b:=by
  rcases Nat.eq_zero_or_pos b with h | h
  ·rw [h,av] at hlb;simp at hlb
  ·exact h
 generalize (dg b).getD (n+1) 0=bt at *
 generalize (dg b).getD n 0=bs at *
 obtain ⟨T,hT⟩:∃ T,bt*1000000+bs=T:=⟨_,rfl⟩
 rw [hT] at EST
 have eT:(bt:Int)*1000000+(bs:Int)=(T:Int):=by omega
 have hT12:T<1000000000000:=by omega
 clear ha hb hlb hT
 obtain ⟨L,hL⟩:∃ L,n+2=L:=⟨_,rfl⟩
 obtain ⟨N1,hN1⟩:∃ L,n+1=L:=⟨_,rfl⟩
 rw [hL] at hn1 j1 j0 x1 x0 HB ⊢
 rw [hN1] at j1 x1 hc1
 have HL:=Ha (Hb hL hN1)
 have hLb:L≤50002:=by omega
 clear hL hN1
 obtain ⟨la,hla'⟩:∃ la,(dg a).length=la:=⟨_,rfl⟩
 have HLA:=Ha hla'
 rw [hla'] at HA hla ⊢
 clear hla'
 go_enter Tryz.func104,Tryz.ntmps104
 go_wp2
 go_quiet (fail)
 have HQ:=Ha (Below.drewK w.heap.size w nq)
 have hzs:(w.drewN nq).heap.size=w.heap.size:=rfl
 clear hc1 hc0
 generalize w.drewN nq=w0 at *
 go_wp2_with (at_make;refine wpList_make_full _ rfl _ _ 124 rfl w0.heap.size 3 i0 (.int .i64 0) 1 Tryz.underlying124 HI.out.1 HI.out.2.1 HI.out.2.2.1 .i64 .i64 _ _ la rfl rfl (by omega) (by omega) (by rw [HI.out.2.2.2];omega) (by unfold maxLen;omega) (Nat.le_refl _) ?_;intro w1 hown hgrow)
 have hrow:=Row.of_made hown
 have hB1:Below w.heap.size w w1:=HQ.out.trans ((Below.refl _ w0).grown hgrow (by omega) (fun k e=>by cases e))
 have hgl:=hrow.lt
 rw [hzs] at hrow hgl
 clear hown hgrow hzs HQ eT j1 j0 x1 x0 hn1
 generalize hg:w.heap.size=gq at *
 have HG:=Ha hg;clear hg
 have HS0:=Ha (show DS w gq gq (List.replicate la 0) (.slice (some ⟨w1.heap.size,0,none⟩) 0 0) 0 (w1.alloc (.cells #[] 3)) from
  ⟨(Below.heap_alloc w1 _ gq hgl).trans hrow,⟨_,0,by rw [av];rfl,by rw [av];exact Nat.le_refl _,by decide,fun h=>absurd av h⟩,fun k hk=>by cases hk;exact hgl,hB1.trans ((Below.refl _ w1).alloc (by omega) _),Nat.le_refl _⟩)
 clear hrow hB1
 go_loopw [9,10] (fun v9 v10 wr=>∃ (r j:Nat) (o:List Nat) (rb m cr:Nat),j≤la∧v10 = .int .i64 ((j:Int) - 1)∧v9 = .slice (some ⟨rb,0,none⟩) m cr∧Hid (m=(dg r).length)∧r<b∧Hid (DS w gq gq o v9 r wr)∧o.length=la∧Hid (Dig o)∧Hid (toN ((dg a).drop j)=b*toN (o.drop j)+r))
  (fun _ x _=>(intOf x+1).toNat)
 case atStart =>
  exact ⟨0,la,List.replicate la 0,w1.heap.size,0,0,Nat.le_refl _,by go_num,rfl,by show _=_;rw [av];rfl,hb0,HS0.out,List.length_replicate,Dig.replicate _,by show toN _=_;rw [List.drop_of_length_le (by rw [HLA.out];exact Nat.le_refl _),List.drop_eq_nil_of_le (by rw [List.length_replicate];exact Nat.le_refl _)];simp [toN]⟩
 case round =>
  clear HS0 hgl
  obtain ⟨r,j,o,rb,m,cr,hj,rfl,rfl,hmr,hrb,hS,hlen,hdig,hval⟩:=hrel
  obtain rfl:=hmr.out
  clear hmr
  cases j with
  | zero =>
   have hv:a=b*toN o+r:=by have:=hval.out;rwa [List.drop_zero,List.drop_zero,ar] at this
   have hq:a / b=toN o:=by rw [hv,Nat.mul_add_div hb0,Nat.div_eq_of_lt hrb,Nat.add_zero]
   have hm:a % b=r:=by rw [hv,Nat.mul_add_mod,Nat.mod_eq_of_lt hrb]
   have hN0:Nats wr (.slice (some ⟨gq,0,none⟩) o.length la) o:=hS.out.row.nats (by omega) (by omega)
   have ct:=jQ _ _ o wr hN0 hdig.out
   have hn:=hN0.take (aL hdig.out)
   rw [hlen] at ct
   rw [←hq] at ct hn
   have CT:=Ha ct
   have HN:=Ha hn
   have HM:=Ha hm
   clear hval ct hn hv hN0 hq hm
   generalize (dg r).length=lr at *
   generalize (dg (a / b)).length=lq at *
   go_wp2_with fail
   refine CT.out.mono ?_
   clear CT
   rintro e w' ⟨rfl,rfl⟩
   go_wp2
   go_ret2
   refine ⟨_,_,rfl,HN.out,by rw [HM.out];exact hS.out.nat,fun k hk=>by cases hk;exact Nat.le_of_eq HG.out,hS.out.fr.mono (by have:=HG.out;omega),by rw [HG.out];exact hS.out.bel⟩
  | succ j =>
   have hlr:(dg r).length≤L:=by
    have h1:=aE (Nat.le_of_lt hrb)
    have:=HLB.out
    have:=HL.out.1
    omega
   have hNa:=(Nats.next HA.out (by rw [HG.out];exact hS.out.bel):Nats wr _ _)
   obtain ⟨ab,aoff,rfl,cax⟩:∃ ab aoff,pa=some ⟨ab,aoff,none⟩∧wr.cell? ⟨ab,aoff+j,none⟩=some (.int .i64 ((dg a).getD j 0:Nat)):=by
    obtain ⟨p',cap',he,h1,h2,h3⟩:=hNa
    obtain ⟨ab,aoff,e,hc⟩:=h3 (by intro e;have:=HLA.out;rw [e] at this;simp at this;omega)
    simp only [Value.slice.injEq] at he
    exact ⟨ab,aoff,he.1.trans e,hc j (by have:=HLA.out;omega)⟩
   have hx:=(aq a).getD j
   have HDC:=Ha (show toN ((dg a).drop j)=(dg a).getD j 0+B*toN ((dg a).drop (j+1)) by rw [dW (by have:=HLA.out;omega)];rfl)
   generalize (dg a).getD j 0=x at *
   have HSRC:=Ha (ww (hS.out.nat.next ((Below.refl _ wr).alloc (Nat.le_refl _) (.cells #[.int .i64 (x:Nat)] 3))))
   have HO1:=Ha (rY wr x wr.heap.size (Nat.le_refl _))
   have HLR:=Ha (show (ae (dg r)).length=(dg r).length*1 by simp [ae])
   have ej:(((j+1:Nat):Int) - 1)=(j:Int):=by omega
   have hjl:(j:Int)<(la:Int):=by omega
   have hlr2:True:=trivial
   rw [ej]
   clear ej hNa
   have hm:(dg r).length≤60000:=by omega
   go_wp2_with (at_builtin;refine wpList_append_own _ rfl _ _ 124 rfl wr.heap.size 3 i0 (.int .i64 0) 1 8 Tryz.underlying124 HI.out.1 HI.out.2.1 HI.out.2.2.1 HI.out.2.2.2 rfl (by decide) _ _ _ rfl HO1.out ⟨rb,0,none⟩ (dg r).length cr (ae (dg r)) rfl HLR.out HSRC.out (cells_one _) (by unfold maxLen;omega) (by omega) (by simp) ?_;intro v' w2 hown' hgrow hiff;have HO2:=Ha hown';have HG2:=Ha hgrow;have HNN:=Ha hiff;clear hown' hgrow hiff)
   have h2:=HO2.out
   rw [show ae [x]++ae (dg r)=ae (x::dg r) by simp [ae],show 1+(dg r).length=(x::dg r).length by rw [List.length_cons];omega] at h2
   obtain ⟨g',cap',cur,rfl,hgb,_,_,hcap',_,_⟩:=h2.2.resolve_left (fun e=>by have:=(HNN.out.1 e.1).1;cases this)
   have hN2:=bv h2
   have hdx:Dig (x::dg r):=Dig.cons hx (aq r)
   have ct:=jQ _ _ _ _ hN2 hdx
   have hn3:=hN2.take (aL hdx)
   have eR:toN (x::dg r)=x+B*r:=by show x+B*toN (dg r)=_;rw [ar]
   rw [eR] at ct hn3
   have hRb:x+B*r<B*b:=by
    have h1:B*(r+1)≤B*b:=Nat.mul_le_mul_left _ hrb
    rw [Nat.mul_add,Nat.mul_one] at h1
    have:x<B:=hx
    omega
   have HDV:=Ha (show toN ((dg a).drop j)=b*(B*toN (o.drop (j+1)))+(x+B*r) by
    rw [HDC.out,hval.out,Nat.mul_add,Nat.mul_left_comm];omega)
   have hbs:Below gq w wr:=hS.out.bel
   have hgql:=hS.out.row.lt
   have hB2:Below wr.heap.size wr w2:=((Below.refl _ wr).alloc (Nat.le_refl _) (.cells #[.int .i64 (x:Nat)] 3)).grown HG2.out (by simp) (fun k hk=>by cases hk;exact Nat.le_refl _)
   have HS2:=Ha ((hS.out.next hB2).rest (v' := .slice (some ⟨g',0,none⟩) (dg (x+B*r)).length cap') hn3 (fun k hk=>by cases hk;show gq+1≤g';omega))
   obtain ⟨est1,est2⟩:=EST.out _ hRb
   have CT:=Ha ct
   have q2:=(aq (x+B*r)).getD (n+2)
   have q1:=(aq (x+B*r)).getD (n+1)
   have q0:=(aq (x+B*r)).getD n
   have l2:=fun W (h:Below w2.heap.size w2 W)=>gp _ _ (n+2) W (HS2.out.nat.next h) (by omega)
   have l1:=fun W (h:Below w2.heap.size w2 W)=>gp _ _ (n+1) W (HS2.out.nat.next h) (by omega)
   have l0:=fun W (h:Below w2.heap.size w2 W)=>gp _ _ n W (HS2.out.nat.next h) (by omega)
   have hRl:(dg (x+B*r)).length≤L+1:=by
    have h1:b<B ^ (n+2):=(an b (n+2)).1 (by rw [HLB.out];exact Nat.le_refl _)
    have h2:B*b≤B*B ^ (n+2):=Nat.mul_le_mul_left _ (Nat.le_of_lt h1)
    have h3:B ^ (n+3)=B ^ (n+2)*B:=Nat.pow_succ _ _
    rw [Nat.mul_comm B (B ^ (n+2))] at h2
    have:=(an (x+B*r) (n+3)).2 (by omega)
    have:=HL.out.1
    omega
   obtain ⟨R,hR⟩:∃ R,x+B*r=R:=⟨_,rfl⟩
   rw [hR] at CT HS2 est1 est2 q2 q1 q0 l2 l1 l0 hRb HDV hRl
   rw [HL.out.1] at q2 est1 est2 l2
   rw [HL.out.2] at q1 est1 est2 l1
   generalize (dg R).getD L 0=d2 at *
   generalize (dg R).getD N1 0=d1 at *
   generalize (dg R).getD n 0=d0 at *
   obtain ⟨G,hG⟩:∃ G,((d2*1000000+d1)*1000000+d0) / (T+1)=G:=⟨_,rfl⟩
   rw [hG] at est1 est2
   have eG:(((d2:Int)*1000000+(d1:Int))*1000000+(d0:Int)) / ((T:Int)+1)=(G:Int):=by
    rw [←hG,Int.natCast_ediv];congr 1
   have eL1:(L:Int) - 1=(N1:Int):=by have:=HL.out;omega
   have eL0:(L:Int) - 2=(n:Int):=by have:=HL.out;omega
   have hT1:¬ ((T:Int)+1)=0:=by omega
   have hT2:(((T:Int)+1)==0)=false:=by rw [beq_eq_false_iff_ne];omega
   have LL:=Ha (Hb l2 (Hb l1 l0))
   have HE:=Ha (Hb est1 (Hb hRb hRl))
   clear ct hn3 hN2 h2 eR l2 l1 l0 hS hval HSRC HO1 HLR HO2 HG2 HNN HDC hR hB2 hG est1 hRb hRl hdx hgb hlr
   generalize (dg r).length=lr at *
   go_wp2_with fail
   refine CT.out.mono ?_
   clear CT
   rintro e w' ⟨rfl,rfl⟩
   go_wp2_with fail
   refine (LL.out.1 _ (Below.refl _ _)).mono ?_
   rintro e w' ⟨rfl,rfl⟩
   go_wp2_with fail
   refine (LL.out.2.1 _ (Below.refl _ _)).mono ?_
   rintro e w' ⟨rfl,rfl⟩
   go_wp2_with fail
   refine (LL.out.2.2 _ (Below.refl _ _)).mono ?_
   rintro e w' ⟨rfl,rfl⟩
   clear LL
   go_wp2_with fail
   have hB3:Below w2.heap.size w2 (w2.alloc (.cells #[.int .i64 (G:Nat)] 3)):=(Below.refl _ _).alloc (Nat.le_refl _) _
   have HS3:=Ha (HS2.out.next hB3)
   have hNb:IsNat (w2.alloc (.cells #[.int .i64 (G:Nat)] 3)) (.slice (some ⟨bb,off,none⟩) L cb) b:=HB.out.next (by rw [HG.out];exact HS3.out.bel)
   have c3:=jT _ _ (dg b) [G] _ hNb (og w2 G) (aq b) (Dig.one est2) (by have:=HLB.out;omega) (by simp)
   rw [ar,u6] at c3
   have C3:=Ha c3
   clear c3 hNb hB3 HS2
   generalize w2.alloc (.cells #[.int .i64 (G:Nat)] 3)=W3 at *
   refine C3.out.mono ?_
   rintro e W4 ⟨v4,rfl,hv4,_,hB4⟩
   obtain ⟨pv,cv,rfl⟩:=hv4.shape
   have HS4:=Ha (HS3.out.next hB4)
   have hle:b*G≤R:=by rw [Nat.mul_comm];exact HE.out.1
   have c4:=jS _ _ (dg R) (dg (b*G)) W4 HS4.out.nat hv4 (aq _) (aq _) (by have:=HE.out.2.2;omega) (aE hle) (by rw [ar,ar];exact hle)
   rw [ar,ar] at c4
   have C4:=Ha c4
   have HLE:=Ha hle
   clear c4 hv4 hB4 C3 HS3 hle
   generalize (dg (b*G)).length=lg at *
   go_wp2_with fail
   refine C4.out.mono ?_
   rintro e W5 ⟨g5,cap5,rfl,hv5,hg5,hB5⟩
   have HS5:=Ha ((HS4.out.next hB5).rest hv5 (fun k hk=>by cases hk;have:=HS4.out.row.lt;show gq+1≤g5;omega))
   clear hv5 hg5 hB5 C4 HS4
   obtain ⟨Mx,hMx⟩:∃ Mx:Nat,1000000≤Mx:=⟨1000000,Nat.le_refl _⟩
   go_wp2
   go_loopw [9,11] (fun v9 v11 wr=>∃ (r g rb m cr:Nat),v9 = .slice (some ⟨rb,0,none⟩) m cr∧Hid (m=(dg r).length)∧v11 = .int .i64 g∧g≤999999∧Hid (R=b*g+r)∧Hid (DS w gq gq o v9 r wr))
    (fun _ v11 _=>Mx - (intOf v11).toNat)
   case atStart=>exact ⟨R - b*G,G,g5,_,cap5,rfl,rfl,rfl,by omega,by have:=HLE.out;show _=_;omega,HS5.out⟩
   case round =>
    clear HS5 HLE
    obtain ⟨ρ,g,rb',m',cr',rfl,hm',rfl,hg9,hval,hS⟩:=hrel
    obtain rfl:=hm'.out
    clear hm'
    have hNb:IsNat wr (.slice (some ⟨bb,off,none⟩) L cb) b:=HB.out.next (by rw [HG.out];exact hS.out.bel)
    have cs:=rX _ _ ρ b wr hS.out.nat hNb
    by_cases hlt:ρ<b
    ·rw [dO hlt] at cs
     have CS:=Ha cs
     have HLT:=Ha hlt
     clear cs hNb hlt
     go_wp2_with fail
     refine CS.out.mono ?_
     rintro e w' ⟨rfl,k,rfl⟩
     have HS6:=Ha (hS.out.next (Below.drewK _ _ k))
     clear CS hS
     generalize wr.drewN k=W6 at *
     have co:=HS6.out.row.cell (i:=j) (by omega)
     have fo:=HS6.out.row.frozen j
     have HS7:=Ha (HS6.out.set j g)
     generalize hlρ:(dg ρ).length=lρ at *
     have HLρ:=Ha hlρ
     clear hlρ
     go_wp2
     go_roundw
     case rel =>
      refine ⟨ρ,j,o.set j g,rb',lρ,cr',by omega,by go_num,rfl,HLρ.out.symm,HLT.out,HS7.out,by rw [List.length_set];exact hlen,hdig.out.set _ (by omega),?_⟩
      show _=_
      rw [jA (by omega),HDV.out,hval.out]
      show _=b*(g+B*toN (o.drop (j+1)))+ρ
      rw [Nat.mul_add];omega
     case measure=>simp [intOf]
    ·obtain ⟨c,hc⟩:∃ c,cM ρ b=c:=⟨_,rfl⟩
     have hc0:0≤c:=by rw [←hc];unfold cM;rw [if_neg hlt];split <;> omega
     rw [hc] at cs
     have CS:=Ha cs
     have hg1:g+1≤999999:=by
      have h1:=HE.out.2.1
      rw [hval.out] at h1
      have h2:b*(g+1)<B*b:=by rw [Nat.mul_add,Nat.mul_one];omega
      rw [Nat.mul_comm B b] at h2
      have h3:=Nat.lt_of_mul_lt_mul_left h2
      rw [dS] at h3
      omega
     have HV2:=Ha (show R=b*(g+1)+(ρ - b) by rw [hval.out,Nat.mul_add,Nat.mul_one];omega)
     have c6:=fun W (h:Below wr.heap.size wr W)=>jS _ _ (dg ρ) (dg b) W (hS.out.nat.next h) (hNb.next h) (aq _) (aq _) (by
      have h1:ρ≤R:=by have:=hval.out;have:0≤b*g:=Nat.zero_le _;omega
      have:=aE h1
      have:=HE.out.2.2
      omega) (aE (by omega)) (by rw [ar,ar];omega)
     rw [ar,ar] at c6
     have C6:=Ha c6
     clear cs hNb hc hval c6 hlt
     have hLL:True:=trivial
     go_wp2_with fail
     refine CS.out.mono ?_
     rintro e w' ⟨rfl,k,rfl⟩
     have HS6:=Ha (hS.out.next (Below.drewK _ _ k))
     have C7:=Ha (C6.out _ (Below.drewK _ _ k))
     clear CS hS C6
     generalize wr.drewN k=W6 at *
     go_wp2_with fail
     refine C7.out.mono ?_
     rintro e W7 ⟨g7,cap7,rfl,hv7,hg7,hB7⟩
     have HS8:=Ha ((HS6.out.next hB7).rest hv7 (fun k hk=>by cases hk;have:=HS6.out.row.lt;show gq+1≤g7;omega))
     clear hv7 hg7 hB7 C7 HS6
     go_wp2
     go_roundw
     case rel=>exact ⟨ρ - b,g+1,g7,_,cap7,rfl,rfl,by go_num,hg1,HV2.out,HS8.out⟩
     case measure=>exact Ap (by omega)
end R
namespace R
open Go.RowKit
theorem mM (l:List UInt8) (e:Nat) (h:6≤e) (he:e≤l.length):ad (l.take e)=ad (l.take (e - 6))*1000000+ad ((l.take e).drop (e - 6)):=by
 have h1:l.take e=l.take (e - 6)++(l.take e).drop (e - 6):=by
  conv=>lhs;rw [←List.take_append_drop (e - 6) (l.take e)]
  rw [List.take_take,Nat.min_eq_left (by omega)]
 conv=>lhs;rw [h1]
 rw [dB,List.length_drop,List.length_take,Nat.min_eq_left he,show e - (e - 6)=6 by omega]
theorem eI (l:List UInt8) (hd:∀ c∈l,aj c=true) (i e:Nat) (he:e≤i+6):ad ((l.take e).drop i)<1000000:=by
 have h1:=bg ((l.take e).drop i) (fun c hc=>hd c (List.mem_of_mem_take (List.mem_of_mem_drop hc)))
 have h2:((l.take e).drop i).length≤6:=by rw [List.length_drop,List.length_take];omega
 exact Nat.lt_of_lt_of_le h1 (Nat.le_trans (Nat.pow_le_pow_right (by decide) h2) (by decide))
theorem oh (s:ByteArray) (i k:Nat) (hi:i≤k) (hk:k<s.size):ad ((s.data.toList.take (k+1)).drop i)=ad ((s.data.toList.take k).drop i)*10+(s[k].toNat - 48):=by
 rw [a8 s k hk,List.drop_append_of_le_length (by rw [List.length_take,ac];omega),bH]
theorem mY {w:World} {base:Nat} {e:TypeId} {size:Nat} {v:Value} {n:Nat} {xs:List Value} (h:w.ownsRow base e size v n xs) {p:Addr} (hp:p.block<base) (u:Value):(w.setCell p u).ownsRow base e size v n xs:=by
 obtain ⟨h1,h2⟩:=h
 refine ⟨h1,h2.imp id ?_⟩
 rintro ⟨g,cap,cur,rfl,hb,hh,r⟩
 exact ⟨g,cap,cur,rfl,hb,(Below.heap_setCell _ _ _ _ (by show g≠p.block;omega)).trans hh,r⟩
structure RS (w:World) (K:Nat) (neg:Bool) (v:Value) (o:List Nat) (wr:World):Prop where
 r0:∃ u,wr.cell? ⟨K,0,none⟩=some u
 r1:∃ u,wr.cell? ⟨K,1,none⟩=some u
 rf:∀ i,wr.frozen? ⟨K,i,none⟩=false
 c0:wr.cell? ⟨K+1,0,none⟩=some (.bool neg)
 c1:wr.cell? ⟨K+1,1,none⟩=some v
 f:∀ i,wr.frozen? ⟨K+1,i,none⟩=false
 own:wr.ownsRow (K+2) 3 1 v o.length (ae o)
 bel:Below K w wr
 sz:K+2≤wr.heap.size
theorem RS.new (w:World) (neg:Bool) (t:TypeId):RS w w.heap.size neg (.slice none 0 0) [] ((w.alloc (.cells #[.bool false,.slice none 0 0] t)).alloc (.cells #[.bool neg,.slice none 0 0] t)) :=
 ⟨⟨.bool false,by go_cell⟩,⟨.slice none 0 0,by go_cell⟩,fun i=>by simp [go_sem],by go_cell,by go_cell,fun i=>by simp [go_sem],⟨rfl,.inl ⟨rfl,rfl⟩⟩,((Below.refl _ w).alloc (Nat.le_refl _) _).alloc (by simp) _,by simp⟩
theorem RS.put {w:World} {K:Nat} {neg:Bool} {v v':Value} {o:List Nat} {wr w2:World} {x:Nat} {ob:Obj} (h:RS w K neg v o wr) (ho:w2.ownsRow (K+2) 3 1 v' (o.length+1) (ae o ++ [.int .i64 (x:Nat)])) (hg:(wr.alloc ob).grownBy w2 v.ownBlock) :
  (w2.cell? ⟨K+1,1,none⟩=some v∧w2.frozen? ⟨K+1,1,none⟩=false)∧RS w K neg v' (o ++ [x]) (w2.setCell ⟨K+1,1,none⟩ v'):=by
 have hsz:=h.sz
 have hs2:=hg.size
 rw [World.size_alloc] at hs2
 have hb:∀ k,k<K+2→w2.heap[k]? = wr.heap[k]? := fun k hk =>
  (hg.block k (by rw [World.size_alloc];omega) (fun e=>by have:=(h.own.lt k e.symm).1;omega)).trans (Below.heap_alloc _ _ _ (by omega))
 have hc:∀ k i,k<K+2→w2.cell? ⟨k,i,none⟩=wr.cell? ⟨k,i,none⟩:=fun k i hk=>World.cell?_of_block (hb k hk)
 have hf:∀ k i,k<K+2→w2.frozen? ⟨k,i,none⟩=wr.frozen? ⟨k,i,none⟩:=fun k i hk=>by unfold World.frozen?; rw [show w2.heap[(⟨k,i,none⟩:Addr).block]? = _ from hb k hk]
 have hn:∀ i,(w2.setCell ⟨K+1,1,none⟩ v').cell? ⟨K,i,none⟩=w2.cell? ⟨K,i,none⟩:=fun i=>World.cell?_of_block (Below.heap_setCell _ _ _ _ (by show K≠K+1;omega))
 have c1:w2.cell? ⟨K+1,1,none⟩=some v:=by rw [hc _ _ (by omega)];exact h.c1
 have c0:w2.cell? ⟨K+1,0,none⟩=some (.bool neg):=by rw [hc _ _ (by omega)];exact h.c0
 refine ⟨⟨c1,by rw [hf _ _ (by omega)];exact h.f 1⟩,?_,?_,?_,?_,World.cell?_setCell_same' _ _ _ (by rw [c1];rfl),?_,?_,?_,?_⟩
 ·rw [hn,hc _ _ (by omega)];exact h.r0
 ·rw [hn,hc _ _ (by omega)];exact h.r1
 ·intro i;rw [show (w2.setCell ⟨K+1,1,none⟩ v').frozen? ⟨K,i,none⟩=w2.frozen? ⟨K,i,none⟩ by simp [go_sem],hf _ _ (by omega)];exact h.rf i
 ·generalize K+1=k at *; go_cell
 ·intro i;rw [show (w2.setCell ⟨K+1,1,none⟩ v').frozen? ⟨K+1,i,none⟩=w2.frozen? ⟨K+1,i,none⟩ by simp [go_sem],hf _ _ (by omega)];exact h.f i
 ·rw [List.length_append,List.length_singleton,←bB];exact mY ho (by show K+1<K+2;omega) _
 ·exact ((h.bel.alloc (by omega) ob).grown hg (by rw [World.size_alloc];omega) (fun k e=>by have:=(h.own.lt k e).1;omega)).setCell (p:=⟨K+1,1,none⟩) (by show K≤K+1;omega) _
 ·simp [World.setCell];omega
theorem bP (s:ByteArray) (w:World) (hs:s.size≤1000) (hc:chk s.data.toList=0) :
  Calls Tryz.prog 103 #[.string s] w fun e W'=>∃ v,e = .returned (.agg #[.bool (af s.data.toList),v])∧IsNat W' v (ad (szL s.data.toList))∧Fresh w.heap.size v∧Below w.heap.size w W':=by
 have hd:=cP hc
 have hpos:0<s.size:=by
  rcases Nat.eq_zero_or_pos s.size with h | h
  ·have:s.data.toList = []:=List.eq_nil_of_length_eq_zero (by rw [ac];exact h)
   rw [this] at hc;simp [chk,szL,af] at hc
  ·exact h
 have hb:=Ha (au hpos)
 obtain ⟨ii,hi,hz0,hz1,hz2⟩:=info_parts io
 have HI:=Ha (Hb hi (Hb hz0 (Hb hz1 hz2)));clear hi hz0 hz1 hz2
 clear hc
 rw [←ck] at hd ⊢
 have htl:=gh s
 by_cases hn:af s.data.toList=true
 ·have hz:szB s=s.extract 1 s.size:=by unfold szB;rw [if_pos hn]
  have h45:((s[0].toNat:Int)==45)=true:=by rw [hb.out];exact hn
  rw [hn]
  obtain ⟨t,ht⟩:∃ t,szB s=t:=⟨_,rfl⟩
  rw [ht] at hd htl ⊢
  rw [ht] at hz
  have HD:=Ha hd
  have HZ:=Ha hz.symm
  have HSZ:=Ha (show s.size - 1=t.size by rw [hz,ByteArray.size_extract];omega)
  have htl2:t.size≤1000:=by omega
  clear hd hz ht hn htl
  go_enter Tryz.func103,Tryz.ntmps103
  go_wp2
  rw [HZ.out,HSZ.out]
  have HS0:=Ha (RS.new w true 126)
  generalize (w.alloc (.cells #[.bool false,.slice none 0 0] 126)).alloc (.cells #[.bool true,.slice none 0 0] 126)=W0 at *
  generalize hk:w.heap.size=K at *
  have HK:=Ha hk;clear hk
  go_loopw [4] (fun x wr=>∃ (e:Nat) (z:Int) (v:Value) (o:List Nat),x = .int .i64 z∧(z=e∨(z≤0∧e=0))∧e≤t.size∧o.length≤t.size ∧ -6≤z∧Hid (z=e→e+6*o.length=t.size)∧Hid (RS w K true v o wr)∧Hid (Dig o)∧Hid (ad t.data.toList=ad (t.data.toList.take e)*B ^ o.length+toN o))
   (fun x _=>(intOf x).toNat)
  case atStart=>exact ⟨t.size,t.size,_,[],rfl,.inl rfl,Nat.le_refl _,Nat.zero_le _,by omega,fun _=>rfl,HS0.out,Dig.nil,by show _=_;rw [List.take_of_length_le (by rw [ac];exact Nat.le_refl _)];simp [toN]⟩
  case round =>
   clear HS0
   obtain ⟨e,z,v,o,rfl,hz,he,hol,hz6,hlen,hS,hdig,hval⟩:=hrel
   by_cases hpos:0<z
   ·obtain rfl:z=e:=by omega
    clear hz
    have he1:0<e:=by omega
    have HL:=Ha (hlen.out rfl)
    obtain ⟨i0,hi0⟩:∃ i0:Nat,max (0:Int) ((e:Int) - 6)=i0:=⟨e - 6,by omega⟩
    have hie:i0=e - 6:=by omega
    have hi6:e≤i0+6:=by omega
    have hi7:i0≤e:=by omega
    have HIE:=Ha hie
    have hnew:Hid (ad t.data.toList=ad (t.data.toList.take i0)*B ^ (o.length+1)+(toN o+B ^ o.length*ad ((t.data.toList.take e).drop i0))):=by
     show _=_
     rw [hval.out]
     by_cases h6:6≤e
     ·rw [mM _ e h6 (by rw [ac];exact he),←hie,Nat.pow_succ,Nat.add_mul,Nat.mul_comm (B ^ o.length) B,←Nat.mul_assoc,dS,Nat.mul_comm (ad ((t.data.toList.take e).drop i0))]
      omega
     ·obtain rfl:i0=0:=by omega
      rw [List.take_zero,List.drop_zero,show ad []=0 from rfl,Nat.zero_mul,Nat.zero_add,Nat.mul_comm];omega
    clear hie hval hlen
    have c1:=hS.out.c1
    obtain ⟨wo,hwo⟩:∃ wo:World,wo=wr:=⟨_,rfl⟩
    subst hwo
    go_wp2
    clear hi0
    go_loop [5,6] (fun x y=>∃ i:Nat,i0≤i∧i≤e∧y = .int .i64 i∧x = .int .i64 (ad ((t.data.toList.take i).drop i0):Nat)) (fun _ y=>e - (intOf y).toNat)
    case atStart=>exact ⟨i0,Nat.le_refl _,hi7,rfl,by rw [List.drop_eq_nil_of_le (by rw [List.length_take];omega)];rfl⟩
    case round =>
     obtain ⟨i,hi1,hi2,rfl,rfl⟩:=hrel
     by_cases hlt:i<e
     ·have hn:=eI t.data.toList HD.out i0 i (by omega)
      have hts:i<t.size:=by omega
      have hc:=(ao t[i]).1 (HD.out _ (cD t i hts))
      have HSt:=Ha (oh t i0 i hi1 hts)
      generalize ad ((t.data.toList.take i).drop i0)=n at *
      clear c1
      go_wp2
      go_round
      case rel=>exact ⟨i+1,by omega,by omega,by go_num,by rw [HSt.out];go_num⟩
      case measure=>simp [intOf];omega
     ·obtain rfl:i=e:=by omega
      have hn:=eI t.data.toList HD.out i0 i (by omega)
      generalize ad ((t.data.toList.take i).drop i0)=n at *
      have HO:=Ha hS.out.own
      have hsz:=hS.out.sz
      clear hlt
      go_wp2_with (at_builtin;refine wpList_append_own _ rfl _ _ 124 rfl (K+2) 3 ii (.int .i64 0) 1 8 Tryz.underlying124 HI.out.1 HI.out.2.1 HI.out.2.2.1 HI.out.2.2.2 rfl (by decide) _ _ _ rfl (HO.out.alloc _) ⟨wo.heap.size,0,none⟩ 1 1 [.int .i64 (n:Nat)] rfl rfl (cell_one_new _ _ _) (by simp [Value.oneCell']) (by unfold maxLen;omega) (by omega) (by simp;omega) ?_;intro v' w2 hown' hgrow _;obtain ⟨g',cp',rfl⟩:=ownsRow_succ hown';obtain ⟨⟨p1,p2⟩,p3⟩:=hS.out.put hown' hgrow;have HP:=Ha p3;clear hown' hgrow p3 c1)
      go_roundw
      case rel =>
       have h1:=HL.out
       have h2:=HIE.out
       refine ⟨i0,(i:Int) - 6,_,o ++ [n],rfl,by omega,by omega,by rw [List.length_append,List.length_singleton];omega,by omega,fun e=>by rw [List.length_append,List.length_singleton];omega,HP.out,hdig.out.append (Dig.one hn),?_⟩
       rw [List.length_append,List.length_singleton,aS];exact hnew
      case measure=>simp [intOf];omega
   ·have hz0:e=0:=by omega
    have hpos':¬ (0<z):=hpos
    have hv:toN o=ad t.data.toList:=by have:=hval.out;rw [hz0,List.take_zero,show ad []=0 from rfl,Nat.zero_mul,Nat.zero_add] at this;exact this.symm
    have hN:=bv hS.out.own
    have ct:=ln _ _ _ hN hdig.out
    rw [hv] at ct
    have CT:=Ha ct
    have c1:=hS.out.c1
    clear hlen hval hN ct hv hz
    go_wp2_with fail
    refine CT.out.mono ?_
    clear CT c1
    rintro e' w' ⟨rfl,v',rfl,hN',ho'⟩
    obtain ⟨⟨u0,r0⟩,⟨u1,r1⟩,rf,c0,c1,f,own,bel,sz⟩:=hS.out
    have hf:Fresh (K+2) v':=fun k hk=>by rw [ho'] at hk;exact (own.lt k hk).1
    have rf0:=rf 0
    have rf1:=rf 1
    have f1:=f 1
    have HF:=Ha (Hb hN' (Hb hf bel))
    obtain ⟨p',cap',rfl⟩:=IsNat.shape hN'
    generalize hlv:(dg (ad t.data.toList)).length=lv at *
    have HLV:=Ha hlv
    clear rf f own hf bel hN' ho' hlv hS
    have d1:(wr.setCell ⟨K+1,1,none⟩ (.slice p' lv cap')).cell? ⟨K+1,1,none⟩=some (.slice p' lv cap'):=World.cell?_setCell_same' _ _ _ (by rw [c1];rfl)
    have d0:(wr.setCell ⟨K+1,1,none⟩ (.slice p' lv cap')).cell? ⟨K+1,0,none⟩=some (.bool true):=by generalize K+1=k at *; go_cell
    have s0:(wr.setCell ⟨K+1,1,none⟩ (.slice p' lv cap')).cell? ⟨K,0,none⟩=some u0:=(World.cell?_of_block (Below.heap_setCell _ _ _ _ (by show K≠K+1;omega))).trans r0
    have s1:(wr.setCell ⟨K+1,1,none⟩ (.slice p' lv cap')).cell? ⟨K,1,none⟩=some u1:=(World.cell?_of_block (Below.heap_setCell _ _ _ _ (by show K≠K+1;omega))).trans r1
    obtain ⟨b0,b1⟩:=ap s0 s1 (.bool true) (.slice p' lv cap')
    clear r0 r1
    go_wp2
    refine bodyPost_ret (v := .agg #[.bool true,.slice p' lv cap']) (by simp [results,Tryz.results103,go_sem,b0,b1]) rfl ?_
    obtain ⟨hN',hf,bel⟩:=HF.out
    refine ⟨_,rfl,?_,hf.mono (by have:=HK.out;omega),?_⟩
    ·exact ((hN'.setCell hf (by show K+1<K+2;omega) _).setCell hf (by show K<K+2;omega) _).setCell hf (by show K<K+2;omega) _
    ·rw [HK.out]
     exact ((bel.setCell (p:=⟨K+1,1,none⟩) (by show K≤K+1;omega) _).setCell (p:=⟨K,0,none⟩) (Nat.le_refl _) _).setCell (p:=⟨K,1,none⟩) (Nat.le_refl _) _
 ·have hn':af s.data.toList=false:=by simpa using hn
  have hz:szB s=s:=by unfold szB;rw [if_neg hn]
  have h45:((s[0].toNat:Int)==45)=false:=by rw [hb.out];exact hn'
  rw [hn']
  rw [hz] at hd htl ⊢
  have HD:=Ha hd
  clear hd hz hn hn' htl
  obtain ⟨t,ht⟩:∃ t,t=s:=⟨_,rfl⟩
  subst ht
  have htl2:t.size≤1000:=hs
  go_enter Tryz.func103,Tryz.ntmps103
  go_wp2
  have HS0:=Ha (RS.new w false 126)
  generalize (w.alloc (.cells #[.bool false,.slice none 0 0] 126)).alloc (.cells #[.bool false,.slice none 0 0] 126)=W0 at *
  generalize hk:w.heap.size=K at *
  have HK:=Ha hk;clear hk
  go_loopw [4] (fun x wr=>∃ (e:Nat) (z:Int) (v:Value) (o:List Nat),x = .int .i64 z∧(z=e∨(z≤0∧e=0))∧e≤t.size∧o.length≤t.size ∧ -6≤z∧Hid (z=e→e+6*o.length=t.size)∧Hid (RS w K false v o wr)∧Hid (Dig o)∧Hid (ad t.data.toList=ad (t.data.toList.take e)*B ^ o.length+toN o))
   (fun x _=>(intOf x).toNat)
  case atStart=>exact ⟨t.size,t.size,_,[],rfl,.inl rfl,Nat.le_refl _,Nat.zero_le _,by omega,fun _=>rfl,HS0.out,Dig.nil,by show _=_;rw [List.take_of_length_le (by rw [ac];exact Nat.le_refl _)];simp [toN]⟩
  case round =>
   clear HS0
   obtain ⟨e,z,v,o,rfl,hz,he,hol,hz6,hlen,hS,hdig,hval⟩:=hrel
   by_cases hpos:0<z
   ·obtain rfl:z=e:=by omega
    clear hz
    have he1:0<e:=by omega
    have HL:=Ha (hlen.out rfl)
    obtain ⟨i0,hi0⟩:∃ i0:Nat,max (0:Int) ((e:Int) - 6)=i0:=⟨e - 6,by omega⟩
    have hie:i0=e - 6:=by omega
    have hi6:e≤i0+6:=by omega
    have hi7:i0≤e:=by omega
    have HIE:=Ha hie
    have hnew:Hid (ad t.data.toList=ad (t.data.toList.take i0)*B ^ (o.length+1)+(toN o+B ^ o.length*ad ((t.data.toList.take e).drop i0))):=by
     show _=_
     rw [hval.out]
     by_cases h6:6≤e
     ·rw [mM _ e h6 (by rw [ac];exact he),←hie,Nat.pow_succ,Nat.add_mul,Nat.mul_comm (B ^ o.length) B,←Nat.mul_assoc,dS,Nat.mul_comm (ad ((t.data.toList.take e).drop i0))]
      omega
     ·obtain rfl:i0=0:=by omega
      rw [List.take_zero,List.drop_zero,show ad []=0 from rfl,Nat.zero_mul,Nat.zero_add,Nat.mul_comm];omega
    clear hie hval hlen
    have c1:=hS.out.c1
    obtain ⟨wo,hwo⟩:∃ wo:World,wo=wr:=⟨_,rfl⟩
    subst hwo
    go_wp2
    clear hi0
    go_loop [5,6] (fun x y=>∃ i:Nat,i0≤i∧i≤e∧y = .int .i64 i∧x = .int .i64 (ad ((t.data.toList.take i).drop i0):Nat)) (fun _ y=>e - (intOf y).toNat)
    case atStart=>exact ⟨i0,Nat.le_refl _,hi7,rfl,by rw [List.drop_eq_nil_of_le (by rw [List.length_take];omega)];rfl⟩
    case round =>
     obtain ⟨i,hi1,hi2,rfl,rfl⟩:=hrel
     by_cases hlt:i<e
     ·have hn:=eI t.data.toList HD.out i0 i (by omega)
      have hts:i<t.size:=by omega
      have hc:=(ao t[i]).1 (HD.out _ (cD t i hts))
      have HSt:=Ha (oh t i0 i hi1 hts)
      generalize ad ((t.data.toList.take i).drop i0)=n at *
      clear c1
      go_wp2
      go_round
      case rel=>exact ⟨i+1,by omega,by omega,by go_num,by rw [HSt.out];go_num⟩
      case measure=>simp [intOf];omega
     ·obtain rfl:i=e:=by omega
      have hn:=eI t.data.toList HD.out i0 i (by omega)
      generalize ad ((t.data.toList.take i).drop i0)=n at *
      have HO:=Ha hS.out.own
      have hsz:=hS.out.sz
      clear hlt
      go_wp2_with (at_builtin;refine wpList_append_own _ rfl _ _ 124 rfl (K+2) 3 ii (.int .i64 0) 1 8 Tryz.underlying124 HI.out.1 HI.out.2.1 HI.out.2.2.1 HI.out.2.2.2 rfl (by decide) _ _ _ rfl (HO.out.alloc _) ⟨wo.heap.size,0,none⟩ 1 1 [.int .i64 (n:Nat)] rfl rfl (cell_one_new _ _ _) (by simp [Value.oneCell']) (by unfold maxLen;omega) (by omega) (by simp;omega) ?_;intro v' w2 hown' hgrow _;obtain ⟨g',cp',rfl⟩:=ownsRow_succ hown';obtain ⟨⟨p1,p2⟩,p3⟩:=hS.out.put hown' hgrow;have HP:=Ha p3;clear hown' hgrow p3 c1)
      go_roundw
      case rel =>
       have h1:=HL.out
       have h2:=HIE.out
       refine ⟨i0,(i:Int) - 6,_,o ++ [n],rfl,by omega,by omega,by rw [List.length_append,List.length_singleton];omega,by omega,fun e=>by rw [List.length_append,List.length_singleton];omega,HP.out,hdig.out.append (Dig.one hn),?_⟩
       rw [List.length_append,List.length_singleton,aS];exact hnew
      case measure=>simp [intOf];omega
   ·have hz0:e=0:=by omega
    have hpos':¬ (0<z):=hpos
    have hv:toN o=ad t.data.toList:=by have:=hval.out;rw [hz0,List.take_zero,show ad []=0 from rfl,Nat.zero_mul,Nat.zero_add] at this;exact this.symm
    have hN:=bv hS.out.own
    have ct:=ln _ _ _ hN hdig.out
    rw [hv] at ct
    have CT:=Ha ct
    have c1:=hS.out.c1
    clear hlen hval hN ct hv hz
    go_wp2_with fail
    refine CT.out.mono ?_
    clear CT c1
    rintro e' w' ⟨rfl,v',rfl,hN',ho'⟩
    obtain ⟨⟨u0,r0⟩,⟨u1,r1⟩,rf,c0,c1,f,own,bel,sz⟩:=hS.out
    have hf:Fresh (K+2) v':=fun k hk=>by rw [ho'] at hk;exact (own.lt k hk).1
    have rf0:=rf 0
    have rf1:=rf 1
    have f1:=f 1
    have HF:=Ha (Hb hN' (Hb hf bel))
    obtain ⟨p',cap',rfl⟩:=IsNat.shape hN'
    generalize hlv:(dg (ad t.data.toList)).length=lv at *
    have HLV:=Ha hlv
    clear rf f own hf bel hN' ho' hlv hS
    have d1:(wr.setCell ⟨K+1,1,none⟩ (.slice p' lv cap')).cell? ⟨K+1,1,none⟩=some (.slice p' lv cap'):=World.cell?_setCell_same' _ _ _ (by rw [c1];rfl)
    have d0:(wr.setCell ⟨K+1,1,none⟩ (.slice p' lv cap')).cell? ⟨K+1,0,none⟩=some (.bool false):=by generalize K+1=k at *; go_cell
    have s0:(wr.setCell ⟨K+1,1,none⟩ (.slice p' lv cap')).cell? ⟨K,0,none⟩=some u0:=(World.cell?_of_block (Below.heap_setCell _ _ _ _ (by show K≠K+1;omega))).trans r0
    have s1:(wr.setCell ⟨K+1,1,none⟩ (.slice p' lv cap')).cell? ⟨K,1,none⟩=some u1:=(World.cell?_of_block (Below.heap_setCell _ _ _ _ (by show K≠K+1;omega))).trans r1
    obtain ⟨b0,b1⟩:=ap s0 s1 (.bool false) (.slice p' lv cap')
    clear r0 r1
    go_wp2
    refine bodyPost_ret (v := .agg #[.bool false,.slice p' lv cap']) (by simp [results,Tryz.results103,go_sem,b0,b1]) rfl ?_
    obtain ⟨hN',hf,bel⟩:=HF.out
    refine ⟨_,rfl,?_,hf.mono (by have:=HK.out;omega),?_⟩
    ·exact ((hN'.setCell hf (by show K+1<K+2;omega) _).setCell hf (by show K<K+2;omega) _).setCell hf (by show K<K+2;omega) _
    ·rw [HK.out]
     exact ((bel.setCell (p:=⟨K+1,1,none⟩) (by show K≤K+1;omega) _).setCell (p:=⟨K,0,none⟩) (Nat.le_refl _) _).setCell (p:=⟨K,1,none⟩) (Nat.le_refl _) _
end R
end Go.Proofs.YtocalfjfjjljnaaGreatDoor
