/- Parts of the proof of the text YtjdomibbaemdnaaGreatDoorZK42. -/
import Derived.RangeFuncNested
import Derived.RangeFuncBound
import Derived.RangeFuncCalls
import Derived.RangeFuncLeaves
import Derived.RangeFuncBox
import Derived.Shelf.Abstract
import Derived.OwnWalkIn
import Derived.TacticsInMore
import Derived.LoopNIn
import Derived.LoopIn
import Derived.Maps.AppendAt
import Derived.Test.YtjdomibbaemdnaaGreatDoorZK1
import Derived.Test.YtjdomibbaemdnaaGreatDoorZK13
set_option linter.all false
set_option maxRecDepth 100000
set_option maxHeartbeats 8000000
namespace Go.Proofs.YtjdomibbaemdnaaGreatDoor
section
open Go.RowKit Go.Shelf
def OwnR (W:World) (base:Nat) (v:Value) (n:Nat):Prop:=∃ g cap,v = .slice (some ⟨g,0,none⟩) (dg n).length cap∧base≤g∧RowO W g cap (dg n)
def OwnN (W:World) (base:Nat) (v:Value) (n:Nat):Prop:=n≠0→OwnR W base v n
theorem OwnR.mono {W:World} {a b:Nat} {v:Value} {n:Nat} (h:OwnR W b v n) (hab:a≤b):OwnR W a v n:=by
 obtain ⟨g,cap,e,hb,hr⟩:=h
 exact ⟨g,cap,e,by omega,hr⟩
theorem Row.rowO {w:World} {g:Nat} {l:List Nat} (h:Row w g l) (hl:l.length≤maxLen):RowO w g l.length l:=⟨_,h,by simp [ag],Nat.le_refl _,hl,by rw [List.take_of_length_le (by simp [ag])]⟩
theorem qB (v:Value) (l:List Nat) (w:World) (base:Nat) (h:w.ownsRow base 143 1 v l.length (ag l)) (hd:Dig l) :
  Calls Tryz.prog 218 #[v] w fun e w'=>w=w'∧∃ v',e = .returned v'∧Nats w v' (dg (toN l))∧v'.ownBlock=v.ownBlock∧OwnN w base v' (toN l):=by
 by_cases h0:toN l=0
 ·refine (eI v l w (bg h) hd).mono fun e w' ⟨hw,v',he,hn,ho⟩=>⟨hw,v',he,hn,ho,fun h1=>absurd h0 h1⟩
 ·have hne:l ≠ []:=fun e=>h0 (by rw [e];rfl)
  obtain ⟨g,cap,rfl,hg,hc1,hc2,_⟩:=fg h hne
  obtain ⟨_,_,hr⟩:=ib h
  have hN:=hr.rowC.nats hc1 (by unfold maxLen at hc2;omega)
  refine (bv _ _ l w hN hd).mono fun e w' ⟨he,hw⟩=>⟨hw,_,he,hN.take (aK hd),rfl,fun _=>⟨g,cap,rfl,hg,hr.pre (aK hd)⟩⟩
theorem RowO.putObj {W:World} {l g cap:Nat} {o o':Obj} {m:List Nat} (h:RowO W g cap m) (hl:W.heap[l]? = some o) (ho:o.isCells=false):RowO (W.putObj l o') g cap m:=by
 have hne:g≠l:=by
  intro e
  obtain ⟨cur,h1,_⟩:=h
  rw [e,hl] at h1
  have e2:=Option.some.inj h1
  rw [e2] at ho
  simp [Obj.isCells] at ho
 exact h.of_block (World.putObj_heap_other hne)
section
attribute [local go_sem] Oper.semAt_some
theorem iv (s:ByteArray) (w:World) (hs:s.size≤1000000) (hd:∀ c∈s.data.toList,az c=true) :
  Calls Tryz.prog 174 #[.string s] w fun e W'=>∃ v,e = .returned v∧IsNat W' v (ae s.data.toList)∧Fresh w.heap.size v∧Below w.heap.size w W'∧OwnN W' w.heap.size v (ae s.data.toList):=by
 refine (callsIn_wide (n:=9)).1 ?_
 have hlen:(rd s.data.toList).length≤1000000:=Nat.le_trans (oR _ _ (Nat.le_refl _)) (by rw [ac];exact hs)
 have hval:=xn _ s.data.toList (Nat.le_refl _) hd
 have HV:=Ha hval;clear hval
 have HD:=Ha hd;clear hd
 obtain ⟨i0,hi,hz0,hz1,hz2⟩:=info_parts di
 have HI:=Ha (Hb hi (Hb hz0 (Hb hz1 hz2)));clear hi hz0 hz1 hz2
 obtain ⟨m,hm⟩:∃ m:Nat,(s.size:Int) / 9+1=m:=⟨s.size / 9+1,by omega⟩
 have hm2:m≤1000000:=by omega
 have HM:=Ha hm;clear hm
 refine callsIn_of_wp_marks Tryz.func174 rfl trivial ?_ rfl
 simp only [Tryz.ntmps174,List.size_toArray,List.length_cons,List.length_nil,Nat.reduceAdd,Nat.reduceSub,Array.replicate_succ,Array.replicate_zero,List.push_toArray,List.append_toArray,List.nil_append,List.cons_append]
 gi_wp2_with (gi_at_make;refine wpListIn_make_own _ rfl _ _ 182 rfl w.heap.size 143 i0 (.int .u64 0) 1 Tryz.underlying182 HI.out.1 HI.out.2.1 HI.out.2.2.1 .i64 .i64 _ m rfl rfl HM.out (by rw [HI.out.2.2.2];omega) (by unfold maxLen;omega) (Nat.le_refl _) ?_;intro w1 hown hgrow)
 refine ⟨trivial,?_⟩
 refine (callsIn_wide.2 (nA s _)).mono ?_
 rintro e w' ⟨rfl,rfl⟩
 gi_wp2
 have bO:=Boxed.new w1 182 (.slice (some ⟨w.heap.size,0,none⟩) 0 m)
 have bS:=Boxed.new (w1.alloc (.cells #[.slice (some ⟨w.heap.size,0,none⟩) 0 m] 182)) 9 (.string s)
 rw [World.size_alloc] at bS
 have hsz1:w.heap.size≤w1.heap.size:=hgrow.size
 have hB0:Below w.heap.size w ((w1.alloc (.cells #[.slice (some ⟨w.heap.size,0,none⟩) 0 m] 182)).alloc (.cells #[.string s] 9)) :=
  (((Below.refl _ w).grown hgrow (Nat.le_refl _) (fun k e=>by cases e)).alloc hsz1 _).alloc (by simp;omega) _
 refine wpIn_rangeFunc_ownG rfl (by omega) (gf:=237) (lb := #[.pointer (some ⟨w1.heap.size+1,0,none⟩)]) rfl trivial (enters_of Tryz.func237 (by kernel_rfl) rfl)
  (kF (9 - 1) (by omega) (w1.heap.size+1) s hs HD.out _ (by simp) bS.cell) KpS.t KpS.b (Below.refl _ _) (fun _=>rfl)
  (fun pre W=>((∃ v,Boxed W w1.heap.size 182 v∧W.ownsRow w.heap.size 143 1 v (gm pre).length (ag (gm pre))∧True)∧Boxed W (w1.heap.size+1) 9 (.string s))∧Below w.heap.size w W)
  (fun _ _ _=>False)
  (OwnFrom.and (OwnFrom.and (Own.from (holdsRow_own w.heap.size w1.heap.size 182 143 1 (fun pre=>(gm pre).length) (fun pre=>ag (gm pre)) (fun _ _=>True)) _) (Own.from (boxed_own (w1.heap.size+1) 9 (fun _ => .string s)) _)) (ownFrom_below (Nat.le_refl _) (by simp;omega)))
  (fun _ _ _ _ _ hs _ _=>hs)
  ⟨⟨⟨_,bO.alloc _,(hown.alloc _).alloc _,trivial⟩,bS⟩,hB0⟩
  (fun x=>{ tmps := #[.string s,undef,.slice none 0 0,.pointer (some ⟨w1.heap.size,0,none⟩),.int .u64 (x.1:Nat),.string s,.int .i64 s.size,.int .i64 ((s.size:Int) / 9),.int .i64 ((s.size:Int) / 9+1),.slice (some ⟨w.heap.size,0,none⟩) 0 m,.string s,.func (.func 237) #[] #[.pointer (some ⟨w1.heap.size+1,0,none⟩)],.int .u64 (x.1:Nat),undef,undef,undef,undef,undef,undef],defers := [] }) ?assign ?body ?done ?stop
 case assign =>
  clear hown bO bS hB0 hgrow
  intro l x W K hK
  gi_wp2
  exact hK
 case body =>
  clear hown bO bS hB0 hgrow
  rintro l pre x W ⟨⟨⟨v,hv,hrow,_⟩,hS⟩,hB⟩ hlt
  have hc:=hv.cell
  have hp:=lX pre
  have HP:=Ha hp;clear hp
  have hpl:(gm pre).length≤1000000:=by rw [HP.out];omega
  obtain ⟨hi,hz0,hz1,hz2⟩:=HI.out
  gi_wp2_with (gi_at_builtin;refine wpListIn_append_own _ rfl _ _ 182 rfl w.heap.size 143 i0 (.int .u64 0) 1 8 Tryz.underlying182 hi hz0 hz1 hz2 rfl (by decide) _ _ _ rfl (hrow.alloc _) ⟨W.heap.size,0,none⟩ 1 1 [.int .u64 (x.1:Nat)] rfl rfl (cell_one_new _ _ _) (by simp [Value.oneCell']) (by unfold maxLen;omega) (by omega) (by have:=hB.size;simp;omega) ?_;intro v' w2 hown' hgrow _;obtain ⟨g',cap',rfl⟩:=ownsRow_succ hown';obtain ⟨hv1,hv2,hr2,hk2,hb2⟩:=hv.appended (by decide) hrow hB.size hsz1 hown' hgrow;have hS2:=(hS.alloc _).kept hgrow (hS.not_row (by decide) hrow);have hc1:=hv1.cell;have hf1:=hv1.frozen)
  have hS3:=hS2.other (B':=w1.heap.size) (by omega) (.slice (some ⟨g',0,none⟩) ((gm pre).length+1) cap')
  refine ⟨hk2.from _,fun _=>hS3.cell,⟨⟨_,hv2,?_,trivial⟩,hS3⟩,hB.trans hb2⟩
  rw [oS,←bh,List.length_append,List.length_singleton]
  exact hr2
 case done =>
  clear hown bO bS hB0 hgrow
  rintro D ys W hD rfl ⟨⟨⟨v,hv,hrow,_⟩,hS⟩,hB⟩ hK
  have hc:=hv.cell
  have hN:=bg hrow
  have ct:=qB v (gm (rd s.data.toList)) W w.heap.size hrow (rG _)
  rw [HV.out] at ct
  have CT:=Ha ct;clear ct hN
  gi_wp2_with fail
  refine ⟨trivial,?_⟩
  refine (callsIn_wide.2 CT.out).mono ?_
  clear CT
  rintro e w' ⟨rfl,v',rfl,hN',ho,hoo⟩
  have HOO:=Ha hoo;clear hoo
  have HN:=Ha hN';clear hN'
  have HO:=Ha ho;clear ho
  gi_wp2
  refine ⟨by simp,.inl ⟨_,_,rfl,run_takeDeferred hK,?_⟩⟩
  exact ⟨_,results_tmp rfl _ _ _,v',rfl,HN.out.putObj hK rfl,fun k hk=>by rw [HO.out] at hk;exact (hrow.lt k hk).1,hB.trans (belowK_b (w:=w) (Nat.le_refl _) W D _ _ (by simp at hD;omega) hK rfl rfl),fun h0=>by obtain ⟨g,cap,e1,e2,e3⟩:=HOO.out h0;exact ⟨g,cap,e1,e2,e3.putObj hK rfl⟩⟩
 case stop =>
  rintro D c pre W _ _ h _
  exact h.elim
end
theorem l6 (v:Value) (la:List Nat) (b:Nat) (w:World) (ha:Nats w v la) (da:Dig la) (hla:la.length≤1000000) (hb0:0<b) (hb:b<1000000000) :
  Calls Tryz.prog 215 #[v,.int .u64 b] w fun e W'=>∃ q,e = .returned (.tuple #[q,.int .u64 (toN la % b:Nat)])∧IsNat W' q (toN la / b)∧Fresh w.heap.size q∧Below w.heap.size w W'∧OwnR W' w.heap.size q (toN la / b):=by
 obtain ⟨pa,capa,rfl,ha1,ha2,ha3⟩:=ha
 have HA:=Ha ha3;clear ha3
 obtain ⟨i0,hi,hz0,hz1,hz2⟩:=info_parts di
 have HI:=Ha (Hb hi (Hb hz0 (Hb hz1 hz2)));clear hi hz0 hz1 hz2
 have HD:=Ha da;clear da
 have hne:((b:Int)==0)=false:=by rw [beq_eq_false_iff_ne];omega
 have hne2:¬ (b:Int)=0:=by omega
 go_enter Tryz.func215,Tryz.ntmps215
 go_wp2_with (at_make;refine wpList_make_full _ rfl _ _ 182 rfl w.heap.size 143 i0 (.int .u64 0) 1 Tryz.underlying182 HI.out.1 HI.out.2.1 HI.out.2.2.1 .i64 .i64 _ _ (la.length) rfl rfl (by omega) (by omega) (by rw [HI.out.2.2.2];omega) (by unfold maxLen;omega) (Nat.le_refl _) ?_;intro w1 hown hgrow)
 have hrow:=Row.of_made hown
 have hB1:Below w.heap.size w w1:=(Below.refl _ w).grown hgrow (Nat.le_refl _) (fun k e=>by cases e)
 have hgl:=hrow.lt
 clear hown hgrow
 generalize hg:w.heap.size=g at *
 have HG:=Ha hg;clear hg
 go_loopw [7,8] (fun y x wr=>∃ (r j:Nat) (o:List Nat),j≤la.length∧x = .int .i64 ((j:Int) - 1)∧y = .int .u64 r∧r<b∧Row wr g o∧o.length=la.length∧Hid (Dig o)∧Hid (toN (la.drop j)=b*toN (o.drop j)+r)∧Below g w wr)
  (fun _ x _=>(intOf x+1).toNat)
 case atStart =>
  exact ⟨0,la.length,List.replicate la.length 0,Nat.le_refl _,by go_num,rfl,hb0,hrow,List.length_replicate,Dig.replicate _,by show toN _=_;rw [List.drop_length,List.drop_eq_nil_of_le (by rw [List.length_replicate];exact Nat.le_refl _)];simp [toN],hB1⟩
 case round =>
  clear hrow hB1 hgl
  obtain ⟨r,j,o,hj,rfl,rfl,hr,hrow,hlen,hdig,hval,hbel⟩:=hrel
  cases j with
  | zero =>
   have hv:toN la=b*toN o+r:=hval.out
   have hq:toN la / b=toN o:=by rw [hv,Nat.mul_add_div hb0,Nat.div_eq_of_lt hr,Nat.add_zero]
   have hm:toN la % b=r:=by rw [hv,Nat.mul_add_mod,Nat.mod_eq_of_lt hr]
   have hN0:Nats wr (.slice (some ⟨g,0,none⟩) o.length la.length) o:=hrow.nats (by omega) (by omega)
   have ct:=bv _ _ o wr hN0 hdig.out
   have hn:=hN0.take (aK hdig.out)
   rw [hlen] at ct
   rw [←hq] at ct hn
   have HRO:=Ha (show RowO wr g la.length (dg (toN la / b)) by rw [hq];exact (by have h:=(Row.rowO hrow (by unfold maxLen;omega)).pre (aK hdig.out);rwa [hlen] at h))
   have HM:=Ha hm
   have CT:=Ha ct
   have HN:=Ha hn
   have HBL:=Ha hbel
   clear hval ct hn hv hN0 hm hq hbel hrow
   go_wp2_with fail
   refine CT.out.mono ?_
   clear CT
   rintro e w' ⟨rfl,rfl⟩
   go_wp2
   go_ret2
   refine ⟨.slice (some ⟨g,0,none⟩) (dg (toN la / b)).length la.length,?_,HN.out,fun k hk=>by cases hk;exact Nat.le_of_eq HG.out,by rw [HG.out];exact HBL.out,⟨g,la.length,rfl,Nat.le_of_eq HG.out,HRO.out⟩⟩
   show Ending.returned (.tuple #[.slice (some ⟨g,0,none⟩) (dg (toN la / b)).length la.length,.int .u64 (r:Nat)])=_
   rw [HM.out]
  | succ j =>
   obtain ⟨ab,aoff,rfl,hca⟩:=HA.out (by intro e;subst e;simp at hj)
   have ca0:=hca j (by omega)
   have cax:wr.cell? ⟨ab,aoff+j,none⟩=some (.int .u64 (la.getD j 0:Nat)):=(hbel.cell (p:=⟨ab,aoff+j,none⟩) (by rw [←HG.out];exact World.block_lt_of_cell? w _ ca0)).trans ca0
   clear ca0 hca
   have co:=hrow.cell (i:=j) (by omega)
   have fo:=hrow.frozen j
   have hst:=kj (la:=la) (o:=o) (b:=b) (r:=r) (j:=j) (by omega) hlen hval.out
   have hx:=HD.out.getD j
   have hbd:=pJ hb0 hb hr hx
   have R3:=hrow.set j ((r*1000000000+la.getD j 0) / b)
   generalize la.getD j 0=x at *
   have HS:=Ha (Hb hst (Hb hbd R3))
   clear hst hbd R3 hval
   have hr':(r:Int)≤999999998:=by omega
   go_wp2
   have ht:(r:Int)*1000000000+(x:Int)=((r*1000000000+x:Nat):Int):=by rw [Int.natCast_add,Int.natCast_mul];rfl
   rw [ht]
   clear ht
   obtain ⟨t,ht⟩:∃ t,r*1000000000+x=t:=⟨_,rfl⟩
   rw [ht] at HS
   rw [ht]
   have q1:((t / b:Nat):Int)=(t:Int) / (b:Int):=Int.natCast_ediv _ _
   have q2:((t % b:Nat):Int)=(t:Int) % (b:Int):=Int.natCast_emod _ _
   have hq:t / b<1000000000:=HS.out.2.1.1
   have hm:t % b<b:=HS.out.2.1.2.1
   have ht1:t<1000000000000000000:=HS.out.2.1.2.2
   have w1:0≤(t:Int) / (b:Int):=Int.ediv_nonneg (by omega) (by omega)
   have w2:(t:Int) / (b:Int)≤999999999:=by rw [←q1];clear q1 q2;generalize t / b=qq at hq;omega
   have hb1:¬ b=0:=by omega
   have Q:=Ha (Hb q1 q2)
   clear q1 q2 ht hr' hq hm
   have hjl:(j:Int)<(la.length:Int):=by omega
   go_region_held3 (fun w'=>w'.frozen? ⟨g,j,none⟩=false) (go_keep) (fail)
   rw [←Q.out.1]
   go_wp2
   go_roundw
   case rel =>
    obtain ⟨s1,⟨s2,s3,_⟩,s4⟩:=HS.out
    refine ⟨t % b,j,o.set j (t / b),by omega,by go_num,by rw [Q.out.2];first | done | rfl | (rw [Int.tmod_eq_emod_of_nonneg (by omega)]),s3,s4,by rw [List.length_set];exact hlen,hdig.out.set _ s2,s1,?_⟩
    exact (hbel.setCell (p:=⟨g,j,none⟩) (Nat.le_refl _) _).drew
   case measure=>simp [intOf]
theorem mI (va vb:Value) (a b n m:Nat) (w:World) (ha:IsNat w va a) (hb:IsNat w vb b) (hla:(dg a).length=m+(n+2)) (hlb:(dg b).length=n+2) (hm:m+(n+2)≤900000) :
  Calls Tryz.prog 235 #[va,vb] w fun e W'=>∃ q r,e = .returned (.tuple #[q,r])∧IsNat W' q (a / b)∧IsNat W' r (a % b)∧Fresh w.heap.size q∧Fresh w.heap.size r∧Below w.heap.size w W'∧OwnR W' w.heap.size r (a % b):=by
 obtain ⟨i0,hi,hz0,hz1,hz2⟩:=info_parts di
 have HI:=Ha (Hb hi (Hb hz0 (Hb hz1 hz2)));clear hi hz0 hz1 hz2
 have hv0:=kQ hlb
 have hv:=(aq b).getD (n+1)
 have hsl:=nW hlb
 have hs0:=lu hv
 have hs1:=rX hv0
 obtain ⟨pb,cb,evb⟩:=hb.shape
 subst evb
 obtain ⟨pa,ca,eva⟩:=ha.shape
 subst eva
 have cbx:∃ bb boff,pb=some ⟨bb,boff,none⟩∧w.cell? ⟨bb,boff+(n+1),none⟩=some (.int .u64 ((dg b).getD (n+1) 0:Nat)):=by
  obtain ⟨p',cap',he,h1,h2,h3⟩:=hb
  obtain ⟨bb,boff,e,hc⟩:=h3 (by intro e;rw [e] at hlb;simp at hlb)
  simp only [Value.slice.injEq] at he
  exact ⟨bb,boff,he.1.trans e,hc (n+1) (by omega)⟩
 obtain ⟨bb,boff,rfl,cbx⟩:=cbx
 obtain ⟨s,hs⟩:∃ s,1000000000 / ((dg b).getD (n+1) 0+1)=s:=⟨_,rfl⟩
 rw [hs] at hsl hs0 hs1
 have cm1:=fun W (h:Below w.heap.size w W)=>fh _ (dg a) s W (Nats.next ha h) (aq a) (by omega) hs1
 have cm2:=fun W (h:Below w.heap.size w W)=>fh _ (dg b) s W (Nats.next hb h) (aq b) (by omega) hs1
 rw [ar] at cm1 cm2
 have CM:=Ha (Hb cm1 cm2)
 have HS:=Ha (Hb hsl (Hb hs0 (Hb hs1 (Hb hla hlb))))
 generalize (dg b).getD (n+1) 0=v at *
 have eS:(1000000000:Int) / ((v:Int)+1)=(s:Int):=by rw [←hs];exact (Int.natCast_ediv _ _).symm
 have hv1:¬ (v:Int)+1=0:=by omega
 have hv2:(((v:Int)+1)==0)=false:=by rw [beq_eq_false_iff_ne];omega
 have hcb:n+2≤cb:=by obtain ⟨p',cap',he,h1,h2,h3⟩:=hb;simp only [Value.slice.injEq] at he;omega
 clear hs hsl cm1 cm2
 rw [hla,hlb] at CM ⊢
 obtain ⟨L,hL⟩:∃ L,n+2=L:=⟨_,rfl⟩
 obtain ⟨i1,hi1⟩:∃ i,n+1=i:=⟨_,rfl⟩
 rw [hL] at CM hcb ⊢
 rw [hi1] at cbx
 have hj1:(L:Int) - 1=(i1:Int):=by omega
 have x1:(i1:Int)<(L:Int):=by omega
 have HL:=Ha (Hb hL hi1)
 have hLm:m+L≤900000:=by omega
 clear hL hi1 hm ha hb hla hlb
 go_enter Tryz.func235,Tryz.ntmps235
 go_wp2_with fail
 rw [eS]
 clear eS hv1 hv2 cbx
 refine (CM.out.1 _ (Below.refl _ _)).mono ?_
 rintro e w1 ⟨g1,c1,l1,rfl,hc1,hc1',hg1,hr1,hd1,hl1,ht1,hB1⟩
 have hwg1:=hr1.lt
 have CM2:=Ha (CM.out.2 w1 hB1)
 have HR1:=Ha (Hb hr1 (Hb hd1 (Hb ht1 hB1)))
 have HL1:=Ha hl1
 rw [hl1] at hc1 ⊢
 clear CM hr1 hd1 ht1 hB1
 go_wp2_with fail
 refine CM2.out.mono ?_
 rintro e w2 ⟨g2,c2,l2,rfl,hc2,hc2',hg2,hr2,hd2,hl2,ht2,hB2⟩
 have hg12:g1<g2:=by omega
 have hN2:=hr2.nats hc2 (by unfold maxLen at hc2';omega)
 have ct:=bv _ _ l2 w2 hN2 hd2
 have hN2':=hN2.take (aK hd2)
 rw [ht2] at ct hN2'
 rw [HS.out.1] at ct hN2'
 rw [show n+1+1=L from HL.out.1] at ct hN2'
 have CT:=Ha ct
 have hw2:=hr2.lt
 have HR2:=Ha (Hb (HR1.out.1.next hB2 hwg1) (Hb hN2' (HR1.out.2.2.2.trans (hB2.mono HR1.out.2.2.2.size))))
 have hsz1:w.heap.size≤w2.heap.size:=HR2.out.2.2.size
 clear CM2 hr2 hd2 ht2 hB2 hN2 hN2' ct
 rw [hl2] at hc2 CT ⊢
 clear hl2 hl1
 go_wp2_with fail
 refine CT.out.mono ?_
 rintro e w' ⟨rfl,rfl⟩
 clear CT
 have hm1:(m:Int)+(L:Int) - (L:Int)+1=((m+1:Nat):Int):=by omega
 go_wp2_with (at_make;refine wpList_make_full _ rfl _ _ 182 rfl w2.heap.size 143 i0 (.int .u64 0) 1 Tryz.underlying182 HI.out.1 HI.out.2.1 HI.out.2.2.1 .i64 .i64 _ _ (m+1) rfl rfl (by omega) (by omega) (by rw [HI.out.2.2.2];omega) (by unfold maxLen;omega) (Nat.le_refl _) ?_;intro w3 hown hgrow)
 have hQ:=Row.of_made hown
 have hwg3:=hQ.lt
 have hB3:Below w2.heap.size w2 w3:=(Below.refl _ w2).grown hgrow (Nat.le_refl _) (fun k e=>by cases e)
 have hr3:=HR2.out.1.next hB3 (by omega)
 have hn3:=Nats.next HR2.out.2.1 hB3
 have hbw:=HR2.out.2.2.trans (hB3.mono hsz1)
 have hwg2:=hB3.size
 clear hown hgrow hB3 HR2
 generalize hg3:w2.heap.size=g3 at *
 have hs0':=HS.out.2.1
 have hdb:=aq (b*s)
 have hYl:=HS.out.1
 have hYtop:0<(dg (b*s)).getD (n+1) 0:=kQ hYl
 have hst:toN (l1.drop (m+1))<b*s:=nX (a:=a) (b:=b) (s:=s) (m:=m) (n:=n+1) (la:=m+L) (by
   have:=cI (aq a);rw [ar,HS.out.2.2.2.1,HL.out.1] at this;exact this)
  (by
   have hb0:b≠0:=fun e=>by have h:=HS.out.2.2.2.2;rw [e,av] at h;simp at h
   obtain ⟨r,q1,q2,q3⟩:=fN b hb0
   rw [HS.out.2.2.2.2,show n+2 - 1=n+1 by omega] at q1 q2 q3
   have:=Nat.mul_le_mul_left (B ^ (n+1)) q2
   omega) hs0' HR1.out.2.2.1 HL1.out (by have:=HL.out.1;omega) (by omega)
 have hlen1:(l1.drop (m+1)).length=n+2:=by have h1:=HL1.out;have h2:=HL.out.1;rw [List.length_drop];omega
 have hat:Hid (a*s=toN (l1.take (m+1))+B ^ (m+1)*(toN (l1.drop (m+1))+b*s*toN ((List.replicate (m+1) 0).drop (m+1)))):=by
  show _=_
  rw [←HR1.out.2.2.1,show (List.replicate (m+1) 0).drop (m+1) = [] from List.drop_of_length_le (by rw [List.length_replicate];exact Nat.le_refl _)]
  rw [show toN []=0 from rfl,Nat.mul_zero (b*s),Nat.add_zero]
  have h:=bJ (l1.take (m+1)) (l1.drop (m+1))
  rw [List.take_append_drop,List.length_take,Nat.min_eq_left (by have:=HL1.out;omega)] at h
  exact h
 have HST:=Ha (Hb hst (Hb hlen1 (Hb hYl hYtop)))
 clear hst hlen1 hYl hYtop
 have HD1:=Ha (Hb hr3 (Hb hn3 hbw))
 have HD2:=Ha hdb
 clear hr3 hn3 hbw hdb
 go_loopw [10] (fun x wr=>∃ (j:Nat) (A X Z Q:List Nat),j≤m+1∧x = .int .i64 ((j:Int) - 1)∧A.length=j∧X.length=n+2∧A.length+X.length+Z.length=m+L+1∧Hid (Dig A∧Dig X∧Dig Z)∧Hid (toN Z=0) ∧
   Hid (RowC wr g1 (A++(X++Z)))∧Row wr g3 Q∧Q.length=m+1∧Hid (Dig Q)∧Hid (Nats wr (.slice (some ⟨g2,0,none⟩) L c2) (dg (b*s))) ∧
   Hid (a*s=toN A+B ^ j*(toN X+b*s*toN (Q.drop j)))∧Hid (toN X<b*s)∧Hid (Below w.heap.size w wr))
  (fun x _=>(intOf x+1).toNat)
 case atStart =>
  refine ⟨m+1,l1.take (m+1),l1.drop (m+1),[],List.replicate (m+1) 0,Nat.le_refl _,by go_num,?_,HST.out.2.1,?_,⟨HR1.out.2.1.take _,HR1.out.2.1.drop _,Dig.nil⟩,rfl,?_,hQ,List.length_replicate,Dig.replicate _,HD1.out.2.1,hat.out,HST.out.1,HD1.out.2.2⟩
  ·rw [List.length_take];have:=HL1.out;omega
  ·rw [List.length_take,List.length_drop,HL1.out];simp;omega
  ·show RowC _ _ _
   rw [List.append_nil,List.take_append_drop];exact HD1.out.1
 case round =>
  clear hQ hat
  obtain ⟨j,A,X,Z,Q,hj,rfl,hAl,hXl,hAXZ,hdig,hZ0,hrow,hQ,hQl,hQd,hby,hval,hXb,hbel⟩:=hrel
  cases j with
  | zero =>
   have eA:A = []:=List.eq_nil_of_length_eq_zero hAl
   subst eA
   have hv:=hval.out
   rw [List.drop_zero,Nat.pow_zero,Nat.one_mul,show toN []=0 from rfl,Nat.zero_add] at hv
   have hq:a / b=toN Q:=by
    rw [←(dt a b s hs0).1,hv,Nat.add_mul_div_left _ _ (by have:=hXb.out;omega),Nat.div_eq_of_lt hXb.out,Nat.zero_add]
   have hr:a % b*s=toN X:=by
    rw [←(dt a b s hs0).2,hv,Nat.add_mul_mod_self_left,Nat.mod_eq_of_lt hXb.out]
   obtain ⟨_,dX,dZ⟩:=hdig.out
   have R0:=hrow.out
   rw [List.nil_append] at R0
   have hlXZ:(X++Z).length=m+L+1:=by rw [List.length_append];simp at hAXZ;omega
   have hN1:Nats wr (.slice (some ⟨g1,0,none⟩) (X++Z).length c1) (X++Z):=R0.nats (by omega) (by unfold maxLen at hc1';omega)
   have eXZ:toN (X++Z)=a % b*s:=by rw [bJ,hZ0.out,Nat.mul_zero,Nat.add_zero,hr]
   have ct1:=bv _ _ (X++Z) wr hN1 (dX.append dZ)
   have hN2:=hN1.take (aK (dX.append dZ))
   rw [eXZ] at ct1 hN2
   rw [hlXZ] at ct1
   have hl3:(dg (a % b*s)).length≤1000000:=by
    have:=(aK (dX.append dZ)).length_le
    rw [eXZ] at this;omega
   have cd:=l6 _ (dg (a % b*s)) s wr hN2 (aq _) hl3 hs0 hs1
   rw [ar,Nat.mul_div_cancel _ (by omega)] at cd
   have CT1:=Ha ct1
   have CD:=Ha cd
   have HQ:=Ha (Hb hQ (Hb hq hQl))
   clear ct1 cd hv hq hr R0 hlXZ hN1 hN2 eXZ hl3 dX dZ hQ hrow hval hXb hby hdig hZ0 hAXZ
   generalize (dg (a % b*s)).length=l3 at *
   go_wp2_with fail
   refine CT1.out.mono ?_
   rintro e w' ⟨rfl,rfl⟩
   clear CT1
   go_wp2_with fail
   refine CD.out.mono ?_
   rintro e w4 ⟨r,rfl,hr,hrf,hrb,hro⟩
   obtain ⟨pr,cr,rfl⟩:=hr.shape
   have HRO:=Ha (OwnR.mono hro hbel.out.size)
   clear hro
   have hQ4:Row w4 g3 Q:=(hrb.block g3 HQ.out.1.lt).trans HQ.out.1
   have hN0:Nats w4 (.slice (some ⟨g3,0,none⟩) Q.length (m+1)) Q:=hQ4.nats (by omega) (by omega)
   have ct:=bv _ _ Q w4 hN0 hQd.out
   have hn:=hN0.take (aK hQd.out)
   rw [hQl,←HQ.out.2.1] at ct
   rw [←HQ.out.2.1] at hn
   have CT:=Ha ct
   have HN:=Ha (Hb hn (Hb hr (Hb hrf (hbel.out.trans (hrb.mono hbel.out.size)))))
   have hfr:=hbel.out.size
   clear CD ct hn hr hrf hrb hQ4 hN0
   go_wp2_with fail
   refine CT.out.mono ?_
   rintro e w' ⟨rfl,rfl⟩
   clear CT
   go_wp2
   go_ret2
   obtain ⟨n1,n2,n3,n4⟩:=HN.out
   exact ⟨_,_,rfl,n1,n2,fun k hk=>by have hk:some g3=some k:=hk;cases hk;omega,n3.mono hfr,n4,HRO.out⟩
  | succ j =>
   obtain ⟨A',x,rfl⟩:∃ A' x,A=A' ++ [x]:=by
    have:=bf A j (by omega)
    rw [List.take_of_length_le (by omega)] at this
    exact ⟨_,_,this⟩
   obtain ⟨X0,top,rfl⟩:∃ X0 top,X=X0 ++ [top]:=by
    have:=bf X (n+1) (by omega)
    rw [List.take_of_length_le (by omega)] at this
    exact ⟨_,_,this⟩
   have hAl':A'.length=j:=by simpa using hAl
   have hXl':X0.length=n+1:=by simpa using hXl
   obtain ⟨dA,dX,dZ⟩:=hdig.out
   have hx:x<1000000000:=dA x (by simp)
   have htop:top<1000000000:=dX top (by simp)
   have dX0:Dig (x::X0):=Dig.cons hx (fun y hy=>dX y (by simp [hy]))
   have dA':Dig A':=fun y hy=>dA y (by simp [hy])
   have R0:=hrow.out
   rw [show A' ++ [x]++(X0 ++ [top]++Z)=A'++((x::X0)++(top::Z)) by simp] at R0
   have eW:toN (x::X0)+B ^ (n+2)*top=x+B*toN (X0 ++ [top]):=by
    rw [gW,aQ,hXl',Nat.mul_add,←Nat.mul_assoc,Nat.mul_comm B (B ^ (n+1)),←Nat.pow_succ,Nat.add_assoc]
   have hlt:x+B*toN (X0 ++ [top])<B*(b*s):=by
    have h1:B*(toN (X0 ++ [top])+1)≤B*(b*s):=Nat.mul_le_mul_left _ hXb.out
    rw [Nat.mul_add,Nat.mul_one] at h1
    have:x<B:=hx
    omega
   have ct:=lE g1 n (c1 - j) top _ A' (x::X0) Z (dg (b*s)) wr R0 hby.out dX0 HD2.out htop (by simp [hXl']) HST.out.2.2.1 (by have:=HL.out.1;omega) (by omega) (by omega) (by unfold maxLen at hc1';omega)
    (by intro e;have e:some g2=some g1:=e;simp at e;omega) HST.out.2.2.2 (by rw [eW,ar];exact hlt)
   rw [eW,ar,hAl',show n+3=L+1 by have:=HL.out.1;omega] at ct
   have CT:=Ha ct
   clear ct R0
   have ej:(((j+1:Nat):Int) - 1)=(j:Int):=by omega
   rw [ej]
   clear ej
   go_wp2_with fail
   rw [show j+L+1 - j=L+1 by omega]
   refine CT.out.mono ?_
   rintro e w4 ⟨X',dX',lX',vX',rfl,hr',ho⟩
   have hQ4:Row w4 g3 Q:=(ho.block g3 (by omega) hQ.lt).trans hQ
   have co:=hQ4.cell (i:=j) (by omega)
   have fo:=hQ4.frozen j
   have hq:(x+B*toN (X0 ++ [top])) / (b*s)<1000000000:=by
    rw [Nat.div_lt_iff_lt_mul (by have:=hXb.out;omega)];exact hlt
   have HF:=Ha (Hb dX' (Hb lX' (Hb vX' (Hb hr' ho))))
   have HE:=Ha (Hb hq hQ4)
   clear CT dX' lX' vX' hr' ho hQ hlt eW
   have hQn:=hQl
   have hvn:a*s=toN A'+B ^ j*x+B ^ j*B*(toN (X0 ++ [top])+b*s*toN (Q.drop (j+1))):=by
    have:=hval.out
    rw [aQ,hAl',Nat.pow_succ] at this
    exact this
   have HV:=Ha (Hb (oX hvn) (Hb dA' (Hb dZ (Hb hXb.out (Hb hby.out hbel.out)))))
   have HZ:=Ha hZ0.out
   clear hvn hval dA' dZ hXb hby hbel hdig dA dX dX0 hrow hXl hAl
   generalize Q.getD j 0=q0 at *
   generalize eW:(x+B*toN (X0 ++ [top])) / (b*s)=qj at *
   generalize eM:(x+B*toN (X0 ++ [top])) % (b*s)=rj at *
   have HEM:=Ha eM
   clear eW eM
   have RQ:=Ha (HE.out.2.set j qj)
   go_wp2
   go_roundw
   case rel =>
    obtain ⟨dX',lX',vX',hr',ho⟩:=HF.out
    obtain ⟨h1,dA',dZ,hXb,hby,hbel⟩:=HV.out
    have ho2:Below w.heap.size w w4:=ho.below hbel (by omega) hbel.size
    have hw4:=ho2.size
    refine ⟨j,A',X',0::Z,Q.set j qj,by omega,by go_num,hAl',lX',?_,⟨dA',dX',Dig.cons (by decide) dZ⟩,?_,?_,RQ.out,by rw [List.length_set];exact hQl,hQd.out.set _ HE.out.1,?_,?_,?_,ho2.setCell (p:=⟨g3,j,none⟩) (by show _≤g3;omega) _⟩
    ·simp at hAXZ ⊢; omega
    ·show toN (0::Z)=0
     rw [gW,HZ.out,Nat.mul_zero]
    ·exact hr'.of_block (Below.heap_setCell _ _ _ _ (by show g1≠g3;omega))
    ·have h2:=ho.nats (by intro e;have e:some g2=some g1:=e;simp at e;omega) hby
     exact h2.setCell_off (by intro e;have e:some g2=some g3:=e;simp at e;omega) _
    ·show a*s=_
     rw [iV (by omega),gW,vX'];exact h1
    ·show toN X'<b*s
     rw [vX',←HEM.out];exact Nat.mod_lt _ (by omega)
   case measure=>simp [intOf]
theorem mJ (va vb:Value) (a b:Nat) (w:World) (ha:IsNat w va a) (hb:IsNat w vb b) (h0:b≠0) (hla:(dg a).length≤900000) (hba:b≤a) (hl2:2≤(dg b).length) :
  Calls Tryz.prog 214 #[va,vb] w fun e W'=>∃ q r,e = .returned (.tuple #[q,r])∧IsNat W' q (a / b)∧IsNat W' r (a % b)∧Below w.heap.size w W'∧OwnR W' w.heap.size r (a % b):=by
 have cc:=eK va vb a b w ha hb
 have hlt:¬ a<b:=by omega
 have hl:¬ (dg b).length=1:=by omega
 have hcmp:¬ bW a b<0:=by
  unfold bW;rw [if_neg hlt];split <;> omega
 obtain ⟨c,hc⟩:∃ c,bW a b=c:=⟨_,rfl⟩
 rw [hc] at cc hcmp
 have CC:=Ha cc
 have hp:=aR h0
 have hle:=aC (Nat.le_of_not_lt hlt)
 obtain ⟨n,hn⟩:∃ n,(dg b).length=n+2:=⟨(dg b).length - 2,by omega⟩
 obtain ⟨m,hm⟩:∃ m,(dg a).length=m+(n+2):=⟨(dg a).length - (n+2),by omega⟩
 have cd:=fun k=>mI va vb a b n m (w.drewN k) (ha.next (Below.drewK _ _ k)) (hb.next (Below.drewK _ _ k)) hm hn (by omega)
 have CD:=Ha cd
 obtain ⟨pa,ca,rfl⟩:=ha.shape
 obtain ⟨pb,cb,rfl⟩:=hb.shape
 have hne:(((dg b).length:Int)==1)=false:=by rw [beq_eq_false_iff_ne];omega
 clear cc cd ha hb hc hlt hp hle hm hn hla hba hl2 h0
 generalize (dg a).length=la at *
 generalize (dg b).length=lb at *
 go_enter Tryz.func214,Tryz.ntmps214
 go_wp2_with fail
 refine CC.out.mono ?_
 rintro e w' ⟨rfl,k,rfl⟩
 clear CC
 go_wp2_with fail
 refine (CD.out k).mono ?_
 rintro e w1 ⟨q,r,rfl,hq,hr,hqf,hrf,hqb,hro⟩
 obtain ⟨pq,cq,rfl⟩:=hq.shape
 obtain ⟨pr,cr,rfl⟩:=hr.shape
 have HRO:=Ha (show OwnR w1 w.heap.size _ _ from hro)
 clear hro
 have HQ:=Ha (Hb hq (Hb hr (Hb hqf (Hb hrf ((Below.drewK _ w k).trans hqb)))))
 clear hq hr hqf hrf hqb CD
 generalize (dg (a / b)).length=lq at *
 go_wp2
 go_ret2
 obtain ⟨q1,q2,q3,q4,q5⟩:=HQ.out
 exact ⟨_,_,rfl,q1,q2,q5,HRO.out⟩
end
section
open Go.RowKit
theorem uF {n k sc:Nat} (hn:n<B ^ (k+3)) (hsc:sc∣1000000000) (h0:0<sc) (ht:((dg n).getD (k+2) 0+1)*sc≤1000000000) :
  let P:=((dg n).getD (k+2) 0*1000000000+(dg n).getD (k+1) 0)*sc+(dg n).getD k 0 / (1000000000 / sc)
  P<1000000000000000000∧((dg n).getD (k+2) 0*1000000000+(dg n).getD (k+1) 0)*sc<1000000000000000000∧∃ r,r<B ^ (k+1)∧n*sc=P*B ^ (k+1)+r:=by
 have e2:(dg n).getD (k+2) 0=n / B ^ k / B / B:=by
  rw [cY,Nat.pow_succ,Nat.pow_succ,Nat.mul_assoc,←Nat.div_div_eq_div_mul,←Nat.div_div_eq_div_mul]
  refine Nat.mod_eq_of_lt ?_
  rw [Nat.div_lt_iff_lt_mul bP,Nat.div_lt_iff_lt_mul bP,Nat.div_lt_iff_lt_mul (Nat.pow_pos bP)]
  have:B*B*B*B ^ k=B ^ (k+3):=by rw [Nat.pow_succ,Nat.pow_succ,Nat.pow_succ];grind
  omega
 have e1:(dg n).getD (k+1) 0=n / B ^ k / B % B:=by
  rw [cY,Nat.pow_succ,←Nat.div_div_eq_div_mul]
 have e0:(dg n).getD k 0=n / B ^ k % B:=cY n k
 intro P
 have h1:=(aq n).getD (k+1)
 have h3:=(aq n).getD k
 have hm:=Nat.mod_add_div n (B ^ k)
 have hlow:=Nat.mod_lt n (show 0<B ^ k from Nat.pow_pos bP)
 have hX:=Nat.mod_add_div (n / B ^ k) B
 have hY:=Nat.mod_add_div (n / B ^ k / B) B
 rw [←e0] at hX
 rw [←e1,←e2] at hY
 obtain ⟨m,hm9⟩:=hsc
 have hmp:0<m:=by
  rcases Nat.eq_zero_or_pos m with h | h
  ·rw [h] at hm9;omega
  ·exact h
 have hdiv:1000000000 / sc=m:=by rw [hm9];exact Nat.mul_div_cancel_left m h0
 have hP:P=((dg n).getD (k+2) 0*1000000000+(dg n).getD (k+1) 0)*sc+(dg n).getD k 0 / m:=by show _+_ / (1000000000 / sc)=_;rw [hdiv]
 generalize P=P' at *
 generalize (dg n).getD (k+2) 0=d2 at *
 generalize (dg n).getD (k+1) 0=d1 at *
 generalize (dg n).getD k 0=d0 at *
 generalize n % B ^ k=low at *
 generalize n / B ^ k / B=Y at *
 generalize n / B ^ k=X at *
 have hq:=Nat.mod_add_div d0 m
 have hqm:=Nat.mod_lt d0 hmp
 have hql:d0 / m<sc:=by rw [Nat.div_lt_iff_lt_mul hmp,←hm9];exact h3
 generalize d0 / m=u at *
 generalize d0 % m=v at *
 have hb1:(d2*1000000000+d1+1)*sc≤(d2+1)*1000000000*sc:=Nat.mul_le_mul_right _ (by omega)
 have hb2:(d2+1)*sc*1000000000≤1000000000*1000000000:=Nat.mul_le_mul_right _ ht
 have hb3:(d2+1)*1000000000*sc=(d2+1)*sc*1000000000:=by grind
 have hb4:(d2*1000000000+d1+1)*sc=(d2*1000000000+d1)*sc+sc:=Nat.succ_mul _ _
 refine ⟨by omega,by omega,low*sc+B ^ k*(v*sc),?_,?_⟩
 ·have g1:low*sc<B ^ k*sc:=Nat.mul_lt_mul_of_pos_right hlow h0
  have g2:(v+1)*sc≤m*sc:=Nat.mul_le_mul_right _ hqm
  have g3:B ^ k*((v+1)*sc)≤B ^ k*(m*sc):=Nat.mul_le_mul_left _ g2
  have g4:m*sc=B:=by rw [Nat.mul_comm,←hm9];rfl
  rw [g4,Nat.add_mul,Nat.one_mul,Nat.mul_add] at g3
  rw [Nat.pow_succ]
  omega
 ·have hB:(B:Nat)=sc*m:=by rw [←hm9];rfl
  have hB2:(1000000000:Nat)=B:=rfl
  rw [Nat.pow_succ]
  rw [hP,hB2,←hm,←hX,←hY,←hq]
  generalize B ^ k=Z at *
  clear hb1 hb2 hb3 hb4 hm hX hY hq hP ht hm9 hdiv e0 e1 e2 hn
  grind
theorem lH (v:Value) (n k sc:Nat) (w:World) (h:IsNat w v n) (hn:n<B ^ (k+3)) (hk:k≤1000) (hsc:sc∣1000000000) (h0:0<sc) (ht:((dg n).getD (k+2) 0+1)*sc≤1000000000) :
  Calls Tryz.prog 250 #[v,.int .i64 ((k+3:Nat):Int),.int .u64 sc] w fun e w'=>∃ P:Nat,e = .returned (.int .u64 P)∧P<1000000000000000000∧(∃ r,r<B ^ (k+1)∧n*sc=P*B ^ (k+1)+r)∧Below w.heap.size w w':=by
 have cc:∀ (i:Nat) (q x:Nat),(dg n).getD i 0=x→i≤1003→Calls Tryz.prog 232 #[v,.int .i64 (i:Nat)] (w.drewN q) fun e w'=>e = .returned (.int .u64 (x:Nat))∧w'=w.drewN q:=fun i q x hx hi=>by
  have c:=pM v (dg n) (i:Int) (w.drewN q) (Nats.next h (Below.drewK _ _ q)) (by omega) (by omega)
  rw [Int.toNat_natCast,hx] at c
  exact c.mono (fun e w' (hh:_∧_)=>Hb hh.1 hh.2.symm)
 obtain ⟨hP,hPm,hr⟩:=uF hn hsc h0 ht
 have d2:=(aq n).getD (k+2)
 have d1:=(aq n).getD (k+1)
 have d0:=(aq n).getD k
 obtain ⟨P,hPe⟩:∃ P,((dg n).getD (k+2) 0*1000000000+(dg n).getD (k+1) 0)*sc+(dg n).getD k 0 / (1000000000 / sc)=P:=⟨_,rfl⟩
 rw [hPe] at hP hr
 have HR:=Ha (Hb hP hr)
 have C:=Ha cc
 have hsl:sc≤1000000000:=Nat.le_of_dvd (by decide) hsc
 have hm1:1≤1000000000 / sc:=by rw [Nat.le_div_iff_mul_le h0];omega
 have hm2:=Nat.div_le_self 1000000000 sc
 clear cc hr hn ht hsc h hP
 generalize g2:(dg n).getD (k+2) 0=x2 at *
 generalize g1:(dg n).getD (k+1) 0=x1 at *
 generalize g0:(dg n).getD k 0=x0 at *
 obtain ⟨m,hm⟩:∃ m,1000000000 / sc=m:=⟨_,rfl⟩
 rw [hm] at hm1 hm2 hPe
 have em:(1000000000:Int) / (sc:Int)=(m:Int):=by rw [←hm];exact (Int.natCast_ediv _ _).symm
 have hs0:¬ (sc:Int)=0:=by omega
 have hs1:((sc:Int)==0)=false:=by rw [beq_eq_false_iff_ne];omega
 have hm0:¬ (m:Int)=0:=by omega
 have hmb:((m:Int)==0)=false:=by rw [beq_eq_false_iff_ne];omega
 obtain ⟨u,hu⟩:∃ u,x0 / m=u:=⟨_,rfl⟩
 have eu:(x0:Int) / (m:Int)=(u:Int):=by rw [←hu];exact (Int.natCast_ediv _ _).symm
 have hub:u≤999999999:=by have:=Nat.div_le_self x0 m;omega
 rw [hu] at hPe
 obtain ⟨M,hM⟩:∃ M,(x2*1000000000+x1)*sc=M:=⟨_,rfl⟩
 have eM:((x2:Int)*1000000000+(x1:Int))*(sc:Int)=(M:Int):=by
  rw [←hM,Int.natCast_mul,Int.natCast_add,Int.natCast_mul];rfl
 rw [hM] at hPe hPm
 have k2:((k+3:Nat):Int) - 1=((k+2:Nat):Int):=by omega
 have k1:((k+3:Nat):Int) - 2=((k+1:Nat):Int):=by omega
 have k0:((k+3:Nat):Int) - 3=(k:Int):=by omega
 have HP:=Ha hPe
 clear hu hM hm hPe
 obtain ⟨K3,hK3⟩:∃ i,k+3=i:=⟨_,rfl⟩
 obtain ⟨K2,hK2⟩:∃ i,k+2=i:=⟨_,rfl⟩
 obtain ⟨K1,hK1⟩:∃ i,k+1=i:=⟨_,rfl⟩
 rw [hK3] at k2 k1 k0 ⊢
 rw [hK2] at k2 g2
 rw [hK1] at k1 g1
 have HKK:=Ha (Hb hK3 (Hb hK2 hK1))
 have hK3b:K3≤1003:=by omega
 rw [hK1] at HR
 have b2:K2≤1003:=by omega
 have b1:K1≤1003:=by omega
 have b0:k≤1003:=by omega
 clear hK3 hK2 hK1
 go_enter Tryz.func250,Tryz.ntmps250
 go_wp2
 go_quiet ((go_at_call 232;exact Calls.quiet_of_same (C.out _ _ _ (by assumption) (by assumption))))
 have eP:(M:Int)+(u:Int)=((P:Nat):Int):=by have:=HP.out;omega
 rw [eP]
 go_wp2
 go_ret
 obtain ⟨hP,hr⟩:=HR.out
 exact ⟨P,rfl,hP,by rw [HKK.out.2.2];exact hr,Below.drewK _ _ _⟩
end
end Go.Proofs.YtjdomibbaemdnaaGreatDoor
