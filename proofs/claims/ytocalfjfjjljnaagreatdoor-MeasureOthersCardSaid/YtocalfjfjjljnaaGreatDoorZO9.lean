/- Parts of the proof of the text YtocalfjfjjljnaaGreatDoorZO44. -/
import Derived.Deep.RegionHeld3
import Derived.Test.YtocalfjfjjljnaaGreatDoorZO1
import Derived.Test.YtocalfjfjjljnaaGreatDoorZO3
import Derived.Test.YtocalfjfjjljnaaGreatDoorZO4
import Derived.Test.YtocalfjfjjljnaaGreatDoorZO5
import Derived.Test.YtocalfjfjjljnaaGreatDoorZO7
set_option linter.all false
set_option maxRecDepth 100000
set_option maxHeartbeats 8000000
namespace Go.Proofs.YtocalfjfjjljnaaGreatDoor
section
open Go.Lib
def ag (q:Rat):ByteArray:=⟨(cW q).toArray⟩
theorem be (q:Rat):(ag q).data.toList=cW q:=by unfold ag;simp
theorem iE (q:Rat):dq (ag q).data.toList=q:=by rw [be,iZ]
theorem sW {q:Rat} (h:q.num.natAbs<lim) (h':q.den<lim):aM (ag q).data.toList=0:=by rw [be,nF,if_pos ⟨h,h'⟩]
theorem gP {s:ByteArray} (h:aM s.data.toList=0):s=ag (dq s.data.toList):=by
 unfold ag;rw [mD h]
def short (z:Int):Prop:=z.natAbs<lim
instance (z:Int):Decidable (short z):=inferInstanceAs (Decidable (_<_))
def kL (n d:Int):ByteArray:=if short n∧short d then ag (Rat.divInt n d) else ⟨#[]⟩
def kM (n d:Int):Int:=if short n∧short d then 0 else 4
def cI (x y:Rat):Prop:=short (x.num*y.den)∧short (y.num*x.den)
instance (x y:Rat):Decidable (cI x y):=inferInstanceAs (Decidable (_∧_))
def fK (x y:Rat):ByteArray:=if cI x y then kL (x.num*y.den+y.num*x.den) (x.den*y.den) else ⟨#[]⟩
def fL (x y:Rat):Int:=if cI x y then kM (x.num*y.den+y.num*x.den) (x.den*y.den) else 4
def sX (x y:Rat):ByteArray:=if cI x y then kL (x.num*y.den - y.num*x.den) (x.den*y.den) else ⟨#[]⟩
def sY (x y:Rat):Int:=if cI x y then kM (x.num*y.den - y.num*x.den) (x.den*y.den) else 4
def kf (x y:Rat):ByteArray:=kL (x.num*y.num) (x.den*y.den)
def kg (x y:Rat):Int:=kM (x.num*y.num) (x.den*y.den)
def kh (x y:Rat):ByteArray:=kL (x.num*y.den) (y.num*x.den)
def kj (x y:Rat):Int:=kM (x.num*y.den) (y.num*x.den)
theorem vC (x y:Rat):Rat.divInt (x.num*y.den+y.num*x.den) (x.den*y.den)=x+y:=by
 rw [Rat.add_def',←Rat.divInt_ofNat,Int.natCast_mul]
theorem vD (x y:Rat):Rat.divInt (x.num*y.den - y.num*x.den) (x.den*y.den)=x - y:=by
 rw [Rat.sub_def',←Rat.divInt_ofNat,Int.natCast_mul]
theorem vE (x y:Rat):Rat.divInt (x.num*y.num) (x.den*y.den)=x*y:=by
 rw [Rat.mul_def',←Rat.divInt_ofNat,Int.natCast_mul]
theorem vF (x y:Rat):Rat.divInt (x.num*y.den) (y.num*x.den)=x / y:=by
 rw [Rat.div_def,Rat.inv_def,Int.mul_comm y.num]
 conv=>rhs;arg 1;rw [←Rat.num_divInt_den x]
 rw [Rat.divInt_mul_divInt]
def Bq (k:Nat) (q:Rat):Prop:=q.num.natAbs<aA k∧q.den<aA k
theorem Bq.lim {k:Nat} {q:Rat} (h:Bq k q) (hk:k≤300):q.num.natAbs<lim∧q.den<lim :=
 ⟨Nat.lt_of_lt_of_le h.1 (ay hk),Nat.lt_of_lt_of_le h.2 (ay hk)⟩
theorem Bq.up {j k:Nat} {q:Rat} (h:Bq j q) (hk:j≤k):Bq k q :=
 ⟨Nat.lt_of_lt_of_le h.1 (ay hk),Nat.lt_of_lt_of_le h.2 (ay hk)⟩
theorem Bq.chk {k:Nat} {q:Rat} (h:Bq k q) (hk:k≤300):aM (ag q).data.toList=0:=sW (h.lim hk).1 (h.lim hk).2
theorem Bq.num {k:Nat} {q:Rat} (h:Bq k q):Bd k q.num:=h.1
theorem Bq.den {k:Nat} {q:Rat} (h:Bq k q):Bd k (q.den:Int):=by show Int.natAbs _<_;rw [Int.natAbs_natCast];exact h.2
theorem Bq.of_int {k : Nat} {n d : Int} (hd : d ≠ 0) (h1 : Bd k n) (h2 : Bd k d) : Bq k (Rat.divInt n d) := by
 have h3 : (Rat.divInt n d).num.natAbs ≤ n.natAbs := by
   rw [Rat.num_divInt, Int.natAbs_ediv_of_dvd (by
     refine Int.dvd_trans ?_ (Int.dvd_mul_left _ _)
     exact Int.gcd_dvd_right _ _), Int.natAbs_mul]
   refine Nat.le_trans (Nat.div_le_self _ _) ?_
   have : d.sign.natAbs ≤ 1 := by rcases Int.lt_trichotomy d 0 with q | q | q
                                  · rw [Int.sign_eq_neg_one_of_neg q]; decide
                                  · exact absurd q hd
                                  · rw [Int.sign_eq_one_of_pos q]; decide
   calc _ ≤ 1 * n.natAbs := Nat.mul_le_mul_right _ this
     _ = n.natAbs := Nat.one_mul _
 have h4 : (Rat.divInt n d).den ≤ d.natAbs := by
   rw [Rat.den_divInt, if_neg hd]; exact Nat.div_le_self _ _
 exact ⟨Nat.lt_of_le_of_lt h3 h1, Nat.lt_of_le_of_lt h4 h2⟩
theorem qW (x y:Rat):((x.den:Int)*y.den)≠0:=by
 have h1:=x.den_nz;have h2:=y.den_nz
 rw [←Int.natCast_mul]
 intro h
 have:=Int.ofNat.inj (h:Int.ofNat _=Int.ofNat 0)
 rcases Nat.mul_eq_zero.1 this with q | q
 ·exact h1 q
 ·exact h2 q
theorem ny {k:Nat} {n d:Int} (hk:k≤300) (h1:Bd k n) (h2:Bd k d):kL n d=ag (Rat.divInt n d)∧kM n d=0:=by
 have h:short n∧short d:=⟨h1.lt hk,h2.lt hk⟩
 exact ⟨if_pos h,if_pos h⟩
theorem pN {j k:Nat} {x y:Rat} (hx:Bq j x) (hy:Bq k y) (h:j+k≤300):cI x y :=
 ⟨(hx.num.mul hy.den).lt h,(hy.num.mul hx.den).lt (by omega)⟩
theorem nA {j k:Nat} {x y:Rat} (hx:Bq j x) (hy:Bq k y) (h:j+k+1≤300):fK x y=ag (x+y)∧fL x y=0∧Bq (j+k+1) (x+y):=by
 have h1:=hx.num.mul hy.den
 have h2:=hy.num.mul hx.den
 rw [Nat.add_comm] at h2
 have h3:=h1.add h2
 have h4:=(hx.den.mul hy.den).up (Nat.le_succ _)
 obtain ⟨l1,l2⟩:=ny h h3 h4
 have hc:=pN hx hy (by omega)
 unfold fK fL
 rw [if_pos hc,if_pos hc,l1,l2,vC]
 exact ⟨rfl,rfl,by rw [←vC];exact Bq.of_int (qW x y) h3 h4⟩
theorem BD {j k:Nat} {x y:Rat} (hx:Bq j x) (hy:Bq k y) (h:j+k+1≤300):sX x y=ag (x - y)∧sY x y=0∧Bq (j+k+1) (x - y):=by
 have h1:=hx.num.mul hy.den
 have h2:=hy.num.mul hx.den
 rw [Nat.add_comm] at h2
 have h3:=h1.sub h2
 have h4:=(hx.den.mul hy.den).up (Nat.le_succ _)
 obtain ⟨l1,l2⟩:=ny h h3 h4
 have hc:=pN hx hy (by omega)
 unfold sX sY
 rw [if_pos hc,if_pos hc,l1,l2,vD]
 exact ⟨rfl,rfl,by rw [←vD];exact Bq.of_int (qW x y) h3 h4⟩
theorem fS {j k:Nat} {x y:Rat} (hx:Bq j x) (hy:Bq k y) (h:j+k≤300):kf x y=ag (x*y)∧kg x y=0∧Bq (j+k) (x*y):=by
 have h3:=hx.num.mul hy.num
 have h4:=hx.den.mul hy.den
 obtain ⟨l1,l2⟩:=ny h h3 h4
 unfold kf kg
 rw [l1,l2,vE]
 exact ⟨rfl,rfl,by rw [←vE];exact Bq.of_int (qW x y) h3 h4⟩
theorem nB {j k:Nat} {x y:Rat} (hx:Bq j x) (hy:Bq k y) (h:j+k≤300) (h0:y≠0):kh x y=ag (x / y)∧kj x y=0∧Bq (j+k) (x / y):=by
 have h3:=hx.num.mul hy.den
 have h4:=hy.num.mul hx.den
 rw [Nat.add_comm] at h4
 obtain ⟨l1,l2⟩:=ny h h3 h4
 have hn:y.num*(x.den:Int)≠0:=by
  intro q
  rcases Int.mul_eq_zero.1 q with q | q
  ·exact h0 (Rat.num_eq_zero.1 q)
  ·exact x.den_nz (Int.ofNat.inj q)
 unfold kh kj
 rw [l1,l2,vF]
 exact ⟨rfl,rfl,by rw [←vF];exact Bq.of_int hn h3 h4⟩
end
section
open Go.RowKit
theorem fl {l:List Nat} {j:Nat} (h:j<l.length):l.drop j=l.getD j 0::l.drop (j+1):=by
 rw [List.drop_eq_getElem_cons h,List.getD_eq_getElem?_getD,List.getElem?_eq_getElem h];rfl
theorem jA {l:List Nat} {j x:Nat} (h:j<l.length):(l.set j x).drop j=x::l.drop (j+1):=by
 rw [fl (by rw [List.length_set];exact h),List.getD_eq_getElem?_getD,List.getElem?_set_self h,List.drop_set_of_lt (Nat.lt_succ_self j)];rfl
theorem lm {la o:List Nat} {b r j:Nat} (hj:j<la.length) (hl:o.length=la.length) (h:toN (la.drop (j+1))=b*toN (o.drop (j+1))+r) :
  toN (la.drop j)=b*toN ((o.set j ((r*1000000000+la.getD j 0) / b)).drop j)+(r*1000000000+la.getD j 0) % b:=by
 rw [fl hj,jA (by omega)]
 show la.getD j 0+B*toN _=b*((r*1000000000+la.getD j 0) / b+B*toN _)+_
 rw [h]
 have e:=Nat.div_add_mod (r*1000000000+la.getD j 0) b
 generalize (r*1000000000+la.getD j 0) / b=q at *
 generalize (r*1000000000+la.getD j 0) % b=s at *
 generalize toN (o.drop (j+1))=T at *
 have hB:B=1000000000:=rfl
 rw [hB,Nat.mul_add b q,Nat.mul_add 1000000000 (b*T) r]
 have:b*(1000000000*T)=1000000000*(b*T):=Nat.mul_left_comm _ _ _
 omega
theorem qm {b r d:Nat} (hb0:0<b) (hb:b<1000000000) (hr:r<b) (hd:d<1000000000) :
  (r*1000000000+d) / b<1000000000∧(r*1000000000+d) % b<b∧r*1000000000+d<1000000000000000000:=by
 refine ⟨?_,Nat.mod_lt _ hb0,by omega⟩
 rw [Nat.div_lt_iff_lt_mul hb0]
 have:(r+1)*1000000000≤b*1000000000:=Nat.mul_le_mul_right _ hr
 omega
theorem iW (v:Value) (la:List Nat) (b:Nat) (w:World) (ha:Nats w v la) (da:Dig la) (hla:la.length≤1000000) (hb0:0<b) (hb:b<1000000000) :
  Calls Tryz.prog 174 #[v,.int .u64 b] w fun e W'=>∃ q,e = .returned (.tuple #[q,.int .u64 (toN la % b:Nat)])∧IsNat W' q (toN la / b)∧Fresh w.heap.size q∧Below w.heap.size w W':=by
 obtain ⟨pa,capa,rfl,ha1,ha2,ha3⟩:=ha
 have HA:=Ha ha3;clear ha3
 obtain ⟨i0,hi,hz0,hz1,hz2⟩:=info_parts dL
 have HI:=Ha (Hb hi (Hb hz0 (Hb hz1 hz2)));clear hi hz0 hz1 hz2
 have HD:=Ha da;clear da
 have hne:((b:Int)==0)=false:=by rw [beq_eq_false_iff_ne];omega
 have hne2:¬ (b:Int)=0:=by omega
 go_enter Tryz.func174,Tryz.ntmps174
 go_wp2_with (at_make;refine wpList_make_full _ rfl _ _ 115 rfl w.heap.size 156 i0 (.int .u64 0) 1 Tryz.underlying115 HI.out.1 HI.out.2.1 HI.out.2.2.1 .i64 .i64 _ _ (la.length) rfl rfl (by omega) (by omega) (by rw [HI.out.2.2.2];omega) (by unfold maxLen;omega) (Nat.le_refl _) ?_;intro w1 hown hgrow)
 have hrow:=Row.of_made hown
 have hB1:Below w.heap.size w w1:=(Below.refl _ w).grown hgrow (Nat.le_refl _) (fun k e=>by cases e)
 have hgl:=hrow.lt
 clear hown hgrow
 generalize hg:w.heap.size=g at *
 have HG:=Ha hg;clear hg
 go_loopw [7,8] (fun y x wr=>∃ (r j:Nat) (o:List Nat),j≤la.length∧x = .int .i64 ((j:Int) - 1)∧y = .int .u64 r∧r<b∧Row wr g o∧o.length=la.length∧Hid (Dig o)∧Hid (toN (la.drop j)=b*toN (o.drop j)+r)∧Below g w wr)
  (fun _ x _=>(intOf x+1).toNat)
 case atStart =>
  exact ⟨0,la.length,List.replicate la.length 0,Nat.le_refl _,by go_num,rfl,hb0,hrow,List.length_replicate,Dig.replicate _,by show toN _=_;rw [List.drop_length,List.drop_eq_nil_of_le (by rw [List.length_replicate];exact Nat.le_refl _)];simp [toN],hB1⟩
 case round =>
  clear hrow hB1 hgl
  obtain ⟨r,j,o,hj,rfl,rfl,hr,hrow,hlen,hdig,hval,hbel⟩:=hrel
  cases j with
  | zero =>
   have hv:toN la=b*toN o+r:=hval.out
   have hq:toN la / b=toN o:=by rw [hv,Nat.mul_add_div hb0,Nat.div_eq_of_lt hr,Nat.add_zero]
   have hm:toN la % b=r:=by rw [hv,Nat.mul_add_mod,Nat.mod_eq_of_lt hr]
   have hN0:Nats wr (.slice (some ⟨g,0,none⟩) o.length la.length) o:=hrow.nats (by omega) (by omega)
   have ct:=bJ _ _ o wr hN0 hdig.out
   have hn:=hN0.take (aL hdig.out)
   rw [hlen] at ct
   rw [←hq] at ct hn
   have HM:=Ha hm
   have CT:=Ha ct
   have HN:=Ha hn
   have HBL:=Ha hbel
   clear hval ct hn hv hN0 hm hq hbel hrow
   go_wp2_with fail
   refine CT.out.mono ?_
   clear CT
   rintro e w' ⟨rfl,rfl⟩
   go_wp2
   go_ret2
   refine ⟨.slice (some ⟨g,0,none⟩) (dg (toN la / b)).length la.length,?_,HN.out,fun k hk=>by cases hk;exact Nat.le_of_eq HG.out,by rw [HG.out];exact HBL.out⟩
   show Ending.returned (.tuple #[.slice (some ⟨g,0,none⟩) (dg (toN la / b)).length la.length,.int .u64 (r:Nat)])=_
   rw [HM.out]
  | succ j =>
   obtain ⟨ab,aoff,rfl,hca⟩:=HA.out (by intro e;subst e;simp at hj)
   have ca0:=hca j (by omega)
   have cax:wr.cell? ⟨ab,aoff+j,none⟩=some (.int .u64 (la.getD j 0:Nat)):=(hbel.cell (p:=⟨ab,aoff+j,none⟩) (by rw [←HG.out];exact World.block_lt_of_cell? w _ ca0)).trans ca0
   clear ca0 hca
   have co:=hrow.cell (i:=j) (by omega)
   have fo:=hrow.frozen j
   have hst:=lm (la:=la) (o:=o) (b:=b) (r:=r) (j:=j) (by omega) hlen hval.out
   have hx:=HD.out.getD j
   have hbd:=qm hb0 hb hr hx
   have R3:=hrow.set j ((r*1000000000+la.getD j 0) / b)
   generalize la.getD j 0=x at *
   have HS:=Ha (Hb hst (Hb hbd R3))
   clear hst hbd R3 hval
   have hr':(r:Int)≤999999998:=by omega
   go_wp2
   have ht:(r:Int)*1000000000+(x:Int)=((r*1000000000+x:Nat):Int):=by rw [Int.natCast_add,Int.natCast_mul];rfl
   rw [ht]
   clear ht
   obtain ⟨t,ht⟩:∃ t,r*1000000000+x=t:=⟨_,rfl⟩
   rw [ht] at HS
   rw [ht]
   have q1:((t / b:Nat):Int)=(t:Int) / (b:Int):=Int.natCast_ediv _ _
   have q2:((t % b:Nat):Int)=(t:Int) % (b:Int):=Int.natCast_emod _ _
   have hq:t / b<1000000000:=HS.out.2.1.1
   have hm:t % b<b:=HS.out.2.1.2.1
   have ht1:t<1000000000000000000:=HS.out.2.1.2.2
   have w1:0≤(t:Int) / (b:Int):=Int.ediv_nonneg (by omega) (by omega)
   have w2:(t:Int) / (b:Int)≤999999999:=by rw [←q1];clear q1 q2;generalize t / b=qq at hq;omega
   have hb1:¬ b=0:=by omega
   have Q:=Ha (Hb q1 q2)
   clear q1 q2 ht hr' hq hm
   have hjl:(j:Int)<(la.length:Int):=by omega
   go_region_held3 (fun w'=>w'.frozen? ⟨g,j,none⟩=false) (go_keep) (fail)
   rw [←Q.out.1]
   go_wp2
   go_roundw
   case rel =>
    obtain ⟨s1,⟨s2,s3,_⟩,s4⟩:=HS.out
    refine ⟨t % b,j,o.set j (t / b),by omega,by go_num,by rw [Q.out.2];first | done | rfl | (rw [Int.tmod_eq_emod_of_nonneg (by omega)]),s3,s4,by rw [List.length_set];exact hlen,hdig.out.set _ s2,s1,?_⟩
    exact (hbel.setCell (p:=⟨g,j,none⟩) (Nat.le_refl _) _).drew
   case measure=>simp [intOf]
end
section
theorem iF (d:Nat) (l:List Nat):toN (d::l)=d+B*toN l:=rfl
theorem zK {l:List Nat} {k:Nat} (hd:Dig l) (h:l.length=k+2) :
  ∃ low,low<B ^ k∧toN l=low+B ^ k*(l.getD (k+1) 0*B+l.getD k 0):=by
 have h1:=aw l k (by omega)
 have h2:=aw l (k+1) (by omega)
 rw [List.take_of_length_le (by omega)] at h2
 have h3:=cK (hd.take k)
 rw [List.length_take,Nat.min_eq_left (by omega)] at h3
 refine ⟨_,h3,?_⟩
 rw [h2,h1,Nat.pow_succ,Nat.mul_assoc,Nat.add_assoc,←Nat.mul_add,Nat.mul_comm B,Nat.add_comm (l.getD k 0)]
theorem zL {l:List Nat} {k:Nat} (hd:Dig l) (h:l.length=k+3) :
  ∃ low,low<B ^ k∧toN l=low+B ^ k*((l.getD (k+2) 0*B+l.getD (k+1) 0)*B+l.getD k 0):=by
 have h1:=aw l k (by omega)
 have h2:=aw l (k+1) (by omega)
 have h4:=aw l (k+2) (by omega)
 rw [List.take_of_length_le (by omega)] at h4
 have h3:=cK (hd.take k)
 rw [List.length_take,Nat.min_eq_left (by omega)] at h3
 refine ⟨_,h3,?_⟩
 rw [h4,h2,h1,show B ^ (k+2)=B ^ k*B*B by rw [Nat.pow_succ,Nat.pow_succ],Nat.pow_succ]
 generalize B ^ k=P
 generalize toN (l.take k)=z
 generalize l.getD (k+2) 0=a
 generalize l.getD (k+1) 0=b
 generalize l.getD k 0=c
 rw [Nat.mul_add P]
 have e1:P*B*b=P*(b*B):=by rw [Nat.mul_assoc,Nat.mul_comm B b]
 have e2:P*B*B*a=P*(a*B*B):=by rw [Nat.mul_assoc P,Nat.mul_assoc P,Nat.mul_comm (B*B) a,←Nat.mul_assoc a]
 have e3:P*((a*B+b)*B)=P*(a*B*B)+P*(b*B):=by rw [Nat.add_mul,Nat.mul_add]
 omega
theorem Dy {W Y lw ly P U V t:Nat} (hw:W=lw+P*U) (hy:Y=ly+P*V) (hlw:lw<P) (h:U<t*V):W<t*Y:=by
 have h1:P*(U+1)≤P*(t*V):=Nat.mul_le_mul_left _ h
 have h2:t*Y=t*ly+P*(t*V):=by rw [hy,Nat.mul_add,Nat.mul_left_comm]
 rw [Nat.mul_add,Nat.mul_one] at h1
 omega
theorem Dz {W Y lw ly P U V t:Nat} (hw:W=lw+P*U) (hy:Y=ly+P*V) (hly:ly<P) (hb:t≤V) (h:t*V≤U):t*Y≤W+Y:=by
 cases t with
 | zero=>omega
 | succ t =>
  have h1:t*ly≤t*P:=Nat.mul_le_mul_left _ (by omega)
  have h2:P*((t+1)*V)≤P*U:=Nat.mul_le_mul_left _ h
  have h3:P*t≤P*V:=Nat.mul_le_mul_left _ (by omega)
  have h4:(t+1)*Y=t*ly+P*(t*V)+Y:=by rw [Nat.succ_mul];conv=>lhs;lhs;rw [hy,Nat.mul_add,Nat.mul_left_comm]
  have h5:P*((t+1)*V)=P*(t*V)+P*V:=by rw [Nat.succ_mul,Nat.mul_add]
  rw [Nat.mul_comm t P] at h1
  omega
theorem BE {W Y lw ly P top d f s:Nat} (hw:W=lw+P*(top*B+d)) (hy:Y=ly+P*(f*B+s)) (hlw:lw<P) (hd:d<B) (hf:0<f) (hlt:W<B*Y) :
  W<(min (top / f) (B - 1)+1)*Y:=by
 have h1:W<(top / f+1)*Y:=by
  have h2:top<(top / f+1)*f:=by rw [Nat.mul_comm];exact Nat.lt_mul_div_succ top hf
  have h3:P*(B*(top+1))≤P*(B*((top / f+1)*f)):=Nat.mul_le_mul_left _ (Nat.mul_le_mul_left _ h2)
  have h4:(top / f+1)*Y=(top / f+1)*ly+(top / f+1)*(P*s)+P*(B*((top / f+1)*f)):=by
   generalize top / f+1=t
   rw [hy,Nat.mul_add P,Nat.mul_add,Nat.mul_add]
   have:t*(P*(f*B))=P*(B*(t*f)):=by
    rw [Nat.mul_left_comm,Nat.mul_comm f B,Nat.mul_left_comm t B]
   omega
  have h5:P*(top*B+d+1)≤P*(B*(top+1)):=Nat.mul_le_mul_left _ (by rw [Nat.mul_add,Nat.mul_one,Nat.mul_comm B top];omega)
  rw [Nat.mul_add P _ 1,Nat.mul_one] at h5
  omega
 by_cases hm:top / f≤B - 1
 ·rwa [Nat.min_eq_left hm]
 ·rw [Nat.min_eq_right (by omega),Nat.sub_add_cancel cS];exact hlt
theorem zM {W Y lw ly P top d f s t:Nat} (hw:W=lw+P*(top*B+d)) (hy:Y=ly+P*(f*B+s)) (hlw:lw<P) (hf:t*f≤top) (h:(top - t*f)*B+d<t*s):W<t*Y:=by
 refine Dy hw hy hlw ?_
 rw [Nat.mul_add,←Nat.mul_assoc]
 have:top*B=t*f*B+(top - t*f)*B:=by rw [←Nat.add_mul];congr 1;omega
 omega
theorem zN {W Y lw ly P top d f s t:Nat} (hw:W=lw+P*(top*B+d)) (hy:Y=ly+P*(f*B+s)) (hly:ly<P) (hf:t*f≤top) (ht:t<B) (hs:s<B) (hf0:0<f) (h:t*s≤(top - t*f)*B+d∨B≤top - t*f):t*Y≤W+Y:=by
 refine Dz hw hy hly ?_ ?_
 ·have:1*B≤f*B:=Nat.mul_le_mul_right _ hf0
  omega
 ·rw [Nat.mul_add,←Nat.mul_assoc]
  have h1:top*B=t*f*B+(top - t*f)*B:=by rw [←Nat.add_mul];congr 1;omega
  rcases h with h | h
  ·omega
  ·have h2:B*B≤(top - t*f)*B:=Nat.mul_le_mul_right _ h
   have h3:t*s≤B*B:=Nat.mul_le_mul (Nat.le_of_lt ht) (Nat.le_of_lt hs)
   omega
theorem zO {p x y t c P Yp Xp:Nat} (hx:x<1000000000) (hy:y<1000000000) (ht:t<1000000000) (hc:c<1000000000) (h:p+t*Yp=Xp+P*c) :
  let u:=t*y+c
  (x<u % 1000000000→u / 1000000000+1<1000000000∧x+1000000000 - u % 1000000000<1000000000∧p+P*(x+1000000000 - u % 1000000000)+t*(Yp+P*y)=Xp+P*x+P*B*(u / 1000000000+1)) ∧
  (u % 1000000000≤x→u / 1000000000<1000000000∧x - u % 1000000000<1000000000∧p+P*(x - u % 1000000000)+t*(Yp+P*y)=Xp+P*x+P*B*(u / 1000000000)):=by
 intro u
 have hu:u≤999999998000000001+999999999:=by have:=fM ht hy;show t*y+c≤_;omega
 have e0:t*(Yp+P*y)=t*Yp+P*(t*y):=by rw [Nat.mul_add,Nat.mul_left_comm]
 have e1:P*u=P*(t*y)+P*c:=Nat.mul_add _ _ _
 have e2:P*u=P*B*(u / 1000000000)+P*(u % 1000000000):=by
  rw [Nat.mul_assoc,←Nat.mul_add,dS];congr 1;omega
 constructor
 ·intro hlt
  refine ⟨by omega,by omega,?_⟩
  have e3:P*(x+1000000000 - u % 1000000000)+P*(u % 1000000000)=P*x+P*B:=by
   rw [←Nat.mul_add,dS,←Nat.mul_add];congr 1;omega
  rw [Nat.mul_add (P*B),Nat.mul_one]
  omega
 ·intro hle
  refine ⟨by omega,by omega,?_⟩
  have e3:P*(x - u % 1000000000)+P*(u % 1000000000)=P*x:=by rw [←Nat.mul_add];congr 1;omega
  omega
theorem xk {x' X Y t P c top:Nat} (h:x'+t*Y=X+P*c) (hx:x'<P) (hY:Y<P) (hb:t*Y≤X+P*top+Y):c≤top+1:=by
 apply Decidable.byContradiction
 intro hc
 have:P*(top+2)≤P*c:=Nat.mul_le_mul_left _ (by omega)
 rw [Nat.mul_add] at this
 omega
theorem BF {x' X Y t P c top:Nat} (h:x'+t*Y=X+P*c) (hY:Y<P) (hup:X+P*top<(t+1)*Y) (hc:c≤top) :
  c=top∧t=(X+P*top) / Y∧x'=(X+P*top) % Y:=by
 have h1:P*c≤P*top:=Nat.mul_le_mul_left _ hc
 rw [Nat.succ_mul] at hup
 have hct:c=top:=by
  apply Decidable.byContradiction
  intro hne
  have:P*(c+1)≤P*top:=Nat.mul_le_mul_left _ (by omega)
  rw [Nat.mul_add,Nat.mul_one] at this
  omega
 subst hct
 refine ⟨rfl,?_⟩
 rw [←h]
 have hlt:x'<Y:=by omega
 constructor
 ·rw [Nat.add_mul_div_right _ _ (by omega),Nat.div_eq_of_lt hlt,Nat.zero_add]
 ·rw [Nat.add_mul_mod_self_right,Nat.mod_eq_of_lt hlt]
theorem xm {x' X Y t P top:Nat} (h:x'+t*Y=X+P*(top+1)) (hx:x'<P) (hb:t*Y≤X+P*top+Y) (ht:0<t) :
  P≤x'+Y∧t - 1=(X+P*top) / Y∧x'+Y - P=(X+P*top) % Y:=by
 rw [Nat.mul_add,Nat.mul_one] at h
 have h1:P≤x'+Y:=by omega
 refine ⟨h1,?_⟩
 obtain ⟨s,rfl⟩:∃ s,t=s+1:=⟨t - 1,by omega⟩
 rw [Nat.succ_mul] at h
 have h2:X+P*top=(x'+Y - P)+s*Y:=by omega
 have hlt:x'+Y - P<Y:=by omega
 rw [h2,Nat.add_sub_cancel]
 constructor
 ·rw [Nat.add_mul_div_right _ _ (by omega),Nat.div_eq_of_lt hlt,Nat.zero_add]
 ·rw [Nat.add_mul_mod_self_right,Nat.mod_eq_of_lt hlt]
theorem mC {v:Nat} (hv:v<1000000000):1≤1000000000 / (v+1):=by
 rw [Nat.le_div_iff_mul_le (by omega)];omega
theorem sZ {v:Nat} (h0:0<v):1000000000 / (v+1)<1000000000:=Nat.div_lt_self (by decide) (by omega)
theorem oU {b n:Nat} (hn:(dg b).length=n+1):(dg (b*(1000000000 / ((dg b).getD n 0+1)))).length=n+1:=by
 have hb:b≠0:=fun e=>by rw [e,av] at hn;simp at hn
 obtain ⟨r,h1,h2,h3⟩:=gv b hb
 rw [hn,Nat.add_sub_cancel] at h1 h2 h3
 have hv:=(aq b).getD n
 generalize (dg b).getD n 0=v at *
 have hs:=mC hv
 have hm:(v+1)*(1000000000 / (v+1))≤B:=Nat.mul_div_le _ _
 generalize 1000000000 / (v+1)=s at *
 have hup:b*s<B ^ (n+1):=by
  have h4:b<B ^ n*(v+1):=by rw [Nat.mul_add,Nat.mul_one];omega
  have h5:b*s<B ^ n*(v+1)*s:=Nat.mul_lt_mul_of_pos_right h4 (by omega)
  rw [Nat.mul_assoc] at h5
  exact Nat.lt_of_lt_of_le h5 (by rw [Nat.pow_succ];exact Nat.mul_le_mul_left _ hm)
 have hlo:B ^ n≤b*s:=by
  have h4:B ^ n*1≤B ^ n*v:=Nat.mul_le_mul_left _ h2
  have h5:b*1≤b*s:=Nat.mul_le_mul_left _ hs
  omega
 have h6:=(an (b*s) (n+1)).2 hup
 have h7:¬ (dg (b*s)).length≤n:=fun h=>by have:=(an (b*s) n).1 h;omega
 omega
theorem lP {b n:Nat} (hn:(dg b).length=n+1):0<(dg b).getD n 0:=by
 have hb:b≠0:=fun e=>by rw [e,av] at hn;simp at hn
 obtain ⟨r,h1,h2,h3⟩:=gv b hb
 rwa [hn,Nat.add_sub_cancel] at h2
theorem pO {S x A X Y Q P:Nat} (h:S=A+P*x+P*B*(X+Y*Q)) :
  S=A+P*((x+B*X) % Y+Y*((x+B*X) / Y+B*Q)):=by
 have e:=Nat.mod_add_div (x+B*X) Y
 rw [h,Nat.add_assoc]
 congr 1
 rw [Nat.mul_assoc,←Nat.mul_add]
 congr 1
 rw [Nat.mul_add Y,←Nat.add_assoc,e,Nat.mul_add B,Nat.add_assoc,Nat.mul_left_comm B Y Q]
theorem oV {a b s m n la:Nat} {l:List Nat} (ha:a<B ^ la) (hn:B ^ n≤b) (hs:0<s) (hl:toN l=a*s) (hll:l.length=la+1) (hm:la≤m+1+n) (hml:m≤la) :
  toN (l.drop (m+1))<b*s:=by
 have h1:toN l=toN (l.take (m+1))+B ^ (m+1)*toN (l.drop (m+1)):=by
  conv=>lhs;rw [←List.take_append_drop (m+1) l]
  rw [cz,List.length_take,Nat.min_eq_left (by omega)]
 apply Decidable.byContradiction
 intro hc
 have h2:b*s≤toN (l.drop (m+1)):=by omega
 have h3:B ^ n*s≤toN (l.drop (m+1)):=Nat.le_trans (Nat.mul_le_mul_right _ hn) h2
 have h4:B ^ (m+1)*(B ^ n*s)≤a*s:=by
  rw [←hl,h1];exact Nat.le_trans (Nat.mul_le_mul_left _ h3) (Nat.le_add_left _ _)
 rw [←Nat.mul_assoc,←Nat.pow_add] at h4
 have h5:=Nat.le_of_mul_le_mul_right h4 hs
 have h6:B ^ la≤B ^ (m+1+n):=Nat.pow_le_pow_right cS (by omega)
 omega
theorem dH (a b s:Nat) (hs:0<s):a*s / (b*s)=a / b∧a*s % (b*s)=a % b*s:=by
 refine ⟨Nat.mul_div_mul_right a b hs,?_⟩
 rw [Nat.mul_mod_mul_right]
end
section
open Go.RowKit
def RowC (w:World) (g:Nat) (l:List Nat):Prop:=∃ cur,w.heap[g]? = some (.cells cur 156 (0,0))∧cur.toList.take l.length=ae l
theorem Row.rowC {w:World} {g:Nat} {l:List Nat} (h:Row w g l):RowC w g l:=⟨_,h,by rw [List.take_of_length_le (by simp [ae])]⟩
theorem RowC.cell {w:World} {g:Nat} {l:List Nat} (h:RowC w g l) {i:Nat} (hi:i<l.length):w.cell? ⟨g,i,none⟩=some (.int .u64 (l.getD i 0:Nat)):=by
 obtain ⟨cur,h1,h2⟩:=h
 rw [cell_of_row w g i _ _ (0,0) h1,←Array.getElem?_toList]
 have:(cur.toList.take l.length)[i]? = (ae l)[i]? := by rw [h2]
 rw [List.getElem?_take_of_lt hi] at this
 rw [this]
 simp [ae,hi]
theorem RowC.frozen {w:World} {g:Nat} {l:List Nat} (h:RowC w g l) (i:Nat):w.frozen? ⟨g,i,none⟩=false:=by
 obtain ⟨cur,h1,h2⟩:=h
 simp [World.frozen?, h1]
theorem RowC.set {w:World} {g:Nat} {l:List Nat} (h:RowC w g l) (i:Nat) (x:Nat):RowC (w.setCell ⟨g,i,none⟩ (.int .u64 (x:Nat))) g (l.set i x):=by
 obtain ⟨cur,h1,h2⟩:=h
 refine ⟨cur.setIfInBounds i (.int .u64 (x:Nat)),?_,?_⟩
 ·simp [World.setCell,Array.getElem?_modify,h1]
 ·rw [List.length_set,Array.toList_setIfInBounds,List.take_set,h2]
  simp [ae,List.map_set]
theorem RowC.lt {w:World} {g:Nat} {l:List Nat} (h:RowC w g l):g<w.heap.size:=by
 obtain ⟨cur,h1,h2⟩:=h
 exact (Array.getElem?_eq_some_iff.1 h1).1
theorem RowC.nats {w:World} {g:Nat} {l:List Nat} (h:RowC w g l) {cap:Nat} (h1:l.length≤cap) (h2:cap≤9223372036854775807):Nats w (.slice (some ⟨g,0,none⟩) l.length cap) l :=
 Nats.of_cells h1 h2 (fun _ hi=>h.cell hi)
theorem RowC.of_block {w w':World} {g:Nat} {l:List Nat} (h:RowC w g l) (hb:w'.heap[g]? = w.heap[g]?):RowC w' g l:=by
 obtain ⟨cur,h1,h2⟩:=h
 exact ⟨cur,hb.trans h1,h2⟩
theorem RowC.next {w w':World} {g B:Nat} {l:List Nat} (h:RowC w g l) (hb:Below B w w') (hg:g<B):RowC w' g l:=h.of_block (hb.block g hg)
theorem iS {w:World} {base:Nat} {v:Value} {l:List Nat} {n:Nat} (h:w.ownsRow base 156 1 v n (ae l)) (hne:l ≠ []):∃ g cap,v = .slice (some ⟨g,0,none⟩) l.length cap∧base≤g∧l.length≤cap∧cap≤maxLen∧RowC w g l:=by
 obtain ⟨h1,h2⟩:=h
 have hn:n=l.length:=by simpa [ae] using h1.symm
 subst hn
 rcases h2 with ⟨_,h0⟩ | ⟨g,cap,cur,rfl,hb,hh,hn,hm,hsz,htk⟩
 ·exact absurd (List.eq_nil_of_length_eq_zero h0) hne
 ·exact ⟨g,cap,rfl,hb,hn,hm,cur,hh,by rw [Nat.mul_one] at htk;exact htk⟩
structure Only (g:Nat) (w w':World):Prop where
 os:w'.os=w.os
 tape:w'.tape=w.tape
 output:w'.output=w.output
 size:w.heap.size≤w'.heap.size
 block:∀ k,k≠g→k<w.heap.size→w'.heap[k]? = w.heap[k]?
theorem Only.refl (g:Nat) (w:World):Only g w w:=⟨rfl,rfl,rfl,Nat.le_refl _,fun _ _ _=>rfl⟩
theorem Only.trans {g:Nat} {a b c:World} (h:Only g a b) (k:Only g b c):Only g a c :=
 ⟨k.os.trans h.os,k.tape.trans h.tape,k.output.trans h.output,Nat.le_trans h.size k.size,fun i hi hl=>(k.block i hi (Nat.lt_of_lt_of_le hl h.size)).trans (h.block i hi hl)⟩
theorem Only.setCell {g:Nat} {a w:World} (h:Only g a w) (o:Nat) (u:Value):Only g a (w.setCell ⟨g,o,none⟩ u) :=
 h.trans ⟨rfl,rfl,rfl,by simp [World.setCell],fun k hk _=>Below.heap_setCell _ _ _ _ (by show k≠g;exact hk)⟩
theorem Only.drew {g:Nat} {a w:World} (h:Only g a w):Only g a w.drew:=⟨h.os,h.tape,h.output,h.size,h.block⟩
theorem Only.below {g B:Nat} {a w w':World} (h:Only g w w') (hb:Below B a w) (hg:B≤g) (hB:B≤w.heap.size):Below B a w' :=
 hb.trans ⟨h.os,h.tape,h.output,h.size,fun k hk=>h.block k (by omega) (by omega)⟩
theorem Only.cell {g:Nat} {w w':World} (h:Only g w w') {p:Addr} {v:Value} (hp:p.block≠g) (hc:w.cell? p=some v):w'.cell? p=some v :=
 (World.cell?_of_block (w:=w) (h.block p.block hp (World.block_lt_of_cell? w _ hc))).trans hc
theorem Only.rowC {g k:Nat} {w w':World} {l:List Nat} (h:Only g w w') (hk:k≠g) (hr:RowC w k l):RowC w' k l:=hr.of_block (h.block k hk hr.lt)
theorem Only.nats {g:Nat} {w w':World} {v:Value} {l:List Nat} (h:Only g w w') (hk:v.ownBlock≠some g) (hr:Nats w v l):Nats w' v l:=by
 obtain ⟨p,cap,rfl,h1,h2,h3⟩:=hr
 refine ⟨p,cap,rfl,h1,h2,fun hne => ?_⟩
 obtain ⟨b,off,e,hc⟩:=h3 hne
 exact ⟨b,off,e,fun i hi=>h.cell (by show b≠g;intro hb;exact hk (by rw [e,hb];rfl)) (hc i hi)⟩
theorem pc {l:List Nat} {j by' c P:Nat} (hj:j<l.length) (h:P+B ^ j*c=toN (l.take j)*by') :
  P+B ^ j*((l.getD j 0*by'+c) % 1000000000)+B ^ (j+1)*((l.getD j 0*by'+c) / 1000000000)=toN (l.take (j+1))*by':=by
 rw [aw l j hj,Nat.add_mul,←h]
 generalize l.getD j 0=x
 have e1:B ^ j*(x*by'+c)=B ^ j*((x*by'+c) % 1000000000)+B ^ (j+1)*((x*by'+c) / 1000000000):=by
  rw [Nat.pow_succ,Nat.mul_assoc,←Nat.mul_add];congr 1;rw [dS];omega
 have e2:B ^ j*(x*by'+c)=B ^ j*x*by'+B ^ j*c:=by rw [Nat.mul_add,Nat.mul_assoc]
 omega
theorem BG {x b c:Nat} (hx:x<1000000000) (hb:b<1000000000) (hc:c<1000000000):x*b+c<1000000000000000000∧(x*b+c) / 1000000000<1000000000∧(x*b+c) % 1000000000<1000000000:=by
 have:=fM hx hb;omega
theorem fT (v:Value) (la:List Nat) (m:Nat) (w:World) (ha:Nats w v la) (da:Dig la) (hla:la.length≤1000000) (hm:m<1000000000) :
  Calls Tryz.prog 201 #[v,.int .u64 m] w fun e W'=>∃ g cap l,e = .returned (.slice (some ⟨g,0,none⟩) l.length cap)∧l.length≤cap∧cap≤maxLen∧w.heap.size≤g∧RowC W' g l∧Dig l∧l.length=la.length+1∧toN l=toN la*m∧Below w.heap.size w W':=by
 obtain ⟨pa,capa,rfl,ha1,ha2,ha3⟩:=ha
 have HA:=Ha ha3;clear ha3
 obtain ⟨i0,hi,hz0,hz1,hz2⟩:=info_parts dL
 have HI:=Ha (Hb hi (Hb hz0 (Hb hz1 hz2)));clear hi hz0 hz1 hz2
 have HD:=Ha da;clear da
 go_enter Tryz.func201,Tryz.ntmps201
 go_wp2_with (at_make;refine wpList_make_own _ rfl _ _ 115 rfl w.heap.size 156 i0 (.int .u64 0) 1 Tryz.underlying115 HI.out.1 HI.out.2.1 HI.out.2.2.1 .i64 .i64 _ (la.length+1) rfl rfl (by omega) (by rw [HI.out.2.2.2];omega) (by unfold maxLen;omega) (Nat.le_refl _) ?_;intro w1 hown hgrow)
 have hB1:Below w.heap.size w w1:=(Below.refl _ w).grown hgrow (Nat.le_refl _) (fun k e=>by cases e)
 go_loopw [5,6,16] (fun x y z wr=>∃ (c j:Nat) (o:List Nat),j≤la.length∧y = .int .u64 c∧z = .int .i64 j∧c<1000000000∧o.length=j∧wr.ownsRow w.heap.size 156 1 x j (ae o)∧Hid (Dig o)∧Hid (toN o+B ^ j*c=toN (la.take j)*m)∧Below w.heap.size w wr)
  (fun _ _ z _=>la.length - (intOf z).toNat)
 case atStart=>exact ⟨0,0,[],Nat.zero_le _,rfl,rfl,by omega,rfl,hown,Dig.nil,by show toN []+B ^ 0*0=_;simp [toN],hB1⟩
 case round =>
  clear hown hB1 hgrow
  obtain ⟨c,j,o,hj,rfl,rfl,hc,hlen,hown,hdig,hval,hbel⟩:=hrel
  have hsz:=hbel.size
  by_cases hjl:j<la.length
  ·obtain ⟨ab,aoff,rfl,hca⟩:=HA.out (by intro e;subst e;simp at hjl)
   have hx:=HD.out.getD j
   have ca0:=hca j hjl
   have cax:wr.cell? ⟨ab,aoff+j,none⟩=some (.int .u64 (la.getD j 0:Nat)):=(hbel.cell (p:=⟨ab,aoff+j,none⟩) (World.block_lt_of_cell? w _ ca0)).trans ca0
   clear ca0 hca
   have HS:=Ha (Hb (pc hjl hval.out) (BG hx hm hc))
   clear hval
   have hxm:=fM hx hm
   generalize la.getD j 0=x at *
   have hP0:0≤(x:Int)*(m:Int):=by rw [←Int.natCast_mul];omega
   have hP1:(x:Int)*(m:Int)≤999999998000000001:=by rw [←Int.natCast_mul];omega
   have hT:(((x*m+c:Nat)):Int)=(x:Int)*(m:Int)+(c:Int):=by rw [Int.natCast_add,Int.natCast_mul]
   have HT1:=Ha (show ((((x*m+c) / 1000000000:Nat)):Int)=((x:Int)*(m:Int)+(c:Int)) / 1000000000 by rw [Int.natCast_ediv,hT];rfl)
   have HT2:=Ha (show ((((x*m+c) % 1000000000:Nat)):Int)=((x:Int)*(m:Int)+(c:Int)) % 1000000000 by rw [Int.natCast_emod,hT];rfl)
   have HO:=Ha hown
   have HB:=Ha hbel
   clear hT hxm hown hbel
   go_wp2_with (at_builtin;refine wpList_append_own _ rfl _ _ 115 rfl w.heap.size 156 i0 (.int .u64 0) 1 8 Tryz.underlying115 HI.out.1 HI.out.2.1 HI.out.2.2.1 HI.out.2.2.2 rfl (by decide) _ _ _ rfl (HO.out.alloc _) ⟨wr.heap.size,0,none⟩ 1 1 [.int .u64 (((x:Int)*(m:Int)+(c:Int)) % 1000000000)] rfl rfl (cell_one_new _ _ _) (by simp [Value.oneCell']) (by unfold maxLen;omega) (by omega) (by simp;omega) ?_;intro v' w2 hown' hgrow _;have HO2:=Ha hown';have HG2:=Ha hgrow;clear hown' hgrow)
   go_roundw
   case rel =>
    obtain ⟨s1,s2,s3,s4⟩:=HS.out
    refine ⟨(x*m+c) / 1000000000,j+1,o ++ [(x*m+c) % 1000000000],by omega,by rw [HT1.out],by go_num,s3,by simp [hlen],?_,hdig.out.append (Dig.one s4),?_,?_⟩
    ·rw [←bB,HT2.out];exact HO2.out
    ·show toN _+_=_
     rw [aS,hlen];exact s1
    ·exact (HB.out.alloc hsz _).grown HG2.out (by simp;omega) (fun k hk=>(HO.out.lt k hk).1)
   case measure=>simp [intOf];omega
  ·have ej:j=la.length:=by omega
   subst ej
   have hv:toN (o ++ [c])=toN la*m:=by rw [aS,hlen,hval.out,List.take_length]
   have hdd:Dig (o ++ [c]):=hdig.out.append (Dig.one hc)
   have HS:=Ha (Hb hv hdd)
   have HO:=Ha hown
   have HB:=Ha hbel
   clear hv hdd hval hown hbel
   go_wp2_with (at_builtin;refine wpList_append_own _ rfl _ _ 115 rfl w.heap.size 156 i0 (.int .u64 0) 1 8 Tryz.underlying115 HI.out.1 HI.out.2.1 HI.out.2.2.1 HI.out.2.2.2 rfl (by decide) _ _ _ rfl (HO.out.alloc _) ⟨wr.heap.size,0,none⟩ 1 1 [.int .u64 (c:Nat)] rfl rfl (cell_one_new _ _ _) (by simp [Value.oneCell']) (by unfold maxLen;omega) (by omega) (by simp;omega) ?_;intro v' w2 hown' hgrow _;have HO2:=Ha hown';have HG2:=Ha hgrow;clear hown' hgrow)
   go_ret
   have h2:=HO2.out
   rw [bB] at h2
   obtain ⟨g,cap,rfl,hg,hc1,hc2,hr⟩:=iS h2 (by simp)
   exact ⟨g,cap,_,rfl,hc1,hc2,hg,hr,HS.out.2,by simp [hlen],HS.out.1,(HB.out.alloc hsz _).grown HG2.out (by simp;omega) (fun k hk=>(HO.out.lt k hk).1)⟩
theorem qX (vr vb:Value) (lr lb:List Nat) (n:Nat) (w:World) (hr:Nats w vr lr) (hb:Nats w vb lb) (dr:Dig lr) (db:Dig lb) (hlr:lr.length=n+3) (hlb:lb.length=n+2) (hn:n≤1000000)
  (h0:0<lb.getD (n+1) 0) (hlt:toN lr<B*toN lb) :
  Calls Tryz.prog 215 #[vr,vb] w fun e w'=>∃ t:Nat,e = .returned (.int .u64 t)∧t<1000000000∧toN lr<(t+1)*toN lb∧t*toN lb≤toN lr+toN lb∧∃ k,w'=w.drewN k:=by
 obtain ⟨pr,cr,rfl,hr1,hr2,hr3⟩:=hr
 obtain ⟨pb,cb,rfl,hb1,hb2,hb3⟩:=hb
 obtain ⟨rb,roff,rfl,hcr⟩:=hr3 (by intro e;subst e;simp at hlr)
 obtain ⟨bb,boff,rfl,hcb⟩:=hb3 (by intro e;subst e;simp at hlb)
 clear hr3 hb3
 obtain ⟨lw,hlw,ew⟩:=zL dr hlr
 obtain ⟨ly,hly,ey⟩:=zK db hlb
 have c0:=hcr (n+2) (by omega)
 have c1:=hcr (n+1) (by omega)
 have c2:=hcr n (by omega)
 have b0:=hcb (n+1) (by omega)
 have b1:=hcb n (by omega)
 have g0:=dr.getD (n+2)
 have g1:=dr.getD (n+1)
 have g2:=dr.getD n
 have g3:=db.getD (n+1)
 have g4:=db.getD n
 obtain ⟨i1,hi1⟩:∃ i,i=n+1:=⟨_,rfl⟩
 obtain ⟨i2,hi2⟩:∃ i,i=n+2:=⟨_,rfl⟩
 have hj1:(i2:Int) - 1=i1:=by omega
 have hj2:(i2:Int) - 2=n:=by omega
 have hlr':lr.length=i2+1:=by omega
 have hlb':lb.length=i2:=by omega
 rw [hlr',hlb']
 rw [hlr'] at hr1
 rw [hlb'] at hb1
 clear hlr' hlb'
 clear hcr hcb dr db
 generalize lr.getD (n+2) 0=w0 at *
 generalize lr.getD (n+1) 0=w1 at *
 generalize lr.getD n 0=w2 at *
 generalize lb.getD (n+1) 0=f at *
 generalize lb.getD n 0=s at *
 have HV:=Ha (BE ew ey hlw g2 h0 hlt)
 have HU:=Ha (fun t=>zM (t:=t) ew ey hlw)
 have HW:=Ha (fun t=>zN (t:=t) ew ey hly)
 clear ew ey hlw hly hlt hlr hlb
 rw [←hi1] at c1 b0
 rw [←hi2] at c0
 clear hi1 hi2
 go_enter Tryz.func215,Tryz.ntmps215
 go_wp2
 have x1:(i1:Int)<(i2:Int):=by omega
 have x2:(n:Int)<(i2:Int):=by omega
 have x3:(i2:Int)<(i2:Int)+1:=by omega
 have x4:(i1:Int)<(i2:Int)+1:=by omega
 have x5:(n:Int)<(i2:Int)+1:=by omega
 go_quiet (fail)
 have c0':(w.drewN nq).cell? ⟨rb,roff+i2,none⟩=some (.int .u64 (w0:Nat)):=c0
 have c1':(w.drewN nq).cell? ⟨rb,roff+i1,none⟩=some (.int .u64 (w1:Nat)):=c1
 have c2':(w.drewN nq).cell? ⟨rb,roff+n,none⟩=some (.int .u64 (w2:Nat)):=c2
 clear c0 c1 c2 b0 b1
 have HK:Hid (∃ n,w.drewN nq=w.drewN n):=⟨_,rfl⟩
 generalize w.drewN nq=W1 at *
 go_wp2
 go_quiet (fail)
 have d2:(W1.drewN nq).cell? ⟨rb,roff+n,none⟩=some (.int .u64 (w2:Nat)):=c2'
 clear c0' c1' c2'
 have HK2:Hid (∃ n,W1.drewN nq=w.drewN n):=by obtain ⟨kk,e⟩:=HK.out;exact ⟨_,by rw [e,World.drewN_drewN]⟩
 clear HK
 generalize W1.drewN nq=W2 at *
 obtain ⟨T,hT⟩:∃ T,w0*1000000000+w1=T:=⟨_,rfl⟩
 have eT:(w0:Int)*1000000000+w1=(T:Int):=by omega
 have hTb:(T:Int)≤999999999999999999:=by omega
 rw [eT]
 have HV1:Hid (toN lr<(min (T / f) 999999999+1)*toN lb):=by have:=HV.out;rw [dS,hT] at this;exact this
 have HU1:Hid (∀ t,t*f≤T→(T - t*f)*1000000000+w2<t*s→toN lr<t*toN lb):=by have:=HU.out;rw [dS,hT] at this;exact this
 have HW1:Hid (∀ t,t*f≤T→t<1000000000→s<1000000000→0<f→t*s≤(T - t*f)*1000000000+w2∨1000000000≤T - t*f→t*toN lb≤toN lr+toN lb):=by have:=HW.out;rw [dS,hT] at this;exact this
 clear HV HU HW eT hT g0 g1
 obtain ⟨D,hD⟩:∃ D,T / f=D:=⟨_,rfl⟩
 have eD:(T:Int) / (f:Int)=(D:Int):=by rw [←hD];exact (Int.natCast_ediv _ _).symm
 have hDf:Hid (∀ t,t≤D→t*f≤T):=by
  intro t ht;rw [←hD] at ht;exact (Nat.le_div_iff_mul_le h0).1 ht
 have hDb:(D:Int)≤999999999999999999:=by
  have:=Nat.div_le_self T f;omega
 rw [hD] at HV1
 clear hD
 have hf0:¬ (f:Int)=0:=by omega
 have hf1:((f:Int)==0)=false:=by rw [beq_eq_false_iff_ne];omega
 go_wp2
 have HB:=Ha (Hb g2 (Hb g4 h0))
 clear eD hDb
 go_loopw [9] (fun x wr=>∃ t:Nat,x = .int .u64 t∧t≤999999999∧t≤D∧Hid (toN lr<(t+1)*toN lb)∧∃ k,wr=W2.drewN k) (fun x _=>(intOf x).toNat)
 case atStart=>exact ⟨min D 999999999,by go_num,Nat.min_le_right _ _,Nat.min_le_left _ _,HV1.out,0,rfl⟩
 case round =>
  obtain ⟨t,rfl,ht,htD,hlo,k,hk⟩:=hrel
  have HK3:=Ha hk
  have e2:wr.cell? ⟨rb,roff+n,none⟩=some (.int .u64 (w2:Nat)):=by rw [hk];exact d2
  clear hk
  have hF:=hDf.out t htD
  have hS:=fM (show t<1000000000 by omega) g4
  have HU2:=Ha (HU1.out t hF)
  have HW2:=Ha (HW1.out t hF (by omega) g4 h0)
  have hts:t=0→t*s=0:=by rintro rfl;exact Nat.zero_mul _
  obtain ⟨F,eF⟩:∃ F,t*f=F:=⟨_,rfl⟩
  obtain ⟨S,eS⟩:∃ S,t*s=S:=⟨_,rfl⟩
  have eF1:(t:Int)*(f:Int)=(F:Int):=by rw [←eF];exact (Int.natCast_mul _ _).symm
  have eS1:(t:Int)*(s:Int)=(S:Int):=by rw [←eS];exact (Int.natCast_mul _ _).symm
  rw [eF] at hF HU2 HW2
  rw [eS] at hS HU2 HW2 hts
  clear eF eS
  obtain ⟨L,hL⟩:∃ L,L=T - F:=⟨_,rfl⟩
  have eL:(T:Int) - (F:Int)=(L:Int):=by omega
  rw [←hL] at HU2 HW2
  have hLT:L≤T:=by omega
  have HTS:=Ha hts
  clear hL hts
  have hF2:(F:Int)≤999999999999999999:=by omega
  have hL2:(L:Int)≤999999999999999999:=by omega
  have hS2:(S:Int)≤999999998000000001:=by omega
  by_cases hc:1000000000≤L
  ·have hg:decide (1000000000≤(L:Int))=true:=decide_eq_true (by omega)
   have hg2:(1000000000:Int)≤(L:Int):=by omega
   clear HU2 hF
   go_wp2
   go_ret
   exact ⟨t,rfl,by omega,hlo.out,HW2.out (.inr hc),by obtain ⟨k1,q1⟩:=HK2.out;rw [HK3.out,q1];exact ⟨_,World.drewN_drewN _ _ _⟩⟩
  ·have hg:decide (1000000000≤(L:Int))=false:=decide_eq_false (by omega)
   have hg2:¬ (1000000000:Int)≤(L:Int):=by omega
   clear hF
   by_cases hs:S≤L*1000000000+w2
   ·have hs2:(S:Int)≤(L:Int)*1000000000+(w2:Int):=by omega
    go_wp2
    go_ret
    exact ⟨t,rfl,by omega,hlo.out,HW2.out (.inl hs),by obtain ⟨k1,q1⟩:=HK2.out;rw [HK3.out,q1];exact ⟨_,World.drewN_drewN _ _ _⟩⟩
   ·have hs2:¬ (S:Int)≤(L:Int)*1000000000+(w2:Int):=by omega
    have ht0:t≠0:=fun e=>by have:=HTS.out e;omega
    obtain ⟨t',et'⟩:∃ t',t=t'+1:=⟨t - 1,by omega⟩
    have hm:Hid (toN lr<(t'+1)*toN lb):=by rw [←et'];exact HU2.out (by omega)
    have et1:(t:Int) - 1=(t':Int):=by omega
    have ht1:t'≤999999998:=by omega
    have ht2:t'≤D:=by omega
    have HE:=Ha et'
    clear et'
    clear HU2 HW2 hs
    go_wp2
    go_roundw
    case rel=>exact ⟨t',by go_num,by omega,ht2,hm,k,HK3.out⟩
    case measure=>have:=HE.out;simp [intOf];omega
end
end Go.Proofs.YtocalfjfjjljnaaGreatDoor
