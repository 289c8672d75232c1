/- Parts of the proof. -/
import Derived.Deep.RegionHeld3
import Derived.Test.YtbhbhlfkdlfimaaGreatDoorQX25
set_option linter.all false
set_option maxRecDepth 100000
set_option maxHeartbeats 8000000
namespace Go.Proofs.YtbhbhlfkdlfimaaGreatDoor
namespace T
open Go.RowKit
theorem rq {r:Nat} (h0:0<r) (h:∀ c,c<r+1→2≤c→¬ c*c∣r):Nrm r:=by
 obtain ⟨c,e,lc⟩:=wI r
 have s:=mV (q:=(r:Rat)) (aP r)
 rw [e,←Rat.natCast_mul,←Rat.natCast_mul] at s
 have s2:=Rat.natCast_inj.1 s
 have c1:c=1:=by
  rcases Nat.lt_or_ge c 2 with l | l
  ·have:c≠0:=fun z=>by rw [z] at s2;simp at s2;omega
   omega
  ·exact absurd ⟨_,s2.symm⟩ (h c (by omega) l)
 refine ⟨h0,by rw [e,c1];rfl,?_⟩
 rw [c1] at s2;omega
theorem FJ:Nrm 1:=rq (by decide) (by decide)
theorem Gq:Nrm 2:=rq (by decide) (by decide)
theorem EI {a b:Nat} (ha:Nrm a) (hb:Nrm b) (la:a<10000) (lb:b<10000) (h:Rl (a:Rat) (b:Rat)):a=b:=qV ha hb la lb ((nO (cz ha.1) (cz hb.1)).2 h)
theorem uB {l:List Tm} (hr:Red l) (hn:∀ t∈l,∃ b:Nat,t.2=(b:Rat)∧Nrm b∧b<10000) (hc:∀ t∈l,t.1≠0) {x:Rat} {q:Nat} (hq:Nrm q) (lq:q<10000) (hx:x≠0) (hv:∀ m,0<m→T.vl m l=co m (x,(q:Rat))):l = [(x,(q:Rat))]:=by
 have q0:=cz hq.1
 have rel:∀ t∈l,t.2=(q:Rat):=fun t ht=>by
  obtain ⟨b,e,nb,lb⟩:=hn t ht
  have h1:=oG hr ht
  rw [hv t.2 (hr.1 t ht)] at h1
  have h2:Rl (q:Rat) t.2:=by
   refine Classical.byContradiction fun n=>hc t ht ?_
   rw [←h1,AN x (hr.1 t ht) q0 n]
  rw [e] at h2 ⊢
  rw [EI hq nb lq lb h2]
 match l,hr,hc,hv,rel with
 | [],_,_,hv,_ =>
  have:=hv (q:Rat) q0
  rw [r7 x q0] at this
  exact absurd this.symm hx
 | [t],hr,_,hv,rel =>
  have h1:=oG hr (t:=t) List.mem_cons_self
  have h2:=rel t List.mem_cons_self
  rw [h2,hv _ q0,r7 x q0] at h1
  rw [show t=(t.1,t.2) from rfl,←h1,h2]
 | t::s::l,hr,_,_,rel =>
  have:=(List.pairwise_cons.1 hr.2).1 s List.mem_cons_self
  rw [rel t List.mem_cons_self,rel s (List.mem_cons_of_mem _ List.mem_cons_self)] at this
  exact absurd (Rl.refl _) this
def Lt (g:List Tm):Prop:=∀ t∈g,t.1≠0∧∃ b:Nat,t.2=(b:Rat)∧Nrm b∧b<10000
theorem BV {g:List Tm} (h:Lt g) (hd:g.Pairwise fun s t=>s.2≠t.2):Red g:=by
 refine ⟨fun t ht => ?_,?_⟩
 ·obtain ⟨_,b,e,nb,_⟩:=h t ht
  rw [e];exact cz nb.1
 ·refine hd.imp_of_mem fun {s t} hs ht n r=>n ?_
  obtain ⟨_,a,ea,na,la⟩:=h s hs
  obtain ⟨_,b,eb,nb,lb⟩:=h t ht
  rw [ea,eb] at r ⊢
  rw [EI na nb la lb r]
theorem BW:∀ (g l:List Tm),Red (l++g)→Lt g→g.foldl stp l=l++g
 | [],l,_,_=>by simp
 | t::g,l,hr,hg=>by
  obtain ⟨c0,b,e,nb,_⟩:=hg t List.mem_cons_self
  have ht:lB t=t:=by
   obtain ⟨c,q⟩:=t
   have e':q=(b:Rat):=e
   subst e'
   show (c*nC (b:Rat),((nN (b:Rat):Nat):Rat))=(c,(b:Rat))
   rw [nb.2.1,nb.2.2,Rat.mul_one]
  have hl:=(List.pairwise_append.1 hr.2).2.2
  have st:stp l t=l ++ [t]:=by
   unfold stp
   rw [if_neg (fun z=>z.elim c0 fun z=>by have:=cz nb.1;rw [e] at z;grind),ht]
   refine pz fun j hj r => ?_
   have hm:=bV hj
   exact hl _ hm t List.mem_cons_self ((oF (hr.1 _ (List.mem_append.2 (.inl hm))) (hr.1 t (by simp))).1 r).symm
  show g.foldl stp (stp l t)=_
  rw [st,BW g (l ++ [t]) (by rw [List.append_assoc];exact hr) fun s hs=>hg s (List.mem_cons_of_mem _ hs),List.append_assoc];rfl
theorem FK {g:List Tm} (h:Lt g) (hd:g.Pairwise fun s t=>s.2≠t.2):T.fin g=g:=by
 have e:gth g=g:=by
  have:=BW g [] (by rw [List.nil_append];exact BV h hd) h
  rwa [List.nil_append] at this
 unfold T.fin
 rw [e]
 refine List.filter_eq_self.2 fun t ht => ?_
 unfold nz
 exact decide_eq_true (h t ht).1
theorem yr {g:List Tm} (h:Lt g) (hB:∀ t∈g,Bq 60 t.1) (hl:g.length≤16) (hd:g.Pairwise fun s t=>s.2<t.2):Good g:=by
 refine ⟨hl,fun t ht => ?_,hd,(BV h (hd.imp fun {s t} k e=>by rw [e] at k;exact Rat.lt_irrefl k)).2⟩
 obtain ⟨c0,b,e,nb,lb⟩:=h t ht
 exact ⟨c0,hB t ht,b,e,nb,Nat.lt_of_lt_of_le lb (by decide+kernel)⟩
theorem pn {c:Rat} {r p s:Nat} (h0:0≤c.num) (h1:s*s≤rdN c r p / (c.den*c.den)) (h2:rdN c r p / (c.den*c.den)<(s+1)*(s+1)):rdZ c r p=s:=by
 unfold rdZ rdS
 rw [if_pos h0,gn ⟨h1,h2⟩]
theorem BX {c:Rat} {r p s:Nat} (h0:¬ 0≤c.num) (h1:s*s≤rdN c r p / (c.den*c.den)) (h2:rdN c r p / (c.den*c.den)<(s+1)*(s+1)) (h3:s*s*(c.den*c.den)≠rdN c r p):rdZ c r p = -((s:Int)+1):=by
 unfold rdZ rdS
 rw [if_neg h0,gn ⟨h1,h2⟩,if_neg h3]
def y62:Rat:=mkRat (-1) 62
def g1:List Tm := [(1,2),(1,3)] ++ [((1:Rat),(10:Rat))].map (mulT (-1))
def g2:List Tm := [(1,2),(1,3)] ++ [(y62,(1:Rat)),((1:Rat),(10:Rat))].map (mulT (-1))
theorem uC {c:Rat} {q:Nat} (hc:c≠0) (hB:Bq 60 c) (hq:Nrm q) (lq:q<10000):Good [(c,(q:Rat))] :=
 yr (fun t ht=>by obtain rfl:=List.mem_singleton.1 ht;exact ⟨hc,q,rfl,hq,lq⟩) (fun t ht=>by obtain rfl:=List.mem_singleton.1 ht;exact hB) (by simp) (List.pairwise_singleton _ _)
theorem DW {g r:List Tm} {D M R k:Nat} {x:Rat} {q:Nat} (h:∀ t∈g,Ns D M R t) (hD:0<D) (hR1:0<R) (hk:g.length≤k) (hk2:k≤16) (hR:R<10000)
  (h1:k*(M*(R*R))<ak 60) (h2:D*R<ak 60) (hq:Nrm q) (lq:q<10000) (hx:x≠0) (hv:∀ m,0<m→T.vl m g=co m (x,(q:Rat))) :
  Gd g∧(r.Perm (T.fin g)→Good r→r = [(x,(q:Rat))]):=by
 have cl:Cl (g.map (·.2)) g:=fun t ht _=>⟨t.2,List.mem_map.2 ⟨t,ht,rfl⟩,Rl.refl _⟩
 have gd:=BK h hD hR1 hk (by omega) (pL (j:=5) (Nat.lt_of_lt_of_le hR (by decide+kernel)) (by decide)) h1 h2 cl (by rw [List.length_map];omega)
 refine ⟨gd,fun hp hg => ?_⟩
 have ok:=Ok.fin (L:=g) (Ln:=k) h hk (fun t ht=>(h t ht).r) (fun _ _=>rfl) gd cl hp
 exact uB ok.red (fun t ht=>by obtain ⟨b,e,nb,lb⟩:=ok.rt t ht;exact ⟨b,e,nb,by omega⟩) (fun t ht=>(hg.ok t ht).1) hq lq hx fun m hm=>by rw [ok.vl m hm,hv m hm]
end T
namespace T
open Go.RowKit
theorem sq1:af (1:Rat)=⟨#[49]⟩:=ig
theorem sq2:af (2:Rat)=⟨#[50]⟩:=by decide+kernel
def Sv (W:World) (l:List Tm) (v:Value):Prop:=∃ p n c,v = .slice p n c∧Su W p n c l
theorem Sv.next {W W':World} {l:List Tm} {v:Value} (h:Sv W l v) (g:Below W.heap.size W W'):Sv W' l v:=by
 obtain ⟨p,n,c,e,s⟩:=h
 exact ⟨p,n,c,e,s.next g⟩
theorem Rs.only {g l:List Tm} {w W':World} {e:Ending} {B:Nat} (h:Rs g B w e W') (ho:∀ r,r.Perm (T.fin g)→Good r→r=l):∃ v,e = .returned (.tuple #[v,.int .i64 0])∧Sv W' l v∧Below B w W':=by
 obtain ⟨p,n,c,r,e1,hp,hs,hb⟩:=h
 obtain rfl:=ho r hp hs.good
 exact ⟨_,e1,⟨p,n,c,rfl,hs⟩,hb⟩
theorem BY {W:World} {b:Nat} {x q:Rat} (hg:Good [(x,q)]) (h:Blk W b #[.string (af x),.string (af q)]):Su W (some ⟨b,0,none⟩) 1 1 [(x,q)]:=Su.lit hg (Tl.lit1 x q h) 1 (by simp)
end T
section
open Go.RowKit
theorem lG {l:List UInt8} (h:l.all aA=false):fH l=false:=by unfold fH;rw [h];rfl
theorem DX {l:List UInt8} (h:1<l.length) (h48:l.head? = some 48):fH l=false:=by
 unfold fH;rw [decide_eq_true h,h48];simp
theorem ru {l:List UInt8} (h:l.all aA=true) (h0:0<l.length) (h48:l[0]? = some 48→l.length≤1):fH l=true:=by
 unfold fH
 rw [h]
 cases l with
 | nil=>simp at h0
 | cons c t =>
  simp only [Bool.true_and,List.isEmpty_cons,Bool.not_false,Bool.not_eq_true',Bool.and_eq_false_iff,decide_eq_false_iff_not]
  by_cases hl:1<(c::t).length
  ·right;rw [beq_eq_false_iff_ne];intro e;have:=h48 (by simpa using e);omega
  ·left;exact hl
theorem nk (s:ByteArray) (w:World) (hs:s.size≤maxLen) :
  Calls Tryz.prog 63 #[.string s] w fun e w'=>e = .returned (.bool (fH s.data.toList))∧w=w':=by
 have hm:s.size≤9223372036854775807:=by unfold maxLen at hs;omega
 clear hs
 by_cases h0:s.size=0
 ·have h0':((s.size:Int)==0)=true:=by rw [h0];rfl
  have hr:=Ha (show fH s.data.toList=false by rw [fF h0];rfl)
  go_enter Tryz.func63,Tryz.ntmps63
  go_wp2
  go_ret
  exact ⟨cV hr.out.symm,rfl⟩
 have hp:0<s.size:=by omega
 have h0':((s.size:Int)==0)=false:=by rw [beq_eq_false_iff_ne];omega
 by_cases h1:1<s.size
 ·have h1':(1:Int)<s.size:=by omega
  by_cases hc:((s[0].toNat:Int)==48)=true
  ·have hr:=Ha (DX (l:=s.data.toList) (by rw [ag];omega) (by
    rw [gW hp]
    have:=mM s[0] 48 (by decide)
    rw [show ((48:Nat):Int)=48 from rfl,hc] at this
    exact congrArg some (by simpa using this.symm)))
   go_enter Tryz.func63,Tryz.ntmps63
   go_wp2
   go_ret
   exact ⟨cV hr.out.symm,rfl⟩
  ·have hc':((s[0].toNat:Int)==48)=false:=by simpa using hc
   clear hc
   have H48:=Ha (fun h:s.data.toList[0]? = some 48=>show s.size≤1 from absurd h (xh hp hc'))
   go_enter Tryz.func63,Tryz.ntmps63
   go_wp2
   go_loop [3] (fun i=>∃ k:Nat,k≤s.size∧i = .int .i64 k∧Hid ((s.data.toList.take k).all aA=true)) (fun i=>s.size - (intOf i).toNat)
   case atStart=>exact ⟨0,by omega,rfl,rfl⟩
   case round =>
    obtain ⟨k,hk,rfl,hd⟩:=hrel
    by_cases hlt:k<s.size
    ·by_cases h3:(s[k].toNat:Int)<48
     ·have hr:=Ha (lG (l:=s.data.toList) (by rw [List.all_eq_false];exact ⟨s[k],cR s k hlt,by rw [az];omega⟩))
      clear hd
      go_wp2
      go_ret
      exact ⟨cV hr.out.symm,rfl⟩
     ·by_cases h4:(57:Int)<s[k].toNat
      ·have hr:=Ha (lG (l:=s.data.toList) (by rw [List.all_eq_false];exact ⟨s[k],cR s k hlt,by rw [az];omega⟩))
       clear hd
       go_wp2
       go_ret
       exact ⟨cV hr.out.symm,rfl⟩
      ·have hdk:aA s[k]=true:=by rw [az];omega
       have hd':Hid ((s.data.toList.take (k+1)).all aA=true):=by
        show (s.data.toList.take (k+1)).all aA=true
        rw [bQ s k hlt,List.all_append,hd.out];simp [hdk]
       clear hd hdk
       go_wp2
       go_round
       case rel=>exact ⟨k+1,by omega,by go_num,hd'⟩
       case measure=>simp [intOf];omega
    ·have hr:=Ha (ru (l:=s.data.toList) (by have:=hd.out;rwa [List.take_of_length_le (by rw [ag];omega)] at this) (by rw [ag];omega) (fun h=>by rw [ag];exact H48.out h))
     clear hd
     go_wp2
     go_ret
     exact ⟨cV hr.out.symm,rfl⟩
 ·have h1':¬ (1:Int)<s.size:=by omega
  have H48:=Ha (fun _:s.data.toList[0]? = some 48=>show s.size≤1 by omega)
  go_enter Tryz.func63,Tryz.ntmps63
  go_wp2
  go_loop [3] (fun i=>∃ k:Nat,k≤s.size∧i = .int .i64 k∧Hid ((s.data.toList.take k).all aA=true)) (fun i=>s.size - (intOf i).toNat)
  case atStart=>exact ⟨0,by omega,rfl,rfl⟩
  case round =>
   obtain ⟨k,hk,rfl,hd⟩:=hrel
   by_cases hlt:k<s.size
   ·by_cases h3:(s[k].toNat:Int)<48
    ·have hr:=Ha (lG (l:=s.data.toList) (by rw [List.all_eq_false];exact ⟨s[k],cR s k hlt,by rw [az];omega⟩))
     clear hd
     go_wp2
     go_ret
     exact ⟨cV hr.out.symm,rfl⟩
    ·by_cases h4:(57:Int)<s[k].toNat
     ·have hr:=Ha (lG (l:=s.data.toList) (by rw [List.all_eq_false];exact ⟨s[k],cR s k hlt,by rw [az];omega⟩))
      clear hd
      go_wp2
      go_ret
      exact ⟨cV hr.out.symm,rfl⟩
     ·have hdk:aA s[k]=true:=by rw [az];omega
      have hd':Hid ((s.data.toList.take (k+1)).all aA=true):=by
       show (s.data.toList.take (k+1)).all aA=true
       rw [bQ s k hlt,List.all_append,hd.out];simp [hdk]
      clear hd hdk
      go_wp2
      go_round
      case rel=>exact ⟨k+1,by omega,by go_num,hd'⟩
      case measure=>simp [intOf];omega
   ·have hr:=Ha (ru (l:=s.data.toList) (by have:=hd.out;rwa [List.take_of_length_le (by rw [ag];omega)] at this) (by rw [ag];omega) (fun h=>by rw [ag];exact H48.out h))
    clear hd
    go_wp2
    go_ret
    exact ⟨cV hr.out.symm,rfl⟩
def bsN (s:ByteArray):ByteArray:=⟨(sN s.data.toList).toArray⟩
def bsD (s:ByteArray):ByteArray:=⟨(sD s.data.toList).toArray⟩
theorem lH (s:ByteArray):(bsN s).data.toList=sN s.data.toList:=by simp [bsN]
theorem jt (s:ByteArray):(bsD s).data.toList=sD s.data.toList:=by simp [bsD]
theorem sY (l:List UInt8):bz l=bz (szL l)∧(bz l=true→aK l=aK (szL l)):=by
 cases hn:aw l
 ·rw [a7 hn];exact ⟨rfl,fun _=>rfl⟩
 ·obtain ⟨t,rfl,hs⟩:=iC hn
  rw [hs]
  have h1:bz (45::t)=bz t:=by unfold bz;simp
  refine ⟨h1,fun h => ?_⟩
  unfold aK
  rw [h,←h1,h,if_pos rfl,if_pos rfl,List.dropWhile_cons_of_pos (by decide)]
theorem sZ (l:List UInt8):sN l=be (szL l):=rfl
theorem oX {l t u:List UInt8} (hz:szL l=t++47::u) (hno:(47:UInt8) ∉ t):sN l=t∧bz l=true∧sD l=u:=by
 obtain ⟨c1,c2,c3⟩:=nX hno u
 obtain ⟨e1,e2⟩:=sY l
 rw [hz] at e1 e2
 rw [c2] at e1
 refine ⟨by rw [sZ,hz,c1],e1,?_⟩
 unfold sD
 rw [if_pos e1,e2 e1,c3]
theorem BZ {l:List UInt8} (hno:(47:UInt8) ∉ szL l):sN l=szL l∧bz l=false∧sD l = []:=by
 obtain ⟨c1,c2,c3⟩:=nW hno
 obtain ⟨e1,e2⟩:=sY l
 rw [c2] at e1
 refine ⟨by rw [sZ,c1],e1,?_⟩
 unfold sD
 rw [e1];rfl
theorem lI {s:ByteArray} {k:Nat} (h:(47:UInt8) ∉ s.data.toList.take k) (hk:k<s.size) (h47:((s[k].toNat:Int)==47)=false):(47:UInt8) ∉ s.data.toList.take (k+1):=by
 rw [bQ s k hk,List.mem_append,not_or]
 refine ⟨h,fun e => ?_⟩
 have e:=List.mem_singleton.1 e
 rw [←e] at h47
 exact absurd h47 (by decide)
theorem uE {s t:ByteArray} {k:Nat} (hz:szL s.data.toList=t.data.toList) (h:(47:UInt8) ∉ t.data.toList.take k) (hk:k<t.size) (h47:((t[k].toNat:Int)==47)=true):t.extract 0 k=bsN s∧t.extract (k+1) t.size=bsD s∧bz s.data.toList=true:=by
 have hc:t[k]=47:=by
  have:=mM t[k] 47 (by decide)
  rw [show ((47:Nat):Int)=47 from rfl,h47] at this
  simpa using this.symm
 have hspl:szL s.data.toList=t.data.toList.take k++47::t.data.toList.drop (k+1):=by
  rw [hz,←hc]
  have h1:t[k]=t.data.toList[k]'(by rw [ag];exact hk):=rfl
  rw [h1,←List.drop_eq_getElem_cons,List.take_append_drop]
 obtain ⟨e1,e2,e3⟩:=oX hspl h
 refine ⟨aU ?_,aU ?_,e2⟩
 ·rw [Lib.extract_data,lH,e1];simp
 ·rw [Lib.extract_data,jt,e3,List.take_of_length_le (by rw [List.length_drop,ag];omega)]
theorem mB {s t:ByteArray} {k:Nat} (hz:szL s.data.toList=t.data.toList) (h:(47:UInt8) ∉ t.data.toList.take k) (hk:t.size≤k):t=bsN s∧bsD s=⟨#[]⟩∧bz s.data.toList=false:=by
 rw [List.take_of_length_le (by rw [ag];omega)] at h
 obtain ⟨e1,e2,e3⟩:=BZ (l:=s.data.toList) (by rw [hz];exact h)
 refine ⟨aU (by rw [lH,e1,hz]),aU (by rw [jt,e3]),e2⟩
theorem fh {fn:Func} {t u v z:Tmp} (h:fn.results = #[.tmp t,.tmp u,.tmp v,.tmp z]) (tmps:Array Value) (P:Program) (w:World) :
  (results fn tmps).run P w = .ok (.tuple #[tmps.getD t undef,tmps.getD u undef,tmps.getD v undef,tmps.getD z undef]) w:=by
 simp [results,h]
theorem ik {a b:Bool} {n d n' d':ByteArray} {f:Bool} (h1:n=n') (h2:d=d') (h3:b=f):Ending.returned (.tuple #[.bool a,.string n,.string d,.bool b]) = .returned (.tuple #[.bool a,.string n',.string d',.bool f]):=by rw [h1,h2,h3]
theorem wM (s:ByteArray) (w:World) (hs:s.size≤maxLen) :
  Calls Tryz.prog 62 #[.string s] w fun e w'=>e = .returned (.tuple #[.bool (aw s.data.toList),.string (bsN s),.string (bsD s),.bool (bz s.data.toList)])∧Below w.heap.size w w':=by
 have hm:s.size≤9223372036854775807:=by unfold maxLen at hs;omega
 clear hs
 cases hn:aw s.data.toList
 ·have HT:=Ha (show szL s.data.toList=s.data.toList from a7 hn)
  by_cases h0:s.size=0
  ·have h0':¬ (0:Int)<s.size:=by omega
   go_enter Tryz.func62,Tryz.ntmps62
   go_wp2
   go_loop [8] (fun i=>∃ k:Nat,k≤s.size∧i = .int .i64 k∧Hid ((47:UInt8) ∉ s.data.toList.take k)) (fun i=>s.size - (intOf i).toNat)
   case atStart=>exact ⟨0,by omega,rfl,by show (47:UInt8) ∉ s.data.toList.take 0;simp⟩
   case round =>
    obtain ⟨k,hk,rfl,hd⟩:=hrel
    have hlt:¬ k<s.size:=by omega
    have hr:=Ha (mB HT.out hd.out (by omega))
    clear hd
    go_wp2
    (try simp only [Exit.inBlock,Exit.then]);refine bodyPost_ret (fh rfl _ _ _) rfl ?_
    exact ⟨ik hr.out.1 hr.out.2.1.symm hr.out.2.2.symm,Below.refl _ _⟩
  ·have hp:0<s.size:=by omega
   have h0':(0:Int)<s.size:=by omega
   have h45:((s[0].toNat:Int)==45)=false:=(dq hp).trans hn
   go_enter Tryz.func62,Tryz.ntmps62
   go_wp2
   go_loop [8] (fun i=>∃ k:Nat,k≤s.size∧i = .int .i64 k∧Hid ((47:UInt8) ∉ s.data.toList.take k)) (fun i=>s.size - (intOf i).toNat)
   case atStart=>exact ⟨0,by omega,rfl,by show (47:UInt8) ∉ s.data.toList.take 0;simp⟩
   case round =>
    obtain ⟨k,hk,rfl,hd⟩:=hrel
    by_cases hlt:k<s.size
    ·by_cases h47:((s[k].toNat:Int)==47)=true
     ·have hr:=Ha (uE HT.out hd.out hlt h47)
      clear hd
      go_wp2
      go_quiet (fail)
      go_wp2
      (try simp only [Exit.inBlock,Exit.then]);refine bodyPost_ret (fh rfl _ _ _) rfl ?_
      exact ⟨ik hr.out.1 (by first | exact hr.out.2.1 | (rw [←ht];exact hr.out.2.1)) hr.out.2.2.symm,Below.drewK _ _ _⟩
     ·have h47':((s[k].toNat:Int)==47)=false:=by simpa using h47
      have hd':=Ha (lI hd.out hlt h47')
      clear hd h47
      go_wp2
      go_round
      case rel=>exact ⟨k+1,by omega,by go_num,hd'⟩
      case measure=>simp [intOf];omega
    ·have hr:=Ha (mB HT.out hd.out (by omega))
     clear hd
     go_wp2
     (try simp only [Exit.inBlock,Exit.then]);refine bodyPost_ret (fh rfl _ _ _) rfl ?_
     exact ⟨ik hr.out.1 hr.out.2.1.symm hr.out.2.2.symm,Below.refl _ _⟩
 ·have hp:=iA hn
  have h0':(0:Int)<s.size:=by omega
  have h45:((s[0].toNat:Int)==45)=true:=(dq hp).trans hn
  have hz:szL s.data.toList=(s.extract 1 s.size).data.toList:=by
   rw [yE hn,Lib.extract_data,List.take_of_length_le (by rw [List.length_drop,ag];omega)]
  have ht:=ext_size s
  generalize hte:s.extract 1 s.size=t at *
  have HT:=Ha hz
  clear hz hn
  go_enter Tryz.func62,Tryz.ntmps62
  go_wp2
  clear hte
  go_loop [8] (fun i=>∃ k:Nat,k≤t.size∧i = .int .i64 k∧Hid ((47:UInt8) ∉ t.data.toList.take k)) (fun i=>t.size - (intOf i).toNat)
  case atStart=>exact ⟨0,by omega,rfl,by show (47:UInt8) ∉ t.data.toList.take 0;simp⟩
  case round =>
   obtain ⟨k,hk,rfl,hd⟩:=hrel
   by_cases hlt:k<t.size
   ·by_cases h47:((t[k].toNat:Int)==47)=true
    ·have hr:=Ha (uE HT.out hd.out hlt h47)
     clear hd
     go_wp2
     go_quiet (fail)
     go_wp2
     (try simp only [Exit.inBlock,Exit.then]);refine bodyPost_ret (fh rfl _ _ _) rfl ?_
     exact ⟨ik hr.out.1 (by first | exact hr.out.2.1 | (rw [←ht];exact hr.out.2.1)) hr.out.2.2.symm,Below.drewK _ _ _⟩
    ·have h47':((t[k].toNat:Int)==47)=false:=by simpa using h47
     have hd':=Ha (lI hd.out hlt h47')
     clear hd h47
     go_wp2
     go_round
     case rel=>exact ⟨k+1,by omega,by go_num,hd'⟩
     case measure=>simp [intOf];omega
   ·have hr:=Ha (mB HT.out hd.out (by omega))
    clear hd
    go_wp2
    (try simp only [Exit.inBlock,Exit.then]);refine bodyPost_ret (fh rfl _ _ _) rfl ?_
    exact ⟨ik hr.out.1 hr.out.2.1.symm hr.out.2.2.symm,Below.refl _ _⟩
theorem pO (t:ByteArray) (w:World) (hs:t.size≤18) (ha:t.data.toList.all aA=true) :
  Calls Tryz.prog 65 #[.string t] w fun e w'=>e = .returned (.int .i64 (ah t.data.toList:Nat))∧w=w':=by
 have HA:=Ha ha;clear ha
 go_enter Tryz.func65,Tryz.ntmps65
 go_wp2
 go_loop [3,4] (fun n i=>∃ k:Nat,k≤t.size∧i = .int .i64 k∧n = .int .i64 (ah (t.data.toList.take k):Nat)) (fun _ i=>t.size - (intOf i).toNat)
 case atStart=>exact ⟨0,Nat.zero_le _,rfl,rfl⟩
 case round =>
  obtain ⟨k,hk,rfl,rfl⟩:=hrel
  by_cases hlt:k<t.size
  ·have hdk:=List.all_eq_true.1 HA.out t[k] (cR t k hlt)
   rw [az] at hdk
   have h3:¬ (t[k].toNat:Int)<48:=by omega
   have h4:¬ (57:Int)<t[k].toNat:=by omega
   have htk:∀ j,j≤18→ah (t.data.toList.take j)<1000000000000000000:=fun j hj=>by
    refine Nat.lt_of_lt_of_le (aX _ (fun c hc=>List.all_eq_true.1 HA.out c (List.mem_of_mem_take hc))) ?_
    exact Nat.le_trans (Nat.pow_le_pow_right (by decide) (Nat.le_trans (List.length_take_le _ _) hj)) (by decide)
   have hn:=htk k (by omega)
   have HS:Hid (ah (t.data.toList.take (k+1))=ah (t.data.toList.take k)*10+(t[k].toNat - 48)):=by rw [bQ t k hlt];exact bR _ _
   have hn17:=htk (k+1) (by omega)
   rw [HS.out] at hn17
   clear hdk htk
   go_wp2
   go_round
   case rel=>exact ⟨k+1,by omega,by go_num,by rw [HS.out];go_num⟩
   case measure=>simp [intOf];omega
  ·have hk2:t.data.toList.take k=t.data.toList:=List.take_of_length_le (by rw [ag];omega)
   rw [hk2]
   clear hk2
   go_wp2
   go_ret
   exact ⟨rfl,rfl⟩
theorem B4 (a b:Nat) (w:World) (ha:a<9223372036854775808) (hb:b<9223372036854775808) :
  Calls Tryz.prog 64 #[.int .i64 a,.int .i64 b] w fun e w'=>e = .returned (.int .i64 (Nat.gcd a b:Nat))∧Below w.heap.size w w':=by
 go_enter Tryz.func64,Tryz.ntmps64
 go_wp2
 go_loopw [0,1] (fun x y wr=>∃ a' b':Nat,a'<9223372036854775808∧b'<9223372036854775808∧x = .int .i64 a'∧y = .int .i64 b'∧Hid (Nat.gcd a' b'=Nat.gcd a b)∧∃ n,wr=w.drewN n) (fun _ y _=>(intOf y).toNat)
 case atStart=>exact ⟨a,b,ha,hb,rfl,rfl,rfl,0,rfl⟩
 case round =>
  obtain ⟨a',b',ha',hb',rfl,rfl,hg,m,rfl⟩:=hrel
  clear ha hb
  by_cases h0:b'=0
  ·subst h0
   go_wp2
   go_ret
   exact ⟨ao (by have:=hg.out;rw [Nat.gcd_zero_right] at this;rw [this]),Below.drewK _ _ _⟩
  ·have hne:((b':Int) != 0)=true:=by simpa using h0
   have hne2:((b':Int)==0)=false:=by simpa using h0
   have hlt:a' % b'<b':=Nat.mod_lt _ (by omega)
   have hg2:Hid (Nat.gcd b' (a' % b')=Nat.gcd a b):=by
    show Nat.gcd b' (a' % b')=Nat.gcd a b
    rw [←hg.out,Nat.gcd_comm a' b',Nat.gcd_rec b' a',Nat.gcd_comm]
   clear hg h0
   go_wp2
   go_quiet (fail)
   go_wp2
   go_roundw
   case rel=>exact ⟨b',a' % b',hb',by omega,rfl,by rw [Int.natCast_emod],hg2,_,World.drewN_drewN _ _ _⟩
   case measure =>
    show (intOf (.int .i64 ((a':Int) % b'))).toNat<_
    rw [←Int.natCast_emod];simp [intOf];omega
end
namespace R
def B:Nat:=1000000
theorem fN:B=1000000:=rfl
theorem cK:0<B:=by decide
def toN:List Nat→Nat
 | []=>0
 | d::r=>d+B*toN r
def Dig (l:List Nat):Prop:=∀ x∈l,x<1000000
theorem Dig.nil:Dig []:=fun _ h=>by cases h
theorem Dig.cons {d:Nat} {l:List Nat} (h:d<1000000) (hl:Dig l):Dig (d::l):=fun x hx=>by
 rcases List.mem_cons.1 hx with rfl | hx
 ·exact h
 ·exact hl x hx
theorem Dig.head {d:Nat} {l:List Nat} (h:Dig (d::l)):d<1000000:=h d (by simp)
theorem Dig.tail {d:Nat} {l:List Nat} (h:Dig (d::l)):Dig l:=fun x hx=>h x (by simp [hx])
theorem Dig.take {l:List Nat} (h:Dig l) (k:Nat):Dig (l.take k):=fun x hx=>h x (List.mem_of_mem_take hx)
theorem Dig.drop {l:List Nat} (h:Dig l) (k:Nat):Dig (l.drop k):=fun x hx=>h x (List.mem_of_mem_drop hx)
theorem Dig.append {l m:List Nat} (h:Dig l) (h':Dig m):Dig (l++m):=fun x hx=>by
 rcases List.mem_append.1 hx with hx | hx
 ·exact h x hx
 ·exact h' x hx
theorem Dig.one {d:Nat} (h:d<1000000):Dig [d]:=Dig.cons h Dig.nil
theorem Dig.getD {l:List Nat} (h:Dig l) (i:Nat):l.getD i 0<1000000:=by
 by_cases hi:i<l.length
 ·rw [List.getD_eq_getElem?_getD,List.getElem?_eq_getElem hi];exact h _ (List.getElem_mem _)
 ·rw [List.getD_eq_getElem?_getD,List.getElem?_eq_none (by omega)];simp
theorem Dig.replicate (k:Nat):Dig (List.replicate k 0):=fun x hx=>by
 rw [(List.mem_replicate.1 hx).2];decide
theorem bT (l m:List Nat):toN (l++m)=toN l+B ^ l.length*toN m:=by
 induction l with
 | nil=>simp [toN]
 | cons d r ih =>
  simp only [List.cons_append,toN,ih,List.length_cons,Nat.pow_succ]
  rw [Nat.mul_add,Nat.add_assoc,←Nat.mul_assoc,Nat.mul_comm B (B ^ r.length)]
theorem aW (l:List Nat) (d:Nat):toN (l ++ [d])=toN l+B ^ l.length*d:=by
 rw [bT];simp [toN]
theorem dQ (k:Nat):toN (List.replicate k 0)=0:=by
 induction k with
 | zero=>rfl
 | succ k ih=>rw [List.replicate_succ];simp [toN,ih]
theorem cO {l:List Nat} (h:Dig l):toN l<B ^ l.length:=by
 induction l with
 | nil=>simp [toN]
 | cons d r ih =>
  have h1:=ih h.tail
  have h2:=h.head
  rw [toN,List.length_cons,Nat.pow_succ,Nat.mul_comm (B ^ r.length) B]
  have h3:B*toN r+B≤B*B ^ r.length:=by
   rw [←Nat.mul_succ];exact Nat.mul_le_mul_left B h1
  rw [fN] at *
  omega
theorem bj (l:List Nat) (k:Nat) (h:k<l.length):l.take (k+1)=l.take k ++ [l.getD k 0]:=by
 rw [List.take_succ_eq_append_getElem h,List.getD_eq_getElem?_getD,List.getElem?_eq_getElem h];rfl
theorem aC (l:List Nat) (k:Nat) (h:k<l.length):toN (l.take (k+1))=toN (l.take k)+B ^ k*l.getD k 0:=by
 rw [bj l k h,aW,List.length_take,Nat.min_eq_left (by omega)]
def dg (n:Nat):List Nat:=if _h:n=0 then [] else n % B::dg (n / B)
termination_by n
decreasing_by exact Nat.div_lt_self (by omega) (by decide)
theorem aD:dg 0 = []:=by rw [dg];rfl
theorem dC {n:Nat} (h:n≠0):dg n=n % B::dg (n / B):=by rw [dg,dif_neg h]
theorem aE (n:Nat):toN (dg n)=n:=by
 induction n using Nat.strongRecOn with
 | _ n ih =>
  by_cases h:n=0
  ·subst h;rw [aD];rfl
  ·rw [dC h,toN,ih (n / B) (Nat.div_lt_self (by omega) (by decide))]
   exact Nat.mod_add_div n B
theorem aB (n:Nat):Dig (dg n):=by
 induction n using Nat.strongRecOn with
 | _ n ih =>
  by_cases h:n=0
  ·subst h;rw [aD];exact Dig.nil
  ·rw [dC h]
   exact Dig.cons (Nat.mod_lt _ (by decide)) (ih (n / B) (Nat.div_lt_self (by omega) (by decide)))
theorem dW {l:List Nat} (hne:l ≠ []) (hl:l.getLast? ≠ some 0):0<toN l:=by
 induction l with
 | nil=>exact absurd rfl hne
 | cons d r ih =>
  rw [toN]
  by_cases hr:r = []
  ·subst hr
   have:d≠0:=fun e=>hl (by rw [e];rfl)
   omega
  ·have h1:=ih hr (by rwa [List.getLast?_cons_of_ne_nil hr] at hl)
   have:=Nat.mul_pos cK h1
   omega
theorem pg {l:List Nat} (h:Dig l) (hl:l.getLast? ≠ some 0):dg (toN l)=l:=by
 induction l with
 | nil=>exact aD
 | cons d r ih =>
  have h0:=dW (l:=d::r) (by simp) hl
  have hd:d<B:=h.head
  rw [dC (by omega)]
  simp only [toN]
  have e1:(d+B*toN r) % B=d:=by rw [Nat.add_mul_mod_self_left];exact Nat.mod_eq_of_lt hd
  have e2:(d+B*toN r) / B=toN r:=by
   rw [Nat.add_mul_div_left _ _ cK,Nat.div_eq_of_lt hd];omega
  rw [e1,e2]
  by_cases hr:r = []
  ·subst hr;rw [show toN []=0 from rfl,aD]
  ·rw [ih h.tail (by rwa [List.getLast?_cons_of_ne_nil hr] at hl)]
theorem dD (n:Nat):dg n = []↔n=0:=by
 constructor
 ·intro h;have:=aE n;rw [h] at this;exact this.symm
 ·rintro rfl;exact aD
theorem av (n k : Nat) : (dg n).length ≤ k ↔ n < B ^ k := by
 constructor
 · intro h
   have h1 := cO (aB n)
   rw [aE] at h1
   exact Nat.lt_of_lt_of_le h1 (Nat.pow_le_pow_right cK h)
 · induction k generalizing n with
   | zero => intro h; have : n = 0 := by simpa using h
             subst this; rw [aD]; exact Nat.le_refl _
   | succ k ih =>
     intro h
     by_cases h0 : n = 0
     · subst h0; rw [aD]; simp
     · rw [dC h0, List.length_cons]
       have := ih (n / B) (by rw [Nat.div_lt_iff_lt_mul cK]; rwa [Nat.pow_succ] at h)
       omega
theorem gC {l:List Nat} (h:Dig l) (k:Nat) (hk:k≤l.length) (hv:toN (l.take k)=toN l) (hl:k=0∨l.getD (k - 1) 0≠0):dg (toN l)=l.take k:=by
 rw [←hv]
 refine pg (h.take k) ?_
 rcases hl with rfl | hl
 ·simp
 ·intro e
  by_cases h0:k=0
  ·subst h0;simp at e
  ·apply hl
   have h1:k - 1<l.length:=by omega
   have h2:=bj l (k - 1) h1
   rw [Nat.sub_add_cancel (by omega)] at h2
   rw [h2,List.getLast?_concat] at e
   exact Option.some.inj e
theorem wg {n:Nat} (h0:n≠0) (h:n<B):dg n = [n]:=by
 rw [dC h0,Nat.mod_eq_of_lt h,Nat.div_eq_of_lt h,aD]
end R
namespace R
theorem getD_lt {l:List Nat} {k:Nat} (h:k<l.length):l.getD k 0=l[k]:=by
 rw [List.getD_eq_getElem?_getD,List.getElem?_eq_getElem h];rfl
theorem nR (l:List Nat) (k d:Nat) (h:k<l.length):toN (l.set k d)+B ^ k*l.getD k 0=toN l+B ^ k*d:=by
 induction l generalizing k with
 | nil=>simp at h
 | cons a r ih =>
  cases k with
  | zero=>simp [toN];omega
  | succ k =>
   have h1:=ih k (by simpa using h)
   simp only [List.set_cons_succ,toN,List.getD_cons_succ,Nat.pow_succ]
   have h2:B*toN (r.set k d)+B*(B ^ k*r.getD k 0)=B*toN r+B*(B ^ k*d):=by rw [←Nat.mul_add,←Nat.mul_add,h1]
   rw [Nat.mul_comm (B ^ k) B,Nat.mul_assoc,Nat.mul_assoc]
   omega
theorem Dig.set {l:List Nat} (h:Dig l) (k:Nat) {d:Nat} (hd:d<1000000):Dig (l.set k d):=fun x hx=>by
 rcases List.mem_or_eq_of_mem_set hx with hx | rfl
 ·exact h x hx
 ·exact hd
theorem getD_set_ne (l:List Nat) (k m d:Nat) (h:k≠m):(l.set k d).getD m 0=l.getD m 0:=by
 rw [List.getD_eq_getElem?_getD,List.getD_eq_getElem?_getD,List.getElem?_set_ne h]
theorem fU {x y:Nat} (hx:x<1000000) (hy:y<1000000):x*y≤999998000001:=by
 have:=Nat.mul_le_mul (show x≤999999 by omega) (show y≤999999 by omega)
 omega
theorem jq {o:List Nat} {k x y c:Nat} (hk:k<o.length) (ho:Dig o) (hx:x<1000000) (hy:y<1000000) (hc:c<1000000) :
  let t:=o.getD k 0+x*y+c
  t / 1000000<1000000∧t % 1000000<1000000∧toN (o.set k (t % 1000000))+B ^ (k+1)*(t / 1000000)=toN o+B ^ k*(x*y+c):=by
 intro t
 have h1:=fU hx hy
 have h2:=ho.getD k
 have h3:t<1000000*1000000:=by show o.getD k 0+x*y+c<_;omega
 refine ⟨by omega,by omega,?_⟩
 have h4:=nR o k (t % 1000000) hk
 have h5:B ^ k*t=B ^ k*(t % 1000000)+B ^ (k+1)*(t / 1000000):=by
  rw [Nat.pow_succ,Nat.mul_assoc,←Nat.mul_add,fN]
  congr 1
  omega
 have h6:B ^ k*t=B ^ k*o.getD k 0+B ^ k*(x*y+c):=by
  rw [←Nat.mul_add];congr 1;show o.getD k 0+x*y+c=_;omega
 omega
end R
namespace R
open Go.RowKit
def Nats (w:World) (v:Value) (l:List Nat):Prop :=
 ∃ p cap,v = .slice p l.length cap∧l.length≤cap∧cap≤9223372036854775807 ∧
  (l ≠ []→∃ b off,p=some ⟨b,off,none⟩∧∀ i,i<l.length→w.cell? ⟨b,off+i,none⟩=some (.int .i64 (l.getD i 0:Nat)))
theorem Nats.next {w w':World} {v:Value} {l:List Nat} (h:Nats w v l) (hb:Below w.heap.size w w'):Nats w' v l:=by
 obtain ⟨p,cap,rfl,h1,h2,h3⟩:=h
 refine ⟨p,cap,rfl,h1,h2,fun hne => ?_⟩
 obtain ⟨b,off,e,hc⟩:=h3 hne
 exact ⟨b,off,e,fun i hi=>(hb.cell (World.block_lt_of_cell? w _ (hc i hi))).trans (hc i hi)⟩
theorem Nats.nil (w:World):Nats w (.slice none 0 0) []:=⟨none,0,rfl,Nat.le_refl _,by decide,fun h=>absurd rfl h⟩
theorem aO {l:List Nat} (h:Dig l):dg (toN l) <+: l:=by
 induction l using gj with
 | h0=>rw [show toN []=0 from rfl,aD];exact List.prefix_refl _
 | hs m d ih =>
  by_cases hd:d=0
  ·subst hd
   rw [aW,Nat.mul_zero,Nat.add_zero]
   exact (ih (fun x hx=>h x (by simp [hx]))).trans (List.prefix_append _ _)
  ·rw [pg h (by rw [List.getLast?_concat];intro e;exact hd (Option.some.inj e))]
   exact List.prefix_refl _
theorem Nats.take {w:World} {p:Option Addr} {cap:Nat} {l m:List Nat} (h:Nats w (.slice p l.length cap) l) (hm:m <+: l):Nats w (.slice p m.length cap) m:=by
 obtain ⟨p',cap',he,h1,h2,h3⟩:=h
 simp only [Value.slice.injEq,true_and] at he
 obtain ⟨rfl,rfl⟩:=he
 refine ⟨p,cap,rfl,Nat.le_trans hm.length_le h1,h2,fun hne => ?_⟩
 obtain ⟨r,rfl⟩:=hm
 obtain ⟨b,off,e,hc⟩:=h3 (by simp [hne])
 refine ⟨b,off,e,fun i hi => ?_⟩
 rw [hc i (by rw [List.length_append];omega)]
 rw [List.getD_eq_getElem?_getD,List.getD_eq_getElem?_getD,List.getElem?_append_left hi]
def IsNat (w:World) (v:Value) (n:Nat):Prop:=Nats w v (dg n)
theorem IsNat.next {w w':World} {v:Value} {n:Nat} (h:IsNat w v n) (hb:Below w.heap.size w w'):IsNat w' v n:=Nats.next h hb
theorem Nats.of_cells {w:World} {b:Nat} {l:List Nat} {cap:Nat} (h1:l.length≤cap) (h2:cap≤9223372036854775807)
  (h:∀ i,i<l.length→w.cell? ⟨b,i,none⟩=some (.int .i64 (l.getD i 0:Nat))):Nats w (.slice (some ⟨b,0,none⟩) l.length cap) l :=
 ⟨_,cap,rfl,h1,h2,fun _=>⟨b,0,rfl,fun i hi=>by rw [Nat.zero_add];exact h i hi⟩⟩
theorem ju:(Tryz.prog.info? 3).map (fun i=>(i.zero,i.size,i.bytes))=some (some (.int .i64 0),1,8):=by kernel_rfl
theorem bI {w:World} {base:Nat} {v:Value} {l:List Nat} {e:TypeId} (h:w.ownsRow base e 1 v l.length (l.map fun x=>Value.int .i64 (x:Nat))):Nats w v l:=by
 have h':=h
 obtain ⟨h1,h2⟩:=h
 rcases h2 with ⟨rfl,h3⟩ | ⟨g,cap,cur,rfl,hb,hh,hn,hcap,hsz,htk⟩
 ·have:l = []:=List.eq_nil_of_length_eq_zero h3
  subst this;exact Nats.nil w
 ·refine ⟨_,cap,rfl,hn,by unfold maxLen at hcap;omega,fun _=>⟨g,0,rfl,fun i hi => ?_⟩⟩
  have h3:=h'.cells (g:=g) rfl i (.int .i64 (l.getD i 0:Nat)) (by
   rw [List.getElem?_map,List.getElem?_eq_getElem hi,List.getD_eq_getElem?_getD,List.getElem?_eq_getElem hi];rfl)
  have hadd:(⟨g,0,none⟩:Addr).add i=⟨g,0+i,none⟩:=by unfold Addr.add;split <;> simp_all
  rwa [hadd] at h3
def aj (l:List Nat):List Value:=l.map fun x=>Value.int .i64 (x:Nat)
theorem bJ (l:List Nat) (x:Nat):aj l ++ [Value.int .i64 (x:Nat)]=aj (l ++ [x]):=by simp [aj]
def Row (w:World) (g:Nat) (l:List Nat):Prop:=w.heap[g]? = some (.cells (aj l).toArray 3 (0,0))
theorem Row.cell {w:World} {g:Nat} {l:List Nat} (h:Row w g l) {i:Nat} (hi:i<l.length):w.cell? ⟨g,i,none⟩=some (.int .i64 (l.getD i 0:Nat)):=by
 rw [cell_of_row w g i _ _ (0,0) h]
 simp [aj,hi]
theorem Row.frozen {w:World} {g:Nat} {l:List Nat} (h:Row w g l) (i:Nat):w.frozen? ⟨g,i,none⟩=false:=by
 unfold Row at h
 simp [World.frozen?, h]
theorem Row.set {w:World} {g:Nat} {l:List Nat} (h:Row w g l) (i:Nat) (x:Nat):Row (w.setCell ⟨g,i,none⟩ (.int .i64 (x:Nat))) g (l.set i x):=by
 unfold Row at h ⊢
 simp [World.setCell,Array.getElem?_modify,h,aj,List.map_set]
theorem Row.lt {w:World} {g:Nat} {l:List Nat} (h:Row w g l):g<w.heap.size:=(Array.getElem?_eq_some_iff.1 h).1
theorem Row.nats {w:World} {g:Nat} {l:List Nat} (h:Row w g l) {cap:Nat} (h1:l.length≤cap) (h2:cap≤9223372036854775807):Nats w (.slice (some ⟨g,0,none⟩) l.length cap) l :=
 Nats.of_cells h1 h2 (fun _ hi=>h.cell hi)
theorem kC (n:Nat):(madeCells (Value.int .i64 0).cells (n*1)).toList=aj (List.replicate n 0):=by
 rw [Nat.mul_one]
 have h:(Value.int .i64 0).cells = #[.int .i64 0]:=by simp [Value.cells]
 rw [h,toList_madeCells_one]
 simp [aj]
theorem Row.of_made {w:World} {base g n:Nat} (h:w.ownsRow base 3 1 (.slice (some ⟨g,0,none⟩) n n) n (madeCells (Value.int .i64 0).cells (n*1)).toList):Row w g (List.replicate n 0):=by
 rcases h.2 with ⟨h1,_⟩ | ⟨g',cap,cur,h1,_,hh,_,_,hsz,htk⟩
 ·cases h1
 ·simp only [Value.slice.injEq,Option.some.injEq,Addr.mk.injEq,true_and,and_true] at h1
  obtain ⟨rfl,rfl⟩:=h1
  rw [kC,List.take_of_length_le (by simp [hsz])] at htk
  unfold Row
  rw [hh,←htk]
def RowC (w:World) (g:Nat) (l:List Nat):Prop:=∃ cur,w.heap[g]? = some (.cells cur 3 (0,0))∧cur.toList.take l.length=aj l
theorem RowC.cell {w:World} {g:Nat} {l:List Nat} (h:RowC w g l) {i:Nat} (hi:i<l.length):w.cell? ⟨g,i,none⟩=some (.int .i64 (l.getD i 0:Nat)):=by
 obtain ⟨cur,h1,h2⟩:=h
 rw [cell_of_row w g i _ _ (0,0) h1,←Array.getElem?_toList]
 have:(cur.toList.take l.length)[i]? = (aj l)[i]? := by rw [h2]
 rw [List.getElem?_take_of_lt hi] at this
 rw [this]
 simp [aj,hi]
theorem RowC.frozen {w:World} {g:Nat} {l:List Nat} (h:RowC w g l) (i:Nat):w.frozen? ⟨g,i,none⟩=false:=by
 obtain ⟨cur,h1,h2⟩:=h
 simp [World.frozen?, h1]
theorem RowC.set {w:World} {g:Nat} {l:List Nat} (h:RowC w g l) (i:Nat) (x:Nat):RowC (w.setCell ⟨g,i,none⟩ (.int .i64 (x:Nat))) g (l.set i x):=by
 obtain ⟨cur,h1,h2⟩:=h
 refine ⟨cur.setIfInBounds i (.int .i64 (x:Nat)),?_,?_⟩
 ·simp [World.setCell,Array.getElem?_modify,h1]
 ·rw [List.length_set,Array.toList_setIfInBounds,List.take_set,h2]
  simp [aj,List.map_set]
theorem RowC.lt {w:World} {g:Nat} {l:List Nat} (h:RowC w g l):g<w.heap.size:=by
 obtain ⟨cur,h1,h2⟩:=h
 exact (Array.getElem?_eq_some_iff.1 h1).1
theorem RowC.nats {w:World} {g:Nat} {l:List Nat} (h:RowC w g l) {cap:Nat} (h1:l.length≤cap) (h2:cap≤9223372036854775807):Nats w (.slice (some ⟨g,0,none⟩) l.length cap) l :=
 Nats.of_cells h1 h2 (fun _ hi=>h.cell hi)
theorem RowC.of_block {w w':World} {g:Nat} {l:List Nat} (h:RowC w g l) (hb:w'.heap[g]? = w.heap[g]?):RowC w' g l:=by
 obtain ⟨cur,h1,h2⟩:=h
 exact ⟨cur,hb.trans h1,h2⟩
theorem RowC.next {w w':World} {g B:Nat} {l:List Nat} (h:RowC w g l) (hb:Below B w w') (hg:g<B):RowC w' g l:=h.of_block (hb.block g hg)
theorem aZ {a b:Nat} (h:a≤b):(dg a).length≤(dg b).length:=by
 rw [av]
 exact Nat.lt_of_le_of_lt h ((av b _).1 (Nat.le_refl _))
theorem cP {b:Nat} (h:b≠0):0<(dg b).length:=List.length_pos_iff.2 (fun e=>h ((dD b).1 e))
theorem IsNat.shape {w:World} {v:Value} {n:Nat} (h:IsNat w v n):∃ p cap,v = .slice p (dg n).length cap:=by
 obtain ⟨p,cap,e,_⟩:=h;exact ⟨p,cap,e⟩
theorem il {a b:Nat} (h:(dg a).length<(dg b).length):a<b:=by
 have h1:=(av a _).1 (Nat.le_refl _)
 have h2:¬ b<B ^ (dg a).length:=fun hc=>by have:=(av b _).2 hc;omega
 omega
theorem im (l:List Nat) (i:Nat) (h:i<l.length):toN l=toN (l.take i)+B ^ i*l.getD i 0+B ^ (i+1)*toN (l.drop (i+1)):=by
 conv=>lhs;rw [←List.take_append_drop (i+1) l]
 rw [bT,aC l i h,List.length_take,Nat.min_eq_left (by omega)]
theorem fR {la lb:List Nat} {i:Nat} (ha:Dig la) (hia:i<la.length) (hib:i<lb.length) (hd:la.drop (i+1)=lb.drop (i+1)) (h:la.getD i 0<lb.getD i 0):toN la<toN lb:=by
 rw [im la i hia,im lb i hib,hd]
 have h1:=cO (ha.take i)
 rw [List.length_take,Nat.min_eq_left (by omega)] at h1
 have h2:B ^ i*la.getD i 0+B ^ i≤B ^ i*lb.getD i 0:=by rw [←Nat.mul_succ];exact Nat.mul_le_mul_left _ h
 omega
theorem lJ {la o:List Nat} {b r j:Nat} (hj:j<la.length) (hl:o.length=la.length) (h:toN (la.drop (j+1))=b*toN (o.drop (j+1))+r) :
  toN (la.drop j)=b*toN ((o.set j ((r*1000000+la.getD j 0) / b)).drop j)+(r*1000000+la.getD j 0) % b:=by
 rw [fx hj,jC (by omega)]
 show la.getD j 0+B*toN _=b*((r*1000000+la.getD j 0) / b+B*toN _)+_
 rw [h]
 have e:=Nat.div_add_mod (r*1000000+la.getD j 0) b
 generalize (r*1000000+la.getD j 0) / b=q at *
 generalize (r*1000000+la.getD j 0) % b=s at *
 generalize toN (o.drop (j+1))=T at *
 have hB:B=1000000:=rfl
 rw [hB,Nat.mul_add b q,Nat.mul_add 1000000 (b*T) r]
 have:b*(1000000*T)=1000000*(b*T):=Nat.mul_left_comm _ _ _
 omega
theorem s8 {b r d:Nat} (hb0:0<b) (hb:b<1000000) (hr:r<b) (hd:d<1000000) :
  (r*1000000+d) / b<1000000∧(r*1000000+d) % b<b∧r*1000000+d<1000000000000:=by
 refine ⟨?_,Nat.mod_lt _ hb0,by omega⟩
 rw [Nat.div_lt_iff_lt_mul hb0]
 have:(r+1)*1000000≤b*1000000:=Nat.mul_le_mul_right _ hr
 omega
theorem dw (n i:Nat):(dg n).getD i 0=n / B ^ i % B:=by
 induction i generalizing n with
 | zero =>
  by_cases h:n=0
  ·subst h;rw [aD];simp
  ·rw [dC h];simp
 | succ i ih =>
  by_cases h:n=0
  ·subst h;rw [aD];simp
  ·rw [dC h,List.getD_cons_succ,ih,Nat.pow_succ,Nat.mul_comm,Nat.div_div_eq_div_mul]
theorem Nats.setCell {w:World} {v:Value} {l:List Nat} {base:Nat} (h:Nats w v l) (hf:Fresh base v) {a:Addr} (ha:a.block<base) (u:Value):Nats (w.setCell a u) v l:=by
 obtain ⟨p,cap,rfl,h1,h2,h3⟩:=h
 refine ⟨p,cap,rfl,h1,h2,fun hne => ?_⟩
 obtain ⟨b,off,e,hc⟩:=h3 hne
 refine ⟨b,off,e,fun i hi => ?_⟩
 have hb:base≤b:=hf b (by rw [e];rfl)
 exact (World.cell?_of_block (Below.heap_setCell _ _ _ _ (by show b≠a.block;omega))).trans (hc i hi)
theorem IsNat.setCell {w:World} {v:Value} {n base:Nat} (h:IsNat w v n) (hf:Fresh base v) {a:Addr} (ha:a.block<base) (u:Value):IsNat (w.setCell a u) v n:=Nats.setCell h hf ha u
theorem IsNat.unique {w:World} {v:Value} {m n:Nat} (h:IsNat w v m) (h':IsNat w v n):m=n:=by
 obtain ⟨p,cap,rfl,a1,a2,a3⟩:=h
 obtain ⟨p',cap',he,b1,b2,b3⟩:=h'
 simp only [Value.slice.injEq] at he
 obtain ⟨rfl,hl,rfl⟩:=he
 have e:dg m=dg n:=by
  refine List.ext_getElem hl (fun i h1 h2 => ?_)
  obtain ⟨b,off,e1,c1⟩:=a3 (by intro e;rw [e] at h1;simp at h1)
  obtain ⟨b',off',e2,c2⟩:=b3 (by intro e;rw [e] at h2;simp at h2)
  rw [e1] at e2
  simp only [Option.some.injEq,Addr.mk.injEq,and_true] at e2
  obtain ⟨rfl,rfl⟩:=e2
  have:=(c1 i h1).symm.trans (c2 i h2)
  simp only [Option.some.injEq,Value.int.injEq,true_and] at this
  rw [getD_lt h1,getD_lt h2] at this
  exact Int.ofNat.inj this
 have:=congrArg toN e
 rwa [aE,aE] at this
open Classical in
noncomputable def a6 (w:World) (v:Value):Nat:=if h:∃ n,IsNat w v n then Classical.choose h else 0
theorem aR {w:World} {v:Value} {n:Nat} (h:IsNat w v n):a6 w v=n:=by
 unfold a6
 have hx:∃ n,IsNat w v n:=⟨n,h⟩
 rw [dif_pos hx]
 exact (Classical.choose_spec hx).unique h
end R
namespace R
open Go.RowKit
theorem jW (p:Option Addr) (cap:Nat) (l:List Nat) (w:World) (h:Nats w (.slice p l.length cap) l) (hd:Dig l) :
  Calls Tryz.prog 160 #[.slice p l.length cap] w fun e w'=>e = .returned (.slice p (dg (toN l)).length cap)∧w=w':=by
 obtain ⟨p',cap',he,h1,h2,h3⟩:=h
 simp only [Value.slice.injEq,true_and] at he
 obtain ⟨rfl,rfl⟩:=he
 have H3:=Ha h3;clear h3
 have HD:=Ha hd;clear hd
 go_enter Tryz.func160,Tryz.ntmps160
 go_wp2
 go_loop [3] (fun x=>∃ k:Nat,k≤l.length∧x = .int .i64 k∧Hid (toN (l.take k)=toN l)) (fun x=>(intOf x).toNat)
 case atStart=>exact ⟨l.length,Nat.le_refl _,rfl,by show toN _=_;rw [List.take_length]⟩
 case round =>
  obtain ⟨k,hk,rfl,hv⟩:=hrel
  by_cases h0:k=0
  ·subst h0
   have he:=gC HD.out 0 hk hv.out (.inl rfl)
   have HE:=Ha (show (dg (toN l)).length=0 by rw [he];simp);clear he
   go_wp2
   go_ret
   exact ⟨by rw [HE.out];rfl,rfl⟩
  ·obtain ⟨b,off,rfl,hc⟩:=H3.out (by intro e;subst e;simp at hk;omega)
   have hc1:=hc (k - 1) (by omega)
   have HC:=Ha hc;clear hc
   obtain ⟨j,rfl⟩:∃ j,k=j+1:=⟨k - 1,by omega⟩
   rw [Nat.add_sub_cancel] at hc1
   have hs:=aC l j (by omega)
   have HS:=Ha hs;clear hs
   have hl:=Ha (gC HD.out (j+1) hk hv.out)
   have hj1:(0:Int)<((j+1:Nat):Int):=by omega
   have ej:((j+1:Nat):Int) - 1=(j:Int):=by omega
   obtain ⟨J,hJ⟩:∃ J,j+1=J:=⟨_,rfl⟩
   rw [hJ] at hj1 ej hk hl ⊢
   have HJ:=Ha hJ;clear hJ
   have hx:(j:Int)<(J:Int):=by have:=HJ.out;omega
   by_cases hz:l.getD j 0=0
   ·have hv2:Hid (toN (l.take j)=toN l):=by
     show toN (l.take j)=toN l
     rw [←hv.out,HS.out,hz];simp
    rw [hz] at hc1
    have HZ:=Ha hz;clear hz hl hv HS
    generalize l.length=n at *
    go_wp2
    go_round
    case rel=>exact ⟨j,by omega,rfl,hv2⟩
    case measure=>simp [intOf];omega
   ·have hz':(((l.getD j 0:Nat):Int)==0)=false:=by rw [beq_eq_false_iff_ne];omega
    have hr:(dg (toN l)).length=J:=by
     rw [hl.out (.inr (by rw [←HJ.out,Nat.add_sub_cancel];exact hz)),List.length_take];omega
    have HR:=Ha hr;clear hr hz hl hv HS
    generalize l.getD j 0=d at *
    generalize l.length=n at *
    go_wp2
    go_ret
    exact ⟨by rw [HR.out];rfl,rfl⟩
theorem gE (v:Value) (l:List Nat) (w:World) (h:Nats w v l) (hd:Dig l) :
  Calls Tryz.prog 160 #[v] w fun e w'=>w=w'∧∃ v',e = .returned v'∧Nats w v' (dg (toN l))∧v'.ownBlock=v.ownBlock:=by
 have h':=h
 obtain ⟨p,cap,rfl,h1,h2,h3⟩:=h
 refine (jW p cap l w h' hd).mono fun e w' ⟨he,hw⟩=>⟨hw,_,he,h'.take (aO hd),?_⟩
 cases p <;> rfl
theorem jv (v:Value) (l:List Nat) (i:Nat) (w:World) (h:Nats w v l) (_hi:i≤4611686018427387904) :
  Calls Tryz.prog 162 #[v,.int .i64 (i:Nat)] w fun e w'=>e = .returned (.int .i64 (l.getD i 0:Nat))∧w=w':=by
 obtain ⟨p,cap,rfl,h1,h2,h3⟩:=h
 by_cases hlt:i<l.length
 ·obtain ⟨b,off,rfl,hc⟩:=h3 (by intro e;subst e;simp at hlt)
  have hc':=hc i hlt
  clear hc
  generalize l.length=n at *
  generalize l.getD i 0=d at *
  go_enter Tryz.func162,Tryz.ntmps162
  go_wp2
  go_ret
  exact ⟨rfl,rfl⟩
 ·have e:l.getD i 0=0:=by rw [List.getD_eq_getElem?_getD,List.getElem?_eq_none (by omega)];rfl
  rw [e]
  generalize l.length=n at *
  clear h3 e
  go_enter Tryz.func162,Tryz.ntmps162
  go_wp2
  go_ret
  exact ⟨rfl,rfl⟩
theorem rx {l:List Nat} {j:Nat} (h:l.length≤j):l.getD j 0=0:=by rw [List.getD_eq_getElem?_getD,List.getElem?_eq_none h];rfl
theorem gS (l:List Nat) (j:Nat):toN (l.take (j+1))=toN (l.take j)+B ^ j*l.getD j 0:=by
 by_cases h:j<l.length
 ·exact aC l j h
 ·rw [rx (by omega),List.take_of_length_le (by omega),List.take_of_length_le (by omega),Nat.mul_zero,Nat.add_zero]
theorem eH {l:List Nat} {j:Nat} (h:j<l.length):l.drop j=l.getD j 0::l.drop (j+1):=by
 rw [List.drop_eq_getElem_cons h,getD_lt h]
theorem B9 (va vb:Value) (a b:Nat) (w:World) (ha:IsNat w va a) (hb:IsNat w vb b) :
  Calls Tryz.prog 165 #[va,vb] w fun e W'=>e = .returned (.int .i64 (bM a b))∧∃ n,W'=w.drewN n:=by
 obtain ⟨pa,ca,rfl,a1,a2,a3⟩:=ha
 obtain ⟨pb,cb,rfl,b1,b2,b3⟩:=hb
 have HA:=Ha a3;have HB:=Ha b3;clear a3 b3
 have HN:=Ha (Hb (aE a) (aE b))
 have HD:=Ha (Hb (aB a) (aB b))
 have hlt:=Ha (fun h=>il (a:=a) (b:=b) h)
 have hgt:=Ha (fun h=>il (a:=b) (b:=a) h)
 by_cases hne:(dg a).length=(dg b).length
 ·have HC:=Ha (show bM a b=bM (toN (dg a)) (toN (dg b)) by rw [aE,aE])
  generalize dg a=la at *
  generalize dg b=lb at *
  rw [HC.out]
  clear hlt hgt HN HC
  obtain ⟨n,hn⟩:∃ n,la.length=n:=⟨_,rfl⟩
  have hn2:lb.length=n:=by omega
  have HN:=Ha (Hb hn hn2)
  rw [hn] at a1 ⊢
  rw [hn2] at b1 ⊢
  clear hne hn hn2
  have hneq:((n:Int) != n)=false:=by simp
  go_enter Tryz.func165,Tryz.ntmps165
  go_wp2
  go_loopw [5] (fun x wr=>∃ j:Nat,j≤n∧x = .int .i64 ((j:Int) - 1)∧Hid (la.drop j=lb.drop j)∧∃ k,wr=w.drewN k) (fun x _=>(intOf x+1).toNat)
  case atStart=>exact ⟨n,Nat.le_refl _,rfl,by show _=_;rw [List.drop_of_length_le (by rw [HN.out.1];exact Nat.le_refl _),List.drop_of_length_le (by rw [HN.out.2];exact Nat.le_refl _)],0,rfl⟩
  case round =>
   obtain ⟨j,hj,rfl,hd,hk⟩:=hrel
   have HK:=Ha hk;clear hk
   by_cases hj0:j=0
   ·subst hj0
    have he:bM (toN la) (toN lb)=0:=lM (by have:=hd.out;rw [List.drop_zero,List.drop_zero] at this;rw [this])
    have HE:=Ha he;clear he
    go_wp2
    go_ret
    exact ⟨by rw [HE.out];rfl,HK.out⟩
   ·obtain ⟨i,rfl⟩:∃ i,j=i+1:=⟨j - 1,by omega⟩
    have hia:i<la.length:=by rw [HN.out.1];omega
    have hib:i<lb.length:=by rw [HN.out.2];omega
    obtain ⟨ba,oa,rfl,hca⟩:=HA.out (by intro e;rw [e] at hia;simp at hia)
    obtain ⟨bb,ob,rfl,hcb⟩:=HB.out (by intro e;rw [e] at hib;simp at hib)
    have xa:wr.cell? ⟨ba,oa+i,none⟩=some (.int .i64 (la.getD i 0:Nat)):=by obtain ⟨kk,e⟩:=HK.out;rw [e];exact hca i hia
    have xb:wr.cell? ⟨bb,ob+i,none⟩=some (.int .i64 (lb.getD i 0:Nat)):=by obtain ⟨kk,e⟩:=HK.out;rw [e];exact hcb i hib
    have e1:=Ha (fun h=>fR (la:=la) (lb:=lb) (i:=i) HD.out.1 hia hib hd.out h)
    have e2:=Ha (fun h=>fR (la:=lb) (lb:=la) (i:=i) HD.out.2 hib hia hd.out.symm h)
    have e3:Hid (la.getD i 0=lb.getD i 0→la.drop i=lb.drop i):=fun h=>by rw [eH hia,eH hib,h,hd.out]
    clear hca hcb hia hib hd
    generalize la.getD i 0=x at *
    generalize lb.getD i 0=y at *
    have ei:((i:Int)+1 - 1)=(i:Int):=by omega
    have hx1:(i:Int)<(n:Int):=by omega
    have next:∀ q,Hid (∃ n,(wr.drewN q)=w.drewN n):=fun q=>by obtain ⟨kk,e⟩:=HK.out;exact ⟨_,by rw [e,World.drewN_drewN]⟩
    have NX:=Ha next
    clear next HK
    rcases Nat.lt_trichotomy x y with hxy | hxy | hxy
    ·have g1:(x:Int)<y:=by omega
     have hf:Hid (bM (toN la) (toN lb) = -1):=cT (e1.out hxy)
     clear e1 e2 e3 hxy
     go_wp2
     go_quiet (fail)
     go_wp2
     go_ret
     exact ⟨by rw [hf.out];rfl,(NX.out _).out⟩
    ·subst hxy
     have h3:Hid (la.drop i=lb.drop i):=e3.out rfl
     have g1:¬ (x:Int)<x:=by omega
     clear e1 e2 e3
     go_wp2
     go_quiet (fail)
     have ya:(wr.drewN nq).cell? ⟨ba,oa+i,none⟩=some (.int .i64 (x:Nat)):=xa
     have yb:(wr.drewN nq).cell? ⟨bb,ob+i,none⟩=some (.int .i64 (x:Nat)):=xb
     have NX2:=Ha (fun q=>show Hid (∃ n,(wr.drewN nq).drewN q=w.drewN n) by rw [World.drewN_drewN];exact NX.out _)
     clear xa xb NX
     generalize wr.drewN nq=W2 at *
     go_wp2
     go_quiet (fail)
     go_wp2
     go_roundw
     case rel=>exact ⟨i,by omega,by go_num,h3,(NX2.out _).out⟩
     case measure=>simp [intOf]
    ·have g1:¬ (x:Int)<y:=by omega
     have g2:(y:Int)<x:=by omega
     have hf:Hid (bM (toN la) (toN lb)=1):=dY (e2.out hxy)
     clear e1 e2 e3 hxy
     go_wp2
     go_quiet (fail)
     have ya:(wr.drewN nq).cell? ⟨ba,oa+i,none⟩=some (.int .i64 (x:Nat)):=xa
     have yb:(wr.drewN nq).cell? ⟨bb,ob+i,none⟩=some (.int .i64 (y:Nat)):=xb
     have NX2:=Ha (fun q=>show Hid (∃ n,(wr.drewN nq).drewN q=w.drewN n) by rw [World.drewN_drewN];exact NX.out _)
     clear xa xb NX
     generalize wr.drewN nq=W2 at *
     go_wp2
     go_quiet (fail)
     go_wp2
     go_ret
     exact ⟨by rw [hf.out];rfl,(NX2.out _).out⟩
 ·rcases Nat.lt_or_gt_of_ne hne with h | h
  ·have hc:=Ha (cT (hlt.out h))
   clear hlt hgt HN HD HA HB
   generalize (dg a).length=la at *
   generalize (dg b).length=lb at *
   have hn:((la:Int) != (lb:Int))=true:=by rw [bne_iff_ne];omega
   have g1:(la:Int)<lb:=by omega
   clear hne h
   go_enter Tryz.func165,Tryz.ntmps165
   go_wp2
   go_ret
   exact ⟨by rw [hc.out];rfl,0,rfl⟩
  ·have hc:=Ha (dY (hgt.out h))
   clear hlt hgt HN HD HA HB
   generalize (dg a).length=la at *
   generalize (dg b).length=lb at *
   have hn:((la:Int) != (lb:Int))=true:=by rw [bne_iff_ne];omega
   have g1:¬ (la:Int)<lb:=by omega
   clear hne h
   go_enter Tryz.func165,Tryz.ntmps165
   go_wp2
   go_ret
   exact ⟨by rw [hc.out];rfl,0,rfl⟩
end R
end Go.Proofs.YtbhbhlfkdlfimaaGreatDoor
