/- Parts of the proof. -/
import Derived.Shelf.SlSortCmp.WholeK
import Derived.Shelf.SlSortCmp.NoneTotal
import Derived.Shelf.Spec.SlicesGrow
import Derived.Laws.AppendOwnNone
import Derived.OwnWalk
import Derived.Test.YtbhbhlfkdlfimaaGreatDoorQX22
set_option linter.all false
set_option maxRecDepth 100000
set_option maxHeartbeats 8000000
namespace Go.Proofs.YtbhbhlfkdlfimaaGreatDoor
namespace T
open Go.Proofs.YtbhbhlfkdlfimaaGreatDoor Go Go.RowKit Go.Proofs
theorem uk:∀ (l:List Tm) (i:Nat),(tcs l).take (i*2)=tcs (l.take i)
 | _,0=>by simp [tcs]
 | [],i+1=>by simp [tcs]
 | t::l,i+1=>by
  rw [dp,show (i+1)*2=i*2+1+1 by omega,List.take_succ_cons,List.take_succ_cons,uk l i,List.take_succ_cons,dp]
theorem pE {B b:Nat} {a:World} (hb:B≤b):∀ (vs:List Value) (o:Nat) (W:World),Below B a W→Below B a (W.setCells b o vs)
 | [],_,_,h=>h
 | v::vs,o,W,h=>pE hb vs (o+1) _ (h.setCell (p:=⟨b,o,none⟩) hb v)
theorem qA (l:List Tm) (v:Value) (base:Nat) (w:World) (ho:Ow w base 43 v l) (hbase:base≤w.heap.size) (h1000:l.length≤1000) :
  Calls Tryz.prog 171 #[v,.func (.func 172) #[] #[]] w fun e W'=>∃ v',e = .returned v'∧Ow W' base 43 v' (l.filter nz)∧Below base w W':=by
 rcases ho.2 with ⟨rfl,hn⟩ | ⟨b,c,cur,rfl,hb,hg,hc,_⟩
 ·have e:l = []:=List.eq_nil_of_length_eq_zero hn
  subst e
  refine (j7 (.slice none 0 0) w ((j6 none 0 _ w).mono fun _ W' ⟨e1,e2⟩=>⟨e1,by rw [e2];exact Below.refl _ _⟩)).mono fun e W' ⟨e1,e2⟩=>⟨_,e1,ho.next e2,e2.mono hbase⟩
 have tl:Tl w b l:=by
  have hcl:=World.ownsRow.cells (show w.ownsRow base 43 2 (.slice (some ⟨b,0,none⟩) l.length c) l.length (tcs l) from ho) (g:=b) rfl
  have ha:∀ j,(⟨b,0,none⟩:Addr).add j=⟨b,j,none⟩:=fun j=>by unfold Addr.add;split <;> simp_all
  exact ⟨lt_of_block hg,fun j hj=>by rw [←ha,Nat.mul_comm];exact hcl _ _ (fT l j hj).1,fun j hj=>by rw [←ha,Nat.mul_comm];exact hcl _ _ (fT l j hj).2⟩
 have hI:=sM l b l.length c w rfl h1000 tl
 rcases idxByFrom_spec (fun _ y => !nz y) default l 0 with ⟨e1,hall⟩ | ⟨k0,hk0,e1,hz,hall⟩
 ·have e2:Lib.idxBy (fun _ y => !nz y) l default = -1:=e1
  rw [e2] at hI
  have ef:l.filter nz=l:=List.filter_eq_self.2 fun t ht=>by
   obtain ⟨j,hj,rfl⟩:=List.getElem_of_mem ht
   have:=hall j hj
   rw [getElem!_pos l j hj] at this
   simpa using this
  rw [ef]
  exact (j7 _ w hI).mono fun e W' ⟨e1,e2⟩=>⟨_,e1,ho.next e2,e2.mono hbase⟩
 ·have e2:Lib.idxBy (fun _ y => !nz y) l default=(k0:Int):=by
   show Lib.idxByFrom _ _ _ _=_
   rw [e1];simp
  rw [e2] at hI
  have hz':nz (tat l k0)=false:=by
   rw [getElem!_pos l k0 hk0] at hz
   rw [dV hk0];simpa using hz
  have low:(l.take k0).filter nz=l.take k0:=List.filter_eq_self.2 fun t ht=>by
   obtain ⟨j,hj,rfl⟩:=List.getElem_of_mem ht
   rw [List.length_take] at hj
   have:=hall j (by omega)
   rw [getElem!_pos l j (by omega)] at this
   rw [List.getElem_take];simpa using this
  have hD:Dl w base b l.length c l k0 (k0+1) l w :=
   ⟨rfl,by rw [pB hk0,hz',low];simp,fun _ _=>rfl,ho,Below.refl _ _⟩
  refine (pC l b l.length c base k0 w rfl h1000 hc hbase hb hk0 hI hD).mono fun e W' ⟨i,dk,W1,e1,hi,D,e2⟩=>⟨_,e1,?_,?_⟩
  ·have hl:=D.low
   rw [List.take_length] at hl
   have hlen:(l.filter nz).length=i:=by rw [←hl,List.length_take,D.len];omega
   refine ⟨by rw [fz],?_⟩
   have own:=D.own.2
   rw [D.len] at own
   rcases own with ⟨e,_⟩ | ⟨g,cap,cur1,e,hb1,hg1,h1,h2,h3,h4⟩
   ·cases e
   ·cases e
    obtain ⟨cur2,k1,k2,k3⟩:=lC b (List.replicate ((l.length - i)*2) (.string ⟨#[]⟩)) (i*2) W1 cur1 _ hg1
    refine .inr ⟨b,c,cur2,?_,hb1,?_,by omega,h2,by rw [k2,h3],?_⟩
    ·rw [hlen]
    ·rw [e2];exact k1
    ·rw [hlen,k3 _ (Nat.le_refl _),←hl,←uk,←h4,List.take_take]
     congr 1
     have:=D.len
     omega
  ·rw [e2]
   exact pE hb _ _ _ D.below
end T
namespace T
open Go.Proofs.YtbhbhlfkdlfimaaGreatDoor Go Go.RowKit Go.Lib
theorem DJ (b:Nat) (x y:Int) (w:World) (hb:Blk w b #[.int .i64 x,.int .i64 y]) :
  Calls Tryz.prog 106 #[.slice (some ⟨b,0,none⟩) 2 2] w fun e W'=>e = .returned (.int .i64 (if x=0 then y else x))∧W'=w:=by
 have c0:=hb.cell 0 _ rfl
 have c1:=hb.cell 1 _ rfl
 clear hb
 by_cases h:x=0
 ·rw [if_pos h]
  subst h
  by_cases h2:y=0
  ·subst h2
   go_enter Tryz.func106,Tryz.ntmps106
   go_wp2
   go_rounds 3
   all_goals go_ret
   all_goals exact ⟨rfl,rfl⟩
  ·obtain ⟨n1,n2⟩:=cJ h2
   go_enter Tryz.func106,Tryz.ntmps106
   go_wp2
   go_rounds 3
   all_goals go_ret
   all_goals exact ⟨rfl,rfl⟩
 ·rw [if_neg h]
  obtain ⟨n1,n2⟩:=cJ h
  go_enter Tryz.func106,Tryz.ntmps106
  go_wp2
  go_rounds 3
  all_goals go_ret
  all_goals exact ⟨rfl,rfl⟩
theorem DK (a b:Nat) (w:World) (ha:a<lim) (hb:b<lim) :
  Calls Tryz.prog 169 #[.string (aa (a:Int)),.string (aa (b:Int))] w fun e W'=>e = .returned (.int .i64 (bF a b))∧∃ o,W'=w.alloc o:=by
 have c1:=fun W=>Tryz.cmp_Compare_int (aa (a:Int)).size (aa (b:Int)).size W
 have c2:=fun W=>Tryz.strings_Compare (aa (a:Int)) (aa (b:Int)) W
 have c3:=fun (k:Nat) W h=>DJ k (compareInt (aa (a:Int)).size (aa (b:Int)).size) (compareBytes (aa (a:Int)).data.toList (aa (b:Int)).data.toList) W h
 have za:(aa (a:Int)).size≤301:=aM (aq.2 ha)
 have zb:(aa (b:Int)).size≤301:=aM (aq.2 hb)
 have e:(if compareInt (aa (a:Int)).size (aa (b:Int)).size=0 then compareBytes (aa (a:Int)).data.toList (aa (b:Int)).data.toList else compareInt (aa (a:Int)).size (aa (b:Int)).size)=bF a b:=by
  rw [mi,mi]
  unfold compareInt
  by_cases h1:(nDigits a:Int)<nDigits b
  ·rw [if_pos h1,if_neg (by decide)]
   have:=xK (a:=a) (b:=b) (by omega) (r9 a)
   unfold bF;rw [if_pos (by omega)]
  ·by_cases h2:(nDigits a:Int) > nDigits b
   ·rw [if_neg h1,if_pos h2,if_neg (by decide)]
    have:=xK (a:=b) (b:=a) (by omega) (r9 b)
    unfold bF;rw [if_neg (by omega),if_pos (by omega)]
   ·rw [if_neg h1,if_neg h2,if_pos rfl,aF,aF,itoa_nonneg,itoa_nonneg,oJ,cU,cU]
    ·rw [decDigits_length,decDigits_length];omega
    ·exact bg _
    ·exact bg _
 rw [←e]
 clear e ha hb
 have za':((aa (a:Int)).size:Int)≤9223372036854775807:=by omega
 have zb':((aa (b:Int)).size:Int)≤9223372036854775807:=by omega
 generalize compareInt (aa (a:Int)).size (aa (b:Int)).size=x at *
 generalize compareBytes (aa (a:Int)).data.toList (aa (b:Int)).data.toList=y at *
 generalize aa (a:Int)=s at *
 generalize aa (b:Int)=t at *
 generalize (if x=0 then y else x)=r at *
 have O:=Ha (Hb c1 (Hb c2 c3));clear c1 c2 c3 za zb
 go_enter Tryz.func169,Tryz.ntmps169
 go_wp2_with fail
 refine (O.out.1 _).mono ?_
 rintro e v1 ⟨rfl,rfl⟩
 go_wp2_with fail
 refine (O.out.2.1 _).mono ?_
 rintro e v2 ⟨rfl,rfl⟩
 go_wp2_with fail
 refine (O.out.2.2 _ _ (Blk.new _ _ _)).mono ?_
 rintro e v5 ⟨rfl,rfl⟩
 go_wp2
 go_ret
 exact ⟨rfl,_,rfl⟩
end T
namespace T
open Go.Proofs.YtbhbhlfkdlfimaaGreatDoor Go Go.RowKit Go.Proofs Go.Sort
abbrev RT:={t:Tm // ∃ b:Nat,t.2=(b:Rat)∧b<ak 40}
instance:Inhabited RT:=⟨⟨(0,0),0,rfl,cY 40⟩⟩
def zC (t:RT):List Value:=tc t.1
def cfR (x y:RT):Int:=dn x.1.2 y.1.2
theorem ltR (x y:RT):ltOf cfR x y=decide (x.1.2<y.1.2):=by
 unfold ltOf cfR
 rcases kh x.1.2 y.1.2 with h | h | h
 ·rw [eO h,decide_eq_true h];rfl
 ·rw [h,dJ];simp [Rat.lt_irrefl]
 ·rw [eU h]
  have h2:¬ x.1.2<y.1.2:=by grind
  simp [h2]
theorem GI:SWO (ltOf cfR) where
 irrefl x:=by rw [ltR];simp [Rat.lt_irrefl]
 trans x y z h1 h2:=by
  rw [ltR] at *
  simp only [decide_eq_true_eq] at *
  grind
 ntrans x y z h1 h2:=by
  rw [ltR] at *
  simp only [decide_eq_false_iff_not] at *
  grind
theorem DL (a b c d:ByteArray) (x:Int) (w:World)
  (h1:∀ W,Calls Tryz.prog 169 #[.string b,.string d] W fun e W'=>e = .returned (.int .i64 x)∧∃ o,W'=W.alloc o) :
  Calls Tryz.prog 176 #[.agg #[.string a,.string b],.agg #[.string c,.string d]] w fun e W'=>e = .returned (.int .i64 x)∧∃ q os,W'=grow (w.drewN q) os:=by
 have C:=Ha h1;clear h1
 go_enter Tryz.func176,Tryz.ntmps176
 go_wp2_with fail
 refine (C.out _).mono ?_
 rintro e w1 ⟨rfl,o,rfl⟩
 go_wp2
 go_ret
 exact ⟨rfl,0,_,by rw [alloc_eq_grow,alloc_eq_grow,alloc_eq_grow,grow_grow,grow_grow];rfl⟩
theorem zD (b n:Nat) (w:World):CmpLays Tryz.prog 176 #[] zC 2 cfR b 0 n w:=fun m os dk _ x y=>by
 obtain ⟨⟨c1,q1⟩,n1,e1,l1⟩:=x
 obtain ⟨⟨c2,q2⟩,n2,e2,l2⟩:=y
 dsimp only at e1 e2
 subst e1;subst e2
 have hc:cfR ⟨(c1,(n1:Rat)),n1,rfl,l1⟩ ⟨(c2,(n2:Rat)),n2,rfl,l2⟩=bF (n1:Int) (n2:Int):=by
  unfold cfR dn
  dsimp only
  rw [Rat.num_natCast,Rat.num_natCast,Rat.den_natCast,Rat.den_natCast,Int.natCast_one,Int.mul_one,Int.mul_one]
 rw [hc]
 refine DL (af c1) (af (n1:Rat)) (af c2) (af (n2:Rat)) _ _ fun W => ?_
 rw [dR,dR]
 exact DK n1 n2 W (aV (by decide) l1) (aV (by decide) l2)
theorem eg2:∀ args w,(callFunc 176 args).run Tryz.prog w = .ok (.enter 176 args) w:=enters_of Tryz.func176 (by kernel_rfl) rfl
theorem pF {w:World} {g n:Nat} {os:Array Obj} (d:Array RT):w.grownBy (sortWorldK zC 2 w g 0 n d os) (some g):=by
 unfold sortWorldK putRowK
 refine ⟨rfl,rfl,rfl,by simp,fun k hk hne => ?_⟩
 rw [heap_grow_old _ _ (by simpa using hk)]
 have:g≠k:=fun e=>hne (by rw [e])
 simp [putRow,mapBlock,Sort.ahead,Array.getElem?_modify,this]
theorem ul (l:List Tm) (b n c:Nat) (w:World) (hn:n=l.length) (h1000:n≤1000) (ht:Tl w b l) (hf:∀ i,w.frozen? ⟨b,i,none⟩=false) (hR:∀ t∈l,∃ m:Nat,t.2=(m:Rat)∧m<ak 40) :
  Calls Tryz.prog 175 #[.slice (some ⟨b,0,none⟩) n c,.func (.func 176) #[] #[]] w fun e W'=>e = .returned (.tuple #[])∧∃ l',l'.Perm l∧(l'.Pairwise fun s t=>s.2≤t.2)∧Tl W' b l'∧w.grownBy W' (some b):=by
 obtain ⟨zs,hzs⟩:∃ zs:List RT,zs.map (·.1)=l:=⟨l.pmap (fun t h=>⟨t,h⟩) hR,by rw [List.map_pmap];simp⟩
 have hlen:zs.length=n:=by rw [hn,←hzs,List.length_map]
 have at0:∀ j,j<n→(zs.toArray[j]!).1=tat l j:=fun j hj=>by
  rw [dV (by omega),getElem!_pos zs.toArray j (by simp;omega)]
  simp [←hzs]
 have hH:HoldsK zC 2 w b 0 zs.toArray:=fun j hj=>by
  rw [size_flatK] at hj
  have hj2:j<n*2:=by simpa [hlen] using hj
  refine ⟨?_,by simpa using hf j⟩
  rw [get_flatK _ _ _ _ hj,Nat.zero_add]
  have h2:j % 2=0∨j % 2=1:=by omega
  rcases h2 with h | h
  ·rw [h]
   have:=ht.c0 (j / 2) (by omega)
   rw [show j / 2*2=j by omega] at this
   rw [this,←at0 _ (by omega)];rfl
  ·rw [h]
   have:=ht.c1 (j / 2) (by omega)
   rw [show j / 2*2+1=j by omega] at this
   rw [this,←at0 _ (by omega)];rfl
 have hcon:=AnyQ.slices_SortFunc Tryz.laysSortFunc 2 Tryz.isAgg43 Tryz.sizeOf43 zC (fun _=>rfl) (fun x v hv=>by simp [zC,tc] at hv;rcases hv with rfl | rfl <;> rfl) cfR GI 176 #[] b 0 c zs.toArray w eg2 (zD b _ w) hH ht.lt (by simp;omega)
 rw [show zs.toArray.size=n by simp [hlen]] at hcon
 refine Calls.mono (show Calls Tryz.prog 175 _ _ _ from hcon) fun e W' ⟨e1,d',m,os,hp,hs,e2⟩=>⟨e1,d'.toList.map (·.1),?_,?_,?_,?_⟩
 ·rw [←hzs]
  have h3:=hp.2.2
  have k1:d'.extract 0 n=d':=by
   have:=hp.1
   rw [←hlen,show zs.length=zs.toArray.size by simp,←this];simp
  have k2:zs.toArray.extract 0 n=zs.toArray:=by rw [←hlen];simp
  rw [k1,k2] at h3
  exact h3.map _
 ·rw [List.pairwise_map,List.pairwise_iff_getElem]
  intro i j hi hj hij
  have hsz:d'.size=n:=by rw [hp.1];simp [hlen]
  have h3:=hs i j (by omega) hij (by simpa [hsz] using hj)
  rw [ltR,decide_eq_false_iff_not] at h3
  rw [getElem!_pos d' i (by simpa using hi),getElem!_pos d' j (by simpa using hj)] at h3
  simp only [Array.getElem_toList]
  exact Rat.not_lt.1 h3
 ·have hsz:d'.size=zs.toArray.size:=hp.1
  have hK:=holdsK_sortWorldK zC 2 w b 0 m zs.toArray d' os ht.lt hH hsz
  rw [←e2] at hK
  have at1:∀ j,j<d'.size→tat (d'.toList.map (·.1)) j=(d'[j]!).1:=fun j hj=>by
   rw [dV (by simpa using hj),getElem!_pos d' j hj];simp
  refine ⟨?_,fun j hj => ?_,fun j hj => ?_⟩
  ·rw [e2];have:=(pF (w:=w) (g:=b) (n:=m) (os:=os) d').size
   exact Nat.lt_of_lt_of_le ht.lt this
  ·have hj':j<d'.size:=by simpa using hj
   have:=(hK.cell (i:=j) (c:=0) hj' (by decide)).1
   rw [Nat.zero_add,Nat.add_zero] at this
   rw [this,at1 j hj'];rfl
  ·have hj':j<d'.size:=by simpa using hj
   have:=(hK.cell (i:=j) (c:=1) hj' (by decide)).1
   rw [Nat.zero_add] at this
   rw [this,at1 j hj'];rfl
 ·rw [e2];exact pF d'
end T
namespace T
open Go.Proofs.YtbhbhlfkdlfimaaGreatDoor Go Go.RowKit Go.Proofs
abbrev CT:={t:Tm // Bq 60 t.1∧Bq 40 t.2}
instance:Inhabited CT:=⟨⟨(0,0),(show Bq 1 (0:Rat) from jR).up (by decide),(show Bq 1 (0:Rat) from jR).up (by decide)⟩⟩
theorem eg3:∀ args w,(callFunc 174 args).run Tryz.prog w = .ok (.enter 174 args) w:=enters_of Tryz.func174 (by kernel_rfl) rfl
theorem nG (l:List Tm) (b n c:Nat) (w:World) (hn:n=l.length) (h1000:n≤1000) (ht:Tl w b l) (hB:∀ t∈l,Bq 60 t.1∧Bq 40 t.2) :
  Calls Tryz.prog 173 #[.slice (some ⟨b,0,none⟩) n c,.func (.func 174) #[] #[]] w fun e W'=>e = .returned (.bool false)∧Below w.heap.size w W':=by
 obtain ⟨zs,hzs⟩:∃ zs:List CT,zs.map (·.1)=l:=⟨l.pmap (fun t h=>⟨t,h⟩) hB,by rw [List.map_pmap];simp⟩
 have hlen:zs.length=n:=by rw [hn,←hzs,List.length_map]
 have hp:PredBelow Tryz.prog 174 #[] (fun x:CT => .agg (tc x.1).toArray) (fun _=>false) w:=fun W x hb =>
  (li x.1.1 x.1.2 W x.2.1 x.2.2).mono fun e W' ⟨e1,e2⟩=>⟨e1,hb.trans (e2.mono hb.size)⟩
 have h:=AnyQ.slices_ContainsFunc Tryz.laysContainsFunc 2 Tryz.isAgg43 Tryz.sizeOf43 (fun x:CT=>tc x.1) (fun _=>rfl) (fun _=>false) 174 #[] eg3 b 0 n c zs w hp (by omega) (by omega) ht.lt (fun j hj i v hi=>by
  have e:(zs[j]!).1=tat l j:=by rw [dV (by omega),getElem!_pos zs j hj];simp [←hzs]
  rw [e] at hi
  have h2:i=0∨i=1:=by
   have:=(List.getElem?_eq_some_iff.1 hi).1
   simp [tc] at this;omega
  rcases h2 with rfl | rfl
  ·cases hi
   simpa using ht.c0 j (by omega)
  ·cases hi
   simpa using ht.c1 j (by omega))
 rw [show (zs.take n).any (fun _=>false)=false by simp] at h
 exact h
theorem mw (p:Option Addr) (c:Nat) (f:Value) (w:World) :
  Calls Tryz.prog 173 #[.slice p 0 c,f] w fun e W'=>e = .returned (.bool false)∧Below w.heap.size w W':=by
 have O:=Ha (fun W=>j6 p c f W)
 go_enter Tryz.func173,Tryz.ntmps173
 go_wp2_with fail
 refine (O.out _).mono ?_
 rintro e w1 ⟨rfl,rfl⟩
 go_wp2
 go_ret
 exact ⟨rfl,Below.refl _ _⟩
theorem um (v:Value) (w:World) (Q:Value→World→Prop)
  (h1:Calls Tryz.prog 171 #[v,.func (.func 172) #[] #[]] w fun e W2=>∃ p n c,e = .returned (.slice p n c)∧n≤16 ∧
   (Calls Tryz.prog 173 #[.slice p n c,.func (.func 174) #[] #[]] W2 fun e W'=>e = .returned (.bool false)∧Below W2.heap.size W2 W') ∧
   (∀ W,Below W2.heap.size W2 W→Calls Tryz.prog 175 #[.slice p n c,.func (.func 176) #[] #[]] W fun e W'=>e = .returned (.tuple #[])∧Q (.slice p n c) W')) :
  Calls Tryz.prog 117 #[v] w fun e W'=>∃ v',e = .returned (.tuple #[v',.int .i64 0])∧Q v' W':=by
 have O:=Ha h1;clear h1
 go_enter Tryz.func117,Tryz.ntmps117
 go_wp2_with fail
 refine O.out.mono ?_
 rintro e w3 ⟨p,n,c,rfl,h16,h2,h3⟩
 have y1:¬ (16:Int)<n:=by omega
 have H:=Ha (Hb h2 h3);clear h2 h3 O h16
 go_wp2_with fail
 refine H.out.1.mono ?_
 rintro e w4 ⟨rfl,b⟩
 have B:=Ha b;clear b
 go_wp2_with fail
 refine (H.out.2 _ B.out).mono ?_
 rintro e w5 ⟨rfl,hq⟩
 have HQ:=Ha hq;clear hq
 go_wp2
 go_ret2
 exact ⟨_,rfl,HQ.out⟩
def Sr (W:World) (p:Option Addr) (n c:Nat) (l:List Tm):Prop:=n=l.length∧n≤c∧((p=none∧c=0∧l = [])∨∃ b,p=some ⟨b,0,none⟩∧(0<l.length→Tl W b l))
theorem Sr.rd {W:World} {p:Option Addr} {n c:Nat} {l:List Tm} (h:Sr W p n c l):Rd W p l:=fun k=>by
 rcases h.2.2 with ⟨_,_,rfl⟩ | ⟨b,e,t⟩
 ·simp at k
 ·exact ⟨b,e,t k⟩
theorem Sr.next {W W':World} {p:Option Addr} {n c:Nat} {l:List Tm} (h:Sr W p n c l) (g:Below W.heap.size W W'):Sr W' p n c l :=
 ⟨h.1,h.2.1,h.2.2.imp id fun ⟨b,e,t⟩=>⟨b,e,fun k=>(t k).next g⟩⟩
def yf (F:List Tm) (base:Nat) (w:World) (v':Value) (W':World):Prop :=
 ∃ l' p n c,v' = .slice p n c∧l'.Perm F∧(l'.Pairwise fun s t=>s.2≤t.2)∧Sr W' p n c l'∧Below base w W'
theorem zE (l:List Tm) (v:Value) (base:Nat) (w:World) (ho:Ow w base 43 v l) (hbase:base≤w.heap.size) (h1000:l.length≤1000) (h16:(l.filter nz).length≤16)
  (hB:∀ t∈l.filter nz,Bq 60 t.1∧∃ m:Nat,t.2=(m:Rat)∧m<ak 40) :
  Calls Tryz.prog 117 #[v] w fun e W'=>∃ v',e = .returned (.tuple #[v',.int .i64 0])∧yf (l.filter nz) base w v' W':=by
 refine um v w _ ((qA l v base w ho hbase h1000).mono fun e W2 ⟨v',e1,o2,b2⟩ => ?_)
 generalize l.filter nz=F at *
 have hs2:base≤W2.heap.size:=Nat.le_trans hbase b2.size
 rcases o2.2 with ⟨rfl,hn⟩ | ⟨g,cap,cur,rfl,hb,hg,hc,_⟩
 ·have e:F = []:=List.eq_nil_of_length_eq_zero hn
  subst e
  refine ⟨none,0,0,e1,by decide,mw none 0 _ W2,fun W hW => ?_⟩
  refine (AnyF.slices_SortFunc_none Tryz.laysSortFunc none 0 _ W).mono fun e W' ⟨e3,e4⟩=>⟨e3,[],none,0,0,rfl,List.Perm.refl _,List.Pairwise.nil,⟨rfl,Nat.le_refl _,.inl ⟨rfl,rfl,rfl⟩⟩,?_⟩
  rw [e4];exact b2.trans (hW.mono hs2)
 ·have tl:Tl W2 g F:=by
   have hcl:=World.ownsRow.cells (show W2.ownsRow base 43 2 (.slice (some ⟨g,0,none⟩) F.length cap) F.length (tcs F) from o2) (g:=g) rfl
   have ha:∀ j,(⟨g,0,none⟩:Addr).add j=⟨g,j,none⟩:=fun j=>by unfold Addr.add;split <;> simp_all
   exact ⟨lt_of_block hg,fun j hj=>by rw [←ha,Nat.mul_comm];exact hcl _ _ (fT F j hj).1,fun j hj=>by rw [←ha,Nat.mul_comm];exact hcl _ _ (fT F j hj).2⟩
  have fr:=fun i=>o2.frozen i
  refine ⟨_,F.length,cap,e1,h16,nG F g F.length cap W2 rfl (by omega) tl (fun t ht => ?_),fun W hW => ?_⟩
  ·obtain ⟨h1,m,e,h2⟩:=hB t ht
   exact ⟨h1,by rw [e];exact bqN h2 (by decide)⟩
  ·refine (ul F g F.length cap W rfl (by omega) (tl.next hW) (fun i=>(hW.frozen (p:=⟨g,i,none⟩) tl.lt).trans (fr i)) fun t ht=>(hB t ht).2).mono fun e W' ⟨e3,l',p1,p2,p3,p4⟩ =>
    ⟨e3,l',_,F.length,cap,rfl,p1,p2,⟨p1.length_eq.symm,hc,.inr ⟨g,rfl,fun _=>p3⟩⟩,?_⟩
   refine (b2.trans (hW.mono hs2)).grown p4 (Nat.le_trans hs2 hW.size) fun k hk => ?_
   cases hk;exact hb
end T
namespace T
open Go.Proofs.YtbhbhlfkdlfimaaGreatDoor Go Go.RowKit Go.Proofs
theorem DM (n:Nat) (w:World) (hn:n≤100000) :
  Calls Tryz.prog 206 #[.slice none 0 0,.int .i64 n] w fun e W'=>∃ v,e = .returned v∧W'.ownsRow w.heap.size 43 2 v 0 []∧Below w.heap.size w W':=by
 obtain ⟨i0,hi,hz0,hz1,hz2⟩:=info_parts fq
 rcases Nat.eq_zero_or_pos n with rfl | hp
 ·refine (Any8.slices_Grow_room Tryz.laysGrow none 0 0 0 w (by decide) (by decide) (by decide) (by decide)).mono fun e W' ⟨e1,e2⟩=>⟨_,e1,World.ownsRow_nil _ _ _ _,?_⟩
  rw [e2];exact Below.refl _ _
 ·refine (Any8.slices_Grow_grow Tryz.laysGrow i0 (.agg #[.string ⟨#[]⟩,.string ⟨#[]⟩]) hi hz0 (by omega) none 0 0 n [] w (by decide) (by omega) (by rw [hz2];omega) (by omega) (by simp) (fun _=>rfl) (fun a h=>by cases h)).mono fun e W' ⟨e1,e2⟩ => ?_
  rw [show Tryz.laysGrow_ren.t 25=43 from rfl] at e1 e2
  refine ⟨_,e1,?_,?_⟩
  ·rw [e2]
   have hge:=grownCap_ge w (0+n) 0 43
   refine World.ownsRow_made w.drew _ _ (Nat.le_refl _) (grownCap_le_maxLen w (0+n) 0 43 (by unfold maxLen;omega)) ?_
   have hz:(Value.agg #[.string ⟨#[]⟩,.string ⟨#[]⟩]).cells.size=2:=rfl
   show (_:Array Value).size=grownCap w (0+n) 0 43*2
   simp only [Array.size_append,size_zeroCells,hz,List.size_toArray,List.length_nil]
   omega
  ·rw [e2]
   exact ((Below.refl _ w).drew).alloc (Nat.le_refl _) _
def Ap (W:World) (p:Option Addr) (n c:Nat) (xs:List Value):Prop :=
 xs.length=n*2∧(∀ u∈xs,u.oneCell'=true)∧((p=none∧n=0∧c=0)∨∃ b,p=some ⟨b,0,none⟩∧∀ j u,xs[j]? = some u→W.cell? ((⟨b,0,none⟩:Addr).add j)=some u)
theorem Sr.ap {W:World} {p:Option Addr} {n c:Nat} {l:List Tm} (h:Sr W p n c l):Ap W p n c (tcs l):=by
 obtain ⟨h1,h2,h3⟩:=h
 refine ⟨by rw [fz,h1],fun u hu => ?_,?_⟩
 ·obtain ⟨t,_,ht⟩:=List.mem_flatMap.1 hu
  simp [tc] at ht
  rcases ht with rfl | rfl <;> rfl
 ·rcases h3 with ⟨e1,e2,e3⟩ | ⟨b,e,t⟩
  ·subst e3;exact .inl ⟨e1,h1,e2⟩
  ·refine .inr ⟨b,e,fun j u hu => ?_⟩
   have hj:=(List.getElem?_eq_some_iff.1 hu).1
   rw [fz] at hj
   have t':=t (by omega)
   have ha:(⟨b,0,none⟩:Addr).add j=⟨b,j,none⟩:=by unfold Addr.add;split <;> simp_all
   rw [ha]
   have h2:j % 2=0∨j % 2=1:=by omega
   rcases h2 with k | k
   ·have a1:=(fT l (j / 2) (by omega)).1
    rw [show 2*(j / 2)=j by omega,hu] at a1
    have a2:=t'.c0 (j / 2) (by omega)
    rw [show j / 2*2=j by omega] at a2
    rw [a2,a1]
   ·have a1:=(fT l (j / 2) (by omega)).2
    rw [show 2*(j / 2)+1=j by omega,hu] at a1
    have a2:=t'.c1 (j / 2) (by omega)
    rw [show j / 2*2+1=j by omega] at a2
    rw [a2,a1]
theorem Ap.next {W W':World} {p:Option Addr} {n c:Nat} {xs:List Value} (h:Ap W p n c xs) (g:Below W.heap.size W W'):Ap W' p n c xs :=
 ⟨h.1,h.2.1,h.2.2.imp id fun ⟨b,e,k⟩=>⟨b,e,fun j u hu=>(g.cell (p:=(⟨b,0,none⟩:Addr).add j) (World.block_lt_of_cell? W _ (k j u hu))).trans (k j u hu)⟩⟩
end T
namespace T
open Go.RowKit
theorem wy {ops:Array Oper} {rest:List Oper} {o:Oper} {a:Act} {Q:Exit→Act→World→Prop} {w:World} (hgd:o.guard=none) (s x:Operand)
  (ho:o.op = .call { callee := .builtin .append,args := #[s,x],argTypes := #[45,45] })
  (base:Nat) (v:Value) (n:Nat) (zs:List Value) (hs:a.eval s=v) (hown:w.ownsRow base 43 2 v n zs) (p:Option Addr) (m c:Nat) (ys:List Value) (hx:a.eval x = .slice p m c) (hv:Ap w p m c ys) (hl:n+m≤4096) (hbase:base≤w.heap.size)
  (h:∀ v' w',w'.ownsRow base 43 2 v' (n+m) (zs++ys)→Below base w w'→wpList Tryz.prog ops Q rest (a.put o.dst v') w'):wpList Tryz.prog ops Q (o::rest) a w:=by
 obtain ⟨i0,hi,hz0,hz1,hz2⟩:=info_parts fq
 obtain ⟨v1,v2,v3⟩:=hv
 rcases v3 with ⟨rfl,rfl,rfl⟩ | ⟨b,rfl,v3⟩
 ·have e0:ys = []:=List.eq_nil_of_length_eq_zero (by omega)
  subst e0
  exact wpList_append_own_none hgd s x 45 ho base 43 i0 2 Tryz.underlying45 hi v n zs hs hown hx (h v w (by rw [List.append_nil];exact hown) (Below.refl _ _))
 ·refine wpList_append_own _ hgd s x 45 ho base 43 i0 (.agg #[.string ⟨#[]⟩,.string ⟨#[]⟩]) 2 32 Tryz.underlying45 hi hz0 hz1 hz2 rfl (by decide) v n zs hs hown ⟨b,0,none⟩ m c ys hx v1 v3 v2 (by unfold maxLen;omega) (by omega) hbase ?_
  intro v' w' hown' hgrow _
  exact h v' w' hown' ((Below.refl base w).grown hgrow hbase (fun k hk=>(hown.lt k hk).1))
theorem zF (p1 p2:Option Addr) (n1 n2 c1 c2 bs:Nat) (xs1 xs2:List Value) (w:World) (hb:Blk w bs #[.slice p1 n1 c1,.slice p2 n2 c2]) (h1:Ap w p1 n1 c1 xs1) (h2:Ap w p2 n2 c2 xs2) (l1:n1≤1000) (l2:n2≤1000) :
  Calls Tryz.prog 146 #[.slice (some ⟨bs,0,none⟩) 2 2] w fun e W'=>∃ v,e = .returned v∧W'.ownsRow w.heap.size 43 2 v (n1+n2) (xs1++xs2)∧Below w.heap.size w W':=by
 obtain ⟨i0,hi,hz0,hz1,hz2⟩:=info_parts fq
 have HI:=Ha (Hb hi (Hb hz0 (Hb hz1 hz2)));clear hi hz0 hz1 hz2
 have hG:=DM (n1+n2) w (by omega)
 rw [Int.natCast_add] at hG
 have O:=Ha hG;clear hG
 have e0:=hb.cell 0 _ rfl
 have e1:=hb.cell 1 _ rfl
 have HT:=Ha (Hb hb (Hb h1 h2));clear hb h1 h2
 have y1:¬ (n1:Int)<0:=by omega
 have y2:¬ (n1:Int)+n2<0:=by omega
 go_enter Tryz.func146,Tryz.ntmps146
 go_wp2
 go_loopw [3,11] (fun x y wr=>((x = .int .i64 0∧y = .int .i64 0)∨(x = .int .i64 n1∧y = .int .i64 1)∨(x = .int .i64 ((n1:Int)+n2)∧y = .int .i64 2))∧wr=w) (fun _ y _=>2 - (intOf y).toNat)
 case atStart=>exact ⟨.inl ⟨rfl,rfl⟩,rfl⟩
 case round =>
  obtain ⟨hrel,hwr⟩:=hrel
  cases hwr
  rcases hrel with ⟨rfl,rfl⟩ | ⟨rfl,rfl⟩ | ⟨rfl,rfl⟩
  ·go_wp2
   go_roundw
   case rel=>exact ⟨.inr (.inl ⟨rfl,rfl⟩),trivial⟩
   case measure=>simp [intOf]
  ·go_wp2
   go_roundw
   case rel=>exact ⟨.inr (.inr ⟨rfl,rfl⟩),trivial⟩
   case measure=>simp [intOf]
  ·go_wp2_with fail
   refine O.out.mono ?_
   rintro e' W1 ⟨v,rfl,hv,hB⟩
   have HB:=Ha (Hb hv hB);clear hv hB
   have HT1:=Ha (Hb (HT.out.1.next HB.out.2) (Hb (HT.out.2.1.next HB.out.2) (HT.out.2.2.next HB.out.2)))
   go_wp2
   go_loopw [6,27] (fun x y wr=>∃ (j k:Nat) (ys:List Value),y = .int .i64 j∧Hid ((j=0∧k=0∧ys = [])∨(j=1∧k=n1∧ys=xs1)∨(j=2∧k=n1+n2∧ys=xs1++xs2))∧Hid (wr.ownsRow w.heap.size 43 2 x k ys∧Below w.heap.size w wr)) (fun _ y _=>2 - (intOf y).toNat)
   case atStart=>exact ⟨0,0,[],rfl,.inl ⟨rfl,rfl,rfl⟩,HB.out⟩
   case round =>
    obtain ⟨j,k,ys,rfl,hj,hI⟩:=hrel
    rcases hj.out with ⟨rfl,rfl,rfl⟩ | ⟨rfl,rfl,rfl⟩ | ⟨rfl,rfl,rfl⟩
    ·have g0:wr.cell? ⟨bs,0,none⟩=some (.slice p1 n1 c1):=(hI.out.2.cell (p:=⟨bs,0,none⟩) HT.out.1.lt).trans (HT.out.1.cell 0 _ rfl)
     have HS:=Ha (HT.out.2.1.next hI.out.2)
     go_wp2_with (at_builtin;refine wy rfl _ _ rfl w.heap.size _ _ _ rfl hI.out.1 p1 n1 c1 xs1 rfl HS.out (by omega) hI.out.2.size ?_;intro v' w2 q1 q2;have HO:=Ha (Hb q1 (hI.out.2.trans q2));clear q1 q2)
     go_roundw
     case rel=>exact ⟨1,_,_,rfl,.inr (.inl ⟨rfl,by omega,by simp⟩),HO.out⟩
     case measure=>simp [intOf]
    ·have g0:wr.cell? ⟨bs,1,none⟩=some (.slice p2 n2 c2):=(hI.out.2.cell (p:=⟨bs,1,none⟩) HT.out.1.lt).trans (HT.out.1.cell 1 _ rfl)
     have HS:=Ha (HT.out.2.2.next hI.out.2)
     go_wp2_with (at_builtin;refine wy rfl _ _ rfl w.heap.size _ _ _ rfl hI.out.1 p2 n2 c2 xs2 rfl HS.out (by omega) hI.out.2.size ?_;intro v' w2 q1 q2;have HO:=Ha (Hb q1 (hI.out.2.trans q2));clear q1 q2)
     go_roundw
     case rel=>exact ⟨2,_,_,rfl,.inr (.inr ⟨rfl,rfl,rfl⟩),HO.out⟩
     case measure=>simp [intOf]
    ·go_wp2
     go_ret
     exact ⟨_,rfl,hI.out.1,hI.out.2⟩
end T
namespace T
open Go.RowKit
noncomputable def fin (g:List Tm):List Tm:=(gth g).filter nz
theorem qB (p:Option Addr) (n c:Nat) (w:World) (Q:Value→World→Prop)
  (hV:Calls Tryz.prog 114 #[.slice p n c,.func (.func 115) #[] #[.pointer (some ⟨w.heap.size,0,none⟩)]] (w.alloc (.cells #[.slice none 0 0] 44)) fun e W'=>e = .returned (.int .i64 0)∧∃ p' n' c',W'.cell? ⟨w.heap.size,0,none⟩=some (.slice p' n' c') ∧
   ∀ W2,Below W'.heap.size W' W2→Calls Tryz.prog 117 #[.slice p' n' c'] W2 fun e W'=>∃ v',e = .returned (.tuple #[v',.int .i64 0])∧Q v' W') :
  Calls Tryz.prog 69 #[.slice p n c] w fun e W'=>∃ v',e = .returned (.tuple #[v',.int .i64 0])∧Q v' W':=by
 have O:=Ha hV;clear hV
 go_enter Tryz.func69,Tryz.ntmps69
 go_wp2_with fail
 refine O.out.mono ?_
 rintro e W1 ⟨rfl,p',n',c',hc,h⟩
 have H:=Ha h;clear h
 go_wp2_with fail
 refine (H.out _ (Below.refl _ _)).mono ?_
 rintro e W2 ⟨v',rfl,hq⟩
 have HQ:=Ha hq;clear hq
 go_wp2
 go_ret2
 exact ⟨_,rfl,HQ.out⟩
structure Fit (F:List Tm):Prop where
 len:F.length≤16
 ok:∀ t∈F,Bq 60 t.1∧∃ m:Nat,t.2=(m:Rat)∧m<ak 40
theorem uo (g:List Tm) (hg:Gv g) (hF:Fit (fin g)) (p:Option Addr) (n c:Nat) (w:World) (hn:n=g.length) (hx:Rd w p g) (ht:Tab w) (ht2:aH w) (hS:Sm w) :
  Calls Tryz.prog 69 #[.slice p n c] w fun e W'=>∃ v',e = .returned (.tuple #[v',.int .i64 0])∧yf (fin g) w.heap.size w v' W':=by
 have b1:Below w.heap.size w (w.alloc (.cells #[.slice none 0 0] 44)):=(Below.refl _ w).alloc (Nat.le_refl _) _
 have s1:St w.heap.size [] (w.alloc (.cells #[.slice none 0 0] 44)):=⟨_,Blk.new w _ _,World.ownsRow_nil _ _ _ _⟩
 refine qB p n c w _ ((pA g hg w.heap.size w _ p n c rfl b1 s1 hn hx ht ht2 hS).mono fun e W1 ⟨e1,⟨v,hb,ho⟩,b2⟩ => ?_)
 have hl:=hg.len
 have hgl:=ye g
 obtain ⟨p',c',rfl,_,_⟩:=ho.rd
 refine ⟨e1,p',_,c',hb.cell 0 _ rfl,fun W2 h2 => ?_⟩
 have hs:=hb.lt
 refine (zE (gth g) _ (w.heap.size+1) W2 (ho.next h2) (by have:=h2.size;omega) (by omega) hF.len hF.ok).mono fun e W3 ⟨v',e2,l',q,n',c'',e3,p1,p2,p3,p4⟩ => ?_
 refine ⟨v',e2,l',q,n',c'',e3,p1,p2,p3,?_⟩
 exact (b2.trans (h2.mono (by omega))).trans (p4.mono (by omega))
theorem Bp (p:Option Addr) (n c:Nat) (xs:List Value) (w:World) (h:Ap w p n c xs) (hl:n≤1000) :
  Calls Tryz.prog 241 #[.slice p n c] w fun e W'=>∃ v,e = .returned v∧W'.ownsRow w.heap.size 43 2 v n xs∧Below w.heap.size w W':=by
 have q22:∀ (w:World) (a:Option Addr) (n c n' c':Nat),(binOp .eql 45 (.slice a n c) (.slice none n' c')).run Tryz.prog w = .ok (.bool a.isNone) w:=fun w a n c n' c'=>Lib.run_eql_slice_nil w _ _ a n c n' c' Tryz.underlying45
 have HV:=Ha h
 cases p with
 | none =>
  have hx:Hid (n=0∧xs = []):=by
   obtain ⟨h1,_,h3⟩:=h
   rcases h3 with ⟨_,e2,_⟩ | ⟨b,e1,_⟩
   ·exact ⟨e2,List.eq_nil_of_length_eq_zero (by omega)⟩
   ·cases e1
  clear h
  go_enter Tryz.func241,Tryz.ntmps241
  go_wp2
  go_ret
  exact ⟨_,rfl,by rw [hx.out.1,hx.out.2];exact World.ownsRow_nil _ _ _ _,Below.refl _ _⟩
 | some ad =>
  clear h
  have hB:=Below.refl w.heap.size w
  go_enter Tryz.func241,Tryz.ntmps241
  go_wp2_with (at_builtin;refine wy rfl _ _ rfl w.heap.size _ 0 [] rfl (World.ownsRow_made w #[] 0 (Nat.le_refl _) (Nat.zero_le _) (by simp)) (some ad) n c xs rfl ?qc1 ?qc3 ?qc4 ?_)
  case qc1=>exact HV.out.next (hB.alloc (Nat.le_refl _) _)
  case qc3=>omega
  case qc4=>simp
  intro v' w1 hown hgrow
  have HO:=Ha (Hb hown ((hB.alloc (Nat.le_refl _) _).trans hgrow));clear hown hgrow hB
  go_wp2
  go_ret
  exact ⟨_,rfl,HO.out.1,HO.out.2⟩
end T
namespace T
open Go.RowKit
theorem ur:∀ (l:List Tm) (q:Nat) (y:Rat),q<l.length→(tcs l).set (q*2) (.string (af y))=tcs (l.set q (y,(tat l q).2))
 | [],_,_,h=>by simp at h
 | t::l,0,y,_=>rfl
 | t::l,q+1,y,h=>by
  have ih:=ur l q y (by simpa using h)
  rw [dp,List.set_cons_succ,dp,show (q+1)*2=q*2+1+1 by omega]
  show Value.string (af t.1)::Value.string (af t.2)::(tcs l).set (q*2) (.string (af y))=_
  rw [ih];rfl
theorem Ow.set0 {W:World} {base bb n c:Nat} {T:TypeId} {l:List Tm} (h:Ow W base T (.slice (some ⟨bb,0,none⟩) n c) l) (q:Nat) (hq:q<l.length) (y:Rat) :
  Ow (W.setCell ⟨bb,q*2,none⟩ (.string (af y))) base T (.slice (some ⟨bb,0,none⟩) n c) (l.set q (y,(tat l q).2)):=by
 refine ⟨by rw [fz],?_⟩
 rw [List.length_set]
 rcases h.2 with ⟨e,_⟩ | ⟨g,cap,cur,e,hb,hg,h1,h2,h3,h4⟩
 ·cases e
 ·cases e
  refine .inr ⟨bb,c,_,rfl,hb,heap_set hg _ _,h1,h2,by simp [h3],?_⟩
  rw [←ur l q y hq,←h4]
  simp only [Array.toList_setIfInBounds,List.take_set]
theorem us (b n c:Nat) (cs rs ms:Nat→ByteArray) (k:ByteArray) (w:World) (I:Nat→Nat→Nat→World→Prop) (h1000:n≤1000)
  (hC:Calls Tryz.prog 241 #[.slice (some ⟨b,0,none⟩) n c] w fun e W'=>∃ bb cb,e = .returned (.slice (some ⟨bb,0,none⟩) n cb)∧n≤cb∧I bb cb 0 W')
  (hIn:∀ bb cb j W W',I bb cb j W→Below W.heap.size W W'→I bb cb j W')
  (hc:∀ bb cb j,j<n→∀ W,I bb cb j W→W.cell? ⟨b,j*2,none⟩=some (.string (cs j))∧W.cell? ⟨b,j*2+1,none⟩=some (.string (rs j)))
  (hm:∀ bb cb j,j<n→∀ W,I bb cb j W→Calls Tryz.prog 10 #[.string (cs j),.string k] W fun e W'=>e = .returned (.tuple #[.string (ms j),.int .i64 0])∧Below W.heap.size W W')
  (hs:∀ bb cb j,j<n→∀ W,I bb cb j W→W.frozen? ⟨bb,j*2,none⟩=false∧(∃ u,W.cell? ⟨bb,j*2,none⟩=some u)∧I bb cb (j+1) (W.setCell ⟨bb,j*2,none⟩ (.string (ms j)))) :
  Calls Tryz.prog 204 #[.slice (some ⟨b,0,none⟩) n c,.string k] w fun e W'=>∃ bb cb,e = .returned (.tuple #[.slice (some ⟨bb,0,none⟩) n cb,.int .i64 0])∧I bb cb n W':=by
 have O:=Ha (Hb hC (Hb hIn (Hb hc (Hb hm hs))));clear hC hIn hc hm hs
 go_enter Tryz.func204,Tryz.ntmps204
 go_wp2_with fail
 refine O.out.1.mono ?_
 rintro e W1 ⟨bb,cb,rfl,hcb,h⟩
 have H:=Ha h;clear h
 go_wp2
 go_loopw [14] (fun i wr=>∃ j:Nat,i = .int .i64 j∧j≤n∧Hid (I bb cb j wr)) (fun i _=>n - (intOf i).toNat)
 case atStart=>exact ⟨0,rfl,by omega,H.out⟩
 case round =>
  clear H
  obtain ⟨j,rfl,hj,HI⟩:=hrel
  by_cases hlt:j<n
  ·have hz:(j:Int)<n:=by omega
   have hzb:(j:Int)<cb:=by omega
   obtain ⟨d0,d1⟩:=O.out.2.2.1 bb cb j hlt _ HI.out
   have HN:=Ha (O.out.2.1 bb cb j _ _ HI.out ((Below.refl _ wr).alloc (Nat.le_refl _) (.cells #[.string (cs j),.string (rs j)] 43)))
   have hm:=Ha (O.out.2.2.2.1 bb cb j hlt)
   have hs:=Ha (O.out.2.2.2.2 bb cb j hlt)
   have hIn:=Ha (O.out.2.1 bb cb)
   clear O HI
   generalize cs j=cj at *
   generalize rs j=rj at *
   generalize ms j=mj at *
   go_wp2_with fail
   have hk:=Blk.new wr #[.string cj,.string rj] 43
   generalize wr.alloc (.cells #[.string cj,.string rj] 43)=u at *
   generalize wr.heap.size=k at *
   clear d0 d1
   have e0:=hk.cell 0 (.string cj) rfl
   clear hk
   go_wp2_with fail
   refine (hm.out _ HN.out).mono ?_
   rintro e w2 ⟨rfl,bd⟩
   have hi2:=hIn.out j _ _ HN.out bd
   obtain ⟨f0,⟨u2,c0⟩,hi3⟩:=hs.out _ hi2
   have HI3:=Ha hi3
   clear HN bd e0 hi2 hi3
   go_wp2
   go_roundw
   case rel=>exact ⟨j+1,by go_num,by omega,HI3.out⟩
   case measure=>simp [intOf];omega
  ·have ej:j=n:=by omega
   rw [ej] at HI
   have hz:¬ (j:Int)<n:=by omega
   go_wp2
   go_ret2
   exact ⟨_,_,rfl,HI.out⟩
theorem wz (p:Option Addr) (c:Nat) (k:ByteArray) (w:World) (Q:Value→World→Prop)
  (hC:Calls Tryz.prog 241 #[.slice p 0 c] w fun e W'=>∃ p' c',e = .returned (.slice p' 0 c')∧Q (.slice p' 0 c') W') :
  Calls Tryz.prog 204 #[.slice p 0 c,.string k] w fun e W'=>∃ v,e = .returned (.tuple #[v,.int .i64 0])∧Q v W':=by
 have O:=Ha hC;clear hC
 go_enter Tryz.func204,Tryz.ntmps204
 go_wp2_with fail
 refine O.out.mono ?_
 rintro e W1 ⟨p',c',rfl,h⟩
 have H:=Ha h;clear h
 go_wp2
 go_rounds 1
 all_goals go_ret2
 all_goals exact ⟨_,rfl,H.out⟩
def mulT (k:Rat) (t:Tm):Tm:=(t.1*k,t.2)
def mp (k:Rat):Nat→List Tm→List Tm
 | 0,l=>l
 | _+1,[] => []
 | j+1,t::l=>mulT k t::mp k j l
theorem Br (k:Rat):∀ (j:Nat) (l:List Tm),(mp k j l).length=l.length
 | 0,l=>rfl
 | _+1,[]=>rfl
 | j+1,t::l=>by rw [mp,List.length_cons,Br k j l,List.length_cons]
theorem Bs (k:Rat):∀ (j:Nat) (l:List Tm),j<l.length→(mp k j l).set j ((tat l j).1*k,(tat (mp k j l) j).2)=mp k (j+1) l
 | _,[],h=>by simp at h
 | 0,t::l,_=>by cases l <;> rfl
 | j+1,t::l,h=>by
  have ih:=Bs k j l (by simpa using h)
  show mulT k t::(mp k j l).set j ((tat l j).1*k,(tat (mp k j l) j).2)=mulT k t::mp k (j+1) l
  rw [ih]
theorem Bt (k:Rat):∀ l:List Tm,mp k l.length l=l.map (mulT k)
 | []=>rfl
 | t::l=>by
  show mulT k t::mp k l.length l=_
  rw [Bt k l];rfl
theorem Ow.cell0 {W:World} {base bb n c:Nat} {T:TypeId} {l:List Tm} (h:Ow W base T (.slice (some ⟨bb,0,none⟩) n c) l) (j:Nat) (hj:j<l.length):W.cell? ⟨bb,j*2,none⟩=some (.string (af (tat l j).1)):=by
 have hcl:=World.ownsRow.cells h (g:=bb) rfl
 have ha:∀ j,(⟨bb,0,none⟩:Addr).add j=⟨bb,j,none⟩:=fun j=>by unfold Addr.add;split <;> simp_all
 rw [←ha,Nat.mul_comm];exact hcl _ _ (fT l j hj).1
theorem zG (l:List Tm) (k:Rat) (p:Option Addr) (n c:Nat) (w:World) (h:Sr w p n c l) (h1000:n≤1000) (hk:Bq 60 k) (hB:∀ t∈l,Bq 60 t.1) (ht:Tab w) (ht2:aH w) :
  Calls Tryz.prog 204 #[.slice p n c,.string (af k)] w fun e W'=>∃ v,e = .returned (.tuple #[v,.int .i64 0])∧Ow W' w.heap.size 43 v (l.map (mulT k))∧Below w.heap.size w W':=by
 have hn:=h.1
 have hC:=Bp p n c (tcs l) w h.ap h1000
 rcases Nat.eq_zero_or_pos n with z | z
 ·have e:l = []:=List.eq_nil_of_length_eq_zero (by omega)
  subst e
  subst z
  exact wz p c (af k) w (fun v W'=>Ow W' w.heap.size 43 v []∧Below w.heap.size w W') (hC.mono fun e W' ⟨v,e1,o,b⟩=>by
   obtain ⟨p',c',e2,_,_⟩:=(show Ow W' w.heap.size 43 v [] from o).rd
   subst e2
   exact ⟨p',c',e1,o,b⟩)
 ·obtain ⟨b,rfl,tl⟩:=h.rd (by omega)
  have fin:=us b n c (fun j=>af (tat l j).1) (fun j=>af (tat l j).2) (fun j=>af ((tat l j).1*k)) (af k) w
   (fun bb cb j W=>Ow W w.heap.size 43 (.slice (some ⟨bb,0,none⟩) n cb) (mp k j l)∧w.heap.size≤bb∧Below w.heap.size w W) h1000
   (hC.mono fun e W' ⟨v,e1,o,b⟩=>by
    have o2:Ow W' w.heap.size 43 v l:=by unfold Ow;rw [←hn];exact o
    have o1:=o2
    rcases o1.2 with ⟨_,hz⟩ | ⟨g,cap,cur,rfl,hb,hg,h1,_⟩
    ·omega
    ·rw [hn]
     exact ⟨g,cap,e1,h1,by show Ow _ _ _ _ l;exact o2,hb,b⟩)
   (fun bb cb j W W' ⟨h1,h2,h3⟩ hb=>⟨h1.next hb,h2,h3.trans (hb.mono h3.size)⟩)
   (fun bb cb j hj W ⟨h1,h2,h3⟩=>⟨(h3.cell (p:=⟨b,j*2,none⟩) tl.lt).trans (tl.c0 j (by omega)),(h3.cell (p:=⟨b,j*2+1,none⟩) tl.lt).trans (tl.c1 j (by omega))⟩)
   (fun bb cb j hj W ⟨h1,h2,h3⟩=>by
    have hb1:=hB _ (bV (l:=l) (j:=j) (by omega))
    have m1:=a8 hb1 hk (by decide)
    have c:=gz (tat l j).1 k W (hb1.lim (by decide)) (hk.lim (by decide)) (ht.next h3) (ae ht2 h3)
    rwa [m1.1,m1.2.1] at c)
   (fun bb cb j hj W ⟨h1,h2,h3⟩=>by
    have hl:=Br k j l
    refine ⟨h1.frozen _,⟨_,h1.cell0 j (by omega)⟩,?_,h2,h3.setCell (p:=⟨bb,j*2,none⟩) h2 _⟩
    have:=h1.set0 j (by omega) ((tat l j).1*k)
    rwa [Bs k j l (by omega)] at this)
  refine fin.mono fun e W' ⟨bb,cb,e1,o,_,b⟩=>⟨_,e1,?_,b⟩
  rw [hn,Bt] at o
  rw [hn];exact o
end T
namespace T
open Go.RowKit
theorem DN {m c:Rat} (hm:0<m):co m (c,0)=0:=by
 have:=oE (m:=m) (r:=0) c hm (by decide)
 rw [show (0:Rat)*0*m=0 by grind] at this
 rw [this];grind
theorem yg (q:Rat):(0:Rat)<((nN q:Nat):Rat):=cz (AJ q)
theorem Fw {m:Rat} (hm:0<m) (t:Tm) (h:0≤t.2):co m (lB t)=co m t:=by
 obtain ⟨c,q⟩:=t
 have e:=mV h
 show co m (c*nC q,((nN q:Nat):Rat))=_
 rw [←vX c hm (yg q) (mg q)]
 show co m (c,nC q*nC q*((nN q:Nat):Rat))=_
 rw [e]
theorem pG (t:Tm):0<(lB t).2:=yg t.2
theorem sO {l:List Tm} (h:Red l) (t:Tm):Red (stp l t):=by
 unfold stp
 split
 ·exact h
 ·exact xJ (pG t) h
theorem Fx {m:Rat} (hm:0<m) {l:List Tm} (h:Red l) (t:Tm) (ht:0≤t.2):vl m (stp l t)=vl m l+co m t:=by
 unfold stp
 split
 ·next z =>
  obtain ⟨c,q⟩:=t
  rcases z with z | z
  ·have:c=0:=z
   subst this;rw [r6];grind
  ·have:q=0:=z
   subst this;rw [DN hm];grind
 ·rw [AO hm (pG t) h.1,Fw hm t ht]
theorem ut:∀ (g l:List Tm),Red l→Red (g.foldl stp l)
 | [],_,h=>h
 | t::g,l,h=>ut g (stp l t) (sO h t)
theorem yh {m:Rat} (hm:0<m):∀ (g l:List Tm),Red l→(∀ t∈g,0≤t.2)→vl m (g.foldl stp l)=vl m l+vl m g
 | [],l,_,_=>by show vl m l=vl m l+0;grind
 | t::g,l,h,k=>by
  show vl m (g.foldl stp (stp l t))=vl m l+(co m t+vl m g)
  rw [yh hm g (stp l t) (sO h t) fun s hs=>k s (List.mem_cons_of_mem _ hs),Fx hm h t (k t List.mem_cons_self)];grind
theorem sP:Red []:=⟨fun _ h=>(by cases h),List.Pairwise.nil⟩
theorem sQ (g:List Tm):Red (gth g):=ut g [] sP
theorem Bu {m:Rat} (hm:0<m) (g:List Tm) (h:∀ t∈g,0≤t.2):vl m (gth g)=vl m g:=by
 show vl m (g.foldl stp [])=_
 rw [yh hm g [] sP h]
 show (0:Rat)+_=_
 grind
theorem nS (g:List Tm):Red (fin g):=(sQ g).filter _
theorem Bv {m:Rat} (hm:0<m) (g:List Tm) (h:∀ t∈g,0≤t.2):vl m (fin g)=vl m g:=by
 rw [←Bu hm g h];exact yY m (gth g)
theorem Bw {g:List Tm} {t:Tm} (h:t∈fin g):t.1≠0:=by
 have:=(List.mem_filter.1 h).2
 simpa [nz] using this
theorem Bx {l:List Tm} (h:Red l) (t:Tm) {s:Tm} (hs:s∈stp l t):(∃ r∈l,s.2=r.2)∨(t.1≠0∧t.2≠0∧s.2=((nN t.2:Nat):Rat)):=by
 unfold stp at hs
 split at hs
 ·exact .inl ⟨s,hs,rfl⟩
 ·next z =>
  rcases (r8 (pG t) h.1 s hs).2.2 with k | k
  ·exact .inr ⟨fun e=>z (.inl e),fun e=>z (.inr e),k⟩
  ·exact .inl k
theorem ri:∀ (g l:List Tm),Red l→∀ s∈g.foldl stp l,(∃ r∈l,s.2=r.2)∨∃ t∈g,t.1≠0∧t.2≠0∧s.2=((nN t.2:Nat):Rat)
 | [],_,_,s,hs => .inl ⟨s,hs,rfl⟩
 | t::g,l,h,s,hs=>by
  rcases ri g (stp l t) (sO h t) s hs with ⟨r,hr,e⟩ | ⟨r,hr,e⟩
  ·rcases Bx h t hr with ⟨r',hr',e'⟩ | e'
   ·exact .inl ⟨r',hr',e.trans e'⟩
   ·exact .inr ⟨t,List.mem_cons_self,e'.1,e'.2.1,e.trans e'.2.2⟩
  ·exact .inr ⟨r,List.mem_cons_of_mem _ hr,e⟩
theorem By {g:List Tm} {s:Tm} (hs:s∈gth g):∃ t∈g,t.1≠0∧t.2≠0∧s.2=((nN t.2:Nat):Rat):=by
 rcases ri g [] sP s hs with ⟨r,hr,_⟩ | h
 ·cases hr
 ·exact h
theorem pH {α:Type} (p:α→Bool):∀ l:List α,(l.filter p).length+(l.filter fun s => !p s).length=l.length
 | []=>rfl
 | t::l=>by
  have ih:=pH p l
  by_cases h:p t=true
  ·rw [List.filter_cons_of_pos h,List.filter_cons_of_neg (by simp [h])];simp only [List.length_cons];omega
  ·rw [List.filter_cons_of_neg h,List.filter_cons_of_pos (by simpa using h)];simp only [List.length_cons];omega
theorem yi:∀ (C l:List Rat),(l.Pairwise fun s t=>¬ Rl s t)→(∀ s∈l,∃ c∈C,Rl s c)→l.length≤C.length
 | [],[],_,_=>Nat.le_refl _
 | [],s::l,_,h=>by obtain ⟨c,hc,_⟩:=h s List.mem_cons_self;cases hc
 | c::C,l,hp,h=>by
  classical
  have h1:(l.filter fun s=>decide (Rl s c)).length≤1:=by
   have hp':=hp.filter (fun s=>decide (Rl s c))
   match hq:l.filter fun s=>decide (Rl s c) with
   | []=>simp
   | [_]=>simp
   | a::b::r =>
    rw [hq] at hp'
    have ha:a∈l.filter fun s=>decide (Rl s c):=by rw [hq];exact List.mem_cons_self
    have hb:b∈l.filter fun s=>decide (Rl s c):=by rw [hq];exact List.mem_cons_of_mem _ List.mem_cons_self
    have a1:Rl a c:=by simpa using (List.mem_filter.1 ha).2
    have b1:Rl b c:=by simpa using (List.mem_filter.1 hb).2
    exact absurd (a1.trans b1.symm) ((List.pairwise_cons.1 hp').1 b List.mem_cons_self)
  have h2:=yi C (l.filter fun s => !decide (Rl s c)) (hp.filter _) fun s hs=>by
   obtain ⟨m1,m2⟩:=List.mem_filter.1 hs
   obtain ⟨d,hd,e⟩:=h s m1
   rcases List.mem_cons.1 hd with rfl | hd
   ·simp [e] at m2
   ·exact ⟨d,hd,e⟩
  have h3:=pH (fun s=>decide (Rl s c)) l
  rw [List.length_cons]
  omega
theorem Bz {g:List Tm} (hg:Gv g) (hl:(fin g).length≤16) (hB:∀ t∈fin g,Bq 60 t.1) {l':List Tm} (hp:l'.Perm (fin g)) (hs:l'.Pairwise fun s t=>s.2≤t.2):Good l':=by
 have hr:Red l':=(nS g).perm hp.symm
 have hN:=hg.pre g.length (Nat.le_refl _)
 rw [List.take_length] at hN
 refine ⟨by rw [hp.length_eq];exact hl,fun t ht => ?_,?_,hr.2⟩
 ·have h1:=hp.subset ht
  obtain ⟨_,b,e,nb,lb⟩:=hN t (List.mem_filter.1 h1).1
  exact ⟨Bw h1,hB t h1,b,e,nb,Nat.lt_of_lt_of_le lb (aG (by decide))⟩
 ·refine (hs.and hr.2).imp fun {s t} ⟨h1,h2⟩ => ?_
  exact Rat.lt_of_le_of_ne h1 fun h=>absurd (by rw [h];exact Rl.refl _) h2
end T
namespace T
open Go.RowKit
theorem wA (l:List Tm) (p:Option Addr) (n c:Nat) (w:World) (hn:n=l.length) (h16:n≤16) (hc:n≤c) (hx:Rd w p l)
  (h1:∀ j,j<l.length→∀ W,Below w.heap.size w W→Calls Tryz.prog 166 #[.agg #[.string (af (tat l j).1),.string (af (tat l j).2)]] W fun e W'=>e = .returned (.int .i64 0)∧Below W.heap.size W W')
  (h2:∀ j,j<l.length→∀ W,Below w.heap.size w W→Calls Tryz.prog 167 #[.string (af (tat l j).2),.slice p j c] W fun e W'=>e = .returned (.int .i64 0)∧Below W.heap.size W W') :
  Calls Tryz.prog 113 #[.slice p n c] w fun e W'=>e = .returned (.int .i64 0)∧Below w.heap.size w W':=by
 rw [←hn] at h1 h2
 rcases n with _ | m
 ·clear hx h1 h2 hn hc
  go_enter Tryz.func113,Tryz.ntmps113
  go_wp2
  go_rounds 1
  all_goals go_ret
  all_goals exact ⟨rfl,Below.refl _ _⟩
 ·obtain ⟨b,rfl,ht⟩:=hx (by omega)
  have O:=Ha (Hb h1 h2);clear h1 h2
  have HT:=Ha (Hb ht.lt (Hb (fun j (hj:j<m+1)=>ht.c0 j (by omega)) (fun j (hj:j<m+1)=>ht.c1 j (by omega))))
  have y1:¬ (16:Int)<m+1:=by omega
  have HC:=Ha hc
  clear hx ht hn hc
  go_enter Tryz.func113,Tryz.ntmps113
  go_wp2
  go_loopw [12] (fun i wr=>∃ j:Nat,i = .int .i64 j∧j≤m+1∧Hid (Below w.heap.size w wr)) (fun i _=>m+1 - (intOf i).toNat)
  case atStart=>exact ⟨0,rfl,by omega,Below.refl _ _⟩
  case round =>
   obtain ⟨j,rfl,hj,HB⟩:=hrel
   by_cases hlt:j<m+1
   ·have hz:(j:Int)<m+1:=by omega
    have d0:=(HB.out.cell (p:=⟨b,j*2,none⟩) HT.out.1).trans (HT.out.2.1 j hlt)
    have d1:=(HB.out.cell (p:=⟨b,j*2+1,none⟩) HT.out.1).trans (HT.out.2.2 j hlt)
    go_wp2_with fail
    have HN:=Ha (Hb (Blk.new wr #[.string (af (tat l j).1),.string (af (tat l j).2)] 43) (HB.out.alloc HB.out.size (.cells #[.string (af (tat l j).1),.string (af (tat l j).2)] 43)))
    clear HB;have HB:=HN;clear HN
    generalize wr.alloc (.cells #[.string (af (tat l j).1),.string (af (tat l j).2)] 43)=u at *
    generalize wr.heap.size=k at *
    have e0:=HB.out.1.cell 0 (.string (af (tat l j).1)) rfl;have e1:=HB.out.1.cell 1 (.string (af (tat l j).2)) rfl
    refine (O.out.1 j hlt _ HB.out.2).mono ?_
    rintro e w' ⟨rfl,b⟩
    replace HB:=Ha (Hb (HB.out.1.next b) (HB.out.2.trans (b.mono HB.out.2.size)));clear b;have e0:=HB.out.1.cell 0 (.string (af (tat l j).1)) rfl;have e1:=HB.out.1.cell 1 (.string (af (tat l j).2)) rfl
    clear d0 d1
    have sl:j≤c:=by have:=HC.out;omega
    have sl2:(j:Int)≤c:=by omega
    go_wp2
    have HD:=Ha (Hb HB.out.1.drew HB.out.2.drew);clear HB;have HB:=HD;clear HD
    have e0:=HB.out.1.cell 0 (.string (af (tat l j).1)) rfl;have e1:=HB.out.1.cell 1 (.string (af (tat l j).2)) rfl
    go_region_held3 (fun w'=>w'.cell? ⟨k,1,none⟩=some (.string (af (tat l j).2))) (first | exact e1 | (go_keep;done))
     (first | (go_at_call 167;refine (O.out.2 j hlt _ HB.out.2).mono ?_;rintro e w4 ⟨rfl,b⟩;replace HB:=Ha (Hb (HB.out.1.next b) (HB.out.2.trans (b.mono HB.out.2.size)));clear b;have e0:=HB.out.1.cell 0 (.string (af (tat l j).1)) rfl;have e1:=HB.out.1.cell 1 (.string (af (tat l j).2)) rfl))
    all_goals
     have e0:=HB.out.1.cell 0 (.string (af (tat l j).1)) rfl;have e1:=HB.out.1.cell 1 (.string (af (tat l j).2)) rfl
     go_wp2
     go_roundw
     case rel=>exact ⟨j+1,by go_num,by omega,HB.out.2⟩
     case measure=>simp [intOf];omega
   ·have hz:¬ (j:Int)<m+1:=by omega
    go_wp2
    go_ret
    exact ⟨rfl,HB.out⟩
structure Sd (W:World) (p:Option Addr) (n c:Nat) (l:List Tm):Prop where
 good:Good l
 len:n=l.length
 cap:n≤c
 rd:Rd W p l
theorem Sd.next {W W':World} {p:Option Addr} {n c:Nat} {l:List Tm} (h:Sd W p n c l) (g:Below W.heap.size W W'):Sd W' p n c l:=⟨h.good,h.len,h.cap,h.rd.next g⟩
theorem iK (l:List Tm) (p:Option Addr) (n c:Nat) (w:World) (h:Sd w p n c l) (ht:Tab w) (ht2:aH w) (hS:Sm w) :
  Calls Tryz.prog 113 #[.slice p n c] w fun e W'=>e = .returned (.int .i64 0)∧Below w.heap.size w W':=by
 have hl:=h.good.len
 have hn:=h.len
 exact wA l p n c w hn (by omega) h.cap h.rd
  (fun j hj W hw=>sJ _ W (h.good.ok _ (bV hj)) (ht.next hw) (ae ht2 hw) (hS.next hw))
  (fun j hj W hw=>qz l h.good j hj p c W (h.rd.next hw) (ht.next hw) (ae ht2 hw))
theorem j8 (b n:Nat) (P:Nat→Option Addr) (N C:Nat→Nat) (w:World) (h16:n≤16) (hb:b<w.heap.size)
  (hc:∀ j,j<n→w.cell? ⟨b,j,none⟩=some (.slice (P j) (N j) (C j)))
  (h1:∀ j,j<n→∀ W,Below w.heap.size w W→Calls Tryz.prog 113 #[.slice (P j) (N j) (C j)] W fun e W'=>e = .returned (.int .i64 0)∧Below W.heap.size W W') :
  Calls Tryz.prog 67 #[.slice (some ⟨b,0,none⟩) n n] w fun e W'=>e = .returned (.bool true)∧Below w.heap.size w W':=by
 have O:=Ha (Hb hc h1);clear hc h1
 go_enter Tryz.func67,Tryz.ntmps67
 go_wp2
 go_loopw [7] (fun i wr=>∃ j:Nat,i = .int .i64 j∧j≤n∧Hid (Below w.heap.size w wr)) (fun i _=>n - (intOf i).toNat)
 case atStart=>exact ⟨0,rfl,by omega,Below.refl _ _⟩
 case round =>
  obtain ⟨j,rfl,hj,HB⟩:=hrel
  by_cases hlt:j<n
  ·have d0:=(HB.out.cell (p:=⟨b,j,none⟩) hb).trans (O.out.1 j hlt)
   have hr:=Ha (O.out.2 j hlt _ HB.out)
   generalize P j=pj at *
   generalize N j=nj at *
   generalize C j=cj at *
   go_wp2_with fail
   refine hr.out.mono ?_
   rintro e w' ⟨rfl,b⟩
   have HB2:=Ka HB b HB.out.size;clear b HB hr
   go_wp2
   go_roundw
   case rel=>exact ⟨j+1,by go_num,by omega,HB2.out⟩
   case measure=>simp [intOf];omega
  ·have he:j=n:=by omega
   go_wp2
   go_ret
   exact ⟨rfl,HB.out⟩
theorem wB (b : Nat) (p : Option Addr) (n c : Nat) (l : List Tm) (w : World) (hb : Blk w b #[.slice p n c]) (h : Sd w p n c l) (ht : Tab w) (ht2 : aH w) (hS : Sm w) :
   Calls Tryz.prog 67 #[.slice (some ⟨b, 0, none⟩) 1 1] w fun e W' => e = .returned (.bool true) ∧ Below w.heap.size w W' :=
 j8 b 1 (fun _ => p) (fun _ => n) (fun _ => c) w (by decide) hb.lt
   (fun j hj => by obtain rfl : j = 0 := by omega
                   exact hb.cell 0 _ rfl)
   (fun _ _ W hw => iK l p n c W (h.next hw) (ht.next hw) (ae ht2 hw) (hS.next hw))
theorem pI (b:Nat) (p p':Option Addr) (n c n' c':Nat) (l l':List Tm) (w:World) (hb:Blk w b #[.slice p n c,.slice p' n' c']) (h:Sd w p n c l) (h':Sd w p' n' c' l') (ht:Tab w) (ht2:aH w) (hS:Sm w) :
  Calls Tryz.prog 67 #[.slice (some ⟨b,0,none⟩) 2 2] w fun e W'=>e = .returned (.bool true)∧Below w.heap.size w W' :=
 j8 b 2 (fun j=>if j=0 then p else p') (fun j=>if j=0 then n else n') (fun j=>if j=0 then c else c') w (by decide) hb.lt
  (fun j hj=>by
   have h2:j=0∨j=1:=by omega
   rcases h2 with rfl | rfl
   ·exact hb.cell 0 _ rfl
   ·exact hb.cell 1 _ rfl)
  (fun j hj W hw=>by
   have h2:j=0∨j=1:=by omega
   rcases h2 with rfl | rfl
   ·exact iK l p n c W (h.next hw) (ht.next hw) (ae ht2 hw) (hS.next hw)
   ·exact iK l' p' n' c' W (h'.next hw) (ht.next hw) (ae ht2 hw) (hS.next hw))
end T
end Go.Proofs.YtbhbhlfkdlfimaaGreatDoor
