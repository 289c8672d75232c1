/- Parts of the proofs of the texts YtbhbhlfkdlfimaaGreatDoorQY. -/
import Derived.Deep.OwnRows
import Derived.Deep.Cut
import Derived.Test.YtbhbhlfkdlfimaaGreatDoorQX1
import Derived.Test.YtbhbhlfkdlfimaaGreatDoorQX10
import Derived.Test.YtbhbhlfkdlfimaaGreatDoorQX11
import Derived.Test.YtbhbhlfkdlfimaaGreatDoorQX12
import Derived.Test.YtbhbhlfkdlfimaaGreatDoorQX13
import Derived.Test.YtbhbhlfkdlfimaaGreatDoorQX14
import Derived.Test.YtbhbhlfkdlfimaaGreatDoorQX15
import Derived.Test.YtbhbhlfkdlfimaaGreatDoorQX16
import Derived.Test.YtbhbhlfkdlfimaaGreatDoorQX17
import Derived.Test.YtbhbhlfkdlfimaaGreatDoorQX18
import Derived.Test.YtbhbhlfkdlfimaaGreatDoorQX19
import Derived.Test.YtbhbhlfkdlfimaaGreatDoorQX2
import Derived.Test.YtbhbhlfkdlfimaaGreatDoorQX20
import Derived.Test.YtbhbhlfkdlfimaaGreatDoorQX21
import Derived.Test.YtbhbhlfkdlfimaaGreatDoorQX22
import Derived.Test.YtbhbhlfkdlfimaaGreatDoorQX23
import Derived.Test.YtbhbhlfkdlfimaaGreatDoorQX3
import Derived.Test.YtbhbhlfkdlfimaaGreatDoorQX4
import Derived.Test.YtbhbhlfkdlfimaaGreatDoorQX5
import Derived.Test.YtbhbhlfkdlfimaaGreatDoorQX6
import Derived.Test.YtbhbhlfkdlfimaaGreatDoorQX7
import Derived.Test.YtbhbhlfkdlfimaaGreatDoorQX8
import Derived.Test.YtbhbhlfkdlfimaaGreatDoorQX9
import Derived.Test.YtbhbhlfkdlfimaaGreatDoorQY1
import Derived.Test.YtbhbhlfkdlfimaaGreatDoorQY2
set_option linter.all false
set_option maxRecDepth 100000
set_option maxHeartbeats 8000000
namespace Go.Proofs.YtbhbhlfkdlfimaaGreatDoor
namespace T
open Go.Proofs.YtbhbhlfkdlfimaaGreatDoor Go Go.RowKit Go.Proofs Go.Sort Go.Lib
instance:Inhabited Pn:=⟨pdQ⟩
def Ef (p:Pn):List Value := [.int .i64 p.place,.int .i64 p.size,.int .i64 p.rem]
def cfP (x y:Pn):Int:=if compareInt y.rem x.rem=0 then compareInt x.place y.place else compareInt y.rem x.rem
instance (a b:Pn):Decidable (pLt a b):=by unfold pLt;infer_instance
theorem ltP (x y:Pn):ltOf cfP x y=decide (pLt x y):=by
 unfold ltOf cfP pLt compareInt
 have e1:((y.rem:Int)<x.rem)=(y.rem<x.rem):=propext Int.ofNat_lt
 have e2:((y.rem:Int) > x.rem)=(x.rem<y.rem):=propext Int.ofNat_lt
 have e3:((x.place:Int)<y.place)=(x.place<y.place):=propext Int.ofNat_lt
 have e4:((x.place:Int) > y.place)=(y.place<x.place):=propext Int.ofNat_lt
 simp only [e1,e2,e3,e4]
 refine decide_eq_decide.2 ?_
 repeat' split
 all_goals omega
theorem Ii:SWO (ltOf cfP) where
 irrefl x:=by rw [ltP,decide_eq_false_iff_not];unfold pLt;omega
 trans x y z h1 h2:=by
  rw [ltP,decide_eq_true_iff] at h1 h2 ⊢
  unfold pLt at *
  omega
 ntrans x y z h1 h2:=by
  rw [ltP,decide_eq_false_iff_not] at h1 h2 ⊢
  unfold pLt at *
  omega
theorem m8 (a1 a2 a3 b1 b2 b3:Int) (w:World) :
  Calls Tryz.prog 60 #[.agg #[.int .i64 a1,.int .i64 a2,.int .i64 a3],.agg #[.int .i64 b1,.int .i64 b2,.int .i64 b3]] w fun e W'=>e = .returned (.int .i64 (if compareInt b3 a3=0 then compareInt a1 b1 else compareInt b3 a3))∧∃ q os,W'=grow (w.drewN q) os:=by
 have c1:=fun W=>Tryz.cmp_Compare_int b3 a3 W
 have c2:=fun W=>Tryz.cmp_Compare_int a1 b1 W
 have c3:=fun (k:Nat) W h=>DJ k (compareInt b3 a3) (compareInt a1 b1) W h
 generalize compareInt b3 a3=x at *
 generalize compareInt a1 b1=y at *
 generalize (if x=0 then y else x)=r at *
 have O:=Ha (Hb c1 (Hb c2 c3));clear c1 c2 c3
 go_enter Tryz.func60,Tryz.ntmps60
 go_wp2_with fail
 have K1:=(Blk.new w #[.int .i64 a1,.int .i64 a2,.int .i64 a3] 100).alloc (.cells #[.int .i64 b1,.int .i64 b2,.int .i64 b3] 100)
 have K2:=Blk.new (w.alloc (.cells #[.int .i64 a1,.int .i64 a2,.int .i64 a3] 100)) #[.int .i64 b1,.int .i64 b2,.int .i64 b3] 100
 rw [World.size_alloc] at K2
 have e0:=K1.cell 0 (.int .i64 a1) rfl
 have e2:=K1.cell 2 (.int .i64 a3) rfl
 have f0:=K2.cell 0 (.int .i64 b1) rfl
 have f2:=K2.cell 2 (.int .i64 b3) rfl
 clear K1 K2
 generalize hW:(w.alloc (.cells #[.int .i64 a1,.int .i64 a2,.int .i64 a3] 100)).alloc (.cells #[.int .i64 b1,.int .i64 b2,.int .i64 b3] 100)=W0 at *
 have HW:=Ha hW;clear hW
 generalize w.heap.size+1=m at *
 generalize w.heap.size=k at *
 go_region_held3 (fun w'=>w'.cell? ⟨k,0,none⟩=some (.int .i64 a1)∧w'.cell? ⟨k,2,none⟩=some (.int .i64 a3)∧w'.cell? ⟨m,0,none⟩=some (.int .i64 b1)∧w'.cell? ⟨m,2,none⟩=some (.int .i64 b3)) (first | exact ⟨e0,e2,f0,f2⟩ | (go_keep;done))
  (first | (go_at_call 98;(first | with_reducible refine Calls.mono (O.out.1 _) ?_ | with_reducible refine Calls.mono (O.out.2.1 _) ?_);rintro e v ⟨rfl,rfl⟩) | (go_at_call 106;refine (O.out.2.2 _ _ (Blk.drew (Blk.new _ _ _))).mono ?_;rintro e v ⟨rfl,rfl⟩))
 all_goals
  go_wp2
  go_ret
  exact ⟨rfl,1,_,by rw [←HW.out,alloc_eq_grow,alloc_eq_grow,alloc_eq_grow,grow_grow,grow_grow];rfl⟩
theorem pp (b n:Nat) (w:World):CmpLays Tryz.prog 60 #[] Ef 3 cfP b 0 n w:=fun m os dk _ x y=>m8 x.place x.size x.rem y.place y.size y.rem _
theorem egP:∀ args w,(callFunc 60 args).run Tryz.prog w = .ok (.enter 60 args) w:=enters_of Tryz.func60 (by kernel_rfl) rfl
theorem eQ {w:World} {g n:Nat} {os:Array Obj} (d:Array Pn):w.grownBy (sortWorldK Ef 3 w g 0 n d os) (some g):=by
 unfold sortWorldK putRowK
 refine ⟨rfl,rfl,rfl,by simp,fun k hk hne => ?_⟩
 rw [heap_grow_old _ _ (by simpa using hk)]
 have:g≠k:=fun e=>hne (by rw [e])
 simp [putRow,mapBlock,Sort.ahead,Array.getElem?_modify,this]
structure Pl (W:World) (b:Nat) (l:List Pn):Prop where
 lt:b<W.heap.size
 at_:∀ j,j<l.length→W.cell? ⟨b,j*3,none⟩=some (.int .i64 (pat l j).place)∧W.cell? ⟨b,j*3+1,none⟩=some (.int .i64 (pat l j).size)∧W.cell? ⟨b,j*3+2,none⟩=some (.int .i64 (pat l j).rem)
theorem Pl.next {W W':World} {b:Nat} {l:List Pn} (h:Pl W b l) (g:Below W.heap.size W W'):Pl W' b l :=
 ⟨Nat.lt_of_lt_of_le h.lt g.size,fun j hj=>⟨(g.cell (p:=⟨b,j*3,none⟩) h.lt).trans (h.at_ j hj).1,(g.cell (p:=⟨b,j*3+1,none⟩) h.lt).trans (h.at_ j hj).2.1,(g.cell (p:=⟨b,j*3+2,none⟩) h.lt).trans (h.at_ j hj).2.2⟩⟩
theorem C7 (l:List Pn) (b n c:Nat) (w:World) (hn:n=l.length) (h1000:n≤1000) (ht:Pl w b l) (hf:∀ i,w.frozen? ⟨b,i,none⟩=false) :
  Calls Tryz.prog 59 #[.slice (some ⟨b,0,none⟩) n c,.func (.func 60) #[] #[]] w fun e W'=>e = .returned (.tuple #[])∧∃ l',l'.Perm l∧(l'.Pairwise fun s t=>¬ pLt t s)∧Pl W' b l'∧w.grownBy W' (some b):=by
 have at0:∀ j,j<n→l.toArray[j]! = pat l j:=fun j hj=>by
  unfold pat
  rw [getElem!_pos l.toArray j (by simp;omega),List.getElem?_eq_getElem (by omega:j<l.length)];simp
 have hH:HoldsK Ef 3 w b 0 l.toArray:=fun j hj=>by
  rw [size_flatK] at hj
  have hj2:j<n*3:=by simpa [hn] using hj
  refine ⟨?_,by simpa using hf j⟩
  rw [get_flatK _ _ _ _ hj,Nat.zero_add,at0 _ (by omega)]
  have k:=ht.at_ (j / 3) (by omega)
  have h3:j % 3=0∨j % 3=1∨j % 3=2:=by omega
  rcases h3 with h | h | h
  ·rw [h]
   have:=k.1
   rw [show j / 3*3=j by omega] at this
   rw [this];rfl
  ·rw [h]
   have:=k.2.1
   rw [show j / 3*3+1=j by omega] at this
   rw [this];rfl
  ·rw [h]
   have:=k.2.2
   rw [show j / 3*3+2=j by omega] at this
   rw [this];rfl
 have hcon:=AnyQ.slices_SortFunc Tryz.laysSortFuncP 3 Tryz.isAgg100 Tryz.sizeOf100 Ef (fun _=>rfl) (fun x v hv=>by simp [Ef] at hv;rcases hv with rfl | rfl | rfl <;> rfl) cfP Ii 60 #[] b 0 c l.toArray w egP (pp b _ w) hH ht.lt (by simp;omega)
 rw [show l.toArray.size=n by simp [hn]] at hcon
 refine Calls.mono (show Calls Tryz.prog 59 _ _ _ from hcon) fun e W' ⟨e1,d',m,os,hp,hs,e2⟩=>⟨e1,d'.toList,?_,?_,?_,?_⟩
 ·have h3:=hp.2.2
  have k1:d'.extract 0 n=d':=by
   have:=hp.1
   rw [hn,show l.length=l.toArray.size by simp,←this];simp
  have k2:l.toArray.extract 0 n=l.toArray:=by rw [hn];simp
  rw [k1,k2] at h3
  simpa using h3
 ·rw [List.pairwise_iff_getElem]
  intro i j hi hj hij
  have hsz:d'.size=n:=by rw [hp.1];simp [hn]
  have h3:=hs i j (by omega) hij (by simpa [hsz] using hj)
  rw [ltP,decide_eq_false_iff_not] at h3
  rw [getElem!_pos d' i (by simpa using hi),getElem!_pos d' j (by simpa using hj)] at h3
  simpa using h3
 ·have hsz:d'.size=l.toArray.size:=hp.1
  have hK:=holdsK_sortWorldK Ef 3 w b 0 m l.toArray d' os ht.lt hH hsz
  rw [←e2] at hK
  have at1:∀ j,j<d'.size→pat d'.toList j=d'[j]! := fun j hj=>by
   unfold pat
   rw [getElem!_pos d' j hj,List.getElem?_eq_getElem (by simpa using hj)];simp
  refine ⟨?_,fun j hj => ?_⟩
  ·rw [e2];have:=(eQ (w:=w) (g:=b) (n:=m) (os:=os) d').size
   exact Nat.lt_of_lt_of_le ht.lt this
  ·have hj':j<d'.size:=by simpa using hj
   have x0:=(hK.cell (i:=j) (c:=0) hj' (by decide)).1
   have x1:=(hK.cell (i:=j) (c:=1) hj' (by decide)).1
   have x2:=(hK.cell (i:=j) (c:=2) hj' (by decide)).1
   rw [Nat.zero_add,Nat.add_zero] at x0
   rw [Nat.zero_add] at x1 x2
   rw [at1 j hj']
   exact ⟨x0,x1,x2⟩
 ·rw [e2];exact eQ d'
end T
namespace T
open Go.RowKit
structure Il (W:World) (b k:Nat) (f:Nat→Nat):Prop where
 lt:b<W.heap.size
 c:∀ j,j<k→W.cell? ⟨b,j,none⟩=some (.int .i64 (f j))
theorem Il.next {W W':World} {b k:Nat} {f:Nat→Nat} (h:Il W b k f) (g:Below W.heap.size W W'):Il W' b k f :=
 ⟨Nat.lt_of_lt_of_le h.lt g.size,fun j hj=>(g.cell (p:=⟨b,j,none⟩) h.lt).trans (h.c j hj)⟩
theorem Hs (x:Nat) (w:World) (h:x≤1000):Calls Tryz.prog 58 #[.int .i64 x] w fun e W'=>e = .returned (.bool true)∧Below w.heap.size w W':=by
 have h1:(0:Int)≤x:=by omega
 have h2:(x:Int)≤1073741824:=by omega
 clear h
 go_enter Tryz.func58,Tryz.ntmps58
 go_wp2
 go_ret
 exact ⟨rfl,Below.refl _ _⟩
theorem G6 (n b k c:Nat) (f:Nat→Nat) (w:World) (hn:n≤1000) (hk:k≤10) (h:Il w b k f) (hf:∀ j,j<k→f j≤1000) :
  Calls Tryz.prog 20 #[.int .i64 n,.slice (some ⟨b,0,none⟩) k c] w fun e W'=>e = .returned (.int .i64 0)∧Below w.heap.size w W':=by
 have O:=Ha (Hb (fun W=>Hs n W hn) (Hb h.lt (Hb h.c (fun j hj W=>Hs (f j) W (hf j hj)))));clear h hf hn
 have y1:¬ (4096:Int)<k:=by omega
 go_enter Tryz.func20,Tryz.ntmps20
 go_wp2_with fail
 refine (O.out.1 _).mono ?_
 rintro e w1 ⟨rfl,b1⟩
 have HB:=Ha b1;clear b1
 go_wp2
 go_loopw [17] (fun i wr=>∃ j:Nat,i = .int .i64 j∧j≤k∧Hid (Below w.heap.size w wr)) (fun i _=>k - (intOf i).toNat)
 case atStart=>exact ⟨0,rfl,by omega,HB⟩
 case round =>
  clear HB
  obtain ⟨j,rfl,hj,HB⟩:=hrel
  by_cases hlt:j<k
  ·have hz:(j:Int)<k:=by omega
   have d0:=(HB.out.cell (p:=⟨b,j,none⟩) O.out.2.1).trans (O.out.2.2.1 j hlt)
   have hr:=Ha (O.out.2.2.2 j hlt)
   generalize f j=x at *
   go_wp2_with fail
   refine (hr.out _).mono ?_
   rintro e w' ⟨rfl,b⟩
   have HB2:=Ha (HB.out.trans (b.mono HB.out.size));clear b HB hr
   go_wp2
   go_roundw
   case rel=>exact ⟨j+1,by go_num,by omega,HB2⟩
   case measure=>simp [intOf];omega
  ·have hz:¬ (j:Int)<k:=by omega
   go_wp2
   go_ret
   exact ⟨rfl,HB.out⟩
theorem Ic (b k c:Nat) (f:Nat→Nat) (w:World) (hk:k≤10) (h:Il w b k f) (hf:∀ j,j<k→f j≤1000) :
  Calls Tryz.prog 21 #[.slice (some ⟨b,0,none⟩) k c] w fun e W'=>e = .returned (.int .i64 (an f k))∧Below w.heap.size w W':=by
 have bd:∀ j,j≤k→an f j≤j*1000:=fun j=>by
  induction j with
  | zero=>intro _;exact Nat.zero_le _
  | succ j ih=>intro hj;have:=ih (by omega);have:=hf j (by omega);show an f j+f j≤_;omega
 have O:=Ha (Hb h.lt (Hb h.c (Hb hf bd)));clear h hf bd
 go_enter Tryz.func21,Tryz.ntmps21
 go_wp2
 go_loopw [3,8] (fun s i wr=>∃ j:Nat,s = .int .i64 (an f j)∧i = .int .i64 j∧j≤k∧Hid (Below w.heap.size w wr)) (fun _ i _=>k - (intOf i).toNat)
 case atStart=>exact ⟨0,rfl,rfl,by omega,Below.refl _ _⟩
 case round =>
  obtain ⟨j,rfl,rfl,hj,HB⟩:=hrel
  by_cases hlt:j<k
  ·have hz:(j:Int)<k:=by omega
   have d0:=(HB.out.cell (p:=⟨b,j,none⟩) O.out.1).trans (O.out.2.1 j hlt)
   have h1:=O.out.2.2.1 j hlt
   have h2:=O.out.2.2.2 j (by omega)
   have hs:((an f (j+1):Nat):Int)=(an f j:Int)+f j:=rfl
   have HS:=Ha hs;clear hs
   generalize f j=x at *
   generalize an f j=s at *
   have hw:IntKind.i64.wrap ((s:Int)+x)=(s:Int)+x:=by rw [IntKind.wrap_i64];omega
   go_wp2
   go_roundw
   case rel=>exact ⟨j+1,by rw [HS.out],by go_num,by omega,HB⟩
   case measure=>simp [intOf];omega
  ·obtain rfl:j=k:=by omega
   have hz:¬ (j:Int)<j:=by omega
   go_wp2
   go_ret
   exact ⟨rfl,HB.out⟩
end T
namespace T
open Go.Proofs.YtbhbhlfkdlfimaaGreatDoor Go Go.RowKit Go.Proofs Go.Sort Go.Lib
theorem ju:(Tryz.prog.info? 3).map (fun i=>(i.zero,i.size,i.bytes))=some (some (.int .i64 0),1,8):=by kernel_rfl
theorem G7:(Tryz.prog.info? 100).map (fun i=>(i.zero,i.size,i.bytes))=some (some (.agg #[.int .i64 0,.int .i64 0,.int .i64 0]),3,24):=by kernel_rfl
theorem Ij {vs:Array Value} {k j:Nat} (hs:vs.size=k*3) (hj:j<k) (a b c:Value) :
  (((vs.setIfInBounds (j*3) a).setIfInBounds (j*3+1) b).setIfInBounds (j*3+2) c).size=k*3∧(((vs.setIfInBounds (j*3) a).setIfInBounds (j*3+1) b).setIfInBounds (j*3+2) c)[j*3]? = some a ∧
  (((vs.setIfInBounds (j*3) a).setIfInBounds (j*3+1) b).setIfInBounds (j*3+2) c)[j*3+1]? = some b∧(((vs.setIfInBounds (j*3) a).setIfInBounds (j*3+1) b).setIfInBounds (j*3+2) c)[j*3+2]? = some c ∧
  ∀ m,m<j*3→(((vs.setIfInBounds (j*3) a).setIfInBounds (j*3+1) b).setIfInBounds (j*3+2) c)[m]? = vs[m]? := by
 refine ⟨by simp [hs],?_,?_,?_,fun m hm => ?_⟩
 ·rw [Array.getElem?_setIfInBounds,if_neg (by omega),Array.getElem?_setIfInBounds,if_neg (by omega),Array.getElem?_setIfInBounds,if_pos rfl,if_pos (by omega)]
 ·rw [Array.getElem?_setIfInBounds,if_neg (by omega),Array.getElem?_setIfInBounds,if_pos rfl,if_pos (by simp;omega)]
 ·rw [Array.getElem?_setIfInBounds,if_pos rfl,if_pos (by simp;omega)]
 ·rw [Array.getElem?_setIfInBounds,if_neg (by omega),Array.getElem?_setIfInBounds,if_neg (by omega),Array.getElem?_setIfInBounds,if_neg (by omega)]
def Pz (W:World) (P k j:Nat) (g:Nat→Pn):Prop:=∃ vs:Array Value,Blk W P vs∧vs.size=k*3∧∀ i,i<j→vs[i*3]? = some (.int .i64 (g i).place)∧vs[i*3+1]? = some (.int .i64 (g i).size)∧vs[i*3+2]? = some (.int .i64 (g i).rem)
theorem DS (n:Nat) (ws:List Nat) (s0:0<ws.sum):an (fun i=>(pnQ n ws.sum ws i).size) ws.length≤n:=by
 have h:∀ j,an (fun i=>(pnQ n ws.sum ws i).size) j*ws.sum≤n*an (fun i=>ws[i]?.getD 0) j:=fun j=>by
  induction j with
  | zero=>simp [an]
  | succ j ih =>
   show (_+(pnQ n ws.sum ws j).size)*ws.sum≤n*(_+ws[j]?.getD 0)
   rw [Nat.add_mul,Nat.mul_add]
   exact Nat.add_le_add ih (Nat.div_mul_le_self _ _)
 have e:=cZ 0 (fun x:Nat=>x) ws
 rw [show ws.map (fun x:Nat=>x)=ws from List.map_id ws] at e
 have k:=h ws.length
 rw [←e] at k
 exact Nat.le_of_mul_le_mul_right k s0
theorem G8 (n:Nat) (ws:List Nat):((pns n ws.sum ws).map (·.size)).sum=an (fun i=>(pnQ n ws.sum ws i).size) ws.length:=by
 rw [cZ pdQ (fun p:Pn=>p.size)]
 unfold pns
 rw [List.length_map,List.length_range]
 exact cw _ fun j hj=>by rw [List.getElem?_map,List.getElem?_range hj];rfl
theorem Ht {n s:Nat} {ws:List Nat} {j:Nat} (h:j<ws.length):pat (pns n s ws) j=pnQ n s ws j:=by
 unfold pat pns;rw [List.getElem?_map,List.getElem?_range h];rfl
theorem Pz.pl {W:World} {P k n s:Nat} {ws:List Nat} (hk:k=ws.length) (h:Pz W P k k (pnQ n s ws)):Pl W P (pns n s ws):=by
 obtain ⟨vs,hb,hz,hc⟩:=h
 refine ⟨hb.lt,fun j hj => ?_⟩
 have hj2:j<k:=by rw [hk];simpa [pns] using hj
 rw [Ht (by omega)]
 have c:=hc j hj2
 exact ⟨hb.cell _ _ c.1,hb.cell _ _ c.2.1,hb.cell _ _ c.2.2⟩
theorem Pz.free {W:World} {P k j:Nat} {g:Nat→Pn} (h:Pz W P k j g) (i:Nat):W.frozen? ⟨P,i,none⟩=false:=by
 obtain ⟨vs,hb,_⟩:=h;exact hb.free i
structure Plc (n:Nat) (ws:List Nat) (L:List Pn):Prop where
 len:L.length=ws.length
 lt:∀ i,i<ws.length→(pat L i).place<ws.length
 sz:∀ i,i<ws.length→(pat L i).size≤n*1000
 inj:∀ i m,i<ws.length→m<ws.length→(pat L i).place=(pat L m).place→i=m
 onto:∀ p,p<ws.length→∃ m,m<ws.length∧(pat L m).place=p
theorem Hu {n s:Nat} {ws:List Nat} {L:List Pn} (hp:L.Perm (pns n s ws)) (hf:∀ j,j<ws.length→ws[j]?.getD 0≤1000):Plc n ws L:=by
 have hlen:L.length=ws.length:=by rw [hp.length_eq];simp [pns]
 have pa:∀ i,i<ws.length→L[i]? = some (pat L i):=fun i hi=>by unfold pat;rw [List.getElem?_eq_getElem (by omega)];rfl
 have hm:∀ i,i<ws.length→∃ q,q<ws.length∧pnQ n s ws q=pat L i:=fun i hi=>by
  have h1:pat L i∈L:=List.mem_of_getElem? (pa i hi)
  obtain ⟨q,hq,e⟩:=List.mem_map.1 (hp.mem_iff.1 h1)
  exact ⟨q,List.mem_range.1 hq,e⟩
 have hpl:(L.map (·.place)).Perm (List.range ws.length):=by
  have:=hp.map (·.place)
  unfold pns at this
  rw [List.map_map] at this
  have e:((fun x:Pn=>x.place) ∘ pnQ n s ws)=id:=rfl
  rw [e,List.map_id] at this
  exact this
 have hnd:(L.map (·.place)).Nodup:=hpl.nodup_iff.2 List.nodup_range
 refine ⟨hlen,fun i hi => ?_,fun i hi => ?_,fun i m hi hm' e => ?_,fun p hp' => ?_⟩
 ·obtain ⟨q,hq,e⟩:=hm i hi;rw [←e];exact hq
 ·obtain ⟨q,hq,e⟩:=hm i hi;rw [←e]
  exact Nat.le_trans (Nat.div_le_self _ _) (Nat.mul_le_mul_left _ (hf q hq))
 ·have k1:i<(L.map (·.place)).length:=by simpa [hlen] using hi
  have k2:m<(L.map (·.place)).length:=by simpa [hlen] using hm'
  have h1:(L.map (·.place))[i]=(pat L i).place:=by
   rw [List.getElem_map];congr 1;unfold pat;rw [List.getElem?_eq_getElem (by omega)];rfl
  have h2:(L.map (·.place))[m]=(pat L m).place:=by
   rw [List.getElem_map];congr 1;unfold pat;rw [List.getElem?_eq_getElem (by omega)];rfl
  exact (List.getElem_inj hnd (h₀:=k1) (h₁:=k2)).1 (by rw [h1,h2,e])
 ·obtain ⟨p',hp1,rfl⟩:=List.mem_map.1 (hpl.mem_iff.2 (List.mem_range.2 hp'))
  obtain ⟨j,hj,e⟩:=List.getElem_of_mem hp1
  exact ⟨j,by omega,by unfold pat;rw [List.getElem?_eq_getElem hj];simp [e]⟩
def Oz (W:World) (O k i a:Nat) (L:List Pn):Prop:=∃ vs:Array Value,Blk W O vs∧vs.size=k∧(∀ m,m<k→∃ x:Nat,vs[m]? = some (.int .i64 x))∧∀ m,m<i→vs[(pat L m).place]? = some (.int .i64 ((pat L m).size+one a m:Nat))
theorem Oz.done {W:World} {O k a n:Nat} {ws:List Nat} {L:List Pn} (hk:k=ws.length) (hp:Plc n ws L) (h:Oz W O k k a L):∃ F:List Nat,F.length=ws.length∧Il W O k (fun j=>F[j]?.getD 0)∧∀ j,j<L.length→F[(pat L j).place]?.getD 0=(pat L j).size+one a j:=by
 obtain ⟨vs,hb,hz,hx,hd⟩:=h
 have hF:∀ m,m<k→vs[m]? = some (.int .i64 (((List.range k).map fun m=>intOf (vs[m]?.getD (.bool true)) |>.toNat)[m]?.getD 0:Nat)):=fun m hm=>by
  obtain ⟨x,e⟩:=hx m hm
  rw [List.getElem?_map,List.getElem?_range hm]
  simp [e,intOf]
 refine ⟨(List.range k).map fun m=>intOf (vs[m]?.getD (.bool true)) |>.toNat,by simp [hk],⟨hb.lt,fun j hj=>hb.cell _ _ (hF j hj)⟩,fun j hj => ?_⟩
 rw [hp.len] at hj
 have h1:=hF _ (by rw [hk];exact hp.lt j hj)
 rw [hd j (by omega)] at h1
 simp only [Option.some.injEq,Value.int.injEq,true_and,Int.natCast_inj] at h1
 exact h1.symm
theorem Oz.step {W:World} {D k m a:Nat} {vs vs':Array Value} {L:List Pn} {p:Pn} (hE:pat L m=p) (hb:Blk W D vs') (hz:vs'.size=k) (hv:vs'[p.place]? = some (.int .i64 (p.size+one a m:Nat))) (ho:∀ i,i≠p.place→vs'[i]? = vs[i]?)
  (hx:∀ m,m<k→∃ x:Nat,vs[m]? = some (.int .i64 x)) (hd:∀ i,i<m→vs[(pat L i).place]? = some (.int .i64 ((pat L i).size+one a i:Nat))) (hq:∀ i,i<m→(pat L i).place≠p.place):Oz W D k (m+1) a L:=by
 refine ⟨vs',hb,hz,fun i hi => ?_,fun i hi => ?_⟩
 ·by_cases e:i=p.place
  ·rw [e];exact ⟨_,hv⟩
  ·rw [ho i e];exact hx i hi
 ·rcases Nat.lt_or_eq_of_le (Nat.le_of_lt_succ hi) with l | rfl
  ·rw [ho _ (hq i l)];exact hd i l
  ·rw [hE];exact hv
theorem Pl.below {W W':World} {b D:Nat} {l:List Pn} (h:Pl W b l) (g:RowKit.Below D W W') (hb:b<D):Pl W' b l :=
 ⟨Nat.lt_of_lt_of_le h.lt g.size,fun j hj=>⟨(g.cell (p:=⟨b,j*3,none⟩) hb).trans (h.at_ j hj).1,(g.cell (p:=⟨b,j*3+1,none⟩) hb).trans (h.at_ j hj).2.1,(g.cell (p:=⟨b,j*3+2,none⟩) hb).trans (h.at_ j hj).2.2⟩⟩
theorem G0 (n s b k c:Nat) (ws:List Nat) (w:World) (hk:k=ws.length) (k10:k≤10) (hn:n≤1000) (hs:s=ws.sum) (s0:0<s) (h:Il w b k (fun j=>ws[j]?.getD 0)) (hf:∀ j,j<k→ws[j]?.getD 0≤1000) :
  Calls Tryz.prog 22 #[.int .i64 n,.slice (some ⟨b,0,none⟩) k c,.int .i64 s] w fun e W'=>∃ o F,e = .returned (.slice (some ⟨o,0,none⟩) k k)∧Il W' o k (fun j=>F[j]?.getD 0)∧Shr n ws F∧Below w.heap.size w W':=by
 have bd:∀ j,j≤k→an (fun i=>(pnQ n s ws i).size) j≤j*1000000:=fun j=>by
  induction j with
  | zero=>intro _;exact Nat.zero_le _
  | succ j ih =>
   intro hj
   have h1:=ih (by omega)
   have h2:(pnQ n s ws j).size≤1000000:=Nat.le_trans (Nat.div_le_self _ _) (Nat.mul_le_mul hn (hf j (by omega)))
   show _+(pnQ n s ws j).size≤_
   omega
 have O:=Ha (Hb h.lt (Hb h.c (Hb hf bd)));clear h hf bd
 have HH:=Ha (Hb hk hs);clear hk hs
 obtain ⟨i1,hi,hz0,hz1,hz2⟩:=info_parts G7
 have hmk:∀ W,(Instr.makeSlice 98 (.int .i64 k) (.int .i64 k)).run Tryz.prog W = .ok (.slice (some ⟨W.heap.size,0,none⟩) k k) (W.alloc (.cells (madeCells #[.int .i64 0,.int .i64 0,.int .i64 0] (k*3)) 100)):=fun W=>by
  have r:=run_make (P:=Tryz.prog) W 98 100 i1 _ Tryz.underlying98 hi hz0 .i64 .i64 k k (by omega) (Int.le_refl _) (by rw [hz2];omega) (by omega)
  rw [hz1] at r
  simpa [Value.cells] using r
 have hB0:=Blk.new w (madeCells #[.int .i64 0,.int .i64 0,.int .i64 0] (k*3)) 100
 have HP:=Ha (Hb (show Pz (w.alloc (.cells (madeCells #[.int .i64 0,.int .i64 0,.int .i64 0] (k*3)) 100)) w.heap.size k 0 (pnQ n s ws) from ⟨_,hB0,size_madeCells _ _,fun i hi=>by omega⟩) ((Below.refl _ w).alloc (Nat.le_refl _) (.cells (madeCells #[.int .i64 0,.int .i64 0,.int .i64 0] (k*3)) 100)))
 clear hB0 hi hz0 hz1 hz2
 go_enter Tryz.func22,Tryz.ntmps22
 go_wp2_with fail
 clear hmk
 generalize w.alloc (.cells (madeCells #[.int .i64 0,.int .i64 0,.int .i64 0] (k*3)) 100)=W0 at *
 generalize hP:w.heap.size=P at *
 have HK:=Ha hP;clear hP
 go_loopw [8,20] (fun x i wr=>∃ j:Nat,x = .int .i64 ((n:Int) - an (fun i=>(pnQ n s ws i).size) j)∧i = .int .i64 j∧j≤k∧Hid (Pz wr P k j (pnQ n s ws)∧Below P w wr)) (fun _ i _=>k - (intOf i).toNat)
 case atStart=>exact ⟨0,by simp [an],rfl,by omega,HP⟩
 case round =>
  clear HP
  obtain ⟨j,rfl,rfl,hj,HI⟩:=hrel
  by_cases hlt:j<k
  ·have hz:(j:Int)<k:=by omega
   have d0:=(HI.out.2.cell (p:=⟨b,j,none⟩) O.out.1).trans (O.out.2.1 j hlt)
   have hx:=O.out.2.2.1 j hlt
   have hg:pnQ n s ws j=⟨j,n*(ws[j]?.getD 0) / s,n*(ws[j]?.getD 0) % s⟩:=rfl
   generalize ws[j]?.getD 0=x at *
   obtain ⟨vs,hvs,hsz,hdone⟩:=HI.out.1
   have HV:=Ha (Hb hvs (Hb hsz (Hb hdone HI.out.2)));clear hdone HI
   have l0:j*3<vs.size:=by omega
   have l1:j*3+1<vs.size:=by omega
   have l2:j*3+2<vs.size:=by omega
   have c0:=hvs.cell (j*3) _ (Array.getElem?_eq_getElem l0)
   have c1:=hvs.cell (j*3+1) _ (Array.getElem?_eq_getElem l1)
   have c2:=hvs.cell (j*3+2) _ (Array.getElem?_eq_getElem l2)
   have f0:=hvs.free (j*3)
   have f1:=hvs.free (j*3+1)
   have f2:=hvs.free (j*3+2)
   clear hvs hsz
   generalize vs[j*3]=u0 at *
   generalize vs[j*3+1]=u1 at *
   generalize vs[j*3+2]=u2 at *
   have nx:n*x≤1000000:=Nat.mul_le_mul hn hx
   have e1:(n:Int)*(x:Int)=((n*x:Nat):Int):=(Int.natCast_mul n x).symm
   have w1:IntKind.i64.wrap ((n:Int)*(x:Int))=((n*x:Nat):Int):=by rw [e1,IntKind.wrap_i64];omega
   have HG:=Ha hg;clear hg e1
   generalize n*x=t at *
   have q1:((t / s:Nat):Int)=(t:Int) / (s:Int):=Int.natCast_ediv _ _
   have q2:((t % s:Nat):Int)=(t:Int) % (s:Int):=Int.natCast_emod _ _
   have ql:t / s≤1000000:=Nat.le_trans (Nat.div_le_self _ _) nx
   have w3:0≤(t:Int) / (s:Int):=Int.ediv_nonneg (by omega) (by omega)
   have w4:(t:Int) / (s:Int)≤1000000:=by rw [←q1];clear q1 q2;generalize t / s=qq at ql;omega
   have hb1:¬ s=0:=by omega
   have w6:(t:Int).tmod (s:Int)=(t:Int) % (s:Int):=Int.tmod_eq_emod_of_nonneg (by omega)
   have w5:IntKind.i64.wrap ((t:Int) / (s:Int))=(t:Int) / (s:Int):=by clear HG;generalize (t:Int) / (s:Int)=z at *; rw [IntKind.wrap_i64];omega
   have Q:=Ha (Hb q1 (Hb q2 ql))
   clear q1 q2 ql
   clear l0 l1 l2
   go_wp2_with fail
   go_region_held3 (fun w'=>w'.frozen? ⟨P,j*3,none⟩=false∧w'.frozen? ⟨P,j*3+1,none⟩=false∧w'.frozen? ⟨P,j*3+2,none⟩=false) (first | exact ⟨f0,f1,f2⟩ | (go_keep;done)) (fail)
   have hst:=((HV.out.1.set (j*3) (.int .i64 j)).set (j*3+1) (.int .i64 ((t:Int) / (s:Int)))).set (j*3+2) (.int .i64 ((t:Int) % (s:Int)))
   have hbl:=(((HV.out.2.2.2.setCell (p:=⟨P,j*3,none⟩) (Nat.le_refl _) (.int .i64 j)).setCell (p:=⟨P,j*3+1,none⟩) (Nat.le_refl _) (.int .i64 ((t:Int) / (s:Int)))).setCell (p:=⟨P,j*3+2,none⟩) (Nat.le_refl _) (.int .i64 ((t:Int) % (s:Int)))).drew
   obtain ⟨g1,g2,g3,g4,g5⟩:=Ij HV.out.2.1 hlt (.int .i64 j) (.int .i64 ((t:Int) / (s:Int))) (.int .i64 ((t:Int) % (s:Int)))
   have d1:=Blk.drew hst |>.cell (j*3+1) _ g3
   have HW:=Ha (Hb (Blk.drew hst) (Hb g1 (Hb g2 (Hb g3 (Hb g4 (Hb g5 hbl))))))
   clear hst hbl g1 g2 g3 g4 g5 c0 c1 c2 f0 f1 f2 d0
   generalize (((wr.setCell ⟨P,j*3,none⟩ (.int .i64 j)).setCell ⟨P,j*3+1,none⟩ (.int .i64 ((t:Int) / (s:Int)))).setCell ⟨P,j*3+2,none⟩ (.int .i64 ((t:Int) % (s:Int)))).drew=W3 at *
   have S1:=O.out.2.2.2 j (by omega)
   have hw7:IntKind.i64.wrap ((n:Int) - (an (fun i=>(pnQ n s ws i).size) j:Nat) - (t:Int) / (s:Int))=(n:Int) - (an (fun i=>(pnQ n s ws i).size) j:Nat) - (t:Int) / (s:Int):=by
    clear HG
    generalize (t:Int) / (s:Int)=z at *
    generalize an (fun i=>(pnQ n s ws i).size) j=y at *
    rw [IntKind.wrap_i64];omega
   have hS:(an (fun i=>(pnQ n s ws i).size) (j+1):Nat)=(an (fun i=>(pnQ n s ws i).size) j:Nat)+t / s:=by
    show _+(pnQ n s ws j).size=_
    rw [HG.out]
   have HS:=Ha hS;clear hS S1
   go_wp2
   go_roundw
   case rel =>
    refine ⟨j+1,?_,by go_num,by omega,⟨_,HW.out.1,HW.out.2.1,fun i hi => ?_⟩,HW.out.2.2.2.2.2.2⟩
    ·rw [HS.out,←Q.out.1,Int.natCast_add]
     congr 1;omega
    ·rcases Nat.lt_or_eq_of_le (Nat.le_of_lt_succ hi) with l | rfl
     ·have k:=HV.out.2.2.1 i l
      exact ⟨(HW.out.2.2.2.2.2.1 _ (by omega)).trans k.1,(HW.out.2.2.2.2.2.1 _ (by omega)).trans k.2.1,(HW.out.2.2.2.2.2.1 _ (by omega)).trans k.2.2⟩
     ·rw [HG.out]
      refine ⟨HW.out.2.2.1,?_,?_⟩
      ·rw [HW.out.2.2.2.1,←Q.out.1]
      ·rw [HW.out.2.2.2.2.1,←Q.out.2.1]
   case measure=>simp [intOf];omega
  ·obtain rfl:j=k:=by omega
   have hz:¬ (j:Int)<j:=by omega
   have hw:=HH.out.1
   obtain rfl:s=ws.sum:=HH.out.2
   have hsum:=DS n ws s0
   rw [←hw] at hsum
   obtain ⟨a,ha⟩:∃ a,n=an (fun i=>(pnQ n ws.sum ws i).size) j+a:=⟨n - an (fun i=>(pnQ n ws.sum ws i).size) j,by omega⟩
   have hl:(n:Int) - (an (fun i=>(pnQ n ws.sum ws i).size) j:Nat)=(a:Int):=by omega
   rw [hl]
   clear hsum hl
   have hpl:=Pz.pl hw HI.out.1
   have hfr:=Pz.free HI.out.1
   have HA:=Ha (Hb ha hw);clear ha hw
   go_wp2_with fail
   refine (C7 (pns n ws.sum ws) P j j wr (by unfold pns;rw [List.length_map,List.length_range];exact HA.out.2) (by omega) hpl hfr).mono ?_
   rintro e w1 ⟨rfl,L,hp,ho,hL,hg⟩
   have hb:=HI.out.2.grown hg (by have:=HK.out;have:=HI.out.2.size;omega) (fun k e=>by cases e;exact Nat.le_refl _)
   have hq:=Hu hp (by rw [←HA.out.2];exact O.out.2.2.1)
   have HQ:=Ha (Hb hp (Hb ho (Hb hL (Hb hb hq))));clear hp ho hL hg hb hq hpl hfr HI
   obtain ⟨i2,hi,hz0,hz1,hz2⟩:=info_parts ju
   have hmk:∀ W,(Instr.makeSlice 25 (.int .i64 j) (.int .i64 j)).run Tryz.prog W = .ok (.slice (some ⟨W.heap.size,0,none⟩) j j) (W.alloc (.cells (madeCells #[.int .i64 0] (j*1)) 3)):=fun W=>by
    have r:=run_make (P:=Tryz.prog) W 25 3 i2 _ Tryz.underlying25 hi hz0 .i64 .i64 j j (by omega) (Int.le_refl _) (by rw [hz2];omega) (by omega)
    rw [hz1] at r
    simpa [Value.cells] using r
   clear hi hz0 hz1 hz2
   go_wp2_with fail
   clear hmk
   have hP1:P<w1.heap.size:=HQ.out.2.2.1.lt
   have hB0:=Blk.new w1 (madeCells #[.int .i64 0] j) 3
   have H2:=Ha (Hb (show Oz (w1.alloc (.cells (madeCells #[.int .i64 0] j) 3)) w1.heap.size j 0 a L from ⟨_,hB0,by rw [size_madeCells],fun m hm=>⟨0,by simp [madeCells,hm,Nat.mod_one]⟩,fun m hm=>by omega⟩) (Hb (HQ.out.2.2.1.next ((RowKit.Below.refl _ w1).alloc (Nat.le_refl _) (.cells (madeCells #[.int .i64 0] j) 3))) (HQ.out.2.2.2.1.alloc (Nat.le_of_lt hP1) (.cells (madeCells #[.int .i64 0] j) 3))))
   clear hB0
   have HP1:=Ha hP1;clear hP1
   generalize w1.alloc (.cells (madeCells #[.int .i64 0] j) 3)=W1 at *
   generalize hD:w1.heap.size=D at *
   have HD:=Ha hD;clear hD
   go_loopw [55] (fun i wr=>∃ m:Nat,i = .int .i64 m∧m≤j∧Hid (Oz wr D j m a L∧Pl wr P L∧RowKit.Below P w wr∧D<wr.heap.size)) (fun i _=>j - (intOf i).toNat)
   case atStart=>exact ⟨0,rfl,by omega,H2.out.1,H2.out.2.1,H2.out.2.2,by obtain ⟨vs,hb,_⟩:=H2.out.1;exact hb.lt⟩
   case round =>
    clear H2
    obtain ⟨m,rfl,hm,HI⟩:=hrel
    by_cases hlt:m<j
    ·have hz:(m:Int)<j:=by omega
     have hml:m<L.length:=by have:=HA.out.2;have:=HQ.out.2.2.2.2.len;omega
     have d:=HI.out.2.1.at_ m hml
     have d0:=d.1
     have d1:=d.2.1
     have d2:=d.2.2
     clear d
     have hpl:=HQ.out.2.2.2.2.lt m (by have:=HA.out.2;omega)
     rw [←HA.out.2] at hpl
     have hsz:=HQ.out.2.2.2.2.sz m (by have:=HA.out.2;omega)
     have hsz2:(pat L m).size≤1000000:=Nat.le_trans hsz (Nat.mul_le_mul_right 1000 hn)
     clear hsz hml
     obtain ⟨vs,hvs,hvz,hvx,hvd⟩:=HI.out.1
     have HV:=Ha (Hb hvs (Hb hvz (Hb hvx (Hb hvd HI.out.2))));clear hvs hvz hvx hvd HI
     generalize hpe:pat L m=p at *
     obtain ⟨pl,ps,pr⟩:=p
     replace hpl:pl<j:=hpl
     replace hsz2:ps≤1000000:=hsz2
     have HE:=Ha hpe;clear hpe
     go_upto_region 13 with fail
     have hPG:P<wr.heap.size:=HV.out.2.2.2.2.1.lt
     have K:=Blk.new wr #[.int .i64 pl,.int .i64 ps,.int .i64 pr] 100
     have e0:=K.cell 0 (.int .i64 pl) rfl
     have e1:=K.cell 1 (.int .i64 ps) rfl
     have KO:=HV.out.1.alloc (.cells #[.int .i64 pl,.int .i64 ps,.int .i64 pr] 100)
     have l0:pl<vs.size:=by rw [HV.out.2.1];exact hpl
     have c0:=KO.cell pl _ (Array.getElem?_eq_getElem l0)
     have f0:=KO.free pl
     have g0:=K.free 0
     have g1:=K.free 1
     have H4:=Ha (Hb K (Hb KO (Hb (HV.out.2.2.2.2.1.next ((RowKit.Below.refl _ wr).alloc (Nat.le_refl _) (.cells #[.int .i64 pl,.int .i64 ps,.int .i64 pr] 100))) (Hb (HV.out.2.2.2.2.2.1.alloc (Nat.le_of_lt hPG) (.cells #[.int .i64 pl,.int .i64 ps,.int .i64 pr] 100)) HV.out.2.2.2.2.2.2))))
     clear K KO hPG d0 d1 d2
     generalize vs[pl]=u0 at *
     clear l0
     generalize wr.alloc (.cells #[.int .i64 pl,.int .i64 ps,.int .i64 pr] 100)=W2 at *
     generalize wr.heap.size=G at *
     go_upto_region 14 with fail
     have hne:G≠D:=by have:=H4.out.2.2.2.2;omega
     have hPD:P<D:=HP1.out
     have KD:=H4.out.2.1.set pl (.int .i64 ps)
     have KG:=H4.out.1.other (p:=⟨D,pl,none⟩) hne (.int .i64 ps)
     have BD:=H4.out.2.2.2.1.setCell (p:=⟨D,pl,none⟩) (Nat.le_of_lt hPD) (.int .i64 ps)
     have PD:=H4.out.2.2.1.below ((RowKit.Below.refl D W2).setCell (p:=⟨D,pl,none⟩) (Nat.le_refl _) (.int .i64 ps)) hPD
     have hv1:(vs.setIfInBounds pl (.int .i64 ps))[pl]? = some (.int .i64 ps):=by rw [Array.getElem?_setIfInBounds,if_pos rfl,if_pos (by rw [HV.out.2.1];exact hpl)]
     have hq:∀ i,i<m→(pat L i).place≠pl:=fun i hi e=>by
      have k1:=HQ.out.2.2.2.2.inj i m (by have:=HA.out.2;omega) (by have:=HA.out.2;omega) (by rw [HE.out];exact e)
      omega
     have H5:=Ha (Hb KD (Hb PD (Hb BD (Hb hv1 hq))))
     have e0:=KG.cell 0 (.int .i64 pl) rfl
     have c0:=KD.cell pl _ hv1
     have f0:=KD.free pl
     clear e1 g0 g1 KD KG BD PD hv1 hq hne hPD
     generalize W2.setCell ⟨D,pl,none⟩ (.int .i64 ps)=W3 at *
     by_cases hma:m<a
     ·have hg:(m:Int)<a:=by omega
      have hw:IntKind.i64.wrap ((ps:Int)+1)=(ps:Int)+1:=by rw [IntKind.wrap_i64];omega
      go_wp2_with fail
      go_roundw
      case rel =>
       have k1:=H5.out.1.set pl (.int .i64 ((ps:Int)+1))
       have k2:=H5.out.2.2.1.setCell (p:=⟨D,pl,none⟩) (Nat.le_of_lt HP1.out) (.int .i64 ((ps:Int)+1))
       have k3:=H5.out.2.1.below ((RowKit.Below.refl D W3).setCell (p:=⟨D,pl,none⟩) (Nat.le_refl _) (.int .i64 ((ps:Int)+1))) HP1.out
       refine ⟨m+1,by go_num,by omega,Ha ⟨Oz.step HE.out k1 (by simp [HV.out.2.1]) ?_ (fun i hi => ?_) HV.out.2.2.1 HV.out.2.2.2.1 H5.out.2.2.2.2,k3,k2,k1.lt⟩⟩
       ·rw [Array.getElem?_setIfInBounds,if_pos rfl,if_pos (by rw [Array.size_setIfInBounds,HV.out.2.1];exact hpl),one,if_pos hma];rfl
       ·show ((vs.setIfInBounds pl _).setIfInBounds pl _)[i]? = _
        have hi':pl≠i:=fun e=>hi e.symm
        rw [Array.getElem?_setIfInBounds,if_neg hi',Array.getElem?_setIfInBounds,if_neg hi']
      case measure=>simp [intOf];omega
     ·have hg:¬ (m:Int)<a:=by omega
      go_wp2_with fail
      go_roundw
      case rel =>
       refine ⟨m+1,by go_num,by omega,Ha ⟨Oz.step HE.out H5.out.1 (by simp [HV.out.2.1]) ?_ (fun i hi => ?_) HV.out.2.2.1 HV.out.2.2.2.1 H5.out.2.2.2.2,H5.out.2.1,H5.out.2.2.1,H5.out.1.lt⟩⟩
       ·rw [H5.out.2.2.2.1,one,if_neg hma];rfl
       ·show (vs.setIfInBounds pl _)[i]? = _
        have hi':pl≠i:=fun e=>hi e.symm
        rw [Array.getElem?_setIfInBounds,if_neg hi']
      case measure=>simp [intOf];omega
    ·obtain rfl:m=j:=by omega
     have hz:¬ (m:Int)<m:=by omega
     go_wp2
     go_ret
     obtain ⟨F,hF,hI,hE⟩:=Oz.done HA.out.2 HQ.out.2.2.2.2 HI.out.1
     exact ⟨D,rfl,F,hI,Hr s0 HQ.out.1 HQ.out.2.1 (by rw [G8,←HA.out.2];exact HA.out.1) hF hE,HI.out.2.2.1.mono (by have:=HK.out;omega)⟩
end T
namespace T
open Go.RowKit
theorem G1 (n:Nat) (w:World) (hn:n≤1000) :
  Calls Tryz.prog 20 #[.int .i64 n,.slice none 0 0] w fun e W'=>e = .returned (.int .i64 0)∧Below w.heap.size w W':=by
 have O:=Ha (fun W=>Hs n W hn);clear hn
 go_enter Tryz.func20,Tryz.ntmps20
 go_wp2_with fail
 refine (O.out _).mono ?_
 rintro e w1 ⟨rfl,b1⟩
 have HB:=Ha b1;clear b1
 go_wp2
 go_loopw [17] (fun i wr=>i = .int .i64 0∧Hid (Below w.heap.size w wr)) (fun _ _=>0)
 case atStart=>exact ⟨rfl,HB⟩
 case round =>
  clear HB
  obtain ⟨rfl,HB⟩:=hrel
  go_wp2
  go_ret
  exact ⟨rfl,HB.out⟩
theorem Hv (w:World):Calls Tryz.prog 21 #[.slice none 0 0] w fun e W'=>e = .returned (.int .i64 0)∧Below w.heap.size w W':=by
 go_enter Tryz.func21,Tryz.ntmps21
 go_wp2
 go_loopw [3,8] (fun s i wr=>s = .int .i64 0∧i = .int .i64 0∧Hid (Below w.heap.size w wr)) (fun _ _ _=>0)
 case atStart=>exact ⟨rfl,rfl,Below.refl _ _⟩
 case round =>
  obtain ⟨rfl,rfl,HB⟩:=hrel
  go_wp2
  go_ret
  exact ⟨rfl,HB.out⟩
theorem ii (n k c:Nat) (p:Option Addr) (w:World)
  (hc:∀ W,Below w.heap.size w W→Calls Tryz.prog 20 #[.int .i64 n,.slice p k c] W fun e W'=>e = .returned (.int .i64 0)∧Below W.heap.size W W')
  (hs:∀ W,Below w.heap.size w W→Calls Tryz.prog 21 #[.slice p k c] W fun e W'=>e = .returned (.int .i64 0)∧Below W.heap.size W W') :
  Calls Tryz.prog 6 #[.int .i64 n,.slice p k c] w fun e W'=>e = .returned (.tuple #[.slice none 0 0,.int .i64 12])∧Below w.heap.size w W':=by
 have O:=Ha (Hb hc hs);clear hc hs
 go_enter Tryz.func6,Tryz.ntmps6
 go_wp2_with fail
 refine (O.out.1 _ (Below.refl _ _)).mono ?_
 rintro e w1 ⟨rfl,b1⟩
 have HB:=Ha b1;clear b1
 go_wp2_with fail
 refine (O.out.2 _ HB.out).mono ?_
 rintro e w1 ⟨rfl,b⟩
 replace HB:=Ha (HB.out.trans (b.mono HB.out.size));clear b
 go_wp2_with fail
 go_ret2
 exact ⟨rfl,HB.out⟩
theorem od (n k c s:Nat) (p:Option Addr) (Q:Value→World→Prop) (w:World) (s0:0<s)
  (hc:∀ W,Below w.heap.size w W→Calls Tryz.prog 20 #[.int .i64 n,.slice p k c] W fun e W'=>e = .returned (.int .i64 0)∧Below W.heap.size W W')
  (hs:∀ W,Below w.heap.size w W→Calls Tryz.prog 21 #[.slice p k c] W fun e W'=>e = .returned (.int .i64 s)∧Below W.heap.size W W')
  (hg:∀ W,Below w.heap.size w W→Calls Tryz.prog 22 #[.int .i64 n,.slice p k c,.int .i64 s] W fun e W'=>∃ v,e = .returned v∧Q v W') :
  Calls Tryz.prog 6 #[.int .i64 n,.slice p k c] w fun e W'=>∃ v,e = .returned (.tuple #[v,.int .i64 0])∧Q v W':=by
 have O:=Ha (Hb hc (Hb hs hg));clear hc hs hg
 have hz:((s:Int)==0)=false:=by rw [beq_eq_false_iff_ne];omega
 go_enter Tryz.func6,Tryz.ntmps6
 go_wp2_with fail
 refine (O.out.1 _ (Below.refl _ _)).mono ?_
 rintro e w1 ⟨rfl,b1⟩
 have HB:=Ha b1;clear b1
 go_wp2_with fail
 refine (O.out.2.1 _ HB.out).mono ?_
 rintro e w1 ⟨rfl,b⟩
 replace HB:=Ha (HB.out.trans (b.mono HB.out.size));clear b
 go_wp2_with fail
 refine (O.out.2.2 _ HB.out).mono ?_
 rintro e w1 ⟨v,rfl,q⟩
 have HQ:=Ha q;clear q
 go_wp2
 go_ret2
 exact ⟨v,rfl,HQ.out⟩
theorem rf (ws:List Nat):an (fun j=>ws[j]?.getD 0) ws.length=ws.sum:=by
 have e:=cZ 0 (fun x:Nat=>x) ws
 rw [show ws.map (fun x:Nat=>x)=ws from List.map_id ws] at e
 exact e.symm
structure Gaw (W:World) (p:Option Addr) (k:Nat) (ws:List Nat):Prop where
 len:k=ws.length
 small:∀ j,j<k→ws[j]?.getD 0≤1000
 nil:k=0→p=none
 at_:0<k→∃ b,p=some ⟨b,0,none⟩∧Il W b k (fun j=>ws[j]?.getD 0)
theorem Gaw.next {W W':World} {p:Option Addr} {k:Nat} {ws:List Nat} (h:Gaw W p k ws) (g:Below W.heap.size W W'):Gaw W' p k ws :=
 ⟨h.len,h.small,h.nil,fun k0=>by obtain ⟨b,e,i⟩:=h.at_ k0;exact ⟨b,e,i.next g⟩⟩
theorem G2 (n k c:Nat) (p:Option Addr) (ws:List Nat) (w:World) (hn:n≤1000) (k10:k≤10) (hc:k=0→c=0) (h:Gaw w p k ws) :
  Calls Tryz.prog 6 #[.int .i64 n,.slice p k c] w fun e W'=>(ws.sum=0∧e = .returned (.tuple #[.slice none 0 0,.int .i64 12]) ∨
   0<ws.sum∧∃ o F,e = .returned (.tuple #[.slice (some ⟨o,0,none⟩) k k,.int .i64 0])∧Il W' o k (fun j=>F[j]?.getD 0)∧Shr n ws F)∧Below w.heap.size w W':=by
 rcases Nat.eq_zero_or_pos k with rfl | k0
 ·obtain rfl:=h.nil rfl
  obtain rfl:=hc rfl
  have hw:ws = []:=List.eq_nil_of_length_eq_zero h.len.symm
  subst hw
  exact (ii n 0 0 none w (fun W _=>G1 n W hn) (fun W _=>Hv W)).mono fun e W' ⟨e1,b⟩=>⟨.inl ⟨rfl,e1⟩,b⟩
 ·obtain ⟨b,rfl,hi⟩:=h.at_ k0
  have hS:=fun W (g:Below w.heap.size w W)=>Ic b k c (fun j=>ws[j]?.getD 0) W k10 (hi.next g) h.small
  have hC:=fun W (g:Below w.heap.size w W)=>G6 n b k c (fun j=>ws[j]?.getD 0) W hn k10 (hi.next g) h.small
  have es:an (fun j=>ws[j]?.getD 0) k=ws.sum:=by rw [h.len];exact rf ws
  rw [es] at hS
  rcases Nat.eq_zero_or_pos ws.sum with z | z
  ·rw [z] at hS
   exact (ii n k c _ w hC hS).mono fun e W' ⟨e1,b⟩=>⟨.inl ⟨z,e1⟩,b⟩
  ·refine (od n k c ws.sum _ (fun v W'=>∃ o F,v = .slice (some ⟨o,0,none⟩) k k∧Il W' o k (fun j=>F[j]?.getD 0)∧Shr n ws F∧Below w.heap.size w W') w z hC hS
    (fun W g=>(G0 n ws.sum b k c ws W h.len k10 hn rfl z (hi.next g) h.small).mono fun e W' ⟨o,F,e1,i,s,b⟩=>⟨_,e1,o,F,rfl,i,s,g.trans (b.mono g.size)⟩)).mono ?_
   rintro e W' ⟨v,rfl,o,F,rfl,i,s,b⟩
   exact ⟨.inr ⟨z,o,F,rfl,i,s⟩,b⟩
end T
end Go.Proofs.YtbhbhlfkdlfimaaGreatDoor
