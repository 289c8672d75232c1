/- Parts of the proof of the text YtjdfjgfdbgmbiaaGreatDoorHB39. -/
import Derived.Shelf.SlGeneric
import Derived.Shelf.SlicesE.Clone
import Derived.Shelf.Spec.SlicesGrow
import Derived.Shelf.SlicesQ.IndexFunc
import Derived.Shelf.SlSortCmp.WholeK
import Derived.Ground.SlgnProg
import Derived.Ground.SlgfProg
import Derived.Ground.SlsfProg
import Derived.Ground.Names8Prog
import Derived.Test.YtjdfjgfdbgmbiaaGreatDoorProg
import Derived.Shelf.SlicesE.DeleteFunc
import Derived.Shelf.SlSortCmp.NoneTotal
import Derived.Laws.AppendOwnNone
import Derived.Test.YtjdfjgfdbgmbiaaGreatDoorHB1
import Derived.Test.YtjdfjgfdbgmbiaaGreatDoorHB32
set_option linter.all false
set_option maxRecDepth 100000
set_option maxHeartbeats 8000000
namespace Go.Proofs
open Go.Shelf
def Tryz.laysGrow_ren:Go.Shelf.Ren:=⟨fun | 4=>103 | n=>n,fun | 22=>26 | 25=>50 | 3=>3 | 4=>4 | 9=>9 | 20=>20 | 0=>0 | n=>n,fun | n=>n⟩
theorem Tryz.laysGrow:Go.Proofs.Lays8.n4 Tryz.prog Tryz.laysGrow_ren:={
 mixed:=by kernel_rfl
 f4:=⟨Tryz.f103.name,by decide,Tryz.func103.trans (congrArg some (by kernel_rfl))⟩
 t0:=Tryz.underlying0
 a0:=Tryz.isAgg0
 z0:=Tryz.sizeOf0
 v0:=Tryz.zeroValue0
 t3:=Tryz.underlying3
 a3:=Tryz.isAgg3
 z3:=Tryz.sizeOf3
 v3:=Tryz.zeroValue3
 t4:=Tryz.underlying4
 a4:=Tryz.isAgg4
 z4:=Tryz.sizeOf4
 v4:=Tryz.zeroValue4
 t9:=Tryz.underlying9
 a9:=Tryz.isAgg9
 z9:=Tryz.sizeOf9
 v9:=Tryz.zeroValue9
 t20:=Tryz.underlying20
 a20:=Tryz.isAgg20
 z20:=Tryz.sizeOf20
 v20:=Tryz.zeroValue20
 t22:=Tryz.underlying26
 a22:=Tryz.isAgg26
 z22:=Tryz.sizeOf26
 v22:=Tryz.zeroValue26 }
def Tryz.laysIndexFunc_ren:Go.Shelf.Ren:=⟨fun | 6=>140 | n=>n,fun | 22=>25 | 23=>50 | 25=>141 | 3=>3 | 0=>0 | 4=>4 | n=>n,fun | n=>n⟩
theorem Tryz.laysIndexFunc:Go.Proofs.SlLaysH0.n6 Tryz.prog Tryz.laysIndexFunc_ren:={
 mixed:=by kernel_rfl
 f6:=⟨Tryz.f140.name,by decide,Tryz.func140.trans (congrArg some (by kernel_rfl))⟩
 t0:=Tryz.underlying0
 a0:=Tryz.isAgg0
 z0:=Tryz.sizeOf0
 v0:=Tryz.zeroValue0
 t3:=Tryz.underlying3
 a3:=Tryz.isAgg3
 z3:=Tryz.sizeOf3
 v3:=Tryz.zeroValue3
 t4:=Tryz.underlying4
 a4:=Tryz.isAgg4
 z4:=Tryz.sizeOf4
 v4:=Tryz.zeroValue4
 t22:=Tryz.underlying25
 a22:=Tryz.isAgg25
 z22:=Tryz.sizeOf25
 v22:=Tryz.zeroValue25
 t25:=Tryz.underlying141
 a25:=Tryz.isAgg141
 z25:=Tryz.sizeOf141
 v25:=Tryz.zeroValue141 }
def Tryz.laysContainsFunc_ren:Go.Shelf.Ren:=⟨fun | 8=>116 | 6=>140 | n=>n,fun | 22=>25 | 23=>50 | 25=>141 | 4=>4 | 3=>3 | 0=>0 | n=>n,fun | n=>n⟩
theorem Tryz.laysContainsFunc:Go.Proofs.SlLaysH0.n8 Tryz.prog Tryz.laysContainsFunc_ren:={
 mixed:=by kernel_rfl
 f6:=⟨Tryz.f140.name,by decide,Tryz.func140.trans (congrArg some (by kernel_rfl))⟩
 f8:=⟨Tryz.f116.name,by decide,Tryz.func116.trans (congrArg some (by kernel_rfl))⟩
 t0:=Tryz.underlying0
 a0:=Tryz.isAgg0
 z0:=Tryz.sizeOf0
 v0:=Tryz.zeroValue0
 t3:=Tryz.underlying3
 a3:=Tryz.isAgg3
 z3:=Tryz.sizeOf3
 v3:=Tryz.zeroValue3
 t4:=Tryz.underlying4
 a4:=Tryz.isAgg4
 z4:=Tryz.sizeOf4
 v4:=Tryz.zeroValue4
 t22:=Tryz.underlying25
 a22:=Tryz.isAgg25
 z22:=Tryz.sizeOf25
 v22:=Tryz.zeroValue25
 t25:=Tryz.underlying141
 a25:=Tryz.isAgg141
 z25:=Tryz.sizeOf141
 v25:=Tryz.zeroValue141 }
def Tryz.laysSortFunc_ren:Go.Shelf.Ren:=⟨fun | 6=>117 | 15=>142 | 14=>141 | 28=>186 | 29=>187 | 20=>178 | 21=>179 | 22=>180 | 23=>181 | 24=>182 | 25=>183 | 26=>184 | 27=>185 | 46=>224 | 47=>225 | 48=>226 | 49=>227 | 50=>228 | 57=>251 | n=>n,fun | 22=>25 | 24=>50 | 25=>150 | 3=>3 | 39=>177 | 0=>0 | 53=>233 | 55=>179 | 4=>4 | 46=>226 | 45=>225 | 50=>230 | 5=>5 | 9=>9 | 66=>265 | 70=>268 | 76=>287 | 77=>288 | n=>n,fun | n=>n⟩
theorem Tryz.laysSortFunc:Go.Proofs.SlLaysF0.n6 Tryz.prog Tryz.laysSortFunc_ren:={
 mixed:=by kernel_rfl
 f6:=⟨Tryz.f117.name,by decide,Tryz.func117.trans (congrArg some (by kernel_rfl))⟩
 f14:=⟨Tryz.f141.name,by decide,Tryz.func141.trans (congrArg some (by kernel_rfl))⟩
 f15:=Tryz.func142.trans (congrArg some (by kernel_rfl))
 f20:=⟨Tryz.f178.name,by decide,Tryz.func178.trans (congrArg some (by kernel_rfl))⟩
 f21:=⟨Tryz.f179.name,by decide,Tryz.func179.trans (congrArg some (by kernel_rfl))⟩
 f22:=⟨Tryz.f180.name,by decide,Tryz.func180.trans (congrArg some (by kernel_rfl))⟩
 f23:=⟨Tryz.f181.name,by decide,Tryz.func181.trans (congrArg some (by kernel_rfl))⟩
 f24:=⟨Tryz.f182.name,by decide,Tryz.func182.trans (congrArg some (by kernel_rfl))⟩
 f25:=⟨Tryz.f183.name,by decide,Tryz.func183.trans (congrArg some (by kernel_rfl))⟩
 f26:=⟨Tryz.f184.name,by decide,Tryz.func184.trans (congrArg some (by kernel_rfl))⟩
 f27:=⟨Tryz.f185.name,by decide,Tryz.func185.trans (congrArg some (by kernel_rfl))⟩
 f28:=Tryz.func186.trans (congrArg some (by kernel_rfl))
 f29:=Tryz.func187.trans (congrArg some (by kernel_rfl))
 f46:=⟨Tryz.f224.name,by decide,Tryz.func224.trans (congrArg some (by kernel_rfl))⟩
 f47:=Tryz.func225.trans (congrArg some (by kernel_rfl))
 f48:=Tryz.func226.trans (congrArg some (by kernel_rfl))
 f49:=⟨Tryz.f227.name,by decide,Tryz.func227.trans (congrArg some (by kernel_rfl))⟩
 f50:=⟨Tryz.f228.name,by decide,Tryz.func228.trans (congrArg some (by kernel_rfl))⟩
 f57:=⟨Tryz.f251.name,by decide,Tryz.func251.trans (congrArg some (by kernel_rfl))⟩
 t0:=Tryz.underlying0
 a0:=Tryz.isAgg0
 z0:=Tryz.sizeOf0
 v0:=Tryz.zeroValue0
 t3:=Tryz.underlying3
 a3:=Tryz.isAgg3
 z3:=Tryz.sizeOf3
 v3:=Tryz.zeroValue3
 t4:=Tryz.underlying4
 a4:=Tryz.isAgg4
 z4:=Tryz.sizeOf4
 v4:=Tryz.zeroValue4
 t5:=Tryz.underlying5
 a5:=Tryz.isAgg5
 z5:=Tryz.sizeOf5
 v5:=Tryz.zeroValue5
 t9:=Tryz.underlying9
 a9:=Tryz.isAgg9
 z9:=Tryz.sizeOf9
 v9:=Tryz.zeroValue9
 t22:=Tryz.underlying25
 a22:=Tryz.isAgg25
 z22:=Tryz.sizeOf25
 v22:=Tryz.zeroValue25
 t25:=Tryz.underlying150
 a25:=Tryz.isAgg150
 z25:=Tryz.sizeOf150
 v25:=Tryz.zeroValue150
 t39:=Tryz.underlying177
 a39:=Tryz.isAgg177
 z39:=Tryz.sizeOf177
 v39:=Tryz.zeroValue177
 t45:=Tryz.underlying225
 a45:=Tryz.isAgg225
 z45:=Tryz.sizeOf225
 v45:=Tryz.zeroValue225
 t46:=Tryz.underlying226
 a46:=Tryz.isAgg226
 z46:=Tryz.sizeOf226
 v46:=Tryz.zeroValue226
 t50:=Tryz.underlying230
 a50:=Tryz.isAgg230
 z50:=Tryz.sizeOf230
 v50:=Tryz.zeroValue230
 t53:=Tryz.underlying233
 a53:=Tryz.isAgg233
 z53:=Tryz.sizeOf233
 v53:=Tryz.zeroValue233
 t55:=Tryz.underlying179
 a55:=Tryz.isAgg179
 z55:=Tryz.sizeOf179
 v55:=Tryz.zeroValue179
 t66:=Tryz.underlying265
 a66:=Tryz.isAgg265
 z66:=Tryz.sizeOf265
 v66:=Tryz.zeroValue265
 t70:=Tryz.underlying268
 a70:=Tryz.isAgg268
 z70:=Tryz.sizeOf268
 v70:=Tryz.zeroValue268
 t76:=Tryz.underlying287
 a76:=Tryz.isAgg287
 z76:=Tryz.sizeOf287
 v76:=Tryz.zeroValue287
 t77:=Tryz.underlying288
 a77:=Tryz.isAgg288
 z77:=Tryz.sizeOf288
 v77:=Tryz.zeroValue288 }
end Go.Proofs
namespace Go.Proofs.YtjdfjgfdbgmbiaaGreatDoor.T
open Go.Proofs.YtjdfjgfdbgmbiaaGreatDoor Go Go.RowKit Go.Proofs
def nz (t:Tm):Bool:=decide (t.1≠0)
theorem isZero_ok (t:Tm) (w:World):Calls Tryz.prog 115 #[.agg #[.string (strQ t.1),.string (strQ t.2)]] w fun e W'=>e = .returned (.bool (!nz t))∧Below w.heap.size w W' :=
 isZero_any _ _ _ w (by rw [is0Q];unfold nz;by_cases h:t.1=0 <;> simp [h])
theorem pred1 (w:World):PredBelow Tryz.prog 115 #[] (fun x:Tm => .agg (tc x).toArray) (fun x => !nz x) w:=fun W x hb =>
 (isZero_ok x W).mono fun e W' ⟨e1,e2⟩=>⟨e1,hb.trans (e2.mono hb.size)⟩
theorem eg1:∀ args w,(callFunc 115 args).run Tryz.prog w = .ok (.enter 115 args) w:=enters_of Tryz.func115 (by kernel_rfl) rfl
theorem indexFunc_ok (l:List Tm) (b n c:Nat) (w:World) (hn:n=l.length) (h1000:n≤1000) (ht:Tl w b l) :
  Calls Tryz.prog 140 #[.slice (some ⟨b,0,none⟩) n c,.func (.func 115) #[] #[]] w fun e W'=>e = .returned (.int .i64 (Lib.idxBy (fun _ y => !nz y) l default))∧Below w.heap.size w W':=by
 have h:=AnyQ.slices_IndexFunc Tryz.laysIndexFunc 2 Tryz.isAgg50 Tryz.sizeOf50 tc (fun _=>rfl) (fun x => !nz x) 115 #[] eg1 b 0 n c l w (pred1 w) (by omega) (by omega) ht.lt (fun j hj i v hi=>by
  have e:l[j]! = tat l j:=by rw [getElem!_pos l j hj,tat_get hj]
  rw [e] at hi
  have h2:i=0∨i=1:=by
   have:=(List.getElem?_eq_some_iff.1 hi).1
   simp [tc] at this;omega
  rcases h2 with rfl | rfl
  ·cases hi
   simpa using ht.c0 j hj
  ·cases hi
   simpa using ht.c1 j hj)
 rw [hn,List.take_length] at h
 rw [hn]
 exact h
theorem indexFunc_nil (p:Option Addr) (c:Nat) (f:Value) (w:World) :
  Calls Tryz.prog 140 #[.slice p 0 c,f] w fun e W'=>e = .returned (.int .i64 (-1))∧W'=w:=by
 go_enter Tryz.func140,Tryz.ntmps140
 go_wp2
 go_rounds 1
 all_goals go_ret
 all_goals exact ⟨rfl,rfl⟩
theorem deleteFunc_no (v:Value) (w:World)
  (h1:Calls Tryz.prog 140 #[v,.func (.func 115) #[] #[]] w fun e W'=>e = .returned (.int .i64 (-1))∧Below w.heap.size w W') :
  Calls Tryz.prog 114 #[v,.func (.func 115) #[] #[]] w fun e W'=>e = .returned v∧Below w.heap.size w W':=by
 have O:=Lib.hid h1;clear h1
 go_enter Tryz.func114,Tryz.ntmps114
 go_wp2_with fail
 refine O.out.mono ?_
 rintro e w1 ⟨rfl,b⟩
 have B:=Lib.hid b;clear b
 go_wp2
 go_ret
 exact ⟨rfl,B.out⟩
theorem zeroCells2 (n:Nat):(Builtin.zeroCells (Value.agg #[.string ⟨#[]⟩,.string ⟨#[]⟩]).cells n).toList=List.replicate (n*2) (.string ⟨#[]⟩):=by
 apply List.ext_getElem
 ·simp [Builtin.zeroCells,Value.cells]
 ·intro i h1 h2
  have h3:i % 2=0∨i % 2=1:=by omega
  simp [Builtin.zeroCells,Value.cells]
  rcases h3 with h | h <;> simp [h]
theorem run_clear2 (w:World) (ty:TypeId) (b o n c:Nat) (hn:0<n) (hc:∀ j,j<n*2→(w.cell? ⟨b,o+j,none⟩).isSome=true) (hf:∀ j,j<n*2→w.frozen? ⟨b,o+j,none⟩=false) :
  (Builtin.clear_ #[25] ty #[.slice (some ⟨b,o,none⟩) n c]).run Tryz.prog w = .ok (.tuple #[]) (w.setCells b o (List.replicate (n*2) (.string ⟨#[]⟩))):=by
 have hst:=run_storeCells_cells (P:=Tryz.prog) b o (List.replicate (n*2) (.string ⟨#[]⟩)) 0 w (by simpa using hc) (by simpa using hf) (by intro v hv';rw [List.eq_of_mem_replicate hv'];rfl)
 simp only [Nat.add_zero] at hst
 obtain ⟨m,rfl⟩:∃ m,n=m+1:=⟨n - 1,by omega⟩
 have hz:∀ w,(zeroValue 50).run Tryz.prog w = .ok (.agg #[.string ⟨#[]⟩,.string ⟨#[]⟩]) w:=Tryz.zeroValue50
 have hu:=run_underlying (P:=Tryz.prog) Tryz.underlying25
 simp [Builtin.clear_,hu,hz,zeroCells2,hst]
theorem setCells_own (b:Nat):∀ (vs:List Value) (o:Nat) (W:World) (cur:Array Value) (t:TypeId),W.heap[b]? = some (.cells cur t (0,0)) →
  ∃ cur',(W.setCells b o vs).heap[b]? = some (.cells cur' t (0,0))∧cur'.size=cur.size∧∀ m,m≤o→cur'.toList.take m=cur.toList.take m
 | [],_,_,cur,_,h=>⟨cur,h,rfl,fun _ _=>rfl⟩
 | v::vs,o,W,cur,t,h=>by
  obtain ⟨cur',h1,h2,h3⟩:=setCells_own b vs (o+1) (W.setCell ⟨b,o,none⟩ v) _ t (heap_set h o v)
  refine ⟨cur',h1,by rw [h2];simp,fun m hm => ?_⟩
  rw [h3 m (by omega),Array.toList_setIfInBounds,List.take_set]
  exact List.set_eq_of_length_le (by simp;omega)
structure Dl (w:World) (base b n c:Nat) (l:List Tm) (i j:Nat) (dk:List Tm) (wr:World):Prop where
 len:dk.length=n
 low:dk.take i=(l.take j).filter nz
 high:∀ m,j≤m→tat dk m=tat l m
 own:Ow wr base 50 (.slice (some ⟨b,0,none⟩) n c) dk
 below:Below base w wr
theorem Dl.grow {w wr W:World} {base b n c i j:Nat} {l dk:List Tm} (h:Dl w base b n c l i j dk wr) (g:Below wr.heap.size wr W) (hb:base≤w.heap.size):Dl w base b n c l i j dk W :=
 ⟨h.len,h.low,h.high,h.own.next g,h.below.trans (g.mono (Nat.le_trans hb h.below.size))⟩
theorem take_fil {l:List Tm} {j:Nat} (hj:j<l.length):(l.take (j+1)).filter nz=(l.take j).filter nz++(if nz (tat l j) then [tat l j] else []):=by
 rw [List.take_succ_eq_append_getElem hj,List.filter_append,tat_get hj]
 cases h:nz l[j] <;> simp [h]
theorem Dl.skip {w wr:World} {base b n c i j:Nat} {l dk:List Tm} (h:Dl w base b n c l i j dk wr) (hj:j<l.length) (hz:nz (tat l j)=false):Dl w base b n c l i (j+1) dk wr :=
 ⟨h.len,by rw [take_fil hj,hz,h.low];simp,fun m hm=>h.high m (by omega),h.own,h.below⟩
theorem Dl.keep {w wr:World} {base b n c i j:Nat} {l dk:List Tm} (h:Dl w base b n c l i j dk wr) (hj:j<l.length) (hi:i<j) (hn:l.length=n) (hz:nz (tat l j)=true) (hb:base≤b) :
  Dl w base b n c l (i+1) (j+1) (dk.set i (tat l j)) ((wr.setCell ⟨b,i*2,none⟩ (.string (strQ (tat l j).1))).setCell ⟨b,i*2+1,none⟩ (.string (strQ (tat l j).2))):=by
 have hl:=h.len
 refine ⟨by rw [List.length_set];exact hl,?_,fun m hm => ?_,h.own.set i (by omega) _,(h.below.setCell (p:=⟨b,i*2,none⟩) hb _).setCell (p:=⟨b,i*2+1,none⟩) hb _⟩
 ·rw [take_fil hj,hz,←h.low,if_pos rfl,List.take_succ_eq_append_getElem (by rw [List.length_set];omega),List.getElem_set_self,List.take_set,List.set_eq_of_length_le (by rw [List.length_take];omega)]
 ·have:tat (dk.set i (tat l j)) m=tat dk m:=by
   unfold tat;rw [List.getElem?_set_ne (by omega)]
  rw [this];exact h.high m (by omega)
theorem deleteFunc_yes (l:List Tm) (b n c base k0:Nat) (w:World) (hn:n=l.length) (h1000:n≤1000) (hnc:n≤c) (hbase:base≤w.heap.size) (hbb:base≤b) (hk0:k0<n)
  (h1:Calls Tryz.prog 140 #[(.slice (some ⟨b,0,none⟩) n c),.func (.func 115) #[] #[]] w fun e W'=>e = .returned (.int .i64 k0)∧Below w.heap.size w W')
  (hD:Dl w base b n c l k0 (k0+1) l w) :
  Calls Tryz.prog 114 #[(.slice (some ⟨b,0,none⟩) n c),.func (.func 115) #[] #[]] w fun e W'=>∃ i dk W1,e = .returned (.slice (some ⟨b,0,none⟩) i c)∧i≤n∧Dl w base b n c l i n dk W1∧W'=W1.setCells b (i*2) (List.replicate ((n - i)*2) (.string ⟨#[]⟩)):=by
 have O:=Lib.hid (And.intro h1 (And.intro hbase (And.intro hbb hn)))
 have HD:=Lib.hid hD
 have HC:=Lib.hid hnc
 clear h1 hbase hbb hn hD hnc
 have eg:=eg1
 have ne1:((k0:Int) == -1)=false:=beq_eq_false_iff_ne.2 (by omega)
 go_enter Tryz.func114,Tryz.ntmps114
 go_wp2_with fail
 refine O.out.1.mono ?_
 rintro e w1 ⟨rfl,bb⟩
 have HB:=Lib.hid (HD.out.grow bb O.out.2.1)
 clear HD bb
 go_wp2
 go_loopw [5,6] (fun s5 s6 wr=>∃ (i j:Nat) (dk:List Tm),s5 = .int .i64 i∧s6 = .int .i64 j∧i<j∧j≤n∧Hid (Dl w base b n c l i j dk wr)) (fun _ s6 _=>n - (intOf s6).toNat)
 case atStart=>exact ⟨k0,k0+1,l,rfl,by go_num,by omega,by omega,HB.out⟩
 case round =>
  clear HB
  obtain ⟨i,j,dk,rfl,rfl,hij,hjn,HB⟩:=hrel
  have tl:=Lib.hid (show Tl wr b dk from by
   obtain ⟨p,c',e,r,_⟩:=HB.out.own.rd
   have hl:=HB.out.len
   obtain ⟨b',e',t⟩:=r (by omega)
   cases e;cases e';exact t)
  have hl:=Lib.hid HB.out.len
  have fr:=Lib.hid (fun m=>HB.out.own.frozen m)
  by_cases hlt:j<n
  ·have hz:(j:Int)<n:=by omega
   have d0:=tl.out.c0 j (by have:=hl.out;omega)
   have d1:=tl.out.c1 j (by have:=hl.out;omega)
   rw [HB.out.high j (Nat.le_refl _)] at d0 d1
   go_wp2_with fail
   have HN:=Lib.hid (HB.out.grow ((Below.refl _ wr).alloc (Nat.le_refl _) (.cells #[.string (strQ (tat l j).1),.string (strQ (tat l j).2)] 50)) O.out.2.1)
   have hk:=Blk.new wr #[.string (strQ (tat l j).1),.string (strQ (tat l j).2)] 50
   clear HB tl fr d0 d1
   generalize wr.alloc (.cells #[.string (strQ (tat l j).1),.string (strQ (tat l j).2)] 50)=u at *
   generalize wr.heap.size=k at *
   have e0:=(show World.cell? _ ⟨k,0,none⟩=some (.string (strQ (tat l j).1)) from hk.cell 0 _ rfl)
   have e1:=(show World.cell? _ ⟨k,1,none⟩=some (.string (strQ (tat l j).2)) from hk.cell 1 _ rfl)
   have HK:=Lib.hid hk;clear hk
   go_wp2_with fail
   refine (isZero_ok (tat l j) u).mono ?_
   rintro e w2 ⟨rfl,bb⟩
   have HM:=Lib.hid (HN.out.grow bb O.out.2.1)
   have HK2:=Lib.hid (HK.out.next bb)
   clear HN HK bb e0 e1
   have e0:=(show World.cell? _ ⟨k,0,none⟩=some (.string (strQ (tat l j).1)) from HK2.out.cell 0 _ rfl)
   have e1:=(show World.cell? _ ⟨k,1,none⟩=some (.string (strQ (tat l j).2)) from HK2.out.cell 1 _ rfl)
   have hx:=Lib.hid (rfl:nz (tat l j)=nz (tat l j))
   cases hq:nz (tat l j)
   ·have HQ:=Lib.hid (HM.out.skip (by have:=O.out.2.2.2;omega) hq)
    clear HM hx
    go_wp2
    go_roundw
    case rel=>exact ⟨i,j+1,dk,rfl,by go_num,by omega,by omega,HQ.out⟩
    case measure=>simp [intOf];omega
   ·have HQ:=Lib.hid (HM.out.keep (by have:=O.out.2.2.2;omega) hij (by have:=O.out.2.2.2;omega) hq O.out.2.2.1)
    have tl:=Lib.hid (show Tl w2 b dk from by
     obtain ⟨p,c',e,r,_⟩:=HM.out.own.rd
     have hl:=HM.out.len
     obtain ⟨b',e',t⟩:=r (by omega)
     cases e;cases e';exact t)
    have g0:=tl.out.c0 i (by have:=hl.out;omega)
    have g1:=tl.out.c1 i (by have:=hl.out;omega)
    have f0:=HM.out.own.frozen (i*2)
    have f1:=HM.out.own.frozen (i*2+1)
    have hzi:(i:Int)<n:=by omega
    clear HM hx
    go_wp2
    go_roundw
    case rel=>exact ⟨i+1,j+1,_,by go_num,by go_num,by omega,by omega,HQ.out⟩
    case measure=>simp [intOf];omega
  ·obtain rfl:j=n:=by omega
   have hz:¬ (j:Int)<j:=by omega
   have s1:i≤j:=by omega
   have s2:j≤c:=HC.out
   have s3:i≤c:=by omega
   have hcl:∀ ty,(Builtin.clear_ #[25] ty #[.slice (some ⟨b,i*2,none⟩) (j - i) (c - i)]).run Tryz.prog wr = .ok (.tuple #[]) (wr.setCells b (i*2) (List.replicate ((j - i)*2) (.string ⟨#[]⟩))):=fun ty =>
    run_clear2 wr ty b (i*2) (j - i) (c - i) (by omega) (fun m hm=>by
     have h2:(i*2+m) % 2=0∨(i*2+m) % 2=1:=by omega
     rcases h2 with h | h
     ·have:=tl.out.c0 ((i*2+m) / 2) (by have:=hl.out;omega)
      rw [show (i*2+m) / 2*2=i*2+m by omega] at this
      rw [this];rfl
     ·have:=tl.out.c1 ((i*2+m) / 2) (by have:=hl.out;omega)
      rw [show (i*2+m) / 2*2+1=i*2+m by omega] at this
      rw [this];rfl) (fun m _=>fr.out _)
   go_wp2
   go_ret
   exact ⟨i,rfl,s1,dk,wr,HB.out,rfl⟩
end Go.Proofs.YtjdfjgfdbgmbiaaGreatDoor.T
namespace Go.Proofs.YtjdfjgfdbgmbiaaGreatDoor.T
open Go.Proofs.YtjdfjgfdbgmbiaaGreatDoor Go Go.RowKit Go.Proofs
theorem tcs_take:∀ (l:List Tm) (i:Nat),(tcs l).take (i*2)=tcs (l.take i)
 | _,0=>by simp [tcs]
 | [],i+1=>by simp [tcs]
 | t::l,i+1=>by
  rw [tcs_cons,show (i+1)*2=i*2+1+1 by omega,List.take_succ_cons,List.take_succ_cons,tcs_take l i,List.take_succ_cons,tcs_cons]
theorem below_sets {B b:Nat} {a:World} (hb:B≤b):∀ (vs:List Value) (o:Nat) (W:World),Below B a W→Below B a (W.setCells b o vs)
 | [],_,_,h=>h
 | v::vs,o,W,h=>below_sets hb vs (o+1) _ (h.setCell (p:=⟨b,o,none⟩) hb v)
theorem deleteFunc_ok (l:List Tm) (v:Value) (base:Nat) (w:World) (ho:Ow w base 50 v l) (hbase:base≤w.heap.size) (h1000:l.length≤1000) :
  Calls Tryz.prog 114 #[v,.func (.func 115) #[] #[]] w fun e W'=>∃ v',e = .returned v'∧Ow W' base 50 v' (l.filter nz)∧Below base w W':=by
 rcases ho.2 with ⟨rfl,hn⟩ | ⟨b,c,cur,rfl,hb,hg,hc,_⟩
 ·have e:l = []:=List.eq_nil_of_length_eq_zero hn
  subst e
  refine (deleteFunc_no (.slice none 0 0) w ((indexFunc_nil none 0 _ w).mono fun _ W' ⟨e1,e2⟩=>⟨e1,by rw [e2];exact Below.refl _ _⟩)).mono fun e W' ⟨e1,e2⟩=>⟨_,e1,ho.next e2,e2.mono hbase⟩
 have tl:Tl w b l:=by
  have hcl:=World.ownsRow.cells (show w.ownsRow base 50 2 (.slice (some ⟨b,0,none⟩) l.length c) l.length (tcs l) from ho) (g:=b) rfl
  have ha:∀ j,(⟨b,0,none⟩:Addr).add j=⟨b,j,none⟩:=fun j=>by unfold Addr.add;split <;> simp_all
  exact ⟨lt_of_block hg,fun j hj=>by rw [←ha,Nat.mul_comm];exact hcl _ _ (tcs_at l j hj).1,fun j hj=>by rw [←ha,Nat.mul_comm];exact hcl _ _ (tcs_at l j hj).2⟩
 have hI:=indexFunc_ok l b l.length c w rfl h1000 tl
 rcases idxByFrom_spec (fun _ y => !nz y) default l 0 with ⟨e1,hall⟩ | ⟨k0,hk0,e1,hz,hall⟩
 ·have e2:Lib.idxBy (fun _ y => !nz y) l default = -1:=e1
  rw [e2] at hI
  have ef:l.filter nz=l:=List.filter_eq_self.2 fun t ht=>by
   obtain ⟨j,hj,rfl⟩:=List.getElem_of_mem ht
   have:=hall j hj
   rw [getElem!_pos l j hj] at this
   simpa using this
  rw [ef]
  exact (deleteFunc_no _ w hI).mono fun e W' ⟨e1,e2⟩=>⟨_,e1,ho.next e2,e2.mono hbase⟩
 ·have e2:Lib.idxBy (fun _ y => !nz y) l default=(k0:Int):=by
   show Lib.idxByFrom _ _ _ _=_
   rw [e1];simp
  rw [e2] at hI
  have hz':nz (tat l k0)=false:=by
   rw [getElem!_pos l k0 hk0] at hz
   rw [tat_get hk0];simpa using hz
  have low:(l.take k0).filter nz=l.take k0:=List.filter_eq_self.2 fun t ht=>by
   obtain ⟨j,hj,rfl⟩:=List.getElem_of_mem ht
   rw [List.length_take] at hj
   have:=hall j (by omega)
   rw [getElem!_pos l j (by omega)] at this
   rw [List.getElem_take];simpa using this
  have hD:Dl w base b l.length c l k0 (k0+1) l w :=
   ⟨rfl,by rw [take_fil hk0,hz',low];simp,fun _ _=>rfl,ho,Below.refl _ _⟩
  refine (deleteFunc_yes l b l.length c base k0 w rfl h1000 hc hbase hb hk0 hI hD).mono fun e W' ⟨i,dk,W1,e1,hi,D,e2⟩=>⟨_,e1,?_,?_⟩
  ·have hl:=D.low
   rw [List.take_length] at hl
   have hlen:(l.filter nz).length=i:=by rw [←hl,List.length_take,D.len];omega
   refine ⟨by rw [tcs_len],?_⟩
   have own:=D.own.2
   rw [D.len] at own
   rcases own with ⟨e,_⟩ | ⟨g,cap,cur1,e,hb1,hg1,h1,h2,h3,h4⟩
   ·cases e
   ·cases e
    obtain ⟨cur2,k1,k2,k3⟩:=setCells_own b (List.replicate ((l.length - i)*2) (.string ⟨#[]⟩)) (i*2) W1 cur1 _ hg1
    refine .inr ⟨b,c,cur2,?_,hb1,?_,by omega,h2,by rw [k2,h3],?_⟩
    ·rw [hlen]
    ·rw [e2];exact k1
    ·rw [hlen,k3 _ (Nat.le_refl _),←hl,←tcs_take,←h4,List.take_take]
     congr 1
     have:=D.len
     omega
  ·rw [e2]
   exact below_sets hb _ _ _ D.below
end Go.Proofs.YtjdfjgfdbgmbiaaGreatDoor.T
namespace Go.Proofs.YtjdfjgfdbgmbiaaGreatDoor.T
open Go.Proofs.YtjdfjgfdbgmbiaaGreatDoor Go Go.RowKit Go.Lib
theorem cmpOrIe (b:Nat) (x y:Int) (w:World) (hb:Blk w b #[.int .i64 x,.int .i64 y]) :
  Calls Tryz.prog 137 #[.slice (some ⟨b,0,none⟩) 2 2] w fun e W'=>e = .returned (.int .i64 (if x=0 then y else x))∧W'=w:=by
 have c0:=hb.cell 0 _ rfl
 have c1:=hb.cell 1 _ rfl
 clear hb
 by_cases h:x=0
 ·rw [if_pos h]
  subst h
  by_cases h2:y=0
  ·subst h2
   go_enter Tryz.func137,Tryz.ntmps137
   go_wp2
   go_rounds 3
   all_goals go_ret
   all_goals exact ⟨rfl,rfl⟩
  ·obtain ⟨n1,n2⟩:=bool_ne h2
   go_enter Tryz.func137,Tryz.ntmps137
   go_wp2
   go_rounds 3
   all_goals go_ret
   all_goals exact ⟨rfl,rfl⟩
 ·rw [if_neg h]
  obtain ⟨n1,n2⟩:=bool_ne h
  go_enter Tryz.func137,Tryz.ntmps137
  go_wp2
  go_rounds 3
  all_goals go_ret
  all_goals exact ⟨rfl,rfl⟩
theorem sordere (a b:Nat) (w:World) (ha:a<lim) (hb:b<lim) :
  Calls Tryz.prog 111 #[.string (strB (a:Int)),.string (strB (b:Int))] w fun e W'=>e = .returned (.int .i64 (cmpZ a b))∧∃ o,W'=w.alloc o:=by
 have c1:=fun W=>Tryz.cmp_Compare_int (strB (a:Int)).size (strB (b:Int)).size W
 have c2:=fun W=>Tryz.strings_Compare (strB (a:Int)) (strB (b:Int)) W
 have c3:=fun (k:Nat) W h=>cmpOrIe k (compareInt (strB (a:Int)).size (strB (b:Int)).size) (compareBytes (strB (a:Int)).data.toList (strB (b:Int)).data.toList) W h
 have za:(strB (a:Int)).size≤301:=strB_size (nat_short.2 ha)
 have zb:(strB (b:Int)).size≤301:=strB_size (nat_short.2 hb)
 have e:(if compareInt (strB (a:Int)).size (strB (b:Int)).size=0 then compareBytes (strB (a:Int)).data.toList (strB (b:Int)).data.toList else compareInt (strB (a:Int)).size (strB (b:Int)).size)=cmpZ a b:=by
  rw [sN_len,sN_len]
  unfold compareInt
  by_cases h1:(nDigits a:Int)<nDigits b
  ·rw [if_pos h1,if_neg (by decide)]
   have:=nd_lt (a:=a) (b:=b) (by omega) (nd_pos a)
   unfold cmpZ;rw [if_pos (by omega)]
  ·by_cases h2:(nDigits a:Int) > nDigits b
   ·rw [if_neg h1,if_pos h2,if_neg (by decide)]
    have:=nd_lt (a:=b) (b:=a) (by omega) (nd_pos b)
    unfold cmpZ;rw [if_neg (by omega),if_pos (by omega)]
   ·rw [if_neg h1,if_neg h2,if_pos rfl,strB_data,strB_data,itoa_nonneg,itoa_nonneg,cmpB_nat,natOf_dec,natOf_dec]
    ·rw [decDigits_length,decDigits_length];omega
    ·exact decDigits_dig _
    ·exact decDigits_dig _
 rw [←e]
 clear e ha hb
 have za':((strB (a:Int)).size:Int)≤9223372036854775807:=by omega
 have zb':((strB (b:Int)).size:Int)≤9223372036854775807:=by omega
 generalize compareInt (strB (a:Int)).size (strB (b:Int)).size=x at *
 generalize compareBytes (strB (a:Int)).data.toList (strB (b:Int)).data.toList=y at *
 generalize strB (a:Int)=s at *
 generalize strB (b:Int)=t at *
 generalize (if x=0 then y else x)=r at *
 have O:=Lib.hid (And.intro c1 (And.intro c2 c3));clear c1 c2 c3 za zb
 go_enter Tryz.func111,Tryz.ntmps111
 go_wp2_with fail
 refine (O.out.1 _).mono ?_
 rintro e v1 ⟨rfl,rfl⟩
 go_wp2_with fail
 refine (O.out.2.1 _).mono ?_
 rintro e v2 ⟨rfl,rfl⟩
 go_wp2_with fail
 refine (O.out.2.2 _ _ (Blk.new _ _ _)).mono ?_
 rintro e v5 ⟨rfl,rfl⟩
 go_wp2
 go_ret
 exact ⟨rfl,_,rfl⟩
end Go.Proofs.YtjdfjgfdbgmbiaaGreatDoor.T
namespace Go.Proofs.YtjdfjgfdbgmbiaaGreatDoor.T
open Go.Proofs.YtjdfjgfdbgmbiaaGreatDoor Go Go.RowKit Go.Proofs Go.Sort
abbrev RT:={t:Tm // ∃ b:Nat,t.2=(b:Rat)∧b<tenTo 40}
instance:Inhabited RT:=⟨⟨(0,0),0,rfl,tenTo_pos 40⟩⟩
def encR (t:RT):List Value:=tc t.1
def cfR (x y:RT):Int:=cmpQ x.1.2 y.1.2
theorem ltR (x y:RT):ltOf cfR x y=decide (x.1.2<y.1.2):=by
 unfold ltOf cfR
 rcases ratTri x.1.2 y.1.2 with h | h | h
 ·rw [cmpQ_lt h,decide_eq_true h];rfl
 ·rw [h,cmpQ_eq];simp [Rat.lt_irrefl]
 ·rw [cmpQ_gt h]
  have h2:¬ x.1.2<y.1.2:=by grind
  simp [h2]
theorem swoR:SWO (ltOf cfR) where
 irrefl x:=by rw [ltR];simp [Rat.lt_irrefl]
 trans x y z h1 h2:=by
  rw [ltR] at *
  simp only [decide_eq_true_eq] at *
  grind
 ntrans x y z h1 h2:=by
  rw [ltR] at *
  simp only [decide_eq_false_iff_not] at *
  grind
theorem byRoote (a b c d:ByteArray) (x:Int) (w:World)
  (h1:∀ W,Calls Tryz.prog 111 #[.string b,.string d] W fun e W'=>e = .returned (.int .i64 x)∧∃ o,W'=W.alloc o) :
  Calls Tryz.prog 118 #[.agg #[.string a,.string b],.agg #[.string c,.string d]] w fun e W'=>e = .returned (.int .i64 x)∧∃ q os,W'=grow (w.drewN q) os:=by
 have C:=Lib.hid h1;clear h1
 go_enter Tryz.func118,Tryz.ntmps118
 go_wp2_with fail
 refine (C.out _).mono ?_
 rintro e w1 ⟨rfl,o,rfl⟩
 go_wp2
 go_ret
 exact ⟨rfl,0,_,by rw [alloc_eq_grow,alloc_eq_grow,alloc_eq_grow,grow_grow,grow_grow];rfl⟩
theorem cmpR_lays (b n:Nat) (w:World):CmpLays Tryz.prog 118 #[] encR 2 cfR b 0 n w:=fun m os dk _ x y=>by
 obtain ⟨⟨c1,q1⟩,n1,e1,l1⟩:=x
 obtain ⟨⟨c2,q2⟩,n2,e2,l2⟩:=y
 dsimp only at e1 e2
 subst e1;subst e2
 have hc:cfR ⟨(c1,(n1:Rat)),n1,rfl,l1⟩ ⟨(c2,(n2:Rat)),n2,rfl,l2⟩=cmpZ (n1:Int) (n2:Int):=by
  unfold cfR cmpQ
  dsimp only
  rw [Rat.num_natCast,Rat.num_natCast,Rat.den_natCast,Rat.den_natCast,Int.natCast_one,Int.mul_one,Int.mul_one]
 rw [hc]
 refine byRoote (strQ c1) (strQ (n1:Rat)) (strQ c2) (strQ (n2:Rat)) _ _ fun W => ?_
 rw [strQ_nat,strQ_nat]
 exact sordere n1 n2 W (ten_lim (by decide) l1) (ten_lim (by decide) l2)
theorem eg2:∀ args w,(callFunc 118 args).run Tryz.prog w = .ok (.enter 118 args) w:=enters_of Tryz.func118 (by kernel_rfl) rfl
theorem grown_sort {w:World} {g n:Nat} {os:Array Obj} (d:Array RT):w.grownBy (sortWorldK encR 2 w g 0 n d os) (some g):=by
 unfold sortWorldK putRowK
 refine ⟨rfl,rfl,rfl,by simp,fun k hk hne => ?_⟩
 rw [heap_grow_old _ _ (by simpa using hk)]
 have:g≠k:=fun e=>hne (by rw [e])
 simp [putRow,mapBlock,Sort.ahead,Array.getElem?_modify,this]
theorem sortFunc_ok (l:List Tm) (b n c:Nat) (w:World) (hn:n=l.length) (h1000:n≤1000) (ht:Tl w b l) (hf:∀ i,w.frozen? ⟨b,i,none⟩=false) (hR:∀ t∈l,∃ m:Nat,t.2=(m:Rat)∧m<tenTo 40) :
  Calls Tryz.prog 117 #[.slice (some ⟨b,0,none⟩) n c,.func (.func 118) #[] #[]] w fun e W'=>e = .returned (.tuple #[])∧∃ l',l'.Perm l∧(l'.Pairwise fun s t=>s.2≤t.2)∧Tl W' b l'∧w.grownBy W' (some b):=by
 obtain ⟨zs,hzs⟩:∃ zs:List RT,zs.map (·.1)=l:=⟨l.pmap (fun t h=>⟨t,h⟩) hR,by rw [List.map_pmap];simp⟩
 have hlen:zs.length=n:=by rw [hn,←hzs,List.length_map]
 have at0:∀ j,j<n→(zs.toArray[j]!).1=tat l j:=fun j hj=>by
  rw [tat_get (by omega),getElem!_pos zs.toArray j (by simp;omega)]
  simp [←hzs]
 have hH:HoldsK encR 2 w b 0 zs.toArray:=fun j hj=>by
  rw [size_flatK] at hj
  have hj2:j<n*2:=by simpa [hlen] using hj
  refine ⟨?_,by simpa using hf j⟩
  rw [get_flatK _ _ _ _ hj,Nat.zero_add]
  have h2:j % 2=0∨j % 2=1:=by omega
  rcases h2 with h | h
  ·rw [h]
   have:=ht.c0 (j / 2) (by omega)
   rw [show j / 2*2=j by omega] at this
   rw [this,←at0 _ (by omega)];rfl
  ·rw [h]
   have:=ht.c1 (j / 2) (by omega)
   rw [show j / 2*2+1=j by omega] at this
   rw [this,←at0 _ (by omega)];rfl
 have hcon:=AnyQ.slices_SortFunc Tryz.laysSortFunc 2 Tryz.isAgg50 Tryz.sizeOf50 encR (fun _=>rfl) (fun x v hv=>by simp [encR,tc] at hv;rcases hv with rfl | rfl <;> rfl) cfR swoR 118 #[] b 0 c zs.toArray w eg2 (cmpR_lays b _ w) hH ht.lt (by simp;omega)
 rw [show zs.toArray.size=n by simp [hlen]] at hcon
 refine Calls.mono (show Calls Tryz.prog 117 _ _ _ from hcon) fun e W' ⟨e1,d',m,os,hp,hs,e2⟩=>⟨e1,d'.toList.map (·.1),?_,?_,?_,?_⟩
 ·rw [←hzs]
  have h3:=hp.2.2
  have k1:d'.extract 0 n=d':=by
   have:=hp.1
   rw [←hlen,show zs.length=zs.toArray.size by simp,←this];simp
  have k2:zs.toArray.extract 0 n=zs.toArray:=by rw [←hlen];simp
  rw [k1,k2] at h3
  exact h3.map _
 ·rw [List.pairwise_map,List.pairwise_iff_getElem]
  intro i j hi hj hij
  have hsz:d'.size=n:=by rw [hp.1];simp [hlen]
  have h3:=hs i j (by omega) hij (by simpa [hsz] using hj)
  rw [ltR,decide_eq_false_iff_not] at h3
  rw [getElem!_pos d' i (by simpa using hi),getElem!_pos d' j (by simpa using hj)] at h3
  simp only [Array.getElem_toList]
  exact Rat.not_lt.1 h3
 ·have hsz:d'.size=zs.toArray.size:=hp.1
  have hK:=holdsK_sortWorldK encR 2 w b 0 m zs.toArray d' os ht.lt hH hsz
  rw [←e2] at hK
  have at1:∀ j,j<d'.size→tat (d'.toList.map (·.1)) j=(d'[j]!).1:=fun j hj=>by
   rw [tat_get (by simpa using hj),getElem!_pos d' j hj];simp
  refine ⟨?_,fun j hj => ?_,fun j hj => ?_⟩
  ·rw [e2];have:=(grown_sort (w:=w) (g:=b) (n:=m) (os:=os) d').size
   exact Nat.lt_of_lt_of_le ht.lt this
  ·have hj':j<d'.size:=by simpa using hj
   have:=(hK.cell (i:=j) (c:=0) hj' (by decide)).1
   rw [Nat.zero_add,Nat.add_zero] at this
   rw [this,at1 j hj'];rfl
  ·have hj':j<d'.size:=by simpa using hj
   have:=(hK.cell (i:=j) (c:=1) hj' (by decide)).1
   rw [Nat.zero_add] at this
   rw [this,at1 j hj'];rfl
 ·rw [e2];exact grown_sort d'
end Go.Proofs.YtjdfjgfdbgmbiaaGreatDoor.T
namespace Go.Proofs.YtjdfjgfdbgmbiaaGreatDoor.T
open Go.Proofs.YtjdfjgfdbgmbiaaGreatDoor Go Go.RowKit Go.Proofs
abbrev CT:={t:Tm // Bq 60 t.1∧Bq 40 t.2}
instance:Inhabited CT:=⟨⟨(0,0),(show Bq 1 (0:Rat) from Bq_zero).up (by decide),(show Bq 1 (0:Rat) from Bq_zero).up (by decide)⟩⟩
theorem eg3:∀ args w,(callFunc 109 args).run Tryz.prog w = .ok (.enter 109 args) w:=enters_of Tryz.func109 (by kernel_rfl) rfl
theorem containsFunc_no (l:List Tm) (b n c:Nat) (w:World) (hn:n=l.length) (h1000:n≤1000) (ht:Tl w b l) (hB:∀ t∈l,Bq 60 t.1∧Bq 40 t.2) :
  Calls Tryz.prog 116 #[.slice (some ⟨b,0,none⟩) n c,.func (.func 109) #[] #[]] w fun e W'=>e = .returned (.bool false)∧Below w.heap.size w W':=by
 obtain ⟨zs,hzs⟩:∃ zs:List CT,zs.map (·.1)=l:=⟨l.pmap (fun t h=>⟨t,h⟩) hB,by rw [List.map_pmap];simp⟩
 have hlen:zs.length=n:=by rw [hn,←hzs,List.length_map]
 have hp:PredBelow Tryz.prog 109 #[] (fun x:CT => .agg (tc x.1).toArray) (fun _=>false) w:=fun W x hb =>
  (isTooLong_no x.1.1 x.1.2 W x.2.1 x.2.2).mono fun e W' ⟨e1,e2⟩=>⟨e1,hb.trans (e2.mono hb.size)⟩
 have h:=AnyQ.slices_ContainsFunc Tryz.laysContainsFunc 2 Tryz.isAgg50 Tryz.sizeOf50 (fun x:CT=>tc x.1) (fun _=>rfl) (fun _=>false) 109 #[] eg3 b 0 n c zs w hp (by omega) (by omega) ht.lt (fun j hj i v hi=>by
  have e:(zs[j]!).1=tat l j:=by rw [tat_get (by omega),getElem!_pos zs j hj];simp [←hzs]
  rw [e] at hi
  have h2:i=0∨i=1:=by
   have:=(List.getElem?_eq_some_iff.1 hi).1
   simp [tc] at this;omega
  rcases h2 with rfl | rfl
  ·cases hi
   simpa using ht.c0 j (by omega)
  ·cases hi
   simpa using ht.c1 j (by omega))
 rw [show (zs.take n).any (fun _=>false)=false by simp] at h
 exact h
theorem containsFunc_nil (p:Option Addr) (c:Nat) (f:Value) (w:World) :
  Calls Tryz.prog 116 #[.slice p 0 c,f] w fun e W'=>e = .returned (.bool false)∧Below w.heap.size w W':=by
 have O:=Lib.hid (fun W=>indexFunc_nil p c f W)
 go_enter Tryz.func116,Tryz.ntmps116
 go_wp2_with fail
 refine (O.out _).mono ?_
 rintro e w1 ⟨rfl,rfl⟩
 go_wp2
 go_ret
 exact ⟨rfl,Below.refl _ _⟩
theorem surdOf_core (v:Value) (w:World) (Q:Value→World→Prop)
  (h1:Calls Tryz.prog 114 #[v,.func (.func 115) #[] #[]] w fun e W2=>∃ p n c,e = .returned (.slice p n c)∧n≤16 ∧
   (Calls Tryz.prog 116 #[.slice p n c,.func (.func 109) #[] #[]] W2 fun e W'=>e = .returned (.bool false)∧Below W2.heap.size W2 W') ∧
   (∀ W,Below W2.heap.size W2 W→Calls Tryz.prog 117 #[.slice p n c,.func (.func 118) #[] #[]] W fun e W'=>e = .returned (.tuple #[])∧Q (.slice p n c) W')) :
  Calls Tryz.prog 89 #[v] w fun e W'=>∃ v',e = .returned (.tuple #[v',.int .i64 0])∧Q v' W':=by
 have O:=Lib.hid h1;clear h1
 go_enter Tryz.func89,Tryz.ntmps89
 go_wp2_with fail
 refine O.out.mono ?_
 rintro e w3 ⟨p,n,c,rfl,h16,h2,h3⟩
 have y1:¬ (16:Int)<n:=by omega
 have H:=Lib.hid (And.intro h2 h3);clear h2 h3 O h16
 go_wp2_with fail
 refine H.out.1.mono ?_
 rintro e w4 ⟨rfl,b⟩
 have B:=Lib.hid b;clear b
 go_wp2_with fail
 refine (H.out.2 _ B.out).mono ?_
 rintro e w5 ⟨rfl,hq⟩
 have HQ:=Lib.hid hq;clear hq
 go_wp2
 go_ret2
 exact ⟨_,rfl,HQ.out⟩
def Sr (W:World) (p:Option Addr) (n c:Nat) (l:List Tm):Prop:=n=l.length∧n≤c∧((p=none∧c=0∧l = [])∨∃ b,p=some ⟨b,0,none⟩∧(0<l.length→Tl W b l))
theorem Sr.rd {W:World} {p:Option Addr} {n c:Nat} {l:List Tm} (h:Sr W p n c l):Rd W p l:=fun k=>by
 rcases h.2.2 with ⟨_,_,rfl⟩ | ⟨b,e,t⟩
 ·simp at k
 ·exact ⟨b,e,t k⟩
theorem Sr.next {W W':World} {p:Option Addr} {n c:Nat} {l:List Tm} (h:Sr W p n c l) (g:Below W.heap.size W W'):Sr W' p n c l :=
 ⟨h.1,h.2.1,h.2.2.imp id fun ⟨b,e,t⟩=>⟨b,e,fun k=>(t k).next g⟩⟩
def Sorted2 (F:List Tm) (base:Nat) (w:World) (v':Value) (W':World):Prop :=
 ∃ l' p n c,v' = .slice p n c∧l'.Perm F∧(l'.Pairwise fun s t=>s.2≤t.2)∧Sr W' p n c l'∧Below base w W'
theorem surdOf_ok (l:List Tm) (v:Value) (base:Nat) (w:World) (ho:Ow w base 50 v l) (hbase:base≤w.heap.size) (h1000:l.length≤1000) (h16:(l.filter nz).length≤16)
  (hB:∀ t∈l.filter nz,Bq 60 t.1∧∃ m:Nat,t.2=(m:Rat)∧m<tenTo 40) :
  Calls Tryz.prog 89 #[v] w fun e W'=>∃ v',e = .returned (.tuple #[v',.int .i64 0])∧Sorted2 (l.filter nz) base w v' W':=by
 refine surdOf_core v w _ ((deleteFunc_ok l v base w ho hbase h1000).mono fun e W2 ⟨v',e1,o2,b2⟩ => ?_)
 generalize l.filter nz=F at *
 have hs2:base≤W2.heap.size:=Nat.le_trans hbase b2.size
 rcases o2.2 with ⟨rfl,hn⟩ | ⟨g,cap,cur,rfl,hb,hg,hc,_⟩
 ·have e:F = []:=List.eq_nil_of_length_eq_zero hn
  subst e
  refine ⟨none,0,0,e1,by decide,containsFunc_nil none 0 _ W2,fun W hW => ?_⟩
  refine (AnyF.slices_SortFunc_none Tryz.laysSortFunc none 0 _ W).mono fun e W' ⟨e3,e4⟩=>⟨e3,[],none,0,0,rfl,List.Perm.refl _,List.Pairwise.nil,⟨rfl,Nat.le_refl _,.inl ⟨rfl,rfl,rfl⟩⟩,?_⟩
  rw [e4];exact b2.trans (hW.mono hs2)
 ·have tl:Tl W2 g F:=by
   have hcl:=World.ownsRow.cells (show W2.ownsRow base 50 2 (.slice (some ⟨g,0,none⟩) F.length cap) F.length (tcs F) from o2) (g:=g) rfl
   have ha:∀ j,(⟨g,0,none⟩:Addr).add j=⟨g,j,none⟩:=fun j=>by unfold Addr.add;split <;> simp_all
   exact ⟨lt_of_block hg,fun j hj=>by rw [←ha,Nat.mul_comm];exact hcl _ _ (tcs_at F j hj).1,fun j hj=>by rw [←ha,Nat.mul_comm];exact hcl _ _ (tcs_at F j hj).2⟩
  have fr:=fun i=>o2.frozen i
  refine ⟨_,F.length,cap,e1,h16,containsFunc_no F g F.length cap W2 rfl (by omega) tl (fun t ht => ?_),fun W hW => ?_⟩
  ·obtain ⟨h1,m,e,h2⟩:=hB t ht
   exact ⟨h1,by rw [e];exact bqN h2 (by decide)⟩
  ·refine (sortFunc_ok F g F.length cap W rfl (by omega) (tl.next hW) (fun i=>(hW.frozen (p:=⟨g,i,none⟩) tl.lt).trans (fr i)) fun t ht=>(hB t ht).2).mono fun e W' ⟨e3,l',p1,p2,p3,p4⟩ =>
    ⟨e3,l',_,F.length,cap,rfl,p1,p2,⟨p1.length_eq.symm,hc,.inr ⟨g,rfl,fun _=>p3⟩⟩,?_⟩
   refine (b2.trans (hW.mono hs2)).grown p4 (Nat.le_trans hs2 hW.size) fun k hk => ?_
   cases hk;exact hb
end Go.Proofs.YtjdfjgfdbgmbiaaGreatDoor.T
namespace Go.Proofs.YtjdfjgfdbgmbiaaGreatDoor.T
open Go.Proofs.YtjdfjgfdbgmbiaaGreatDoor Go Go.RowKit Go.Proofs
theorem grow_ok (n:Nat) (w:World) (hn:n≤100000) :
  Calls Tryz.prog 103 #[.slice none 0 0,.int .i64 n] w fun e W'=>∃ v,e = .returned v∧W'.ownsRow w.heap.size 50 2 v 0 []∧Below w.heap.size w W':=by
 obtain ⟨i0,hi,hz0,hz1,hz2⟩:=info_parts info_term
 rcases Nat.eq_zero_or_pos n with rfl | hp
 ·refine (Any8.slices_Grow_room Tryz.laysGrow none 0 0 0 w (by decide) (by decide) (by decide) (by decide)).mono fun e W' ⟨e1,e2⟩=>⟨_,e1,World.ownsRow_nil _ _ _ _,?_⟩
  rw [e2];exact Below.refl _ _
 ·refine (Any8.slices_Grow_grow Tryz.laysGrow i0 (.agg #[.string ⟨#[]⟩,.string ⟨#[]⟩]) hi hz0 (by omega) none 0 0 n [] w (by decide) (by omega) (by rw [hz2];omega) (by omega) (by simp) (fun _=>rfl) (fun a h=>by cases h)).mono fun e W' ⟨e1,e2⟩ => ?_
  rw [show Tryz.laysGrow_ren.t 25=50 from rfl] at e1 e2
  refine ⟨_,e1,?_,?_⟩
  ·rw [e2]
   have hge:=grownCap_ge w (0+n) 0 50
   refine World.ownsRow_made w.drew _ _ (Nat.le_refl _) (grownCap_le_maxLen w (0+n) 0 50 (by unfold maxLen;omega)) ?_
   have hz:(Value.agg #[.string ⟨#[]⟩,.string ⟨#[]⟩]).cells.size=2:=rfl
   show (_:Array Value).size=grownCap w (0+n) 0 50*2
   simp only [Array.size_append,size_zeroCells,hz,List.size_toArray,List.length_nil]
   omega
  ·rw [e2]
   exact ((Below.refl _ w).drew).alloc (Nat.le_refl _) _
def Ap (W:World) (p:Option Addr) (n c:Nat) (xs:List Value):Prop :=
 xs.length=n*2∧(∀ u∈xs,u.oneCell'=true)∧((p=none∧n=0∧c=0)∨∃ b,p=some ⟨b,0,none⟩∧∀ j u,xs[j]? = some u→W.cell? ((⟨b,0,none⟩:Addr).add j)=some u)
theorem Sr.ap {W:World} {p:Option Addr} {n c:Nat} {l:List Tm} (h:Sr W p n c l):Ap W p n c (tcs l):=by
 obtain ⟨h1,h2,h3⟩:=h
 refine ⟨by rw [tcs_len,h1],fun u hu => ?_,?_⟩
 ·obtain ⟨t,_,ht⟩:=List.mem_flatMap.1 hu
  simp [tc] at ht
  rcases ht with rfl | rfl <;> rfl
 ·rcases h3 with ⟨e1,e2,e3⟩ | ⟨b,e,t⟩
  ·subst e3;exact .inl ⟨e1,h1,e2⟩
  ·refine .inr ⟨b,e,fun j u hu => ?_⟩
   have hj:=(List.getElem?_eq_some_iff.1 hu).1
   rw [tcs_len] at hj
   have t':=t (by omega)
   have ha:(⟨b,0,none⟩:Addr).add j=⟨b,j,none⟩:=by unfold Addr.add;split <;> simp_all
   rw [ha]
   have h2:j % 2=0∨j % 2=1:=by omega
   rcases h2 with k | k
   ·have a1:=(tcs_at l (j / 2) (by omega)).1
    rw [show 2*(j / 2)=j by omega,hu] at a1
    have a2:=t'.c0 (j / 2) (by omega)
    rw [show j / 2*2=j by omega] at a2
    rw [a2,a1]
   ·have a1:=(tcs_at l (j / 2) (by omega)).2
    rw [show 2*(j / 2)+1=j by omega,hu] at a1
    have a2:=t'.c1 (j / 2) (by omega)
    rw [show j / 2*2+1=j by omega] at a2
    rw [a2,a1]
theorem Ap.next {W W':World} {p:Option Addr} {n c:Nat} {xs:List Value} (h:Ap W p n c xs) (g:Below W.heap.size W W'):Ap W' p n c xs :=
 ⟨h.1,h.2.1,h.2.2.imp id fun ⟨b,e,k⟩=>⟨b,e,fun j u hu=>(g.cell (p:=(⟨b,0,none⟩:Addr).add j) (World.block_lt_of_cell? W _ (k j u hu))).trans (k j u hu)⟩⟩
end Go.Proofs.YtjdfjgfdbgmbiaaGreatDoor.T
