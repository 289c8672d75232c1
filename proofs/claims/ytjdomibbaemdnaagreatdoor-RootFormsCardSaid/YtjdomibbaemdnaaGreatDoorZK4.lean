/- Parts of the proof of the text YtjdomibbaemdnaaGreatDoorZK42. -/
import Derived.RangeFuncNested
import Derived.RangeFuncBound
import Derived.RangeFuncCalls
import Derived.RangeFuncLeaves
import Derived.RangeFuncBox
import Derived.Shelf.Abstract
import Derived.OwnWalkIn
import Derived.TacticsInMore
import Derived.LoopNIn
import Derived.LoopIn
import Derived.Maps.AppendAt
import Derived.Test.YtjdomibbaemdnaaGreatDoorZK1
import Derived.Test.YtjdomibbaemdnaaGreatDoorZK3
set_option linter.all false
set_option maxRecDepth 100000
set_option maxHeartbeats 8000000
namespace Go.Proofs.YtjdomibbaemdnaaGreatDoor
section
open Go.RowKit Go.Shelf
attribute [local go_sem] Oper.semAt_some
abbrev Dg:={ x:Nat // x<1000000000 }
def rd (l:List UInt8):List Dg :=
 if _h:l = [] then [] else ⟨ae (l.drop (l.length - 9)) % 1000000000,Nat.mod_lt _ (by decide)⟩::rd (l.take (l.length - 9))
termination_by l.length
decreasing_by
 have:=List.length_pos_iff.2 _h
 rw [List.length_take];omega
theorem nz:rd [] = []:=by rw [rd];rfl
theorem s5 {l:List UInt8} (h:l ≠ []):rd l=⟨ae (l.drop (l.length - 9)) % 1000000000,Nat.mod_lt _ (by decide)⟩::rd (l.take (l.length - 9)):=by
 rw [rd,dif_neg h]
def gm (l:List Dg):List Nat:=l.map (·.1)
theorem rG (l:List Dg):Dig (gm l):=fun x hx=>by
 obtain ⟨y,_,rfl⟩:=List.mem_map.1 hx
 exact y.2
theorem oR (n:Nat):∀ l:List UInt8,l.length≤n→(rd l).length≤l.length:=by
 induction n with
 | zero=>intro l h;have:l = []:=List.eq_nil_of_length_eq_zero (by omega);subst this;rw [nz];simp
 | succ n ih =>
  intro l h
  by_cases h0:l = []
  ·subst h0;rw [nz];simp
  ·have hp:=List.length_pos_iff.2 h0
   rw [s5 h0,List.length_cons]
   have:=ih (l.take (l.length - 9)) (by rw [List.length_take];omega)
   rw [List.length_take] at this
   omega
theorem xn (n:Nat):∀ l:List UInt8,l.length≤n→(∀ c∈l,az c=true)→toN (gm (rd l))=ae l:=by
 induction n with
 | zero=>intro l h _;have:l = []:=List.eq_nil_of_length_eq_zero (by omega);subst this;rw [nz];rfl
 | succ n ih =>
  intro l h hd
  by_cases h0:l = []
  ·subst h0;rw [nz];rfl
  ·have hp:=List.length_pos_iff.2 h0
   rw [s5 h0]
   have h1:=ih (l.take (l.length - 9)) (by rw [List.length_take];omega) (fun c hc=>hd c (List.mem_of_mem_take hc))
   simp only [gm,List.map_cons,toN]
   rw [show toN (List.map (fun x=>x.1) (rd (l.take (l.length - 9))))=ae (l.take (l.length - 9)) from h1]
   have h2:ae (l.drop (l.length - 9))<10 ^ 9:=Nat.lt_of_lt_of_le (a7 _ (fun c hc=>hd c (List.mem_of_mem_drop hc))) (Nat.pow_le_pow_right (by decide) (by rw [List.length_drop];omega))
   rw [Nat.mod_eq_of_lt h2]
   conv=>rhs;rw [←List.take_append_drop (l.length - 9) l,gX]
   by_cases h9:l.length≤9
   ·rw [show l.length - 9=0 by omega];simp [ae]
   ·rw [List.length_drop,show l.length - (l.length - 9)=9 by omega,dH,Nat.mul_comm,Nat.add_comm]
def KpS (Bn:Nat) (s:ByteArray) (W W':World):Prop:=W.cell? ⟨Bn,0,none⟩=some (.string s)→W'.cell? ⟨Bn,0,none⟩=some (.string s)
theorem KpS.t {Bn:Nat} {s:ByteArray} {A B C:World} (h:KpS Bn s A B) (k:KpS Bn s B C):KpS Bn s A C:=fun x=>k (h x)
theorem iN {W:World} {l:Nat} {o o':Obj} {a:Addr} {v:Value} (h:W.cell? a=some v) (hl:W.heap[l]? = some o) (ho:o.isCells=false):(W.putObj l o').cell? a=some v:=by
 have hne:a.block≠l:=by
  intro e
  unfold World.cell? at h
  rw [e,hl] at h
  cases o <;> simp_all [Obj.isCells]
 exact (World.cell?_of_block (World.putObj_heap_other hne)).trans h
theorem KpS.b {Bn:Nat} {s:ByteArray} {w:World} (W:World) (l:Nat) (o o':Obj) (_:w.heap.size≤l) (h:W.heap[l]? = some o) (hc:o.isCells=false) (_:o.isWalk=false):KpS Bn s W (W.putObj l o'):=fun hx=>iN hx h hc
theorem y5 (s:ByteArray) (e:Nat) (he:e≤s.size) (h0:e≠0) (hd:∀ c∈s.data.toList,az c=true) :
  ∃ x:Dg,x.1=ae (s.extract (e - 9) e).data.toList∧rd (s.data.toList.take e)=x::rd (s.data.toList.take (e - 9)):=by
 have hl:(s.data.toList.take e).length=e:=by rw [List.length_take,ac];omega
 have hne:s.data.toList.take e ≠ []:=by intro h;rw [h] at hl;simp at hl;omega
 have e1:(s.data.toList.take e).drop (e - 9)=(s.extract (e - 9) e).data.toList:=by
  rw [Lib.extract_data,List.drop_take]
 refine ⟨⟨ae ((s.data.toList.take e).drop (e - 9)) % 1000000000,Nat.mod_lt _ (by decide)⟩,?_,?_⟩
 ·show ae ((s.data.toList.take e).drop (e - 9)) % 1000000000=_
  rw [←e1]
  refine Nat.mod_eq_of_lt ?_
  refine Nat.lt_of_lt_of_le (a7 _ (fun c hc=>hd c (List.mem_of_mem_take (List.mem_of_mem_drop hc)))) ?_
  exact Nat.le_trans (Nat.pow_le_pow_right (by decide) (by rw [List.length_drop,hl];omega)) (show 10 ^ 9≤1000000000 by decide)
 ·rw [s5 hne,hl,List.take_take,Nat.min_eq_left (by omega)]
theorem s6 (n:Nat) (hn:1≤n) (l Bn:Nat) (s:ByteArray) (hs:s.size≤1000000) (hd:∀ c∈s.data.toList,az c=true) (J Jx:List Dg→World→Prop)
  (hY:∀ pre x W,J pre W→pre.length<(rd s.data.toList).length→YieldAt Fence.wide (n - 1) Tryz.prog l #[.int .u64 (x.1:Nat)] W fun e W' =>
   (e = .returned (.bool true)∧J (pre ++ [x]) W'∧KpS Bn s W W')∨(e = .returned (.bool false)∧Jx (pre ++ [x]) W'))
  (W:World) (hBn:W.cell? ⟨Bn,0,none⟩=some (.string s)) (h0:J [] W) :
  CallsIn Fence.wide n Tryz.prog 237 #[.func (.yield l) #[] #[],.pointer (some ⟨Bn,0,none⟩)] W fun e W'=>(∃ v,e = .returned v) ∧
   ((∃ ys,ys=rd s.data.toList∧J ys W')∨(∃ pre,pre <+: rd s.data.toList∧Jx pre W')):=by
 have HY:=Ha hY;clear hY
 have HD:=Ha hd;clear hd
 refine callsIn_of_wp Tryz.func237 rfl trivial ?_ rfl
 simp only [Tryz.ntmps237,List.size_toArray,List.length_cons,List.length_nil,Nat.reduceAdd,Nat.reduceSub,Array.replicate_succ,Array.replicate_zero,List.push_toArray,List.append_toArray,List.nil_append,List.cons_append]
 gi_wp2
 gi_loopw [3] (fun p wr=>∃ (pre:List Dg) (z:Int),p = .int .i64 z ∧ -9≤z∧z≤s.size∧Hid (rd s.data.toList=pre++rd (s.data.toList.take z.toNat))∧J pre wr∧wr.cell? ⟨Bn,0,none⟩=some (.string s))
  (fun p wr=>(intOf p).toNat)
 case atStart =>
  exact ⟨[],s.size,rfl,by omega,by omega,by show rd _=_;rw [Int.toNat_natCast,List.take_of_length_le (by rw [ac];omega)];rfl,h0,hBn⟩
 case round =>
  clear h0 hBn
  obtain ⟨pre,z,rfl,hz9,he,hx,hJs,hc⟩:=hrel
  by_cases h0:z≤0
  ·have hx2:Hid (rd s.data.toList=pre):=by
    show rd s.data.toList=pre
    rw [hx.out,show z.toNat=0 by omega];simp [nz]
   clear hx
   gi_wp2
   go_end0
   exact ⟨⟨_,rfl⟩,.inl ⟨pre,hx2.out.symm,hJs⟩⟩
  ·obtain ⟨e,rfl⟩:∃ e:Nat,z=e:=⟨z.toNat,by omega⟩
   rw [Int.toNat_natCast] at hx
   have he:e≤s.size:=by omega
   have h0:e≠0:=by omega
   obtain ⟨x,hxv,hrd⟩:=y5 s e he h0 HD.out
   have hsz:(s.extract (e - 9) e).size≤18:=by rw [ByteArray.size_extract];omega
   have hdd:∀ c∈(s.extract (e - 9) e).data.toList,az c=true:=fun c hc=>by
    rw [Lib.extract_data] at hc;exact HD.out c (List.mem_of_mem_drop (List.mem_of_mem_take hc))
   have c:=gw (s.extract (e - 9) e) wr hsz hdd
   rw [←hxv] at c
   have C:=Ha c;clear c hdd hsz
   have hx2:Hid (rd s.data.toList=(pre ++ [x])++rd (s.data.toList.take (e - 9))):=by
    show rd s.data.toList=_
    rw [hx.out,hrd];simp
   have hlen:pre.length<(rd s.data.toList).length:=by rw [hx2.out];simp
   obtain ⟨fn,tmps,assign,body,hy,hR⟩:=HY.out pre x wr hJs hlen
   obtain ⟨xv,hxb⟩:=x
   dsimp only at hy
   have HR:=Ha hR
   clear hxv hrd hx hlen hR
   have em:(max 0 ((e:Int) - 9)).toNat=e - 9:=by omega
   have EM:=Ha em;clear em
   gi_wp2_with fail
   rw [EM.out]
   refine ⟨trivial,?_⟩
   refine (callsIn_wide.2 C.out).mono ?_
   rintro e' w' ⟨rfl,rfl⟩
   clear C
   gi_wp2
   refine HR.out.mono ?_
   clear HR
   rintro e' W3 (⟨rfl,hJ3,hk3⟩ | ⟨rfl,hJx3⟩)
   ·have hc3:W3.cell? ⟨Bn,0,none⟩=some (.string s):=hk3 hc
    gi_wp2
    go_roundw
    case rel=>exact ⟨pre ++ [⟨xv,hxb⟩],(e:Int) - 9,rfl,by omega,by omega,by rw [show ((e:Int) - 9).toNat=e - 9 by omega];exact hx2,hJ3,hc3⟩
    case measure=>simp [intOf];omega
   ·gi_wp2
    refine bodyPost_ret (results_none rfl _ _ _) rfl ?_
    exact ⟨⟨_,rfl⟩,.inr ⟨pre ++ [⟨xv,hxb⟩],⟨_,hx2.out.symm⟩,hJx3⟩⟩
theorem kF (n:Nat) (hn:1≤n) (Bn:Nat) (s:ByteArray) (hs:s.size≤1000000) (hd:∀ c∈s.data.toList,az c=true) (w:World) (hBn:Bn<w.heap.size)
  (hc:w.cell? ⟨Bn,0,none⟩=some (.string s)) :
  SeqStopsK Fence.wide n Tryz.prog 237 #[.pointer (some ⟨Bn,0,none⟩)] (fun x:Dg => #[Value.int .u64 (x.1:Nat)]) (KpS Bn s) (fun ys=>ys=rd s.data.toList) (fun pre=>pre <+: rd s.data.toList) (rd s.data.toList).length w:=fun l J Jx W hW _ _ hY h0 =>
 s6 n hn l Bn s hs hd J Jx hY W ((hW.cell (p:=⟨Bn,0,none⟩) hBn).trans hc) h0
theorem nA (s:ByteArray) (w:World) :
  Calls Tryz.prog 217 #[.string s] w fun e w'=>e = .returned (.func (.func 237) #[] #[.pointer (some ⟨w.heap.size,0,none⟩)])∧w'=w.alloc (.cells #[.string s] 9):=by
 go_enter Tryz.func217,Tryz.ntmps217
 go_wp2
 go_ret
 exact ⟨rfl,rfl⟩
theorem di:(Tryz.prog.info? 143).map (fun i=>(i.zero,i.size,i.bytes))=some (some (.int .u64 0),1,8):=by kernel_rfl
theorem bg {w:World} {base:Nat} {v:Value} {l:List Nat} {e:TypeId} (h:w.ownsRow base e 1 v l.length (l.map fun x=>Value.int .u64 (x:Nat))):Nats w v l:=by
 have h':=h
 obtain ⟨h1,h2⟩:=h
 rcases h2 with ⟨rfl,h3⟩ | ⟨g,cap,cur,rfl,hb,hh,hn,hcap,hsz,htk⟩
 ·have:l = []:=List.eq_nil_of_length_eq_zero h3
  subst this;exact Nats.nil w
 ·refine ⟨_,cap,rfl,hn,by unfold maxLen at hcap;omega,fun _=>⟨g,0,rfl,fun i hi => ?_⟩⟩
  have h3:=h'.cells (g:=g) rfl i (.int .u64 (l.getD i 0:Nat)) (by
   rw [List.getElem?_map,List.getElem?_eq_getElem hi,List.getD_eq_getElem?_getD,List.getElem?_eq_getElem hi];rfl)
  have hadd:(⟨g,0,none⟩:Addr).add i=⟨g,0+i,none⟩:=by unfold Addr.add;split <;> simp_all
  rwa [hadd] at h3
def ag (l:List Nat):List Value:=l.map fun x=>Value.int .u64 (x:Nat)
theorem bh (l:List Nat) (x:Nat):ag l ++ [Value.int .u64 (x:Nat)]=ag (l ++ [x]):=by simp [ag]
theorem oS (l:List Dg) (x:Dg):gm (l ++ [x])=gm l ++ [x.1]:=by simp [gm]
theorem lX (l:List Dg):(gm l).length=l.length:=by simp [gm]
theorem Nats.putObj {W:World} {l:Nat} {o o':Obj} {v:Value} {m:List Nat} (h:Nats W v m) (hl:W.heap[l]? = some o) (ho:o.isCells=false):Nats (W.putObj l o') v m:=by
 obtain ⟨p,cap,rfl,h1,h2,h3⟩:=h
 refine ⟨p,cap,rfl,h1,h2,fun hne => ?_⟩
 obtain ⟨b,off,e,hc⟩:=h3 hne
 exact ⟨b,off,e,fun i hi=>iN (hc i hi) hl ho⟩
theorem iy (s:ByteArray) (w:World) (hs:s.size≤1000000) (hd:∀ c∈s.data.toList,az c=true) :
  Calls Tryz.prog 174 #[.string s] w fun e W'=>∃ v,e = .returned v∧IsNat W' v (ae s.data.toList)∧Fresh w.heap.size v∧Below w.heap.size w W':=by
 refine (callsIn_wide (n:=9)).1 ?_
 have hlen:(rd s.data.toList).length≤1000000:=Nat.le_trans (oR _ _ (Nat.le_refl _)) (by rw [ac];exact hs)
 have hval:=xn _ s.data.toList (Nat.le_refl _) hd
 have HV:=Ha hval;clear hval
 have HD:=Ha hd;clear hd
 obtain ⟨i0,hi,hz0,hz1,hz2⟩:=info_parts di
 have HI:=Ha (Hb hi (Hb hz0 (Hb hz1 hz2)));clear hi hz0 hz1 hz2
 obtain ⟨m,hm⟩:∃ m:Nat,(s.size:Int) / 9+1=m:=⟨s.size / 9+1,by omega⟩
 have hm2:m≤1000000:=by omega
 have HM:=Ha hm;clear hm
 refine callsIn_of_wp_marks Tryz.func174 rfl trivial ?_ rfl
 simp only [Tryz.ntmps174,List.size_toArray,List.length_cons,List.length_nil,Nat.reduceAdd,Nat.reduceSub,Array.replicate_succ,Array.replicate_zero,List.push_toArray,List.append_toArray,List.nil_append,List.cons_append]
 gi_wp2_with (gi_at_make;refine wpListIn_make_own _ rfl _ _ 182 rfl w.heap.size 143 i0 (.int .u64 0) 1 Tryz.underlying182 HI.out.1 HI.out.2.1 HI.out.2.2.1 .i64 .i64 _ m rfl rfl HM.out (by rw [HI.out.2.2.2];omega) (by unfold maxLen;omega) (Nat.le_refl _) ?_;intro w1 hown hgrow)
 refine ⟨trivial,?_⟩
 refine (callsIn_wide.2 (nA s _)).mono ?_
 rintro e w' ⟨rfl,rfl⟩
 gi_wp2
 have bO:=Boxed.new w1 182 (.slice (some ⟨w.heap.size,0,none⟩) 0 m)
 have bS:=Boxed.new (w1.alloc (.cells #[.slice (some ⟨w.heap.size,0,none⟩) 0 m] 182)) 9 (.string s)
 rw [World.size_alloc] at bS
 have hsz1:w.heap.size≤w1.heap.size:=hgrow.size
 have hB0:Below w.heap.size w ((w1.alloc (.cells #[.slice (some ⟨w.heap.size,0,none⟩) 0 m] 182)).alloc (.cells #[.string s] 9)) :=
  (((Below.refl _ w).grown hgrow (Nat.le_refl _) (fun k e=>by cases e)).alloc hsz1 _).alloc (by simp;omega) _
 refine wpIn_rangeFunc_ownG rfl (by omega) (gf:=237) (lb := #[.pointer (some ⟨w1.heap.size+1,0,none⟩)]) rfl trivial (enters_of Tryz.func237 (by kernel_rfl) rfl)
  (kF (9 - 1) (by omega) (w1.heap.size+1) s hs HD.out _ (by simp) bS.cell) KpS.t KpS.b (Below.refl _ _) (fun _=>rfl)
  (fun pre W=>((∃ v,Boxed W w1.heap.size 182 v∧W.ownsRow w.heap.size 143 1 v (gm pre).length (ag (gm pre))∧True)∧Boxed W (w1.heap.size+1) 9 (.string s))∧Below w.heap.size w W)
  (fun _ _ _=>False)
  (OwnFrom.and (OwnFrom.and (Own.from (holdsRow_own w.heap.size w1.heap.size 182 143 1 (fun pre=>(gm pre).length) (fun pre=>ag (gm pre)) (fun _ _=>True)) _) (Own.from (boxed_own (w1.heap.size+1) 9 (fun _ => .string s)) _)) (ownFrom_below (Nat.le_refl _) (by simp;omega)))
  (fun _ _ _ _ _ hs _ _=>hs)
  ⟨⟨⟨_,bO.alloc _,(hown.alloc _).alloc _,trivial⟩,bS⟩,hB0⟩
  (fun x=>{ tmps := #[.string s,undef,.slice none 0 0,.pointer (some ⟨w1.heap.size,0,none⟩),.int .u64 (x.1:Nat),.string s,.int .i64 s.size,.int .i64 ((s.size:Int) / 9),.int .i64 ((s.size:Int) / 9+1),.slice (some ⟨w.heap.size,0,none⟩) 0 m,.string s,.func (.func 237) #[] #[.pointer (some ⟨w1.heap.size+1,0,none⟩)],.int .u64 (x.1:Nat),undef,undef,undef,undef,undef,undef],defers := [] }) ?assign ?body ?done ?stop
 case assign =>
  clear hown bO bS hB0 hgrow
  intro l x W K hK
  gi_wp2
  exact hK
 case body =>
  clear hown bO bS hB0 hgrow
  rintro l pre x W ⟨⟨⟨v,hv,hrow,_⟩,hS⟩,hB⟩ hlt
  have hc:=hv.cell
  have hp:=lX pre
  have HP:=Ha hp;clear hp
  have hpl:(gm pre).length≤1000000:=by rw [HP.out];omega
  obtain ⟨hi,hz0,hz1,hz2⟩:=HI.out
  gi_wp2_with (gi_at_builtin;refine wpListIn_append_own _ rfl _ _ 182 rfl w.heap.size 143 i0 (.int .u64 0) 1 8 Tryz.underlying182 hi hz0 hz1 hz2 rfl (by decide) _ _ _ rfl (hrow.alloc _) ⟨W.heap.size,0,none⟩ 1 1 [.int .u64 (x.1:Nat)] rfl rfl (cell_one_new _ _ _) (by simp [Value.oneCell']) (by unfold maxLen;omega) (by omega) (by have:=hB.size;simp;omega) ?_;intro v' w2 hown' hgrow _;obtain ⟨g',cap',rfl⟩:=ownsRow_succ hown';obtain ⟨hv1,hv2,hr2,hk2,hb2⟩:=hv.appended (by decide) hrow hB.size hsz1 hown' hgrow;have hS2:=(hS.alloc _).kept hgrow (hS.not_row (by decide) hrow);have hc1:=hv1.cell;have hf1:=hv1.frozen)
  have hS3:=hS2.other (B':=w1.heap.size) (by omega) (.slice (some ⟨g',0,none⟩) ((gm pre).length+1) cap')
  refine ⟨hk2.from _,fun _=>hS3.cell,⟨⟨_,hv2,?_,trivial⟩,hS3⟩,hB.trans hb2⟩
  rw [oS,←bh,List.length_append,List.length_singleton]
  exact hr2
 case done =>
  clear hown bO bS hB0 hgrow
  rintro D ys W hD rfl ⟨⟨⟨v,hv,hrow,_⟩,hS⟩,hB⟩ hK
  have hc:=hv.cell
  have hN:=bg hrow
  have ct:=eI v _ W hN (rG _)
  rw [HV.out] at ct
  have CT:=Ha ct;clear ct hN
  gi_wp2_with fail
  refine ⟨trivial,?_⟩
  refine (callsIn_wide.2 CT.out).mono ?_
  clear CT
  rintro e w' ⟨rfl,v',rfl,hN',ho⟩
  have HN:=Ha hN';clear hN'
  have HO:=Ha ho;clear ho
  gi_wp2
  refine ⟨by simp,.inl ⟨_,_,rfl,run_takeDeferred hK,?_⟩⟩
  exact ⟨_,results_tmp rfl _ _ _,v',rfl,HN.out.putObj hK rfl,fun k hk=>by rw [HO.out] at hk;exact (hrow.lt k hk).1,hB.trans (belowK_b (w:=w) (Nat.le_refl _) W D _ _ (by simp at hD;omega) hK rfl rfl)⟩
 case stop =>
  rintro D c pre W _ _ h _
  exact h.elim
end
section
open Go.RowKit
theorem y6 (s:ByteArray) (hs:s.size≤1000000):(szB s).size≤1000000:=Nat.le_trans (fE s) hs
theorem Nats.setCell {w:World} {v:Value} {l:List Nat} {base:Nat} (h:Nats w v l) (hf:Fresh base v) {a:Addr} (ha:a.block<base) (u:Value):Nats (w.setCell a u) v l:=by
 obtain ⟨p,cap,rfl,h1,h2,h3⟩:=h
 refine ⟨p,cap,rfl,h1,h2,fun hne => ?_⟩
 obtain ⟨b,off,e,hc⟩:=h3 hne
 refine ⟨b,off,e,fun i hi => ?_⟩
 have hb:base≤b:=hf b (by rw [e];rfl)
 exact (World.cell?_of_block (Below.heap_setCell _ _ _ _ (by show b≠a.block;omega))).trans (hc i hi)
theorem IsNat.setCell {w:World} {v:Value} {n base:Nat} (h:IsNat w v n) (hf:Fresh base v) {a:Addr} (ha:a.block<base) (u:Value):IsNat (w.setCell a u) v n:=Nats.setCell h hf ha u
theorem au {w:World} {b:Nat} {x0 x1:Value} (c0:w.cell? ⟨b,0,none⟩=some x0) (c1:w.cell? ⟨b,1,none⟩=some x1) (X Y:Value) :
  (w.setCell ⟨b,0,none⟩ X).cell? ⟨b,0,none⟩=some X∧((w.setCell ⟨b,0,none⟩ X).setCell ⟨b,1,none⟩ Y).cell? ⟨b,1,none⟩=some Y:=by
 have h0:(w.setCell ⟨b,0,none⟩ X).cell? ⟨b,0,none⟩=some X:=World.cell?_setCell_same' _ _ _ (by rw [c0];rfl)
 refine ⟨h0,World.cell?_setCell_same' _ _ _ ?_⟩
 have:(w.setCell ⟨b,0,none⟩ X).cell? ⟨b,1,none⟩=some x1:=by go_cell
 rw [this];rfl
theorem bM (s:ByteArray) (w:World) (hs:s.size≤1000000) (hc:chk s.data.toList=0) :
  Calls Tryz.prog 159 #[.string s] w fun e W'=>∃ v,e = .returned (.agg #[.bool (ap s.data.toList),v])∧IsNat W' v (ae (szL s.data.toList))∧Fresh w.heap.size v∧Below w.heap.size w W':=by
 have hd:=bY hc
 clear hc
 have c:=fun w=>iy (szB s) w (y6 s hs) (by rw [bU];exact hd)
 rw [bU] at c
 have C:=Ha c;clear c hd
 generalize ae (szL s.data.toList)=n at *
 have k0:=cell_two_new w (.bool false) (.slice none 0 0) 184
 go_enter Tryz.func159,Tryz.ntmps159
 go_wp2_with fail
 refine (bT s _).mono ?_
 rintro e w' ⟨rfl,rfl⟩
 go_wp2_with fail
 refine (dj s _ (by unfold maxLen;omega)).mono ?_
 rintro e w' ⟨rfl,rfl⟩
 go_wp2_with fail
 refine (C.out _).mono ?_
 rintro e w1 ⟨v,rfl,hv,hf,hb⟩
 clear C
 obtain ⟨p,cap,hv1,_⟩:=id hv
 subst hv1
 have c0:w1.cell? ⟨w.heap.size,0,none⟩=some (.bool false):=(hb.cell (p:=⟨w.heap.size,0,none⟩) (by simp)).trans (by go_cell)
 have c1:w1.cell? ⟨w.heap.size,1,none⟩=some (.slice none 0 0):=(hb.cell (p:=⟨w.heap.size,1,none⟩) (by simp)).trans (by go_cell)
 have f0:w1.frozen? ⟨w.heap.size,0,none⟩=false:=(hb.frozen (p:=⟨w.heap.size,0,none⟩) (by simp)).trans (by simp [go_sem])
 have f1:w1.frozen? ⟨w.heap.size,1,none⟩=false:=(hb.frozen (p:=⟨w.heap.size,1,none⟩) (by simp)).trans (by simp [go_sem])
 have HV:=Ha (Hb hv (Hb hf hb));clear hv hf hb
 clear k0
 have hback:=au c0 c1 (.bool (ap s.data.toList)) (.slice p (dg n).length cap)
 obtain ⟨b0,b1⟩:=hback
 go_wp2
 refine bodyPost_ret (v := .agg #[.bool (ap s.data.toList),.slice p (dg n).length cap]) (by simp [results,Tryz.results159,go_sem,b0,b1]) rfl ?_
 refine ⟨_,rfl,?_⟩
 obtain ⟨hv,hf,hb⟩:=HV.out
 have hf':Fresh (w.heap.size+1) (.slice p (dg n).length cap):=hf.mono (by simp)
 refine ⟨(hv.setCell hf' (Nat.lt_succ_self _) _).setCell hf' (Nat.lt_succ_self _) _,hf'.mono (by omega),?_⟩
 exact ((((Below.refl _ w).alloc (Nat.le_refl _) _).trans (hb.mono (by simp))).setCell (p:=⟨w.heap.size,0,none⟩) (Nat.le_refl _) _).setCell (p:=⟨w.heap.size,1,none⟩) (Nat.le_refl _) _
end
section
theorem getD_lt {l:List Nat} {k:Nat} (h:k<l.length):l.getD k 0=l[k]:=by
 rw [List.getD_eq_getElem?_getD,List.getElem?_eq_getElem h];rfl
theorem ml (l:List Nat) (k d:Nat) (h:k<l.length):toN (l.set k d)+B ^ k*l.getD k 0=toN l+B ^ k*d:=by
 induction l generalizing k with
 | nil=>simp at h
 | cons a r ih =>
  cases k with
  | zero=>simp [toN];omega
  | succ k =>
   have h1:=ih k (by simpa using h)
   simp only [List.set_cons_succ,toN,List.getD_cons_succ,Nat.pow_succ]
   have h2:B*toN (r.set k d)+B*(B ^ k*r.getD k 0)=B*toN r+B*(B ^ k*d):=by rw [←Nat.mul_add,←Nat.mul_add,h1]
   rw [Nat.mul_comm (B ^ k) B,Nat.mul_assoc,Nat.mul_assoc]
   omega
theorem Dig.set {l:List Nat} (h:Dig l) (k:Nat) {d:Nat} (hd:d<1000000000):Dig (l.set k d):=fun x hx=>by
 rcases List.mem_or_eq_of_mem_set hx with hx | rfl
 ·exact h x hx
 ·exact hd
theorem getD_set_ne (l:List Nat) (k m d:Nat) (h:k≠m):(l.set k d).getD m 0=l.getD m 0:=by
 rw [List.getD_eq_getElem?_getD,List.getD_eq_getElem?_getD,List.getElem?_set_ne h]
theorem eZ {x y:Nat} (hx:x<1000000000) (hy:y<1000000000):x*y≤999999998000000001:=by
 have:=Nat.mul_le_mul (show x≤999999999 by omega) (show y≤999999999 by omega)
 omega
theorem iH {o:List Nat} {k x y c:Nat} (hk:k<o.length) (ho:Dig o) (hx:x<1000000000) (hy:y<1000000000) (hc:c<1000000000) :
  let t:=o.getD k 0+x*y+c
  t / 1000000000<1000000000∧t % 1000000000<1000000000∧toN (o.set k (t % 1000000000))+B ^ (k+1)*(t / 1000000000)=toN o+B ^ k*(x*y+c):=by
 intro t
 have h1:=eZ hx hy
 have h2:=ho.getD k
 have h3:t<1000000000*1000000000:=by show o.getD k 0+x*y+c<_;omega
 refine ⟨by omega,by omega,?_⟩
 have h4:=ml o k (t % 1000000000) hk
 have h5:B ^ k*t=B ^ k*(t % 1000000000)+B ^ (k+1)*(t / 1000000000):=by
  rw [Nat.pow_succ,Nat.mul_assoc,←Nat.mul_add,dH]
  congr 1
  omega
 have h6:B ^ k*t=B ^ k*o.getD k 0+B ^ k*(x*y+c):=by
  rw [←Nat.mul_add];congr 1;show o.getD k 0+x*y+c=_;omega
 omega
theorem vm {o:List Nat} {i j x c S:Nat} {b:List Nat} (hk:i+j<o.length) (hj:j<b.length) (ho:Dig o) (hb:Dig b) (hx:x<1000000000) (hc:c<1000000000)
  (h:toN o+B ^ (i+j)*c=S+B ^ i*(x*toN (b.take j))) :
  let t:=o.getD (i+j) 0+x*b.getD j 0+c
  toN (o.set (i+j) (t % 1000000000))+B ^ (i+(j+1))*(t / 1000000000)=S+B ^ i*(x*toN (b.take (j+1))):=by
 intro t
 obtain ⟨_,_,h3⟩:=iH hk ho hx (hb.getD j) hc
 rw [←Nat.add_assoc i j 1]
 refine h3.trans ?_
 rw [aB b j hj,Nat.mul_add x,Nat.mul_add (B ^ i),Nat.mul_add (B ^ (i+j))]
 have h4:B ^ i*(x*(B ^ j*b.getD j 0))=B ^ (i+j)*(x*b.getD j 0):=by
  rw [Nat.pow_add,Nat.mul_assoc];congr 1
  rw [←Nat.mul_assoc,←Nat.mul_assoc,Nat.mul_comm x]
 omega
theorem vn {o:List Nat} {i c:Nat} {a b:List Nat} (hi:i<a.length) (hk:i+b.length<o.length)
  (h:toN o+B ^ (i+b.length)*c=toN (a.take i)*toN b+B ^ i*(a.getD i 0*toN (b.take b.length))) (hz:o.getD (i+b.length) 0=0) :
  toN (o.set (i+b.length) c)=toN (a.take (i+1))*toN b:=by
 have h1:=ml o (i+b.length) c hk
 rw [hz,Nat.mul_zero,Nat.add_zero] at h1
 rw [List.take_length] at h
 rw [h1,h,aB a i hi,Nat.add_mul,Nat.mul_assoc (B ^ i)]
end
section
open Go.RowKit
def Row (w:World) (g:Nat) (l:List Nat):Prop:=w.heap[g]? = some (.cells (ag l).toArray 143 (0,0))
theorem Row.cell {w:World} {g:Nat} {l:List Nat} (h:Row w g l) {i:Nat} (hi:i<l.length):w.cell? ⟨g,i,none⟩=some (.int .u64 (l.getD i 0:Nat)):=by
 rw [cell_of_row w g i _ _ (0,0) h]
 simp [ag,hi]
theorem Row.frozen {w:World} {g:Nat} {l:List Nat} (h:Row w g l) (i:Nat):w.frozen? ⟨g,i,none⟩=false:=by
 unfold Row at h
 simp [World.frozen?, h]
theorem Row.set {w:World} {g:Nat} {l:List Nat} (h:Row w g l) (i:Nat) (x:Nat):Row (w.setCell ⟨g,i,none⟩ (.int .u64 (x:Nat))) g (l.set i x):=by
 unfold Row at h ⊢
 simp [World.setCell,Array.getElem?_modify,h,ag,List.map_set]
theorem Row.lt {w:World} {g:Nat} {l:List Nat} (h:Row w g l):g<w.heap.size:=(Array.getElem?_eq_some_iff.1 h).1
theorem Row.nats {w:World} {g:Nat} {l:List Nat} (h:Row w g l) {cap:Nat} (h1:l.length≤cap) (h2:cap≤9223372036854775807):Nats w (.slice (some ⟨g,0,none⟩) l.length cap) l :=
 Nats.of_cells h1 h2 (fun _ hi=>h.cell hi)
theorem jE (n:Nat):(madeCells (Value.int .u64 0).cells (n*1)).toList=ag (List.replicate n 0):=by
 rw [Nat.mul_one]
 have h:(Value.int .u64 0).cells = #[.int .u64 0]:=by simp [Value.cells]
 rw [h,toList_madeCells_one]
 simp [ag]
theorem Row.of_made {w:World} {base g n:Nat} (h:w.ownsRow base 143 1 (.slice (some ⟨g,0,none⟩) n n) n (madeCells (Value.int .u64 0).cells (n*1)).toList):Row w g (List.replicate n 0):=by
 rcases h.2 with ⟨h1,_⟩ | ⟨g',cap,cur,h1,_,hh,_,_,hsz,htk⟩
 ·cases h1
 ·simp only [Value.slice.injEq,Option.some.injEq,Addr.mk.injEq,true_and,and_true] at h1
  obtain ⟨rfl,rfl⟩:=h1
  rw [jE,List.take_of_length_le (by simp [hsz])] at htk
  unfold Row
  rw [hh,←htk]
theorem rH (va vb:Value) (la lb:List Nat) (w:World) (ha:Nats w va la) (hb:Nats w vb lb) (da:Dig la) (db:Dig lb) (hla:la.length≤1000000) (hlb:lb.length≤1000000) :
  Calls Tryz.prog 203 #[va,vb] w fun e W'=>∃ v,e = .returned v∧IsNat W' v (toN la*toN lb)∧Fresh w.heap.size v∧Below w.heap.size w W':=by
 obtain ⟨pa,capa,rfl,ha1,ha2,ha3⟩:=ha
 obtain ⟨pb,capb,rfl,hb1,hb2,hb3⟩:=hb
 have HA:=Ha ha3;clear ha3
 have HB:=Ha hb3;clear hb3
 obtain ⟨i0,hi,hz0,hz1,hz2⟩:=info_parts di
 have HI:=Ha (Hb hi (Hb hz0 (Hb hz1 hz2)));clear hi hz0 hz1 hz2
 have HD:=Ha (Hb da db);clear da db
 go_enter Tryz.func203,Tryz.ntmps203
 go_wp2_with (at_make;refine wpList_make_full _ rfl _ _ 182 rfl w.heap.size 143 i0 (.int .u64 0) 1 Tryz.underlying182 HI.out.1 HI.out.2.1 HI.out.2.2.1 .i64 .i64 _ _ (la.length+lb.length) rfl rfl (by omega) (by omega) (by rw [HI.out.2.2.2];omega) (by unfold maxLen;omega) (Nat.le_refl _) ?_;intro w1 hown hgrow)
 have hrow:=Row.of_made hown
 have hB1:Below w.heap.size w w1:=(Below.refl _ w).grown hgrow (Nat.le_refl _) (fun k e=>by cases e)
 have hgl:=hrow.lt
 clear hown hgrow
 generalize hg:w.heap.size=g at *
 have HG:=Ha hg;clear hg
 go_loopw [20] (fun x wr=>∃ (k:Nat) (o:List Nat),k≤la.length∧x = .int .i64 k∧Row wr g o∧o.length=la.length+lb.length∧Hid (Dig o)∧Hid (toN o=toN (la.take k)*toN lb)∧Hid (∀ m,k+lb.length≤m→o.getD m 0=0)∧Below g w wr)
  (fun x _=>la.length - (intOf x).toNat)
 case atStart =>
  exact ⟨0,List.replicate (la.length+lb.length) 0,Nat.zero_le _,rfl,hrow,List.length_replicate,Dig.replicate _,by show toN _=_;rw [dw];simp [toN],fun m _=>by rw [List.getD_eq_getElem?_getD,List.getElem?_replicate];split <;> rfl,hB1⟩
 case round =>
  clear hrow hB1 hgl
  obtain ⟨k,o,hk,rfl,hrow,hlen,hdig,hval,hzero,hbel⟩:=hrel
  by_cases hlt:k<la.length
  ·obtain ⟨ab,aoff,rfl,hca⟩:=HA.out (by intro e;subst e;simp at hlt)
   have hx:=HD.out.1.getD k
   have ca0:=hca k hlt
   have cax:wr.cell? ⟨ab,aoff+k,none⟩=some (.int .u64 (la.getD k 0:Nat)):=(hbel.cell (p:=⟨ab,aoff+k,none⟩) (by rw [←HG.out];exact World.block_lt_of_cell? w _ ca0)).trans ca0
   clear ca0 hca
   have hstart:Hid (toN o+B ^ (k+0)*0=toN (la.take k)*toN lb+B ^ k*(la.getD k 0*toN (lb.take 0))):=by
    show toN o+B ^ (k+0)*0=_
    rw [hval.out];simp [toN]
   clear hval
   have HO:=Ha (fun o c=>vn (o:=o) (c:=c) (a:=la) (b:=lb) (i:=k) hlt)
   have HI2:=Ha (fun o j c h1 h2 h3 h4 h=>vm (o:=o) (i:=k) (j:=j) (x:=la.getD k 0) (c:=c) (S:=toN (la.take k)*toN lb) (b:=lb) h1 h2 h3 HD.out.2 hx h4 h)
   have HS:=Ha (fun o j c (h1:k+j<List.length o) h2 h4=>iH (o:=o) (k:=k+j) (x:=la.getD k 0) (y:=lb.getD j 0) (c:=c) h1 h2 hx (HD.out.2.getD j) h4)
   generalize la.getD k 0=x at *
   obtain ⟨wo,hwo⟩:∃ wo:World,wo=wr:=⟨_,rfl⟩
   subst hwo
   go_wp2
   go_loopw [8,27] (fun y z wr=>∃ (c j:Nat) (o:List Nat),j≤lb.length∧y = .int .u64 c∧z = .int .i64 j∧c<1000000000∧Row wr g o∧o.length=la.length+lb.length∧Hid (Dig o) ∧
     Hid (toN o+B ^ (k+j)*c=toN (la.take k)*toN lb+B ^ k*(x*toN (lb.take j)))∧Hid (∀ m,k+lb.length≤m→o.getD m 0=0)∧Below g w wr)
    (fun _ z _=>lb.length - (intOf z).toNat)
   case atStart=>exact ⟨0,0,o,Nat.zero_le _,rfl,rfl,by omega,hrow,hlen,hdig,hstart,hzero,hbel⟩
   case round =>
    clear hrow hlen hdig hstart hzero hbel cax o
    obtain ⟨c,j,o,hj,rfl,rfl,hc,hrow,hlen,hdig,hval,hzero,hbel⟩:=hrel
    by_cases hjl:j<lb.length
    ·obtain ⟨bb,boff,rfl,hcb⟩:=HB.out (by intro e;subst e;simp at hjl)
     have hy:=HD.out.2.getD j
     have cb0:=hcb j hjl
     have cbx:wr.cell? ⟨bb,boff+j,none⟩=some (.int .u64 (lb.getD j 0:Nat)):=(hbel.cell (p:=⟨bb,boff+j,none⟩) (by rw [←HG.out];exact World.block_lt_of_cell? w _ cb0)).trans cb0
     clear cb0 hcb
     have hko:k+j<o.length:=by omega
     have co:=hrow.cell hko
     have hd:=hdig.out.getD (k+j)
     have fo:=hrow.frozen (k+j)
     have S1:=HS.out o j c hko hdig.out hc
     have S2:=HI2.out o j c hko hjl hdig.out hc hval.out
     have hxy:=eZ hx hy
     generalize o.getD (k+j) 0=d at *
     generalize lb.getD j 0=y at *
     have hP0:0≤(x:Int)*(y:Int):=by rw [←Int.natCast_mul];omega
     have hP1:(x:Int)*(y:Int)≤999999998000000001:=by rw [←Int.natCast_mul];omega
     have hT:(((d+x*y+c:Nat)):Int)=(d:Int)+(x:Int)*(y:Int)+(c:Int):=by rw [Int.natCast_add,Int.natCast_add,Int.natCast_mul]
     have hT1:((((d+x*y+c) / 1000000000:Nat)):Int)=((d:Int)+(x:Int)*(y:Int)+(c:Int)) / 1000000000:=by rw [Int.natCast_ediv,hT];rfl
     have hT2:((((d+x*y+c) % 1000000000:Nat)):Int)=((d:Int)+(x:Int)*(y:Int)+(c:Int)) % 1000000000:=by rw [Int.natCast_emod,hT];rfl
     have HT1:=Ha hT1
     have HT2:=Ha hT2
     have R1:=Ha S1;have R2:=Ha S2
     clear hT hT1 hT2 S1 S2 hxy
     have R3:=hrow.set (k+j) ((d+x*y+c) % 1000000000)
     rw [HT2.out] at R3
     have RR:=Ha R3;clear R3
     go_wp2
     go_roundw
     case rel =>
      obtain ⟨r1,r2,_⟩:=R1.out
      refine ⟨(d+x*y+c) / 1000000000,j+1,o.set (k+j) ((d+x*y+c) % 1000000000),by omega,by rw [HT1.out],by go_num,r1,RR.out,by rw [List.length_set];exact hlen,hdig.out.set _ r2,R2.out,?_,?_⟩
      ·exact fun m hm=>by rw [getD_set_ne _ _ _ _ (by omega)];exact hzero.out m hm
      ·exact hbel.setCell (p:=⟨g,k+j,none⟩) (Nat.le_refl _) _
     case measure=>simp [intOf];omega
    ·have ej:j=lb.length:=by omega
     subst ej
     have hk2:k+lb.length<o.length:=by omega
     have F1:=HO.out o c hk2 hval.out (hzero.out _ (Nat.le_refl _))
     have HF:=Ha F1;clear F1
     have co:=hrow.cell hk2
     have fo:=hrow.frozen (k+lb.length)
     have RR:=Ha (hrow.set (k+lb.length) c)
     clear hval
     go_wp2
     go_roundw
     case rel =>
      refine ⟨k+1,o.set (k+lb.length) c,by omega,by go_num,RR.out,by rw [List.length_set];exact hlen,hdig.out.set _ hc,HF.out,?_,?_⟩
      ·exact fun m hm=>by rw [getD_set_ne _ _ _ _ (by omega)];exact hzero.out m (by omega)
      ·exact hbel.setCell (p:=⟨g,k+lb.length,none⟩) (Nat.le_refl _) _
     case measure=>simp [intOf];omega
  ·have ek:k=la.length:=by omega
   have hv:toN o=toN la*toN lb:=by have:=hval.out;rwa [ek,List.take_length] at this
   have hN0:Nats wr (.slice (some ⟨g,0,none⟩) o.length (la.length+lb.length)) o:=hrow.nats (by omega) (by omega)
   have ct:=bv _ _ o wr hN0 hdig.out
   have hn:=hN0.take (aK hdig.out)
   clear hN0
   rw [hv] at ct hn
   rw [hlen] at ct
   have CT:=Ha ct
   have HN:=Ha hn
   clear hval hzero ct hn hv ek
   go_wp2_with fail
   refine CT.out.mono ?_
   clear CT
   rintro e w' ⟨rfl,rfl⟩
   go_wp2
   go_ret
   exact ⟨_,rfl,HN.out,fun k hk=>by cases hk;exact Nat.le_of_eq HG.out,by rw [HG.out];exact hbel⟩
end
section
def mkD (n:Nat):Dg:=⟨n % 1000000000,Nat.mod_lt _ (by decide)⟩
theorem jl {n:Nat} (h:n<1000000000):(mkD n).1=n:=Nat.mod_eq_of_lt h
def prs (la lb:List Nat) (k:Nat):List (Dg × Dg):=(List.range k).map fun i=>(mkD (la.getD i 0),mkD (lb.getD i 0))
theorem nB (la lb:List Nat) (k:Nat):prs la lb (k+1)=prs la lb k ++ [(mkD (la.getD k 0),mkD (lb.getD k 0))]:=by
 unfold prs;rw [List.range_succ,List.map_append];rfl
theorem dI (la lb:List Nat) (k:Nat):(prs la lb k).length=k:=by simp [prs]
def bi (st:Nat→Nat→Nat→Nat × Nat) (pre:List (Dg × Dg)):List Nat × Nat :=
 pre.foldl (fun oc p=>(oc.1 ++ [(st p.1.1 p.2.1 oc.2).1],(st p.1.1 p.2.1 oc.2).2)) ([],0)
theorem d9 (st:Nat→Nat→Nat→Nat × Nat) (pre:List (Dg × Dg)) (p:Dg × Dg) :
  bi st (pre ++ [p])=((bi st pre).1 ++ [(st p.1.1 p.2.1 (bi st pre).2).1],(st p.1.1 p.2.1 (bi st pre).2).2):=by
 unfold bi;rw [List.foldl_append];rfl
theorem dn (st:Nat→Nat→Nat→Nat × Nat) (pre:List (Dg × Dg)):(bi st pre).1.length=pre.length:=by
 induction pre using fz with
 | h0=>rfl
 | hs l p ih=>rw [d9,List.length_append,List.length_append,ih];rfl
def pZ (st:Nat→Nat→Nat→Nat × Nat):Prop:=∀ x y c,x<1000000000→y<1000000000→c≤1→(st x y c).1<1000000000∧(st x y c).2≤1
theorem iO {st:Nat→Nat→Nat→Nat × Nat} (h:pZ st) (pre:List (Dg × Dg)):Dig (bi st pre).1∧(bi st pre).2≤1:=by
 induction pre using fz with
 | h0=>exact ⟨Dig.nil,Nat.zero_le _⟩
 | hs l p ih =>
  rw [d9]
  have:=h p.1.1 p.2.1 (bi st l).2 p.1.2 p.2.2 ih.2
  exact ⟨ih.1.append (Dig.one this.1),this.2⟩
def ec (x y c:Nat):Nat × Nat:=if 1000000000≤x+y+c then (x+y+c - 1000000000,1) else (x+y+c,0)
def gn (x y c:Nat):Nat × Nat:=if x<y+c then (x+1000000000 - y - c,1) else (x - y - c,0)
theorem uc:pZ ec:=fun x y c hx hy hc=>by unfold ec;split <;> constructor <;> simp <;> omega
theorem ms:pZ gn:=fun x y c hx hy hc=>by unfold gn;split <;> constructor <;> simp <;> omega
theorem y7 (x y c:Nat):(ec x y c).1+1000000000*(ec x y c).2=x+y+c:=by unfold ec;split <;> simp <;> omega
theorem y8 (x y c:Nat) (hy:y<1000000000) (hc:c≤1):(gn x y c).1+y+c=x+1000000000*(gn x y c).2:=by unfold gn;split <;> simp <;> omega
theorem gg (l:List Nat) (k:Nat):toN (l.take (k+1))=toN (l.take k)+B ^ k*l.getD k 0:=by
 by_cases h:k<l.length
 ·exact aB l k h
 ·rw [List.take_of_length_le (by omega),List.take_of_length_le (by omega),List.getD_eq_getElem?_getD,List.getElem?_eq_none (by omega)];simp
theorem zc {la lb:List Nat} (ha:Dig la) (hb:Dig lb) (k:Nat) :
  toN (bi ec (prs la lb k)).1+B ^ k*(bi ec (prs la lb k)).2=toN (la.take k)+toN (lb.take k):=by
 induction k with
 | zero=>simp [prs,bi,toN]
 | succ k ih =>
  rw [nB,d9,aQ,dn,dI,gg,gg]
  simp only [jl (ha.getD k),jl (hb.getD k)]
  generalize bi ec (prs la lb k)=oc at *
  have h1:=y7 (la.getD k 0) (lb.getD k 0) oc.2
  generalize ec (la.getD k 0) (lb.getD k 0) oc.2=r at *
  have h2:B ^ k*r.1+B ^ (k+1)*r.2=B ^ k*la.getD k 0+B ^ k*lb.getD k 0+B ^ k*oc.2:=by
   rw [Nat.pow_succ,Nat.mul_assoc,←Nat.mul_add,←Nat.mul_add,←Nat.mul_add,dH,h1]
  omega
theorem zd {la lb:List Nat} (ha:Dig la) (hb:Dig lb) (k:Nat) :
  toN (bi gn (prs la lb k)).1+toN (lb.take k)=toN (la.take k)+B ^ k*(bi gn (prs la lb k)).2:=by
 induction k with
 | zero=>simp [prs,bi,toN]
 | succ k ih =>
  have hc:=(iO ms (prs la lb k)).2
  rw [nB,d9,aQ,dn,dI,gg,gg]
  simp only [jl (ha.getD k),jl (hb.getD k)]
  generalize bi gn (prs la lb k)=oc at *
  have h1:=y8 (la.getD k 0) (lb.getD k 0) oc.2 (hb.getD k) hc
  generalize gn (la.getD k 0) (lb.getD k 0) oc.2=r at *
  have h2:B ^ k*r.1+B ^ k*lb.getD k 0+B ^ k*oc.2=B ^ k*la.getD k 0+B ^ (k+1)*r.2:=by
   rw [Nat.pow_succ,Nat.mul_assoc,←Nat.mul_add,←Nat.mul_add,←Nat.mul_add,dH,h1]
  omega
theorem oT {la lb:List Nat} (ha:Dig la) (hb:Dig lb) (hl:lb.length≤la.length) :
  toN ((bi ec (prs la lb la.length)).1 ++ [(bi ec (prs la lb la.length)).2])=toN la+toN lb:=by
 have h:=zc ha hb la.length
 rw [List.take_length,List.take_of_length_le hl] at h
 rw [aQ,dn,dI];exact h
theorem vo {la lb:List Nat} (ha:Dig la) (hb:Dig lb) (hl:lb.length≤la.length) (hle:toN lb≤toN la) :
  toN ((bi gn (prs la lb la.length)).1 ++ [(bi gn (prs la lb la.length)).2])=toN la - toN lb:=by
 have h:=zd ha hb la.length
 rw [List.take_length,List.take_of_length_le hl] at h
 have h1:=cI (iO ms (prs la lb la.length)).1
 rw [dn,dI] at h1
 rw [aQ,dn,dI]
 have h2:=(iO ms (prs la lb la.length)).2
 have h3:=cI ha
 generalize (bi gn (prs la lb la.length)).2=c at *
 generalize toN (bi gn (prs la lb la.length)).1=o at *
 generalize B ^ la.length=P at *
 have hc:c=0∨c=1:=by omega
 rcases hc with rfl | rfl <;> omega
end
end Go.Proofs.YtjdomibbaemdnaaGreatDoor
