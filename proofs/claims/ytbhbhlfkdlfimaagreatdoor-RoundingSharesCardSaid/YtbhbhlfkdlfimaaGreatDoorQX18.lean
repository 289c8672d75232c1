/- Parts of the proof. -/
import Derived.Laws.AppendOwn
import Derived.Lib.SmallJoins
import Derived.RangeFuncNested
import Derived.RangeFuncBound
import Derived.RangeFuncCalls
import Derived.RangeFuncLeaves
import Derived.RangeFuncBox
import Derived.Shelf.Abstract
import Derived.OwnWalkIn
import Derived.TacticsInMore
import Derived.LoopNIn
import Derived.LoopIn
import Derived.RegionIn
import Derived.Shelf.RegionOpen
import Derived.Sort.LoopGhostIn
import Derived.Test.YtbhbhlfkdlfimaaGreatDoorQX17
set_option linter.all false
set_option maxRecDepth 100000
set_option maxHeartbeats 8000000
namespace Go.Proofs.YtbhbhlfkdlfimaaGreatDoor
open Go.RowKit
theorem Ka {w W V:World} {B:Nat} (H:Hid (Below B w W)) (b:Below W.heap.size W V) (h:B≤W.heap.size):Hid (Below B w V):=Lib.hid (H.out.trans (b.mono h))
theorem Kc {w W V:World} {k:Nat} {x:Array Value} (H:Hid (Blk W k x∧Below k w W)) (b:Below W.heap.size W V):Hid (Blk V k x∧Below k w V):=Lib.hid ⟨H.out.1.next b,H.out.2.trans (b.mono (Nat.le_of_lt H.out.1.lt))⟩
theorem Kd {w W V:World} {k m:Nat} {x y:Array Value} (H:Hid (Blk W k x∧Blk W m y∧Below k w W)) (b:Below W.heap.size W V):Hid (Blk V k x∧Blk V m y∧Below k w V):=Lib.hid ⟨H.out.1.next b,H.out.2.1.next b,H.out.2.2.trans (b.mono (Nat.le_of_lt H.out.1.lt))⟩
end Go.Proofs.YtbhbhlfkdlfimaaGreatDoor
namespace Go.Proofs.YtbhbhlfkdlfimaaGreatDoor
namespace T
open Go.RowKit
def tat (l:List Tm) (j:Nat):Tm:=l[j]?.getD (0,0)
theorem dV {l:List Tm} {j:Nat} (h:j<l.length):tat l j=l[j]:=by unfold tat;rw [List.getElem?_eq_getElem h];rfl
theorem bV {l:List Tm} {j:Nat} (h:j<l.length):tat l j∈l:=by rw [dV h];exact List.getElem_mem h
def tc (t:Tm):List Value := [.string (af t.1),.string (af t.2)]
def tcs (l:List Tm):List Value:=l.flatMap tc
theorem xT:tcs [] = []:=rfl
theorem dp (t:Tm) (l:List Tm):tcs (t::l) = .string (af t.1) :: .string (af t.2)::tcs l:=rfl
theorem oT (l k:List Tm):tcs (l++k)=tcs l++tcs k:=List.flatMap_append
theorem fz:∀ l:List Tm,(tcs l).length=l.length*2
 | []=>rfl
 | t::l=>by rw [dp,List.length_cons,List.length_cons,fz l,List.length_cons];omega
theorem fT:∀ (l:List Tm) (j:Nat),j<l.length→(tcs l)[2*j]? = some (.string (af (tat l j).1))∧(tcs l)[2*j+1]? = some (.string (af (tat l j).2))
 | [],j,h=>by simp at h
 | t::l,0,_=>⟨rfl,rfl⟩
 | t::l,j+1,h=>by
  have ih:=fT l j (by simpa using h)
  rw [dp,show 2*(j+1)=2*j+1+1 by omega,List.getElem?_cons_succ,List.getElem?_cons_succ,show 2*j+1+1+1=(2*j+1)+1+1 by omega,List.getElem?_cons_succ,List.getElem?_cons_succ]
  exact ih
structure Tl (W:World) (b:Nat) (l:List Tm):Prop where
 lt:b<W.heap.size
 c0:∀ j,j<l.length→W.cell? ⟨b,j*2,none⟩=some (.string (af (tat l j).1))
 c1:∀ j,j<l.length→W.cell? ⟨b,j*2+1,none⟩=some (.string (af (tat l j).2))
theorem Tl.next {W W':World} {b:Nat} {l:List Tm} (h:Tl W b l) (g:Below W.heap.size W W'):Tl W' b l :=
 ⟨Nat.lt_of_lt_of_le h.lt g.size,fun j hj=>(g.cell (p:=⟨b,j*2,none⟩) h.lt).trans (h.c0 j hj),fun j hj=>(g.cell (p:=⟨b,j*2+1,none⟩) h.lt).trans (h.c1 j hj)⟩
theorem oU {l:List Tm} {i j:Nat} (h:j<i):tat (l.take i) j=tat l j:=by
 unfold tat;rw [List.getElem?_take,if_pos h]
theorem Tl.take {W:World} {b:Nat} {l:List Tm} (h:Tl W b l) (i:Nat):Tl W b (l.take i) :=
 ⟨h.lt,fun j hj=>by
  rw [List.length_take] at hj
  rw [oU (by omega)];exact h.c0 j (by omega),fun j hj=>by
  rw [List.length_take] at hj
  rw [oU (by omega)];exact h.c1 j (by omega)⟩
def Rd (W:World) (p:Option Addr) (l:List Tm):Prop:=0<l.length→∃ b,p=some ⟨b,0,none⟩∧Tl W b l
theorem Rd.next {W W':World} {p:Option Addr} {l:List Tm} (h:Rd W p l) (g:Below W.heap.size W W'):Rd W' p l :=
 fun k=>by obtain ⟨b,e,t⟩:=h k;exact ⟨b,e,t.next g⟩
theorem Rd.take {W:World} {p:Option Addr} {l:List Tm} (h:Rd W p l) (i:Nat):Rd W p (l.take i) :=
 fun k=>by
  rw [List.length_take] at k
  obtain ⟨b,e,t⟩:=h (by omega);exact ⟨b,e,t.take i⟩
theorem Rd.nil (W:World) (p:Option Addr):Rd W p []:=fun k=>by simp at k
def Ow (W:World) (base:Nat) (T:TypeId) (v:Value) (l:List Tm):Prop:=W.ownsRow base T 2 v l.length (tcs l)
theorem Ow.rd {W:World} {base:Nat} {T:TypeId} {v:Value} {l:List Tm} (h:Ow W base T v l):∃ p c,v = .slice p l.length c∧Rd W p l∧(p=none→l = []∧c=0):=by
 rcases h.2 with ⟨rfl,hn⟩ | ⟨g,cap,cur,rfl,hb,hg,hc,_⟩
 ·exact ⟨none,0,by rw [hn],fun k=>by omega,fun _=>⟨List.eq_nil_of_length_eq_zero hn,rfl⟩⟩
 ·have hcl:=World.ownsRow.cells h (g:=g) rfl
  have ha:∀ j,(⟨g,0,none⟩:Addr).add j=⟨g,j,none⟩:=fun j=>by unfold Addr.add;split <;> simp_all
  refine ⟨some ⟨g,0,none⟩,cap,rfl,fun _=>⟨g,rfl,lt_of_block hg,fun j hj => ?_,fun j hj => ?_⟩,fun k=>by cases k⟩
  ·rw [←ha,Nat.mul_comm];exact hcl _ _ (fT l j hj).1
  ·rw [←ha,Nat.mul_comm];exact hcl _ _ (fT l j hj).2
theorem Ow.next {W W':World} {base:Nat} {T:TypeId} {v:Value} {l:List Tm} (h:Ow W base T v l) (g:Below W.heap.size W W'):Ow W' base T v l:=by
 refine ⟨h.1,?_⟩
 rcases h.2 with hn | ⟨k,cap,cur,e,hb,hg,rest⟩
 ·exact .inl hn
 ·exact .inr ⟨k,cap,cur,e,hb,by rw [g.block k (lt_of_block hg)];exact hg,rest⟩
end T
namespace T
open Go.RowKit
theorem qx (r:ByteArray) (w:World)
  (h1:∀ W,Below w.heap.size w W→Calls Tryz.prog 214 #[.string r] W fun e W'=>e = .returned (.tuple #[.string ⟨#[49]⟩,.string r,.int .i64 0])∧Below W.heap.size W W') :
  Calls Tryz.prog 213 #[.string r] w fun e W'=>e = .returned (.bool true)∧Below w.heap.size w W':=by
 have O:=Ha h1;clear h1
 go_enter Tryz.func213,Tryz.ntmps213
 go_wp2_with fail
 refine (O.out _ (Below.refl _ _)).mono ?_
 rintro e v1 ⟨rfl,b⟩
 have B:=Ha b;clear b
 go_wp2
 go_ret
 exact ⟨rfl,B.out⟩
theorem we (p:ByteArray) (w:World) :
  Calls Tryz.prog 170 #[.string p,.string p] w fun e W'=>e = .returned (.tuple #[.string ⟨#[49]⟩,.bool true])∧Below w.heap.size w W':=by
 go_enter Tryz.func170,Tryz.ntmps170
 go_wp2
 go_ret2
 exact ⟨rfl,Below.refl _ _⟩
theorem ua (p q:ByteArray) (w:World) (hne:(p.toList==q.toList)=false) (hp:p.size≤4) (hq:q.size≤4) :
  Calls Tryz.prog 170 #[.string p,.string q] w fun e W'=>e = .returned (.tuple #[.string ⟨#[]⟩,.bool false])∧Below w.heap.size w W':=by
 have y1:¬ (4:Int)<p.size:=by omega
 have y2:¬ (4:Int)<q.size:=by omega
 clear hp hq
 go_enter Tryz.func170,Tryz.ntmps170
 go_wp2
 go_ret2
 exact ⟨rfl,Below.refl _ _⟩
theorem oV (p q c:ByteArray) (f:Bool) (w:World) (hne:(p.toList==q.toList)=false) (hs:4<p.size∨4<q.size) (hp:p.size≤1000) (hq:q.size≤1000)
  (h1:∀ W,Below w.heap.size w W→Calls Tryz.prog 215 #[.string p,.string q] W fun e W'=>e = .returned (.tuple #[.string c,.bool f,.int .i64 0])∧Below W.heap.size W W') :
  Calls Tryz.prog 170 #[.string p,.string q] w fun e W'=>e = .returned (.tuple #[.string c,.bool f])∧Below w.heap.size w W':=by
 have O:=Ha h1;clear h1
 by_cases k:4<p.size
 ·have y1:(4:Int)<p.size:=by omega
  clear k hs hp hq
  go_enter Tryz.func170,Tryz.ntmps170
  go_wp2_with fail
  refine (O.out _ (Below.refl _ _)).mono ?_
  rintro e v1 ⟨rfl,b⟩
  have B:=Ha b;clear b
  go_wp2
  go_ret2
  exact ⟨rfl,B.out⟩
 ·have y1:¬ (4:Int)<p.size:=by omega
  have y2:(4:Int)<q.size:=by omega
  clear k hs hp hq
  go_enter Tryz.func170,Tryz.ntmps170
  go_wp2_with fail
  refine (O.out _ (Below.refl _ _)).mono ?_
  rintro e v1 ⟨rfl,b⟩
  have B:=Ha b;clear b
  go_wp2
  go_ret2
  exact ⟨rfl,B.out⟩
theorem oW (c r:ByteArray) (w:World) (hz:(c.toList == [48])=false)
  (h1:∀ W,Below w.heap.size w W→Calls Tryz.prog 212 #[.agg #[.string c,.string r]] W fun e W'=>e = .returned (.int .i64 0)∧Below W.heap.size W W')
  (h2:∀ W,Below w.heap.size w W→Calls Tryz.prog 174 #[.agg #[.string c,.string r]] W fun e W'=>e = .returned (.bool false)∧Below W.heap.size W W')
  (h3:∀ W,Below w.heap.size w W→Calls Tryz.prog 213 #[.string r] W fun e W'=>e = .returned (.bool true)∧Below W.heap.size W W') :
  Calls Tryz.prog 166 #[.agg #[.string c,.string r]] w fun e W'=>e = .returned (.int .i64 0)∧Below w.heap.size w W':=by
 have O:=Ha (Hb h1 (Hb h2 h3));clear h1 h2 h3
 go_enter Tryz.func166,Tryz.ntmps166
 go_wp2_with fail
 have HB:=Ha (Hb (Blk.new w #[.string c,.string r] 43) ((Below.refl _ w).alloc (Nat.le_refl _) (.cells #[.string c,.string r] 43)))
 generalize w.alloc (.cells #[.string c,.string r] 43)=W0 at *
 generalize hk:w.heap.size=k at *
 have HK:=Ha hk;clear hk
 have e0:=HB.out.1.cell 0 (.string c) rfl;have e1:=HB.out.1.cell 1 (.string r) rfl
 refine (O.out.1 _ HB.out.2).mono ?_
 rintro e v1 ⟨rfl,b⟩
 replace HB:=Kc HB b;clear b;have e0:=HB.out.1.cell 0 (.string c) rfl;have e1:=HB.out.1.cell 1 (.string r) rfl
 go_wp2_with fail
 refine (O.out.2.1 _ HB.out.2).mono ?_
 rintro e v2 ⟨rfl,b⟩
 replace HB:=Kc HB b;clear b;have e0:=HB.out.1.cell 0 (.string c) rfl;have e1:=HB.out.1.cell 1 (.string r) rfl
 go_wp2_with fail
 refine (O.out.2.2 _ HB.out.2).mono ?_
 rintro e v3 ⟨rfl,b⟩
 replace HB:=Kc HB b;clear b;have e0:=HB.out.1.cell 0 (.string c) rfl;have e1:=HB.out.1.cell 1 (.string r) rfl
 go_wp2
 go_ret
 have hb:=HB.out.2
 rw [←HK.out] at hb
 exact ⟨rfl,hb⟩
theorem nE (r:ByteArray) (l:List Tm) (p:Option Addr) (n c:Nat) (w:World) (hn:n=l.length) (h100:n≤100) (hx:Rd w p l) (x:Int) (hx0:0<x)
  (h1:∀ j,j<l.length→∀ W,Below w.heap.size w W→Calls Tryz.prog 169 #[.string r,.string (af (tat l j).2)] W fun e W'=>e = .returned (.int .i64 x)∧Below W.heap.size W W')
  (h2:∀ j,j<l.length→∀ W,Below w.heap.size w W→Calls Tryz.prog 170 #[.string r,.string (af (tat l j).2)] W fun e W'=>e = .returned (.tuple #[.string ⟨#[]⟩,.bool false])∧Below W.heap.size W W') :
  Calls Tryz.prog 167 #[.string r,.slice p n c] w fun e W'=>e = .returned (.int .i64 0)∧Below w.heap.size w W':=by
 rw [←hn] at h1 h2
 have O:=Ha (Hb h1 h2);clear h1 h2
 rcases n with _ | m
 ·clear hx O hn
  go_enter Tryz.func167,Tryz.ntmps167
  go_wp2
  go_rounds 1
  all_goals go_ret
  all_goals exact ⟨rfl,Below.refl _ _⟩
 ·obtain ⟨b,rfl,ht⟩:=hx (by omega)
  have HT:=Ha (Hb ht.lt (Hb (fun j (hj:j<m+1)=>ht.c0 j (by omega)) (fun j (hj:j<m+1)=>ht.c1 j (by omega))))
  have y0:¬ x≤0:=by omega
  have y1:(0:Int)<m+1:=by omega
  have d1:=ht.c1 m (by omega)
  clear hx ht hn
  go_enter Tryz.func167,Tryz.ntmps167
  go_wp2_with fail
  refine (O.out.1 m (by omega) _ (Below.refl _ _)).mono ?_
  rintro e v1 ⟨rfl,bb⟩
  have B:=Ha bb;clear bb d1
  go_wp2
  go_loopw [26] (fun i wr=>∃ j:Nat,i = .int .i64 j∧j≤m+1∧Hid (Below w.heap.size w wr)) (fun i _=>m+1 - (intOf i).toNat)
  case atStart=>exact ⟨0,rfl,by omega,B.out⟩
  case round =>
   obtain ⟨j,rfl,hj,HB⟩:=hrel
   by_cases hlt:j<m+1
   ·have hz:(j:Int)<m+1:=by omega
    have d0:=(HB.out.cell (p:=⟨b,j*2,none⟩) HT.out.1).trans (HT.out.2.1 j hlt)
    have d1:=(HB.out.cell (p:=⟨b,j*2+1,none⟩) HT.out.1).trans (HT.out.2.2 j hlt)
    go_wp2_with fail
    have hk:=Blk.new wr #[.string (af (tat l j).1),.string (af (tat l j).2)] 43
    have HN:=Ha (HB.out.alloc HB.out.size (.cells #[.string (af (tat l j).1),.string (af (tat l j).2)] 43))
    clear HB
    generalize wr.alloc (.cells #[.string (af (tat l j).1),.string (af (tat l j).2)] 43)=u at *
    generalize wr.heap.size=k at *
    have e1:=hk.cell 1 (.string (af (tat l j).2)) rfl
    go_wp2_with fail
    refine (O.out.2 j (by omega) _ HN.out).mono ?_
    rintro e w' ⟨rfl,bb⟩
    have HB2:=Ha (HN.out.trans (bb.mono HN.out.size));clear bb HN
    go_wp2
    go_roundw
    case rel=>exact ⟨j+1,by go_num,by omega,HB2.out⟩
    case measure=>simp [intOf];omega
   ·have hz:¬ (j:Int)<m+1:=by omega
    go_wp2
    go_ret
    exact ⟨rfl,HB.out⟩
end T
namespace T
open Go.Proofs.YtbhbhlfkdlfimaaGreatDoor Go.RowKit Go.Lib Go.Shelf Go.Sort Go
theorem A3 (M:Nat) (hM:M<18446744073709551616):∀ (l:List UInt8) (acc:Nat),(∀ c∈l,aA c=true)→acc*10 ^ l.length+ah l≤M→Lib.parseUintM M acc l = .ok (acc*10 ^ l.length+ah l)
 | [],acc,_,_=>by rw [List.length_nil,Nat.pow_zero,Nat.mul_one,qJ,Nat.add_zero];rfl
 | c::r,acc,h,hb=>by
  have hc:=Dw (h c (by simp))
  have hN:acc*10 ^ (c::r).length+ah (c::r)=(acc*10+(c.toNat - 48))*10 ^ r.length+ah r:=by
   rw [t7,List.length_cons,Nat.pow_succ,Nat.add_mul,Nat.mul_assoc acc 10,Nat.mul_comm 10 (10 ^ r.length)];omega
  rw [hN] at hb ⊢
  have hp:1≤10 ^ r.length:=Nat.pos_of_ne_zero (by simp)
  have hge:acc*10+(c.toNat - 48)≤(acc*10+(c.toNat - 48))*10 ^ r.length:=Nat.le_mul_of_pos_right _ hp
  unfold Lib.parseUintM
  rw [if_pos hc,if_neg (by omega),if_neg (by omega)]
  exact A3 M hM r _ (fun x hx=>h x (by simp [hx])) hb
theorem zl {m:Nat} (h:m<18446744073709551616):Lib.parseUintB 64 (decDigits m) = .ok m:=by
 unfold Lib.parseUintB
 rw [if_neg (kJ m),A3 _ (by decide) _ 0 (bg m) (by rw [cU];omega),cU]
 simp
theorem Dx (m:Nat) (w:World) (h:m<18446744073709551616) :
  Calls Tryz.prog 292 #[.string (aa (m:Nat)),.int .i64 10,.int .i64 64] w fun e W'=>e = .returned (.tuple #[.int .u64 m,.nilIface])∧Below w.heap.size w W':=by
 have hs:(aa (m:Nat)).size≤301:=aM (fw (by rw [Int.natAbs_natCast];omega))
 refine (Tryz.strconv_ParseUint_10_at64_ok (aa (m:Nat)) (by omega) m (by rw [aF,Lib.itoa_nonneg,zl h]) w).mono ?_
 rintro e W' ⟨he,rfl | rfl⟩
 ·exact ⟨he,Below.refl _ _⟩
 ·exact ⟨he,Go.Joins.below_bytesWorld _ _ _ _ (Nat.le_refl _)⟩
theorem E3 (u:Nat) (hu:u<18446744073709551616) (w:World) (ht:Tab w) :
  Calls Tryz.prog 303 #[.int .u64 u,.int .i64 10] w fun e W'=>e = .returned (.string (aa (u:Nat)))∧Below w.heap.size w W':=by
 have hstr:aa (u:Nat)=⟨(Lib.decDigits u).toArray⟩:=by unfold aa;rw [Lib.itoa_nonneg]
 rw [hstr]
 clear hstr
 by_cases hs:u<100
 ·have C:=Ha (fun W=>Tryz.internal_strconv_small u hs W)
  have iu:(u:Int)<100:=by omega
  have i0:(0:Int)≤u:=by omega
  clear hs
  generalize (⟨(Lib.decDigits u).toArray⟩:ByteArray)=r at *
  go_enter Tryz.func303,Tryz.ntmps303
  go_wp2_with fail
  refine (C.out _).mono ?_
  rintro e w' ⟨rfl,rfl⟩
  go_wp2
  go_ret
  exact ⟨rfl,Below.refl _ _⟩
 ·have hu1:1≤u:=by omega
  have iu:¬ (u:Int)<100:=by omega
  have hnd20:Lib.nDigits u≤20:=by have:=Lib.numDigits_eq u hu1 hu;split at this <;> omega
  have hsl:∀ W,(Instr.sliceAt 248 (.pointer (some ⟨w.heap.size,0,none⟩)) none (some (.int .i64 (Lib.nDigits u:Int))) none).run Tryz.prog W = .ok (.slice (some ⟨w.heap.size,0,none⟩) (Lib.nDigits u) 24) W:=fun W=>by
   rw [run_sliceAt_array_h W 248 ⟨w.heap.size,0,none⟩ (by kernel_rfl) .i64 (Lib.nDigits u:Int) (by omega) (by rw [show Tryz.prog.arrayLen 248=24 by kernel_rfl];omega)]
   rw [show Tryz.prog.arrayLen 248=24 by kernel_rfl]
   go_simp
  have hH0:=Lib.holds_zero0 w 248 (Lib.nDigits u) (by omega)
  have hfmt:=Tryz.internal_strconv_formatBase10 w.heap.size 0 24 u (Array.replicate (Lib.nDigits u) 0) (w.alloc (.cells Lib.zeros24 248)) hH0 (by rw [Array.size_replicate];exact Lib.lt_pow_nDigits u) hu (by rw [Array.size_replicate];omega)
  rw [Array.size_replicate] at hfmt
  have hnum:=Tryz.internal_strconv_numDigits u hu1 hu (w.alloc (.cells Lib.zeros24 248)) (Lib.tabIs_alloc ht _)
  have HH:=Ha (Hb hH0 (Hb hfmt hnum))
  clear hH0 hfmt hnum
  go_enter Tryz.func303,Tryz.ntmps303
  go_wp2_with fail
  refine HH.out.2.2.mono ?_
  rintro e w' ⟨rfl,rfl⟩
  go_wp2_with fail
  refine HH.out.2.1.mono ?_
  rintro e w' ⟨rfl,k,v',dk,rfl,hF⟩
  have hcv:(convert 150 9 (.slice (some ⟨w.heap.size,0,none⟩) (Lib.nDigits u) 24)).run Tryz.prog ((putRow (fun (b:UInt8)=>Value.int .u8 (b.toNat:Int)) (w.alloc (.cells Lib.zeros24 248)) w.heap.size 0 dk).drewN k) = .ok (.string ⟨(Lib.decDigits u).toArray⟩) ((putRow (fun (b:UInt8)=>Value.int .u8 (b.toNat:Int)) (w.alloc (.cells Lib.zeros24 248)) w.heap.size 0 dk).drewN k):=by
   have h:=run_convert_bytes_back (P:=Tryz.prog) ((putRow (fun (b:UInt8)=>Value.int .u8 (b.toNat:Int)) (w.alloc (.cells Lib.zeros24 248)) w.heap.size 0 dk).drewN k) 150 9 5 ⟨w.heap.size,0,none⟩ 24 (Lib.decDigits u) Tryz.underlying150 Tryz.underlying5 Tryz.underlying9 (fun j hj=>by
    rw [Lib.row_is_numeral hF j hj,Lib.add_plain,World.cell?_drewN]
    exact cell?_putRow (fun (b:UInt8)=>Value.int .u8 (b.toNat:Int)) _ w.heap.size 0 _ dk HH.out.1 (by rw [hF.size,Array.size_replicate]) j (by rw [hF.size];rw [Lib.decDigits_length] at hj;exact hj))
   rw [Lib.decDigits_length] at h
   exact h
  obtain ⟨os,eo⟩:=Lib.fin_at w (.cells Lib.zeros24 248) dk k 0
  have hbl:Below w.heap.size w ((putRow (fun (b:UInt8)=>Value.int .u8 (b.toNat:Int)) (w.alloc (.cells Lib.zeros24 248)) w.heap.size 0 dk).drewN k):=by rw [eo];exact Lib.below_grow _ _ (Nat.le_refl _) _ _
  generalize (putRow (fun (b:UInt8)=>Value.int .u8 (b.toNat:Int)) (w.alloc (.cells Lib.zeros24 248)) w.heap.size 0 dk).drewN k=W2 at *
  have HB:=Ha hbl
  clear hbl eo
  go_wp2
  go_ret
  exact ⟨rfl,HB.out⟩
theorem EC (u:Nat) (hu:u<18446744073709551616) (w:World) (ht:Tab w) :
  Calls Tryz.prog 294 #[.int .u64 u,.int .i64 10] w fun e W'=>e = .returned (.string (aa (u:Nat)))∧Below w.heap.size w W':=by
 have C:=Ha (E3 u hu w ht);clear ht
 generalize aa (u:Nat)=r at *
 go_enter Tryz.func294,Tryz.ntmps294
 go_wp2_with fail
 refine C.out.mono ?_
 rintro e w' ⟨rfl,b⟩
 have B1:=Ha b;clear b
 go_wp2
 go_ret
 exact ⟨rfl,B1.out⟩
end T
namespace T
open Go Go.RowKit Go.Shelf
variable {P:Program} {F:Fence} {n:Nat}
structure Kb (b:Nat) (A B:World):Prop where
 size:A.heap.size≤B.heap.size
 same:∀ k o,b≤k→A.heap[k]? = some o→o.isCells=true→B.heap[k]? = some o
theorem Kb.refl (b:Nat) (A:World):Kb b A A:=⟨Nat.le_refl _,fun _ _ _ h _=>h⟩
theorem Kb.trans {b:Nat} {A B C:World} (h:Kb b A B) (k:Kb b B C):Kb b A C:=⟨Nat.le_trans h.size k.size,fun i o hb hi hc=>k.same i o hb (h.same i o hb hi hc) hc⟩
theorem Kb.put {b:Nat} {A:World} {l:Nat} {o o':Obj} (hl:A.heap[l]? = some o) (ho:o.isCells=false):Kb b A (A.putObj l o') :=
 ⟨by simp,fun k u _ hk hc=>by
  have hne:k≠l:=fun e=>by rw [e,hl] at hk;cases hk;rw [ho] at hc;cases hc
  exact (World.putObj_heap_other hne).trans hk⟩
theorem Kb.of_below {b:Nat} {A B:World} (h:Below A.heap.size A B):Kb b A B :=
 ⟨h.size,fun k o _ hk _=>(h.block k (Array.getElem?_eq_some_iff.1 hk).1).trans hk⟩
theorem Kb.cell_below {b:Nat} {A:World} {p:Addr} (hp:p.block<b) (v:Value):Kb b A (A.setCell p v) :=
 ⟨by simp [World.setCell],fun k o hb hk _=>(Below.heap_setCell _ _ _ _ (by omega)).trans hk⟩
theorem df {a b:World} (h:Below a.heap.size a b):a.grownBy b none:=⟨h.os,h.tape,h.output,h.size,fun k hk _=>h.block k hk⟩
theorem Kb.of_grown {b:Nat} {A B:World} (h:A.grownBy B none):Kb b A B :=
 ⟨h.size,fun k o _ hk _=>(h.block k (Array.getElem?_eq_some_iff.1 hk).1 (fun e=>by cases e)).trans hk⟩
theorem Kb.alloc (b:Nat) (A:World) (o:Obj):Kb b A (A.alloc o):=Kb.of_below ((Below.refl _ A).alloc (Nat.le_refl _) o)
def A4 {α:Type} (F:Fence) (n:Nat) (P:Program) (g:Nat) (fs:Array Value) (encs:α→Array Value) (xs:List α) (w:World):Prop :=
 ∀ (l:Nat) (J Jx:List α→World→Prop) (W:World),Below w.heap.size w W→(∀ s A o,J s A→J s (A.alloc o))→(∀ s A,J s A→J s A.drew) →
  (∀ pre x r W1,xs=pre++x::r→J pre W1→YieldAt F (n - 1) P l (encs x) W1 fun e W' =>
   (e = .returned (.bool true)∧J (pre ++ [x]) W'∧(r ≠ []→Kb w.heap.size W1 W'))∨(e = .returned (.bool false)∧Jx (pre ++ [x]) W')) →
  J [] W→CallsIn F n P g (fs ++ #[.func (.yield l) #[] #[]]) W fun e W'=>(∃ v,e = .returned v)∧(J xs W'∨∃ pre r,xs=pre++r∧Jx pre W')
theorem ij {α:Type} {g:Operand} {ps:Array Tmp} {assign body:Code} {Q:Exit→Act→World→Prop} {a:Act} {w:World}
  (hro:F.round=none) (h1:1≤n) {gf:Nat} {fs:Array Value} (hg:a.eval g = .func (.func gf) fs #[]) (hFg:F.fn gf) (eg:∀ args w,(callFunc gf args).run P w = .ok (.enter gf args) w)
  {encs:α→Array Value} {xs:List α} (hh:A4 F (n - 1) P gf fs encs xs w) (hps:∀ x,(encs x).size=ps.size) (sc:Code) (hsc:sc = .ret∨∃ id,sc = .exit id)
  (I Ix:List α→World→Prop) (hI:OwnFrom w.heap.size I) (hIx:OwnFrom w.heap.size Ix) (hId:∀ s A,I s A→I s A.drew) (h0:I [] w) (a₁:α→Act)
  (hassign:∀ (l:Nat) (x:α) (W:World) (K:Act→World→Prop),K (a₁ x) W →
   assign.wpIn (F.inRound l) (n - 1 - 1) P (Exit.then K (fun _ _ _=>False)) { tmps:=(ps.zip (encs x)).foldl (fun t (p,v)=>t.setIfInBounds p v) a.tmps,defers := [] } W)
  (hbody:∀ (l:Nat) (pre:List α) (x:α) (r:List α) (W:World),w.heap.size≤W.heap.size→xs=pre++x::r→I pre W →
   body.wpIn (F.inRound l) (n - 1 - 1) P (ownPostG w.heap.size (fun A B=>r ≠ []→Kb w.heap.size A B) I (fun c s W=>c=sc∧Ix s W) (pre ++ [x]) W) (a₁ x) W)
  (hdone:∀ (D:Nat) (W:World),w.heap.size≤D→I xs W→W.heap[D]? = some (.deferred (some []))→Q .normal { a with defers:={ target := .collected D,args := #[] }::a.defers } W)
  (hstop:∀ (D:Nat) (pre r:List α) (W:World),w.heap.size≤D→xs=pre++r→Ix pre W→W.heap[D]? = some (.deferred (some []))→sc.wpIn F n P Q { a with defers:={ target := .collected D,args := #[] }::a.defers } W) :
  (Code.rangeFunc g ps assign body).wpIn F n P Q a w:=by
 refine wpIn_rangeFunc fun fn hfn => ?_
 rw [hro]
 let R:LoopState→Option Code→Obj:=fun s p => .loop { state:=s,pending:=p,fn:=fn,tmps:=a.tmps,params:=ps,assign:=assign,body:=body,defers:=w.heap.size }
 have nc:∀ s p,(R s p).isCells=false:=fun _ _=>rfl
 let W1:=(w.alloc (.deferred (some []))).alloc (R .ready none)
 have z1:W1.heap.size=w.heap.size+2:=by simp [W1]
 let own:LoopState→Option Code→World→Prop:=fun s p W=>W.heap[w.heap.size+1]? = some (R s p)∧W.heap[w.heap.size]? = some (.deferred (some []))
 have own_lt:∀ {s p W},own s p W→w.heap.size+1<W.heap.size:=fun h=>(Array.getElem?_eq_some_iff.1 h.1).1
 have own_put:∀ {s p W} (s':LoopState) (p':Option Code),own s p W→own s' p' (W.putObj (w.heap.size+1) (R s' p')):=fun s' p' h =>
  ⟨World.putObj_heap_same (own_lt h),(World.putObj_heap_other (by omega)).trans h.2⟩
 have own_alloc:∀ {s p W} (o:Obj),own s p W→own s p (W.alloc o):=fun o h =>
  ⟨(Below.heap_alloc _ o _ (own_lt h)).trans h.1,(Below.heap_alloc _ o _ (by have:=own_lt h;omega)).trans h.2⟩
 have own_keeps:∀ {s p W W'},KeepsFrom w.heap.size W W'→own s p W→own s p W':=fun hk h=>⟨hk.same _ _ (by omega) h.1 rfl,hk.same _ _ (Nat.le_refl _) h.2 rfl⟩
 have own1:own .ready none W1:=by
  refine ⟨?_,?_⟩
  ·have:=World.alloc_heap_new (w.alloc (.deferred (some []))) (R .ready none)
   rwa [World.size_alloc] at this
  ·exact (Below.heap_alloc _ _ _ (by simp)).trans (World.alloc_heap_new w _)
 refine ⟨w.heap.size+1,[{ target := .collected w.heap.size,args := #[] }],W1,{ target := .fn (.func gf) #[],args:=fs ++ #[.func (.yield (w.heap.size+1)) #[] #[]] },W1,gf,
  fs ++ #[.func (.yield (w.heap.size+1)) #[] #[]],W1,run_enterLoop_outer _ _ _ _ _,?_,?_,?_,fun _=>h1,?_⟩
 ·simp only [resolve,hg]
  simp [go_sem]
 ·intro f' hf'
  simp [Target.leads] at hf'
  subst hf';exact hFg
 ·simp [invoke,go_sem,eg]
 have run:CallsIn F (n - 1) P gf (fs ++ #[.func (.yield (w.heap.size+1)) #[] #[]]) W1 fun e W'=>(∃ v,e = .returned v) ∧
   ((I xs W'∧own .ready none W')∨∃ pre r,xs=pre++r∧(Ix pre W'∧own .done (some sc) W')):=by
  refine hh (w.heap.size+1) (fun s W=>I s W∧own .ready none W) (fun s W=>Ix s W∧own .done (some sc) W) W1 ((((Below.refl _ w).alloc (Nat.le_refl _) _).alloc (by simp) _))
   (fun s A o h=>⟨hI.alloc o h.1,own_alloc o h.2⟩) (fun s A h=>⟨hId s A h.1,h.2⟩) ?_ ⟨hI.alloc _ (hI.alloc _ h0),own1⟩
  rintro pre x r W hx ⟨hi,ho⟩
  have lt:=own_lt ho
  refine ⟨fn,_,assign,body,run_yield (P:=P) (args:=encs x) ho.1 (hps x),roundIn_of_wpIn hfn (hassign _ x W _ ?_)⟩
  refine ⟨_,run_beginRound ho.1 rfl,?_⟩
  have hb:=own_put .busy none ho
  have k1:Kb w.heap.size W (W.putObj (w.heap.size+1) (R .busy none)):=Kb.put ho.1 rfl
  refine wpIn_mono (hbody _ pre x r (W.putObj (w.heap.size+1) (R .busy none)) (by have:=own_lt hb;omega) hx (hI.putObj _ hi (by omega) ho.1 rfl)) ?_
  intro e a3 W3 hp
  cases e with
  | normal =>
   obtain ⟨h3,h4,h5⟩:=hp
   have ho3:=own_keeps h3 hb
   exact ⟨_,_,run_endRound none ho3.1,.inl ⟨rfl,⟨hI.putObj _ h5 (by omega) ho3.1 rfl,own_put .ready none ho3⟩,fun hr=>k1.trans ((h4 hr).trans (Kb.put ho3.1 rfl))⟩⟩
  | ret =>
   obtain ⟨h3,h4,h5⟩:=hp
   subst h4
   have ho3:=own_keeps h3 hb
   exact ⟨_,_,run_endRound (some .ret) ho3.1,.inr ⟨rfl,hIx.putObj _ h5 (by omega) ho3.1 rfl,own_put .done (some .ret) ho3⟩⟩
  | exit id =>
   obtain ⟨h3,h4,h5⟩:=hp
   subst h4
   have ho3:=own_keeps h3 hb
   exact ⟨_,_,run_endRound (some (.exit id)) ho3.1,.inr ⟨rfl,hIx.putObj _ h5 (by omega) ho3.1 rfl,own_put .done (some (.exit id)) ho3⟩⟩
  | goto t =>
   obtain ⟨_,h4,_⟩:=hp
   rcases hsc with rfl | ⟨id,rfl⟩ <;> cases h4
  | panic ch=>exact hp.elim
  | outgrown=>exact hp.elim
 refine run.mono ?_
 rintro e W2 ⟨⟨v,rfl⟩,(⟨hi,ho⟩ | ⟨pre,r,hx,hi,ho⟩)⟩
 ·exact ⟨none,_,run_endLoop ho.1 (by simp),hdone _ _ (Nat.le_refl _) (hI.putObj _ hi (by omega) ho.1 rfl) ((World.putObj_heap_other (by omega)).trans ho.2)⟩
 ·exact ⟨some sc,_,run_endLoop ho.1 (by simp),hstop _ pre r _ (Nat.le_refl _) hx (hIx.putObj _ hi (by omega) ho.1 rfl) ((World.putObj_heap_other (by omega)).trans ho.2)⟩
end T
namespace T
open Go.Proofs.YtbhbhlfkdlfimaaGreatDoor Go Go.RowKit Go.Shelf
def A25:Array Value := #[.int .u64 2,.int .u64 3,.int .u64 5,.int .u64 7,.int .u64 11,.int .u64 13,.int .u64 17,.int .u64 19,.int .u64 23,.int .u64 29,.int .u64 31,.int .u64 37,.int .u64 41,.int .u64 43,.int .u64 47,.int .u64 53,.int .u64 59,.int .u64 61,.int .u64 67,.int .u64 71,.int .u64 73,.int .u64 79,.int .u64 83,.int .u64 89,.int .u64 97]
def Sm (w:World):Prop:=∃ t fr,w.heap[4]? = some (.cells A25 t fr)
theorem Sm.next {w W:World} (h:Sm w) (b:Below w.heap.size w W):Sm W:=by
 obtain ⟨t,fr,h⟩:=h
 exact ⟨t,fr,(b.block _ (Array.getElem?_eq_some_iff.1 h).1).trans h⟩
theorem lj {F:Fence} {n:Nat} {P:Program} {w:World} {ops:Array Oper} {rest:List Oper} {o:Oper} {a:Act} {Q:Exit→Act→World→Prop} (hgd:o.guard=none) (ty:TypeId) (x:Operand) (ho:o.op = .load ty x)
  (v:Value) (hx:(Instr.loadAt ty (a.eval x)).run P w = .ok v w) (h:wpListIn F n P ops Q rest (a.put o.dst v) w):wpListIn F n P ops Q (o::rest) a w:=by
 refine wpListIn_plain hgd fun K hK => ?_
 unfold Oper.wpIn
 refine ⟨by simp [Oper.about,ho],?_⟩
 rw [Oper.semAt_plain F _ _ (by rw [ho];intro c hc';cases hc')]
 simp [execOp,ho,hx,Result.andThen]
 exact hK _ _ h
theorem E4 {W:World} (h:Sm W):(Instr.loadAt 338 (.pointer (some ⟨4,0,none⟩))).run Tryz.prog W = .ok (.agg A25) W:=by
 obtain ⟨t,fr,h⟩:=h
 simp only [Instr.loadAt,Instr.sureAddr,Sem.run_bind,Sem.run_pure,Result.andThen_ok]
 exact run_loadVar_row W _ t 338 A25 fr _ h Tryz.underlying338 rfl (by kernel_rfl)
theorem F5 (W:World):(Instr.index 338 (.agg A25) (.int .i64 0)).run Tryz.prog W = .ok (.int .u64 2) W:=by kernel_rfl
theorem F6 (W:World):(Instr.index 338 (.agg A25) (.int .i64 1)).run Tryz.prog W = .ok (.int .u64 3) W:=by kernel_rfl
theorem F7 (W:World):(Instr.index 338 (.agg A25) (.int .i64 2)).run Tryz.prog W = .ok (.int .u64 5) W:=by kernel_rfl
theorem F8 (W:World):(Instr.index 338 (.agg A25) (.int .i64 3)).run Tryz.prog W = .ok (.int .u64 7) W:=by kernel_rfl
theorem F9 (W:World):(Instr.index 338 (.agg A25) (.int .i64 4)).run Tryz.prog W = .ok (.int .u64 11) W:=by kernel_rfl
theorem Ga (W:World):(Instr.index 338 (.agg A25) (.int .i64 5)).run Tryz.prog W = .ok (.int .u64 13) W:=by kernel_rfl
theorem Gb (W:World):(Instr.index 338 (.agg A25) (.int .i64 6)).run Tryz.prog W = .ok (.int .u64 17) W:=by kernel_rfl
theorem Gc (W:World):(Instr.index 338 (.agg A25) (.int .i64 7)).run Tryz.prog W = .ok (.int .u64 19) W:=by kernel_rfl
theorem Ge (W:World):(Instr.index 338 (.agg A25) (.int .i64 8)).run Tryz.prog W = .ok (.int .u64 23) W:=by kernel_rfl
theorem Gf (W:World):(Instr.index 338 (.agg A25) (.int .i64 9)).run Tryz.prog W = .ok (.int .u64 29) W:=by kernel_rfl
theorem E5 (W:World):(Instr.index 338 (.agg A25) (.int .i64 10)).run Tryz.prog W = .ok (.int .u64 31) W:=by kernel_rfl
theorem E6 (W:World):(Instr.index 338 (.agg A25) (.int .i64 11)).run Tryz.prog W = .ok (.int .u64 37) W:=by kernel_rfl
theorem E7 (W:World):(Instr.index 338 (.agg A25) (.int .i64 12)).run Tryz.prog W = .ok (.int .u64 41) W:=by kernel_rfl
theorem E8 (W:World):(Instr.index 338 (.agg A25) (.int .i64 13)).run Tryz.prog W = .ok (.int .u64 43) W:=by kernel_rfl
theorem E9 (W:World):(Instr.index 338 (.agg A25) (.int .i64 14)).run Tryz.prog W = .ok (.int .u64 47) W:=by kernel_rfl
theorem Fa (W:World):(Instr.index 338 (.agg A25) (.int .i64 15)).run Tryz.prog W = .ok (.int .u64 53) W:=by kernel_rfl
theorem Fb (W:World):(Instr.index 338 (.agg A25) (.int .i64 16)).run Tryz.prog W = .ok (.int .u64 59) W:=by kernel_rfl
theorem Fc (W:World):(Instr.index 338 (.agg A25) (.int .i64 17)).run Tryz.prog W = .ok (.int .u64 61) W:=by kernel_rfl
theorem Fe (W:World):(Instr.index 338 (.agg A25) (.int .i64 18)).run Tryz.prog W = .ok (.int .u64 67) W:=by kernel_rfl
theorem Ff (W:World):(Instr.index 338 (.agg A25) (.int .i64 19)).run Tryz.prog W = .ok (.int .u64 71) W:=by kernel_rfl
theorem Fg (W:World):(Instr.index 338 (.agg A25) (.int .i64 20)).run Tryz.prog W = .ok (.int .u64 73) W:=by kernel_rfl
theorem Fh (W:World):(Instr.index 338 (.agg A25) (.int .i64 21)).run Tryz.prog W = .ok (.int .u64 79) W:=by kernel_rfl
theorem Fi (W:World):(Instr.index 338 (.agg A25) (.int .i64 22)).run Tryz.prog W = .ok (.int .u64 83) W:=by kernel_rfl
theorem Fj (W:World):(Instr.index 338 (.agg A25) (.int .i64 23)).run Tryz.prog W = .ok (.int .u64 89) W:=by kernel_rfl
theorem Fl (W:World):(Instr.index 338 (.agg A25) (.int .i64 24)).run Tryz.prog W = .ok (.int .u64 97) W:=by kernel_rfl
theorem Gg (k x:Nat) (h:au[k]? = some x) (W:World) :
  (Instr.index 338 (.agg A25) (.int .i64 (k:Int))).run Tryz.prog W = .ok (.int .u64 (x:Int)) W:=by
 have hk:k<25:=(List.getElem?_eq_some_iff.1 h).1
 match k,h,hk with
 | 0,h,_=>obtain rfl:=Option.some.inj (show some 2=some x from h);exact F5 W
 | 1,h,_=>obtain rfl:=Option.some.inj (show some 3=some x from h);exact F6 W
 | 2,h,_=>obtain rfl:=Option.some.inj (show some 5=some x from h);exact F7 W
 | 3,h,_=>obtain rfl:=Option.some.inj (show some 7=some x from h);exact F8 W
 | 4,h,_=>obtain rfl:=Option.some.inj (show some 11=some x from h);exact F9 W
 | 5,h,_=>obtain rfl:=Option.some.inj (show some 13=some x from h);exact Ga W
 | 6,h,_=>obtain rfl:=Option.some.inj (show some 17=some x from h);exact Gb W
 | 7,h,_=>obtain rfl:=Option.some.inj (show some 19=some x from h);exact Gc W
 | 8,h,_=>obtain rfl:=Option.some.inj (show some 23=some x from h);exact Ge W
 | 9,h,_=>obtain rfl:=Option.some.inj (show some 29=some x from h);exact Gf W
 | 10,h,_=>obtain rfl:=Option.some.inj (show some 31=some x from h);exact E5 W
 | 11,h,_=>obtain rfl:=Option.some.inj (show some 37=some x from h);exact E6 W
 | 12,h,_=>obtain rfl:=Option.some.inj (show some 41=some x from h);exact E7 W
 | 13,h,_=>obtain rfl:=Option.some.inj (show some 43=some x from h);exact E8 W
 | 14,h,_=>obtain rfl:=Option.some.inj (show some 47=some x from h);exact E9 W
 | 15,h,_=>obtain rfl:=Option.some.inj (show some 53=some x from h);exact Fa W
 | 16,h,_=>obtain rfl:=Option.some.inj (show some 59=some x from h);exact Fb W
 | 17,h,_=>obtain rfl:=Option.some.inj (show some 61=some x from h);exact Fc W
 | 18,h,_=>obtain rfl:=Option.some.inj (show some 67=some x from h);exact Fe W
 | 19,h,_=>obtain rfl:=Option.some.inj (show some 71=some x from h);exact Ff W
 | 20,h,_=>obtain rfl:=Option.some.inj (show some 73=some x from h);exact Fg W
 | 21,h,_=>obtain rfl:=Option.some.inj (show some 79=some x from h);exact Fh W
 | 22,h,_=>obtain rfl:=Option.some.inj (show some 83=some x from h);exact Fi W
 | 23,h,_=>obtain rfl:=Option.some.inj (show some 89=some x from h);exact Fj W
 | 24,h,_=>obtain rfl:=Option.some.inj (show some 97=some x from h);exact Fl W
theorem oX {k x:Nat} (h:au[k]? = some x):au=au.take k++x::au.drop (k+1)∧au.take (k+1)=au.take k ++ [x]:=by
 obtain ⟨hk,e⟩:=List.getElem?_eq_some_iff.1 h
 refine ⟨?_,?_⟩
 ·rw [←e,List.getElem_cons_drop];exact (List.take_append_drop k au).symm
 ·rw [List.take_succ_eq_append_getElem hk,e]
theorem ll {x:Nat} (h:x∈au):2≤x∧x≤97:=by
 revert x;decide
theorem oY {x:Nat} (h:x∈au):x*x≤9409:=by
 have:=(ll h).2
 exact Nat.mul_le_mul this this
section
attribute [local go_sem] Oper.semAt_some
theorem ln (n:Nat) (w:World) (hn:1≤n) (hS:Sm w) :
  A4 Fence.wide n Tryz.prog 293 #[] (fun p:Nat => #[Value.int .u64 (p:Int),Value.int .u64 ((p:Int)*(p:Int))]) au w:=by
 intro l J Jx W hb hJa hJd hY h0
 have hSW:=hS.next hb
 have hload:=E4 hSW
 have HI:=Ha Gg
 have HY:=Ha hY
 have H0:=Ha h0
 clear hY h0 hSW hS hb hJa hJd
 refine callsIn_of_wp Tryz.func293 rfl trivial ?_ rfl
 simp only [Tryz.ntmps293,List.size_toArray,List.length_cons,List.length_nil,Nat.reduceAdd,Nat.reduceSub,Array.replicate_succ,Array.replicate_zero,List.push_toArray,List.append_toArray,List.nil_append,List.cons_append]
 gi_wp2_with (refine lj rfl 338 _ rfl _ hload ?_)
 clear hload
 generalize A25=A at *
 gi_loopw [5] (fun i wr=>∃ k:Nat,k≤25∧i = .int .i64 k∧Hid (J (au.take k) wr)) (fun i _=>25 - (RowKit.intOf i).toNat)
 case atStart=>exact ⟨0,by omega,rfl,H0⟩
 case round =>
  clear H0
  obtain ⟨k,hk,rfl,hJs⟩:=hrel
  by_cases hlt:k<25
  ·obtain ⟨x,hx⟩:∃ x,au[k]? = some x:=⟨_,List.getElem?_eq_getElem hlt⟩
   have hidx:=HI.out k x hx
   have hmem:x∈au:=List.mem_of_getElem? hx
   obtain ⟨s1,s2⟩:=oX hx
   obtain ⟨fn,tmps,assign,body,hy,hR⟩:=HY.out (au.take k) x (au.drop (k+1)) wr s1 hJs.out
   have hmul:IntKind.u64.wrap ((x:Int)*(x:Int))=(x:Int)*(x:Int):=by
    rw [IntKind.wrap_u64]
    have h1:=oY hmem
    have h2:((x*x:Nat):Int)=(x:Int)*(x:Int):=Int.natCast_mul x x
    omega
   have HR:=Ha hR;clear hR
   have HS:=Ha s2;clear s1 s2 hx hmem
   try dsimp only at hy
   generalize (x:Int)=z at *
   gi_wp2
   refine HR.out.mono ?_
   clear HR
   rintro e W3 (⟨rfl,hJ3,hk3⟩ | ⟨rfl,hJx3⟩)
   ·have HJ:=Ha hJ3;clear hJ3 hk3
    gi_wp2
    go_roundw
    case rel=>exact ⟨k+1,by omega,by simp,by show J _ _;rw [HS.out];exact HJ.out⟩
    case measure=>simp [RowKit.intOf];omega
   ·have HJ:=Ha hJx3;clear hJx3
    gi_wp2
    refine bodyPost_ret (results_none rfl _ _ _) rfl ?_
    exact ⟨⟨_,rfl⟩,.inr ⟨_,au.drop (k+1),by rw [←HS.out,List.take_append_drop],HJ.out⟩⟩
  ·have hx:Hid (au.take k=au):=Ha (List.take_of_length_le (by show 25≤k;omega))
   gi_wp2
   go_end0
   exact ⟨⟨_,rfl⟩,.inl (by have:=hJs.out;rwa [hx.out] at this)⟩
end
end T
namespace T
open Go.Proofs.YtbhbhlfkdlfimaaGreatDoor Go Go.RowKit Go.Shelf
def sN (n:Nat):ByteArray:=aa (n:Int)
theorem A5 (x y:Nat) (w:World) (hx:x<lim) (hy:y<lim) (h0:0<y) (ht:Tab w) :
  Calls Tryz.prog 284 #[.string (sN x),.string (sN y)] w fun e W'=>e = .returned (.tuple #[.string (sN (x / y)),.string (sN (x % y))])∧Below w.heap.size w W':=by
 have c:=xx x y w (aq.2 hx) (aq.2 hy) (by omega) ht
 rwa [tO,AC] at c
theorem sC (x y:Nat) (w:World) (hx:x<lim) (hy:y<lim) (h:x*y<lim) (ht:Tab w) :
  Calls Tryz.prog 277 #[.string (sN x),.string (sN y)] w fun e W'=>e = .returned (.string (sN (x*y)))∧Below w.heap.size w W':=by
 have c:=ol x y w (aq.2 hx) (aq.2 hy) (by rw [←Int.natCast_mul];exact aq.2 h) ht
 rwa [←Int.natCast_mul] at c
theorem Gh (a:Nat):((sN a).toList == [48])=decide (a=0):=by
 unfold sN
 rw [ByteArray.toList_eq,aF]
 by_cases h:a=0
 ·subst h;decide+kernel
 ·rw [decide_eq_false h,beq_eq_false_iff_ne];intro e
  have h2:Lib.itoa ((a:Nat):Int)=Lib.itoa 0:=e.trans (show [48]=Lib.itoa 0 by decide+kernel)
  exact h (Int.ofNat.inj (eJ h2))
theorem jm:∀ (l:List Nat) (p n:Nat),ai (l ++ [p]) n=((ai l n).1*(strip p (ai l n).2).1,(strip p (ai l n).2).2)
 | [],p,n=>by simp [ai]
 | q::l,p,n=>by
  show ((strip q n).1*(ai (l ++ [p]) (strip q n).2).1,(ai (l ++ [p]) (strip q n).2).2)=_
  rw [jm l p]
  simp only [ai,Nat.mul_assoc]
theorem A6:9409<lim:=by
 have:=fw (z:=9409) (by decide)
 exact this
theorem A7 {pre r:List Nat} {x:Nat} (h:au=pre++x::r):(∀ p∈pre,2≤p)∧x∈au:=by
 refine ⟨fun p hp=>(ll (x:=p) (by rw [h];simp [hp])).1,by rw [h];simp⟩
structure LgAt (w:World) (base:Nat) (c x:Nat) (W0 W:World):Prop where
 b1:Boxed W w.heap.size 9 (.string (sN x))
 b2:Boxed W (w.heap.size+1) 9 (.string (sN c))
 below:Below w.heap.size w W
 from_:KeepsFrom base W0 W
 kb:Kb base W0 W
theorem LgAt.next {w:World} {base c x:Nat} {W0 W W':World} (h:LgAt w base c x W0 W) (b:Below W.heap.size W W'):LgAt w base c x W0 W' :=
 ⟨h.b1.kept (df b) (by simp),h.b2.kept (df b) (by simp),h.below.trans (b.mono h.below.size),h.from_.trans (KeepsFrom.of_grownBy (df b) (fun j e=>by cases e)),h.kb.trans (Kb.of_below b)⟩
theorem LgAt.put {w:World} {base c x:Nat} {W0 W:World} (h:LgAt w base c x W0 W) (hb:w.heap.size+1<base) (c' x':Nat) :
  LgAt w base c' x' W0 ((W.setCell ⟨w.heap.size+1,0,none⟩ (.string (sN c'))).setCell ⟨w.heap.size,0,none⟩ (.string (sN x'))) :=
 ⟨(h.b1.other (by omega) _).set _,(h.b2.set _).other (by omega) _,(h.below.setCell (p:=⟨w.heap.size+1,0,none⟩) (by show w.heap.size≤w.heap.size+1;omega) _).setCell (p:=⟨w.heap.size,0,none⟩) (Nat.le_refl _) _,
  h.from_.trans (((KeepsOthers.setCell _ _ _).from _).trans ((KeepsOthers.setCell _ _ _).from _)),h.kb.trans ((Kb.cell_below (p:=⟨w.heap.size+1,0,none⟩) hb _).trans (Kb.cell_below (p:=⟨w.heap.size,0,none⟩) (by show w.heap.size<base;omega) _))⟩
section
attribute [local go_sem] Oper.semAt_some
theorem A8 (m:Nat) (w:World) (h0:0<m) (hm:m<lim) (ht:Tab w) (hS:Sm w) :
  Calls Tryz.prog 291 #[.string (sN m)] w fun e W'=>e = .returned (.tuple #[.string (sN (ai au m).1),.string (sN (ai au m).2)])∧Below w.heap.size w W':=by
 refine (callsIn_wide (n:=9)).1 ?_
 have C1:Hid (∀ u,u<9410→∀ W,Below w.heap.size w W→Calls Tryz.prog 294 #[.int .u64 (u:Nat),.int .i64 10] W fun e W'=>e = .returned (.string (sN u))∧Below W.heap.size W W') :=
  Ha (fun u hu W hW=>EC u (by omega) W (ht.next hW))
 have C2:Hid (∀ x y,x<lim→y<lim→0<y→∀ W,Below w.heap.size w W→Calls Tryz.prog 284 #[.string (sN x),.string (sN y)] W fun e W'=>e = .returned (.tuple #[.string (sN (x / y)),.string (sN (x % y))])∧Below W.heap.size W W') :=
  Ha (fun x y hx hy h W hW=>A5 x y W hx hy h (ht.next hW))
 have C3:Hid (∀ x y,x<lim→y<lim→x*y<lim→∀ W,Below w.heap.size w W→Calls Tryz.prog 277 #[.string (sN x),.string (sN y)] W fun e W'=>e = .returned (.string (sN (x*y)))∧Below W.heap.size W W') :=
  Ha (fun x y hx hy h W hW=>sC x y W hx hy h (ht.next hW))
 have HM:=Ha (Hb h0 (Hb hm hS));clear h0 hm hS ht
 refine callsIn_of_wp_marks Tryz.func291 rfl trivial ?_ rfl
 simp only [Tryz.ntmps291,List.size_toArray,List.length_cons,List.length_nil,Nat.reduceAdd,Nat.reduceSub,Array.replicate_succ,Array.replicate_zero,List.push_toArray,List.append_toArray,List.nil_append,List.cons_append]
 gi_wp2
 have b0:=(Boxed.new w 9 (.string (sN m))).alloc (.cells #[.string ⟨#[49]⟩] 9)
 have b1:=Boxed.new (w.alloc (.cells #[.string (sN m)] 9)) 9 (.string ⟨#[49]⟩)
 simp only [World.size_alloc] at b0 b1
 have hB0:Below w.heap.size w ((w.alloc (.cells #[.string (sN m)] 9)).alloc (.cells #[.string ⟨#[49]⟩] 9)):=((Below.refl _ w).alloc (Nat.le_refl _) _).alloc (by simp) _
 have hsz:((w.alloc (.cells #[.string (sN m)] 9)).alloc (.cells #[.string ⟨#[49]⟩] 9)).heap.size=w.heap.size+1+1:=by simp
 generalize (w.alloc (.cells #[.string (sN m)] 9)).alloc (.cells #[.string ⟨#[49]⟩] 9)=W2 at *
 have HB:=Ha (Hb hB0 (Hb hsz (Hb b0 b1)));clear b0 b1 hB0 hsz
 have e1:(⟨#[49]⟩:ByteArray)=sN (ai [] m).1:=(iO 1 [49] bU).symm
 refine ij rfl (by omega) (gf:=293) (fs := #[]) rfl trivial (enters_of Tryz.func293 (by kernel_rfl) rfl)
  (ln (9 - 1) W2 (by omega) (HM.out.2.2.next HB.out.1)) (fun _=>rfl) .ret (.inl rfl)
  (fun pre W=>(Boxed W w.heap.size 9 (.string (sN (ai pre m).2))∧Boxed W (w.heap.size+1) 9 (.string (sN (ai pre m).1)))∧Below w.heap.size w W)
  (fun _ _=>False)
  (OwnFrom.and (OwnFrom.and (Own.from (boxed_own _ _ (fun pre => .string (sN (ai pre m).2))) _) (Own.from (boxed_own _ _ (fun pre => .string (sN (ai pre m).1))) _)) (ownFrom_below (Nat.le_refl _) (by rw [HB.out.2.1];omega)))
  (fun _ _ _ _ h _ _=>h)
  (fun s A h=>⟨h.1,h.2.drew⟩)
  ⟨⟨HB.out.2.2.1,by have:=HB.out.2.2.2;rwa [e1] at this⟩,HB.out.1⟩
  (fun p=>{ tmps := #[.string (sN m),.pointer (some ⟨w.heap.size,0,none⟩),.string ⟨#[]⟩,.string ⟨#[]⟩,.pointer (some ⟨w.heap.size+1,0,none⟩),.int .u64 (p:Int),.int .u64 ((p:Int)*(p:Int)),undef,undef,undef,undef,.int .u64 (p:Int),.int .u64 ((p:Int)*(p:Int)),undef,undef,undef,undef,undef,undef,undef,undef,undef,undef,undef,undef,undef,undef,undef,undef,undef,undef,undef,undef,undef,undef,undef,undef],defers := [] }) ?assign ?body ?done ?stop
 case assign =>
  intro l x W K hK
  gi_wp2
  exact hK
 case body =>
  rintro l pre p r' W hle hx ⟨⟨h1,h2⟩,hB⟩
  obtain ⟨hpre,hmem⟩:=A7 hx
  have hp:=ll hmem
  have hpp:=oY hmem
  obtain ⟨a1,a2,a3,a4,_⟩:=aS pre hpre HM.out.1
  have hsn:=jm pre p m
  have H:=Ha (⟨h1,h2,hB,KeepsFrom.refl _ _,Kb.refl _ _⟩:LgAt w W2.heap.size (ai pre m).1 (ai pre m).2 W W)
  have HX:=Ha (Hb hsn (Hb a1 (Hb a2 (Hb a3 (Hb hp (Hb hpp hle))))));clear hsn a1 a2 a3 a4 hp hpp hle hx hpre hmem h1 h2 hB
  generalize (ai pre m).1=c0 at *
  generalize (ai pre m).2=x0 at *
  have f1:=Ha (C1.out p (by have:=HX.out.2.2.2.2.1;omega))
  have f2:=Ha (C1.out (p*p) (by have:=HX.out.2.2.2.2.2.1;omega))
  rw [Int.natCast_mul] at f2
  have hpos:0<p*p:=Nat.mul_pos (by have:=HX.out.2.2.2.2.1;omega) (by have:=HX.out.2.2.2.2.1;omega)
  have hxl:x0<lim:=Nat.lt_of_le_of_lt (by rw [HX.out.2.1];exact Nat.le_mul_of_pos_left _ (Nat.mul_pos HX.out.2.2.1 HX.out.2.2.1)) HM.out.2.1
  have hpl:p*p<lim:=Nat.lt_of_le_of_lt HX.out.2.2.2.2.2.1 A6
  have HP:=Ha (Hb hpos (Hb hxl hpl));clear hpos hxl hpl
  gi_wp2_with fail
  refine ⟨trivial,?_⟩
  refine (CallsIn.inRound l (callsIn_wide.2 (f1.out _ H.out.below))).mono ?_
  rintro e w1 ⟨rfl,b⟩
  have HN:=Ha (H.out.next b);clear H b;have H:=HN;clear HN
  gi_wp2_with fail
  refine ⟨trivial,?_⟩
  refine (CallsIn.inRound l (callsIn_wide.2 (f2.out _ H.out.below))).mono ?_
  rintro e w2 ⟨rfl,b⟩
  have HN:=Ha (H.out.next b);clear H b;have H:=HN;clear HN
  have hc1:=H.out.b1.cell
  have g1:=Ha (C2.out x0 (p*p) HP.out.2.1 HP.out.2.2 HP.out.1)
  gi_wp2_with fail
  refine ⟨trivial,?_⟩
  refine (CallsIn.inRound l (callsIn_wide.2 (g1.out _ H.out.below))).mono ?_
  rintro e w3 ⟨rfl,b⟩
  have HN:=Ha (H.out.next b);clear H b;have H:=HN;clear HN
  clear hc1
  gi_wp2
  gi_loopg [9,10] x0 (fun g s9 s10 wx=>s9 = .string (sN (g / (p*p)))∧s10 = .string (sN (g % (p*p)))∧Hid (∃ c,c*c*g=m∧0<g∧c*(strip p g).1=c0*(strip p x0).1∧(strip p g).2=(strip p x0).2∧LgAt w W2.heap.size c g W wx))
  case atStart=>exact ⟨rfl,rfl,Ha ⟨c0,HX.out.2.1.symm,HX.out.2.2.2.1,rfl,rfl,H.out⟩⟩
  case round =>
   clear H
   obtain ⟨rfl,rfl,hh⟩:=hrel
   obtain ⟨c,i1,i2,i3,i4,i5⟩:=hh.out
   have H:=Ha i5
   have HI:=Ha (Hb i1 (Hb i2 (Hb i3 i4)));clear i1 i2 i3 i4 i5 hh
   have z1:=Gh (gk % (p*p))
   by_cases hz:gk % (p*p)=0
   ·rw [decide_eq_true hz] at z1
    have hs:=l9 (p:=p) HX.out.2.2.2.2.1.1 HI.out.2.1 hz
    have hdm:gk=p*p*(gk / (p*p)):=by have:=Nat.div_add_mod gk (p*p);omega
    have hg2:0<gk / (p*p):=Nat.pos_of_ne_zero fun e=>by rw [e,Nat.mul_zero] at hdm;have:=HI.out.2.1;omega
    have hlt:gk / (p*p)<gk:=Nat.div_lt_self HI.out.2.1 (mc HX.out.2.2.2.2.1.1)
    have hcm:c*p*(c*p)*(gk / (p*p))=m:=by rw [Nat.mul_mul_mul_comm,Nat.mul_assoc (c*c),←hdm];exact HI.out.1
    have h3:c*p*(strip p (gk / (p*p))).1=c0*(strip p x0).1:=by rw [←HI.out.2.2.1,hs,Nat.mul_assoc]
    have h4:(strip p (gk / (p*p))).2=(strip p x0).2:=by rw [←HI.out.2.2.2,hs]
    have hcp:0<c*p:=Nat.pos_of_ne_zero fun e=>by rw [e] at hcm;simp at hcm;have:=HM.out.1;omega
    have hcl:c*p<lim:=Nat.lt_of_le_of_lt (by rw [←hcm,Nat.mul_assoc];exact Nat.le_mul_of_pos_right _ (Nat.mul_pos hcp hg2)) HM.out.2.1
    have hc2:c<lim:=Nat.lt_of_le_of_lt (Nat.le_mul_of_pos_right _ (by have:=HX.out.2.2.2.2.1;omega)) hcl
    have hgl:gk / (p*p)<lim:=Nat.lt_of_le_of_lt (by rw [←hcm];exact Nat.le_mul_of_pos_left _ (Nat.mul_pos hcp hcp)) HM.out.2.1
    have t1:=Ha (C3.out c p hc2 (by have:=HX.out.2.2.2.2.1;have:=A6;omega) hcl)
    have d1:=Ha (C2.out (gk / (p*p)) (p*p) hgl HP.out.2.2 HP.out.1)
    have HQ:=Ha (Hb hlt (Hb hcm (Hb hg2 (Hb h3 h4))));clear hs hdm hg2 hlt hcm h3 h4 hcp hcl hc2 hgl hz HI
    generalize gk / (p*p)=g2 at *
    have hc1:=H.out.b1.cell
    have hc2:=H.out.b2.cell
    gi_wp2_with fail
    refine ⟨trivial,?_⟩
    refine (CallsIn.inRound l (callsIn_wide.2 (t1.out _ H.out.below))).mono ?_
    rintro e w5 ⟨rfl,b⟩
    have HN:=Ha (H.out.next b);clear H b hc1 hc2;have H:=HN;clear HN
    have hc1:=H.out.b1.cell
    have hc2:=H.out.b2.cell
    have hf1:=H.out.b1.frozen
    have hf2:=H.out.b2.frozen
    have HN:=Ha (H.out.put (by rw [HB.out.2.1];omega) (c*p) g2)
    have hd1:=HN.out.b1.cell
    gi_wp2_with fail
    refine ⟨trivial,?_⟩
    refine (CallsIn.inRound l (callsIn_wide.2 (d1.out _ HN.out.below))).mono ?_
    rintro e w6 ⟨rfl,b⟩
    have HO:=Ha (HN.out.next b);clear HN b hc1 hc2 hf1 hf2 hd1 H
    gi_wp2
    gi_roundg g2
    case rel=>exact ⟨rfl,rfl,Ha ⟨c*p,HQ.out.2.1,HQ.out.2.2.1,HQ.out.2.2.2.1,HQ.out.2.2.2.2,HO.out⟩⟩
    case measure=>exact HQ.out.1
   ·rw [decide_eq_false hz] at z1
    have hs:=fJ (p:=p) hz
    have e3:=HI.out.2.2.1
    have e4:=HI.out.2.2.2
    rw [hs] at e3 e4
    have HQ:=Ha (Hb e3 e4);clear e3 e4 hs hz HI
    gi_wp2
    refine ⟨H.out.from_,fun _=>H.out.kb,⟨⟨?_,?_⟩,H.out.below⟩⟩
    ·have:=H.out.b1
     rw [HX.out.1]
     have e:=HQ.out.2
     simp only at e ⊢
     rwa [e] at this
    ·have:=H.out.b2
     rw [HX.out.1]
     have e:=HQ.out.1
     simp only [Nat.mul_one] at e ⊢
     rwa [e] at this
 case done =>
  rintro D W hD ⟨⟨h1,h2⟩,hB⟩ hK
  have hc1:=h1.cell
  have hc2:=h2.cell
  have d1:=(show World.cell? W.drew ⟨w.heap.size,0,none⟩=_ from hc1)
  have d2:=(show World.cell? W.drew ⟨w.heap.size+1,0,none⟩=_ from hc2)
  have HH:=Ha (Hb hB (Hb hK hD));clear hB hK hD h1 h2
  have hmx:Tryz.prog.follows .mixedOrders=true:=by kernel_rfl
  gi_wp2
  refine wpIn_mono (Q:=Exit.then _ (fun _ _ _=>False)) ?_ (fun e a' w' h=>by cases e <;> first | exact h | exact h.elim)
  gi_region_with_o (fail)
  all_goals
   gi_wp2
   have hKd:W.drew.heap[D]? = some (.deferred (some [])):=HH.out.2.1
   refine ⟨by simp,.inl ⟨_,_,rfl,run_takeDeferred hKd,?_⟩⟩
   refine ⟨.tuple #[.string (sN (ai au m).1),.string (sN (ai au m).2)],?_,rfl,HH.out.1.drew.trans (belowK_b (w:=w) (Nat.le_refl _) W.drew D _ _ (by have:=HH.out.2.2;rw [HB.out.2.1] at this;omega) hKd rfl rfl)⟩
   simp [results,Tryz.f291,go_sem]
 case stop =>
  rintro D pre r' W hD hx h hK
  exact h.elim
end
end T
end Go.Proofs.YtbhbhlfkdlfimaaGreatDoor
