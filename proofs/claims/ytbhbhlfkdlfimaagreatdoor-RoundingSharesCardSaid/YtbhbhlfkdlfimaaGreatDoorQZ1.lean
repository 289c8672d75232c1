/- Parts of the proofs of the texts YtbhbhlfkdlfimaaGreatDoorQZ. -/
import Derived.BigQuiet
import Derived.Test.YtbhbhlfkdlfimaaGreatDoorRows
import Derived.Test.YtbhbhlfkdlfimaaGreatDoorCards
import Derived.Test.YtbhbhlfkdlfimaaGreatDoorTie
import Derived.ProofKit
import Derived.LaidMore
import Derived.OpenShut
import Derived.Stop.Joined
import Derived.Stop.LaidErr
import Derived.SevenTiedAt
import Derived.Below
import Derived.RowKitTokens
import Derived.ChangeSlices
import Derived.Carry
import Derived.Test.YtbhbhlfkdlfimaaGreatDoorQX1
import Derived.Test.YtbhbhlfkdlfimaaGreatDoorQX10
import Derived.Test.YtbhbhlfkdlfimaaGreatDoorQX11
import Derived.Test.YtbhbhlfkdlfimaaGreatDoorQX12
import Derived.Test.YtbhbhlfkdlfimaaGreatDoorQX13
import Derived.Test.YtbhbhlfkdlfimaaGreatDoorQX14
import Derived.Test.YtbhbhlfkdlfimaaGreatDoorQX15
import Derived.Test.YtbhbhlfkdlfimaaGreatDoorQX16
import Derived.Test.YtbhbhlfkdlfimaaGreatDoorQX17
import Derived.Test.YtbhbhlfkdlfimaaGreatDoorQX18
import Derived.Test.YtbhbhlfkdlfimaaGreatDoorQX19
import Derived.Test.YtbhbhlfkdlfimaaGreatDoorQX2
import Derived.Test.YtbhbhlfkdlfimaaGreatDoorQX20
import Derived.Test.YtbhbhlfkdlfimaaGreatDoorQX21
import Derived.Test.YtbhbhlfkdlfimaaGreatDoorQX22
import Derived.Test.YtbhbhlfkdlfimaaGreatDoorQX23
import Derived.Test.YtbhbhlfkdlfimaaGreatDoorQX24
import Derived.Test.YtbhbhlfkdlfimaaGreatDoorQX25
import Derived.Test.YtbhbhlfkdlfimaaGreatDoorQY1
import Derived.Test.YtbhbhlfkdlfimaaGreatDoorQY2
import Derived.Test.YtbhbhlfkdlfimaaGreatDoorQY3
import Derived.Test.YtbhbhlfkdlfimaaGreatDoorQYF1
import Derived.Test.YtbhbhlfkdlfimaaGreatDoorQX3
import Derived.Test.YtbhbhlfkdlfimaaGreatDoorQX4
import Derived.Test.YtbhbhlfkdlfimaaGreatDoorQX5
import Derived.Test.YtbhbhlfkdlfimaaGreatDoorQX6
import Derived.Test.YtbhbhlfkdlfimaaGreatDoorQX7
import Derived.Test.YtbhbhlfkdlfimaaGreatDoorQX8
import Derived.Test.YtbhbhlfkdlfimaaGreatDoorQX9
set_option linter.all false
set_option maxRecDepth 100000
set_option maxHeartbeats 8000000
namespace Go.Proofs.YtbhbhlfkdlfimaaGreatDoor
namespace T
open Go.RowKit
structure Uw (W:World) (p:Option Addr) (k:Nat) (xs:List Nat):Prop where
 len:k=xs.length
 lt:∀ j,j<k→xs[j]?.getD 0<65536
 at_:0<k→∃ b off,p=some ⟨b,off,none⟩∧b<W.heap.size∧∀ j,j<k→W.cell? ⟨b,off+j,none⟩=some (.int .u16 (xs[j]?.getD 0))
def wts (xs:List Nat):List Nat:=xs.map (· % 1001)
theorem It (xs:List Nat) (j:Nat):(wts xs)[j]?.getD 0=xs[j]?.getD 0 % 1001:=by
 unfold wts
 rw [List.getElem?_map]
 cases xs[j]? <;> rfl
def cI (f:Nat→Nat) (j:Nat):List Value:=(List.range j).map fun i=>Value.int .i64 (f i)
theorem IA (f:Nat→Nat) (j:Nat):cI f (j+1)=cI f j ++ [.int .i64 (f j)]:=by unfold cI;rw [List.range_succ,List.map_append];rfl
theorem IB {W:World} {B k:Nat} {v:Value} {ws:List Nat} (hk:k=ws.length) (hs:∀ j,j<k→ws[j]?.getD 0≤1000) (h0:k=0→v = .slice none 0 0) (h:W.ownsRow B 3 1 v k (cI (fun j=>ws[j]?.getD 0) k)):∃ p c,v = .slice p k c∧(k=0→c=0)∧Gaw W p k ws:=by
 obtain ⟨_,⟨rfl,rfl⟩ | ⟨g,cap,cur,rfl,_,hh,hn,_,hz,ht⟩⟩:=h
 ·exact ⟨none,0,rfl,fun _=>rfl,hk,hs,fun _=>rfl,fun h=>absurd h (by decide)⟩
 ·rcases Nat.eq_zero_or_pos k with rfl | k0
  ·cases h0 rfl
  ·have hb:Blk W g cur:=⟨_,hh⟩
   refine ⟨some ⟨g,0,none⟩,cap,rfl,fun e=>by omega,hk,hs,fun e=>by omega,fun _=>⟨g,rfl,hb.lt,fun j hj=>hb.cell j _ ?_⟩⟩
   have e:(cur.toList.take (k*1))[j]? = (cI (fun j=>ws[j]?.getD 0) k)[j]? := by rw [ht]
   rw [List.getElem?_take_of_lt (by omega)] at e
   unfold cI at e
   rw [List.getElem?_map,List.getElem?_range hj] at e
   simpa using e
theorem Iu (f:Nat→Nat) {m n:Nat} (h:m≤n):an f m≤an f n:=by
 induction h with
 | refl=>exact Nat.le_refl _
 | step _ ih=>exact Nat.le_trans ih (Nat.le_add_right _ _)
theorem RoundingShares_any (t k c:Nat) (p:Option Addr) (xs:List Nat) (w:World) (ht:Tab w) (ht2:aH w) (hS:Sm w) (h16:t<65536) (h:Uw w p k xs) :
  Calls Tryz.prog 3 #[.int .u16 t,.slice p k c] w fun e W'=>e = .returned (.bool true)∧Below w.heap.size w W':=by
 have HAW:=Ha (fun W (g:Below w.heap.size w W)=>Hy W (ht.next g) (ae ht2 g) (hS.next g));clear ht ht2 hS
 by_cases hk:10<k
 ·have hz:(10:Int)<k:=by omega
  go_enter Tryz.func3,Tryz.ntmps3
  go_wp2_with fail
  refine (HAW.out _ (Below.refl _ _)).mono ?_
  rintro e w1 ⟨rfl,b⟩
  have HB:=Ha b;clear b
  go_wp2
  go_ret
  exact ⟨rfl,HB.out⟩
 have hk10:¬ (10:Int)<k:=by omega
 have hn:t % 1001≤1000:=by omega
 have hn1:IntKind.i64.wrap (t:Int)=(t:Int):=by rw [IntKind.wrap_i64];omega
 obtain ⟨i0,hi,hz0,hz1,hz2⟩:=info_parts ju
 have HI:=Ha (Hb hi (Hb hz0 (Hb hz1 hz2)));clear hi hz0 hz1 hz2
 have fS:∀ j,(wts xs)[j]?.getD 0≤1000:=fun j=>by rw [It];omega
 have bd:∀ j,j≤k→an (fun i=>(wts xs)[i]?.getD 0) j≤j*1000:=fun j=>by
  induction j with
  | zero=>intro _;exact Nat.zero_le _
  | succ j ih=>intro hj;have:=ih (by omega);have:=fS j;show _+(wts xs)[j]?.getD 0≤_;omega
 have HH:=Ha (Hb h (Hb fS bd));clear h fS bd
 go_enter Tryz.func3,Tryz.ntmps3
 go_wp2_with fail
 have hO0:w.ownsRow w.heap.size 3 1 (.slice none 0 0) 0 (cI (fun j=>(wts xs)[j]?.getD 0) 0):=⟨rfl,.inl ⟨rfl,rfl⟩⟩
 go_loopw [6,7,27] (fun s v i wr=>∃ j:Nat,s = .int .i64 (an (fun i=>(wts xs)[i]?.getD 0) j)∧i = .int .i64 j∧j≤k∧Hid (wr.ownsRow w.heap.size 3 1 v j (cI (fun j=>(wts xs)[j]?.getD 0) j)∧(j=0→v = .slice none 0 0)∧Below w.heap.size w wr)) (fun _ _ i _=>k - (intOf i).toNat)
 case atStart=>exact ⟨0,rfl,rfl,by omega,hO0,fun _=>rfl,Below.refl _ _⟩
 case round =>
  clear hO0
  obtain ⟨j,rfl,rfl,hj,HO⟩:=hrel
  by_cases hlt:j<k
  ·have hzj:(j:Int)<k:=by omega
   obtain ⟨b,off,rfl,hbl,hcs⟩:=HH.out.1.at_ (by omega)
   have d0:=(HO.out.2.2.cell (p:=⟨b,off+j,none⟩) hbl).trans (hcs j hlt)
   have hx:=HH.out.1.lt j hlt
   have hs1:=HH.out.2.2 j (by omega)
   have HS:=Ha (show an (fun i=>(wts xs)[i]?.getD 0) (j+1)=an (fun i=>(wts xs)[i]?.getD 0) j+xs[j]?.getD 0 % 1001 by rw [←It];rfl)
   have HC:=Ha (IA (fun j=>(wts xs)[j]?.getD 0) j)
   have HX:=Ha (It xs j)
   clear hbl hcs
   generalize xs[j]?.getD 0=x at *
   generalize an (fun i=>(wts xs)[i]?.getD 0) j=s at *
   have hx1:IntKind.i64.wrap (x:Int)=(x:Int):=by rw [IntKind.wrap_i64];omega
   have hx3:x % 1001≤1000:=by omega
   have HY:=Ha (show (x:Int) % 1001=((x % 1001:Nat):Int) by omega)
   have hs2:IntKind.i64.wrap ((s:Int)+(x:Int) % 1001)=(s:Int)+(x:Int) % 1001:=by rw [IntKind.wrap_i64];omega
   have hsz:=HO.out.2.2.size
   go_wp2_with (at_builtin;refine wpList_append_own _ rfl _ _ 25 rfl w.heap.size 3 i0 (.int .i64 0) 1 8 Tryz.underlying25 HI.out.1 HI.out.2.1 HI.out.2.2.1 HI.out.2.2.2 rfl (by decide) _ _ _ rfl (HO.out.1.alloc _) ⟨wr.heap.size,0,none⟩ 1 1 [.int .i64 ((x:Int) % 1001)] rfl rfl (cell_one_new _ _ _) (by simp [Value.oneCell']) (by unfold maxLen;omega) (by omega) (by simp;omega) ?_;intro v' w2 hown' hgrow _;have HO2:=Ha hown';have HG2:=Ha hgrow;clear hown' hgrow)
   go_roundw
   case rel =>
    refine ⟨j+1,by rw [HS.out,Int.natCast_add,←HY.out],by go_num,by omega,?_,fun e=>by omega,?_⟩
    ·rw [HC.out]
     show w2.ownsRow _ _ _ _ _ (_ ++ [.int .i64 (((wts xs)[j]?.getD 0:Nat):Int)])
     rw [HX.out,←HY.out];exact HO2.out
    ·exact (HO.out.2.2.alloc hsz _).grown HG2.out (by simp;omega) (fun k hk=>(HO.out.1.lt k hk).1)
   case measure=>simp [intOf];omega
  ·obtain rfl:j=k:=by omega
   have hzj:¬ (j:Int)<j:=by omega
   obtain ⟨p',c',rfl,hc0,hga⟩:=IB (ws:=wts xs) (by unfold wts;rw [List.length_map];exact HH.out.1.len) (fun i _=>HH.out.2.1 i) HO.out.2.1 HO.out.1
   have hT:(t:Int) % 1001=((t % 1001:Nat):Int):=by omega
   have hsum:an (fun i=>(wts xs)[i]?.getD 0) j=(wts xs).sum:=by
    rw [hga.len];exact rf _
   have hb1:=HH.out.2.2 j (Nat.le_refl _)
   rw [hsum] at hb1 ⊢
   rw [hT]
   have HB:=Ha HO.out.2.2
   have HG:=Ha hga
   have hsh:=fun W (g:Below wr.heap.size wr W)=>G2 (t % 1001) j c' p' (wts xs) W hn (by omega) hc0 (hga.next g)
   have HS:=Ha hsh
   clear hsh hga HO hsum hc0 hn1 hT
   generalize wts xs=ws at *
   generalize t % 1001=n at *
   go_wp2_with fail
   refine (HS.out _ (Below.refl _ _)).mono ?_
   rintro e w1 ⟨⟨z,rfl⟩ | ⟨z,o,F,rfl,hF,hR⟩,b⟩
   ·replace HB:=Ha (HB.out.trans (b.mono HB.out.size));clear b HS
    rw [z]
    go_wp2_with fail
    refine (HAW.out _ HB.out).mono ?_
    rintro e w2 ⟨rfl,b⟩
    replace HB:=Ha (HB.out.trans (b.mono HB.out.size));clear b
    go_wp2
    go_ret
    exact ⟨rfl,HB.out⟩
   ·replace HB:=Ha (Hb (HB.out.trans (b.mono HB.out.size)) (Hb (HG.out.next b) (Hb hF hR)));clear b HS HG hF hR
    have hz0:¬ ws.sum=0:=by omega
    have hz1:((ws.sum:Int)==0)=false:=by rw [beq_eq_false_iff_ne];omega
    have hlen:=HB.out.2.1.len
    have k0:0<j:=by
     rcases Nat.eq_zero_or_pos j with e | e
     ·have:ws = []:=List.eq_nil_of_length_eq_zero (by omega)
      subst this;exact absurd z (by decide)
     ·exact e
    obtain ⟨q,rfl,hq⟩:=HB.out.2.1.at_ k0
    have hFl:F.length=j:=by rw [HB.out.2.2.2.len];exact hlen.symm
    have hFs:an (fun i=>F[i]?.getD 0) j=n:=by rw [←hFl,rf,HB.out.2.2.2.sum]
    have HR:=Ha (Hb (fun i (hi:i<j)=>HB.out.2.2.2.near i (by omega)) (Hb (fun i r (hi:i<j) (hr:r<j)=>HB.out.2.2.2.mono i r (by omega) (by omega)) (Hb hFs HB.out.2.2.1)))
    have HQ:=Ha (Hb hq HB.out.1)
    have HW:=Ha (fun i=>HH.out.2.1 i)
    clear HB HH hFs hFl hlen hq
    generalize ws.sum=s at *
    go_wp2_with fail
    go_loopw [12,72] (fun a i wr=>∃ m:Nat,a = .int .i64 (an (fun i=>F[i]?.getD 0) m)∧i = .int .i64 m∧m≤j∧Hid (Below w1.heap.size w1 wr)) (fun _ i _=>j - (intOf i).toNat)
    case atStart=>exact ⟨0,rfl,rfl,by omega,Below.refl _ _⟩
    case round =>
     obtain ⟨m,rfl,rfl,hm,HB⟩:=hrel
     by_cases hlm:m<j
     ·have hzm:(m:Int)<j:=by omega
      have d0:=(HB.out.cell (p:=⟨o,m,none⟩) HR.out.2.2.2.lt).trans (HR.out.2.2.2.c m hlm)
      have d1:=(HB.out.cell (p:=⟨q,m,none⟩) HQ.out.1.lt).trans (HQ.out.1.c m hlm)
      obtain ⟨r1,r2⟩:=HR.out.1 m hlm
      have HD:=Ha (fun W (g:Below w1.heap.size w1 W)=>(g.cell (p:=⟨q,m,none⟩) HQ.out.1.lt).trans (HQ.out.1.c m hlm))
      have hw:=HW.out m
      have hS:=Iu (fun i=>F[i]?.getD 0) hm
      rw [HR.out.2.2.1] at hS
      have HS:=Ha (show an (fun i=>F[i]?.getD 0) (m+1)=an (fun i=>F[i]?.getD 0) m+F[m]?.getD 0 from rfl)
      have HM:=Ha (fun r hr=>Hb (HR.out.2.1 m r hlm hr) (HR.out.2.1 r m hr hlm))
      have nx:n*(ws[m]?.getD 0)≤1000000:=Nat.mul_le_mul hn hw
      have hx1:F[m]?.getD 0≤F[m]?.getD 0*s:=Nat.le_mul_of_pos_right _ z
      generalize F[m]?.getD 0=x at *
      generalize ws[m]?.getD 0=wi at *
      generalize an (fun i=>F[i]?.getD 0) m=a at *
      have e1:(x:Int)*(s:Int)=((x*s:Nat):Int):=(Int.natCast_mul _ _).symm
      have e2:(n:Int)*(wi:Int)=((n*wi:Nat):Int):=(Int.natCast_mul _ _).symm
      have v1:IntKind.i64.wrap ((x:Int)*(s:Int))=((x*s:Nat):Int):=by rw [e1,IntKind.wrap_i64];omega
      have v2:IntKind.i64.wrap ((n:Int)*(wi:Int))=((n*wi:Nat):Int):=by rw [e2,IntKind.wrap_i64];omega
      clear e1 e2
      generalize x*s=X at *
      generalize n*wi=Y at *
      have v3:IntKind.i64.wrap ((X:Int) - (Y:Int))=(X:Int) - (Y:Int):=by rw [IntKind.wrap_i64];omega
      have v4:IntKind.i64.wrap (-(s:Int)) = -(s:Int):=by rw [IntKind.wrap_i64];omega
      have v5:IntKind.i64.wrap ((a:Int)+(x:Int))=(a:Int)+(x:Int):=by rw [IntKind.wrap_i64];omega
      have v6:¬ ((X:Int) - (Y:Int) ≤ -(s:Int)):=by omega
      have v7:¬ ((s:Int)≤(X:Int) - (Y:Int)):=by omega
      go_wp2_with fail
      clear v1 v2 v3 v4 v5 v6 v7 d0 d1 nx hx1 r1 r2
      have HB0:=HB;clear HB
      go_loopw [101] (fun i wr=>∃ r:Nat,i = .int .i64 r∧r≤j∧Hid (Below w1.heap.size w1 wr)) (fun i _=>j - (intOf i).toNat)
      case atStart=>exact ⟨0,rfl,by omega,HB0⟩
      case round =>
       clear HB0
       obtain ⟨r,rfl,hr,HB⟩:=hrel
       by_cases hlr:r<j
       ·have hzr:(r:Int)<j:=by omega
        have d2:=(HB.out.cell (p:=⟨o,r,none⟩) HR.out.2.2.2.lt).trans (HR.out.2.2.2.c r hlr)
        have d3:=(HB.out.cell (p:=⟨q,r,none⟩) HQ.out.1.lt).trans (HQ.out.1.c r hlr)
        have d4:=HD.out _ HB.out
        have hc:=(HM.out r hlr).1
        generalize F[r]?.getD 0=y at *
        generalize ws[r]?.getD 0=wk at *
        have ways:Hid ((wk:Int)<wi∧decide ((x:Int)<y)=false)∨Hid (decide ((wk:Int)<wi)=false∧((wi:Int)==(wk:Int))=true∧(m:Int)<r∧decide ((x:Int)<y)=false)∨Hid (decide ((wk:Int)<wi)=false∧((wi:Int)==(wk:Int))=true∧decide ((m:Int)<r)=false)∨Hid (decide ((wk:Int)<wi)=false∧((wi:Int)==(wk:Int))=false):=by
         have:((wk:Int)<wi∧decide ((x:Int)<y)=false)∨(decide ((wk:Int)<wi)=false∧((wi:Int)==(wk:Int))=true∧(m:Int)<r∧decide ((x:Int)<y)=false)∨(decide ((wk:Int)<wi)=false∧((wi:Int)==(wk:Int))=true∧decide ((m:Int)<r)=false)∨(decide ((wk:Int)<wi)=false∧((wi:Int)==(wk:Int))=false):=by
          simp only [decide_eq_false_iff_not,beq_iff_eq,beq_eq_false_iff_ne];omega
         rcases this with h | h | h | h
         ·exact .inl (Ha h)
         ·exact .inr (.inl (Ha h))
         ·exact .inr (.inr (.inl (Ha h)))
         ·exact .inr (.inr (.inr (Ha h)))
        clear hc
        go_wp2_with fail
        rcases ways with A | A | A | A
        ·obtain ⟨a1,a2⟩:=A.out
         have n1:decide (x<y)=false:=decide_eq_false (by have:=of_decide_eq_false a2;omega)
         have n3:(wi==wk)=false:=by rw [beq_eq_false_iff_ne];omega
         have n5:decide (wi=wk)=false:=decide_eq_false (by omega)
         have n6:((wi:Int)==(wk:Int))=false:=by rw [beq_eq_false_iff_ne];omega
         go_quiet (fail)
         go_wp2
         go_roundw
         case rel=>exact ⟨r+1,by go_num,by omega,HB.out.trans (Below.drewK _ _ _)⟩
         case measure=>simp [intOf];omega
        ·obtain ⟨a1,a2,a3,a4⟩:=A.out
         have n2:decide (wk<wi)=false:=decide_eq_false (by have:=of_decide_eq_false a1;omega)
         have n3:(wi==wk)=true:=by rw [beq_iff_eq] at a2 ⊢; omega
         have n1:decide (x<y)=false:=decide_eq_false (by have:=of_decide_eq_false a4;omega)
         have n4:m<r:=by omega
         go_quiet (fail)
         go_wp2
         go_roundw
         case rel=>exact ⟨r+1,by go_num,by omega,HB.out.trans (Below.drewK _ _ _)⟩
         case measure=>simp [intOf];omega
        ·obtain ⟨a1,a2,a3⟩:=A.out
         have n2:decide (wk<wi)=false:=decide_eq_false (by have:=of_decide_eq_false a1;omega)
         have n3:(wi==wk)=true:=by rw [beq_iff_eq] at a2 ⊢; omega
         have n4:decide (m<r)=false:=decide_eq_false (by have:=of_decide_eq_false a3;omega)
         go_quiet (fail)
         go_wp2
         go_roundw
         case rel=>exact ⟨r+1,by go_num,by omega,HB.out.trans (Below.drewK _ _ _)⟩
         case measure=>simp [intOf];omega
        ·obtain ⟨a1,a2⟩:=A.out
         have n2:decide (wk<wi)=false:=decide_eq_false (by have:=of_decide_eq_false a1;omega)
         have n3:(wi==wk)=false:=by rw [beq_eq_false_iff_ne] at a2 ⊢; omega
         have n5:decide (wi=wk)=false:=decide_eq_false (by rw [beq_eq_false_iff_ne] at a2;omega)
         go_quiet (fail)
         go_wp2
         go_roundw
         case rel=>exact ⟨r+1,by go_num,by omega,HB.out.trans (Below.drewK _ _ _)⟩
         case measure=>simp [intOf];omega
       ·obtain rfl:r=j:=by omega
        have hzr:¬ (r:Int)<r:=by omega
        go_wp2_with fail
        go_roundw
        case rel=>exact ⟨m+1,by rw [HS.out,Int.natCast_add],by go_num,by omega,HB⟩
        case measure=>simp [intOf];omega
     ·obtain rfl:m=j:=by omega
      have hzm:¬ (m:Int)<m:=by omega
      rw [HR.out.2.2.1]
      go_wp2_with fail
      refine (HAW.out _ (HQ.out.2.trans (HB.out.mono HQ.out.2.size))).mono ?_
      rintro e w2 ⟨rfl,b⟩
      replace HB:=Ha ((HQ.out.2.trans (HB.out.mono HQ.out.2.size)).trans (b.mono (Nat.le_trans HQ.out.2.size HB.out.size)));clear b
      go_wp2
      go_ret
      exact ⟨rfl,HB.out⟩
end T
section
open Go.ChangeShapes Go.WideShapes Go.ChangeAt Go.RowKit
theorem own:ownKnob Tryz.prog.godebug=none:=by kernel_rfl
end
section
open Go.ChangeShapes Go.WideShapes Go.ChangeAt Go.RowKit
theorem Cd:Tryz.prog.globalNamed "math/bits.deBruijn64tab" = some 1:=by kernel_rfl
theorem wW:(Rows.laid_math_bits_deBruijn64tab:DataW Unit)=Lib.tabData .u8 (Lib.deBruijn64tab.map fun n:Nat=>(n:Int)):=rfl
theorem Ce {W:World} (h:Lib.TabIs Tryz.prog W "math/bits.deBruijn64tab" .u8 (Lib.deBruijn64tab.map fun n:Nat=>(n:Int))):aH W:=by
 intro j hj
 unfold Lib.TabIs World.var? at h
 rw [Cd] at h
 unfold World.cell?
 cases hh:W.heap[1]? with
 | none=>simp [hh] at h
 | some o =>
  cases o with
  | cells cs t f =>
   have h1:some cs=some ((Lib.deBruijn64tab.map fun n:Nat=>(n:Int)).map fun z=>Value.int .u8 z).toArray:=by
    rw [←h];simp only [Option.bind_some,hh]
   have h2:=Option.some.inj h1
   subst h2
   have hj':j<64:=hj
   simp only [List.map_map,List.getElem?_toArray,List.getElem?_map]
   rw [List.getD_eq_getElem?_getD,List.getElem?_eq_getElem hj]
   rfl
  | _=>simp [hh] at h
section
variable {H:Type} {enc:TypeId × Value→H} {P:Program} {w:World} {base:Nat} {spare:Nat→Bool} {held:Bool}
end
end
section
open Go.ChangeShapes Go.WideShapes Go.ChangeAt Go.RowKit
def lK:List (String × DataW Unit) := [("math/bits.deBruijn32tab", Rows.laid_math_bits_deBruijn32tab),("math/bits.deBruijn64tab", Rows.laid_math_bits_deBruijn64tab),("internal/strconv.uint64pow10", Rows.laid_internal_strconv_uint64pow10),("strconv.ErrRange", Rows.laid_strconv_ErrRange),("strconv.ErrSyntax", Rows.laid_strconv_ErrSyntax),("kingpost/root.small", Rows.laid_kingpost_root_small)]
theorem zW (os:Os) (args:Array Value):laidMetH Tryz.prog lK ((World.doorLaid Tryz.prog 400 os).forCall (fun _ _=>0) ⟨#[],args,[]⟩).memory :=
 laidMetH_of_parts3 (fuel:=8) (laidMet_of_run' 8 (by kernel_rfl) (by kernel_rfl)) (by kernel_rfl) (by kernel_rfl)
theorem wX {W:World} (h:laidMetH Tryz.prog lK W):laidMet Tryz.prog lK W:=by
 rwa [MakeChecks.laidMetH_plain _ _ _ (by kernel_rfl)] at h
theorem te {W:World} (h:laidMetH Tryz.prog lK W):Tab W:=by
 have h2:laidMet Tryz.prog (("internal/strconv.uint64pow10", Lib.tabData .u64 Lib.pow10Tab) :: [("strconv.ErrRange", Rows.laid_strconv_ErrRange),("strconv.ErrSyntax", Rows.laid_strconv_ErrSyntax),("kingpost/root.small", Rows.laid_kingpost_root_small)]) W:=laidMet.tail (laidMet.tail (wX h))
 exact Lib.tabIs_of_head Fo (t:=283) (e:=82) (n:=20) (by kernel_rfl) (by kernel_rfl) (by kernel_rfl) (by kernel_rfl) (by kernel_rfl) h2
theorem pU {W:World} (h:laidMetH Tryz.prog lK W):aH W:=by
 have h2:=laidMet.tail (wX h)
 rw [wW] at h2
 exact Ce (Lib.tabIs_of_head Cd (t:=279) (e:=5) (n:=64) (by kernel_rfl) (by kernel_rfl) (by kernel_rfl) (by kernel_rfl) (by kernel_rfl) h2)
theorem Cf:Tryz.prog.globalNamed "kingpost/root.small" = some 4:=by kernel_rfl
theorem wY:(Rows.laid_kingpost_root_small:DataW Unit)=Lib.tabData .u64 (T.au.map fun n:Nat=>(n:Int)):=rfl
theorem Gs {W:World} (h:Lib.TabIs Tryz.prog W "kingpost/root.small" .u64 (T.au.map fun n:Nat=>(n:Int))):T.Sm W:=by
 unfold Lib.TabIs World.var? at h
 rw [Cf] at h
 cases hh:W.heap[4]? with
 | none=>simp [hh] at h
 | some o =>
  cases o with
  | cells cs t f =>
   have h1:some cs=some ((T.au.map fun n:Nat=>(n:Int)).map fun z=>Value.int .u64 z).toArray:=by
    rw [←h];simp only [Option.bind_some,hh]
   have h2:=Option.some.inj h1
   subst h2
   exact ⟨t,f,hh⟩
  | _=>simp [hh] at h
theorem uU {W:World} (h:laidMetH Tryz.prog lK W):T.Sm W:=by
 have h2:=laidMet.tail (laidMet.tail (laidMet.tail (laidMet.tail (laidMet.tail (wX h)))))
 rw [wY] at h2
 exact Gs (Lib.tabIs_of_head Cf (t:=338) (e:=82) (n:=25) (by kernel_rfl) (by kernel_rfl) (by kernel_rfl) (by kernel_rfl) (by kernel_rfl) h2)
end
section
open Go.ChangeShapes Go.WideShapes Go.ChangeAt Go.RowKit
theorem Iv:Tryz.prog.cellsOf 22=1:=by kernel_rfl
theorem Iw:laidOutB Tryz.prog=true:=by kernel_rfl
theorem Iy {n:Int} (h:(Lit.int .u16 n).wf=true):∃ k:Nat,n=k∧k<65536:=by
 have mn:IntKind.u16.min=0:=rfl
 have mx:IntKind.u16.max=65535:=rfl
 simp [Lit.wf] at h
 exact ⟨n.toNat,by omega,by omega⟩
theorem Iz {H:Type} {enc:TypeId × Value→H} {W:World} {a0:Option Addr} {len cap:Nat} {d:DataW H} {p:List MemPlace} (h0:DataW.Trod enc Tryz.prog W 0 (fun _=>true) true 23 (.slice a0 len cap) d p) (hlt:∀ x∈p,x.block<W.heap.size):∃ xs:List Nat,T.Uw W a0 len xs:=by
 obtain ⟨fuel,hf⟩:=h0
 rcases open_ints Tryz.underlying23 Tryz.underlying22 Iv hf with ⟨hcs,hx⟩ | ⟨a,len',cap',zs,hcs,_,hl,hm,hz,hx,hcell,hws⟩
 ·simp [Value.cells] at hcs
  obtain ⟨rfl,rfl,rfl⟩:=hcs
  exact ⟨[],rfl,fun j h=>absurd h (Nat.not_lt_zero j),fun h=>absurd h (by decide)⟩
 ·simp [Value.cells] at hcs
  obtain ⟨rfl,rfl,rfl⟩:=hcs
  simp only [Prod.mk.injEq] at hx
  obtain ⟨rfl,rfl⟩:=hx
  simp only [if_true] at hz
  have hn:∀ j,j<len→∃ n:Nat,zs.getD j 0=n∧n<65536:=fun j hj=>by
   have hj2:j<zs.length:=by omega
   refine Iy (hws _ ?_)
   rw [List.getD_eq_getElem?_getD,List.getElem?_eq_getElem hj2]
   exact List.getElem_mem hj2
  have hat:∀ j,j<len→(((zs.take len).map Int.toNat)[j]?.getD 0)=(zs.getD j 0).toNat:=fun j hj=>by
   rw [List.getElem?_map,List.getElem?_take_of_lt hj,List.getD_eq_getElem?_getD,List.getElem?_eq_getElem (by omega:j<zs.length)];rfl
  refine ⟨(zs.take len).map Int.toNat,by rw [List.length_map,List.length_take];omega,fun j hj => ?_,fun k0 => ?_⟩
  ·obtain ⟨n,e,l⟩:=hn j hj
   rw [hat j hj,e];simpa using l
  ·obtain ⟨b,off,spot⟩:=a
   have hspot:spot=none:=by simpa [Addr.add] using World.cell?_spot (hcell 0 (by omega))
   subst hspot
   refine ⟨b,off,rfl,hlt (.cell b off) (MemPlace.mem_row.2 ⟨0,by omega,by simp⟩),fun j hj => ?_⟩
   obtain ⟨n,e,l⟩:=hn j hj
   have h1:=hcell j (by omega)
   rw [hat j hj]
   rw [e] at h1 ⊢
   by_cases e0:j=0
   ·subst e0;simpa [Addr.add] using h1
   ·simpa [Addr.add,e0] using h1
end
end Go.Proofs.YtbhbhlfkdlfimaaGreatDoor
