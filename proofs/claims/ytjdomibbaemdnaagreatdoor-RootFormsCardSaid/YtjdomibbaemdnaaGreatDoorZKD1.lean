/- Parts of the proof of the text YtjdomibbaemdnaaGreatDoorZKD2. -/
import Derived.Test.YtjdomibbaemdnaaGreatDoorZKD0
import Derived.Test.YtjdomibbaemdnaaGreatDoorRows
import Derived.Test.YtjdomibbaemdnaaGreatDoorZK46
import Derived.Test.YtjdomibbaemdnaaGreatDoorCards
import Derived.Test.YtjdomibbaemdnaaGreatDoorTie
import Derived.ProofKit
import Derived.LaidMore
import Derived.OpenShut
import Derived.Stop.Joined
import Derived.Stop.LaidErr
import Derived.SevenTiedAt
import Derived.Below
import Derived.RowKitTokens
import Derived.Test.YtjdomibbaemdnaaGreatDoorZK1
import Derived.Test.YtjdomibbaemdnaaGreatDoorZK24
import Derived.Test.YtjdomibbaemdnaaGreatDoorZK25
import Derived.Test.YtjdomibbaemdnaaGreatDoorZK3
import Derived.Test.YtjdomibbaemdnaaGreatDoorZK38
import Derived.Test.YtjdomibbaemdnaaGreatDoorZK39
import Derived.Test.YtjdomibbaemdnaaGreatDoorZK41
import Derived.Test.YtjdomibbaemdnaaGreatDoorZK42
import Derived.Test.YtjdomibbaemdnaaGreatDoorZK9
set_option linter.all false
set_option maxRecDepth 100000
set_option maxHeartbeats 8000000
namespace Go.Proofs.YtjdomibbaemdnaaGreatDoor
namespace T
open Go.RowKit
def grR (a:ByteArray):Bool:=decide (40<a.size∧ckR a.data.toList=0) || decide (330<a.size)
theorem zC (b:Nat) (xs:List ByteArray) (w:World) (hl:xs.length≤100) (hs:∀ s∈xs,s.size≤maxLen) (hx:Sl w b xs) (ht:Tab w) :
  Calls Tryz.prog 5 #[.slice (some ⟨b,0,none⟩) xs.length xs.length] w fun e W'=>e = .returned (.bool (xs.any grR))∧Below w.heap.size w W':=by
 have hb:=hx.lt
 have HC:=Ha hx.cell
 have C1:Hid (∀ s∈xs,∀ (b:Nat) W,Sl W b [s]→Below w.heap.size w W→Calls Tryz.prog 21 #[.slice (some ⟨b,0,none⟩) 1 1] W fun e W'=>e = .returned (.int .i64 (ckR s.data.toList))∧Below W.heap.size W W'):=Ha (fun s h b W hS hW=>by
  have c:=pY b [s] W (by simp) (fun t ht=>by rw [List.mem_singleton.1 ht];exact hs s h) hS (ht.next hW)
  have e:ckL [s]=ckR s.data.toList:=by
   show (if ckR s.data.toList=0 then (0:Int) else _)=_
   split
   ·rename_i q;rw [q]
   ·rfl
  rwa [e] at c)
 have HZ:Hid (∀ s∈xs,s.size≤9223372036854775807):=Ha (fun s h=>Nat.le_trans (hs s h) (by decide))
 clear hx ht hs
 go_enter Tryz.func5,Tryz.ntmps5
 go_wp2
 go_loopw [3] (fun i wr=>∃ k:Nat,i = .int .i64 k∧k≤xs.length∧Hid ((xs.take k).any grR=false)∧Hid (Below w.heap.size w wr)) (fun i _=>xs.length - (intOf i).toNat)
 case atStart=>exact ⟨0,rfl,by omega,by show _=false;simp,Below.refl _ _⟩
 case round =>
  obtain ⟨k,rfl,hk,hd,HBw⟩:=hrel
  by_cases hlt:k<xs.length
  ·have hm:=pG hlt
   have hck:=(HBw.out.cell (p:=⟨b,k,none⟩) hb).trans (HC.out k hlt)
   have hr1:=Ha (C1.out _ hm)
   have hcs:Hid (∀ W,Below w.heap.size w W→W.cell? ⟨b,k,none⟩=some (.string (atS xs k))):=Ha (fun W h=>(h.cell (p:=⟨b,k,none⟩) hb).trans (HC.out k hlt))
   have hz:=HZ.out _ hm
   have hN:Hid (grR (atS xs k)=false→(xs.take (k+1)).any grR=false):=Ha (fun h=>by rw [take_at hlt,List.any_append,hd.out];simp [h])
   have hY:Hid (grR (atS xs k)=true→xs.any grR=true):=Ha (fun h=>List.any_eq_true.2 ⟨_,hm,h⟩)
   clear hd hm
   generalize atS xs k=s at *
   by_cases h1:40<s.size
   ·have h1':(40:Int)<(s.size:Int):=by omega
    by_cases h2:ckR s.data.toList=0
    ·have hv:=Ha (hY.out (by unfold grR;rw [decide_eq_true ⟨h1,h2⟩];rfl))
     rw [h2] at hr1
     clear hN hY h1 h2
     go_wp2_with fail
     have hS1:=Sl.new1 wr s 22
     have BB:=Ha (HBw.out.alloc HBw.out.size (.cells #[.string s] 22))
     generalize wr.alloc (.cells #[.string s] 22)=v0 at *
     generalize wr.heap.size=k0 at hS1 ⊢
     refine (hr1.out _ _ hS1 BB.out).mono ?_
     rintro e w1 ⟨rfl,b1⟩
     have HB1:=Ha (BB.out.trans (b1.mono BB.out.size));clear b1 BB hck
     have hck:=hcs.out _ HB1.out
     go_wp2
     go_ret
     exact ⟨bL hv.out.symm,HB1.out⟩
    ·obtain ⟨e0,e1⟩:=bc h2
     have hg:Hid (grR s=decide ((330:Int)<(s.size:Int))):=Ha (by
      unfold grR;rw [decide_eq_false (fun q=>h2 q.2),Bool.false_or]
      exact decide_eq_decide.2 ⟨fun h=>by omega,fun h=>by omega⟩)
     generalize ckR s.data.toList=E at *
     by_cases h3:(330:Int)<(s.size:Int)
     ·have hv:=Ha (hY.out (by rw [hg.out];exact decide_eq_true h3))
      clear hN hY h1 h2 hg
      go_wp2_with fail
      have hS1:=Sl.new1 wr s 22
      have BB:=Ha (HBw.out.alloc HBw.out.size (.cells #[.string s] 22))
      generalize wr.alloc (.cells #[.string s] 22)=v0 at *
      generalize wr.heap.size=k0 at hS1 ⊢
      refine (hr1.out _ _ hS1 BB.out).mono ?_
      rintro e w1 ⟨rfl,b1⟩
      have HB1:=Ha (BB.out.trans (b1.mono BB.out.size));clear b1 BB hck
      have hck:=hcs.out _ HB1.out
      go_wp2
      go_ret
      exact ⟨bL hv.out.symm,HB1.out⟩
     ·have hv:=Ha (hN.out (by rw [hg.out];exact decide_eq_false h3))
      clear hN hY h1 h2 hg
      go_wp2_with fail
      have hS1:=Sl.new1 wr s 22
      have BB:=Ha (HBw.out.alloc HBw.out.size (.cells #[.string s] 22))
      generalize wr.alloc (.cells #[.string s] 22)=v0 at *
      generalize wr.heap.size=k0 at hS1 ⊢
      refine (hr1.out _ _ hS1 BB.out).mono ?_
      rintro e w1 ⟨rfl,b1⟩
      have HB1:=Ha (BB.out.trans (b1.mono BB.out.size));clear b1 BB hck
      have hck:=hcs.out _ HB1.out
      go_wp2
      go_roundw
      case rel=>exact ⟨k+1,by go_num,by omega,hv.out,HB1.out⟩
      case measure=>simp [intOf];omega
   ·have h1':¬ (40:Int)<(s.size:Int):=by omega
    have h3:¬ (330:Int)<(s.size:Int):=by omega
    have hv:=Ha (hN.out (by unfold grR;rw [decide_eq_false (fun q=>h1 q.1),decide_eq_false (by omega)];rfl))
    clear hN hY h1
    go_wp2
    go_roundw
    case rel=>exact ⟨k+1,by go_num,by omega,hv.out,HBw.out⟩
    case measure=>simp [intOf];omega
  ·have he:Hid (xs.any grR=false):=Ha (by have h:=hd.out;rwa [List.take_of_length_le (by omega)] at h)
   go_wp2
   go_ret
   exact ⟨bL he.out.symm,HBw.out⟩
theorem vP (m:Nat) (w:World) (h0:0<m) (hm:m<lim) (ht:Tab w) :
  Calls Tryz.prog 29 #[.string (sN m)] w fun e W'=>e = .returned (.tuple #[.string (sN (ad af m).2),.string (sN (ad af m).1)])∧Below w.heap.size w W':=by
 by_cases hs:(sN m).size≤17
 ·have h17:m<100000000000000000:=by
   have h:=hs;unfold sN at h;rw [fQ,Lib.itoa_nonneg,Lib.decDigits_length] at h
   exact (aJ m 17 (by decide)).1 h
  exact vj m w h0 h17 hs ht
 ·exact xk m w h0 hm hs ht
theorem us (x:Rat) (w:World) (h:Sq x) (ht:Tab w) :
  Calls Tryz.prog 28 #[.string (ah x)] w fun e W'=>e = .returned (.tuple #[.string (aa x.num),.string (aa (x.den:Int)),.int .i64 0])∧Below w.heap.size w W':=by
 have c:=nw (ah x) w h.size ht
 rw [(iM h.chk).1,(iM h.chk).2,h.chk,show rat (ah x)=x from iT x] at c
 exact c
theorem xT (s:ByteArray) (hs:s.size≤maxLen) (b:Nat) (W:World) (hS:Sl W b [s]) (ht:Tab W):Calls Tryz.prog 21 #[.slice (some ⟨b,0,none⟩) 1 1] W fun e W'=>e = .returned (.int .i64 (ckR s.data.toList))∧Below W.heap.size W W':=by
 have c:=pY b [s] W (by simp) (fun t h=>by rw [List.mem_singleton.1 h];exact hs) hS ht
 have e:ckL [s]=ckR s.data.toList:=by
  show (if ckR s.data.toList=0 then (0:Int) else _)=_
  split
  ·rename_i q;rw [q]
  ·rfl
 rwa [e] at c
theorem BH (s t:ByteArray) (hs:s.size≤maxLen) (h':t.size≤maxLen) (b:Nat) (W:World) (hS:Sl W b [s,t]) (ht:Tab W):Calls Tryz.prog 21 #[.slice (some ⟨b,0,none⟩) 2 2] W fun e W'=>e = .returned (.int .i64 (if ckR s.data.toList=0 then ckR t.data.toList else ckR s.data.toList))∧Below W.heap.size W W':=by
 have c:=pY b [s,t] W (by simp) (fun u h=>by
  rcases List.mem_cons.1 h with e | e
  ·rw [e];exact hs
  ·rw [List.mem_singleton.1 e];exact h') hS ht
 have e:ckL [s,t]=if ckR s.data.toList=0 then ckR t.data.toList else ckR s.data.toList:=by
  show (if ckR s.data.toList=0 then (if ckR t.data.toList=0 then (0:Int) else _) else _)=_
  split
  ·split
   ·rename_i q;rw [q]
   ·rfl
  ·rfl
 rwa [e] at c
theorem nZ:sgQ 0=0:=by unfold sgQ;rw [if_neg (by decide),if_pos rfl]
theorem l5 (s:ByteArray) (w:World) (hs:s.size≤maxLen) (ht:Tab w) (ht2:aW w) (hS:Sm w) :
  ∃ (A B:ByteArray) (E:Int),(∀ W,Below w.heap.size w W→Calls Tryz.prog 7 #[.string s] W fun e W'=>e = .returned (.tuple #[.string A,.string B,.int .i64 E])∧Below W.heap.size W W') ∧
   (∀ W,Below w.heap.size w W→Calls Tryz.prog 8 #[.string s] W fun e W'=>e = .returned (.tuple #[.string A,.string B,.int .i64 E])∧Below W.heap.size W W') ∧
   ((E≠0∧∀ W,Below w.heap.size w W→Calls Tryz.prog 9 #[.string s] W fun e W'=>e = .returned (.tuple #[.string ⟨#[]⟩,.bool false,.int .i64 E])∧Below W.heap.size W W') ∨
    (E=0∧(B.toList == [49])=true∧∀ W,Below w.heap.size w W→Calls Tryz.prog 9 #[.string s] W fun e W'=>e = .returned (.tuple #[.string A,.bool true,.int .i64 0])∧Below W.heap.size W W') ∨
    (E=0∧(B.toList == [49])=false∧∀ W,Below w.heap.size w W→Calls Tryz.prog 9 #[.string s] W fun e W'=>e = .returned (.tuple #[.string ⟨#[]⟩,.bool false,.int .i64 0])∧Below W.heap.size W W')):=by
 by_cases hc:ckR s.data.toList=0
 ·obtain ⟨x,rfl,hq⟩:=mi hc
  have sx:Sq x:=hq.lim (by decide)
  by_cases hn:x<0
  ·refine ⟨⟨#[]⟩,⟨#[]⟩,2,fun W hW => ?_,fun W hW => ?_,.inl ⟨by decide,fun W hW => ?_⟩⟩
   ·refine nD _ 0 2 2 W rfl rfl rfl (fun b V hx hV => ?_) (fun b V hx hV => ?_)
    ·have c:=jH b _ V hs hx ((ht.next hW).next hV) (ai (ai ht2 hW) hV)
     rwa [hc] at c
    ·have c:=bV b [ah x] V (by simp) hx
     rwa [xt hn] at c
   ·refine Az _ W (fun b V hx hV => ?_) (fun V _ => ?_)
    ·have c:=xT _ hs b V hx ((ht.next hW).next hV)
     rwa [hc] at c
    ·have c:=pX x V
     rwa [show sgQ x = -1 from if_pos hn] at c
   ·exact vv x W hn hq (ht.next hW) (ai ht2 hW)
  ·have h0:0≤x:=by grind
   have ckk:∀ W,Below w.heap.size w W→∀ (b:Nat) V,Sl V b [ah x]→Below W.heap.size W V→Calls Tryz.prog 21 #[.slice (some ⟨b,0,none⟩) 1 1] V fun e W'=>e = .returned (.int .i64 0)∧Below V.heap.size V W':=fun W hW b V hx hV=>by
    have c:=xT _ hs b V hx ((ht.next hW).next hV)
    rwa [hc] at c
   have hne:((aa ((nN x:Nat):Int)).toList == [49])=decide (((nN x:Nat):Int)=1):=tS _
   refine ⟨ah (nC x),aa (nN x:Nat),0,fun W hW=>nE x W h0 hq (ht.next hW) (ai ht2 hW) (hS.next hW),fun W hW => ?_,?_⟩
   ·by_cases hz:x=0
    ·subst hz
     have sg0:∀ V:World,Calls Tryz.prog 27 #[.string (ah 0)] V fun e W'=>e = .returned (.int .i64 0)∧Below V.heap.size V W':=fun V=>nZ ▸ pX 0 V
     have hb0:cj 0:=qY ⟨0,Rat.zero_mul 0⟩
     have e1:nC 0=0:=by
      have h:=xK (q:=0) Rat.le_refl
      rw [(ie hb0).2,uo,Rat.mul_one] at h
      grind
     rw [e1,(ie hb0).2,show aa ((1:Nat):Int)=⟨#[49]⟩ from gp 1 [49] bK,dL]
     rw [dL] at sg0 ckk
     exact yX _ W (ckk W hW) (fun V _=>sg0 V) (fun V _=>sg0 V)
    ·have hp:0<x:=by grind
     have sg1:∀ V:World,Calls Tryz.prog 27 #[.string (ah x)] V fun e W'=>e = .returned (.int .i64 1)∧Below V.heap.size V W':=fun V=>by
      have c:=pX x V
      rwa [show sgQ x=1 from (if_neg hn).trans (if_neg hz)] at c
     have hpos:=ss hp
     have hl180:lfP x<aO 180:=by
      unfold lfP
      rw [show (180:Nat)=90+90 from rfl,jq]
      exact Nat.mul_lt_mul'' hq.num hq.den
     have hlP:lfP x<lim:=Nat.lt_of_lt_of_le hl180 xr
     have hP0:0<lfP x:=Nat.mul_pos hpos x.den_pos
     obtain ⟨a1,a2,a3,_⟩:=aV af fS hP0
     obtain ⟨l1,l2⟩:=rE a1.symm a2 a3
     have kparts:=fun V (hV:Below W.heap.size W V)=>us x V sx ((ht.next hW).next hV)
     have ktimes:=fun V (hV:Below W.heap.size W V)=>mr x.num.natAbs x.den V sx.1 sx.2 hlP ((ht.next hW).next hV)
     rw [show sN x.num.natAbs=aa x.num from by unfold sN;rw [iq h0]] at ktimes
     have kred:=fun V (hV:Below W.heap.size W V)=>vP (lfP x) V hP0 hlP ((ht.next hW).next hV)
     have ksq:=fun V (hV:Below W.heap.size W V)=>ny (ad af (lfP x)).2 V (Nat.lt_of_le_of_lt l2 hlP) ((ht.next hW).next hV)
     have hden:Bq 90 (((x.den:Nat):Int):Rat):=pw (by decide) (by show Int.natAbs _<_;rw [Int.natAbs_natCast];exact hq.den)
     have hden0:(((x.den:Nat):Int):Rat)≠0:=by
      intro e;have:=Rat.intCast_inj.1 (e.trans (show (0:Rat)=((0:Int):Rat) from rfl));have:=x.den_pos;omega
     have kquo:∀ z:Nat,z≤lfP x→∀ V,Below W.heap.size W V→Calls Tryz.prog 32 #[.string (sN z),.string (aa (x.den:Int))] V fun e W'=>e = .returned (.string (ah (mkRat (z:Nat) x.den)))∧Below V.heap.size V W':=fun z hz V hV=>by
      have hz2:Bq 180 (((z:Nat):Int):Rat):=pw (by decide) (by show Int.natAbs _<_;rw [Int.natAbs_natCast];omega)
      have c:=sZ (((z:Nat):Int):Rat) (((x.den:Nat):Int):Rat) V hz2 hden (by decide) hden0 ((ht.next hW).next hV)
      rwa [fI,fI,show (((z:Nat):Int):Rat) / (((x.den:Nat):Int):Rat)=mkRat ((z:Nat):Int) x.den from by rw [Rat.mkRat_eq_div,Rat.intCast_natCast (n:=x.den)]] at c
     by_cases hs2:aj (ad af (lfP x)).2*aj (ad af (lfP x)).2=(ad af (lfP x)).2
     ·obtain ⟨r1,r2⟩:=yn hp hs2
      have hkt:(ad af (lfP x)).1*aj (ad af (lfP x)).2≤lfP x:=by
       have h:aj (ad af (lfP x)).2≤(ad af (lfP x)).2:=cz
       exact Nat.le_trans (Nat.mul_le_mul (Nat.le_refl _) h) (by rw (occs := .pos [3]) [a1];exact Nat.mul_le_mul (Nat.le_mul_of_pos_left _ a2) (Nat.le_refl _))
      rw [decide_eq_true hs2] at ksq
      rw [r1,r2,show aa ((1:Nat):Int)=⟨#[49]⟩ from gp 1 [49] bK]
      exact AA _ _ _ _ _ _ _ _ _ _ W (ckk W hW) (fun V _=>sg1 V) (fun V _=>sg1 V) kparts ktimes kred ksq (fun V hV=>mr _ _ V (by omega) (Nat.lt_of_le_of_lt (Nat.le_trans cz l2) hlP) (by omega) ((ht.next hW).next hV)) (kquo _ hkt)
     ·obtain ⟨r1,r2⟩:=zS hp (fun h=>hs2 (nS.1 h))
      rw [decide_eq_false hs2] at ksq
      rw [r1,r2]
      exact Bz _ _ _ _ _ _ _ _ _ W (ckk W hW) (fun V _=>sg1 V) (fun V _=>sg1 V) kparts ktimes kred ksq (kquo _ l1)
   ·by_cases hb:cj x
    ·refine .inr (.inl ⟨rfl,?_,fun W hW => ?_⟩)
     ·rw [hne,(ie hb).2];rfl
     ·rw [(ie hb).1];exact oV x W h0 hq hb (ht.next hW) (ai ht2 hW)
    ·refine .inr (.inr ⟨rfl,?_,fun W hW=>xu x W h0 hq hb (ht.next hW) (ai ht2 hW)⟩)
     rw [hne];refine decide_eq_false fun e=>hb ((wn h0).2 ((AR h0).1 (by omega)))
 ·obtain ⟨e0,e1⟩:=bc hc
  refine ⟨⟨#[]⟩,⟨#[]⟩,ckR s.data.toList,fun W hW => ?_,fun W hW => ?_,.inl ⟨hc,fun W hW => ?_⟩⟩
  ·exact nD _ (ckR s.data.toList) (fW [s]) _ W (if_neg hc) e0 e1 (fun b V hx hV=>jH b _ V hs hx ((ht.next hW).next hV) (ai (ai ht2 hW) hV)) (fun b V hx hV=>bV b [s] V (by simp) hx)
  ·exact Ay _ _ W e0 e1 (fun b V hx hV=>xT _ hs b V hx ((ht.next hW).next hV))
  ·exact vt _ (ckR s.data.toList) (fW [s]) _ W (if_neg hc) e0 e1 (fun b V hx hV=>jH b _ V hs hx ((ht.next hW).next hV) (ai (ai ht2 hW) hV)) (fun b V hx hV=>bV b [s] V (by simp) hx)
theorem tv (s:ByteArray) (w:World) (hs:s.size≤maxLen) (ht:Tab w) (ht2:aW w) (hS:Sm w) :
  ∃ (A:ByteArray) (g:Bool) (E:Int),(∀ W,Below w.heap.size w W→Calls Tryz.prog 9 #[.string s] W fun e W'=>e = .returned (.tuple #[.string A,.bool g,.int .i64 E])∧Below W.heap.size W W') ∧
   (∀ W,Below w.heap.size w W→Calls Tryz.prog 10 #[.string s] W fun e W'=>e = .returned (.tuple #[.string A,.bool g,.int .i64 E])∧Below W.heap.size W W'):=by
 obtain ⟨A,B,E,_,h2,h3⟩:=l5 s w hs ht ht2 hS
 rcases h3 with ⟨n,h⟩ | ⟨rfl,hb,h⟩ | ⟨rfl,hb,h⟩
 ·obtain ⟨e0,e1⟩:=bc n
  exact ⟨_,_,_,h,fun W hW=>AB _ _ _ _ W e0 e1 (fun V hV=>h2 V (hW.trans (hV.mono hW.size)))⟩
 ·exact ⟨_,_,_,h,fun W hW=>AC _ _ _ W hb (by rw [bne,hb];rfl) (fun V hV=>h2 V (hW.trans (hV.mono hW.size)))⟩
 ·exact ⟨_,_,_,h,fun W hW=>BA _ _ _ W hb (by rw [bne,hb];rfl) (fun V hV=>h2 V (hW.trans (hV.mono hW.size)))⟩
theorem tw (s t:ByteArray) (w:World) (hs:s.size≤maxLen) (h':t.size≤maxLen) (ht:Tab w) (ht2:aW w) :
  ∃ (A:ByteArray) (g:Bool) (E:Int),(∀ W,Below w.heap.size w W→Calls Tryz.prog 11 #[.string s,.string t] W fun e W'=>e = .returned (.tuple #[.string A,.bool g,.int .i64 E])∧Below W.heap.size W W') ∧
   (∀ W,Below w.heap.size w W→Calls Tryz.prog 12 #[.string s,.string t] W fun e W'=>e = .returned (.tuple #[.string A,.bool g,.int .i64 E])∧Below W.heap.size W W'):=by
 have pc:=fun W (hW:Below w.heap.size w W) (b:Nat) V (hx:Sl V b [s,t]) (hV:Below W.heap.size W V)=>s7 b s t V hs h' hx ((ht.next hW).next hV) (ai (ai ht2 hW) hV)
 have rc:=fun W (hW:Below w.heap.size w W) (b:Nat) V (hx:Sl V b [s,t]) (hV:Below W.heap.size W V)=>BH s t hs h' b V hx ((ht.next hW).next hV)
 have cr:=fun (b:Nat) V (hx:Sl V b [s,t])=>bV b [s,t] V (by simp) hx
 by_cases hc:(if ckR s.data.toList=0 then ckR t.data.toList else ckR s.data.toList)=0
 ·have hc1:ckR s.data.toList=0:=Decidable.byContradiction fun n=>by rw [if_neg n] at hc;exact n hc
  have hc2:ckR t.data.toList=0:=by rwa [if_pos hc1] at hc
  rw [hc] at pc rc
  obtain ⟨x,rfl,hx⟩:=mi hc1
  obtain ⟨y,rfl,hy⟩:=mi hc2
  have sx:Sq x:=hx.lim (by decide)
  have sy:Sq y:=hy.lim (by decide)
  have ks:=fun (z:Rat) (v:Int) (h:sgQ z=v) (V:World)=>show Calls Tryz.prog 27 #[.string (ah z)] V fun e W'=>e = .returned (.int .i64 v)∧Below V.heap.size V W' from h ▸ pX z V
  by_cases hn:x<0∨y<0
  ·have e2:fW [ah x,ah y]=2:=by
    unfold fW;simp only [List.any_cons,List.any_nil,iF,Bool.or_false]
    rcases hn with h | h
    ·rw [decide_eq_true h];rfl
    ·rw [decide_eq_true h,Bool.or_true];rfl
   rw [e2] at cr
   refine ⟨_,_,_,fun W hW=>oU _ _ 0 2 2 W rfl rfl rfl (pc W hW) (fun b V hx _=>cr b V hx),fun W hW => ?_⟩
   by_cases h1:x<0
   ·exact yY _ _ W (rc W hW) (fun V _=>ks x _ (if_pos h1) V)
   ·have h2:y<0:=hn.resolve_left h1
    refine yZ _ _ (sgQ x) W ?_ (rc W hW) (fun V _=>ks x _ rfl V) (fun V _=>ks y _ (if_pos h2) V)
    unfold sgQ;rw [if_neg h1];split <;> decide
  ·have x0:¬ x<0:=fun h=>hn (.inl h)
   have y0:¬ y<0:=fun h=>hn (.inr h)
   have hv:¬ sgQ x<0:=by unfold sgQ;rw [if_neg x0];split <;> decide
   have X0:0≤x:=by grind
   by_cases yz:y=0
   ·subst yz
    have e2:fW [ah x,ah 0]=0:=nn2 X0 Rat.le_refl
    rw [e2] at cr
    exact ⟨_,_,_,fun W hW=>s8 _ _ 0 0 W rfl ((kg _).2 dL) (pc W hW) (fun b V hx _=>cr b V hx),fun W hW=>y3 _ _ (sgQ x) W hv (rc W hW) (fun V _=>ks x _ rfl V) (fun V _=>ks 0 _ nZ V) (fun V _=>ks 0 _ nZ V)⟩
   ·have Y0:0<y:=by grind
    obtain ⟨_,_,hZ⟩:=mw hx hy (by decide) yz
    have z0:0≤x / y:=by rw [Rat.div_def];exact Rat.mul_nonneg X0 (Rat.le_of_lt (Rat.inv_pos.2 Y0))
    have sz:Sq (x / y):=hZ.lim (by decide)
    have s1:=fun V=>ks y 1 ((if_neg y0).trans (if_neg yz)) V
    have kq:=fun W (hW:Below w.heap.size w W) V (hV:Below W.heap.size W V)=>sZ x y V hx hy (by decide) yz ((ht.next hW).next hV)
    have kp:=fun W (hW:Below w.heap.size w W) V (hV:Below W.heap.size W V)=>us (x / y) V sz ((ht.next hW).next hV)
    have q1:=fun W (hW:Below w.heap.size w W) V (hV:Below W.heap.size W V)=>ny (x / y).num.natAbs V sz.1 ((ht.next hW).next hV)
    have q2:=fun W (hW:Below w.heap.size w W) V (hV:Below W.heap.size W V)=>ny (x / y).den V sz.2 ((ht.next hW).next hV)
    rw [show sN (x / y).num.natAbs=aa (x / y).num from by unfold sN;rw [iq z0]] at q1
    by_cases hb:cj (x / y)
    ·refine ⟨_,_,_,fun W hW=>vw x y W X0 Y0 z0 hx hy hb (ht.next hW) (ai ht2 hW),fun W hW => ?_⟩
     rw [decide_eq_true hb.1] at q1
     rw [decide_eq_true hb.2] at q2
     refine AG _ _ _ _ _ _ _ (sgQ x) _ _ W hv (rc W hW) (fun V _=>ks x _ rfl V) (fun V _=>s1 V) (fun V _=>s1 V) (kq W hW) (kp W hW) (q1 W hW) (q2 W hW) (fun V hV => ?_)
     have rb:∀ m:Nat,m<aO 180→aj m<aO 90:=fun m h=>ua (k:=90) h
     have hr1:Bq 90 (((aj (x / y).num.natAbs:Nat):Int):Rat):=pw (by decide) (by show Int.natAbs _<_;rw [Int.natAbs_natCast];exact rb _ hZ.num)
     have hr2:Bq 90 (((aj (x / y).den:Nat):Int):Rat):=pw (by decide) (by show Int.natAbs _<_;rw [Int.natAbs_natCast];exact rb _ hZ.den)
     have hr0:(((aj (x / y).den:Nat):Int):Rat)≠0:=by
      intro e
      have e1:=Rat.intCast_inj.1 (e.trans (show (0:Rat)=((0:Int):Rat) from rfl))
      have e2:aj (x / y).den=0:=by omega
      have:=hb.2;rw [e2] at this;have:=(x / y).den_pos;omega
     have c:=sZ _ _ V hr1 hr2 (by decide) hr0 ((ht.next hW).next hV)
     rw [fI,fI] at c
     rwa [show eE (x / y)=(((aj (x / y).num.natAbs:Nat):Int):Rat) / (((aj (x / y).den:Nat):Int):Rat) from by unfold eE;rw [Rat.mkRat_eq_div,Rat.intCast_natCast (n:=aj (x / y).den)]]
    ·by_cases h1:aj (x / y).num.natAbs*aj (x / y).num.natAbs=(x / y).num.natAbs
     ·have h2:¬ aj (x / y).den*aj (x / y).den=(x / y).den:=fun h=>hb ⟨h1,h⟩
      rw [decide_eq_true h1] at q1
      rw [decide_eq_false h2] at q2
      exact ⟨_,_,_,fun W hW=>rI x y W X0 Y0 z0 hx hy hb (ht.next hW) (ai ht2 hW),fun W hW=>AF _ _ _ _ _ _ _ (sgQ x) _ W hv (rc W hW) (fun V _=>ks x _ rfl V) (fun V _=>s1 V) (fun V _=>s1 V) (kq W hW) (kp W hW) (q1 W hW) (q2 W hW)⟩
     ·rw [decide_eq_false h1] at q1
      exact ⟨_,_,_,fun W hW=>rI x y W X0 Y0 z0 hx hy hb (ht.next hW) (ai ht2 hW),fun W hW=>AE _ _ _ _ _ _ _ (sgQ x) _ _ W hv (rc W hW) (fun V _=>ks x _ rfl V) (fun V _=>s1 V) (fun V _=>s1 V) (kq W hW) (kp W hW) (q1 W hW) (q2 W hW)⟩
 ·obtain ⟨e0,e1⟩:=bc hc
  exact ⟨_,_,_,fun W hW=>oU _ _ _ _ _ W (if_neg hc) e0 e1 (pc W hW) (fun b V hx _=>cr b V hx),fun W hW=>AD _ _ _ W e0 e1 (rc W hW)⟩
end T
namespace T
open Go.RowKit
theorem RootForms_any (p q:ByteArray) (w:World) (hp:p.size≤maxLen) (hq:q.size≤maxLen) (ht:Tab w) (ht2:aW w) (hS:Sm w) :
  Calls Tryz.prog 3 #[.string p,.string q] w fun e W'=>e = .returned (.bool true)∧Below w.heap.size w W':=by
 have aw:=fun W (hW:Below w.heap.size w W)=>tz W (ht.next hW) (ai ht2 hW) (hS.next hW)
 have gr:=fun (b:Nat) W (hx:Sl W b [p,q]) (hW:Below w.heap.size w W)=>zC b [p,q] W (by simp) (fun u h=>by
  rcases List.mem_cons.1 h with e | e
  ·rw [e];exact hp
  ·rw [List.mem_singleton.1 e];exact hq) hx (ht.next hW)
 by_cases hg : [p,q].any grR=true
 ·rw [hg] at gr
  exact A1 p q w gr aw
 ·rw [Bool.not_eq_true] at hg
  rw [hg] at gr
  obtain ⟨A,B,E,n1,n2,_⟩:=l5 q w hq ht ht2 hS
  obtain ⟨X,g,F,x1,x2⟩:=tv q w hq ht ht2 hS
  obtain ⟨U,h,I,r1,r2⟩:=tw p q w hp hq ht ht2
  exact zE p q A B X U E F I g h w gr n1 n2 x1 x2 r1 r2 aw
end T
end Go.Proofs.YtjdomibbaemdnaaGreatDoor
