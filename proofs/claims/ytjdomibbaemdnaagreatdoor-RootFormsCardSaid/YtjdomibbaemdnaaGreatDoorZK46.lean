/- Parts of the proof of the text YtjdomibbaemdnaaGreatDoorZK42. -/
import Derived.Test.YtjdomibbaemdnaaGreatDoorZK1
import Derived.Test.YtjdomibbaemdnaaGreatDoorZK23
import Derived.Test.YtjdomibbaemdnaaGreatDoorZK24
import Derived.Test.YtjdomibbaemdnaaGreatDoorZK25
import Derived.Test.YtjdomibbaemdnaaGreatDoorZK26
import Derived.Test.YtjdomibbaemdnaaGreatDoorZK39
import Derived.Test.YtjdomibbaemdnaaGreatDoorZK40
import Derived.Test.YtjdomibbaemdnaaGreatDoorZK42
import Derived.Test.YtjdomibbaemdnaaGreatDoorZK45
import Derived.Test.YtjdomibbaemdnaaGreatDoorZK8
set_option linter.all false
set_option maxRecDepth 100000
set_option maxHeartbeats 8000000
namespace Go.Proofs.YtjdomibbaemdnaaGreatDoor
section
open Go.RowKit
theorem lS (o p:Option Int) (w:World) (ho:Lwf o) (hp:Lwf p) (h0:p≠some 0) (ht:Tab w) :
  Calls Tryz.prog 131 #[.agg #[.string (LB o),.int .i64 (LE o),.string (LB p),.int .i64 (LE p)]] w fun e W'=>e = .returned (.tuple #[.string (qM o p),.int .i64 (qN o p)])∧Below w.heap.size w W':=by
 cases o with
 | none=>exact lN none p w (.inl rfl)
 | some n =>
  cases p with
  | none=>exact lN (some n) none w (.inr rfl)
  | some d =>
   have hn:=ho n rfl
   have hd:=hp d rfl
   have hz:d≠0:=fun e=>h0 (by rw [e])
   show Calls _ _ _ _ (fun e W'=>e = .returned (.tuple #[.string (ah (Rat.divInt n d)),.int .i64 0])∧_)
   have key:∀ (N D:Int) (o:Bool),short N→short D→0<D→decide (d<0)=o→((o=true∧N = -n∧D = -d)∨(o=false∧N=n∧D=d))→Calls Tryz.prog 131 #[.agg #[.string (aa n),.int .i64 0,.string (aa d),.int .i64 0]] w fun e W'=>e = .returned (.tuple #[.string (ah (Rat.divInt N D)),.int .i64 0])∧Below w.heap.size w W':=by
    intro N D o hN hD hs ho hS
    by_cases hg:aE N D=1
    ·have c:=qK n d N D o w hn hd hN hD hs ho hS hg ht
     rw [wi hs hg] at c;exact c
    ·have c:=qL n d N D o w hn hd hN hD hs ho hS hg ht
     rw [zF hs] at c;exact c
   rcases Int.lt_or_gt_of_ne hz with hs | hs
   ·have c:=key (-n) (-d) true (ft hn) (ft hd) (by omega) (decide_eq_true hs) (.inl ⟨rfl,rfl,rfl⟩)
    rw [Rat.neg_divInt_neg] at c;exact c
   ·exact key n d false hn hd hs (decide_eq_false (by omega)) (.inr ⟨rfl,rfl,rfl⟩)
theorem uO (x y:Rat) (q:Nat) (w:World) (hx:Sq x) (hy:Sq y) (hb:Blk w q #[.func (.func 142) #[] #[]]) (ht:Tab w) :
  Calls Tryz.prog 130 #[.agg #[.string (aa x.num),.int .i64 0,.string (aa (x.den:Int)),.int .i64 0],.agg #[.string (aa y.num),.int .i64 0,.string (aa (y.den:Int)),.int .i64 0],.pointer (some ⟨q,0,none⟩)] w fun e W'=>e = .returned (.tuple #[.string (nQ x y),.int .i64 (nR x y)])∧Below w.heap.size w W':=by
 have c:=oH 142 q (aa x.num) (aa (x.den:Int)) (aa y.num) (aa (y.den:Int)) _ _ 0 0 0 0 _ _ _ _ w (enters_of Tryz.func142 (by kernel_rfl) rfl) hb
  (fun W hW=>ph (some x.num) (some (x.den:Int)) (some y.num) (some (y.den:Int)) W (pB hx) (pA hx) (pB hy) (pA hy) (ht.next hW))
  (fun W hW=>lS (opL (· * ·) (some x.num) (some y.num)) (opL (· * ·) (some (x.den:Int)) (some (y.den:Int))) W (iD _ _ _) (iD _ _ _) (yl x y) (ht.next hW))
 rwa [(tM x y).1,(tM x y).2] at c
theorem A8 (x y:Rat) (w:World) (hx:Sq x) (hy:Sq y) (ht:Tab w) (ht2:aW w) :
  Calls Tryz.prog 90 #[.string (ah x),.string (ah y)] w fun e W'=>e = .returned (.tuple #[.string (nQ x y),.int .i64 (nR x y)])∧Below w.heap.size w W':=by
 refine uP _ _ _ _ w (fun W p q hW k0 k1 => ?_)
 exact mV x y p q _ _ _ _ W hx hy (ht.next hW) (ai ht2 hW)
  (fun b1 c1 b2 c2 W' hW'=>uM x y p W' b1 c1 b2 c2 (k0.next hW') ((ht.next hW).next hW') (ai (ai ht2 hW) hW'))
  (fun he=>yj x y he)
  (fun W' hW'=>uO x y q W' hx hy (k1.next hW') ((ht.next hW).next hW'))
theorem uR (x y:Rat) (q:Nat) (w:World) (hx:Sq x) (hy:Sq y) (h0:y≠0) (hb:Blk w q #[.func (.func 75) #[] #[]]) (ht:Tab w) :
  Calls Tryz.prog 130 #[.agg #[.string (aa x.num),.int .i64 0,.string (aa (x.den:Int)),.int .i64 0],.agg #[.string (aa y.num),.int .i64 0,.string (aa (y.den:Int)),.int .i64 0],.pointer (some ⟨q,0,none⟩)] w fun e W'=>e = .returned (.tuple #[.string (jz x y),.int .i64 (jA x y)])∧Below w.heap.size w W':=by
 have c:=oH 75 q (aa x.num) (aa (x.den:Int)) (aa y.num) (aa (y.den:Int)) _ _ 0 0 0 0 _ _ _ _ w (enters_of Tryz.func75 (by kernel_rfl) rfl) hb
  (fun W hW=>sh (some x.num) (some (x.den:Int)) (some y.num) (some (y.den:Int)) W (pB hx) (pA hx) (pB hy) (pA hy) (ht.next hW))
  (fun W hW=>lS (opL (· * ·) (some x.num) (some (y.den:Int))) (opL (· * ·) (some y.num) (some (x.den:Int))) W (iD _ _ _) (iD _ _ _) (ym h0) (ht.next hW))
 rwa [(tN x y).1,(tN x y).2] at c
theorem zG (x y:Rat) (w:World) (hx:Sq x) (hy:Sq y) (h0:y≠0) (ht:Tab w) (ht2:aW w) :
  Calls Tryz.prog 34 #[.string (ah x),.string (ah y)] w fun e W'=>e = .returned (.tuple #[.string (jz x y),.int .i64 (jA x y)])∧Below w.heap.size w W':=by
 have hz:((ah y).toList == [48])=false:=by rw [j7];exact decide_eq_false h0
 refine uS _ _ _ _ hz (by rw [bne,hz];rfl) w (fun W p q hW k0 k1 => ?_)
 exact mV x y p q _ _ _ _ W hx hy (ht.next hW) (ai ht2 hW)
  (fun b1 c1 b2 c2 W' hW'=>uQ x y p W' b1 c1 b2 c2 h0 (k0.next hW') ((ht.next hW).next hW') (ai (ai ht2 hW) hW'))
  (fun he=>yk x y he)
  (fun W' hW'=>uR x y q W' hx hy h0 (k1.next hW') ((ht.next hW).next hW'))
end
namespace T
open Go.Proofs.YtjdomibbaemdnaaGreatDoor Go.RowKit Go.Lib
theorem vl (n:Nat) (u:Rat) (j k:Nat) (w:World) (hn:n<aO j) (j1:1≤j) (hu:Bq k u) (hj:j+k≤300) (ht:Tab w) (ht2:aW w) :
  Calls Tryz.prog 46 #[.string (aa (n:Int)),.string (ah u)] w fun e W'=>e = .returned (.string (ah ((n:Rat)*u)))∧Below w.heap.size w W':=by
 have hb:=AK j1 hn
 obtain ⟨a1,a2,_⟩:=zt hb hu hj
 refine ov _ _ _ 0 w (fun W h => ?_)
 have c:=A8 ((n:Nat):Rat) u W (hb.lim (by omega)) (hu.lim (by omega)) (ht.next h) (ai ht2 h)
 rw [a1,a2,xm] at c
 exact c
end T
namespace T
open Go.RowKit
theorem zh (q u:Rat) (w:World) (h0:0≤q) (u0:0<u) (hq:Bq 90 q) (hu:Bq 90 u) (ht:Tab w) (ht2:aW w) :
  Calls Tryz.prog 15 #[.string (ah q),.string (ah u)] w fun e W'=>e = .returned (.tuple #[.string (ah ((flN q u:Nat)*u)),.int .i64 0])∧Below w.heap.size w W' :=
 tc _ _ _ _ w fun W hW=>tb q u _ _ W h0 u0 hq hu (ht.next hW) (ai ht2 hW)
  (fun W' h=>uT _ _ W' (ub (by decide) (zO hq hu)) (ub (by decide) (BC hq hu)) (AH q u0) ((ht.next hW).next h))
  (fun W' h=>vl _ u 180 90 W' (BD hq hu u0) (by decide) hu (by decide) ((ht.next hW).next h) (ai (ai ht2 hW) h))
theorem vw (p q:Rat) (w:World) (p0:0≤p) (q0:0<q) (z0:0≤p / q) (hp:Bq 90 p) (hq:Bq 90 q) (hb:cj (p / q)) (ht:Tab w) (ht2:aW w) :
  Calls Tryz.prog 11 #[.string (ah p),.string (ah q)] w fun e W'=>e = .returned (.tuple #[.string (ah (eE (p / q))),.bool true,.int .i64 0])∧Below w.heap.size w W':=by
 have o1:=fun (b:Nat) W (hx:Sl W b [ah p,ah q]) (h:Below w.heap.size w W)=>jm b p q W hp hq hx (ht.next h) (ai ht2 h)
 have o2:=fun (b:Nat) W (hx:Sl W b [ah p,ah q]) (_:Below w.heap.size w W)=>bV b [ah p,ah q] W (by simp) hx
 rw [nn2 p0 (Rat.le_of_lt q0)] at o2
 have qn:q≠0:=by grind
 have hz:=BE qn
 obtain ⟨d1,d2,hZ⟩:=mw hp hq (by decide) qn
 have o3:=fun W (h:Below w.heap.size w W)=>zG p q W (hp.lim (by decide)) (hq.lim (by decide)) qn (ht.next h) (ai ht2 h)
 rw [d1,d2] at o3
 have o4:=fun W (_:Below w.heap.size w W)=>cE (p / q) W (hZ.lim (by decide))
 have o5:=fun W (h:Below w.heap.size w W)=>oQ (p / q) (.tuple #[.string (ah (eE (p / q))),.bool true]) W z0 (hZ.lim (by decide)) (ht.next h) (fun _=>rfl) (fun k=>absurd hb k)
 have O:=Ha (Hb o1 (Hb o2 (Hb o3 (Hb o4 o5))));clear o1 o2 o3 o4 o5 ht ht2 p0 q0 z0 hp hq hb qn d1 d2 hZ
 generalize aa (p / q).num=n at *
 generalize aa ((p / q).den:Int)=d at *
 generalize ah (eE (p / q))=c at *
 generalize ah (p / q)=z at *
 generalize ah p=s at *
 generalize ah q=t at *
 go_enter Tryz.func11,Tryz.ntmps11
 go_wp2_with fail
 have hS1:=Sl.new2 w s t 22
 have BB:=Ha ((Below.refl _ w).alloc (Nat.le_refl _) (.cells #[.string s,.string t] 22))
 generalize w.alloc (.cells #[.string s,.string t] 22)=v0 at *
 generalize hk0:w.heap.size=k0 at hS1
 refine (O.out.1 _ _ hS1 BB.out).mono ?_
 rintro e v1 ⟨rfl,b⟩
 have B1:=Ha (BB.out.trans (b.mono BB.out.size));clear b BB hS1 hk0
 go_wp2_with fail
 have hS2:=Sl.new2 v1 s t 22
 have BB:=Ha (B1.out.alloc B1.out.size (.cells #[.string s,.string t] 22))
 generalize v1.alloc (.cells #[.string s,.string t] 22)=v2 at *
 generalize v1.heap.size=k1 at hS2 ⊢
 refine (O.out.2.1 _ _ hS2 BB.out).mono ?_
 rintro e v3 ⟨rfl,b⟩
 have B3:=Ha (BB.out.trans (b.mono BB.out.size));clear b BB hS2 B1
 go_wp2_with fail
 have hS3:=Blk.new v3 #[.int .i64 0,.int .i64 0] 26
 have BB:=Ha (B3.out.alloc B3.out.size (.cells #[.int .i64 0,.int .i64 0] 26))
 generalize v3.alloc (.cells #[.int .i64 0,.int .i64 0] 26)=v4 at *
 generalize v3.heap.size=k3 at hS3 ⊢
 refine (fJ _ 0 0 v4 hS3).mono ?_
 rintro e v5 ⟨rfl,b⟩
 rw [if_pos rfl]
 have B5:=Ha (BB.out.trans (b.mono BB.out.size));clear b BB hS3 B3
 go_wp2_with fail
 refine (O.out.2.2.1 _ B5.out).mono ?_
 rintro e v6 ⟨rfl,b⟩
 have B6:=Ha (B5.out.trans (b.mono B5.out.size));clear b B5
 go_wp2_with fail
 refine (O.out.2.2.2.1 _ B6.out).mono ?_
 rintro e v7 ⟨rfl,b⟩
 have B7:=Ha (B6.out.trans (b.mono B6.out.size));clear b B6
 go_wp2_with fail
 refine (O.out.2.2.2.2 _ B7.out).mono ?_
 rintro e v8 ⟨rfl,b⟩
 have B8:=Ha (B7.out.trans (b.mono B7.out.size));clear b B7
 go_wp2
 go_ret3
 exact ⟨rfl,B8.out⟩
theorem rI (p q:Rat) (w:World) (p0:0≤p) (q0:0<q) (z0:0≤p / q) (hp:Bq 90 p) (hq:Bq 90 q) (hb:¬ cj (p / q)) (ht:Tab w) (ht2:aW w) :
  Calls Tryz.prog 11 #[.string (ah p),.string (ah q)] w fun e W'=>e = .returned (.tuple #[.string ⟨#[]⟩,.bool false,.int .i64 0])∧Below w.heap.size w W':=by
 have o1:=fun (b:Nat) W (hx:Sl W b [ah p,ah q]) (h:Below w.heap.size w W)=>jm b p q W hp hq hx (ht.next h) (ai ht2 h)
 have o2:=fun (b:Nat) W (hx:Sl W b [ah p,ah q]) (_:Below w.heap.size w W)=>bV b [ah p,ah q] W (by simp) hx
 rw [nn2 p0 (Rat.le_of_lt q0)] at o2
 have qn:q≠0:=by grind
 have hz:=BE qn
 obtain ⟨d1,d2,hZ⟩:=mw hp hq (by decide) qn
 have o3:=fun W (h:Below w.heap.size w W)=>zG p q W (hp.lim (by decide)) (hq.lim (by decide)) qn (ht.next h) (ai ht2 h)
 rw [d1,d2] at o3
 have o4:=fun W (_:Below w.heap.size w W)=>cE (p / q) W (hZ.lim (by decide))
 have o5:=fun W (h:Below w.heap.size w W)=>oQ (p / q) (.tuple #[.string ⟨#[]⟩,.bool false]) W z0 (hZ.lim (by decide)) (ht.next h) (fun k=>absurd k hb) (fun _=>rfl)
 have O:=Ha (Hb o1 (Hb o2 (Hb o3 (Hb o4 o5))));clear o1 o2 o3 o4 o5 ht ht2 p0 q0 z0 hp hq hb qn d1 d2 hZ
 generalize aa (p / q).num=n at *
 generalize aa ((p / q).den:Int)=d at *
 generalize ah (p / q)=z at *
 generalize ah p=s at *
 generalize ah q=t at *
 go_enter Tryz.func11,Tryz.ntmps11
 go_wp2_with fail
 have hS1:=Sl.new2 w s t 22
 have BB:=Ha ((Below.refl _ w).alloc (Nat.le_refl _) (.cells #[.string s,.string t] 22))
 generalize w.alloc (.cells #[.string s,.string t] 22)=v0 at *
 generalize hk0:w.heap.size=k0 at hS1
 refine (O.out.1 _ _ hS1 BB.out).mono ?_
 rintro e v1 ⟨rfl,b⟩
 have B1:=Ha (BB.out.trans (b.mono BB.out.size));clear b BB hS1 hk0
 go_wp2_with fail
 have hS2:=Sl.new2 v1 s t 22
 have BB:=Ha (B1.out.alloc B1.out.size (.cells #[.string s,.string t] 22))
 generalize v1.alloc (.cells #[.string s,.string t] 22)=v2 at *
 generalize v1.heap.size=k1 at hS2 ⊢
 refine (O.out.2.1 _ _ hS2 BB.out).mono ?_
 rintro e v3 ⟨rfl,b⟩
 have B3:=Ha (BB.out.trans (b.mono BB.out.size));clear b BB hS2 B1
 go_wp2_with fail
 have hS3:=Blk.new v3 #[.int .i64 0,.int .i64 0] 26
 have BB:=Ha (B3.out.alloc B3.out.size (.cells #[.int .i64 0,.int .i64 0] 26))
 generalize v3.alloc (.cells #[.int .i64 0,.int .i64 0] 26)=v4 at *
 generalize v3.heap.size=k3 at hS3 ⊢
 refine (fJ _ 0 0 v4 hS3).mono ?_
 rintro e v5 ⟨rfl,b⟩
 rw [if_pos rfl]
 have B5:=Ha (BB.out.trans (b.mono BB.out.size));clear b BB hS3 B3
 go_wp2_with fail
 refine (O.out.2.2.1 _ B5.out).mono ?_
 rintro e v6 ⟨rfl,b⟩
 have B6:=Ha (B5.out.trans (b.mono B5.out.size));clear b B5
 go_wp2_with fail
 refine (O.out.2.2.2.1 _ B6.out).mono ?_
 rintro e v7 ⟨rfl,b⟩
 have B7:=Ha (B6.out.trans (b.mono B6.out.size));clear b B6
 go_wp2_with fail
 refine (O.out.2.2.2.2 _ B7.out).mono ?_
 rintro e v8 ⟨rfl,b⟩
 have B8:=Ha (B7.out.trans (b.mono B7.out.size));clear b B7
 go_wp2
 go_ret3
 exact ⟨rfl,B8.out⟩
end T
end Go.Proofs.YtjdomibbaemdnaaGreatDoor
