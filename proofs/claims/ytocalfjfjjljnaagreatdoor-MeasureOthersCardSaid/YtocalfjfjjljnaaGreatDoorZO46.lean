/- Parts of the proof of the text YtocalfjfjjljnaaGreatDoorZO44. -/
import Derived.Test.YtocalfjfjjljnaaGreatDoorZO1
import Derived.Test.YtocalfjfjjljnaaGreatDoorZO21
import Derived.Test.YtocalfjfjjljnaaGreatDoorZO22
import Derived.Test.YtocalfjfjjljnaaGreatDoorZO23
import Derived.Test.YtocalfjfjjljnaaGreatDoorZO24
import Derived.Test.YtocalfjfjjljnaaGreatDoorZO25
import Derived.Test.YtocalfjfjjljnaaGreatDoorZO42
import Derived.Test.YtocalfjfjjljnaaGreatDoorZO45
set_option linter.all false
set_option maxRecDepth 100000
set_option maxHeartbeats 8000000
namespace Go.Proofs.YtocalfjfjjljnaaGreatDoor
section
open Go.RowKit
theorem jg (o p:Option Int) (w:World) (ho:Lwf o) (hp:Lwf p) (h0:p≠some 0) (ht:Tab w) :
  Calls Tryz.prog 87 #[.agg #[.string (LB o),.int .i64 (LE o),.string (LB p),.int .i64 (LE p)]] w fun e W'=>e = .returned (.tuple #[.string (px o p),.int .i64 (py o p)])∧Below w.heap.size w W':=by
 cases o with
 | none=>exact mK none p w (.inl rfl)
 | some n =>
  cases p with
  | none=>exact mK (some n) none w (.inr rfl)
  | some d =>
   have hn:=ho n rfl
   have hd:=hp d rfl
   have hz:d≠0:=fun e=>h0 (by rw [e])
   show Calls _ _ _ _ (fun e W'=>e = .returned (.tuple #[.string (ag (Rat.divInt n d)),.int .i64 0])∧_)
   have key:∀ (N D:Int) (o:Bool),short N→short D→0<D→decide (d<0)=o→((o=true∧N = -n∧D = -d)∨(o=false∧N=n∧D=d))→Calls Tryz.prog 87 #[.agg #[.string (aa n),.int .i64 0,.string (aa d),.int .i64 0]] w fun e W'=>e = .returned (.tuple #[.string (ag (Rat.divInt N D)),.int .i64 0])∧Below w.heap.size w W':=by
    intro N D o hN hD hs ho hS
    by_cases hg:aD N D=1
    ·have c:=rH n d N D o w hn hd hN hD hs ho hS hg ht
     rw [xS hs hg] at c;exact c
    ·have c:=rI n d N D o w hn hd hN hD hs ho hS hg ht
     rw [BK hs] at c;exact c
   rcases Int.lt_or_gt_of_ne hz with hs | hs
   ·have c:=key (-n) (-d) true (fX hn) (fX hd) (by omega) (decide_eq_true hs) (.inl ⟨rfl,rfl,rfl⟩)
    rw [Rat.neg_divInt_neg] at c;exact c
   ·exact key n d false hn hd hs (decide_eq_false (by omega)) (.inr ⟨rfl,rfl,rfl⟩)
theorem vZ (x y:Rat) (q:Nat) (w:World) (hx:Sq x) (hy:Sq y) (hb:Blk w q #[.func (.func 90) #[] #[]]) (ht:Tab w) :
  Calls Tryz.prog 86 #[.agg #[.string (aa x.num),.int .i64 0,.string (aa (x.den:Int)),.int .i64 0],.agg #[.string (aa y.num),.int .i64 0,.string (aa (y.den:Int)),.int .i64 0],.pointer (some ⟨q,0,none⟩)] w fun e W'=>e = .returned (.tuple #[.string (fK x y),.int .i64 (fL x y)])∧Below w.heap.size w W':=by
 have c:=mf 90 q (aa x.num) (aa (x.den:Int)) (aa y.num) (aa (y.den:Int)) _ _ 0 0 0 0 _ _ _ _ w (enters_of Tryz.func90 (by kernel_rfl) rfl) hb
  (fun W hW=>xT (some x.num) (some (x.den:Int)) (some y.num) (some (y.den:Int)) W (mi hx) (mh hx) (mi hy) (mh hy) (ht.next hW))
  (fun W hW=>jg (opL (· + ·) (opL (· * ·) (some x.num) (some (y.den:Int))) (opL (· * ·) (some y.num) (some (x.den:Int)))) (opL (· * ·) (some (x.den:Int)) (some (y.den:Int))) W (eh _ _ _) (eh _ _ _) (uT x y) (ht.next hW))
 rwa [(uP x y).1,(uP x y).2] at c
theorem DH (x y:Rat) (w:World) (hx:Sq x) (hy:Sq y) (ht:Tab w) (ht2:cE w) :
  Calls Tryz.prog 50 #[.string (ag x),.string (ag y)] w fun e W'=>e = .returned (.tuple #[.string (fK x y),.int .i64 (fL x y)])∧Below w.heap.size w W':=by
 refine wa _ _ _ _ w (fun W p q hW k0 k1 => ?_)
 exact kC x y p q _ _ _ _ W hx hy (ht.next hW) (aF ht2 hW)
  (fun b1 c1 b2 c2 W' hW'=>vY x y p W' b1 c1 b2 c2 (k0.next hW') ((ht.next hW).next hW') (aF (aF ht2 hW) hW'))
  (fun he=>Ae x y he)
  (fun W' hW'=>vZ x y q W' hx hy (k1.next hW') ((ht.next hW).next hW'))
theorem wc (x y:Rat) (q:Nat) (w:World) (hx:Sq x) (hy:Sq y) (hb:Blk w q #[.func (.func 71) #[] #[]]) (ht:Tab w) :
  Calls Tryz.prog 86 #[.agg #[.string (aa x.num),.int .i64 0,.string (aa (x.den:Int)),.int .i64 0],.agg #[.string (aa y.num),.int .i64 0,.string (aa (y.den:Int)),.int .i64 0],.pointer (some ⟨q,0,none⟩)] w fun e W'=>e = .returned (.tuple #[.string (kf x y),.int .i64 (kg x y)])∧Below w.heap.size w W':=by
 have c:=mf 71 q (aa x.num) (aa (x.den:Int)) (aa y.num) (aa (y.den:Int)) _ _ 0 0 0 0 _ _ _ _ w (enters_of Tryz.func71 (by kernel_rfl) rfl) hb
  (fun W hW=>pY (some x.num) (some (x.den:Int)) (some y.num) (some (y.den:Int)) W (mi hx) (mh hx) (mi hy) (mh hy) (ht.next hW))
  (fun W hW=>jg (opL (· * ·) (some x.num) (some y.num)) (opL (· * ·) (some (x.den:Int)) (some (y.den:Int))) W (eh _ _ _) (eh _ _ _) (uT x y) (ht.next hW))
 rwa [(uQ x y).1,(uQ x y).2] at c
theorem xW (x y:Rat) (w:World) (hx:Sq x) (hy:Sq y) (ht:Tab w) (ht2:cE w) :
  Calls Tryz.prog 29 #[.string (ag x),.string (ag y)] w fun e W'=>e = .returned (.tuple #[.string (kf x y),.int .i64 (kg x y)])∧Below w.heap.size w W':=by
 refine wd _ _ _ _ w (fun W p q hW k0 k1 => ?_)
 exact kC x y p q _ _ _ _ W hx hy (ht.next hW) (aF ht2 hW)
  (fun b1 c1 b2 c2 W' hW'=>wb x y p W' b1 c1 b2 c2 (k0.next hW') ((ht.next hW).next hW') (aF (aF ht2 hW) hW'))
  (fun he=>Af x y he)
  (fun W' hW'=>wc x y q W' hx hy (k1.next hW') ((ht.next hW).next hW'))
theorem wg (x y:Rat) (q:Nat) (w:World) (hx:Sq x) (hy:Sq y) (h0:y≠0) (hb:Blk w q #[.func (.func 48) #[] #[]]) (ht:Tab w) :
  Calls Tryz.prog 86 #[.agg #[.string (aa x.num),.int .i64 0,.string (aa (x.den:Int)),.int .i64 0],.agg #[.string (aa y.num),.int .i64 0,.string (aa (y.den:Int)),.int .i64 0],.pointer (some ⟨q,0,none⟩)] w fun e W'=>e = .returned (.tuple #[.string (kh x y),.int .i64 (kj x y)])∧Below w.heap.size w W':=by
 have c:=mf 48 q (aa x.num) (aa (x.den:Int)) (aa y.num) (aa (y.den:Int)) _ _ 0 0 0 0 _ _ _ _ w (enters_of Tryz.func48 (by kernel_rfl) rfl) hb
  (fun W hW=>tm (some x.num) (some (x.den:Int)) (some y.num) (some (y.den:Int)) W (mi hx) (mh hx) (mi hy) (mh hy) (ht.next hW))
  (fun W hW=>jg (opL (· * ·) (some x.num) (some (y.den:Int))) (opL (· * ·) (some y.num) (some (x.den:Int))) W (eh _ _ _) (eh _ _ _) (Ah h0) (ht.next hW))
 rwa [(uR x y).1,(uR x y).2] at c
theorem DI (x y:Rat) (w:World) (hx:Sq x) (hy:Sq y) (h0:y≠0) (ht:Tab w) (ht2:cE w) :
  Calls Tryz.prog 18 #[.string (ag x),.string (ag y)] w fun e W'=>e = .returned (.tuple #[.string (kh x y),.int .i64 (kj x y)])∧Below w.heap.size w W':=by
 have hz:((ag y).toList == [48])=false:=by rw [eH];exact decide_eq_false h0
 refine wh _ _ _ _ hz (by rw [bne,hz];rfl) w (fun W p q hW k0 k1 => ?_)
 exact kC x y p q _ _ _ _ W hx hy (ht.next hW) (aF ht2 hW)
  (fun b1 c1 b2 c2 W' hW'=>we x y p W' b1 c1 b2 c2 h0 (k0.next hW') ((ht.next hW).next hW') (aF (aF ht2 hW) hW'))
  (fun he=>Ag x y he)
  (fun W' hW'=>wg x y q W' hx hy h0 (k1.next hW') ((ht.next hW).next hW'))
end
namespace T
open Go.RowKit
theorem yd (x:Rat) {k:Nat} (w:World) (h:Bq k x) (hk:k≤290) (T:TabM w) :
  Calls Tryz.prog 19 #[.string (ag x)] w fun e W'=>e = .returned (.tuple #[.string (aa (nr x)),.int .i64 0])∧Below w.heap.size w W':=by
 obtain ⟨a1,a2,a3⟩:=ji h hk
 refine wi _ (ag (x+half)) _ w (fun W hW => ?_) (fun W hW => ?_)
 ·have c:=DH x half W (h.lim (by omega)) (qf.lim (by decide)) (T.next hW).1 (T.next hW).2
  rwa [a1,a2,rR] at c
 ·exact Ai (x+half) W (a3.lim (by omega)) (T.next hW).1 (T.next hW).2
theorem DN (x:Rat) (n:Nat) (w:World) (h:Bq 90 x) (hn:n≤100) (T:TabM w) :
  Calls Tryz.prog 40 #[.string (ag x),.int .i64 n] w fun e W'=>e = .returned (.tuple #[.string (ag (x*pw n)),.int .i64 0])∧Below w.heap.size w W':=by
 obtain ⟨a1,a2,a3⟩:=fS h (x8 n) (by omega)
 refine xZ _ (ag (pw n)) _ n w (by omega) (by omega) (fun W hW=>n8 x W h (T.next hW)) (fun W hW => ?_) (fun W hW => ?_)
 ·have c:=Ee n W (by omega)
  rwa [Co] at c
 ·have c:=xW x (pw n) W (h.lim (by decide)) ((x8 n).lim (by omega)) (T.next hW).1 (T.next hW).2
  rwa [a1,a2] at c
theorem qi (x:Rat) (n:Nat) (w:World) (h:Bq 90 x) (hn:n≤100) (T:TabM w) :
  Calls Tryz.prog 16 #[.string (ag x),.int .i64 n] w fun e W'=>e = .returned (.tuple #[.string (bO (xC n (nr (x*pw n)))),.int .i64 0])∧Below w.heap.size w W':=by
 obtain ⟨_,_,a3⟩:=fS h (x8 n) (by omega)
 obtain ⟨_,_,b3⟩:=ji a3 (by omega)
 exact tF _ _ _ _ n w (fun W hW=>DN x n W h hn (T.next hW)) (fun W hW=>yd _ W a3 (by omega) (T.next hW)) (fun W hW=>DO _ n W hn ((yc b3).up (by omega)))
theorem yf (x:Rat) (w:World) (h:Bq 90 x) (T:TabM w) :
  Calls Tryz.prog 6 #[.string (ag x)] w fun e W'=>e = .returned (.tuple #[.string (bO (ftT (nr (x / tw)))),.int .i64 0])∧Below w.heap.size w W':=by
 obtain ⟨a1,a2,a3⟩:=nB h j6 (by decide) uU
 obtain ⟨_,_,b3⟩:=ji a3 (by decide)
 refine tG _ (ag (x / tw)) _ _ 0 w (fun W hW=>n8 x W h (T.next hW)) (fun W hW => ?_) (fun W hW=>yd _ W a3 (by decide) (T.next hW)) (fun W hW=>tH _ W ((yc b3).up (by decide)) (T.next hW))
 have c:=DI x tw W (h.lim (by decide)) (j6.lim (by decide)) uU (T.next hW).1 (T.next hW).2
 rwa [a1,a2,mj] at c
theorem Al (z:Int) (w:World) (hz:Bd 80 z) (T:TabM w) :
  Calls Tryz.prog 8 #[.string (bO (ftT z))] w fun e W'=>e = .returned (.tuple #[.string (ag ((z:Rat)*tw)),.int .i64 0])∧Below w.heap.size w W':=by
 have hq:=mg (by decide:1≤80) hz
 obtain ⟨a1,a2,_⟩:=fS hq j6 (by decide)
 refine nY (bO (ftT z)) (aa z) _ 0 w (by rw [ai];have:=uX hz;omega) (fun W hW=>DP z W hz (T.next hW)) (fun W hW => ?_)
 have c:=xW (z:Rat) tw W (hq.lim (by decide)) (j6.lim (by decide)) (T.next hW).1 (T.next hW).2
 rwa [a1,a2,mj,cR] at c
end T
end Go.Proofs.YtocalfjfjjljnaaGreatDoor
namespace Go.Proofs.YtocalfjfjjljnaaGreatDoor.T
open Go.Proofs.YtocalfjfjjljnaaGreatDoor Go Go.RowKit
theorem wU (s : ByteArray) (w : World) (T : TabM w) :
   Calls Tryz.prog 8 #[.string s] w fun e W' => e = .returned (.tuple #[.string (pfB s.data.toList), .int .i64 (pfE s.data.toList)]) ∧ Below w.heap.size w W' := by
 have hls : s.data.toList.length = s.size := rfl
 by_cases h9 : 90 < s.size
 · have e1 : pfE s.data.toList = 4 := by unfold pfE; rw [if_pos (by omega)]
   have e2 : pfB s.data.toList = ⟨#[]⟩ := by unfold pfB; rw [e1, if_neg (by decide)]
   rw [e1, e2]
   exact uo s w (by omega)
 have hs : s.size ≤ 90 := by omega
 have hl : s.data.toList.length ≤ 90 := hs
 have no : pfO s.data.toList = false → pfE s.data.toList = 3 ∧ pfB s.data.toList = ⟨#[]⟩ := fun h => by
   have e1 : pfE s.data.toList = 3 := by unfold pfE; rw [if_neg (by omega), h]; rfl
   exact ⟨e1, by unfold pfB; rw [e1, if_neg (by decide)]⟩
 have bad : ∀ J, J < 3 → (∀ j, j < J → gd9 (cC (szL s.data.toList) j) = true) → gd9 (cC (szL s.data.toList) J) = false → Calls Tryz.prog 8 #[.string s] w fun e W' => e = .returned (.tuple #[.string (pfB s.data.toList), .int .i64 (pfE s.data.toList)]) ∧ Below w.heap.size w W' := fun J hJ hg hb => by
   obtain ⟨e1, e2⟩ := no (by
     unfold pfO zo
     have hJ2 : J = 0 ∨ J = 1 ∨ J = 2 := by omega
     rcases hJ2 with rfl | rfl | rfl
     · rw [hb]; rfl
     · rw [hb, Bool.and_false]; rfl
     · rw [hb, Bool.and_false]; rfl)
   rw [e1, e2]
   exact rP s ⟨#[]⟩ w (by omega) (fun W' hW' => zq s W' hs (T.next hW') J hJ hg hb)
 cases g0 : gd9 (cC (szL s.data.toList) 0)
 · exact bad 0 (by decide) (fun j hj => by omega) g0
 cases g1 : gd9 (cC (szL s.data.toList) 1)
 · exact bad 1 (by decide) (fun j hj => by obtain rfl : j = 0 := by omega
                                           exact g0) g1
 cases g2 : gd9 (cC (szL s.data.toList) 2)
 · exact bad 2 (by decide) (fun j hj => by
     have hj2 : j = 0 ∨ j = 1 := by omega
     rcases hj2 with rfl | rfl
     · exact g0
     · exact g1) g2
 have hg : ∀ j, j < 3 → gd9 (cC (szL s.data.toList) j) = true := fun j hj => by
   have hj2 : j = 0 ∨ j = 1 ∨ j = 2 := by omega
   rcases hj2 with rfl | rfl | rfl
   · exact g0
   · exact g1
   · exact g2
 have g3 : zo s.data.toList = true := by unfold zo; rw [g0, g1, g2]; rfl
 have bz := zp hl (fun i hi => (nu (hg i hi)).1)
 by_cases h : ftT (tz9 s.data.toList) = s.data.toList
 · have e0 : pfO s.data.toList = true := by unfold pfO; rw [g3, h, beq_self_eq_true]; rfl
   have e1 : pfE s.data.toList = 0 := by unfold pfE; rw [if_neg (by omega), e0]; rfl
   have e2 : pfB s.data.toList = ag ((tz9 s.data.toList : Rat) * tw) := by unfold pfB; rw [if_pos e1]
   rw [e1, e2]
   have hq := mg (by decide : 1 ≤ 110) bz
   obtain ⟨a1, a2, _⟩ := fS hq j6 (by decide)
   refine nY s (aa (tz9 s.data.toList)) _ 0 w (by omega) (fun W hW => ?_) (fun W hW => ?_)
   · have c := pL s W hs (T.next hW) hg
     rwa [h, xr, beq_self_eq_true] at c
   · have c := xW (tz9 s.data.toList : Rat) tw W (hq.lim (by decide)) (j6.lim (by decide)) (T.next hW).1 (T.next hW).2
     rwa [a1, a2, mj, cR] at c
 · have e0 : pfO s.data.toList = false := by
     unfold pfO
     rw [g3, Bool.true_and]
     exact beq_eq_false_iff_ne.2 h
   obtain ⟨e1, e2⟩ := no e0
   rw [e1, e2]
   refine rP s (aa (tz9 s.data.toList)) w (by omega) (fun W' hW' => ?_)
   have c := pL s W' hs (T.next hW') hg
   have hne : ((bO (ftT (tz9 s.data.toList))).toList == s.toList) = false := by
     rw [beq_eq_false_iff_ne]
     intro e
     rw [ByteArray.toList_eq, ByteArray.toList_eq, aP] at e
     exact h e
   rwa [hne] at c
end Go.Proofs.YtocalfjfjjljnaaGreatDoor.T
