/- Parts of the proof of the text YtocalfjfjjljnaaGreatDoorZO44. -/
import Derived.Test.YtocalfjfjjljnaaGreatDoorZO1
import Derived.Test.YtocalfjfjjljnaaGreatDoorZO25
import Derived.Test.YtocalfjfjjljnaaGreatDoorZO38
set_option linter.all false
set_option maxRecDepth 100000
set_option maxHeartbeats 8000000
namespace Go.Proofs.YtocalfjfjjljnaaGreatDoor
namespace T
open Go.RowKit
theorem rsz (s:ByteArray) (w:World) (hs:s.size≤100000) :
  Calls Tryz.prog 39 #[.string s] w fun e W'=>e = .returned (.int .i64 ((szL s.data.toList).length:Nat))∧Below w.heap.size w W':=by
 have hm:s.size≤9223372036854775807:=by omega
 have hl:s.data.toList.length=s.size:=rfl
 by_cases h0:s.size=0
 ·have hE:=gg h0
  have e0:s.data.toList = []:=cQ h0
  have hE':(s.toList != [])=false:=by rw [bne,ByteArray.toList_eq,e0];rfl
  have HR:=Ha (show (szL s.data.toList).length=0 by rw [e0];rfl)
  clear hl e0 hs
  go_enter Tryz.func39,Tryz.ntmps39
  go_wp2
  go_ret
  exact ⟨ah (by rw [HR.out];rfl),Below.refl _ _⟩
 ·have hp:0<s.size:=by omega
  have hE':s.toList.isEmpty=false:=by
   rw [ByteArray.toList_eq]
   cases hd:s.data.toList with
   | nil=>rw [hd] at hl;simp at hl;omega
   | cons a t=>rfl
  cases hn:af s.data.toList
  ·have h45:((s[0].toNat:Int)==45)=false:=(au hp).trans hn
   have HR:=Ha (show (szL s.data.toList).length=s.size by unfold szL;rw [hn];rfl)
   clear hl hn hs
   go_enter Tryz.func39,Tryz.ntmps39
   go_wp2
   go_ret
   exact ⟨ah (by rw [HR.out]),Below.refl _ _⟩
  ·have h45:((s[0].toNat:Int)==45)=true:=(au hp).trans hn
   have HR:=Ha (show (szL s.data.toList).length=s.size - 1 by unfold szL;rw [hn,if_pos rfl,List.length_tail];rfl)
   clear hl hn hs
   go_enter Tryz.func39,Tryz.ntmps39
   go_wp2
   go_ret
   exact ⟨ah (by rw [HR.out];omega),Below.refl _ _⟩
theorem rdg (s:ByteArray) (w:World) (hs:s.size≤100000) :
  Calls Tryz.prog 30 #[.string s] w fun e W'=>e = .returned (.int .i64 (ndg s.data.toList:Nat))∧Below w.heap.size w W':=by
 have hm:s.size≤9223372036854775807:=by omega
 clear hs
 go_enter Tryz.func30,Tryz.ntmps30
 go_wp2
 go_loop [3] (fun i=>∃ k:Nat,k≤s.size∧i = .int .i64 k∧Hid ((s.data.toList.take k).all aj=true)) (fun i=>s.size - (intOf i).toNat)
 case atStart=>exact ⟨0,Nat.zero_le _,rfl,rfl⟩
 case round =>
  obtain ⟨k,hk,rfl,hd⟩:=hrel
  by_cases hlt:k<s.size
  ·have out:aj s[k]=false→Hid (ndg s.data.toList=k):=fun h=>Ha (ql hd.out (.inr ⟨s[k],List.getElem?_eq_getElem (show k<s.data.toList.length from hlt),h⟩) hk)
   by_cases h1:(48:Int)≤s[k].toNat
   ·by_cases h2:(s[k].toNat:Int)≤57
    ·have hd':Hid ((s.data.toList.take (k+1)).all aj=true):=by
      show (s.data.toList.take (k+1)).all aj=true
      rw [a8 s k hlt,List.all_append,hd.out]
      have:aj s[k]=true:=by rw [ao];omega
      simp [this]
     clear hd out
     go_wp2
     go_round
     case rel=>exact ⟨k+1,by omega,by go_num,hd'⟩
     case measure=>simp [intOf];omega
    ·have HO:=out (by rw [←Bool.not_eq_true,ao];omega)
     clear hd out
     go_wp2
     go_ret
     exact ⟨ah (by rw [HO.out]),Below.refl _ _⟩
   ·have HO:=out (by rw [←Bool.not_eq_true,ao];omega)
    clear hd out
    go_wp2
    go_ret
    exact ⟨ah (by rw [HO.out]),Below.refl _ _⟩
  ·have HO:=Ha (ql hd.out (.inl (show s.size≤k by omega)) hk)
   clear hd
   go_wp2
   go_ret
   exact ⟨ah (by rw [HO.out]),Below.refl _ _⟩
theorem o8 {x y:Rat} (hx:Sq x) (hy:Sq y):(∀ f,opB f (ag x) (ag y)=f x y)∧∀ f,opE f (ag x) (ag y)=f x y:=by
 have h:iy (ag x) (ag y)=0:=by unfold iy;rw [if_pos hx.chk,hy.chk]
 have rx:rat (ag x)=x:=iE x
 have ry:rat (ag y)=y:=iE y
 exact ⟨fun f=>by unfold opB;rw [if_pos h,rx,ry],fun f=>by unfold opE;rw [if_pos h,rx,ry]⟩
theorem uh (a b c:ByteArray) (E:Int) (w:World)
  (h1:∀ W,Below w.heap.size w W→Calls Tryz.prog 63 #[.string a,.string b] W fun e W'=>e = .returned (.tuple #[.string c,.int .i64 E])∧Below W.heap.size W W')
  : Calls Tryz.prog 25 #[.string a,.string b] w fun e W'=>e = .returned (.string c)∧Below w.heap.size w W':=by
 have O:=Ha (h1);clear h1
 go_enter Tryz.func25,Tryz.ntmps25
 have HB:=Ha (Below.refl w.heap.size w)
 go_wp2_with fail
 refine (O.out _ HB.out).mono ?_
 rintro e w1 ⟨rfl,b⟩
 replace HB:=Ha (HB.out.trans (b.mono HB.out.size));clear b
 go_wp2
 go_ret
 exact ⟨rfl,HB.out⟩
theorem ui (a b n:ByteArray) (E F:Int) (w:World)
  (h1:∀ W,Below w.heap.size w W→Calls Tryz.prog 32 #[.string a,.string ⟨#[49,47,50]⟩] W fun e W'=>e = .returned (.tuple #[.string b,.int .i64 E])∧Below W.heap.size W W')
  (h2:∀ W,Below w.heap.size w W→Calls Tryz.prog 23 #[.string b] W fun e W'=>e = .returned (.tuple #[.string n,.int .i64 F])∧Below W.heap.size W W')
  : Calls Tryz.prog 22 #[.string a] w fun e W'=>e = .returned (.string n)∧Below w.heap.size w W':=by
 have O:=Ha (Hb h1 (h2));clear h1 h2
 go_enter Tryz.func22,Tryz.ntmps22
 have HB:=Ha (Below.refl w.heap.size w)
 go_wp2_with fail
 refine (O.out.1 _ HB.out).mono ?_
 rintro e w1 ⟨rfl,b⟩
 replace HB:=Ha (HB.out.trans (b.mono HB.out.size));clear b
 go_wp2_with fail
 refine (O.out.2 _ HB.out).mono ?_
 rintro e w2 ⟨rfl,b⟩
 replace HB:=Ha (HB.out.trans (b.mono HB.out.size));clear b
 go_wp2
 go_ret
 exact ⟨rfl,HB.out⟩
theorem oD (x y:Rat) {j k:Nat} (w:World) (hx:Bq j x) (hy:Bq k y) (hb:j+k≤300) (T:TabM w) :
  Calls Tryz.prog 25 #[.string (ag x),.string (ag y)] w fun e W'=>e = .returned (.string (ag (x*y)))∧Below w.heap.size w W':=by
 obtain ⟨a1,a2,_⟩:=fS hx hy hb
 have sx:Sq x:=hx.lim (by omega)
 have sy:Sq y:=hy.lim (by omega)
 refine uh _ _ _ 0 w (fun W hW => ?_)
 have c:=y3 (ag x) (ag y) W sx.size sy.size (T.next hW).1
 rwa [(o8 sx sy).1,(o8 sx sy).2,a1,a2] at c
theorem DW (x:Rat) {k:Nat} (w:World) (h:Bq k x) (hk:k≤290) (T:TabM w) :
  Calls Tryz.prog 22 #[.string (ag x)] w fun e W'=>e = .returned (.string (aa (nr x)))∧Below w.heap.size w W':=by
 obtain ⟨a1,a2,a3⟩:=ji h hk
 have sx:Sq x:=h.lim (by omega)
 have sh:Sq half:=qf.lim (by decide)
 have sa:Sq (x+half):=a3.lim (by omega)
 refine ui _ (ag (x+half)) _ 0 0 w (fun W hW => ?_) (fun W hW => ?_)
 ·have c:=sF (ag x) (ag half) W sx.size sh.size (T.next hW).1
  rwa [(o8 sx sh).1,(o8 sx sh).2,a1,a2,rR] at c
 ·have c:=oC (ag (x+half)) W sa.size (T.next hW).1
  unfold AG at c
  rwa [if_pos sa.chk,sa.chk,show rat (ag (x+half))=x+half from iE _] at c
theorem zc (a:ByteArray) (E:Int) (w:World) (e0:(E==0)=false) (e1:(E != 0)=true)
  (h1:∀ W,Below w.heap.size w W→Calls Tryz.prog 37 #[.string a] W fun e W'=>e = .returned (.int .i64 E)∧Below W.heap.size W W')
  : Calls Tryz.prog 15 #[.string a] w fun e W'=>e = .returned (.int .i64 E)∧Below w.heap.size w W':=by
 have O:=Ha (h1);clear h1
 go_enter Tryz.func15,Tryz.ntmps15
 have HB:=Ha (Below.refl w.heap.size w)
 go_wp2_with fail
 refine (O.out _ HB.out).mono ?_
 rintro e w1 ⟨rfl,b⟩
 replace HB:=Ha (HB.out.trans (b.mono HB.out.size));clear b
 go_wp2
 go_ret
 exact ⟨rfl,HB.out⟩
theorem CZ (a p d:ByteArray) (F n:Int) (w:World) (s1:90<n)
  (h1:∀ W,Below w.heap.size w W→Calls Tryz.prog 37 #[.string a] W fun e W'=>e = .returned (.int .i64 0)∧Below W.heap.size W W')
  (h2:∀ W,Below w.heap.size w W→Calls Tryz.prog 38 #[.string a] W fun e W'=>e = .returned (.tuple #[.string p,.string d,.int .i64 F])∧Below W.heap.size W W')
  (h3:∀ W,Below w.heap.size w W→Calls Tryz.prog 39 #[.string p] W fun e W'=>e = .returned (.int .i64 n)∧Below W.heap.size W W')
  : Calls Tryz.prog 15 #[.string a] w fun e W'=>e = .returned (.int .i64 4)∧Below w.heap.size w W':=by
 have O:=Ha (Hb h1 (Hb h2 (h3)));clear h1 h2 h3
 go_enter Tryz.func15,Tryz.ntmps15
 have HB:=Ha (Below.refl w.heap.size w)
 go_wp2_with fail
 refine (O.out.1 _ HB.out).mono ?_
 rintro e w1 ⟨rfl,b⟩
 replace HB:=Ha (HB.out.trans (b.mono HB.out.size));clear b
 go_wp2_with fail
 refine (O.out.2.1 _ HB.out).mono ?_
 rintro e w2 ⟨rfl,b⟩
 replace HB:=Ha (HB.out.trans (b.mono HB.out.size));clear b
 go_wp2_with fail
 refine (O.out.2.2 _ HB.out).mono ?_
 rintro e w3 ⟨rfl,b⟩
 replace HB:=Ha (HB.out.trans (b.mono HB.out.size));clear b
 go_wp2
 go_ret
 exact ⟨rfl,HB.out⟩
theorem C5 (a p d:ByteArray) (F n m:Int) (w:World) (s1:¬ 90<n) (s2:90<m)
  (h1:∀ W,Below w.heap.size w W→Calls Tryz.prog 37 #[.string a] W fun e W'=>e = .returned (.int .i64 0)∧Below W.heap.size W W')
  (h2:∀ W,Below w.heap.size w W→Calls Tryz.prog 38 #[.string a] W fun e W'=>e = .returned (.tuple #[.string p,.string d,.int .i64 F])∧Below W.heap.size W W')
  (h3:∀ W,Below w.heap.size w W→Calls Tryz.prog 39 #[.string p] W fun e W'=>e = .returned (.int .i64 n)∧Below W.heap.size W W')
  (h4:∀ W,Below w.heap.size w W→Calls Tryz.prog 39 #[.string d] W fun e W'=>e = .returned (.int .i64 m)∧Below W.heap.size W W')
  : Calls Tryz.prog 15 #[.string a] w fun e W'=>e = .returned (.int .i64 4)∧Below w.heap.size w W':=by
 have O:=Ha (Hb h1 (Hb h2 (Hb h3 (h4))));clear h1 h2 h3 h4
 go_enter Tryz.func15,Tryz.ntmps15
 have HB:=Ha (Below.refl w.heap.size w)
 go_wp2_with fail
 refine (O.out.1 _ HB.out).mono ?_
 rintro e w1 ⟨rfl,b⟩
 replace HB:=Ha (HB.out.trans (b.mono HB.out.size));clear b
 go_wp2_with fail
 refine (O.out.2.1 _ HB.out).mono ?_
 rintro e w2 ⟨rfl,b⟩
 replace HB:=Ha (HB.out.trans (b.mono HB.out.size));clear b
 go_wp2_with fail
 refine (O.out.2.2.1 _ HB.out).mono ?_
 rintro e w3 ⟨rfl,b⟩
 replace HB:=Ha (HB.out.trans (b.mono HB.out.size));clear b
 go_wp2_with fail
 refine (O.out.2.2.2 _ HB.out).mono ?_
 rintro e w4 ⟨rfl,b⟩
 replace HB:=Ha (HB.out.trans (b.mono HB.out.size));clear b
 go_wp2
 go_ret
 exact ⟨rfl,HB.out⟩
theorem C8 (a p d:ByteArray) (F n m:Int) (w:World) (s1:¬ 90<n) (s2:¬ 90<m)
  (h1:∀ W,Below w.heap.size w W→Calls Tryz.prog 37 #[.string a] W fun e W'=>e = .returned (.int .i64 0)∧Below W.heap.size W W')
  (h2:∀ W,Below w.heap.size w W→Calls Tryz.prog 38 #[.string a] W fun e W'=>e = .returned (.tuple #[.string p,.string d,.int .i64 F])∧Below W.heap.size W W')
  (h3:∀ W,Below w.heap.size w W→Calls Tryz.prog 39 #[.string p] W fun e W'=>e = .returned (.int .i64 n)∧Below W.heap.size W W')
  (h4:∀ W,Below w.heap.size w W→Calls Tryz.prog 39 #[.string d] W fun e W'=>e = .returned (.int .i64 m)∧Below W.heap.size W W')
  : Calls Tryz.prog 15 #[.string a] w fun e W'=>e = .returned (.int .i64 0)∧Below w.heap.size w W':=by
 have O:=Ha (Hb h1 (Hb h2 (Hb h3 (h4))));clear h1 h2 h3 h4
 go_enter Tryz.func15,Tryz.ntmps15
 have HB:=Ha (Below.refl w.heap.size w)
 go_wp2_with fail
 refine (O.out.1 _ HB.out).mono ?_
 rintro e w1 ⟨rfl,b⟩
 replace HB:=Ha (HB.out.trans (b.mono HB.out.size));clear b
 go_wp2_with fail
 refine (O.out.2.1 _ HB.out).mono ?_
 rintro e w2 ⟨rfl,b⟩
 replace HB:=Ha (HB.out.trans (b.mono HB.out.size));clear b
 go_wp2_with fail
 refine (O.out.2.2.1 _ HB.out).mono ?_
 rintro e w3 ⟨rfl,b⟩
 replace HB:=Ha (HB.out.trans (b.mono HB.out.size));clear b
 go_wp2_with fail
 refine (O.out.2.2.2 _ HB.out).mono ?_
 rintro e w4 ⟨rfl,b⟩
 replace HB:=Ha (HB.out.trans (b.mono HB.out.size));clear b
 go_wp2
 go_ret
 exact ⟨rfl,HB.out⟩
theorem zd (a:ByteArray) (w:World) (ha:a.size≤maxLen) (T:TabM w) :
  Calls Tryz.prog 15 #[.string a] w fun e W'=>e = .returned (.int .i64 (ckV a.data.toList))∧Below w.heap.size w W':=by
 have kc:=fun W (hW:Below w.heap.size w W)=>fg a W ha (T.next hW).1
 unfold ckV
 by_cases h1:aM a.data.toList=0
 ·rw [if_pos h1]
  have kp:=fun W (hW:Below w.heap.size w W)=>ue a W ha (T.next hW).1
  rw [h1] at kc
  have ea:=gP h1
  have hl:=nG h1
  have sx:Sq (dq a.data.toList):=hl
  unfold paN paD at kp
  rw [if_pos h1,if_pos h1] at kp
  generalize hx:dq a.data.toList=x at *
  have z1:(bN a)=aa x.num:=by rw [ea];exact ni x
  have z2:(bD a)=aa (x.den:Int):=by rw [ea];exact nj x
  have y1:=aJ sx.n
  have y2:=aJ sx.d
  have k1:=fun W (_:Below w.heap.size w W)=>rsz (aa x.num) W (by omega)
  have k2:=fun W (_:Below w.heap.size w W)=>rsz (aa (x.den:Int)) W (by omega)
  have e1:(szL (aa x.num).data.toList).length=(Lib.decDigits x.num.natAbs).length:=by rw [aB,iY]
  have e2:(szL (aa (x.den:Int)).data.toList).length=(Lib.decDigits x.den).length:=by rw [aB,iY,Int.natAbs_natCast]
  rw [e1] at k1
  rw [e2] at k2
  rw [z1,z2] at kp
  have len:∀ m:Nat,(Lib.decDigits m).length≤90↔m<aA 90:=fun m=>by rw [Lib.decDigits_length];exact bh m 90 (by decide)
  by_cases h2:x.num.natAbs<aA 90
  ·have q1:=(len _).2 h2
   by_cases h3:x.den<aA 90
   ·have q2:=(len _).2 h3
    rw [if_pos ⟨h2,h3⟩]
    exact C8 a _ _ _ _ _ w (by omega) (by omega) kc kp k1 k2
   ·have q2:=mt (len _).1 h3
    rw [if_neg (fun q=>h3 q.2)]
    exact C5 a _ _ _ _ _ w (by omega) (by omega) kc kp k1 k2
  ·have q1:=mt (len _).1 h2
   rw [if_neg (fun q=>h2 q.1)]
   exact CZ a _ _ _ _ w (by omega) kc kp k1
 ·rw [if_neg h1]
  obtain ⟨e0,e1⟩:=aQ h1
  exact zc a _ w e0 e1 kc
end T
namespace T
open Go.RowKit
end T
namespace T
open Go.RowKit
theorem dE {s:ByteArray} (hn:af s.data.toList=true):s.extract 1 s.size=zB s:=by
 apply aK
 rw [show (zB s).data.toList=szL s.data.toList from aP _,qT hn,Lib.extract_data,List.take_of_length_le (by rw [List.length_drop,ac];omega)]
theorem aZ {s:ByteArray} (hp:0<s.size):s.toList.isEmpty=false:=by
 rw [ByteArray.toList_eq]
 cases hd:s.data.toList with
 | nil=>have hl:s.data.toList.length=s.size:=rfl;rw [hd] at hl;simp at hl;omega
 | cons a t=>rfl
theorem sI {s:ByteArray} (hp:s.data.toList = []):s.toList.isEmpty=true:=by rw [ByteArray.toList_eq,hp];rfl
theorem DX:ag 1=⟨#[49]⟩:=xU
theorem C9:ag (-1)=⟨#[45,49]⟩:=by decide+kernel
theorem vg:Bq 1 (-1):=by constructor <;> decide+kernel
section
variable (s:ByteArray) (w:World) (h9:s.size≤90) (T:TabM w)
end
end T
namespace T
open Go.RowKit
theorem Ej {x:Rat} (h:Bq 90 x):ckV (ag x).data.toList=0:=by
 have sx:Sq x:=h.lim (by decide)
 unfold ckV
 rw [if_pos sx.chk,show dq (ag x).data.toList=x from iE x,if_pos ⟨h.num,h.den⟩]
def grM (a:ByteArray):Bool:=decide (40<a.size∧ckV a.data.toList=0) || decide (330<a.size)
theorem ze (a:ByteArray) (E:Int) (w:World) (s1:¬ (40:Int)<a.size)  (s2:¬ (330:Int)<a.size)
  : Calls Tryz.prog 4 #[.string a] w fun e W'=>e = .returned (.bool false)∧Below w.heap.size w W':=by
 have hm9:a.size≤9223372036854775807:=by omega
 go_enter Tryz.func4,Tryz.ntmps4
 have HB:=Ha (Below.refl w.heap.size w)
 go_wp2
 go_ret
 exact ⟨rfl,HB.out⟩
theorem Da (a:ByteArray) (E:Int) (w:World) (s0:a.size≤9223372036854775807) (s1:(40:Int)<a.size)
  (h1:∀ W,Below w.heap.size w W→Calls Tryz.prog 15 #[.string a] W fun e W'=>e = .returned (.int .i64 0)∧Below W.heap.size W W')
  : Calls Tryz.prog 4 #[.string a] w fun e W'=>e = .returned (.bool true)∧Below w.heap.size w W':=by
 have O:=Ha (h1);clear h1
 have hm9:a.size≤9223372036854775807:=by omega
 go_enter Tryz.func4,Tryz.ntmps4
 have HB:=Ha (Below.refl w.heap.size w)
 go_wp2_with fail
 refine (O.out _ HB.out).mono ?_
 rintro e w1 ⟨rfl,b⟩
 replace HB:=Ha (HB.out.trans (b.mono HB.out.size));clear b
 go_wp2
 go_ret
 exact ⟨rfl,HB.out⟩
theorem BY (a:ByteArray) (E:Int) (w:World) (s0:a.size≤9223372036854775807) (s1:(40:Int)<a.size) (e0:(E==0)=false)
  (h1:∀ W,Below w.heap.size w W→Calls Tryz.prog 15 #[.string a] W fun e W'=>e = .returned (.int .i64 E)∧Below W.heap.size W W')
  : Calls Tryz.prog 4 #[.string a] w fun e W'=>e = .returned (.bool (decide ((330:Int)<a.size)))∧Below w.heap.size w W':=by
 have O:=Ha (h1);clear h1
 have hm9:a.size≤9223372036854775807:=by omega
 go_enter Tryz.func4,Tryz.ntmps4
 have HB:=Ha (Below.refl w.heap.size w)
 go_wp2_with fail
 refine (O.out _ HB.out).mono ?_
 rintro e w1 ⟨rfl,b⟩
 replace HB:=Ha (HB.out.trans (b.mono HB.out.size));clear b
 go_wp2
 go_ret
 exact ⟨rfl,HB.out⟩
theorem uj (a:ByteArray) (w:World) (ha:a.size≤maxLen) (T:TabM w) :
  Calls Tryz.prog 4 #[.string a] w fun e W'=>e = .returned (.bool (grM a))∧Below w.heap.size w W':=by
 have kc:=fun W (hW:Below w.heap.size w W)=>zd a W ha (T.next hW)
 have hM:a.size≤9223372036854775807:=Nat.le_trans ha (by decide)
 by_cases h1:40<a.size
 ·by_cases h2:ckV a.data.toList=0
  ·rw [show grM a=true by unfold grM;rw [decide_eq_true ⟨h1,h2⟩];rfl]
   rw [h2] at kc
   exact Da a 0 w hM (by omega) kc
  ·have e0:(ckV a.data.toList==0)=false:=beq_eq_false_iff_ne.2 h2
   by_cases h3:330<a.size
   ·rw [show grM a=true by unfold grM;rw [decide_eq_true h3,Bool.or_true]]
    have k:=BY a _ w hM (by omega) e0 kc
    rwa [show decide ((330:Int)<a.size)=true from decide_eq_true (by omega)] at k
   ·rw [show grM a=false by unfold grM;rw [decide_eq_false h3,decide_eq_false (fun q=>h2 q.2)];rfl]
    have k:=BY a _ w hM (by omega) e0 kc
    rwa [show decide ((330:Int)<a.size)=false from decide_eq_false (by omega)] at k
 ·rw [show grM a=false by unfold grM;rw [decide_eq_false (fun q=>h1 q.1),decide_eq_false (show ¬ 330<a.size by omega)];rfl]
  exact ze a 0 w (by omega) (by omega)
end T
section
open Go.RowKit
theorem j8:∀ (l m:List UInt8),l.length=m.length→(∀ c∈l,aj c=true)→(∀ c∈m,aj c=true)→Op.bytesLess l m=decide (ad l<ad m)
 | [],[],_,_,_=>rfl
 | [],_::_,h,_,_=>by simp at h
 | _::_,[],h,_,_=>by simp at h
 | a::l,b::m,h,h1,h2=>by
  have hl:l.length=m.length:=by simpa using h
  have ih:=j8 l m hl (fun c hc=>h1 c (by simp [hc])) (fun c hc=>h2 c (by simp [hc]))
  have da:=(ao a).1 (h1 a (by simp))
  have db:=(ao b).1 (h2 b (by simp))
  have p:=bg l (fun c hc=>h1 c (by simp [hc]))
  have q:=bg m (fun c hc=>h2 c (by simp [hc]))
  rw [oM,oM,←hl]
  rw [←hl] at q
  show (decide (a<b) || (a==b && Op.bytesLess l m))=_
  rw [ih]
  generalize 10 ^ l.length=r at *
  generalize ad l=x at *
  generalize ad m=y at *
  rcases Nat.lt_trichotomy a.toNat b.toNat with h | h | h
  ·have e1:a<b:=by rw [UInt8.lt_iff_toNat_lt];exact h
   have e2:(a.toNat - 48)*r+r≤(b.toNat - 48)*r:=by rw [←Nat.succ_mul];exact Nat.mul_le_mul_right r (by omega)
   rw [decide_eq_true e1,Bool.true_or,eq_comm,decide_eq_true_eq];omega
  ·have e1:a=b:=UInt8.toNat_inj.1 h
   subst e1
   rw [show decide (a<a)=false from decide_eq_false (by rw [UInt8.lt_iff_toNat_lt];omega),Bool.false_or,beq_self_eq_true,Bool.true_and]
   apply decide_eq_decide.2;omega
  ·have e1:¬ a<b:=by rw [UInt8.lt_iff_toNat_lt];omega
   have e2:(b.toNat - 48)*r+r≤(a.toNat - 48)*r:=by rw [←Nat.succ_mul];exact Nat.mul_le_mul_right r (by omega)
   have e3:(a==b)=false:=by rw [beq_eq_false_iff_ne];intro e;rw [e] at h;omega
   rw [decide_eq_false e1,Bool.false_or,e3,Bool.false_and,eq_comm,decide_eq_false_iff_not];omega
theorem zf (a:ByteArray) (f:Int) (w:World) (n1:(f==0)=false) (n2:(f != 0)=true)
  (h1:CqB w 37 #[.string a] (.int .i64 f)) :
  Calls Tryz.prog 26 #[.string a] w fun e W'=>e = .returned (.tuple #[.int .i64 0,.int .i64 f])∧Below w.heap.size w W':=by
 have C:=Ha h1;clear h1
 go_enter Tryz.func26,Tryz.ntmps26
 go_wp2_with fail
 refine (C.out _ (Below.refl _ _)).mono ?_
 rintro e w1 ⟨rfl,b⟩
 have H1:=Ha b;clear b
 go_wp2
 go_ret2
 exact ⟨rfl,H1.out⟩
theorem wL (a n d:ByteArray) (m:Bool) (w:World)
  (h1:CqB w 37 #[.string a] (.int .i64 0))
  (h2:CqB w 64 #[.string a] (.tuple #[.bool m,.string n,.string d,.bool true])) :
  Calls Tryz.prog 26 #[.string a] w fun e W'=>e = .returned (.tuple #[.int .i64 0,.int .i64 8])∧Below w.heap.size w W':=by
 have C:=Ha (Hb h1 h2);clear h1 h2
 go_enter Tryz.func26,Tryz.ntmps26
 go_wp2_with fail
 refine (C.out.1 _ (Below.refl _ _)).mono ?_
 rintro e w1 ⟨rfl,b⟩
 have H1:=Ha b;clear b
 go_wp2_with fail
 refine (C.out.2 _ H1.out).mono ?_
 rintro e w2 ⟨rfl,b⟩
 have H2:=Ha (H1.out.trans (b.mono H1.out.size));clear b H1
 go_wp2
 go_ret2
 exact ⟨rfl,H2.out⟩
theorem uk (a n d:ByteArray) (m:Bool) (w:World) (hz:n.size≤1000) (hc:(19:Int)<n.size∨(¬ (19:Int)<n.size∧((n.size:Int)==19)=true∧Op.bytesLess n.toList [52,54,49,49,54,56,54,48,49,56,52,50,55,51,56,55,57,48,52]=false∧(n.toList == [52,54,49,49,54,56,54,48,49,56,52,50,55,51,56,55,57,48,52])=false))
  (h1:CqB w 37 #[.string a] (.int .i64 0))
  (h2:CqB w 64 #[.string a] (.tuple #[.bool m,.string n,.string d,.bool false])) :
  Calls Tryz.prog 26 #[.string a] w fun e W'=>e = .returned (.tuple #[.int .i64 0,.int .i64 2])∧Below w.heap.size w W':=by
 have C:=Ha (Hb h1 h2);clear h1 h2
 rcases hc with hc | ⟨hc,h19,hL,hE⟩
 all_goals
  go_enter Tryz.func26,Tryz.ntmps26
  go_wp2_with fail
  refine (C.out.1 _ (Below.refl _ _)).mono ?_
  rintro e w1 ⟨rfl,b⟩
  have H1:=Ha b;clear b
  go_wp2_with fail
  refine (C.out.2 _ H1.out).mono ?_
  rintro e w2 ⟨rfl,b⟩
  have H2:=Ha (H1.out.trans (b.mono H1.out.size));clear b H1
  go_wp2
  go_ret2
  exact ⟨rfl,H2.out⟩
theorem j9 (l:List UInt8) (j:Nat):ad (l.take j)≤ad l:=by
 conv=>rhs;rw [←List.take_append_drop j l]
 rw [dB]
 exact Nat.le_trans (Nat.le_mul_of_pos_right _ (Nat.pow_pos (by decide))) (Nat.le_add_right _ _)
theorem AQ (a n d:ByteArray) (m:Bool) (w:World) (hz:n.size≤19) (hd:n.data.toList.all aj=true) (hk:ad n.data.toList≤4611686018427387904) (hc:((n.size:Int)==19)=false∨(((n.size:Int)==19)=true∧(Op.bytesLess n.toList [52,54,49,49,54,56,54,48,49,56,52,50,55,51,56,55,57,48,52] || (n.toList == [52,54,49,49,54,56,54,48,49,56,52,50,55,51,56,55,57,48,52]))=true))
  (h1:CqB w 37 #[.string a] (.int .i64 0))
  (h2:CqB w 64 #[.string a] (.tuple #[.bool m,.string n,.string d,.bool false])) :
  Calls Tryz.prog 26 #[.string a] w fun e W'=>e = .returned (.tuple #[.int .i64 (if m=true then -(ad n.data.toList:Int) else (ad n.data.toList:Int)),.int .i64 0])∧Below w.heap.size w W':=by
 have C:=Ha (Hb h1 h2);clear h1 h2
 have hz':¬ (19:Int)<n.size:=by omega
 have HD:=Ha hd;clear hd
 have HK:=Ha hk;clear hk
 rcases hc with h19 | ⟨h19,hL⟩
 all_goals
  go_enter Tryz.func26,Tryz.ntmps26
  go_wp2_with fail
  refine (C.out.1 _ (Below.refl _ _)).mono ?_
  rintro e w1 ⟨rfl,b⟩
  have H1:=Ha b;clear b
  go_wp2_with fail
  refine (C.out.2 _ H1.out).mono ?_
  rintro e w2 ⟨rfl,b⟩
  have H2:=Ha (H1.out.trans (b.mono H1.out.size));clear b H1
  go_wp2
  go_loop [9,10] (fun x i=>∃ k:Nat,k≤n.size∧i = .int .i64 k∧x = .int .i64 (ad (n.data.toList.take k):Nat)) (fun _ i=>n.size - (intOf i).toNat)
  case atStart=>exact ⟨0,Nat.zero_le _,rfl,rfl⟩
  case round =>
   obtain ⟨k,hk,rfl,rfl⟩:=hrel
   by_cases hlt:k<n.size
   ·have hdk:=List.all_eq_true.1 HD.out n[k] (cD n k hlt)
    rw [ao] at hdk
    have h3:¬ (n[k].toNat:Int)<48:=by omega
    have h4:¬ (57:Int)<n[k].toNat:=by omega
    have HS:Hid (ad (n.data.toList.take (k+1))=ad (n.data.toList.take k)*10+(n[k].toNat - 48)):=by rw [a8 n k hlt];exact bH _ _
    have hn:=Nat.le_trans (j9 n.data.toList k) HK.out
    have hn17:=Nat.le_trans (j9 n.data.toList (k+1)) HK.out
    rw [HS.out] at hn17
    clear hdk
    go_wp2
    go_round
    case rel=>exact ⟨k+1,by omega,by go_num,by rw [HS.out];go_num⟩
    case measure=>simp [intOf];omega
   ·have hk2:n.data.toList.take k=n.data.toList:=List.take_of_length_le (by rw [ac];omega)
    rw [hk2]
    clear hk2
    have hkk:=HK.out
    cases m
    all_goals
     go_wp2
     go_ret2
     exact ⟨by simp,H2.out⟩
theorem BZ:∀ (k u:Nat),u<10 ^ (k+1)→Lib.nDigits u≤k+1
 | 0,u,h=>by rw [Lib.nDigits_small (by simpa using h)];exact Nat.le_refl _
 | k+1,u,h=>by
  by_cases h0:u<10
  ·rw [Lib.nDigits_small h0];omega
  ·rw [Lib.nDigits_big h0]
   have:=BZ k (u / 10) (by rw [Nat.pow_succ] at h;omega)
   omega
theorem rsz (k:Nat):(aa (k:Int)).size=Lib.nDigits k:=by
 rw [←ac,aB]
 unfold Lib.itoa
 rw [if_neg (by omega),Int.toNat_natCast,Lib.decDigits_length]
theorem zg (a:ByteArray) (w:World) (ha:a.size≤maxLen) (ht:Tab w) :
  Calls Tryz.prog 26 #[.string a] w fun e W'=>e = .returned (.tuple #[.int .i64 (yO a),.int .i64 (yP a)])∧Below w.heap.size w W':=by
 have hk:=fun W (hW:Below w.heap.size w W)=>fg a W ha (ht.next hW)
 unfold yO yP
 by_cases h:aM a.data.toList=0
 ·rw [if_pos h,if_pos h]
  rw [h] at hk
  have sx:=eO h
  have hs:=fun W (_:Below w.heap.size w W)=>qB (rat a) W sx
  rw [cH h] at hs
  unfold Cy Cz
  by_cases h1:(rat a).den=1
  ·rw [show decide ((rat a).den≠1)=false from decide_eq_false (fun q=>q h1)] at hs
   rw [if_pos h1]
   have e48:(4611686018427387904:Nat)=ad [52,54,49,49,54,56,54,48,49,56,52,50,55,51,56,55,57,48,52]:=by decide
   have hsz:=rsz (rat a).num.natAbs
   have hdig:=qD (rat a).num.natAbs
   have hval:=qC (rat a).num.natAbs
   have hless:(aa ((rat a).num.natAbs:Int)).size=19→Op.bytesLess (aa ((rat a).num.natAbs:Int)).toList [52,54,49,49,54,56,54,48,49,56,52,50,55,51,56,55,57,48,52]=decide ((rat a).num.natAbs<4611686018427387904):=fun q=>by
    rw [ByteArray.toList_eq,j8 _ _ (by rw [ac,q];rfl) (fun c hc=>List.all_eq_true.1 hdig c hc) (by decide),hval,←e48]
   have heq:((aa ((rat a).num.natAbs:Int)).toList == [52,54,49,49,54,56,54,48,49,56,52,50,55,51,56,55,57,48,52])=decide ((rat a).num.natAbs=4611686018427387904):=by
    have e:(⟨#[52,54,49,49,54,56,54,48,49,56,52,50,55,51,56,55,57,48,52]⟩:ByteArray)=aa ((4611686018427387904:Nat):Int):=by decide+kernel
    by_cases q:(rat a).num.natAbs=4611686018427387904
    ·rw [decide_eq_true q,q,←e,ByteArray.toList_eq];rfl
    ·rw [decide_eq_false q,beq_eq_false_iff_ne,ByteArray.toList_eq]
     intro hx
     apply q
     rw [←hval,hx,←e48]
   by_cases hb : -4611686018427387904≤(rat a).num∧(rat a).num≤4611686018427387904
   ·rw [if_pos ⟨h1,hb⟩,if_pos hb]
    have hk2:ad (aa ((rat a).num.natAbs:Int)).data.toList≤4611686018427387904:=by rw [hval];omega
    have hlen:(aa ((rat a).num.natAbs:Int)).size≤19:=by
     rw [hsz]
     rcases Nat.lt_or_ge 19 (Lib.nDigits (rat a).num.natAbs) with q | q
     ·exact absurd (BZ 18 (rat a).num.natAbs (Nat.lt_of_le_of_lt (show (rat a).num.natAbs≤4611686018427387904 by omega) (by decide))) (by omega)
     ·exact q
    have c:=AQ a _ _ _ w hlen hdig hk2 (by
     by_cases q:(aa ((rat a).num.natAbs:Int)).size=19
     ·right
      refine ⟨by rw [q];rfl,?_⟩
      rw [hless q,heq]
      rcases Nat.lt_or_ge (rat a).num.natAbs 4611686018427387904 with p | p
      ·rw [decide_eq_true p];rfl
      ·rw [show decide ((rat a).num.natAbs=4611686018427387904)=true from decide_eq_true (by omega),Bool.or_true]
     ·left
      rw [beq_eq_false_iff_ne];omega) hk hs
    rw [hval] at c
    have e:(if decide ((rat a).num<0)=true then -((rat a).num.natAbs:Int) else ((rat a).num.natAbs:Int))=(rat a).num:=by
     by_cases q:(rat a).num<0
     ·rw [decide_eq_true q,if_pos rfl];omega
     ·rw [decide_eq_false q,if_neg (by decide)];omega
    rwa [e] at c
   ·rw [if_neg (fun q=>hb q.2),if_neg hb]
    have hgt:4611686018427387904<(rat a).num.natAbs:=by omega
    refine uk a _ _ _ w (jr (by show Int.natAbs _<lim;rw [Int.natAbs_natCast];exact sx.1)) ?_ hk hs
    by_cases q:(19:Int)<(aa ((rat a).num.natAbs:Int)).size
    ·exact .inl q
    ·right
     have q2:(aa ((rat a).num.natAbs:Int)).size=19:=by
      have h18:¬ (aa ((rat a).num.natAbs:Int)).size≤18:=fun p=>by
       have:=jV (k:=(rat a).num.natAbs) (j:=18) p
       unfold aA at this;omega
      omega
     refine ⟨q,by rw [q2];rfl,?_,?_⟩
     ·rw [hless q2];exact decide_eq_false (by omega)
     ·rw [heq];exact decide_eq_false (by omega)
  ·rw [show decide ((rat a).den≠1)=true from decide_eq_true h1] at hs
   rw [if_neg (fun q=>h1 q.1),if_neg h1]
   exact wL a _ _ _ w hk hs
 ·rw [if_neg h,if_neg h]
  exact zf a _ w (aQ h).1 (aQ h).2 hk
end
end Go.Proofs.YtocalfjfjjljnaaGreatDoor
