/- Parts of the proof of the text YtocalfjfjjljnaaGreatDoorZO44. -/
import Derived.Test.YtocalfjfjjljnaaGreatDoorZO1
import Derived.Test.YtocalfjfjjljnaaGreatDoorZO40
set_option linter.all false
set_option maxRecDepth 100000
set_option maxHeartbeats 8000000
namespace Go.Proofs.YtocalfjfjjljnaaGreatDoor.T
open Go.Proofs.YtocalfjfjjljnaaGreatDoor Go Go.RowKit
theorem zt (a:ByteArray) (E:Int) (w:World) (e0:(E==0)=false) (e1:(E != 0)=true)
  (h1:∀ W,Below w.heap.size w W→Calls Tryz.prog 17 #[.string a] W fun e W'=>e = .returned (.int .i64 E)∧Below W.heap.size W W')
  : Calls Tryz.prog 6 #[.string a] w fun e W'=>e = .returned (.tuple #[.string ⟨#[]⟩,.int .i64 E])∧Below w.heap.size w W':=by
 have O:=Ha (h1);clear h1
 go_enter Tryz.func6,Tryz.ntmps6
 have HB:=Ha (Below.refl w.heap.size w)
 go_wp2_with fail
 refine (O.out _ HB.out).mono ?_
 rintro e w1 ⟨rfl,b⟩
 replace HB:=Ha (HB.out.trans (b.mono HB.out.size));clear b
 go_wp2
 go_ret2
 exact ⟨rfl,HB.out⟩
theorem zu (a:ByteArray) (w:World) (ha:a.size≤maxLen) (h:ckV a.data.toList≠0) (T:TabM w) :
  Calls Tryz.prog 6 #[.string a] w fun e W'=>e = .returned (.tuple #[.string ⟨#[]⟩,.int .i64 (ckV a.data.toList)])∧Below w.heap.size w W':=by
 obtain ⟨e0,e1⟩:=aQ h
 exact zt a _ w e0 e1 (fun W hW=>tO a W ha (T.next hW))
def mA (c:UInt8):Bool:=(97≤c.toNat && c.toNat≤122) || (65≤c.toNat && c.toNat≤90) || (48≤c.toNat && c.toNat≤57)
theorem gz (c:UInt8):mA c=true↔(97≤c.toNat∧c.toNat≤122)∨(65≤c.toNat∧c.toNat≤90)∨(48≤c.toNat∧c.toNat≤57):=by
 unfold mA
 simp [Bool.or_eq_true,Bool.and_eq_true,or_assoc]
def nmR (s:ByteArray):Bool:=decide (0<s.size) && decide (s.size≤16) && s.data.toList.all mA
theorem Cc (s:ByteArray) (w:World) (hs:s.size≤100000) :
  Calls Tryz.prog 14 #[.string s] w fun e W'=>e = .returned (.bool (nmR s))∧Below w.heap.size w W':=by
 have hm:s.size≤9223372036854775807:=by omega
 clear hs
 go_enter Tryz.func14,Tryz.ntmps14
 go_wp2
 go_loop [3] (fun i=>∃ k:Nat,k≤s.size∧i = .int .i64 k∧Hid ((s.data.toList.take k).all mA=true)) (fun i=>s.size - (intOf i).toNat)
 case atStart=>exact ⟨0,Nat.zero_le _,rfl,rfl⟩
 case round =>
  obtain ⟨k,hk,rfl,hd⟩:=hrel
  by_cases hlt:k<s.size
  ·have good:mA s[k]=true→Hid ((s.data.toList.take (k+1)).all mA=true):=fun h=>by
    show (s.data.toList.take (k+1)).all mA=true
    rw [a8 s k hlt,List.all_append,hd.out]
    simp [h]
   have bad:mA s[k]=false→Hid (nmR s=false):=fun h=>by
    have:s.data.toList.all mA=false:=by
     rw [List.all_eq_false]
     exact ⟨s[k],List.getElem_mem (show k<s.data.toList.length from hlt),by simp [h]⟩
    show nmR s=false
    unfold nmR
    rw [this,Bool.and_false]
   have cs:(s[k].toNat:Int)<48∨(48≤(s[k].toNat:Int)∧(s[k].toNat:Int)≤57)∨(57<(s[k].toNat:Int)∧(s[k].toNat:Int)<65)∨(65≤(s[k].toNat:Int)∧(s[k].toNat:Int)≤90)∨(90<(s[k].toNat:Int)∧(s[k].toNat:Int)<97)∨(97≤(s[k].toNat:Int)∧(s[k].toNat:Int)≤122)∨122<(s[k].toNat:Int):=by omega
   clear hd
   rcases cs with q | q | q | q | q | q | q
   ·have f0:(s[k].toNat:Int)<97:=by omega
    have f1:¬ (122:Int)<(s[k].toNat:Int):=by omega
    have f2:(s[k].toNat:Int)<65:=by omega
    have f3:¬ (90:Int)<(s[k].toNat:Int):=by omega
    have f4:(s[k].toNat:Int)<48:=by omega
    have f5:¬ (57:Int)<(s[k].toNat:Int):=by omega
    have L:=bad (by rw [←Bool.not_eq_true,gz];omega)
    clear good bad q
    go_wp2
    go_ret
    exact ⟨by rw [L.out];rfl,Below.refl _ _⟩
   ·have f0:(s[k].toNat:Int)<97:=by omega
    have f1:¬ (122:Int)<(s[k].toNat:Int):=by omega
    have f2:(s[k].toNat:Int)<65:=by omega
    have f3:¬ (90:Int)<(s[k].toNat:Int):=by omega
    have f4:¬ (s[k].toNat:Int)<48:=by omega
    have f5:¬ (57:Int)<(s[k].toNat:Int):=by omega
    have L:=good ((gz _).2 (by omega))
    clear good bad q
    go_wp2
    go_round
    case rel=>exact ⟨k+1,by omega,by go_num,L⟩
    case measure=>simp [intOf];omega
   ·have f0:(s[k].toNat:Int)<97:=by omega
    have f1:¬ (122:Int)<(s[k].toNat:Int):=by omega
    have f2:(s[k].toNat:Int)<65:=by omega
    have f3:¬ (90:Int)<(s[k].toNat:Int):=by omega
    have f4:¬ (s[k].toNat:Int)<48:=by omega
    have f5:(57:Int)<(s[k].toNat:Int):=by omega
    have L:=bad (by rw [←Bool.not_eq_true,gz];omega)
    clear good bad q
    go_wp2
    go_ret
    exact ⟨by rw [L.out];rfl,Below.refl _ _⟩
   ·have f0:(s[k].toNat:Int)<97:=by omega
    have f1:¬ (122:Int)<(s[k].toNat:Int):=by omega
    have f2:¬ (s[k].toNat:Int)<65:=by omega
    have f3:¬ (90:Int)<(s[k].toNat:Int):=by omega
    have f4:¬ (s[k].toNat:Int)<48:=by omega
    have f5:(57:Int)<(s[k].toNat:Int):=by omega
    have L:=good ((gz _).2 (by omega))
    clear good bad q
    go_wp2
    go_round
    case rel=>exact ⟨k+1,by omega,by go_num,L⟩
    case measure=>simp [intOf];omega
   ·have f0:(s[k].toNat:Int)<97:=by omega
    have f1:¬ (122:Int)<(s[k].toNat:Int):=by omega
    have f2:¬ (s[k].toNat:Int)<65:=by omega
    have f3:(90:Int)<(s[k].toNat:Int):=by omega
    have f4:¬ (s[k].toNat:Int)<48:=by omega
    have f5:(57:Int)<(s[k].toNat:Int):=by omega
    have L:=bad (by rw [←Bool.not_eq_true,gz];omega)
    clear good bad q
    go_wp2
    go_ret
    exact ⟨by rw [L.out];rfl,Below.refl _ _⟩
   ·have f0:¬ (s[k].toNat:Int)<97:=by omega
    have f1:¬ (122:Int)<(s[k].toNat:Int):=by omega
    have f2:¬ (s[k].toNat:Int)<65:=by omega
    have f3:(90:Int)<(s[k].toNat:Int):=by omega
    have f4:¬ (s[k].toNat:Int)<48:=by omega
    have f5:(57:Int)<(s[k].toNat:Int):=by omega
    have L:=good ((gz _).2 (by omega))
    clear good bad q
    go_wp2
    go_round
    case rel=>exact ⟨k+1,by omega,by go_num,L⟩
    case measure=>simp [intOf];omega
   ·have f0:¬ (s[k].toNat:Int)<97:=by omega
    have f1:(122:Int)<(s[k].toNat:Int):=by omega
    have f2:¬ (s[k].toNat:Int)<65:=by omega
    have f3:(90:Int)<(s[k].toNat:Int):=by omega
    have f4:¬ (s[k].toNat:Int)<48:=by omega
    have f5:(57:Int)<(s[k].toNat:Int):=by omega
    have L:=bad (by rw [←Bool.not_eq_true,gz];omega)
    clear good bad q
    go_wp2
    go_ret
    exact ⟨by rw [L.out];rfl,Below.refl _ _⟩
  ·have hA:s.data.toList.all mA=true:=by
    have:=hd.out
    rw [List.take_of_length_le (show s.data.toList.length≤k by show s.size≤k;omega)] at this
    exact this
   have fin:∀ b c:Bool,decide (0<s.size)=b→decide (s.size≤16)=c→Hid (nmR s=(b && c)):=fun b c h1 h2=>by
    show nmR s=_
    unfold nmR
    rw [h1,h2,hA,Bool.and_true]
   clear hd hA
   by_cases h0:(0:Int)<s.size
   ·by_cases h1:(s.size:Int)≤16
    ·have hf:=fin true true (decide_eq_true (by omega)) (decide_eq_true (by omega))
     clear fin
     go_wp2
     go_ret
     exact ⟨by rw [hf.out];rfl,Below.refl _ _⟩
    ·have hf:=fin true false (decide_eq_true (by omega)) (decide_eq_false (by omega))
     clear fin
     go_wp2
     go_ret
     exact ⟨by rw [hf.out];rfl,Below.refl _ _⟩
   ·have h2:s.size=0:=by omega
    have hf:=fin false true (decide_eq_false (by omega)) (decide_eq_true (by omega))
    clear fin
    go_wp2
    go_ret
    exact ⟨by rw [hf.out];rfl,Below.refl _ _⟩
end Go.Proofs.YtocalfjfjjljnaaGreatDoor.T
