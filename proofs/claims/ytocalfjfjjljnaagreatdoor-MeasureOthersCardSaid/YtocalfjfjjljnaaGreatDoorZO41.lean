/- Parts of the proof of the text YtocalfjfjjljnaaGreatDoorZO44. -/
import Derived.Test.YtocalfjfjjljnaaGreatDoorZO1
import Derived.Test.YtocalfjfjjljnaaGreatDoorZO40
set_option linter.all false
set_option maxRecDepth 100000
set_option maxHeartbeats 8000000
namespace Go.Proofs.YtocalfjfjjljnaaGreatDoor.T
open Go.Proofs.YtocalfjfjjljnaaGreatDoor Go Go.RowKit
theorem A3 (s z:ByteArray) (n:Nat) (w:World) (s1:¬ (90:Int)<s.size) (hp:0<s.size) (h45:((s[0].toNat:Int)==45)=false) (hE:s.toList.isEmpty=false) (b0:(0:Int)≤(n:Int)) (b1:(n:Int)≤(s.size:Int)) (n0:((n:Int)==0)=true)
  (h1:∀ W,Below w.heap.size w W→Calls Tryz.prog 30 #[.string s] W fun e W'=>e = .returned (.int .i64 n)∧Below W.heap.size W W')
  : Calls Tryz.prog 9 #[.string s] w fun e W'=>e = .returned (.tuple #[.string ⟨#[]⟩,.int .i64 3])∧Below w.heap.size w W':=by
 have O:=Ha (h1);clear h1
 have hm9:s.size≤9223372036854775807:=by omega
 go_enter Tryz.func9,Tryz.ntmps9
 have HB:=Ha (Below.refl w.heap.size w)
 go_wp2_with fail
 refine (O.out _ HB.out).mono ?_
 rintro e w1 ⟨rfl,b⟩
 replace HB:=Ha (HB.out.trans (b.mono HB.out.size));clear b
 go_wp2
 go_ret2
 exact ⟨rfl,HB.out⟩
theorem A4 (s z:ByteArray) (n:Nat) (w:World) (s1:¬ (90:Int)<s.size) (hp:0<s.size) (h45:((s[0].toNat:Int)==45)=false) (hE:s.toList.isEmpty=false) (b0:(0:Int)≤(n:Int)) (b1:(n:Int)≤(s.size:Int)) (n0:((n:Int)==0)=false) (n1:((n:Int)==s.size)=true)
  (h1:∀ W,Below w.heap.size w W→Calls Tryz.prog 30 #[.string s] W fun e W'=>e = .returned (.int .i64 n)∧Below W.heap.size W W')
  : Calls Tryz.prog 9 #[.string s] w fun e W'=>e = .returned (.tuple #[.string ⟨#[]⟩,.int .i64 3])∧Below w.heap.size w W':=by
 have O:=Ha (h1);clear h1
 have hm9:s.size≤9223372036854775807:=by omega
 go_enter Tryz.func9,Tryz.ntmps9
 have HB:=Ha (Below.refl w.heap.size w)
 go_wp2_with fail
 refine (O.out _ HB.out).mono ?_
 rintro e w1 ⟨rfl,b⟩
 replace HB:=Ha (HB.out.trans (b.mono HB.out.size));clear b
 go_wp2
 go_ret2
 exact ⟨rfl,HB.out⟩
theorem A5 (s z:ByteArray) (n:Nat) (w:World) (s1:¬ (90:Int)<s.size) (hp:0<s.size) (h45:((s[0].toNat:Int)==45)=false) (hE:s.toList.isEmpty=false) (b0:(0:Int)≤(n:Int)) (b1:(n:Int)≤(s.size:Int)) (n0:((n:Int)==0)=false) (n1:((n:Int)==s.size)=false) (nl:n<s.size) (nli:(n:Int)<s.size) (c:UInt8) (hc:s[n]=c) (c0:((c.toNat:Int) != 39)=true)
  (h1:∀ W,Below w.heap.size w W→Calls Tryz.prog 30 #[.string s] W fun e W'=>e = .returned (.int .i64 n)∧Below W.heap.size W W')
  : Calls Tryz.prog 9 #[.string s] w fun e W'=>e = .returned (.tuple #[.string ⟨#[]⟩,.int .i64 3])∧Below w.heap.size w W':=by
 have O:=Ha (h1);clear h1
 have hm9:s.size≤9223372036854775807:=by omega
 go_enter Tryz.func9,Tryz.ntmps9
 have HB:=Ha (Below.refl w.heap.size w)
 go_wp2_with fail
 refine (O.out _ HB.out).mono ?_
 rintro e w1 ⟨rfl,b⟩
 replace HB:=Ha (HB.out.trans (b.mono HB.out.size));clear b
 go_wp2
 go_ret2
 exact ⟨rfl,HB.out⟩
theorem A6 (s z:ByteArray) (n:Nat) (w:World) (s1:¬ (90:Int)<s.size) (hp:0<s.size) (h45:((s[0].toNat:Int)==45)=false) (hE:s.toList.isEmpty=false) (b0:(0:Int)≤(n:Int)) (b1:(n:Int)≤(s.size:Int)) (n0:((n:Int)==0)=false) (n1:((n:Int)==s.size)=false) (nl:n<s.size) (nli:(n:Int)<s.size) (c:UInt8) (hc:s[n]=c) (c0:((c.toNat:Int) != 39)=false) (m1:(1:Int)<n) (p0:0<s.size) (l0:((s[0].toNat:Int)==48)=true)
  (h1:∀ W,Below w.heap.size w W→Calls Tryz.prog 30 #[.string s] W fun e W'=>e = .returned (.int .i64 n)∧Below W.heap.size W W')
  : Calls Tryz.prog 9 #[.string s] w fun e W'=>e = .returned (.tuple #[.string ⟨#[]⟩,.int .i64 3])∧Below w.heap.size w W':=by
 have O:=Ha (h1);clear h1
 have hm9:s.size≤9223372036854775807:=by omega
 go_enter Tryz.func9,Tryz.ntmps9
 have HB:=Ha (Below.refl w.heap.size w)
 go_wp2_with fail
 refine (O.out _ HB.out).mono ?_
 rintro e w1 ⟨rfl,b⟩
 replace HB:=Ha (HB.out.trans (b.mono HB.out.size));clear b
 go_wp2
 go_ret2
 exact ⟨rfl,HB.out⟩
theorem A7 (s z:ByteArray) (n:Nat) (w:World) (s1:¬ (90:Int)<s.size) (hp:0<s.size) (h45:((s[0].toNat:Int)==45)=false) (hE:s.toList.isEmpty=false) (b0:(0:Int)≤(n:Int)) (b1:(n:Int)≤(s.size:Int)) (n0:((n:Int)==0)=false) (n1:((n:Int)==s.size)=false) (nl:n<s.size) (nli:(n:Int)<s.size) (c:UInt8) (hc:s[n]=c) (c0:((c.toNat:Int) != 39)=false) (p0:0<s.size) (hF:¬ (1:Int)<n∨(1:Int)<n∧((s[0].toNat:Int)==48)=false) (D R:ByteArray) (fD:s.extract 0 n=D) (q:Nat) (en:(n:Int)+1=(q:Int)) (b2:(q:Int)≤s.size) (b5:(0:Int)≤(q:Int)) (fR:s.extract q s.size=R) (i m:Nat) (m0:((m:Int)==0)=true)
  (h1:∀ W,Below w.heap.size w W→Calls Tryz.prog 30 #[.string s] W fun e W'=>e = .returned (.int .i64 n)∧Below W.heap.size W W')
  (h2:∀ W,Below w.heap.size w W→Calls Tryz.prog 31 #[.string R] W fun e W'=>e = .returned (.tuple #[.int .i64 i,.int .i64 m])∧Below W.heap.size W W')
  : Calls Tryz.prog 9 #[.string s] w fun e W'=>e = .returned (.tuple #[.string ⟨#[]⟩,.int .i64 3])∧Below w.heap.size w W':=by
 have O:=Ha (Hb h1 (h2));clear h1 h2
 have hm9:s.size≤9223372036854775807:=by omega
 rcases hF with m1 | ⟨m1,l0⟩ <;> (
  go_enter Tryz.func9,Tryz.ntmps9
  have HB:=Ha (Below.refl w.heap.size w)
  go_wp2_with fail
  refine (O.out.1 _ HB.out).mono ?_
  rintro e w1 ⟨rfl,b⟩
  replace HB:=Ha (HB.out.trans (b.mono HB.out.size));clear b
  go_wp2
  go_quiet (fail)
  go_wp2_with fail
  refine (O.out.2 _ (below_drewN HB.out _)).mono ?_
  rintro e w2 ⟨rfl,b⟩
  replace HB:=Ha ((below_drewN HB.out _).trans (b.mono (below_drewN HB.out _).size));clear b
  go_wp2
  go_ret2
  exact ⟨rfl,HB.out⟩)
theorem A8 (s z:ByteArray) (n:Nat) (w:World) (s1:¬ (90:Int)<s.size) (hp:0<s.size) (h45:((s[0].toNat:Int)==45)=false) (hE:s.toList.isEmpty=false) (b0:(0:Int)≤(n:Int)) (b1:(n:Int)≤(s.size:Int)) (n0:((n:Int)==0)=false) (n1:((n:Int)==s.size)=false) (nl:n<s.size) (nli:(n:Int)<s.size) (c:UInt8) (hc:s[n]=c) (c0:((c.toNat:Int) != 39)=false) (p0:0<s.size) (hF:¬ (1:Int)<n∨(1:Int)<n∧((s[0].toNat:Int)==48)=false) (D R:ByteArray) (fD:s.extract 0 n=D) (q:Nat) (en:(n:Int)+1=(q:Int)) (b2:(q:Int)≤s.size) (b5:(0:Int)≤(q:Int)) (fR:s.extract q s.size=R) (i m:Nat) (m0:((m:Int)==0)=false) (r9:R.size≤90) (b3:(m:Int)≤R.size) (m2:((m:Int)==R.size)=true)
  (h1:∀ W,Below w.heap.size w W→Calls Tryz.prog 30 #[.string s] W fun e W'=>e = .returned (.int .i64 n)∧Below W.heap.size W W')
  (h2:∀ W,Below w.heap.size w W→Calls Tryz.prog 31 #[.string R] W fun e W'=>e = .returned (.tuple #[.int .i64 i,.int .i64 m])∧Below W.heap.size W W')
  : Calls Tryz.prog 9 #[.string s] w fun e W'=>e = .returned (.tuple #[.string ⟨#[]⟩,.int .i64 3])∧Below w.heap.size w W':=by
 have O:=Ha (Hb h1 (h2));clear h1 h2
 have hm9:s.size≤9223372036854775807:=by omega
 have hr9:R.size≤9223372036854775807:=by omega
 rcases hF with m1 | ⟨m1,l0⟩ <;> (
  go_enter Tryz.func9,Tryz.ntmps9
  have HB:=Ha (Below.refl w.heap.size w)
  go_wp2_with fail
  refine (O.out.1 _ HB.out).mono ?_
  rintro e w1 ⟨rfl,b⟩
  replace HB:=Ha (HB.out.trans (b.mono HB.out.size));clear b
  go_wp2
  go_quiet (fail)
  go_wp2_with fail
  refine (O.out.2 _ (below_drewN HB.out _)).mono ?_
  rintro e w2 ⟨rfl,b⟩
  replace HB:=Ha ((below_drewN HB.out _).trans (b.mono (below_drewN HB.out _).size));clear b
  go_wp2
  go_ret2
  exact ⟨rfl,HB.out⟩)
theorem A9 (s z:ByteArray) (n:Nat) (w:World) (s1:¬ (90:Int)<s.size) (hp:0<s.size) (h45:((s[0].toNat:Int)==45)=false) (hE:s.toList.isEmpty=false) (b0:(0:Int)≤(n:Int)) (b1:(n:Int)≤(s.size:Int)) (n0:((n:Int)==0)=false) (n1:((n:Int)==s.size)=false) (nl:n<s.size) (nli:(n:Int)<s.size) (c:UInt8) (hc:s[n]=c) (c0:((c.toNat:Int) != 39)=false) (p0:0<s.size) (hF:¬ (1:Int)<n∨(1:Int)<n∧((s[0].toNat:Int)==48)=false) (D R:ByteArray) (fD:s.extract 0 n=D) (q:Nat) (en:(n:Int)+1=(q:Int)) (b2:(q:Int)≤s.size) (b5:(0:Int)≤(q:Int)) (fR:s.extract q s.size=R) (i m:Nat) (m0:((m:Int)==0)=false) (r9:R.size≤90) (b3:(m:Int)≤R.size) (m2:((m:Int)==R.size)=false) (ml:m<R.size) (mli:(m:Int)<R.size) (d:UInt8) (hd:R[m]=d) (d0:((d.toNat:Int) != 34)=true)
  (h1:∀ W,Below w.heap.size w W→Calls Tryz.prog 30 #[.string s] W fun e W'=>e = .returned (.int .i64 n)∧Below W.heap.size W W')
  (h2:∀ W,Below w.heap.size w W→Calls Tryz.prog 31 #[.string R] W fun e W'=>e = .returned (.tuple #[.int .i64 i,.int .i64 m])∧Below W.heap.size W W')
  : Calls Tryz.prog 9 #[.string s] w fun e W'=>e = .returned (.tuple #[.string ⟨#[]⟩,.int .i64 3])∧Below w.heap.size w W':=by
 have O:=Ha (Hb h1 (h2));clear h1 h2
 have hm9:s.size≤9223372036854775807:=by omega
 have hr9:R.size≤9223372036854775807:=by omega
 rcases hF with m1 | ⟨m1,l0⟩ <;> (
  go_enter Tryz.func9,Tryz.ntmps9
  have HB:=Ha (Below.refl w.heap.size w)
  go_wp2_with fail
  refine (O.out.1 _ HB.out).mono ?_
  rintro e w1 ⟨rfl,b⟩
  replace HB:=Ha (HB.out.trans (b.mono HB.out.size));clear b
  go_wp2
  go_quiet (fail)
  go_wp2_with fail
  refine (O.out.2 _ (below_drewN HB.out _)).mono ?_
  rintro e w2 ⟨rfl,b⟩
  replace HB:=Ha ((below_drewN HB.out _).trans (b.mono (below_drewN HB.out _).size));clear b
  go_wp2
  go_ret2
  exact ⟨rfl,HB.out⟩)
theorem Bc (s z:ByteArray) (n:Nat) (w:World) (s1:¬ (90:Int)<s.size) (hp:0<s.size) (h45:((s[0].toNat:Int)==45)=false) (hE:s.toList.isEmpty=false) (b0:(0:Int)≤(n:Int)) (b1:(n:Int)≤(s.size:Int)) (n0:((n:Int)==0)=false) (n1:((n:Int)==s.size)=false) (nl:n<s.size) (nli:(n:Int)<s.size) (c:UInt8) (hc:s[n]=c) (c0:((c.toNat:Int) != 39)=false) (p0:0<s.size) (hF:¬ (1:Int)<n∨(1:Int)<n∧((s[0].toNat:Int)==48)=false) (D R:ByteArray) (fD:s.extract 0 n=D) (q:Nat) (en:(n:Int)+1=(q:Int)) (b2:(q:Int)≤s.size) (b5:(0:Int)≤(q:Int)) (fR:s.extract q s.size=R) (i m:Nat) (m0:((m:Int)==0)=false) (r9:R.size≤90) (b3:(m:Int)≤R.size) (m2:((m:Int)==R.size)=false) (ml:m<R.size) (mli:(m:Int)<R.size) (d:UInt8) (hd:R[m]=d) (d0:((d.toNat:Int) != 34)=false) (r:ByteArray) (t:Nat) (em:(m:Int)+1=(t:Int)) (b4:(t:Int)≤R.size) (b6:(0:Int)≤(t:Int)) (fr:R.extract t R.size=r) (j k:Nat) (k0:((k:Int)==0)=true)
  (h1:∀ W,Below w.heap.size w W→Calls Tryz.prog 30 #[.string s] W fun e W'=>e = .returned (.int .i64 n)∧Below W.heap.size W W')
  (h2:∀ W,Below w.heap.size w W→Calls Tryz.prog 31 #[.string R] W fun e W'=>e = .returned (.tuple #[.int .i64 i,.int .i64 m])∧Below W.heap.size W W')
  (h3:∀ W,Below w.heap.size w W→Calls Tryz.prog 31 #[.string r] W fun e W'=>e = .returned (.tuple #[.int .i64 j,.int .i64 k])∧Below W.heap.size W W')
  : Calls Tryz.prog 9 #[.string s] w fun e W'=>e = .returned (.tuple #[.string ⟨#[]⟩,.int .i64 3])∧Below w.heap.size w W':=by
 have O:=Ha (Hb h1 (Hb h2 (h3)));clear h1 h2 h3
 have hm9:s.size≤9223372036854775807:=by omega
 have hr9:R.size≤9223372036854775807:=by omega
 rcases hF with m1 | ⟨m1,l0⟩ <;> (
  go_enter Tryz.func9,Tryz.ntmps9
  have HB:=Ha (Below.refl w.heap.size w)
  go_wp2_with fail
  refine (O.out.1 _ HB.out).mono ?_
  rintro e w1 ⟨rfl,b⟩
  replace HB:=Ha (HB.out.trans (b.mono HB.out.size));clear b
  go_wp2
  go_quiet (fail)
  go_wp2_with fail
  refine (O.out.2.1 _ (below_drewN HB.out _)).mono ?_
  rintro e w2 ⟨rfl,b⟩
  replace HB:=Ha ((below_drewN HB.out _).trans (b.mono (below_drewN HB.out _).size));clear b
  go_wp2_with fail
  refine (O.out.2.2 _ HB.out).mono ?_
  rintro e w3 ⟨rfl,b⟩
  replace HB:=Ha (HB.out.trans (b.mono HB.out.size));clear b
  go_wp2
  go_ret2
  exact ⟨rfl,HB.out⟩)
theorem Be (s z:ByteArray) (n:Nat) (w:World) (s1:¬ (90:Int)<s.size) (hp:0<s.size) (h45:((s[0].toNat:Int)==45)=false) (hE:s.toList.isEmpty=false) (b0:(0:Int)≤(n:Int)) (b1:(n:Int)≤(s.size:Int)) (n0:((n:Int)==0)=false) (n1:((n:Int)==s.size)=false) (nl:n<s.size) (nli:(n:Int)<s.size) (c:UInt8) (hc:s[n]=c) (c0:((c.toNat:Int) != 39)=false) (p0:0<s.size) (hF:¬ (1:Int)<n∨(1:Int)<n∧((s[0].toNat:Int)==48)=false) (D R:ByteArray) (fD:s.extract 0 n=D) (q:Nat) (en:(n:Int)+1=(q:Int)) (b2:(q:Int)≤s.size) (b5:(0:Int)≤(q:Int)) (fR:s.extract q s.size=R) (i m:Nat) (m0:((m:Int)==0)=false) (r9:R.size≤90) (b3:(m:Int)≤R.size) (m2:((m:Int)==R.size)=false) (ml:m<R.size) (mli:(m:Int)<R.size) (d:UInt8) (hd:R[m]=d) (d0:((d.toNat:Int) != 34)=false) (r:ByteArray) (t:Nat) (em:(m:Int)+1=(t:Int)) (b4:(t:Int)≤R.size) (b6:(0:Int)≤(t:Int)) (fr:R.extract t R.size=r) (j k:Nat) (k0:((k:Int)==0)=false) (k1:(k:Int)<r.size)
  (h1:∀ W,Below w.heap.size w W→Calls Tryz.prog 30 #[.string s] W fun e W'=>e = .returned (.int .i64 n)∧Below W.heap.size W W')
  (h2:∀ W,Below w.heap.size w W→Calls Tryz.prog 31 #[.string R] W fun e W'=>e = .returned (.tuple #[.int .i64 i,.int .i64 m])∧Below W.heap.size W W')
  (h3:∀ W,Below w.heap.size w W→Calls Tryz.prog 31 #[.string r] W fun e W'=>e = .returned (.tuple #[.int .i64 j,.int .i64 k])∧Below W.heap.size W W')
  : Calls Tryz.prog 9 #[.string s] w fun e W'=>e = .returned (.tuple #[.string ⟨#[]⟩,.int .i64 3])∧Below w.heap.size w W':=by
 have O:=Ha (Hb h1 (Hb h2 (h3)));clear h1 h2 h3
 have hm9:s.size≤9223372036854775807:=by omega
 have hr9:R.size≤9223372036854775807:=by omega
 rcases hF with m1 | ⟨m1,l0⟩ <;> (
  go_enter Tryz.func9,Tryz.ntmps9
  have HB:=Ha (Below.refl w.heap.size w)
  go_wp2_with fail
  refine (O.out.1 _ HB.out).mono ?_
  rintro e w1 ⟨rfl,b⟩
  replace HB:=Ha (HB.out.trans (b.mono HB.out.size));clear b
  go_wp2
  go_quiet (fail)
  go_wp2_with fail
  refine (O.out.2.1 _ (below_drewN HB.out _)).mono ?_
  rintro e w2 ⟨rfl,b⟩
  replace HB:=Ha ((below_drewN HB.out _).trans (b.mono (below_drewN HB.out _).size));clear b
  go_wp2_with fail
  refine (O.out.2.2 _ HB.out).mono ?_
  rintro e w3 ⟨rfl,b⟩
  replace HB:=Ha (HB.out.trans (b.mono HB.out.size));clear b
  go_wp2
  go_ret2
  exact ⟨rfl,HB.out⟩)
theorem Dd (s z:ByteArray) (n:Nat) (w:World) (s1:¬ (90:Int)<s.size) (hp:0<s.size) (h45:((s[0].toNat:Int)==45)=false) (hE:s.toList.isEmpty=false) (b0:(0:Int)≤(n:Int)) (b1:(n:Int)≤(s.size:Int)) (n0:((n:Int)==0)=false) (n1:((n:Int)==s.size)=false) (nl:n<s.size) (nli:(n:Int)<s.size) (c:UInt8) (hc:s[n]=c) (c0:((c.toNat:Int) != 39)=false) (p0:0<s.size) (hF:¬ (1:Int)<n∨(1:Int)<n∧((s[0].toNat:Int)==48)=false) (D R:ByteArray) (fD:s.extract 0 n=D) (q:Nat) (en:(n:Int)+1=(q:Int)) (b2:(q:Int)≤s.size) (b5:(0:Int)≤(q:Int)) (fR:s.extract q s.size=R) (i m:Nat) (m0:((m:Int)==0)=false) (r9:R.size≤90) (b3:(m:Int)≤R.size) (m2:((m:Int)==R.size)=false) (ml:m<R.size) (mli:(m:Int)<R.size) (d:UInt8) (hd:R[m]=d) (d0:((d.toNat:Int) != 34)=false) (r:ByteArray) (t:Nat) (em:(m:Int)+1=(t:Int)) (b4:(t:Int)≤R.size) (b6:(0:Int)≤(t:Int)) (fr:R.extract t R.size=r) (j k:Nat) (k0:((k:Int)==0)=false) (k1:¬ (k:Int)<r.size) (i1:i≤11) (j1:j≤11) (P A U B C:ByteArray) (x:Int) (hU:(U.toList == [48])=false)
  (h1:∀ W,Below w.heap.size w W→Calls Tryz.prog 30 #[.string s] W fun e W'=>e = .returned (.int .i64 n)∧Below W.heap.size W W')
  (h2:∀ W,Below w.heap.size w W→Calls Tryz.prog 31 #[.string R] W fun e W'=>e = .returned (.tuple #[.int .i64 i,.int .i64 m])∧Below W.heap.size W W')
  (h3:∀ W,Below w.heap.size w W→Calls Tryz.prog 31 #[.string r] W fun e W'=>e = .returned (.tuple #[.int .i64 j,.int .i64 k])∧Below W.heap.size W W')
  (h4:∀ W,Below w.heap.size w W→Calls Tryz.prog 25 #[.string D,.string ⟨#[49,52,52]⟩] W fun e W'=>e = .returned (.string P)∧Below W.heap.size W W')
  (h5:∀ q:Int,q=12*(i:Int)+(j:Int)→∀ W,Below w.heap.size w W→Calls Tryz.prog 27 #[.int .i64 q] W fun e W'=>e = .returned (.string A)∧Below W.heap.size W W')
  (h6:∀ W,Below w.heap.size w W→Calls Tryz.prog 32 #[.string P,.string A] W fun e W'=>e = .returned (.tuple #[.string U,.int .i64 x])∧Below W.heap.size W W')
  (h7:∀ W,Below w.heap.size w W→Calls Tryz.prog 25 #[.string ⟨#[49]⟩,.string U] W fun e W'=>e = .returned (.string B)∧Below W.heap.size W W')
  (h8:∀ W,Below w.heap.size w W→Calls Tryz.prog 25 #[.string B,.string ⟨#[49,50,55,47,54,48]⟩] W fun e W'=>e = .returned (.string C)∧Below W.heap.size W W')
  : Calls Tryz.prog 9 #[.string s] w fun e W'=>e = .returned (.tuple #[.string C,.int .i64 0])∧Below w.heap.size w W':=by
 have O:=Ha (Hb h1 (Hb h2 (Hb h3 (Hb h4 (Hb h5 (Hb h6 (Hb h7 (h8))))))));clear h1 h2 h3 h4 h5 h6 h7 h8
 have hm9:s.size≤9223372036854775807:=by omega
 have hr9:R.size≤9223372036854775807:=by omega
 rcases hF with m1 | ⟨m1,l0⟩ <;> (
  go_enter Tryz.func9,Tryz.ntmps9
  have HB:=Ha (Below.refl w.heap.size w)
  go_wp2_with fail
  refine (O.out.1 _ HB.out).mono ?_
  rintro e w1 ⟨rfl,b⟩
  replace HB:=Ha (HB.out.trans (b.mono HB.out.size));clear b
  go_wp2
  go_quiet (fail)
  go_wp2_with fail
  refine (O.out.2.1 _ (below_drewN HB.out _)).mono ?_
  rintro e w2 ⟨rfl,b⟩
  replace HB:=Ha ((below_drewN HB.out _).trans (b.mono (below_drewN HB.out _).size));clear b
  go_wp2_with fail
  refine (O.out.2.2.1 _ HB.out).mono ?_
  rintro e w3 ⟨rfl,b⟩
  replace HB:=Ha (HB.out.trans (b.mono HB.out.size));clear b
  go_wp2_with fail
  refine (O.out.2.2.2.1 _ HB.out).mono ?_
  rintro e w4 ⟨rfl,b⟩
  replace HB:=Ha (HB.out.trans (b.mono HB.out.size));clear b
  go_wp2_with fail
  refine (O.out.2.2.2.2.1 _ (by omega) _ HB.out).mono ?_
  rintro e w5 ⟨rfl,b⟩
  replace HB:=Ha (HB.out.trans (b.mono HB.out.size));clear b
  go_wp2_with fail
  refine (O.out.2.2.2.2.2.1 _ HB.out).mono ?_
  rintro e w6 ⟨rfl,b⟩
  replace HB:=Ha (HB.out.trans (b.mono HB.out.size));clear b
  go_wp2_with fail
  refine (O.out.2.2.2.2.2.2.1 _ HB.out).mono ?_
  rintro e w7 ⟨rfl,b⟩
  replace HB:=Ha (HB.out.trans (b.mono HB.out.size));clear b
  go_wp2_with fail
  refine (O.out.2.2.2.2.2.2.2 _ HB.out).mono ?_
  rintro e w8 ⟨rfl,b⟩
  replace HB:=Ha (HB.out.trans (b.mono HB.out.size));clear b
  go_wp2
  go_ret2
  exact ⟨rfl,HB.out⟩)
theorem De (s z:ByteArray) (n:Nat) (w:World) (s1:¬ (90:Int)<s.size) (hp:0<s.size) (h45:((s[0].toNat:Int)==45)=false) (hE:s.toList.isEmpty=false) (b0:(0:Int)≤(n:Int)) (b1:(n:Int)≤(s.size:Int)) (n0:((n:Int)==0)=false) (n1:((n:Int)==s.size)=false) (nl:n<s.size) (nli:(n:Int)<s.size) (c:UInt8) (hc:s[n]=c) (c0:((c.toNat:Int) != 39)=false) (p0:0<s.size) (hF:¬ (1:Int)<n∨(1:Int)<n∧((s[0].toNat:Int)==48)=false) (D R:ByteArray) (fD:s.extract 0 n=D) (q:Nat) (en:(n:Int)+1=(q:Int)) (b2:(q:Int)≤s.size) (b5:(0:Int)≤(q:Int)) (fR:s.extract q s.size=R) (i m:Nat) (m0:((m:Int)==0)=false) (r9:R.size≤90) (b3:(m:Int)≤R.size) (m2:((m:Int)==R.size)=false) (ml:m<R.size) (mli:(m:Int)<R.size) (d:UInt8) (hd:R[m]=d) (d0:((d.toNat:Int) != 34)=false) (r:ByteArray) (t:Nat) (em:(m:Int)+1=(t:Int)) (b4:(t:Int)≤R.size) (b6:(0:Int)≤(t:Int)) (fr:R.extract t R.size=r) (j k:Nat) (k0:((k:Int)==0)=false) (k1:¬ (k:Int)<r.size) (i1:i≤11) (j1:j≤11) (P A U B C:ByteArray) (x:Int) (hU:(U.toList == [48])=true)
  (h1:∀ W,Below w.heap.size w W→Calls Tryz.prog 30 #[.string s] W fun e W'=>e = .returned (.int .i64 n)∧Below W.heap.size W W')
  (h2:∀ W,Below w.heap.size w W→Calls Tryz.prog 31 #[.string R] W fun e W'=>e = .returned (.tuple #[.int .i64 i,.int .i64 m])∧Below W.heap.size W W')
  (h3:∀ W,Below w.heap.size w W→Calls Tryz.prog 31 #[.string r] W fun e W'=>e = .returned (.tuple #[.int .i64 j,.int .i64 k])∧Below W.heap.size W W')
  (h4:∀ W,Below w.heap.size w W→Calls Tryz.prog 25 #[.string D,.string ⟨#[49,52,52]⟩] W fun e W'=>e = .returned (.string P)∧Below W.heap.size W W')
  (h5:∀ q:Int,q=12*(i:Int)+(j:Int)→∀ W,Below w.heap.size w W→Calls Tryz.prog 27 #[.int .i64 q] W fun e W'=>e = .returned (.string A)∧Below W.heap.size W W')
  (h6:∀ W,Below w.heap.size w W→Calls Tryz.prog 32 #[.string P,.string A] W fun e W'=>e = .returned (.tuple #[.string U,.int .i64 x])∧Below W.heap.size W W')
  (h7:∀ W,Below w.heap.size w W→Calls Tryz.prog 25 #[.string ⟨#[49]⟩,.string U] W fun e W'=>e = .returned (.string B)∧Below W.heap.size W W')
  (h8:∀ W,Below w.heap.size w W→Calls Tryz.prog 25 #[.string B,.string ⟨#[49,50,55,47,54,48]⟩] W fun e W'=>e = .returned (.string C)∧Below W.heap.size W W')
  : Calls Tryz.prog 9 #[.string s] w fun e W'=>e = .returned (.tuple #[.string C,.int .i64 0])∧Below w.heap.size w W':=by
 have O:=Ha (Hb h1 (Hb h2 (Hb h3 (Hb h4 (Hb h5 (Hb h6 (Hb h7 (h8))))))));clear h1 h2 h3 h4 h5 h6 h7 h8
 have hm9:s.size≤9223372036854775807:=by omega
 have hr9:R.size≤9223372036854775807:=by omega
 rcases hF with m1 | ⟨m1,l0⟩ <;> (
  go_enter Tryz.func9,Tryz.ntmps9
  have HB:=Ha (Below.refl w.heap.size w)
  go_wp2_with fail
  refine (O.out.1 _ HB.out).mono ?_
  rintro e w1 ⟨rfl,b⟩
  replace HB:=Ha (HB.out.trans (b.mono HB.out.size));clear b
  go_wp2
  go_quiet (fail)
  go_wp2_with fail
  refine (O.out.2.1 _ (below_drewN HB.out _)).mono ?_
  rintro e w2 ⟨rfl,b⟩
  replace HB:=Ha ((below_drewN HB.out _).trans (b.mono (below_drewN HB.out _).size));clear b
  go_wp2_with fail
  refine (O.out.2.2.1 _ HB.out).mono ?_
  rintro e w3 ⟨rfl,b⟩
  replace HB:=Ha (HB.out.trans (b.mono HB.out.size));clear b
  go_wp2_with fail
  refine (O.out.2.2.2.1 _ HB.out).mono ?_
  rintro e w4 ⟨rfl,b⟩
  replace HB:=Ha (HB.out.trans (b.mono HB.out.size));clear b
  go_wp2_with fail
  refine (O.out.2.2.2.2.1 _ (by omega) _ HB.out).mono ?_
  rintro e w5 ⟨rfl,b⟩
  replace HB:=Ha (HB.out.trans (b.mono HB.out.size));clear b
  go_wp2_with fail
  refine (O.out.2.2.2.2.2.1 _ HB.out).mono ?_
  rintro e w6 ⟨rfl,b⟩
  replace HB:=Ha (HB.out.trans (b.mono HB.out.size));clear b
  go_wp2_with fail
  refine (O.out.2.2.2.2.2.2.1 _ HB.out).mono ?_
  rintro e w7 ⟨rfl,b⟩
  replace HB:=Ha (HB.out.trans (b.mono HB.out.size));clear b
  go_wp2_with fail
  refine (O.out.2.2.2.2.2.2.2 _ HB.out).mono ?_
  rintro e w8 ⟨rfl,b⟩
  replace HB:=Ha (HB.out.trans (b.mono HB.out.size));clear b
  go_wp2
  go_ret2
  exact ⟨rfl,HB.out⟩)
theorem vj (s z:ByteArray) (n:Nat) (w:World) (s1:¬ (90:Int)<s.size) (hp:0<s.size) (h45:((s[0].toNat:Int)==45)=true) (hE:s.toList.isEmpty=false) (ez:s.extract 1 s.size=z) (hs1:(1:Int)≤(s.size:Int)) (z9:z.size≤90) (b0:(0:Int)≤(n:Int)) (b1:(n:Int)≤(z.size:Int)) (n0:((n:Int)==0)=true)
  (h1:∀ W,Below w.heap.size w W→Calls Tryz.prog 30 #[.string z] W fun e W'=>e = .returned (.int .i64 n)∧Below W.heap.size W W')
  : Calls Tryz.prog 9 #[.string s] w fun e W'=>e = .returned (.tuple #[.string ⟨#[]⟩,.int .i64 3])∧Below w.heap.size w W':=by
 have O:=Ha (h1);clear h1
 have hm9:s.size≤9223372036854775807:=by omega
 have hz9:z.size≤9223372036854775807:=by omega
 go_enter Tryz.func9,Tryz.ntmps9
 have HB:=Ha (Below.refl w.heap.size w)
 go_wp2
 have HD:=Ha HB.out.drew;clear HB;have HB:=HD;clear HD
 go_region_held3 (fun _=>True) (first | trivial | (go_keep;done)) (first | fail)
 go_wp2_with fail
 refine (O.out _ HB.out).mono ?_
 rintro e w1 ⟨rfl,b⟩
 replace HB:=Ha (HB.out.trans (b.mono HB.out.size));clear b
 go_wp2
 go_ret2
 exact ⟨rfl,HB.out⟩
theorem Bf (s z:ByteArray) (n:Nat) (w:World) (s1:¬ (90:Int)<s.size) (hp:0<s.size) (h45:((s[0].toNat:Int)==45)=true) (hE:s.toList.isEmpty=false) (ez:s.extract 1 s.size=z) (hs1:(1:Int)≤(s.size:Int)) (z9:z.size≤90) (b0:(0:Int)≤(n:Int)) (b1:(n:Int)≤(z.size:Int)) (n0:((n:Int)==0)=false) (n1:((n:Int)==z.size)=true)
  (h1:∀ W,Below w.heap.size w W→Calls Tryz.prog 30 #[.string z] W fun e W'=>e = .returned (.int .i64 n)∧Below W.heap.size W W')
  : Calls Tryz.prog 9 #[.string s] w fun e W'=>e = .returned (.tuple #[.string ⟨#[]⟩,.int .i64 3])∧Below w.heap.size w W':=by
 have O:=Ha (h1);clear h1
 have hm9:s.size≤9223372036854775807:=by omega
 have hz9:z.size≤9223372036854775807:=by omega
 go_enter Tryz.func9,Tryz.ntmps9
 have HB:=Ha (Below.refl w.heap.size w)
 go_wp2
 have HD:=Ha HB.out.drew;clear HB;have HB:=HD;clear HD
 go_region_held3 (fun _=>True) (first | trivial | (go_keep;done)) (first | fail)
 go_wp2_with fail
 refine (O.out _ HB.out).mono ?_
 rintro e w1 ⟨rfl,b⟩
 replace HB:=Ha (HB.out.trans (b.mono HB.out.size));clear b
 go_wp2
 go_ret2
 exact ⟨rfl,HB.out⟩
theorem Bg (s z:ByteArray) (n:Nat) (w:World) (s1:¬ (90:Int)<s.size) (hp:0<s.size) (h45:((s[0].toNat:Int)==45)=true) (hE:s.toList.isEmpty=false) (ez:s.extract 1 s.size=z) (hs1:(1:Int)≤(s.size:Int)) (z9:z.size≤90) (b0:(0:Int)≤(n:Int)) (b1:(n:Int)≤(z.size:Int)) (n0:((n:Int)==0)=false) (n1:((n:Int)==z.size)=false) (nl:n<z.size) (nli:(n:Int)<z.size) (c:UInt8) (hc:z[n]=c) (c0:((c.toNat:Int) != 39)=true)
  (h1:∀ W,Below w.heap.size w W→Calls Tryz.prog 30 #[.string z] W fun e W'=>e = .returned (.int .i64 n)∧Below W.heap.size W W')
  : Calls Tryz.prog 9 #[.string s] w fun e W'=>e = .returned (.tuple #[.string ⟨#[]⟩,.int .i64 3])∧Below w.heap.size w W':=by
 have O:=Ha (h1);clear h1
 have hm9:s.size≤9223372036854775807:=by omega
 have hz9:z.size≤9223372036854775807:=by omega
 go_enter Tryz.func9,Tryz.ntmps9
 have HB:=Ha (Below.refl w.heap.size w)
 go_wp2
 have HD:=Ha HB.out.drew;clear HB;have HB:=HD;clear HD
 go_region_held3 (fun _=>True) (first | trivial | (go_keep;done)) (first | fail)
 go_wp2_with fail
 refine (O.out _ HB.out).mono ?_
 rintro e w1 ⟨rfl,b⟩
 replace HB:=Ha (HB.out.trans (b.mono HB.out.size));clear b
 go_wp2
 go_ret2
 exact ⟨rfl,HB.out⟩
theorem Bh (s z:ByteArray) (n:Nat) (w:World) (s1:¬ (90:Int)<s.size) (hp:0<s.size) (h45:((s[0].toNat:Int)==45)=true) (hE:s.toList.isEmpty=false) (ez:s.extract 1 s.size=z) (hs1:(1:Int)≤(s.size:Int)) (z9:z.size≤90) (b0:(0:Int)≤(n:Int)) (b1:(n:Int)≤(z.size:Int)) (n0:((n:Int)==0)=false) (n1:((n:Int)==z.size)=false) (nl:n<z.size) (nli:(n:Int)<z.size) (c:UInt8) (hc:z[n]=c) (c0:((c.toNat:Int) != 39)=false) (m1:(1:Int)<n) (p0:0<z.size) (l0:((z[0].toNat:Int)==48)=true)
  (h1:∀ W,Below w.heap.size w W→Calls Tryz.prog 30 #[.string z] W fun e W'=>e = .returned (.int .i64 n)∧Below W.heap.size W W')
  : Calls Tryz.prog 9 #[.string s] w fun e W'=>e = .returned (.tuple #[.string ⟨#[]⟩,.int .i64 3])∧Below w.heap.size w W':=by
 have O:=Ha (h1);clear h1
 have hm9:s.size≤9223372036854775807:=by omega
 have hz9:z.size≤9223372036854775807:=by omega
 go_enter Tryz.func9,Tryz.ntmps9
 have HB:=Ha (Below.refl w.heap.size w)
 go_wp2
 have HD:=Ha HB.out.drew;clear HB;have HB:=HD;clear HD
 go_region_held3 (fun _=>True) (first | trivial | (go_keep;done)) (first | fail)
 go_wp2_with fail
 refine (O.out _ HB.out).mono ?_
 rintro e w1 ⟨rfl,b⟩
 replace HB:=Ha (HB.out.trans (b.mono HB.out.size));clear b
 go_wp2
 go_ret2
 exact ⟨rfl,HB.out⟩
theorem Bi (s z:ByteArray) (n:Nat) (w:World) (s1:¬ (90:Int)<s.size) (hp:0<s.size) (h45:((s[0].toNat:Int)==45)=true) (hE:s.toList.isEmpty=false) (ez:s.extract 1 s.size=z) (hs1:(1:Int)≤(s.size:Int)) (z9:z.size≤90) (b0:(0:Int)≤(n:Int)) (b1:(n:Int)≤(z.size:Int)) (n0:((n:Int)==0)=false) (n1:((n:Int)==z.size)=false) (nl:n<z.size) (nli:(n:Int)<z.size) (c:UInt8) (hc:z[n]=c) (c0:((c.toNat:Int) != 39)=false) (p0:0<z.size) (hF:¬ (1:Int)<n∨(1:Int)<n∧((z[0].toNat:Int)==48)=false) (D R:ByteArray) (fD:z.extract 0 n=D) (q:Nat) (en:(n:Int)+1=(q:Int)) (b2:(q:Int)≤z.size) (b5:(0:Int)≤(q:Int)) (fR:z.extract q z.size=R) (i m:Nat) (m0:((m:Int)==0)=true)
  (h1:∀ W,Below w.heap.size w W→Calls Tryz.prog 30 #[.string z] W fun e W'=>e = .returned (.int .i64 n)∧Below W.heap.size W W')
  (h2:∀ W,Below w.heap.size w W→Calls Tryz.prog 31 #[.string R] W fun e W'=>e = .returned (.tuple #[.int .i64 i,.int .i64 m])∧Below W.heap.size W W')
  : Calls Tryz.prog 9 #[.string s] w fun e W'=>e = .returned (.tuple #[.string ⟨#[]⟩,.int .i64 3])∧Below w.heap.size w W':=by
 have O:=Ha (Hb h1 (h2));clear h1 h2
 have hm9:s.size≤9223372036854775807:=by omega
 have hz9:z.size≤9223372036854775807:=by omega
 rcases hF with m1 | ⟨m1,l0⟩ <;> (
  go_enter Tryz.func9,Tryz.ntmps9
  have HB:=Ha (Below.refl w.heap.size w)
  go_wp2
  have HD:=Ha HB.out.drew;clear HB;have HB:=HD;clear HD
  go_region_held3 (fun _=>True) (first | trivial | (go_keep;done)) (first | fail)
  go_wp2_with fail
  refine (O.out.1 _ HB.out).mono ?_
  rintro e w1 ⟨rfl,b⟩
  replace HB:=Ha (HB.out.trans (b.mono HB.out.size));clear b
  go_wp2
  go_quiet (fail)
  go_wp2_with fail
  refine (O.out.2 _ (below_drewN HB.out _)).mono ?_
  rintro e w2 ⟨rfl,b⟩
  replace HB:=Ha ((below_drewN HB.out _).trans (b.mono (below_drewN HB.out _).size));clear b
  go_wp2
  go_ret2
  exact ⟨rfl,HB.out⟩)
theorem Bj (s z:ByteArray) (n:Nat) (w:World) (s1:¬ (90:Int)<s.size) (hp:0<s.size) (h45:((s[0].toNat:Int)==45)=true) (hE:s.toList.isEmpty=false) (ez:s.extract 1 s.size=z) (hs1:(1:Int)≤(s.size:Int)) (z9:z.size≤90) (b0:(0:Int)≤(n:Int)) (b1:(n:Int)≤(z.size:Int)) (n0:((n:Int)==0)=false) (n1:((n:Int)==z.size)=false) (nl:n<z.size) (nli:(n:Int)<z.size) (c:UInt8) (hc:z[n]=c) (c0:((c.toNat:Int) != 39)=false) (p0:0<z.size) (hF:¬ (1:Int)<n∨(1:Int)<n∧((z[0].toNat:Int)==48)=false) (D R:ByteArray) (fD:z.extract 0 n=D) (q:Nat) (en:(n:Int)+1=(q:Int)) (b2:(q:Int)≤z.size) (b5:(0:Int)≤(q:Int)) (fR:z.extract q z.size=R) (i m:Nat) (m0:((m:Int)==0)=false) (r9:R.size≤90) (b3:(m:Int)≤R.size) (m2:((m:Int)==R.size)=true)
  (h1:∀ W,Below w.heap.size w W→Calls Tryz.prog 30 #[.string z] W fun e W'=>e = .returned (.int .i64 n)∧Below W.heap.size W W')
  (h2:∀ W,Below w.heap.size w W→Calls Tryz.prog 31 #[.string R] W fun e W'=>e = .returned (.tuple #[.int .i64 i,.int .i64 m])∧Below W.heap.size W W')
  : Calls Tryz.prog 9 #[.string s] w fun e W'=>e = .returned (.tuple #[.string ⟨#[]⟩,.int .i64 3])∧Below w.heap.size w W':=by
 have O:=Ha (Hb h1 (h2));clear h1 h2
 have hm9:s.size≤9223372036854775807:=by omega
 have hz9:z.size≤9223372036854775807:=by omega
 have hr9:R.size≤9223372036854775807:=by omega
 rcases hF with m1 | ⟨m1,l0⟩ <;> (
  go_enter Tryz.func9,Tryz.ntmps9
  have HB:=Ha (Below.refl w.heap.size w)
  go_wp2
  have HD:=Ha HB.out.drew;clear HB;have HB:=HD;clear HD
  go_region_held3 (fun _=>True) (first | trivial | (go_keep;done)) (first | fail)
  go_wp2_with fail
  refine (O.out.1 _ HB.out).mono ?_
  rintro e w1 ⟨rfl,b⟩
  replace HB:=Ha (HB.out.trans (b.mono HB.out.size));clear b
  go_wp2
  go_quiet (fail)
  go_wp2_with fail
  refine (O.out.2 _ (below_drewN HB.out _)).mono ?_
  rintro e w2 ⟨rfl,b⟩
  replace HB:=Ha ((below_drewN HB.out _).trans (b.mono (below_drewN HB.out _).size));clear b
  go_wp2
  go_ret2
  exact ⟨rfl,HB.out⟩)
theorem Bk (s z:ByteArray) (n:Nat) (w:World) (s1:¬ (90:Int)<s.size) (hp:0<s.size) (h45:((s[0].toNat:Int)==45)=true) (hE:s.toList.isEmpty=false) (ez:s.extract 1 s.size=z) (hs1:(1:Int)≤(s.size:Int)) (z9:z.size≤90) (b0:(0:Int)≤(n:Int)) (b1:(n:Int)≤(z.size:Int)) (n0:((n:Int)==0)=false) (n1:((n:Int)==z.size)=false) (nl:n<z.size) (nli:(n:Int)<z.size) (c:UInt8) (hc:z[n]=c) (c0:((c.toNat:Int) != 39)=false) (p0:0<z.size) (hF:¬ (1:Int)<n∨(1:Int)<n∧((z[0].toNat:Int)==48)=false) (D R:ByteArray) (fD:z.extract 0 n=D) (q:Nat) (en:(n:Int)+1=(q:Int)) (b2:(q:Int)≤z.size) (b5:(0:Int)≤(q:Int)) (fR:z.extract q z.size=R) (i m:Nat) (m0:((m:Int)==0)=false) (r9:R.size≤90) (b3:(m:Int)≤R.size) (m2:((m:Int)==R.size)=false) (ml:m<R.size) (mli:(m:Int)<R.size) (d:UInt8) (hd:R[m]=d) (d0:((d.toNat:Int) != 34)=true)
  (h1:∀ W,Below w.heap.size w W→Calls Tryz.prog 30 #[.string z] W fun e W'=>e = .returned (.int .i64 n)∧Below W.heap.size W W')
  (h2:∀ W,Below w.heap.size w W→Calls Tryz.prog 31 #[.string R] W fun e W'=>e = .returned (.tuple #[.int .i64 i,.int .i64 m])∧Below W.heap.size W W')
  : Calls Tryz.prog 9 #[.string s] w fun e W'=>e = .returned (.tuple #[.string ⟨#[]⟩,.int .i64 3])∧Below w.heap.size w W':=by
 have O:=Ha (Hb h1 (h2));clear h1 h2
 have hm9:s.size≤9223372036854775807:=by omega
 have hz9:z.size≤9223372036854775807:=by omega
 have hr9:R.size≤9223372036854775807:=by omega
 rcases hF with m1 | ⟨m1,l0⟩ <;> (
  go_enter Tryz.func9,Tryz.ntmps9
  have HB:=Ha (Below.refl w.heap.size w)
  go_wp2
  have HD:=Ha HB.out.drew;clear HB;have HB:=HD;clear HD
  go_region_held3 (fun _=>True) (first | trivial | (go_keep;done)) (first | fail)
  go_wp2_with fail
  refine (O.out.1 _ HB.out).mono ?_
  rintro e w1 ⟨rfl,b⟩
  replace HB:=Ha (HB.out.trans (b.mono HB.out.size));clear b
  go_wp2
  go_quiet (fail)
  go_wp2_with fail
  refine (O.out.2 _ (below_drewN HB.out _)).mono ?_
  rintro e w2 ⟨rfl,b⟩
  replace HB:=Ha ((below_drewN HB.out _).trans (b.mono (below_drewN HB.out _).size));clear b
  go_wp2
  go_ret2
  exact ⟨rfl,HB.out⟩)
theorem Bl (s z:ByteArray) (n:Nat) (w:World) (s1:¬ (90:Int)<s.size) (hp:0<s.size) (h45:((s[0].toNat:Int)==45)=true) (hE:s.toList.isEmpty=false) (ez:s.extract 1 s.size=z) (hs1:(1:Int)≤(s.size:Int)) (z9:z.size≤90) (b0:(0:Int)≤(n:Int)) (b1:(n:Int)≤(z.size:Int)) (n0:((n:Int)==0)=false) (n1:((n:Int)==z.size)=false) (nl:n<z.size) (nli:(n:Int)<z.size) (c:UInt8) (hc:z[n]=c) (c0:((c.toNat:Int) != 39)=false) (p0:0<z.size) (hF:¬ (1:Int)<n∨(1:Int)<n∧((z[0].toNat:Int)==48)=false) (D R:ByteArray) (fD:z.extract 0 n=D) (q:Nat) (en:(n:Int)+1=(q:Int)) (b2:(q:Int)≤z.size) (b5:(0:Int)≤(q:Int)) (fR:z.extract q z.size=R) (i m:Nat) (m0:((m:Int)==0)=false) (r9:R.size≤90) (b3:(m:Int)≤R.size) (m2:((m:Int)==R.size)=false) (ml:m<R.size) (mli:(m:Int)<R.size) (d:UInt8) (hd:R[m]=d) (d0:((d.toNat:Int) != 34)=false) (r:ByteArray) (t:Nat) (em:(m:Int)+1=(t:Int)) (b4:(t:Int)≤R.size) (b6:(0:Int)≤(t:Int)) (fr:R.extract t R.size=r) (j k:Nat) (k0:((k:Int)==0)=true)
  (h1:∀ W,Below w.heap.size w W→Calls Tryz.prog 30 #[.string z] W fun e W'=>e = .returned (.int .i64 n)∧Below W.heap.size W W')
  (h2:∀ W,Below w.heap.size w W→Calls Tryz.prog 31 #[.string R] W fun e W'=>e = .returned (.tuple #[.int .i64 i,.int .i64 m])∧Below W.heap.size W W')
  (h3:∀ W,Below w.heap.size w W→Calls Tryz.prog 31 #[.string r] W fun e W'=>e = .returned (.tuple #[.int .i64 j,.int .i64 k])∧Below W.heap.size W W')
  : Calls Tryz.prog 9 #[.string s] w fun e W'=>e = .returned (.tuple #[.string ⟨#[]⟩,.int .i64 3])∧Below w.heap.size w W':=by
 have O:=Ha (Hb h1 (Hb h2 (h3)));clear h1 h2 h3
 have hm9:s.size≤9223372036854775807:=by omega
 have hz9:z.size≤9223372036854775807:=by omega
 have hr9:R.size≤9223372036854775807:=by omega
 rcases hF with m1 | ⟨m1,l0⟩ <;> (
  go_enter Tryz.func9,Tryz.ntmps9
  have HB:=Ha (Below.refl w.heap.size w)
  go_wp2
  have HD:=Ha HB.out.drew;clear HB;have HB:=HD;clear HD
  go_region_held3 (fun _=>True) (first | trivial | (go_keep;done)) (first | fail)
  go_wp2_with fail
  refine (O.out.1 _ HB.out).mono ?_
  rintro e w1 ⟨rfl,b⟩
  replace HB:=Ha (HB.out.trans (b.mono HB.out.size));clear b
  go_wp2
  go_quiet (fail)
  go_wp2_with fail
  refine (O.out.2.1 _ (below_drewN HB.out _)).mono ?_
  rintro e w2 ⟨rfl,b⟩
  replace HB:=Ha ((below_drewN HB.out _).trans (b.mono (below_drewN HB.out _).size));clear b
  go_wp2_with fail
  refine (O.out.2.2 _ HB.out).mono ?_
  rintro e w3 ⟨rfl,b⟩
  replace HB:=Ha (HB.out.trans (b.mono HB.out.size));clear b
  go_wp2
  go_ret2
  exact ⟨rfl,HB.out⟩)
theorem Bm (s z:ByteArray) (n:Nat) (w:World) (s1:¬ (90:Int)<s.size) (hp:0<s.size) (h45:((s[0].toNat:Int)==45)=true) (hE:s.toList.isEmpty=false) (ez:s.extract 1 s.size=z) (hs1:(1:Int)≤(s.size:Int)) (z9:z.size≤90) (b0:(0:Int)≤(n:Int)) (b1:(n:Int)≤(z.size:Int)) (n0:((n:Int)==0)=false) (n1:((n:Int)==z.size)=false) (nl:n<z.size) (nli:(n:Int)<z.size) (c:UInt8) (hc:z[n]=c) (c0:((c.toNat:Int) != 39)=false) (p0:0<z.size) (hF:¬ (1:Int)<n∨(1:Int)<n∧((z[0].toNat:Int)==48)=false) (D R:ByteArray) (fD:z.extract 0 n=D) (q:Nat) (en:(n:Int)+1=(q:Int)) (b2:(q:Int)≤z.size) (b5:(0:Int)≤(q:Int)) (fR:z.extract q z.size=R) (i m:Nat) (m0:((m:Int)==0)=false) (r9:R.size≤90) (b3:(m:Int)≤R.size) (m2:((m:Int)==R.size)=false) (ml:m<R.size) (mli:(m:Int)<R.size) (d:UInt8) (hd:R[m]=d) (d0:((d.toNat:Int) != 34)=false) (r:ByteArray) (t:Nat) (em:(m:Int)+1=(t:Int)) (b4:(t:Int)≤R.size) (b6:(0:Int)≤(t:Int)) (fr:R.extract t R.size=r) (j k:Nat) (k0:((k:Int)==0)=false) (k1:(k:Int)<r.size)
  (h1:∀ W,Below w.heap.size w W→Calls Tryz.prog 30 #[.string z] W fun e W'=>e = .returned (.int .i64 n)∧Below W.heap.size W W')
  (h2:∀ W,Below w.heap.size w W→Calls Tryz.prog 31 #[.string R] W fun e W'=>e = .returned (.tuple #[.int .i64 i,.int .i64 m])∧Below W.heap.size W W')
  (h3:∀ W,Below w.heap.size w W→Calls Tryz.prog 31 #[.string r] W fun e W'=>e = .returned (.tuple #[.int .i64 j,.int .i64 k])∧Below W.heap.size W W')
  : Calls Tryz.prog 9 #[.string s] w fun e W'=>e = .returned (.tuple #[.string ⟨#[]⟩,.int .i64 3])∧Below w.heap.size w W':=by
 have O:=Ha (Hb h1 (Hb h2 (h3)));clear h1 h2 h3
 have hm9:s.size≤9223372036854775807:=by omega
 have hz9:z.size≤9223372036854775807:=by omega
 have hr9:R.size≤9223372036854775807:=by omega
 rcases hF with m1 | ⟨m1,l0⟩ <;> (
  go_enter Tryz.func9,Tryz.ntmps9
  have HB:=Ha (Below.refl w.heap.size w)
  go_wp2
  have HD:=Ha HB.out.drew;clear HB;have HB:=HD;clear HD
  go_region_held3 (fun _=>True) (first | trivial | (go_keep;done)) (first | fail)
  go_wp2_with fail
  refine (O.out.1 _ HB.out).mono ?_
  rintro e w1 ⟨rfl,b⟩
  replace HB:=Ha (HB.out.trans (b.mono HB.out.size));clear b
  go_wp2
  go_quiet (fail)
  go_wp2_with fail
  refine (O.out.2.1 _ (below_drewN HB.out _)).mono ?_
  rintro e w2 ⟨rfl,b⟩
  replace HB:=Ha ((below_drewN HB.out _).trans (b.mono (below_drewN HB.out _).size));clear b
  go_wp2_with fail
  refine (O.out.2.2 _ HB.out).mono ?_
  rintro e w3 ⟨rfl,b⟩
  replace HB:=Ha (HB.out.trans (b.mono HB.out.size));clear b
  go_wp2
  go_ret2
  exact ⟨rfl,HB.out⟩)
theorem Df (s z:ByteArray) (n:Nat) (w:World) (s1:¬ (90:Int)<s.size) (hp:0<s.size) (h45:((s[0].toNat:Int)==45)=true) (hE:s.toList.isEmpty=false) (ez:s.extract 1 s.size=z) (hs1:(1:Int)≤(s.size:Int)) (z9:z.size≤90) (b0:(0:Int)≤(n:Int)) (b1:(n:Int)≤(z.size:Int)) (n0:((n:Int)==0)=false) (n1:((n:Int)==z.size)=false) (nl:n<z.size) (nli:(n:Int)<z.size) (c:UInt8) (hc:z[n]=c) (c0:((c.toNat:Int) != 39)=false) (p0:0<z.size) (hF:¬ (1:Int)<n∨(1:Int)<n∧((z[0].toNat:Int)==48)=false) (D R:ByteArray) (fD:z.extract 0 n=D) (q:Nat) (en:(n:Int)+1=(q:Int)) (b2:(q:Int)≤z.size) (b5:(0:Int)≤(q:Int)) (fR:z.extract q z.size=R) (i m:Nat) (m0:((m:Int)==0)=false) (r9:R.size≤90) (b3:(m:Int)≤R.size) (m2:((m:Int)==R.size)=false) (ml:m<R.size) (mli:(m:Int)<R.size) (d:UInt8) (hd:R[m]=d) (d0:((d.toNat:Int) != 34)=false) (r:ByteArray) (t:Nat) (em:(m:Int)+1=(t:Int)) (b4:(t:Int)≤R.size) (b6:(0:Int)≤(t:Int)) (fr:R.extract t R.size=r) (j k:Nat) (k0:((k:Int)==0)=false) (k1:¬ (k:Int)<r.size) (i1:i≤11) (j1:j≤11) (P A U B C:ByteArray) (x:Int) (hU:(U.toList == [48])=true)
  (h1:∀ W,Below w.heap.size w W→Calls Tryz.prog 30 #[.string z] W fun e W'=>e = .returned (.int .i64 n)∧Below W.heap.size W W')
  (h2:∀ W,Below w.heap.size w W→Calls Tryz.prog 31 #[.string R] W fun e W'=>e = .returned (.tuple #[.int .i64 i,.int .i64 m])∧Below W.heap.size W W')
  (h3:∀ W,Below w.heap.size w W→Calls Tryz.prog 31 #[.string r] W fun e W'=>e = .returned (.tuple #[.int .i64 j,.int .i64 k])∧Below W.heap.size W W')
  (h4:∀ W,Below w.heap.size w W→Calls Tryz.prog 25 #[.string D,.string ⟨#[49,52,52]⟩] W fun e W'=>e = .returned (.string P)∧Below W.heap.size W W')
  (h5:∀ q:Int,q=12*(i:Int)+(j:Int)→∀ W,Below w.heap.size w W→Calls Tryz.prog 27 #[.int .i64 q] W fun e W'=>e = .returned (.string A)∧Below W.heap.size W W')
  (h6:∀ W,Below w.heap.size w W→Calls Tryz.prog 32 #[.string P,.string A] W fun e W'=>e = .returned (.tuple #[.string U,.int .i64 x])∧Below W.heap.size W W')
  : Calls Tryz.prog 9 #[.string s] w fun e W'=>e = .returned (.tuple #[.string ⟨#[]⟩,.int .i64 3])∧Below w.heap.size w W':=by
 have O:=Ha (Hb h1 (Hb h2 (Hb h3 (Hb h4 (Hb h5 (h6))))));clear h1 h2 h3 h4 h5 h6
 have hm9:s.size≤9223372036854775807:=by omega
 have hz9:z.size≤9223372036854775807:=by omega
 have hr9:R.size≤9223372036854775807:=by omega
 rcases hF with m1 | ⟨m1,l0⟩ <;> (
  go_enter Tryz.func9,Tryz.ntmps9
  have HB:=Ha (Below.refl w.heap.size w)
  go_wp2
  have HD:=Ha HB.out.drew;clear HB;have HB:=HD;clear HD
  go_region_held3 (fun _=>True) (first | trivial | (go_keep;done)) (first | fail)
  go_wp2_with fail
  refine (O.out.1 _ HB.out).mono ?_
  rintro e w1 ⟨rfl,b⟩
  replace HB:=Ha (HB.out.trans (b.mono HB.out.size));clear b
  go_wp2
  go_quiet (fail)
  go_wp2_with fail
  refine (O.out.2.1 _ (below_drewN HB.out _)).mono ?_
  rintro e w2 ⟨rfl,b⟩
  replace HB:=Ha ((below_drewN HB.out _).trans (b.mono (below_drewN HB.out _).size));clear b
  go_wp2_with fail
  refine (O.out.2.2.1 _ HB.out).mono ?_
  rintro e w3 ⟨rfl,b⟩
  replace HB:=Ha (HB.out.trans (b.mono HB.out.size));clear b
  go_wp2_with fail
  refine (O.out.2.2.2.1 _ HB.out).mono ?_
  rintro e w4 ⟨rfl,b⟩
  replace HB:=Ha (HB.out.trans (b.mono HB.out.size));clear b
  go_wp2_with fail
  refine (O.out.2.2.2.2.1 _ (by omega) _ HB.out).mono ?_
  rintro e w5 ⟨rfl,b⟩
  replace HB:=Ha (HB.out.trans (b.mono HB.out.size));clear b
  go_wp2_with fail
  refine (O.out.2.2.2.2.2 _ HB.out).mono ?_
  rintro e w6 ⟨rfl,b⟩
  replace HB:=Ha (HB.out.trans (b.mono HB.out.size));clear b
  go_wp2
  go_ret2
  exact ⟨rfl,HB.out⟩)
theorem Dh (s z:ByteArray) (n:Nat) (w:World) (s1:¬ (90:Int)<s.size) (hp:0<s.size) (h45:((s[0].toNat:Int)==45)=true) (hE:s.toList.isEmpty=false) (ez:s.extract 1 s.size=z) (hs1:(1:Int)≤(s.size:Int)) (z9:z.size≤90) (b0:(0:Int)≤(n:Int)) (b1:(n:Int)≤(z.size:Int)) (n0:((n:Int)==0)=false) (n1:((n:Int)==z.size)=false) (nl:n<z.size) (nli:(n:Int)<z.size) (c:UInt8) (hc:z[n]=c) (c0:((c.toNat:Int) != 39)=false) (p0:0<z.size) (hF:¬ (1:Int)<n∨(1:Int)<n∧((z[0].toNat:Int)==48)=false) (D R:ByteArray) (fD:z.extract 0 n=D) (q:Nat) (en:(n:Int)+1=(q:Int)) (b2:(q:Int)≤z.size) (b5:(0:Int)≤(q:Int)) (fR:z.extract q z.size=R) (i m:Nat) (m0:((m:Int)==0)=false) (r9:R.size≤90) (b3:(m:Int)≤R.size) (m2:((m:Int)==R.size)=false) (ml:m<R.size) (mli:(m:Int)<R.size) (d:UInt8) (hd:R[m]=d) (d0:((d.toNat:Int) != 34)=false) (r:ByteArray) (t:Nat) (em:(m:Int)+1=(t:Int)) (b4:(t:Int)≤R.size) (b6:(0:Int)≤(t:Int)) (fr:R.extract t R.size=r) (j k:Nat) (k0:((k:Int)==0)=false) (k1:¬ (k:Int)<r.size) (i1:i≤11) (j1:j≤11) (P A U B C:ByteArray) (x:Int) (hU:(U.toList == [48])=false)
  (h1:∀ W,Below w.heap.size w W→Calls Tryz.prog 30 #[.string z] W fun e W'=>e = .returned (.int .i64 n)∧Below W.heap.size W W')
  (h2:∀ W,Below w.heap.size w W→Calls Tryz.prog 31 #[.string R] W fun e W'=>e = .returned (.tuple #[.int .i64 i,.int .i64 m])∧Below W.heap.size W W')
  (h3:∀ W,Below w.heap.size w W→Calls Tryz.prog 31 #[.string r] W fun e W'=>e = .returned (.tuple #[.int .i64 j,.int .i64 k])∧Below W.heap.size W W')
  (h4:∀ W,Below w.heap.size w W→Calls Tryz.prog 25 #[.string D,.string ⟨#[49,52,52]⟩] W fun e W'=>e = .returned (.string P)∧Below W.heap.size W W')
  (h5:∀ q:Int,q=12*(i:Int)+(j:Int)→∀ W,Below w.heap.size w W→Calls Tryz.prog 27 #[.int .i64 q] W fun e W'=>e = .returned (.string A)∧Below W.heap.size W W')
  (h6:∀ W,Below w.heap.size w W→Calls Tryz.prog 32 #[.string P,.string A] W fun e W'=>e = .returned (.tuple #[.string U,.int .i64 x])∧Below W.heap.size W W')
  (h7:∀ W,Below w.heap.size w W→Calls Tryz.prog 25 #[.string ⟨#[45,49]⟩,.string U] W fun e W'=>e = .returned (.string B)∧Below W.heap.size W W')
  (h8:∀ W,Below w.heap.size w W→Calls Tryz.prog 25 #[.string B,.string ⟨#[49,50,55,47,54,48]⟩] W fun e W'=>e = .returned (.string C)∧Below W.heap.size W W')
  : Calls Tryz.prog 9 #[.string s] w fun e W'=>e = .returned (.tuple #[.string C,.int .i64 0])∧Below w.heap.size w W':=by
 have O:=Ha (Hb h1 (Hb h2 (Hb h3 (Hb h4 (Hb h5 (Hb h6 (Hb h7 (h8))))))));clear h1 h2 h3 h4 h5 h6 h7 h8
 have hm9:s.size≤9223372036854775807:=by omega
 have hz9:z.size≤9223372036854775807:=by omega
 have hr9:R.size≤9223372036854775807:=by omega
 rcases hF with m1 | ⟨m1,l0⟩ <;> (
  go_enter Tryz.func9,Tryz.ntmps9
  have HB:=Ha (Below.refl w.heap.size w)
  go_wp2
  have HD:=Ha HB.out.drew;clear HB;have HB:=HD;clear HD
  go_region_held3 (fun _=>True) (first | trivial | (go_keep;done)) (first | fail)
  go_wp2_with fail
  refine (O.out.1 _ HB.out).mono ?_
  rintro e w1 ⟨rfl,b⟩
  replace HB:=Ha (HB.out.trans (b.mono HB.out.size));clear b
  go_wp2
  go_quiet (fail)
  go_wp2_with fail
  refine (O.out.2.1 _ (below_drewN HB.out _)).mono ?_
  rintro e w2 ⟨rfl,b⟩
  replace HB:=Ha ((below_drewN HB.out _).trans (b.mono (below_drewN HB.out _).size));clear b
  go_wp2_with fail
  refine (O.out.2.2.1 _ HB.out).mono ?_
  rintro e w3 ⟨rfl,b⟩
  replace HB:=Ha (HB.out.trans (b.mono HB.out.size));clear b
  go_wp2_with fail
  refine (O.out.2.2.2.1 _ HB.out).mono ?_
  rintro e w4 ⟨rfl,b⟩
  replace HB:=Ha (HB.out.trans (b.mono HB.out.size));clear b
  go_wp2_with fail
  refine (O.out.2.2.2.2.1 _ (by omega) _ HB.out).mono ?_
  rintro e w5 ⟨rfl,b⟩
  replace HB:=Ha (HB.out.trans (b.mono HB.out.size));clear b
  go_wp2_with fail
  refine (O.out.2.2.2.2.2.1 _ HB.out).mono ?_
  rintro e w6 ⟨rfl,b⟩
  replace HB:=Ha (HB.out.trans (b.mono HB.out.size));clear b
  go_wp2_with fail
  refine (O.out.2.2.2.2.2.2.1 _ HB.out).mono ?_
  rintro e w7 ⟨rfl,b⟩
  replace HB:=Ha (HB.out.trans (b.mono HB.out.size));clear b
  go_wp2_with fail
  refine (O.out.2.2.2.2.2.2.2 _ HB.out).mono ?_
  rintro e w8 ⟨rfl,b⟩
  replace HB:=Ha (HB.out.trans (b.mono HB.out.size));clear b
  go_wp2
  go_ret2
  exact ⟨rfl,HB.out⟩)
theorem zm (s:ByteArray) (w:World) (s1:(90:Int)<s.size) :
  Calls Tryz.prog 9 #[.string s] w fun e W'=>e = .returned (.tuple #[.string ⟨#[]⟩,.int .i64 4])∧Below w.heap.size w W':=by
 go_enter Tryz.func9,Tryz.ntmps9
 go_wp2
 go_ret2
 exact ⟨rfl,Below.refl _ _⟩
theorem Di (s:ByteArray) (w:World) (s1:¬ (90:Int)<s.size) (hE:s.toList.isEmpty=true)
  (h1:∀ W,Below w.heap.size w W→Calls Tryz.prog 30 #[.string s] W fun e W'=>e = .returned (.int .i64 0)∧Below W.heap.size W W') :
  Calls Tryz.prog 9 #[.string s] w fun e W'=>e = .returned (.tuple #[.string ⟨#[]⟩,.int .i64 3])∧Below w.heap.size w W':=by
 have O:=Ha h1;clear h1
 go_enter Tryz.func9,Tryz.ntmps9
 have HB:=Ha (Below.refl w.heap.size w)
 go_wp2_with fail
 refine (O.out _ HB.out).mono ?_
 rintro e w1 ⟨rfl,b⟩
 replace HB:=Ha (HB.out.trans (b.mono HB.out.size));clear b
 go_wp2
 go_ret2
 exact ⟨rfl,HB.out⟩
end Go.Proofs.YtocalfjfjjljnaaGreatDoor.T
