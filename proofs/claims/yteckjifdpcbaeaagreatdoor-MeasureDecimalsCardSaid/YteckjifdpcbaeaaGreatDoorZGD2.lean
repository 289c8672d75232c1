/- Parts of the proof of the text YteckjifdpcbaeaaGreatDoorZGD4. -/
import Derived.Test.YteckjifdpcbaeaaGreatDoorZG1
import Derived.Test.YteckjifdpcbaeaaGreatDoorZG38
set_option linter.all false
set_option maxRecDepth 100000
set_option maxHeartbeats 8000000
namespace Go.Proofs.YteckjifdpcbaeaaGreatDoor.T
open Go.Proofs.YteckjifdpcbaeaaGreatDoor Go Go.RowKit
theorem rParse_nA0 (s z D R A P r B V C C2:ByteArray) (n m:Nat) (x y:Int) (w:World) (s1:¬ (90:Int)<s.size) (hE:s.toList.isEmpty=true)
  (h1:∀ W,Below w.heap.size w W→Calls Tryz.prog 35 #[.string s] W fun e W'=>e = .returned (.int .i64 0)∧Below W.heap.size W W')
  : Calls Tryz.prog 12 #[.string s] w fun e W'=>e = .returned (.tuple #[.string ⟨#[]⟩,.int .i64 3])∧Below w.heap.size w W':=by
 have O:=Lib.hid (h1);clear h1
 have hm9:s.size≤9223372036854775807:=by omega
 go_enter Tryz.func12,Tryz.ntmps12
 have HB:=Lib.hid (Below.refl w.heap.size w)
 go_wp2_with fail
 refine (O.out _ HB.out).mono ?_
 rintro e w1 ⟨rfl,b⟩
 have HN:=Lib.hid (HB.out.trans (b.mono HB.out.size));clear HB b;have HB:=HN;clear HN
 go_wp2
 go_ret2
 exact ⟨rfl,HB.out⟩
theorem rParse_nA (s z D R A P r B V C C2:ByteArray) (n m:Nat) (x y:Int) (w:World) (s1:¬ (90:Int)<s.size) (hp:0<s.size) (h45:((s[0].toNat:Int)==45)=false) (hE:s.toList.isEmpty=false)
  (h1:∀ W,Below w.heap.size w W→Calls Tryz.prog 35 #[.string s] W fun e W'=>e = .returned (.int .i64 0)∧Below W.heap.size W W')
  : Calls Tryz.prog 12 #[.string s] w fun e W'=>e = .returned (.tuple #[.string ⟨#[]⟩,.int .i64 3])∧Below w.heap.size w W':=by
 have O:=Lib.hid (h1);clear h1
 have hm9:s.size≤9223372036854775807:=by omega
 go_enter Tryz.func12,Tryz.ntmps12
 have HB:=Lib.hid (Below.refl w.heap.size w)
 go_wp2_with fail
 refine (O.out _ HB.out).mono ?_
 rintro e w1 ⟨rfl,b⟩
 have HN:=Lib.hid (HB.out.trans (b.mono HB.out.size));clear HB b;have HB:=HN;clear HN
 go_wp2
 go_ret2
 exact ⟨rfl,HB.out⟩
theorem rParse_nB (s z D R A P r B V C C2:ByteArray) (n m:Nat) (x y:Int) (w:World) (s1:¬ (90:Int)<s.size) (hp:0<s.size) (h45:((s[0].toNat:Int)==45)=false) (hE:s.toList.isEmpty=false) (n0:((n:Int)==0)=false) (b0:(0:Int)≤(n:Int)) (b1:(n:Int)≤(s.size:Int)) (fD:s.extract 0 n=D) (fR:s.extract n s.size=R) (hR:R.toList.isEmpty=true)
  (h1:∀ W,Below w.heap.size w W→Calls Tryz.prog 35 #[.string s] W fun e W'=>e = .returned (.int .i64 n)∧Below W.heap.size W W')
  (h2:∀ W,Below w.heap.size w W→Calls Tryz.prog 36 #[.string D] W fun e W'=>e = .returned (.string A)∧Below W.heap.size W W')
  (h3:∀ W,Below w.heap.size w W→Calls Tryz.prog 27 #[.string ⟨#[49]⟩,.string A] W fun e W'=>e = .returned (.string P)∧Below W.heap.size W W')
  : Calls Tryz.prog 12 #[.string s] w fun e W'=>e = .returned (.tuple #[.string P,.int .i64 0])∧Below w.heap.size w W':=by
 have O:=Lib.hid (And.intro h1 (And.intro h2 (h3)));clear h1 h2 h3
 have hm9:s.size≤9223372036854775807:=by omega
 go_enter Tryz.func12,Tryz.ntmps12
 have HB:=Lib.hid (Below.refl w.heap.size w)
 go_wp2_with fail
 refine (O.out.1 _ HB.out).mono ?_
 rintro e w1 ⟨rfl,b⟩
 have HN:=Lib.hid (HB.out.trans (b.mono HB.out.size));clear HB b;have HB:=HN;clear HN
 go_wp2
 have HD:=Lib.hid HB.out.drew;clear HB;have HB:=HD;clear HD
 go_region_held3 (fun _=>True) (first | trivial | (go_keep;done)) (first | (go_at_call 36;refine Calls.mono (O.out.2.1 _ HB.out) ?_;rintro e w2 ⟨rfl,b⟩;have HN:=Lib.hid (HB.out.trans (b.mono HB.out.size));clear HB b;have HB:=HN;clear HN))
 go_wp2_with fail
 refine (O.out.2.2 _ HB.out).mono ?_
 rintro e w3 ⟨rfl,b⟩
 have HN:=Lib.hid (HB.out.trans (b.mono HB.out.size));clear HB b;have HB:=HN;clear HN
 go_wp2
 go_ret2
 exact ⟨rfl,HB.out⟩
theorem rParse_nC1 (s z D R A P r B V C C2:ByteArray) (n m:Nat) (x y:Int) (w:World) (s1:¬ (90:Int)<s.size) (hp:0<s.size) (h45:((s[0].toNat:Int)==45)=false) (hE:s.toList.isEmpty=false) (n0:((n:Int)==0)=false) (b0:(0:Int)≤(n:Int)) (b1:(n:Int)≤(s.size:Int)) (fD:s.extract 0 n=D) (fR:s.extract n s.size=R) (hR:R.toList.isEmpty=false) (hr0:0<R.size) (hr1:(1:Int)≤(R.size:Int)) (fr:R.extract 1 R.size=r)
  (h1:∀ W,Below w.heap.size w W→Calls Tryz.prog 35 #[.string s] W fun e W'=>e = .returned (.int .i64 n)∧Below W.heap.size W W')
  (h2:∀ W,Below w.heap.size w W→Calls Tryz.prog 36 #[.string D] W fun e W'=>e = .returned (.string A)∧Below W.heap.size W W')
  (h3:∀ W,Below w.heap.size w W→Calls Tryz.prog 35 #[.string r] W fun e W'=>e = .returned (.int .i64 0)∧Below W.heap.size W W')
  : Calls Tryz.prog 12 #[.string s] w fun e W'=>e = .returned (.tuple #[.string ⟨#[]⟩,.int .i64 3])∧Below w.heap.size w W':=by
 have O:=Lib.hid (And.intro h1 (And.intro h2 (h3)));clear h1 h2 h3
 have hm9:s.size≤9223372036854775807:=by omega
 go_enter Tryz.func12,Tryz.ntmps12
 have HB:=Lib.hid (Below.refl w.heap.size w)
 go_wp2_with fail
 refine (O.out.1 _ HB.out).mono ?_
 rintro e w1 ⟨rfl,b⟩
 have HN:=Lib.hid (HB.out.trans (b.mono HB.out.size));clear HB b;have HB:=HN;clear HN
 go_wp2
 have HD:=Lib.hid HB.out.drew;clear HB;have HB:=HD;clear HD
 go_region_held3 (fun _=>True) (first | trivial | (go_keep;done)) (first | (go_at_call 36;refine Calls.mono (O.out.2.1 _ HB.out) ?_;rintro e w2 ⟨rfl,b⟩;have HN:=Lib.hid (HB.out.trans (b.mono HB.out.size));clear HB b;have HB:=HN;clear HN))
 go_wp2
 have HD:=Lib.hid HB.out.drew;clear HB;have HB:=HD;clear HD
 go_region_held3 (fun _=>True) (first | trivial | (go_keep;done)) (first | fail)
 go_wp2_with fail
 refine (O.out.2.2 _ HB.out).mono ?_
 rintro e w3 ⟨rfl,b⟩
 have HN:=Lib.hid (HB.out.trans (b.mono HB.out.size));clear HB b;have HB:=HN;clear HN
 go_wp2
 go_ret2
 exact ⟨rfl,HB.out⟩
theorem rParse_nC2 (s z D R A P r B V C C2:ByteArray) (n m:Nat) (x y:Int) (w:World) (s1:¬ (90:Int)<s.size) (hp:0<s.size) (h45:((s[0].toNat:Int)==45)=false) (hE:s.toList.isEmpty=false) (n0:((n:Int)==0)=false) (b0:(0:Int)≤(n:Int)) (b1:(n:Int)≤(s.size:Int)) (fD:s.extract 0 n=D) (fR:s.extract n s.size=R) (hR:R.toList.isEmpty=false) (hr0:0<R.size) (hr1:(1:Int)≤(R.size:Int)) (fr:R.extract 1 R.size=r) (m0:((m:Int)==0)=false) (m1:(m:Int)<r.size)
  (h1:∀ W,Below w.heap.size w W→Calls Tryz.prog 35 #[.string s] W fun e W'=>e = .returned (.int .i64 n)∧Below W.heap.size W W')
  (h2:∀ W,Below w.heap.size w W→Calls Tryz.prog 36 #[.string D] W fun e W'=>e = .returned (.string A)∧Below W.heap.size W W')
  (h3:∀ W,Below w.heap.size w W→Calls Tryz.prog 35 #[.string r] W fun e W'=>e = .returned (.int .i64 m)∧Below W.heap.size W W')
  : Calls Tryz.prog 12 #[.string s] w fun e W'=>e = .returned (.tuple #[.string ⟨#[]⟩,.int .i64 3])∧Below w.heap.size w W':=by
 have O:=Lib.hid (And.intro h1 (And.intro h2 (h3)));clear h1 h2 h3
 have hm9:s.size≤9223372036854775807:=by omega
 go_enter Tryz.func12,Tryz.ntmps12
 have HB:=Lib.hid (Below.refl w.heap.size w)
 go_wp2_with fail
 refine (O.out.1 _ HB.out).mono ?_
 rintro e w1 ⟨rfl,b⟩
 have HN:=Lib.hid (HB.out.trans (b.mono HB.out.size));clear HB b;have HB:=HN;clear HN
 go_wp2
 have HD:=Lib.hid HB.out.drew;clear HB;have HB:=HD;clear HD
 go_region_held3 (fun _=>True) (first | trivial | (go_keep;done)) (first | (go_at_call 36;refine Calls.mono (O.out.2.1 _ HB.out) ?_;rintro e w2 ⟨rfl,b⟩;have HN:=Lib.hid (HB.out.trans (b.mono HB.out.size));clear HB b;have HB:=HN;clear HN))
 go_wp2
 have HD:=Lib.hid HB.out.drew;clear HB;have HB:=HD;clear HD
 go_region_held3 (fun _=>True) (first | trivial | (go_keep;done)) (first | fail)
 go_wp2_with fail
 refine (O.out.2.2 _ HB.out).mono ?_
 rintro e w3 ⟨rfl,b⟩
 have HN:=Lib.hid (HB.out.trans (b.mono HB.out.size));clear HB b;have HB:=HN;clear HN
 go_wp2
 go_ret2
 exact ⟨rfl,HB.out⟩
theorem rParse_nC3 (s z D R A P r B V C C2:ByteArray) (n m:Nat) (x y:Int) (w:World) (s1:¬ (90:Int)<s.size) (hp:0<s.size) (h45:((s[0].toNat:Int)==45)=false) (hE:s.toList.isEmpty=false) (n0:((n:Int)==0)=false) (b0:(0:Int)≤(n:Int)) (b1:(n:Int)≤(s.size:Int)) (fD:s.extract 0 n=D) (fR:s.extract n s.size=R) (hR:R.toList.isEmpty=false) (hr0:0<R.size) (hr1:(1:Int)≤(R.size:Int)) (fr:R.extract 1 R.size=r) (m0:((m:Int)==0)=false) (m1:¬ (m:Int)<r.size) (k1:((R[0].toNat:Int)==46)=false) (k2:((R[0].toNat:Int)==47)=false) (k3:((R[0].toNat:Int) != 46)=true) (k4:((R[0].toNat:Int) != 47)=true)
  (h1:∀ W,Below w.heap.size w W→Calls Tryz.prog 35 #[.string s] W fun e W'=>e = .returned (.int .i64 n)∧Below W.heap.size W W')
  (h2:∀ W,Below w.heap.size w W→Calls Tryz.prog 36 #[.string D] W fun e W'=>e = .returned (.string A)∧Below W.heap.size W W')
  (h3:∀ W,Below w.heap.size w W→Calls Tryz.prog 35 #[.string r] W fun e W'=>e = .returned (.int .i64 m)∧Below W.heap.size W W')
  : Calls Tryz.prog 12 #[.string s] w fun e W'=>e = .returned (.tuple #[.string ⟨#[]⟩,.int .i64 3])∧Below w.heap.size w W':=by
 have O:=Lib.hid (And.intro h1 (And.intro h2 (h3)));clear h1 h2 h3
 have hm9:s.size≤9223372036854775807:=by omega
 go_enter Tryz.func12,Tryz.ntmps12
 have HB:=Lib.hid (Below.refl w.heap.size w)
 go_wp2_with fail
 refine (O.out.1 _ HB.out).mono ?_
 rintro e w1 ⟨rfl,b⟩
 have HN:=Lib.hid (HB.out.trans (b.mono HB.out.size));clear HB b;have HB:=HN;clear HN
 go_wp2
 have HD:=Lib.hid HB.out.drew;clear HB;have HB:=HD;clear HD
 go_region_held3 (fun _=>True) (first | trivial | (go_keep;done)) (first | (go_at_call 36;refine Calls.mono (O.out.2.1 _ HB.out) ?_;rintro e w2 ⟨rfl,b⟩;have HN:=Lib.hid (HB.out.trans (b.mono HB.out.size));clear HB b;have HB:=HN;clear HN))
 go_wp2
 have HD:=Lib.hid HB.out.drew;clear HB;have HB:=HD;clear HD
 go_region_held3 (fun _=>True) (first | trivial | (go_keep;done)) (first | fail)
 go_wp2_with fail
 refine (O.out.2.2 _ HB.out).mono ?_
 rintro e w3 ⟨rfl,b⟩
 have HN:=Lib.hid (HB.out.trans (b.mono HB.out.size));clear HB b;have HB:=HN;clear HN
 go_wp2
 go_ret2
 exact ⟨rfl,HB.out⟩
theorem rParse_nD (s z D R A P r B V C C2:ByteArray) (n m:Nat) (x y:Int) (w:World) (s1:¬ (90:Int)<s.size) (hp:0<s.size) (h45:((s[0].toNat:Int)==45)=false) (hE:s.toList.isEmpty=false) (n0:((n:Int)==0)=false) (b0:(0:Int)≤(n:Int)) (b1:(n:Int)≤(s.size:Int)) (fD:s.extract 0 n=D) (fR:s.extract n s.size=R) (hR:R.toList.isEmpty=false) (hr0:0<R.size) (hr1:(1:Int)≤(R.size:Int)) (fr:R.extract 1 R.size=r) (m0:((m:Int)==0)=false) (m1:¬ (m:Int)<r.size) (k2:((R[0].toNat:Int)==47)=true) (k1:((R[0].toNat:Int)==46)=false) (k3:((R[0].toNat:Int) != 46)=true) (k4:((R[0].toNat:Int) != 47)=false) (hB:(B.toList == [48])=true)
  (h1:∀ W,Below w.heap.size w W→Calls Tryz.prog 35 #[.string s] W fun e W'=>e = .returned (.int .i64 n)∧Below W.heap.size W W')
  (h2:∀ W,Below w.heap.size w W→Calls Tryz.prog 36 #[.string D] W fun e W'=>e = .returned (.string A)∧Below W.heap.size W W')
  (h3:∀ W,Below w.heap.size w W→Calls Tryz.prog 35 #[.string r] W fun e W'=>e = .returned (.int .i64 m)∧Below W.heap.size W W')
  (h4:∀ W,Below w.heap.size w W→Calls Tryz.prog 36 #[.string r] W fun e W'=>e = .returned (.string B)∧Below W.heap.size W W')
  : Calls Tryz.prog 12 #[.string s] w fun e W'=>e = .returned (.tuple #[.string ⟨#[]⟩,.int .i64 12])∧Below w.heap.size w W':=by
 have O:=Lib.hid (And.intro h1 (And.intro h2 (And.intro h3 (h4))));clear h1 h2 h3 h4
 have hm9:s.size≤9223372036854775807:=by omega
 go_enter Tryz.func12,Tryz.ntmps12
 have HB:=Lib.hid (Below.refl w.heap.size w)
 go_wp2_with fail
 refine (O.out.1 _ HB.out).mono ?_
 rintro e w1 ⟨rfl,b⟩
 have HN:=Lib.hid (HB.out.trans (b.mono HB.out.size));clear HB b;have HB:=HN;clear HN
 go_wp2
 have HD:=Lib.hid HB.out.drew;clear HB;have HB:=HD;clear HD
 go_region_held3 (fun _=>True) (first | trivial | (go_keep;done)) (first | (go_at_call 36;refine Calls.mono (O.out.2.1 _ HB.out) ?_;rintro e w2 ⟨rfl,b⟩;have HN:=Lib.hid (HB.out.trans (b.mono HB.out.size));clear HB b;have HB:=HN;clear HN))
 go_wp2
 have HD:=Lib.hid HB.out.drew;clear HB;have HB:=HD;clear HD
 go_region_held3 (fun _=>True) (first | trivial | (go_keep;done)) (first | fail)
 go_wp2_with fail
 refine (O.out.2.2.1 _ HB.out).mono ?_
 rintro e w3 ⟨rfl,b⟩
 have HN:=Lib.hid (HB.out.trans (b.mono HB.out.size));clear HB b;have HB:=HN;clear HN
 go_wp2_with fail
 refine (O.out.2.2.2 _ HB.out).mono ?_
 rintro e w4 ⟨rfl,b⟩
 have HN:=Lib.hid (HB.out.trans (b.mono HB.out.size));clear HB b;have HB:=HN;clear HN
 go_wp2
 go_ret2
 exact ⟨rfl,HB.out⟩
theorem rParse_nE (s z D R A P r B V C C2:ByteArray) (n m:Nat) (x y:Int) (w:World) (s1:¬ (90:Int)<s.size) (hp:0<s.size) (h45:((s[0].toNat:Int)==45)=false) (hE:s.toList.isEmpty=false) (n0:((n:Int)==0)=false) (b0:(0:Int)≤(n:Int)) (b1:(n:Int)≤(s.size:Int)) (fD:s.extract 0 n=D) (fR:s.extract n s.size=R) (hR:R.toList.isEmpty=false) (hr0:0<R.size) (hr1:(1:Int)≤(R.size:Int)) (fr:R.extract 1 R.size=r) (m0:((m:Int)==0)=false) (m1:¬ (m:Int)<r.size) (k2:((R[0].toNat:Int)==47)=true) (k1:((R[0].toNat:Int)==46)=false) (k3:((R[0].toNat:Int) != 46)=true) (k4:((R[0].toNat:Int) != 47)=false) (hB:(B.toList == [48])=false)
  (h1:∀ W,Below w.heap.size w W→Calls Tryz.prog 35 #[.string s] W fun e W'=>e = .returned (.int .i64 n)∧Below W.heap.size W W')
  (h2:∀ W,Below w.heap.size w W→Calls Tryz.prog 36 #[.string D] W fun e W'=>e = .returned (.string A)∧Below W.heap.size W W')
  (h3:∀ W,Below w.heap.size w W→Calls Tryz.prog 35 #[.string r] W fun e W'=>e = .returned (.int .i64 m)∧Below W.heap.size W W')
  (h4:∀ W,Below w.heap.size w W→Calls Tryz.prog 36 #[.string r] W fun e W'=>e = .returned (.string B)∧Below W.heap.size W W')
  (h5:∀ W,Below w.heap.size w W→Calls Tryz.prog 27 #[.string ⟨#[49]⟩,.string A] W fun e W'=>e = .returned (.string P)∧Below W.heap.size W W')
  (h6:∀ W,Below w.heap.size w W→Calls Tryz.prog 37 #[.string P,.string B] W fun e W'=>e = .returned (.tuple #[.string C,.int .i64 x])∧Below W.heap.size W W')
  : Calls Tryz.prog 12 #[.string s] w fun e W'=>e = .returned (.tuple #[.string C,.int .i64 0])∧Below w.heap.size w W':=by
 have O:=Lib.hid (And.intro h1 (And.intro h2 (And.intro h3 (And.intro h4 (And.intro h5 (h6))))));clear h1 h2 h3 h4 h5 h6
 have hm9:s.size≤9223372036854775807:=by omega
 go_enter Tryz.func12,Tryz.ntmps12
 have HB:=Lib.hid (Below.refl w.heap.size w)
 go_wp2_with fail
 refine (O.out.1 _ HB.out).mono ?_
 rintro e w1 ⟨rfl,b⟩
 have HN:=Lib.hid (HB.out.trans (b.mono HB.out.size));clear HB b;have HB:=HN;clear HN
 go_wp2
 have HD:=Lib.hid HB.out.drew;clear HB;have HB:=HD;clear HD
 go_region_held3 (fun _=>True) (first | trivial | (go_keep;done)) (first | (go_at_call 36;refine Calls.mono (O.out.2.1 _ HB.out) ?_;rintro e w2 ⟨rfl,b⟩;have HN:=Lib.hid (HB.out.trans (b.mono HB.out.size));clear HB b;have HB:=HN;clear HN))
 go_wp2
 have HD:=Lib.hid HB.out.drew;clear HB;have HB:=HD;clear HD
 go_region_held3 (fun _=>True) (first | trivial | (go_keep;done)) (first | fail)
 go_wp2_with fail
 refine (O.out.2.2.1 _ HB.out).mono ?_
 rintro e w3 ⟨rfl,b⟩
 have HN:=Lib.hid (HB.out.trans (b.mono HB.out.size));clear HB b;have HB:=HN;clear HN
 go_wp2_with fail
 refine (O.out.2.2.2.1 _ HB.out).mono ?_
 rintro e w4 ⟨rfl,b⟩
 have HN:=Lib.hid (HB.out.trans (b.mono HB.out.size));clear HB b;have HB:=HN;clear HN
 go_wp2_with fail
 refine (O.out.2.2.2.2.1 _ HB.out).mono ?_
 rintro e w5 ⟨rfl,b⟩
 have HN:=Lib.hid (HB.out.trans (b.mono HB.out.size));clear HB b;have HB:=HN;clear HN
 go_wp2_with fail
 refine (O.out.2.2.2.2.2 _ HB.out).mono ?_
 rintro e w6 ⟨rfl,b⟩
 have HN:=Lib.hid (HB.out.trans (b.mono HB.out.size));clear HB b;have HB:=HN;clear HN
 go_wp2
 go_ret2
 exact ⟨rfl,HB.out⟩
theorem rParse_nF (s z D R A P r B V C C2:ByteArray) (n m:Nat) (x y:Int) (w:World) (s1:¬ (90:Int)<s.size) (hp:0<s.size) (h45:((s[0].toNat:Int)==45)=false) (hE:s.toList.isEmpty=false) (n0:((n:Int)==0)=false) (b0:(0:Int)≤(n:Int)) (b1:(n:Int)≤(s.size:Int)) (fD:s.extract 0 n=D) (fR:s.extract n s.size=R) (hR:R.toList.isEmpty=false) (hr0:0<R.size) (hr1:(1:Int)≤(R.size:Int)) (fr:R.extract 1 R.size=r) (m0:((m:Int)==0)=false) (m1:¬ (m:Int)<r.size) (k1:((R[0].toNat:Int)==46)=true) (k2:((R[0].toNat:Int)==47)=false) (k3:((R[0].toNat:Int) != 46)=false) (k4:((R[0].toNat:Int) != 47)=true)
  (h1:∀ W,Below w.heap.size w W→Calls Tryz.prog 35 #[.string s] W fun e W'=>e = .returned (.int .i64 n)∧Below W.heap.size W W')
  (h2:∀ W,Below w.heap.size w W→Calls Tryz.prog 36 #[.string D] W fun e W'=>e = .returned (.string A)∧Below W.heap.size W W')
  (h3:∀ W,Below w.heap.size w W→Calls Tryz.prog 35 #[.string r] W fun e W'=>e = .returned (.int .i64 m)∧Below W.heap.size W W')
  (h4:∀ W,Below w.heap.size w W→Calls Tryz.prog 36 #[.string r] W fun e W'=>e = .returned (.string B)∧Below W.heap.size W W')
  (h5:∀ W,Below w.heap.size w W→Calls Tryz.prog 28 #[.int .i64 m] W fun e W'=>e = .returned (.string V)∧Below W.heap.size W W')
  (h6:∀ W,Below w.heap.size w W→Calls Tryz.prog 37 #[.string B,.string V] W fun e W'=>e = .returned (.tuple #[.string C,.int .i64 x])∧Below W.heap.size W W')
  (h7:∀ W,Below w.heap.size w W→Calls Tryz.prog 38 #[.string A,.string C] W fun e W'=>e = .returned (.tuple #[.string C2,.int .i64 y])∧Below W.heap.size W W')
  (h8:∀ W,Below w.heap.size w W→Calls Tryz.prog 27 #[.string ⟨#[49]⟩,.string C2] W fun e W'=>e = .returned (.string P)∧Below W.heap.size W W')
  : Calls Tryz.prog 12 #[.string s] w fun e W'=>e = .returned (.tuple #[.string P,.int .i64 0])∧Below w.heap.size w W':=by
 have O:=Lib.hid (And.intro h1 (And.intro h2 (And.intro h3 (And.intro h4 (And.intro h5 (And.intro h6 (And.intro h7 (h8))))))));clear h1 h2 h3 h4 h5 h6 h7 h8
 have hm9:s.size≤9223372036854775807:=by omega
 go_enter Tryz.func12,Tryz.ntmps12
 have HB:=Lib.hid (Below.refl w.heap.size w)
 go_wp2_with fail
 refine (O.out.1 _ HB.out).mono ?_
 rintro e w1 ⟨rfl,b⟩
 have HN:=Lib.hid (HB.out.trans (b.mono HB.out.size));clear HB b;have HB:=HN;clear HN
 go_wp2
 have HD:=Lib.hid HB.out.drew;clear HB;have HB:=HD;clear HD
 go_region_held3 (fun _=>True) (first | trivial | (go_keep;done)) (first | (go_at_call 36;refine Calls.mono (O.out.2.1 _ HB.out) ?_;rintro e w2 ⟨rfl,b⟩;have HN:=Lib.hid (HB.out.trans (b.mono HB.out.size));clear HB b;have HB:=HN;clear HN))
 go_wp2
 have HD:=Lib.hid HB.out.drew;clear HB;have HB:=HD;clear HD
 go_region_held3 (fun _=>True) (first | trivial | (go_keep;done)) (first | fail)
 go_wp2_with fail
 refine (O.out.2.2.1 _ HB.out).mono ?_
 rintro e w3 ⟨rfl,b⟩
 have HN:=Lib.hid (HB.out.trans (b.mono HB.out.size));clear HB b;have HB:=HN;clear HN
 go_wp2_with fail
 refine (O.out.2.2.2.1 _ HB.out).mono ?_
 rintro e w4 ⟨rfl,b⟩
 have HN:=Lib.hid (HB.out.trans (b.mono HB.out.size));clear HB b;have HB:=HN;clear HN
 go_wp2_with fail
 refine (O.out.2.2.2.2.1 _ HB.out).mono ?_
 rintro e w5 ⟨rfl,b⟩
 have HN:=Lib.hid (HB.out.trans (b.mono HB.out.size));clear HB b;have HB:=HN;clear HN
 go_wp2_with fail
 refine (O.out.2.2.2.2.2.1 _ HB.out).mono ?_
 rintro e w6 ⟨rfl,b⟩
 have HN:=Lib.hid (HB.out.trans (b.mono HB.out.size));clear HB b;have HB:=HN;clear HN
 go_wp2_with fail
 refine (O.out.2.2.2.2.2.2.1 _ HB.out).mono ?_
 rintro e w7 ⟨rfl,b⟩
 have HN:=Lib.hid (HB.out.trans (b.mono HB.out.size));clear HB b;have HB:=HN;clear HN
 go_wp2_with fail
 refine (O.out.2.2.2.2.2.2.2 _ HB.out).mono ?_
 rintro e w8 ⟨rfl,b⟩
 have HN:=Lib.hid (HB.out.trans (b.mono HB.out.size));clear HB b;have HB:=HN;clear HN
 go_wp2
 go_ret2
 exact ⟨rfl,HB.out⟩
theorem rParse_pA (s z D R A P r B V C C2:ByteArray) (n m:Nat) (x y:Int) (w:World) (s1:¬ (90:Int)<s.size) (hp:0<s.size) (h45:((s[0].toNat:Int)==45)=true) (hE:s.toList.isEmpty=false) (ez:s.extract 1 s.size=z) (hs1:(1:Int)≤(s.size:Int))
  (h1:∀ W,Below w.heap.size w W→Calls Tryz.prog 35 #[.string z] W fun e W'=>e = .returned (.int .i64 0)∧Below W.heap.size W W')
  : Calls Tryz.prog 12 #[.string s] w fun e W'=>e = .returned (.tuple #[.string ⟨#[]⟩,.int .i64 3])∧Below w.heap.size w W':=by
 have O:=Lib.hid (h1);clear h1
 have hm9:s.size≤9223372036854775807:=by omega
 go_enter Tryz.func12,Tryz.ntmps12
 have HB:=Lib.hid (Below.refl w.heap.size w)
 go_wp2
 have HD:=Lib.hid HB.out.drew;clear HB;have HB:=HD;clear HD
 go_region_held3 (fun _=>True) (first | trivial | (go_keep;done)) (first | fail)
 go_wp2_with fail
 refine (O.out _ HB.out).mono ?_
 rintro e w1 ⟨rfl,b⟩
 have HN:=Lib.hid (HB.out.trans (b.mono HB.out.size));clear HB b;have HB:=HN;clear HN
 go_wp2
 go_ret2
 exact ⟨rfl,HB.out⟩
theorem rParse_pB (s z D R A P r B V C C2:ByteArray) (n m:Nat) (x y:Int) (w:World) (s1:¬ (90:Int)<s.size) (hp:0<s.size) (h45:((s[0].toNat:Int)==45)=true) (hE:s.toList.isEmpty=false) (ez:s.extract 1 s.size=z) (hs1:(1:Int)≤(s.size:Int)) (n0:((n:Int)==0)=false) (b0:(0:Int)≤(n:Int)) (b1:(n:Int)≤(z.size:Int)) (fD:z.extract 0 n=D) (fR:z.extract n z.size=R) (hR:R.toList.isEmpty=true)
  (h1:∀ W,Below w.heap.size w W→Calls Tryz.prog 35 #[.string z] W fun e W'=>e = .returned (.int .i64 n)∧Below W.heap.size W W')
  (h2:∀ W,Below w.heap.size w W→Calls Tryz.prog 36 #[.string D] W fun e W'=>e = .returned (.string A)∧Below W.heap.size W W')
  (h3:∀ W,Below w.heap.size w W→Calls Tryz.prog 27 #[.string ⟨#[45,49]⟩,.string A] W fun e W'=>e = .returned (.string P)∧Below W.heap.size W W')
  : Calls Tryz.prog 12 #[.string s] w fun e W'=>e = .returned (.tuple #[.string P,.int .i64 0])∧Below w.heap.size w W':=by
 have O:=Lib.hid (And.intro h1 (And.intro h2 (h3)));clear h1 h2 h3
 have hm9:s.size≤9223372036854775807:=by omega
 go_enter Tryz.func12,Tryz.ntmps12
 have HB:=Lib.hid (Below.refl w.heap.size w)
 go_wp2
 have HD:=Lib.hid HB.out.drew;clear HB;have HB:=HD;clear HD
 go_region_held3 (fun _=>True) (first | trivial | (go_keep;done)) (first | fail)
 go_wp2_with fail
 refine (O.out.1 _ HB.out).mono ?_
 rintro e w1 ⟨rfl,b⟩
 have HN:=Lib.hid (HB.out.trans (b.mono HB.out.size));clear HB b;have HB:=HN;clear HN
 go_wp2
 have HD:=Lib.hid HB.out.drew;clear HB;have HB:=HD;clear HD
 go_region_held3 (fun _=>True) (first | trivial | (go_keep;done)) (first | (go_at_call 36;refine Calls.mono (O.out.2.1 _ HB.out) ?_;rintro e w2 ⟨rfl,b⟩;have HN:=Lib.hid (HB.out.trans (b.mono HB.out.size));clear HB b;have HB:=HN;clear HN))
 go_wp2_with fail
 refine (O.out.2.2 _ HB.out).mono ?_
 rintro e w3 ⟨rfl,b⟩
 have HN:=Lib.hid (HB.out.trans (b.mono HB.out.size));clear HB b;have HB:=HN;clear HN
 go_wp2
 go_ret2
 exact ⟨rfl,HB.out⟩
theorem rParse_pC1 (s z D R A P r B V C C2:ByteArray) (n m:Nat) (x y:Int) (w:World) (s1:¬ (90:Int)<s.size) (hp:0<s.size) (h45:((s[0].toNat:Int)==45)=true) (hE:s.toList.isEmpty=false) (ez:s.extract 1 s.size=z) (hs1:(1:Int)≤(s.size:Int)) (n0:((n:Int)==0)=false) (b0:(0:Int)≤(n:Int)) (b1:(n:Int)≤(z.size:Int)) (fD:z.extract 0 n=D) (fR:z.extract n z.size=R) (hR:R.toList.isEmpty=false) (hr0:0<R.size) (hr1:(1:Int)≤(R.size:Int)) (fr:R.extract 1 R.size=r)
  (h1:∀ W,Below w.heap.size w W→Calls Tryz.prog 35 #[.string z] W fun e W'=>e = .returned (.int .i64 n)∧Below W.heap.size W W')
  (h2:∀ W,Below w.heap.size w W→Calls Tryz.prog 36 #[.string D] W fun e W'=>e = .returned (.string A)∧Below W.heap.size W W')
  (h3:∀ W,Below w.heap.size w W→Calls Tryz.prog 35 #[.string r] W fun e W'=>e = .returned (.int .i64 0)∧Below W.heap.size W W')
  : Calls Tryz.prog 12 #[.string s] w fun e W'=>e = .returned (.tuple #[.string ⟨#[]⟩,.int .i64 3])∧Below w.heap.size w W':=by
 have O:=Lib.hid (And.intro h1 (And.intro h2 (h3)));clear h1 h2 h3
 have hm9:s.size≤9223372036854775807:=by omega
 go_enter Tryz.func12,Tryz.ntmps12
 have HB:=Lib.hid (Below.refl w.heap.size w)
 go_wp2
 have HD:=Lib.hid HB.out.drew;clear HB;have HB:=HD;clear HD
 go_region_held3 (fun _=>True) (first | trivial | (go_keep;done)) (first | fail)
 go_wp2_with fail
 refine (O.out.1 _ HB.out).mono ?_
 rintro e w1 ⟨rfl,b⟩
 have HN:=Lib.hid (HB.out.trans (b.mono HB.out.size));clear HB b;have HB:=HN;clear HN
 go_wp2
 have HD:=Lib.hid HB.out.drew;clear HB;have HB:=HD;clear HD
 go_region_held3 (fun _=>True) (first | trivial | (go_keep;done)) (first | (go_at_call 36;refine Calls.mono (O.out.2.1 _ HB.out) ?_;rintro e w2 ⟨rfl,b⟩;have HN:=Lib.hid (HB.out.trans (b.mono HB.out.size));clear HB b;have HB:=HN;clear HN))
 go_wp2
 have HD:=Lib.hid HB.out.drew;clear HB;have HB:=HD;clear HD
 go_region_held3 (fun _=>True) (first | trivial | (go_keep;done)) (first | fail)
 go_wp2_with fail
 refine (O.out.2.2 _ HB.out).mono ?_
 rintro e w3 ⟨rfl,b⟩
 have HN:=Lib.hid (HB.out.trans (b.mono HB.out.size));clear HB b;have HB:=HN;clear HN
 go_wp2
 go_ret2
 exact ⟨rfl,HB.out⟩
theorem rParse_pC2 (s z D R A P r B V C C2:ByteArray) (n m:Nat) (x y:Int) (w:World) (s1:¬ (90:Int)<s.size) (hp:0<s.size) (h45:((s[0].toNat:Int)==45)=true) (hE:s.toList.isEmpty=false) (ez:s.extract 1 s.size=z) (hs1:(1:Int)≤(s.size:Int)) (n0:((n:Int)==0)=false) (b0:(0:Int)≤(n:Int)) (b1:(n:Int)≤(z.size:Int)) (fD:z.extract 0 n=D) (fR:z.extract n z.size=R) (hR:R.toList.isEmpty=false) (hr0:0<R.size) (hr1:(1:Int)≤(R.size:Int)) (fr:R.extract 1 R.size=r) (m0:((m:Int)==0)=false) (m1:(m:Int)<r.size)
  (h1:∀ W,Below w.heap.size w W→Calls Tryz.prog 35 #[.string z] W fun e W'=>e = .returned (.int .i64 n)∧Below W.heap.size W W')
  (h2:∀ W,Below w.heap.size w W→Calls Tryz.prog 36 #[.string D] W fun e W'=>e = .returned (.string A)∧Below W.heap.size W W')
  (h3:∀ W,Below w.heap.size w W→Calls Tryz.prog 35 #[.string r] W fun e W'=>e = .returned (.int .i64 m)∧Below W.heap.size W W')
  : Calls Tryz.prog 12 #[.string s] w fun e W'=>e = .returned (.tuple #[.string ⟨#[]⟩,.int .i64 3])∧Below w.heap.size w W':=by
 have O:=Lib.hid (And.intro h1 (And.intro h2 (h3)));clear h1 h2 h3
 have hm9:s.size≤9223372036854775807:=by omega
 go_enter Tryz.func12,Tryz.ntmps12
 have HB:=Lib.hid (Below.refl w.heap.size w)
 go_wp2
 have HD:=Lib.hid HB.out.drew;clear HB;have HB:=HD;clear HD
 go_region_held3 (fun _=>True) (first | trivial | (go_keep;done)) (first | fail)
 go_wp2_with fail
 refine (O.out.1 _ HB.out).mono ?_
 rintro e w1 ⟨rfl,b⟩
 have HN:=Lib.hid (HB.out.trans (b.mono HB.out.size));clear HB b;have HB:=HN;clear HN
 go_wp2
 have HD:=Lib.hid HB.out.drew;clear HB;have HB:=HD;clear HD
 go_region_held3 (fun _=>True) (first | trivial | (go_keep;done)) (first | (go_at_call 36;refine Calls.mono (O.out.2.1 _ HB.out) ?_;rintro e w2 ⟨rfl,b⟩;have HN:=Lib.hid (HB.out.trans (b.mono HB.out.size));clear HB b;have HB:=HN;clear HN))
 go_wp2
 have HD:=Lib.hid HB.out.drew;clear HB;have HB:=HD;clear HD
 go_region_held3 (fun _=>True) (first | trivial | (go_keep;done)) (first | fail)
 go_wp2_with fail
 refine (O.out.2.2 _ HB.out).mono ?_
 rintro e w3 ⟨rfl,b⟩
 have HN:=Lib.hid (HB.out.trans (b.mono HB.out.size));clear HB b;have HB:=HN;clear HN
 go_wp2
 go_ret2
 exact ⟨rfl,HB.out⟩
theorem rParse_pC3 (s z D R A P r B V C C2:ByteArray) (n m:Nat) (x y:Int) (w:World) (s1:¬ (90:Int)<s.size) (hp:0<s.size) (h45:((s[0].toNat:Int)==45)=true) (hE:s.toList.isEmpty=false) (ez:s.extract 1 s.size=z) (hs1:(1:Int)≤(s.size:Int)) (n0:((n:Int)==0)=false) (b0:(0:Int)≤(n:Int)) (b1:(n:Int)≤(z.size:Int)) (fD:z.extract 0 n=D) (fR:z.extract n z.size=R) (hR:R.toList.isEmpty=false) (hr0:0<R.size) (hr1:(1:Int)≤(R.size:Int)) (fr:R.extract 1 R.size=r) (m0:((m:Int)==0)=false) (m1:¬ (m:Int)<r.size) (k1:((R[0].toNat:Int)==46)=false) (k2:((R[0].toNat:Int)==47)=false) (k3:((R[0].toNat:Int) != 46)=true) (k4:((R[0].toNat:Int) != 47)=true)
  (h1:∀ W,Below w.heap.size w W→Calls Tryz.prog 35 #[.string z] W fun e W'=>e = .returned (.int .i64 n)∧Below W.heap.size W W')
  (h2:∀ W,Below w.heap.size w W→Calls Tryz.prog 36 #[.string D] W fun e W'=>e = .returned (.string A)∧Below W.heap.size W W')
  (h3:∀ W,Below w.heap.size w W→Calls Tryz.prog 35 #[.string r] W fun e W'=>e = .returned (.int .i64 m)∧Below W.heap.size W W')
  : Calls Tryz.prog 12 #[.string s] w fun e W'=>e = .returned (.tuple #[.string ⟨#[]⟩,.int .i64 3])∧Below w.heap.size w W':=by
 have O:=Lib.hid (And.intro h1 (And.intro h2 (h3)));clear h1 h2 h3
 have hm9:s.size≤9223372036854775807:=by omega
 go_enter Tryz.func12,Tryz.ntmps12
 have HB:=Lib.hid (Below.refl w.heap.size w)
 go_wp2
 have HD:=Lib.hid HB.out.drew;clear HB;have HB:=HD;clear HD
 go_region_held3 (fun _=>True) (first | trivial | (go_keep;done)) (first | fail)
 go_wp2_with fail
 refine (O.out.1 _ HB.out).mono ?_
 rintro e w1 ⟨rfl,b⟩
 have HN:=Lib.hid (HB.out.trans (b.mono HB.out.size));clear HB b;have HB:=HN;clear HN
 go_wp2
 have HD:=Lib.hid HB.out.drew;clear HB;have HB:=HD;clear HD
 go_region_held3 (fun _=>True) (first | trivial | (go_keep;done)) (first | (go_at_call 36;refine Calls.mono (O.out.2.1 _ HB.out) ?_;rintro e w2 ⟨rfl,b⟩;have HN:=Lib.hid (HB.out.trans (b.mono HB.out.size));clear HB b;have HB:=HN;clear HN))
 go_wp2
 have HD:=Lib.hid HB.out.drew;clear HB;have HB:=HD;clear HD
 go_region_held3 (fun _=>True) (first | trivial | (go_keep;done)) (first | fail)
 go_wp2_with fail
 refine (O.out.2.2 _ HB.out).mono ?_
 rintro e w3 ⟨rfl,b⟩
 have HN:=Lib.hid (HB.out.trans (b.mono HB.out.size));clear HB b;have HB:=HN;clear HN
 go_wp2
 go_ret2
 exact ⟨rfl,HB.out⟩
theorem rParse_pD (s z D R A P r B V C C2:ByteArray) (n m:Nat) (x y:Int) (w:World) (s1:¬ (90:Int)<s.size) (hp:0<s.size) (h45:((s[0].toNat:Int)==45)=true) (hE:s.toList.isEmpty=false) (ez:s.extract 1 s.size=z) (hs1:(1:Int)≤(s.size:Int)) (n0:((n:Int)==0)=false) (b0:(0:Int)≤(n:Int)) (b1:(n:Int)≤(z.size:Int)) (fD:z.extract 0 n=D) (fR:z.extract n z.size=R) (hR:R.toList.isEmpty=false) (hr0:0<R.size) (hr1:(1:Int)≤(R.size:Int)) (fr:R.extract 1 R.size=r) (m0:((m:Int)==0)=false) (m1:¬ (m:Int)<r.size) (k2:((R[0].toNat:Int)==47)=true) (k1:((R[0].toNat:Int)==46)=false) (k3:((R[0].toNat:Int) != 46)=true) (k4:((R[0].toNat:Int) != 47)=false) (hB:(B.toList == [48])=true)
  (h1:∀ W,Below w.heap.size w W→Calls Tryz.prog 35 #[.string z] W fun e W'=>e = .returned (.int .i64 n)∧Below W.heap.size W W')
  (h2:∀ W,Below w.heap.size w W→Calls Tryz.prog 36 #[.string D] W fun e W'=>e = .returned (.string A)∧Below W.heap.size W W')
  (h3:∀ W,Below w.heap.size w W→Calls Tryz.prog 35 #[.string r] W fun e W'=>e = .returned (.int .i64 m)∧Below W.heap.size W W')
  (h4:∀ W,Below w.heap.size w W→Calls Tryz.prog 36 #[.string r] W fun e W'=>e = .returned (.string B)∧Below W.heap.size W W')
  : Calls Tryz.prog 12 #[.string s] w fun e W'=>e = .returned (.tuple #[.string ⟨#[]⟩,.int .i64 12])∧Below w.heap.size w W':=by
 have O:=Lib.hid (And.intro h1 (And.intro h2 (And.intro h3 (h4))));clear h1 h2 h3 h4
 have hm9:s.size≤9223372036854775807:=by omega
 go_enter Tryz.func12,Tryz.ntmps12
 have HB:=Lib.hid (Below.refl w.heap.size w)
 go_wp2
 have HD:=Lib.hid HB.out.drew;clear HB;have HB:=HD;clear HD
 go_region_held3 (fun _=>True) (first | trivial | (go_keep;done)) (first | fail)
 go_wp2_with fail
 refine (O.out.1 _ HB.out).mono ?_
 rintro e w1 ⟨rfl,b⟩
 have HN:=Lib.hid (HB.out.trans (b.mono HB.out.size));clear HB b;have HB:=HN;clear HN
 go_wp2
 have HD:=Lib.hid HB.out.drew;clear HB;have HB:=HD;clear HD
 go_region_held3 (fun _=>True) (first | trivial | (go_keep;done)) (first | (go_at_call 36;refine Calls.mono (O.out.2.1 _ HB.out) ?_;rintro e w2 ⟨rfl,b⟩;have HN:=Lib.hid (HB.out.trans (b.mono HB.out.size));clear HB b;have HB:=HN;clear HN))
 go_wp2
 have HD:=Lib.hid HB.out.drew;clear HB;have HB:=HD;clear HD
 go_region_held3 (fun _=>True) (first | trivial | (go_keep;done)) (first | fail)
 go_wp2_with fail
 refine (O.out.2.2.1 _ HB.out).mono ?_
 rintro e w3 ⟨rfl,b⟩
 have HN:=Lib.hid (HB.out.trans (b.mono HB.out.size));clear HB b;have HB:=HN;clear HN
 go_wp2_with fail
 refine (O.out.2.2.2 _ HB.out).mono ?_
 rintro e w4 ⟨rfl,b⟩
 have HN:=Lib.hid (HB.out.trans (b.mono HB.out.size));clear HB b;have HB:=HN;clear HN
 go_wp2
 go_ret2
 exact ⟨rfl,HB.out⟩
theorem rParse_pE (s z D R A P r B V C C2:ByteArray) (n m:Nat) (x y:Int) (w:World) (s1:¬ (90:Int)<s.size) (hp:0<s.size) (h45:((s[0].toNat:Int)==45)=true) (hE:s.toList.isEmpty=false) (ez:s.extract 1 s.size=z) (hs1:(1:Int)≤(s.size:Int)) (n0:((n:Int)==0)=false) (b0:(0:Int)≤(n:Int)) (b1:(n:Int)≤(z.size:Int)) (fD:z.extract 0 n=D) (fR:z.extract n z.size=R) (hR:R.toList.isEmpty=false) (hr0:0<R.size) (hr1:(1:Int)≤(R.size:Int)) (fr:R.extract 1 R.size=r) (m0:((m:Int)==0)=false) (m1:¬ (m:Int)<r.size) (k2:((R[0].toNat:Int)==47)=true) (k1:((R[0].toNat:Int)==46)=false) (k3:((R[0].toNat:Int) != 46)=true) (k4:((R[0].toNat:Int) != 47)=false) (hB:(B.toList == [48])=false)
  (h1:∀ W,Below w.heap.size w W→Calls Tryz.prog 35 #[.string z] W fun e W'=>e = .returned (.int .i64 n)∧Below W.heap.size W W')
  (h2:∀ W,Below w.heap.size w W→Calls Tryz.prog 36 #[.string D] W fun e W'=>e = .returned (.string A)∧Below W.heap.size W W')
  (h3:∀ W,Below w.heap.size w W→Calls Tryz.prog 35 #[.string r] W fun e W'=>e = .returned (.int .i64 m)∧Below W.heap.size W W')
  (h4:∀ W,Below w.heap.size w W→Calls Tryz.prog 36 #[.string r] W fun e W'=>e = .returned (.string B)∧Below W.heap.size W W')
  (h5:∀ W,Below w.heap.size w W→Calls Tryz.prog 27 #[.string ⟨#[45,49]⟩,.string A] W fun e W'=>e = .returned (.string P)∧Below W.heap.size W W')
  (h6:∀ W,Below w.heap.size w W→Calls Tryz.prog 37 #[.string P,.string B] W fun e W'=>e = .returned (.tuple #[.string C,.int .i64 x])∧Below W.heap.size W W')
  : Calls Tryz.prog 12 #[.string s] w fun e W'=>e = .returned (.tuple #[.string C,.int .i64 0])∧Below w.heap.size w W':=by
 have O:=Lib.hid (And.intro h1 (And.intro h2 (And.intro h3 (And.intro h4 (And.intro h5 (h6))))));clear h1 h2 h3 h4 h5 h6
 have hm9:s.size≤9223372036854775807:=by omega
 go_enter Tryz.func12,Tryz.ntmps12
 have HB:=Lib.hid (Below.refl w.heap.size w)
 go_wp2
 have HD:=Lib.hid HB.out.drew;clear HB;have HB:=HD;clear HD
 go_region_held3 (fun _=>True) (first | trivial | (go_keep;done)) (first | fail)
 go_wp2_with fail
 refine (O.out.1 _ HB.out).mono ?_
 rintro e w1 ⟨rfl,b⟩
 have HN:=Lib.hid (HB.out.trans (b.mono HB.out.size));clear HB b;have HB:=HN;clear HN
 go_wp2
 have HD:=Lib.hid HB.out.drew;clear HB;have HB:=HD;clear HD
 go_region_held3 (fun _=>True) (first | trivial | (go_keep;done)) (first | (go_at_call 36;refine Calls.mono (O.out.2.1 _ HB.out) ?_;rintro e w2 ⟨rfl,b⟩;have HN:=Lib.hid (HB.out.trans (b.mono HB.out.size));clear HB b;have HB:=HN;clear HN))
 go_wp2
 have HD:=Lib.hid HB.out.drew;clear HB;have HB:=HD;clear HD
 go_region_held3 (fun _=>True) (first | trivial | (go_keep;done)) (first | fail)
 go_wp2_with fail
 refine (O.out.2.2.1 _ HB.out).mono ?_
 rintro e w3 ⟨rfl,b⟩
 have HN:=Lib.hid (HB.out.trans (b.mono HB.out.size));clear HB b;have HB:=HN;clear HN
 go_wp2_with fail
 refine (O.out.2.2.2.1 _ HB.out).mono ?_
 rintro e w4 ⟨rfl,b⟩
 have HN:=Lib.hid (HB.out.trans (b.mono HB.out.size));clear HB b;have HB:=HN;clear HN
 go_wp2_with fail
 refine (O.out.2.2.2.2.1 _ HB.out).mono ?_
 rintro e w5 ⟨rfl,b⟩
 have HN:=Lib.hid (HB.out.trans (b.mono HB.out.size));clear HB b;have HB:=HN;clear HN
 go_wp2_with fail
 refine (O.out.2.2.2.2.2 _ HB.out).mono ?_
 rintro e w6 ⟨rfl,b⟩
 have HN:=Lib.hid (HB.out.trans (b.mono HB.out.size));clear HB b;have HB:=HN;clear HN
 go_wp2
 go_ret2
 exact ⟨rfl,HB.out⟩
theorem rParse_pF (s z D R A P r B V C C2:ByteArray) (n m:Nat) (x y:Int) (w:World) (s1:¬ (90:Int)<s.size) (hp:0<s.size) (h45:((s[0].toNat:Int)==45)=true) (hE:s.toList.isEmpty=false) (ez:s.extract 1 s.size=z) (hs1:(1:Int)≤(s.size:Int)) (n0:((n:Int)==0)=false) (b0:(0:Int)≤(n:Int)) (b1:(n:Int)≤(z.size:Int)) (fD:z.extract 0 n=D) (fR:z.extract n z.size=R) (hR:R.toList.isEmpty=false) (hr0:0<R.size) (hr1:(1:Int)≤(R.size:Int)) (fr:R.extract 1 R.size=r) (m0:((m:Int)==0)=false) (m1:¬ (m:Int)<r.size) (k1:((R[0].toNat:Int)==46)=true) (k2:((R[0].toNat:Int)==47)=false) (k3:((R[0].toNat:Int) != 46)=false) (k4:((R[0].toNat:Int) != 47)=true)
  (h1:∀ W,Below w.heap.size w W→Calls Tryz.prog 35 #[.string z] W fun e W'=>e = .returned (.int .i64 n)∧Below W.heap.size W W')
  (h2:∀ W,Below w.heap.size w W→Calls Tryz.prog 36 #[.string D] W fun e W'=>e = .returned (.string A)∧Below W.heap.size W W')
  (h3:∀ W,Below w.heap.size w W→Calls Tryz.prog 35 #[.string r] W fun e W'=>e = .returned (.int .i64 m)∧Below W.heap.size W W')
  (h4:∀ W,Below w.heap.size w W→Calls Tryz.prog 36 #[.string r] W fun e W'=>e = .returned (.string B)∧Below W.heap.size W W')
  (h5:∀ W,Below w.heap.size w W→Calls Tryz.prog 28 #[.int .i64 m] W fun e W'=>e = .returned (.string V)∧Below W.heap.size W W')
  (h6:∀ W,Below w.heap.size w W→Calls Tryz.prog 37 #[.string B,.string V] W fun e W'=>e = .returned (.tuple #[.string C,.int .i64 x])∧Below W.heap.size W W')
  (h7:∀ W,Below w.heap.size w W→Calls Tryz.prog 38 #[.string A,.string C] W fun e W'=>e = .returned (.tuple #[.string C2,.int .i64 y])∧Below W.heap.size W W')
  (h8:∀ W,Below w.heap.size w W→Calls Tryz.prog 27 #[.string ⟨#[45,49]⟩,.string C2] W fun e W'=>e = .returned (.string P)∧Below W.heap.size W W')
  : Calls Tryz.prog 12 #[.string s] w fun e W'=>e = .returned (.tuple #[.string P,.int .i64 0])∧Below w.heap.size w W':=by
 have O:=Lib.hid (And.intro h1 (And.intro h2 (And.intro h3 (And.intro h4 (And.intro h5 (And.intro h6 (And.intro h7 (h8))))))));clear h1 h2 h3 h4 h5 h6 h7 h8
 have hm9:s.size≤9223372036854775807:=by omega
 go_enter Tryz.func12,Tryz.ntmps12
 have HB:=Lib.hid (Below.refl w.heap.size w)
 go_wp2
 have HD:=Lib.hid HB.out.drew;clear HB;have HB:=HD;clear HD
 go_region_held3 (fun _=>True) (first | trivial | (go_keep;done)) (first | fail)
 go_wp2_with fail
 refine (O.out.1 _ HB.out).mono ?_
 rintro e w1 ⟨rfl,b⟩
 have HN:=Lib.hid (HB.out.trans (b.mono HB.out.size));clear HB b;have HB:=HN;clear HN
 go_wp2
 have HD:=Lib.hid HB.out.drew;clear HB;have HB:=HD;clear HD
 go_region_held3 (fun _=>True) (first | trivial | (go_keep;done)) (first | (go_at_call 36;refine Calls.mono (O.out.2.1 _ HB.out) ?_;rintro e w2 ⟨rfl,b⟩;have HN:=Lib.hid (HB.out.trans (b.mono HB.out.size));clear HB b;have HB:=HN;clear HN))
 go_wp2
 have HD:=Lib.hid HB.out.drew;clear HB;have HB:=HD;clear HD
 go_region_held3 (fun _=>True) (first | trivial | (go_keep;done)) (first | fail)
 go_wp2_with fail
 refine (O.out.2.2.1 _ HB.out).mono ?_
 rintro e w3 ⟨rfl,b⟩
 have HN:=Lib.hid (HB.out.trans (b.mono HB.out.size));clear HB b;have HB:=HN;clear HN
 go_wp2_with fail
 refine (O.out.2.2.2.1 _ HB.out).mono ?_
 rintro e w4 ⟨rfl,b⟩
 have HN:=Lib.hid (HB.out.trans (b.mono HB.out.size));clear HB b;have HB:=HN;clear HN
 go_wp2_with fail
 refine (O.out.2.2.2.2.1 _ HB.out).mono ?_
 rintro e w5 ⟨rfl,b⟩
 have HN:=Lib.hid (HB.out.trans (b.mono HB.out.size));clear HB b;have HB:=HN;clear HN
 go_wp2_with fail
 refine (O.out.2.2.2.2.2.1 _ HB.out).mono ?_
 rintro e w6 ⟨rfl,b⟩
 have HN:=Lib.hid (HB.out.trans (b.mono HB.out.size));clear HB b;have HB:=HN;clear HN
 go_wp2_with fail
 refine (O.out.2.2.2.2.2.2.1 _ HB.out).mono ?_
 rintro e w7 ⟨rfl,b⟩
 have HN:=Lib.hid (HB.out.trans (b.mono HB.out.size));clear HB b;have HB:=HN;clear HN
 go_wp2_with fail
 refine (O.out.2.2.2.2.2.2.2 _ HB.out).mono ?_
 rintro e w8 ⟨rfl,b⟩
 have HN:=Lib.hid (HB.out.trans (b.mono HB.out.size));clear HB b;have HB:=HN;clear HN
 go_wp2
 go_ret2
 exact ⟨rfl,HB.out⟩
theorem rParse_long (s:ByteArray) (w:World) (s1:(90:Int)<s.size) :
  Calls Tryz.prog 12 #[.string s] w fun e W'=>e = .returned (.tuple #[.string ⟨#[]⟩,.int .i64 4])∧Below w.heap.size w W':=by
 go_enter Tryz.func12,Tryz.ntmps12
 go_wp2
 go_ret2
 exact ⟨rfl,Below.refl _ _⟩
theorem cutZ {Z:ByteArray} {D R:List UInt8} (h:Z.data.toList=D++R):Z.extract 0 D.length=bO D∧Z.extract D.length Z.size=bO R∧D.length≤Z.size:=by
 have hz:Z=bO (D++R):=by rw [←h,bO_of]
 subst hz
 refine ⟨?_,?_,by rw [bO_size,List.length_append];omega⟩
 ·rw [ext_take,List.take_left' rfl]
 ·rw [ext_drop,List.drop_left' rfl]
theorem bne_t {x y:Int} (h:(x==y)=false):(x != y)=true:=by rw [bne,h];rfl
theorem bne_f {x y:Int} (h:(x==y)=true):(x != y)=false:=by rw [bne,h];rfl
theorem tailB (c:UInt8) (r:List UInt8):(bO (c::r)).extract 1 (bO (c::r)).size=bO r∧0<(bO (c::r)).size∧∀ h:0<(bO (c::r)).size,(bO (c::r))[0]'h=c:=by
 refine ⟨?_,by rw [bO_size];exact Nat.succ_pos _,fun h=>rfl⟩
 rw [ext_drop];rfl
theorem neg_ext {s:ByteArray} (hn:isNeg s.data.toList=true):s.extract 1 s.size=zB s:=by
 apply bytes_ext
 rw [show (zB s).data.toList=szL s.data.toList from bO_data _,szL_neg hn,Lib.extract_data,List.take_of_length_le (by rw [List.length_drop,size_len];omega)]
theorem ne_empty {s:ByteArray} (hp:0<s.size):s.toList.isEmpty=false:=by
 rw [ByteArray.toList_eq]
 cases hd:s.data.toList with
 | nil=>have hl:s.data.toList.length=s.size:=rfl;rw [hd] at hl;simp at hl;omega
 | cons a t=>rfl
theorem is_empty {s:ByteArray} (hp:s.data.toList = []):s.toList.isEmpty=true:=by rw [ByteArray.toList_eq,hp];rfl
theorem s_one:strQ 1=⟨#[49]⟩:=strQ_one
theorem s_mone:strQ (-1)=⟨#[45,49]⟩:=by decide+kernel
theorem mone_bq:Bq 1 (-1):=by constructor <;> decide+kernel
theorem wz_str {D:List UInt8} (h:∀ c∈D,isDig c=true):bO (wz D)=strQ (((natOf D:Nat):Int):Rat):=by rw [wz_dec h,strB_dec,strQ_int]
theorem nat_bq {D:List UInt8} (h:∀ c∈D,isDig c=true) (hl:D.length≤90):Bq 90 (((natOf D:Nat):Int):Rat):=by
 refine Bq_int (by decide) ?_
 show Int.natAbs _<_
 rw [Int.natAbs_natCast]
 exact Nat.lt_of_lt_of_le (natOf_tenTo D h) (tenTo_mono hl)
theorem rwhD (D:List UInt8) (w:World) (h:dgs D=true) (hl:D.length≤90) :
  Calls Tryz.prog 36 #[.string (bO D)] w fun e W'=>e = .returned (.string (strQ (((natOf D:Nat):Int):Rat)))∧Below w.heap.size w W':=by
 have c:=rwh (bO D) w (by rw [bO_size];omega) (by rw [bO_size];exact List.length_pos_iff.2 (dgs_ne h))
 rwa [bO_data,wz_str (dgs_all h)] at c
section
variable (s:ByteArray) (w:World) (h9:s.size≤90) (T:TabM w)
include h9 T
theorem rdgZ (k:Nat) (hk:ndg (szL s.data.toList)=k) (W:World):Calls Tryz.prog 35 #[.string (zB s)] W fun e W'=>e = .returned (.int .i64 k)∧Below W.heap.size W W':=by
 have hl:s.data.toList.length=s.size:=rfl
 have c:=rdg (zB s) W (by show (bO _).size≤_;rw [bO_size];have:=szL_len s.data.toList;omega)
 rwa [show (zB s).data.toList=szL s.data.toList from bO_data _,hk] at c
theorem rP_A (hd:ndg (szL s.data.toList)=0) :
  Calls Tryz.prog 12 #[.string s] w fun e W'=>e = .returned (.tuple #[.string ⟨#[]⟩,.int .i64 3])∧Below w.heap.size w W':=by
 have kd:=fun W (_:Below w.heap.size w W)=>rdgZ s w h9 T 0 hd W
 cases hn:isNeg s.data.toList
 ·have ez:zB s=s:=by unfold zB szL;rw [hn];exact bO_of s
  rw [ez] at kd
  by_cases h0:s.size=0
  ·exact rParse_nA0 s s s s s s s s s s s 0 0 0 0 w (by omega) (is_empty (data_nil h0)) kd
  ·have hp:0<s.size:=by omega
   exact rParse_nA s s s s s s s s s s s 0 0 0 0 w (by omega) hp ((isNeg_pos hp).trans hn) (ne_empty hp) kd
 ·have hp:=isNeg_size hn
  exact rParse_pA s (zB s) s s s s s s s s s 0 0 0 0 w (by omega) hp ((isNeg_pos hp).trans hn) (ne_empty hp) (neg_ext hn) (by omega) kd
theorem rP_B (D:List UInt8) (hl0:szL s.data.toList=D) (hd:dgs D=true) :
  Calls Tryz.prog 12 #[.string s] w fun e W'=>e = .returned (.tuple #[.string (strQ ((if isNeg s.data.toList then -1 else 1)*(((natOf D:Nat):Int):Rat))),.int .i64 0])∧Below w.heap.size w W':=by
 have hl:s.data.toList.length=s.size:=rfl
 have hsz:=szL_len s.data.toList
 have zd:(zB s).data.toList=D ++ []:=by rw [List.append_nil,←hl0];exact bO_data _
 have hne:0<D.length:=List.length_pos_iff.2 (dgs_ne hd)
 obtain ⟨z1,z2,z3⟩:=cutZ zd
 have kd:=fun W (_:Below w.heap.size w W)=>rdgZ s w h9 T D.length (by rw [hl0];exact ndg_all (dgs_all hd)) W
 have bq:=nat_bq (dgs_all hd) (by rw [hl0] at hsz;omega)
 have kw:=fun W (_:Below w.heap.size w W)=>rwhD D W hd (by rw [hl0] at hsz;omega)
 have hp:0<s.size:=by rw [hl0] at hsz;omega
 cases hn:isNeg s.data.toList
 ·have ez:zB s=s:=by unfold zB szL;rw [hn];exact bO_of s
  rw [ez] at kd z1 z2 z3
  refine rParse_nB s s (bO D) (bO []) _ _ s s s s s D.length 0 0 0 w (by omega) hp ((isNeg_pos hp).trans hn) (ne_empty hp) (by rw [beq_eq_false_iff_ne];omega) (by omega) (by omega) z1 z2 (is_empty (bO_data [])) kd kw (fun W hW => ?_)
  rw [←s_one]
  exact rprod 1 _ W Bq_one bq (by decide) (T.next hW)
 ·refine rParse_pB s (zB s) (bO D) (bO []) _ _ s s s s s D.length 0 0 0 w (by omega) hp ((isNeg_pos hp).trans hn) (ne_empty hp) (neg_ext hn) (by omega) (by rw [beq_eq_false_iff_ne];omega) (by omega) (by omega) z1 z2 (is_empty (bO_data [])) kd kw (fun W hW => ?_)
  rw [←s_mone]
  exact rprod (-1) _ W mone_bq bq (by decide) (T.next hW)
theorem rP_C (D r:List UInt8) (c:UInt8) (hl0:szL s.data.toList=D++c::r) (hd:dgs D=true) (hc:isDig c=false) (hb:ndg r=0∨ndg r<r.length∨c≠46∧c≠47) :
  Calls Tryz.prog 12 #[.string s] w fun e W'=>e = .returned (.tuple #[.string ⟨#[]⟩,.int .i64 3])∧Below w.heap.size w W':=by
 have hl:s.data.toList.length=s.size:=rfl
 have hsz:=szL_len s.data.toList
 have zd:(zB s).data.toList=D++c::r:=by rw [←hl0];exact bO_data _
 have hne:0<D.length:=List.length_pos_iff.2 (dgs_ne hd)
 obtain ⟨z1,z2,z3⟩:=cutZ zd
 obtain ⟨t1,t2,t3⟩:=tailB c r
 have t4:=t3 t2
 have hlen:D.length+(r.length+1)≤90:=by rw [hl0,List.length_append,List.length_cons] at hsz;omega
 have kd:=fun W (_:Below w.heap.size w W)=>rdgZ s w h9 T D.length (by rw [hl0];exact ndg_app (dgs_all hd) hc r) W
 have bq:=nat_bq (dgs_all hd) (by omega)
 have kw:=fun W (_:Below w.heap.size w W)=>rwhD D W hd (by omega)
 have hp:0<s.size:=by rw [hl0,List.length_append] at hsz;omega
 have kr:∀ W,Below w.heap.size w W→Calls Tryz.prog 35 #[.string (bO r)] W fun e W'=>e = .returned (.int .i64 (ndg r:Nat))∧Below W.heap.size W W':=fun W _=>by
  have k:=rdg (bO r) W (by rw [bO_size];omega)
  rwa [bO_data] at k
 have hrl:(bO r).size=r.length:=bO_size r
 have k46:c≠46→((((bO (c::r))[0]'t2).toNat:Int)==46)=false:=fun h=>by rw [t4,beq_eq_false_iff_ne];exact fun e=>h (UInt8.toNat_inj.1 (by have:(46:UInt8).toNat=46:=rfl;omega))
 have k47:c≠47→((((bO (c::r))[0]'t2).toNat:Int)==47)=false:=fun h=>by rw [t4,beq_eq_false_iff_ne];exact fun e=>h (UInt8.toNat_inj.1 (by have:(47:UInt8).toNat=47:=rfl;omega))
 by_cases g1:ndg r=0
 ·rw [g1] at kr
  cases hn:isNeg s.data.toList
  ·have ez:zB s=s:=by unfold zB szL;rw [hn];exact bO_of s
   rw [ez] at kd z1 z2 z3
   exact rParse_nC1 s s (bO D) (bO (c::r)) _ s (bO r) s s s s D.length 0 0 0 w (by omega) hp ((isNeg_pos hp).trans hn) (ne_empty hp) (by rw [beq_eq_false_iff_ne];omega) (by omega) (by omega) z1 z2 (ne_empty t2) t2 (by omega) t1  kd kw kr
  ·exact rParse_pC1 s (zB s) (bO D) (bO (c::r)) _ s (bO r) s s s s D.length 0 0 0 w (by omega) hp ((isNeg_pos hp).trans hn) (ne_empty hp) (neg_ext hn) (by omega) (by rw [beq_eq_false_iff_ne];omega) (by omega) (by omega) z1 z2 (ne_empty t2) t2 (by omega) t1  kd kw kr
 ·have g1':(((ndg r:Nat):Int)==0)=false:=by rw [beq_eq_false_iff_ne];omega
  by_cases g2:ndg r<r.length
  ·have g3:((ndg r:Nat):Int)<(bO r).size:=by omega
   cases hn:isNeg s.data.toList
   ·have ez:zB s=s:=by unfold zB szL;rw [hn];exact bO_of s
    rw [ez] at kd z1 z2 z3
    exact rParse_nC2 s s (bO D) (bO (c::r)) _ s (bO r) s s s s D.length (ndg r) 0 0 w (by omega) hp ((isNeg_pos hp).trans hn) (ne_empty hp) (by rw [beq_eq_false_iff_ne];omega) (by omega) (by omega) z1 z2 (ne_empty t2) t2 (by omega) t1 g1' g3 kd kw kr
   ·exact rParse_pC2 s (zB s) (bO D) (bO (c::r)) _ s (bO r) s s s s D.length (ndg r) 0 0 w (by omega) hp ((isNeg_pos hp).trans hn) (ne_empty hp) (neg_ext hn) (by omega) (by rw [beq_eq_false_iff_ne];omega) (by omega) (by omega) z1 z2 (ne_empty t2) t2 (by omega) t1 g1' g3 kd kw kr
  ·have g3:¬ ((ndg r:Nat):Int)<(bO r).size:=by omega
   have hcc:c≠46∧c≠47:=by
    rcases hb with q | q | q
    ·exact absurd q g1
    ·exact absurd q g2
    ·exact q
   cases hn:isNeg s.data.toList
   ·have ez:zB s=s:=by unfold zB szL;rw [hn];exact bO_of s
    rw [ez] at kd z1 z2 z3
    exact rParse_nC3 s s (bO D) (bO (c::r)) _ s (bO r) s s s s D.length (ndg r) 0 0 w (by omega) hp ((isNeg_pos hp).trans hn) (ne_empty hp) (by rw [beq_eq_false_iff_ne];omega) (by omega) (by omega) z1 z2 (ne_empty t2) t2 (by omega) t1 g1' g3 (k46 hcc.1) (k47 hcc.2) (bne_t (k46 hcc.1)) (bne_t (k47 hcc.2)) kd kw kr
   ·exact rParse_pC3 s (zB s) (bO D) (bO (c::r)) _ s (bO r) s s s s D.length (ndg r) 0 0 w (by omega) hp ((isNeg_pos hp).trans hn) (ne_empty hp) (neg_ext hn) (by omega) (by rw [beq_eq_false_iff_ne];omega) (by omega) (by omega) z1 z2 (ne_empty t2) t2 (by omega) t1 g1' g3 (k46 hcc.1) (k47 hcc.2) (bne_t (k46 hcc.1)) (bne_t (k47 hcc.2)) kd kw kr
theorem rP_D (D r:List UInt8) (hl0:szL s.data.toList=D++47::r) (hd:dgs D=true) (hr:dgs r=true) (h0:natOf r=0) :
  Calls Tryz.prog 12 #[.string s] w fun e W'=>e = .returned (.tuple #[.string ⟨#[]⟩,.int .i64 12])∧Below w.heap.size w W':=by
 have hl:s.data.toList.length=s.size:=rfl
 have hsz:=szL_len s.data.toList
 have zd:(zB s).data.toList=D++47::r:=by rw [←hl0];exact bO_data _
 have hne:0<D.length:=List.length_pos_iff.2 (dgs_ne hd)
 obtain ⟨z1,z2,z3⟩:=cutZ zd
 obtain ⟨t1,t2,t3⟩:=tailB 47 r
 have t4:=t3 t2
 have hlen:D.length+(r.length+1)≤90:=by rw [hl0,List.length_append,List.length_cons] at hsz;omega
 have kd:=fun W (_:Below w.heap.size w W)=>rdgZ s w h9 T D.length (by rw [hl0];exact ndg_app (dgs_all hd) (by decide) r) W
 have bq:=nat_bq (dgs_all hd) (by omega)
 have kw:=fun W (_:Below w.heap.size w W)=>rwhD D W hd (by omega)
 have hp:0<s.size:=by rw [hl0,List.length_append] at hsz;omega
 have kr:∀ W,Below w.heap.size w W→Calls Tryz.prog 35 #[.string (bO r)] W fun e W'=>e = .returned (.int .i64 (ndg r:Nat))∧Below W.heap.size W W':=fun W _=>by
  have k:=rdg (bO r) W (by rw [bO_size];omega)
  rwa [bO_data] at k
 have hrl:(bO r).size=r.length:=bO_size r
 have hra:=dgs_all hr
 rw [ndg_all hra] at kr
 have hr0:0<r.length:=List.length_pos_iff.2 (dgs_ne hr)
 have g1':(((r.length:Nat):Int)==0)=false:=by rw [beq_eq_false_iff_ne];omega
 have g3:¬ ((r.length:Nat):Int)<(bO r).size:=by omega
 have kB:=fun W (_:Below w.heap.size w W)=>rwhD r W hr (by omega)
 have bqr:=nat_bq hra (by omega)
 have k46:((((bO (47::r))[0]'t2).toNat:Int)==46)=false:=by rw [t4];rfl
 have k47:((((bO (47::r))[0]'t2).toNat:Int)==47)=true:=by rw [t4];rfl
 have hB:((strQ (((natOf r:Nat):Int):Rat)).toList == [48])=true:=by rw [h0];exact strQ_is0 0
 cases hn:isNeg s.data.toList
 ·have ez:zB s=s:=by unfold zB szL;rw [hn];exact bO_of s
  rw [ez] at kd z1 z2 z3
  exact rParse_nD s s (bO D) (bO (47::r)) _ s (bO r) _ s s s D.length r.length 0 0 w (by omega) hp ((isNeg_pos hp).trans hn) (ne_empty hp) (by rw [beq_eq_false_iff_ne];omega) (by omega) (by omega) z1 z2 (ne_empty t2) t2 (by omega) t1 g1' g3 k47 k46 (bne_t k46) (bne_f k47) hB kd kw kr kB
 ·exact rParse_pD s (zB s) (bO D) (bO (47::r)) _ s (bO r) _ s s s D.length r.length 0 0 w (by omega) hp ((isNeg_pos hp).trans hn) (ne_empty hp) (neg_ext hn) (by omega) (by rw [beq_eq_false_iff_ne];omega) (by omega) (by omega) z1 z2 (ne_empty t2) t2 (by omega) t1 g1' g3 k47 k46 (bne_t k46) (bne_f k47) hB kd kw kr kB
theorem rP_E (D r:List UInt8) (hl0:szL s.data.toList=D++47::r) (hd:dgs D=true) (hr:dgs r=true) (h0:natOf r≠0) :
  Calls Tryz.prog 12 #[.string s] w fun e W'=>e = .returned (.tuple #[.string (strQ ((if isNeg s.data.toList then -1 else 1)*(((natOf D:Nat):Int):Rat) / (((natOf r:Nat):Int):Rat))),.int .i64 0])∧Below w.heap.size w W':=by
 have hl:s.data.toList.length=s.size:=rfl
 have hsz:=szL_len s.data.toList
 have zd:(zB s).data.toList=D++47::r:=by rw [←hl0];exact bO_data _
 have hne:0<D.length:=List.length_pos_iff.2 (dgs_ne hd)
 obtain ⟨z1,z2,z3⟩:=cutZ zd
 obtain ⟨t1,t2,t3⟩:=tailB 47 r
 have t4:=t3 t2
 have hlen:D.length+(r.length+1)≤90:=by rw [hl0,List.length_append,List.length_cons] at hsz;omega
 have kd:=fun W (_:Below w.heap.size w W)=>rdgZ s w h9 T D.length (by rw [hl0];exact ndg_app (dgs_all hd) (by decide) r) W
 have bq:=nat_bq (dgs_all hd) (by omega)
 have kw:=fun W (_:Below w.heap.size w W)=>rwhD D W hd (by omega)
 have hp:0<s.size:=by rw [hl0,List.length_append] at hsz;omega
 have kr:∀ W,Below w.heap.size w W→Calls Tryz.prog 35 #[.string (bO r)] W fun e W'=>e = .returned (.int .i64 (ndg r:Nat))∧Below W.heap.size W W':=fun W _=>by
  have k:=rdg (bO r) W (by rw [bO_size];omega)
  rwa [bO_data] at k
 have hrl:(bO r).size=r.length:=bO_size r
 have hra:=dgs_all hr
 rw [ndg_all hra] at kr
 have hr0:0<r.length:=List.length_pos_iff.2 (dgs_ne hr)
 have g1':(((r.length:Nat):Int)==0)=false:=by rw [beq_eq_false_iff_ne];omega
 have g3:¬ ((r.length:Nat):Int)<(bO r).size:=by omega
 have kB:=fun W (_:Below w.heap.size w W)=>rwhD r W hr (by omega)
 have bqr:=nat_bq hra (by omega)
 have k46:((((bO (47::r))[0]'t2).toNat:Int)==46)=false:=by rw [t4];rfl
 have k47:((((bO (47::r))[0]'t2).toNat:Int)==47)=true:=by rw [t4];rfl
 have hB:((strQ (((natOf r:Nat):Int):Rat)).toList == [48])=false:=by rw [strQ_is0];exact decide_eq_false (cast_ne h0)
 have kq:∀ y:Rat,Bq 91 y→∀ W,Below w.heap.size w W→Calls Tryz.prog 37 #[.string (strQ y),.string (strQ (((natOf r:Nat):Int):Rat))] W fun e W'=>e = .returned (.tuple #[.string (strQ (y / (((natOf r:Nat):Int):Rat))),.int .i64 0])∧Below W.heap.size W W':=fun y hy W hW=>by
  obtain ⟨a1,a2,_⟩:=qdiv_ok hy bqr (by decide) (cast_ne h0)
  have sy:Sq y:=hy.lim (by decide)
  have sr:Sq (((natOf r:Nat):Int):Rat):=bqr.lim (by decide)
  have k:=rDiv_any (strQ y) (strQ (((natOf r:Nat):Int):Rat)) W sy.size sr.size (T.next hW).1
  rw [(op_q sy sr).1,(op_q sy sr).2] at k
  unfold qdivB' qdivE' at k
  rwa [if_neg (cast_ne h0),if_neg (cast_ne h0),a1,a2] at k
 cases hn:isNeg s.data.toList
 ·have ez:zB s=s:=by unfold zB szL;rw [hn];exact bO_of s
  rw [ez] at kd z1 z2 z3
  refine rParse_nE s s (bO D) (bO (47::r)) _ _ (bO r) _ s _ s D.length r.length 0 0 w (by omega) hp ((isNeg_pos hp).trans hn) (ne_empty hp) (by rw [beq_eq_false_iff_ne];omega) (by omega) (by omega) z1 z2 (ne_empty t2) t2 (by omega) t1 g1' g3 k47 k46 (bne_t k46) (bne_f k47) hB kd kw kr kB (fun W hW => ?_) (kq _ ?_)
  ·rw [←s_one];exact rprod 1 _ W Bq_one bq (by decide) (T.next hW)
  ·exact (qmul_ok Bq_one bq (by decide)).2.2
 ·refine rParse_pE s (zB s) (bO D) (bO (47::r)) _ _ (bO r) _ s _ s D.length r.length 0 0 w (by omega) hp ((isNeg_pos hp).trans hn) (ne_empty hp) (neg_ext hn) (by omega) (by rw [beq_eq_false_iff_ne];omega) (by omega) (by omega) z1 z2 (ne_empty t2) t2 (by omega) t1 g1' g3 k47 k46 (bne_t k46) (bne_f k47) hB kd kw kr kB (fun W hW => ?_) (kq _ ?_)
  ·rw [←s_mone];exact rprod (-1) _ W mone_bq bq (by decide) (T.next hW)
  ·exact (qmul_ok mone_bq bq (by decide)).2.2
theorem rP_F (D r:List UInt8) (hl0:szL s.data.toList=D++46::r) (hd:dgs D=true) (hr:dgs r=true) :
  Calls Tryz.prog 12 #[.string s] w fun e W'=>e = .returned (.tuple #[.string (strQ ((if isNeg s.data.toList then -1 else 1)*((((natOf D:Nat):Int):Rat)+(((natOf r:Nat):Int):Rat) / pw r.length))),.int .i64 0])∧Below w.heap.size w W':=by
 have hl:s.data.toList.length=s.size:=rfl
 have hsz:=szL_len s.data.toList
 have zd:(zB s).data.toList=D++46::r:=by rw [←hl0];exact bO_data _
 have hne:0<D.length:=List.length_pos_iff.2 (dgs_ne hd)
 obtain ⟨z1,z2,z3⟩:=cutZ zd
 obtain ⟨t1,t2,t3⟩:=tailB 46 r
 have t4:=t3 t2
 have hlen:D.length+(r.length+1)≤90:=by rw [hl0,List.length_append,List.length_cons] at hsz;omega
 have kd:=fun W (_:Below w.heap.size w W)=>rdgZ s w h9 T D.length (by rw [hl0];exact ndg_app (dgs_all hd) (by decide) r) W
 have bq:=nat_bq (dgs_all hd) (by omega)
 have kw:=fun W (_:Below w.heap.size w W)=>rwhD D W hd (by omega)
 have hp:0<s.size:=by rw [hl0,List.length_append] at hsz;omega
 have kr:∀ W,Below w.heap.size w W→Calls Tryz.prog 35 #[.string (bO r)] W fun e W'=>e = .returned (.int .i64 (ndg r:Nat))∧Below W.heap.size W W':=fun W _=>by
  have k:=rdg (bO r) W (by rw [bO_size];omega)
  rwa [bO_data] at k
 have hrl:(bO r).size=r.length:=bO_size r
 have hra:=dgs_all hr
 rw [ndg_all hra] at kr
 have hr0:0<r.length:=List.length_pos_iff.2 (dgs_ne hr)
 have g1':(((r.length:Nat):Int)==0)=false:=by rw [beq_eq_false_iff_ne];omega
 have g3:¬ ((r.length:Nat):Int)<(bO r).size:=by omega
 have kB:=fun W (_:Below w.heap.size w W)=>rwhD r W hr (by omega)
 have bqr:=nat_bq hra (by omega)
 have k46:((((bO (46::r))[0]'t2).toNat:Int)==46)=true:=by rw [t4];rfl
 have k47:((((bO (46::r))[0]'t2).toNat:Int)==47)=false:=by rw [t4];rfl
 obtain ⟨q1,q2,q3⟩:=qdiv_ok bqr (pw_bq r.length) (by omega) (pw_ne r.length)
 obtain ⟨p1,p2,p3⟩:=qadd_ok bq q3 (by omega)
 have kp:=fun W (_:Below w.heap.size w W)=>rpw r.length W (by omega)
 have kq:∀ W,Below w.heap.size w W→Calls Tryz.prog 37 #[.string (strQ (((natOf r:Nat):Int):Rat)),.string (strQ (pw r.length))] W fun e W'=>e = .returned (.tuple #[.string (strQ ((((natOf r:Nat):Int):Rat) / pw r.length)),.int .i64 0])∧Below W.heap.size W W':=fun W hW=>by
  have sy:Sq (pw r.length):=(pw_bq r.length).lim (by omega)
  have sr:Sq (((natOf r:Nat):Int):Rat):=bqr.lim (by decide)
  have k:=rDiv_any (strQ (((natOf r:Nat):Int):Rat)) (strQ (pw r.length)) W sr.size sy.size (T.next hW).1
  rw [(op_q sr sy).1,(op_q sr sy).2] at k
  unfold qdivB' qdivE' at k
  rwa [if_neg (pw_ne r.length),if_neg (pw_ne r.length),q1,q2] at k
 have ka:∀ W,Below w.heap.size w W→Calls Tryz.prog 38 #[.string (strQ (((natOf D:Nat):Int):Rat)),.string (strQ ((((natOf r:Nat):Int):Rat) / pw r.length))] W fun e W'=>e = .returned (.tuple #[.string (strQ ((((natOf D:Nat):Int):Rat)+(((natOf r:Nat):Int):Rat) / pw r.length)),.int .i64 0])∧Below W.heap.size W W':=fun W hW=>by
  have sD:Sq (((natOf D:Nat):Int):Rat):=bq.lim (by decide)
  have sC:Sq ((((natOf r:Nat):Int):Rat) / pw r.length):=q3.lim (by omega)
  have k:=rAdd_any (strQ (((natOf D:Nat):Int):Rat)) (strQ ((((natOf r:Nat):Int):Rat) / pw r.length)) W sD.size sC.size (T.next hW).1
  rwa [(op_q sD sC).1,(op_q sD sC).2,p1,p2] at k
 cases hn:isNeg s.data.toList
 ·have ez:zB s=s:=by unfold zB szL;rw [hn];exact bO_of s
  rw [ez] at kd z1 z2 z3
  refine rParse_nF s s (bO D) (bO (46::r)) _ _ (bO r) _ _ _ _ D.length r.length 0 0 w (by omega) hp ((isNeg_pos hp).trans hn) (ne_empty hp) (by rw [beq_eq_false_iff_ne];omega) (by omega) (by omega) z1 z2 (ne_empty t2) t2 (by omega) t1 g1' g3 k46 k47 (bne_f k46) (bne_t k47) kd kw kr kB kp kq ka (fun W hW => ?_)
  rw [←s_one];exact rprod 1 _ W Bq_one p3 (by omega) (T.next hW)
 ·refine rParse_pF s (zB s) (bO D) (bO (46::r)) _ _ (bO r) _ _ _ _ D.length r.length 0 0 w (by omega) hp ((isNeg_pos hp).trans hn) (ne_empty hp) (neg_ext hn) (by omega) (by rw [beq_eq_false_iff_ne];omega) (by omega) (by omega) z1 z2 (ne_empty t2) t2 (by omega) t1 g1' g3 k46 k47 (bne_f k46) (bne_t k47) kd kw kr kB kp kq ka (fun W hW => ?_)
  rw [←s_mone];exact rprod (-1) _ W mone_bq p3 (by omega) (T.next hW)
end
end Go.Proofs.YteckjifdpcbaeaaGreatDoor.T
