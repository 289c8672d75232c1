/- Parts of the proof of the text YtocalfjfjjljnaaGreatDoorZO44. -/
import Derived.Lib.AtoiAllCases
import Derived.Lib.SmallJoins
import Derived.Test.YtocalfjfjjljnaaGreatDoorZO1
import Derived.Test.YtocalfjfjjljnaaGreatDoorZO2
import Derived.Test.YtocalfjfjjljnaaGreatDoorZO23
import Derived.Test.YtocalfjfjjljnaaGreatDoorZO36
set_option linter.all false
set_option maxRecDepth 100000
set_option maxHeartbeats 8000000
namespace Go.Proofs.YtocalfjfjjljnaaGreatDoor
section
open Go.RowKit
theorem j3 {x y:Int} (hx : -1000000000<x∧x<1000000000) (hy : -1000000000<y∧y<1000000000) : -1000000000000000000<x*y∧x*y<1000000000000000000:=by
 have h:(x*y).natAbs≤999999999*999999999:=by
  rw [Int.natAbs_mul];exact Nat.mul_le_mul (by omega) (by omega)
 omega
theorem Cx (a b:ByteArray) (n d m c:Int) (r:ByteArray) (w:World) (hn : -1000000000<n∧n<1000000000) (hd:0<d∧d<1000000000) (hm : -1000000000<m∧m<1000000000) (hc:0<c∧c<1000000000)
  (h1:CqB w 55 #[.string a] (.tuple #[.int .i64 n,.int .i64 d,.bool true]))
  (h2:CqB w 55 #[.string b] (.tuple #[.int .i64 m,.int .i64 c,.bool true]))
  (h3:CqB w 56 #[.int .i64 (n*c+m*d),.int .i64 (d*c)] (.string r)) :
  Calls Tryz.prog 61 #[.string a,.string b] w fun e W'=>e = .returned (.tuple #[.string r,.int .i64 0])∧Below w.heap.size w W':=by
 have z1:=j3 hn ⟨by omega,hc.2⟩
 have z2:=j3 hm ⟨by omega,hd.2⟩
 have z3:=j3 (x:=d) (y:=c) ⟨by omega,hd.2⟩ ⟨by omega,hc.2⟩
 have C:=Ha ((Hb h1 (Hb h2 h3)));clear h1 h2 h3
 have B0:=Ha (Below.refl w.heap.size w)
 go_enter Tryz.func61,Tryz.ntmps61
 go_wp2_with fail
 refine (C.out.1 _ B0.out).mono ?_
 rintro e w1 ⟨rfl,b⟩
 have B1:=Ha (B0.out.trans (b.mono B0.out.size));clear b B0
 go_wp2_with fail
 refine (C.out.2.1 _ B1.out).mono ?_
 rintro e w2 ⟨rfl,b⟩
 have B2:=Ha (B1.out.trans (b.mono B1.out.size));clear b B1
 go_wp2_with fail
 refine (C.out.2.2 _ B2.out).mono ?_
 rintro e w3 ⟨rfl,b⟩
 have B3:=Ha (B2.out.trans (b.mono B2.out.size));clear b B2
 go_wp2
 go_ret2
 exact ⟨rfl,B3.out⟩
theorem yG (a b p q r s:ByteArray) (n d m c:Int) (k:Bool) (x y:ByteArray) (f:Int) (w:World) (n1:(f==0)=false) (n2:(f != 0)=true)
  (h1:CqB w 55 #[.string a] (.tuple #[.int .i64 n,.int .i64 d,.bool false]))
  (h2:CqB w 55 #[.string b] (.tuple #[.int .i64 m,.int .i64 c,.bool k]))
  (h3:CqB w 57 #[.string a] (.tuple #[.string p,.string q]))
  (h4:CqB w 57 #[.string b] (.tuple #[.string r,.string s]))
  (h5:CqB w 100 #[.string p,.string s,.string r,.string q] (.tuple #[.string x,.string y,.int .i64 f])) :
  Calls Tryz.prog 61 #[.string a,.string b] w fun e W'=>e = .returned (.tuple #[.string ⟨#[]⟩,.int .i64 f])∧Below w.heap.size w W':=by
 have C:=Ha ((Hb h1 (Hb h2 (Hb h3 (Hb h4 h5)))));clear h1 h2 h3 h4 h5
 have B0:=Ha (Below.refl w.heap.size w)
 go_enter Tryz.func61,Tryz.ntmps61
 go_wp2_with fail
 refine (C.out.1 _ B0.out).mono ?_
 rintro e w1 ⟨rfl,b⟩
 have B1:=Ha (B0.out.trans (b.mono B0.out.size));clear b B0
 go_wp2_with fail
 refine (C.out.2.1 _ B1.out).mono ?_
 rintro e w2 ⟨rfl,b⟩
 have B2:=Ha (B1.out.trans (b.mono B1.out.size));clear b B1
 go_wp2_with fail
 refine (C.out.2.2.1 _ B2.out).mono ?_
 rintro e w3 ⟨rfl,b⟩
 have B3:=Ha (B2.out.trans (b.mono B2.out.size));clear b B2
 go_wp2_with fail
 refine (C.out.2.2.2.1 _ B3.out).mono ?_
 rintro e w4 ⟨rfl,b⟩
 have B4:=Ha (B3.out.trans (b.mono B3.out.size));clear b B3
 go_wp2_with fail
 refine (C.out.2.2.2.2 _ B4.out).mono ?_
 rintro e w5 ⟨rfl,b⟩
 have B5:=Ha (B4.out.trans (b.mono B4.out.size));clear b B4
 go_wp2
 go_ret2
 exact ⟨rfl,B5.out⟩
theorem yH (a b p q r s:ByteArray) (n d m c:Int) (k:Bool) (x y z v:ByteArray) (f:Int) (w:World) (n1:(f==0)=false) (n2:(f != 0)=true)
  (h1:CqB w 55 #[.string a] (.tuple #[.int .i64 n,.int .i64 d,.bool false]))
  (h2:CqB w 55 #[.string b] (.tuple #[.int .i64 m,.int .i64 c,.bool k]))
  (h3:CqB w 57 #[.string a] (.tuple #[.string p,.string q]))
  (h4:CqB w 57 #[.string b] (.tuple #[.string r,.string s]))
  (h5:CqB w 100 #[.string p,.string s,.string r,.string q] (.tuple #[.string x,.string y,.int .i64 0]))
  (h6:CqB w 100 #[.string q,.string s,.string ⟨#[49]⟩,.string ⟨#[49]⟩] (.tuple #[.string z,.string v,.int .i64 f])) :
  Calls Tryz.prog 61 #[.string a,.string b] w fun e W'=>e = .returned (.tuple #[.string ⟨#[]⟩,.int .i64 f])∧Below w.heap.size w W':=by
 have C:=Ha ((Hb h1 (Hb h2 (Hb h3 (Hb h4 (Hb h5 h6))))));clear h1 h2 h3 h4 h5 h6
 have B0:=Ha (Below.refl w.heap.size w)
 go_enter Tryz.func61,Tryz.ntmps61
 go_wp2_with fail
 refine (C.out.1 _ B0.out).mono ?_
 rintro e w1 ⟨rfl,b⟩
 have B1:=Ha (B0.out.trans (b.mono B0.out.size));clear b B0
 go_wp2_with fail
 refine (C.out.2.1 _ B1.out).mono ?_
 rintro e w2 ⟨rfl,b⟩
 have B2:=Ha (B1.out.trans (b.mono B1.out.size));clear b B1
 go_wp2_with fail
 refine (C.out.2.2.1 _ B2.out).mono ?_
 rintro e w3 ⟨rfl,b⟩
 have B3:=Ha (B2.out.trans (b.mono B2.out.size));clear b B2
 go_wp2_with fail
 refine (C.out.2.2.2.1 _ B3.out).mono ?_
 rintro e w4 ⟨rfl,b⟩
 have B4:=Ha (B3.out.trans (b.mono B3.out.size));clear b B3
 go_wp2_with fail
 refine (C.out.2.2.2.2.1 _ B4.out).mono ?_
 rintro e w5 ⟨rfl,b⟩
 have B5:=Ha (B4.out.trans (b.mono B4.out.size));clear b B4
 go_wp2_with fail
 refine (C.out.2.2.2.2.2 _ B5.out).mono ?_
 rintro e w6 ⟨rfl,b⟩
 have B6:=Ha (B5.out.trans (b.mono B5.out.size));clear b B5
 go_wp2
 go_ret2
 exact ⟨rfl,B6.out⟩
theorem yI (a b p q r s:ByteArray) (n d m c:Int) (k:Bool) (x y z t:ByteArray) (f:Int) (w:World) (n1:(f==0)=false) (n2:(f != 0)=true)
  (h1:CqB w 55 #[.string a] (.tuple #[.int .i64 n,.int .i64 d,.bool false]))
  (h2:CqB w 55 #[.string b] (.tuple #[.int .i64 m,.int .i64 c,.bool k]))
  (h3:CqB w 57 #[.string a] (.tuple #[.string p,.string q]))
  (h4:CqB w 57 #[.string b] (.tuple #[.string r,.string s]))
  (h5:CqB w 100 #[.string p,.string s,.string r,.string q] (.tuple #[.string x,.string y,.int .i64 0]))
  (h6:CqB w 100 #[.string q,.string s,.string ⟨#[49]⟩,.string ⟨#[49]⟩] (.tuple #[.string z,.string ⟨#[49]⟩,.int .i64 0]))
  (h7:CqB w 108 #[.string x,.string y] (.tuple #[.string t,.int .i64 f])) :
  Calls Tryz.prog 61 #[.string a,.string b] w fun e W'=>e = .returned (.tuple #[.string ⟨#[]⟩,.int .i64 f])∧Below w.heap.size w W':=by
 have C:=Ha ((Hb h1 (Hb h2 (Hb h3 (Hb h4 (Hb h5 (Hb h6 h7)))))));clear h1 h2 h3 h4 h5 h6 h7
 have B0:=Ha (Below.refl w.heap.size w)
 go_enter Tryz.func61,Tryz.ntmps61
 go_wp2_with fail
 refine (C.out.1 _ B0.out).mono ?_
 rintro e w1 ⟨rfl,b⟩
 have B1:=Ha (B0.out.trans (b.mono B0.out.size));clear b B0
 go_wp2_with fail
 refine (C.out.2.1 _ B1.out).mono ?_
 rintro e w2 ⟨rfl,b⟩
 have B2:=Ha (B1.out.trans (b.mono B1.out.size));clear b B1
 go_wp2_with fail
 refine (C.out.2.2.1 _ B2.out).mono ?_
 rintro e w3 ⟨rfl,b⟩
 have B3:=Ha (B2.out.trans (b.mono B2.out.size));clear b B2
 go_wp2_with fail
 refine (C.out.2.2.2.1 _ B3.out).mono ?_
 rintro e w4 ⟨rfl,b⟩
 have B4:=Ha (B3.out.trans (b.mono B3.out.size));clear b B3
 go_wp2_with fail
 refine (C.out.2.2.2.2.1 _ B4.out).mono ?_
 rintro e w5 ⟨rfl,b⟩
 have B5:=Ha (B4.out.trans (b.mono B4.out.size));clear b B4
 go_wp2_with fail
 refine (C.out.2.2.2.2.2.1 _ B5.out).mono ?_
 rintro e w6 ⟨rfl,b⟩
 have B6:=Ha (B5.out.trans (b.mono B5.out.size));clear b B5
 go_wp2_with fail
 refine (C.out.2.2.2.2.2.2 _ B6.out).mono ?_
 rintro e w7 ⟨rfl,b⟩
 have B7:=Ha (B6.out.trans (b.mono B6.out.size));clear b B6
 go_wp2
 go_ret2
 exact ⟨rfl,B7.out⟩
theorem yJ (a b p q r s:ByteArray) (n d m c:Int) (k:Bool) (x y z t u:ByteArray) (f:Int) (w:World)
  (h1:CqB w 55 #[.string a] (.tuple #[.int .i64 n,.int .i64 d,.bool false]))
  (h2:CqB w 55 #[.string b] (.tuple #[.int .i64 m,.int .i64 c,.bool k]))
  (h3:CqB w 57 #[.string a] (.tuple #[.string p,.string q]))
  (h4:CqB w 57 #[.string b] (.tuple #[.string r,.string s]))
  (h5:CqB w 100 #[.string p,.string s,.string r,.string q] (.tuple #[.string x,.string y,.int .i64 0]))
  (h6:CqB w 100 #[.string q,.string s,.string ⟨#[49]⟩,.string ⟨#[49]⟩] (.tuple #[.string z,.string ⟨#[49]⟩,.int .i64 0]))
  (h7:CqB w 108 #[.string x,.string y] (.tuple #[.string t,.int .i64 0]))
  (h8:CqB w 60 #[.string t,.string z] (.tuple #[.string u,.int .i64 f])) :
  Calls Tryz.prog 61 #[.string a,.string b] w fun e W'=>e = .returned (.tuple #[.string u,.int .i64 f])∧Below w.heap.size w W':=by
 have C:=Ha ((Hb h1 (Hb h2 (Hb h3 (Hb h4 (Hb h5 (Hb h6 (Hb h7 h8))))))));clear h1 h2 h3 h4 h5 h6 h7 h8
 have B0:=Ha (Below.refl w.heap.size w)
 go_enter Tryz.func61,Tryz.ntmps61
 go_wp2_with fail
 refine (C.out.1 _ B0.out).mono ?_
 rintro e w1 ⟨rfl,b⟩
 have B1:=Ha (B0.out.trans (b.mono B0.out.size));clear b B0
 go_wp2_with fail
 refine (C.out.2.1 _ B1.out).mono ?_
 rintro e w2 ⟨rfl,b⟩
 have B2:=Ha (B1.out.trans (b.mono B1.out.size));clear b B1
 go_wp2_with fail
 refine (C.out.2.2.1 _ B2.out).mono ?_
 rintro e w3 ⟨rfl,b⟩
 have B3:=Ha (B2.out.trans (b.mono B2.out.size));clear b B2
 go_wp2_with fail
 refine (C.out.2.2.2.1 _ B3.out).mono ?_
 rintro e w4 ⟨rfl,b⟩
 have B4:=Ha (B3.out.trans (b.mono B3.out.size));clear b B3
 go_wp2_with fail
 refine (C.out.2.2.2.2.1 _ B4.out).mono ?_
 rintro e w5 ⟨rfl,b⟩
 have B5:=Ha (B4.out.trans (b.mono B4.out.size));clear b B4
 go_wp2_with fail
 refine (C.out.2.2.2.2.2.1 _ B5.out).mono ?_
 rintro e w6 ⟨rfl,b⟩
 have B6:=Ha (B5.out.trans (b.mono B5.out.size));clear b B5
 go_wp2_with fail
 refine (C.out.2.2.2.2.2.2.1 _ B6.out).mono ?_
 rintro e w7 ⟨rfl,b⟩
 have B7:=Ha (B6.out.trans (b.mono B6.out.size));clear b B6
 go_wp2_with fail
 refine (C.out.2.2.2.2.2.2.2 _ B7.out).mono ?_
 rintro e w8 ⟨rfl,b⟩
 have B8:=Ha (B7.out.trans (b.mono B7.out.size));clear b B7
 go_wp2
 go_ret2
 exact ⟨rfl,B8.out⟩
theorem yK (a b p q r s:ByteArray) (n d m c:Int) (x y:ByteArray) (f:Int) (w:World) (n1:(f==0)=false) (n2:(f != 0)=true)
  (h1:CqB w 55 #[.string a] (.tuple #[.int .i64 n,.int .i64 d,.bool true]))
  (h2:CqB w 55 #[.string b] (.tuple #[.int .i64 m,.int .i64 c,.bool false]))
  (h3:CqB w 57 #[.string a] (.tuple #[.string p,.string q]))
  (h4:CqB w 57 #[.string b] (.tuple #[.string r,.string s]))
  (h5:CqB w 100 #[.string p,.string s,.string r,.string q] (.tuple #[.string x,.string y,.int .i64 f])) :
  Calls Tryz.prog 61 #[.string a,.string b] w fun e W'=>e = .returned (.tuple #[.string ⟨#[]⟩,.int .i64 f])∧Below w.heap.size w W':=by
 have C:=Ha ((Hb h1 (Hb h2 (Hb h3 (Hb h4 h5)))));clear h1 h2 h3 h4 h5
 have B0:=Ha (Below.refl w.heap.size w)
 go_enter Tryz.func61,Tryz.ntmps61
 go_wp2_with fail
 refine (C.out.1 _ B0.out).mono ?_
 rintro e w1 ⟨rfl,b⟩
 have B1:=Ha (B0.out.trans (b.mono B0.out.size));clear b B0
 go_wp2_with fail
 refine (C.out.2.1 _ B1.out).mono ?_
 rintro e w2 ⟨rfl,b⟩
 have B2:=Ha (B1.out.trans (b.mono B1.out.size));clear b B1
 go_wp2_with fail
 refine (C.out.2.2.1 _ B2.out).mono ?_
 rintro e w3 ⟨rfl,b⟩
 have B3:=Ha (B2.out.trans (b.mono B2.out.size));clear b B2
 go_wp2_with fail
 refine (C.out.2.2.2.1 _ B3.out).mono ?_
 rintro e w4 ⟨rfl,b⟩
 have B4:=Ha (B3.out.trans (b.mono B3.out.size));clear b B3
 go_wp2_with fail
 refine (C.out.2.2.2.2 _ B4.out).mono ?_
 rintro e w5 ⟨rfl,b⟩
 have B5:=Ha (B4.out.trans (b.mono B4.out.size));clear b B4
 go_wp2
 go_ret2
 exact ⟨rfl,B5.out⟩
theorem yL (a b p q r s:ByteArray) (n d m c:Int) (x y z v:ByteArray) (f:Int) (w:World) (n1:(f==0)=false) (n2:(f != 0)=true)
  (h1:CqB w 55 #[.string a] (.tuple #[.int .i64 n,.int .i64 d,.bool true]))
  (h2:CqB w 55 #[.string b] (.tuple #[.int .i64 m,.int .i64 c,.bool false]))
  (h3:CqB w 57 #[.string a] (.tuple #[.string p,.string q]))
  (h4:CqB w 57 #[.string b] (.tuple #[.string r,.string s]))
  (h5:CqB w 100 #[.string p,.string s,.string r,.string q] (.tuple #[.string x,.string y,.int .i64 0]))
  (h6:CqB w 100 #[.string q,.string s,.string ⟨#[49]⟩,.string ⟨#[49]⟩] (.tuple #[.string z,.string v,.int .i64 f])) :
  Calls Tryz.prog 61 #[.string a,.string b] w fun e W'=>e = .returned (.tuple #[.string ⟨#[]⟩,.int .i64 f])∧Below w.heap.size w W':=by
 have C:=Ha ((Hb h1 (Hb h2 (Hb h3 (Hb h4 (Hb h5 h6))))));clear h1 h2 h3 h4 h5 h6
 have B0:=Ha (Below.refl w.heap.size w)
 go_enter Tryz.func61,Tryz.ntmps61
 go_wp2_with fail
 refine (C.out.1 _ B0.out).mono ?_
 rintro e w1 ⟨rfl,b⟩
 have B1:=Ha (B0.out.trans (b.mono B0.out.size));clear b B0
 go_wp2_with fail
 refine (C.out.2.1 _ B1.out).mono ?_
 rintro e w2 ⟨rfl,b⟩
 have B2:=Ha (B1.out.trans (b.mono B1.out.size));clear b B1
 go_wp2_with fail
 refine (C.out.2.2.1 _ B2.out).mono ?_
 rintro e w3 ⟨rfl,b⟩
 have B3:=Ha (B2.out.trans (b.mono B2.out.size));clear b B2
 go_wp2_with fail
 refine (C.out.2.2.2.1 _ B3.out).mono ?_
 rintro e w4 ⟨rfl,b⟩
 have B4:=Ha (B3.out.trans (b.mono B3.out.size));clear b B3
 go_wp2_with fail
 refine (C.out.2.2.2.2.1 _ B4.out).mono ?_
 rintro e w5 ⟨rfl,b⟩
 have B5:=Ha (B4.out.trans (b.mono B4.out.size));clear b B4
 go_wp2_with fail
 refine (C.out.2.2.2.2.2 _ B5.out).mono ?_
 rintro e w6 ⟨rfl,b⟩
 have B6:=Ha (B5.out.trans (b.mono B5.out.size));clear b B5
 go_wp2
 go_ret2
 exact ⟨rfl,B6.out⟩
theorem yM (a b p q r s:ByteArray) (n d m c:Int) (x y z t:ByteArray) (f:Int) (w:World) (n1:(f==0)=false) (n2:(f != 0)=true)
  (h1:CqB w 55 #[.string a] (.tuple #[.int .i64 n,.int .i64 d,.bool true]))
  (h2:CqB w 55 #[.string b] (.tuple #[.int .i64 m,.int .i64 c,.bool false]))
  (h3:CqB w 57 #[.string a] (.tuple #[.string p,.string q]))
  (h4:CqB w 57 #[.string b] (.tuple #[.string r,.string s]))
  (h5:CqB w 100 #[.string p,.string s,.string r,.string q] (.tuple #[.string x,.string y,.int .i64 0]))
  (h6:CqB w 100 #[.string q,.string s,.string ⟨#[49]⟩,.string ⟨#[49]⟩] (.tuple #[.string z,.string ⟨#[49]⟩,.int .i64 0]))
  (h7:CqB w 108 #[.string x,.string y] (.tuple #[.string t,.int .i64 f])) :
  Calls Tryz.prog 61 #[.string a,.string b] w fun e W'=>e = .returned (.tuple #[.string ⟨#[]⟩,.int .i64 f])∧Below w.heap.size w W':=by
 have C:=Ha ((Hb h1 (Hb h2 (Hb h3 (Hb h4 (Hb h5 (Hb h6 h7)))))));clear h1 h2 h3 h4 h5 h6 h7
 have B0:=Ha (Below.refl w.heap.size w)
 go_enter Tryz.func61,Tryz.ntmps61
 go_wp2_with fail
 refine (C.out.1 _ B0.out).mono ?_
 rintro e w1 ⟨rfl,b⟩
 have B1:=Ha (B0.out.trans (b.mono B0.out.size));clear b B0
 go_wp2_with fail
 refine (C.out.2.1 _ B1.out).mono ?_
 rintro e w2 ⟨rfl,b⟩
 have B2:=Ha (B1.out.trans (b.mono B1.out.size));clear b B1
 go_wp2_with fail
 refine (C.out.2.2.1 _ B2.out).mono ?_
 rintro e w3 ⟨rfl,b⟩
 have B3:=Ha (B2.out.trans (b.mono B2.out.size));clear b B2
 go_wp2_with fail
 refine (C.out.2.2.2.1 _ B3.out).mono ?_
 rintro e w4 ⟨rfl,b⟩
 have B4:=Ha (B3.out.trans (b.mono B3.out.size));clear b B3
 go_wp2_with fail
 refine (C.out.2.2.2.2.1 _ B4.out).mono ?_
 rintro e w5 ⟨rfl,b⟩
 have B5:=Ha (B4.out.trans (b.mono B4.out.size));clear b B4
 go_wp2_with fail
 refine (C.out.2.2.2.2.2.1 _ B5.out).mono ?_
 rintro e w6 ⟨rfl,b⟩
 have B6:=Ha (B5.out.trans (b.mono B5.out.size));clear b B5
 go_wp2_with fail
 refine (C.out.2.2.2.2.2.2 _ B6.out).mono ?_
 rintro e w7 ⟨rfl,b⟩
 have B7:=Ha (B6.out.trans (b.mono B6.out.size));clear b B6
 go_wp2
 go_ret2
 exact ⟨rfl,B7.out⟩
theorem yN (a b p q r s:ByteArray) (n d m c:Int) (x y z t u:ByteArray) (f:Int) (w:World)
  (h1:CqB w 55 #[.string a] (.tuple #[.int .i64 n,.int .i64 d,.bool true]))
  (h2:CqB w 55 #[.string b] (.tuple #[.int .i64 m,.int .i64 c,.bool false]))
  (h3:CqB w 57 #[.string a] (.tuple #[.string p,.string q]))
  (h4:CqB w 57 #[.string b] (.tuple #[.string r,.string s]))
  (h5:CqB w 100 #[.string p,.string s,.string r,.string q] (.tuple #[.string x,.string y,.int .i64 0]))
  (h6:CqB w 100 #[.string q,.string s,.string ⟨#[49]⟩,.string ⟨#[49]⟩] (.tuple #[.string z,.string ⟨#[49]⟩,.int .i64 0]))
  (h7:CqB w 108 #[.string x,.string y] (.tuple #[.string t,.int .i64 0]))
  (h8:CqB w 60 #[.string t,.string z] (.tuple #[.string u,.int .i64 f])) :
  Calls Tryz.prog 61 #[.string a,.string b] w fun e W'=>e = .returned (.tuple #[.string u,.int .i64 f])∧Below w.heap.size w W':=by
 have C:=Ha ((Hb h1 (Hb h2 (Hb h3 (Hb h4 (Hb h5 (Hb h6 (Hb h7 h8))))))));clear h1 h2 h3 h4 h5 h6 h7 h8
 have B0:=Ha (Below.refl w.heap.size w)
 go_enter Tryz.func61,Tryz.ntmps61
 go_wp2_with fail
 refine (C.out.1 _ B0.out).mono ?_
 rintro e w1 ⟨rfl,b⟩
 have B1:=Ha (B0.out.trans (b.mono B0.out.size));clear b B0
 go_wp2_with fail
 refine (C.out.2.1 _ B1.out).mono ?_
 rintro e w2 ⟨rfl,b⟩
 have B2:=Ha (B1.out.trans (b.mono B1.out.size));clear b B1
 go_wp2_with fail
 refine (C.out.2.2.1 _ B2.out).mono ?_
 rintro e w3 ⟨rfl,b⟩
 have B3:=Ha (B2.out.trans (b.mono B2.out.size));clear b B2
 go_wp2_with fail
 refine (C.out.2.2.2.1 _ B3.out).mono ?_
 rintro e w4 ⟨rfl,b⟩
 have B4:=Ha (B3.out.trans (b.mono B3.out.size));clear b B3
 go_wp2_with fail
 refine (C.out.2.2.2.2.1 _ B4.out).mono ?_
 rintro e w5 ⟨rfl,b⟩
 have B5:=Ha (B4.out.trans (b.mono B4.out.size));clear b B4
 go_wp2_with fail
 refine (C.out.2.2.2.2.2.1 _ B5.out).mono ?_
 rintro e w6 ⟨rfl,b⟩
 have B6:=Ha (B5.out.trans (b.mono B5.out.size));clear b B5
 go_wp2_with fail
 refine (C.out.2.2.2.2.2.2.1 _ B6.out).mono ?_
 rintro e w7 ⟨rfl,b⟩
 have B7:=Ha (B6.out.trans (b.mono B6.out.size));clear b B6
 go_wp2_with fail
 refine (C.out.2.2.2.2.2.2.2 _ B7.out).mono ?_
 rintro e w8 ⟨rfl,b⟩
 have B8:=Ha (B7.out.trans (b.mono B7.out.size));clear b B7
 go_wp2
 go_ret2
 exact ⟨rfl,B8.out⟩
def I64 (z:Int):Prop := -9223372036854775808≤z∧z≤9223372036854775807
theorem I64.short {z:Int} (h:I64 z):short z :=
 Nat.lt_of_le_of_lt (show z.natAbs≤9223372036854775808 by unfold I64 at h;omega) (Nat.lt_of_lt_of_le (by decide:9223372036854775808<aA 19) (ay (by decide:19≤300)))
end

section
open Go.Lib
theorem su (c:UInt8) (r:List UInt8):ad (c::r)=(c.toNat - 48)*10 ^ r.length+ad r:=by
 have h:=dB [c] r
 rw [show [c]++r=c::r from rfl] at h
 rw [h]
 have h2:ad [c]=c.toNat - 48:=by simp [ad]
 rw [h2]
theorem vd {c:UInt8} (h:aj c=true):48≤c.toNat∧c.toNat≤57:=(ao c).1 h
theorem oA:∀ (l:List UInt8) (acc:Nat),acc<18446744073709551616→(∀ c∈l,aj c=true)→parseUint10 acc l=if acc*10 ^ l.length+ad l<18446744073709551616 then .ok (acc*10 ^ l.length+ad l) else .range
 | [],acc,ha,_=>by
  rw [List.length_nil,Nat.pow_zero,Nat.mul_one,lQ,Nat.add_zero,if_pos ha];rfl
 | c::r,acc,ha,h=>by
  have hc:=vd (h c (by simp))
  have hN:acc*10 ^ (c::r).length+ad (c::r)=(acc*10+(c.toNat - 48))*10 ^ r.length+ad r:=by
   rw [su,List.length_cons,Nat.pow_succ,Nat.add_mul,Nat.mul_assoc acc 10,Nat.mul_comm 10 (10 ^ r.length)];omega
  rw [hN]
  have hp:1≤10 ^ r.length:=Nat.pos_of_ne_zero (by simp)
  have hge:acc*10+(c.toNat - 48)≤(acc*10+(c.toNat - 48))*10 ^ r.length:=Nat.le_mul_of_pos_right _ hp
  unfold parseUint10
  rw [if_pos hc]
  by_cases h1:1844674407370955162≤acc
  ·rw [if_pos h1,if_neg (by omega)]
  ·rw [if_neg h1]
   by_cases h2:18446744073709551616≤acc*10+(c.toNat - 48)
   ·rw [if_pos h2,if_neg (by omega)]
   ·rw [if_neg h2]
    exact oA r _ (by omega) (fun x hx=>h x (by simp [hx]))
end
section
open Go.RowKit
def sw (w:World):Prop:=∃ ev,w.cell? ⟨3,0,none⟩=some ev∧(ev = .nilIface∨∃ te pe,ev = .iface te pe)
theorem bZ {w W:World} (h:sw w) (b:Below w.heap.size w W):sw W:=by
 obtain ⟨ev,h1,h2⟩:=h
 have hl:=World.block_lt_of_cell? w _ h1
 exact ⟨ev,(b.cell (p:=⟨3,0,none⟩) hl).trans h1,h2⟩
def Cy (x:Rat):Int:=if x.den=1 ∧ -4611686018427387904≤x.num∧x.num≤4611686018427387904 then x.num else 0
def Cz (x:Rat):Int:=if x.den=1 then (if -4611686018427387904≤x.num∧x.num≤4611686018427387904 then 0 else 2) else 8
def iy (a b:ByteArray):Int:=if aM a.data.toList=0 then aM b.data.toList else aM a.data.toList
def rat (a:ByteArray):Rat:=dq a.data.toList
def opB (f:Rat→Rat→ByteArray) (a b:ByteArray):ByteArray:=if iy a b=0 then f (rat a) (rat b) else ⟨#[]⟩
def opE (f:Rat→Rat→Int) (a b:ByteArray):Int:=if iy a b=0 then f (rat a) (rat b) else iy a b
def ua (x y:Rat):ByteArray:=if y=0 then ⟨#[]⟩ else kh x y
def ub (x y:Rat):Int:=if y=0 then 12 else kj x y
theorem bU {a b:ByteArray} (h:iy a b=0):aM a.data.toList=0∧aM b.data.toList=0:=by
 unfold iy at h
 split at h
 ·exact ⟨by assumption,h⟩
 ·exact absurd h (by assumption)
theorem eO {a:ByteArray} (h:aM a.data.toList=0):Sq (rat a):=nG h
theorem cH {a:ByteArray} (h:aM a.data.toList=0):ag (rat a)=a:=(gP h).symm
def AG (a:ByteArray):ByteArray:=if aM a.data.toList=0 then aa ((rat a).num.fdiv (rat a).den) else ⟨#[]⟩
def yO (a:ByteArray):Int:=if aM a.data.toList=0 then Cy (rat a) else 0
def yP (a:ByteArray):Int:=if aM a.data.toList=0 then Cz (rat a) else aM a.data.toList
theorem uc (a b:ByteArray) (f:Int) (w:World) (n1:(f==0)=false) (n2:(f != 0)=true)
  (h1:CqB w 37 #[.string a] (.int .i64 f)) :
  Calls Tryz.prog 54 #[.string a,.string b] w fun e W'=>e = .returned (.int .i64 f)∧Below w.heap.size w W':=by
 have C:=Ha h1;clear h1
 have B0:=Ha (Below.refl w.heap.size w)
 go_enter Tryz.func54,Tryz.ntmps54
 go_wp2_with fail
 refine (C.out _ B0.out).mono ?_
 rintro e w1 ⟨rfl,b⟩
 have B1:=Ha (B0.out.trans (b.mono B0.out.size));clear b B0
 go_wp2
 go_ret
 exact ⟨rfl,B1.out⟩
theorem wG (a b:ByteArray) (f:Int) (w:World)
  (h1:CqB w 37 #[.string a] (.int .i64 0))
  (h2:CqB w 37 #[.string b] (.int .i64 f)) :
  Calls Tryz.prog 54 #[.string a,.string b] w fun e W'=>e = .returned (.int .i64 f)∧Below w.heap.size w W':=by
 have C:=Ha ((Hb h1 h2));clear h1 h2
 have B0:=Ha (Below.refl w.heap.size w)
 go_enter Tryz.func54,Tryz.ntmps54
 go_wp2_with fail
 refine (C.out.1 _ B0.out).mono ?_
 rintro e w1 ⟨rfl,b⟩
 have B1:=Ha (B0.out.trans (b.mono B0.out.size));clear b B0
 go_wp2_with fail
 refine (C.out.2 _ B1.out).mono ?_
 rintro e w2 ⟨rfl,b⟩
 have B2:=Ha (B1.out.trans (b.mono B1.out.size));clear b B1
 go_wp2
 go_ret
 exact ⟨rfl,B2.out⟩
theorem yQ (a b:ByteArray) (f:Int) (w:World) (n1:(f==0)=false) (n2:(f != 0)=true)
  (h0:CqB w 54 #[.string a,.string b] (.int .i64 f)) :
  Calls Tryz.prog 32 #[.string a,.string b] w fun e W'=>e = .returned (.tuple #[.string ⟨#[]⟩,.int .i64 f])∧Below w.heap.size w W':=by
 have C:=Ha h0;clear h0
 have B0:=Ha (Below.refl w.heap.size w)
 go_enter Tryz.func32,Tryz.ntmps32
 go_wp2_with fail
 refine (C.out _ B0.out).mono ?_
 rintro e w1 ⟨rfl,b⟩
 have B1:=Ha (B0.out.trans (b.mono B0.out.size));clear b B0
 go_wp2
 go_ret2
 exact ⟨rfl,B1.out⟩
theorem yR (a b:ByteArray) (f:Int) (w:World) (n1:(f==0)=false) (n2:(f != 0)=true)
  (h0:CqB w 54 #[.string a,.string b] (.int .i64 f)) :
  Calls Tryz.prog 24 #[.string a,.string b] w fun e W'=>e = .returned (.tuple #[.string ⟨#[]⟩,.int .i64 f])∧Below w.heap.size w W':=by
 have C:=Ha h0;clear h0
 have B0:=Ha (Below.refl w.heap.size w)
 go_enter Tryz.func24,Tryz.ntmps24
 go_wp2_with fail
 refine (C.out _ B0.out).mono ?_
 rintro e w1 ⟨rfl,b⟩
 have B1:=Ha (B0.out.trans (b.mono B0.out.size));clear b B0
 go_wp2
 go_ret2
 exact ⟨rfl,B1.out⟩
theorem yS (a b:ByteArray) (f:Int) (w:World) (n1:(f==0)=false) (n2:(f != 0)=true)
  (h0:CqB w 54 #[.string a,.string b] (.int .i64 f)) :
  Calls Tryz.prog 63 #[.string a,.string b] w fun e W'=>e = .returned (.tuple #[.string ⟨#[]⟩,.int .i64 f])∧Below w.heap.size w W':=by
 have C:=Ha h0;clear h0
 have B0:=Ha (Below.refl w.heap.size w)
 go_enter Tryz.func63,Tryz.ntmps63
 go_wp2_with fail
 refine (C.out _ B0.out).mono ?_
 rintro e w1 ⟨rfl,b⟩
 have B1:=Ha (B0.out.trans (b.mono B0.out.size));clear b B0
 go_wp2
 go_ret2
 exact ⟨rfl,B1.out⟩
theorem yT (a b:ByteArray) (f:Int) (w:World) (n1:(f==0)=false) (n2:(f != 0)=true)
  (h0:CqB w 54 #[.string a,.string b] (.int .i64 f)) :
  Calls Tryz.prog 21 #[.string a,.string b] w fun e W'=>e = .returned (.tuple #[.string ⟨#[]⟩,.int .i64 f])∧Below w.heap.size w W':=by
 have C:=Ha h0;clear h0
 have B0:=Ha (Below.refl w.heap.size w)
 go_enter Tryz.func21,Tryz.ntmps21
 go_wp2_with fail
 refine (C.out _ B0.out).mono ?_
 rintro e w1 ⟨rfl,b⟩
 have B1:=Ha (B0.out.trans (b.mono B0.out.size));clear b B0
 go_wp2
 go_ret2
 exact ⟨rfl,B1.out⟩
theorem AH (a b r:ByteArray) (f:Int) (w:World)
  (h0:CqB w 54 #[.string a,.string b] (.int .i64 0))
  (h1:CqB w 61 #[.string a,.string b] (.tuple #[.string r,.int .i64 f])) :
  Calls Tryz.prog 32 #[.string a,.string b] w fun e W'=>e = .returned (.tuple #[.string r,.int .i64 f])∧Below w.heap.size w W':=by
 have C:=Ha ((Hb h0 h1));clear h0 h1
 have B0:=Ha (Below.refl w.heap.size w)
 go_enter Tryz.func32,Tryz.ntmps32
 go_wp2_with fail
 refine (C.out.1 _ B0.out).mono ?_
 rintro e w1 ⟨rfl,b⟩
 have B1:=Ha (B0.out.trans (b.mono B0.out.size));clear b B0
 go_wp2_with fail
 refine (C.out.2 _ B1.out).mono ?_
 rintro e w2 ⟨rfl,b⟩
 have B2:=Ha (B1.out.trans (b.mono B1.out.size));clear b B1
 go_wp2
 go_ret2
 exact ⟨rfl,B2.out⟩
theorem AI (a b c r:ByteArray) (f:Int) (w:World)
  (h0:CqB w 54 #[.string a,.string b] (.int .i64 0))
  (h1:CqB w 62 #[.string b] (.string c))
  (h2:CqB w 61 #[.string a,.string c] (.tuple #[.string r,.int .i64 f])) :
  Calls Tryz.prog 24 #[.string a,.string b] w fun e W'=>e = .returned (.tuple #[.string r,.int .i64 f])∧Below w.heap.size w W':=by
 have C:=Ha ((Hb h0 (Hb h1 h2)));clear h0 h1 h2
 have B0:=Ha (Below.refl w.heap.size w)
 go_enter Tryz.func24,Tryz.ntmps24
 go_wp2_with fail
 refine (C.out.1 _ B0.out).mono ?_
 rintro e w1 ⟨rfl,b⟩
 have B1:=Ha (B0.out.trans (b.mono B0.out.size));clear b B0
 go_wp2_with fail
 refine (C.out.2.1 _ B1.out).mono ?_
 rintro e w2 ⟨rfl,b⟩
 have B2:=Ha (B1.out.trans (b.mono B1.out.size));clear b B1
 go_wp2_with fail
 refine (C.out.2.2 _ B2.out).mono ?_
 rintro e w3 ⟨rfl,b⟩
 have B3:=Ha (B2.out.trans (b.mono B2.out.size));clear b B2
 go_wp2
 go_ret2
 exact ⟨rfl,B3.out⟩
theorem CF (b:ByteArray) (w:World) (hz:(b.toList == [48])=true) :
  Calls Tryz.prog 62 #[.string b] w fun e W'=>e = .returned (.string b)∧Below w.heap.size w W':=by
 go_enter Tryz.func62,Tryz.ntmps62
 go_wp2
 go_ret
 exact ⟨rfl,Below.refl _ _⟩
theorem CH (b:ByteArray) (w:World) (hz:(b.toList == [48])=false) (hp:0<b.size) (hp':(0:Int)<b.size) (h45:((b[0].toNat:Int)==45)=true) :
  Calls Tryz.prog 62 #[.string b] w fun e W'=>e = .returned (.string (b.extract 1 b.size))∧Below w.heap.size w W':=by
 go_enter Tryz.func62,Tryz.ntmps62
 go_wp2
 go_ret
 exact ⟨rfl,Below.refl _ _⟩
theorem CJ (b:ByteArray) (w:World) (zb:b.size≤1000) (hz:(b.toList == [48])=false) (hp:0<b.size) (hp':(0:Int)<b.size) (h45:((b[0].toNat:Int)==45)=false) :
  Calls Tryz.prog 62 #[.string b] w fun e W'=>e = .returned (.string (⟨#[45]⟩++b))∧Below w.heap.size w W':=by
 go_enter Tryz.func62,Tryz.ntmps62
 go_wp2
 go_ret
 exact ⟨rfl,Below.refl _ _⟩
theorem CK (n d m c x y:ByteArray) (f:Int) (w:World) (n1:(f==0)=false) (n2:(f != 0)=true)
  (h1:CqB w 100 #[.string n,.string m,.string d,.string c] (.tuple #[.string x,.string y,.int .i64 f])) :
  Calls Tryz.prog 58 #[.string n,.string d,.string m,.string c] w fun e W'=>e = .returned (.tuple #[.string ⟨#[]⟩,.int .i64 f])∧Below w.heap.size w W':=by
 have C:=Ha h1;clear h1
 have B0:=Ha (Below.refl w.heap.size w)
 go_enter Tryz.func58,Tryz.ntmps58
 go_wp2_with fail
 refine (C.out _ B0.out).mono ?_
 rintro e w1 ⟨rfl,b⟩
 have B1:=Ha (B0.out.trans (b.mono B0.out.size));clear b B0
 go_wp2
 go_ret2
 exact ⟨rfl,B1.out⟩
theorem AJ (n d m c x y r:ByteArray) (f:Int) (w:World)
  (h1:CqB w 100 #[.string n,.string m,.string d,.string c] (.tuple #[.string x,.string y,.int .i64 0]))
  (h2:CqB w 60 #[.string x,.string y] (.tuple #[.string r,.int .i64 f])) :
  Calls Tryz.prog 58 #[.string n,.string d,.string m,.string c] w fun e W'=>e = .returned (.tuple #[.string r,.int .i64 f])∧Below w.heap.size w W':=by
 have C:=Ha ((Hb h1 h2));clear h1 h2
 have B0:=Ha (Below.refl w.heap.size w)
 go_enter Tryz.func58,Tryz.ntmps58
 go_wp2_with fail
 refine (C.out.1 _ B0.out).mono ?_
 rintro e w1 ⟨rfl,b⟩
 have B1:=Ha (B0.out.trans (b.mono B0.out.size));clear b B0
 go_wp2_with fail
 refine (C.out.2 _ B1.out).mono ?_
 rintro e w2 ⟨rfl,b⟩
 have B2:=Ha (B1.out.trans (b.mono B1.out.size));clear b B1
 go_wp2
 go_ret2
 exact ⟨rfl,B2.out⟩
theorem CN (a b:ByteArray) (n d m c:Int) (r:ByteArray) (w:World) (hn : -1000000000<n∧n<1000000000) (hd:0<d∧d<1000000000) (hm : -1000000000<m∧m<1000000000) (hc:0<c∧c<1000000000)
  (h0:CqB w 54 #[.string a,.string b] (.int .i64 0))
  (h1:CqB w 55 #[.string a] (.tuple #[.int .i64 n,.int .i64 d,.bool true]))
  (h2:CqB w 55 #[.string b] (.tuple #[.int .i64 m,.int .i64 c,.bool true]))
  (h3:CqB w 56 #[.int .i64 (n*m),.int .i64 (d*c)] (.string r)) :
  Calls Tryz.prog 63 #[.string a,.string b] w fun e W'=>e = .returned (.tuple #[.string r,.int .i64 0])∧Below w.heap.size w W':=by
 have z0:=j3 (x:=n) (y:=m) ⟨by omega,by omega⟩ ⟨by omega,by omega⟩
 have z1:=j3 (x:=d) (y:=c) ⟨by omega,by omega⟩ ⟨by omega,by omega⟩
 have C:=Ha ((Hb h0 (Hb h1 (Hb h2 h3))));clear h0 h1 h2 h3
 have B0:=Ha (Below.refl w.heap.size w)
 go_enter Tryz.func63,Tryz.ntmps63
 go_wp2_with fail
 refine (C.out.1 _ B0.out).mono ?_
 rintro e w1 ⟨rfl,b⟩
 have B1:=Ha (B0.out.trans (b.mono B0.out.size));clear b B0
 go_wp2_with fail
 refine (C.out.2.1 _ B1.out).mono ?_
 rintro e w2 ⟨rfl,b⟩
 have B2:=Ha (B1.out.trans (b.mono B1.out.size));clear b B1
 go_wp2_with fail
 refine (C.out.2.2.1 _ B2.out).mono ?_
 rintro e w3 ⟨rfl,b⟩
 have B3:=Ha (B2.out.trans (b.mono B2.out.size));clear b B2
 go_wp2_with fail
 refine (C.out.2.2.2 _ B3.out).mono ?_
 rintro e w4 ⟨rfl,b⟩
 have B4:=Ha (B3.out.trans (b.mono B3.out.size));clear b B3
 go_wp2
 go_ret2
 exact ⟨rfl,B4.out⟩
theorem CO (a b:ByteArray) (w:World) (hz:(b.toList == [48])=true)
  (h0:CqB w 54 #[.string a,.string b] (.int .i64 0)) :
  Calls Tryz.prog 21 #[.string a,.string b] w fun e W'=>e = .returned (.tuple #[.string ⟨#[]⟩,.int .i64 12])∧Below w.heap.size w W':=by
 have C:=Ha h0;clear h0
 have B0:=Ha (Below.refl w.heap.size w)
 go_enter Tryz.func21,Tryz.ntmps21
 go_wp2_with fail
 refine (C.out _ B0.out).mono ?_
 rintro e w1 ⟨rfl,b⟩
 have B1:=Ha (B0.out.trans (b.mono B0.out.size));clear b B0
 go_wp2
 go_ret2
 exact ⟨rfl,B1.out⟩
theorem AK (a b:ByteArray) (n d m c:Int) (r:ByteArray) (w:World) (hz:(b.toList == [48])=false) (hm0:0<m) (hn : -1000000000<n∧n<1000000000) (hd:0<d∧d<1000000000) (hm : -1000000000<m∧m<1000000000) (hc:0<c∧c<1000000000)
  (h0:CqB w 54 #[.string a,.string b] (.int .i64 0))
  (h1:CqB w 55 #[.string a] (.tuple #[.int .i64 n,.int .i64 d,.bool true]))
  (h2:CqB w 55 #[.string b] (.tuple #[.int .i64 m,.int .i64 c,.bool true]))
  (h3:CqB w 56 #[.int .i64 (n*c),.int .i64 (d*m)] (.string r)) :
  Calls Tryz.prog 21 #[.string a,.string b] w fun e W'=>e = .returned (.tuple #[.string r,.int .i64 0])∧Below w.heap.size w W':=by
 have z0:=j3 (x:=n) (y:=c) ⟨by omega,by omega⟩ ⟨by omega,by omega⟩
 have z1:=j3 (x:=d) (y:=m) ⟨by omega,by omega⟩ ⟨by omega,by omega⟩
 have C:=Ha ((Hb h0 (Hb h1 (Hb h2 h3))));clear h0 h1 h2 h3
 have B0:=Ha (Below.refl w.heap.size w)
 go_enter Tryz.func21,Tryz.ntmps21
 go_wp2_with fail
 refine (C.out.1 _ B0.out).mono ?_
 rintro e w1 ⟨rfl,b⟩
 have B1:=Ha (B0.out.trans (b.mono B0.out.size));clear b B0
 go_wp2_with fail
 refine (C.out.2.1 _ B1.out).mono ?_
 rintro e w2 ⟨rfl,b⟩
 have B2:=Ha (B1.out.trans (b.mono B1.out.size));clear b B1
 go_wp2_with fail
 refine (C.out.2.2.1 _ B2.out).mono ?_
 rintro e w3 ⟨rfl,b⟩
 have B3:=Ha (B2.out.trans (b.mono B2.out.size));clear b B2
 go_wp2_with fail
 refine (C.out.2.2.2 _ B3.out).mono ?_
 rintro e w4 ⟨rfl,b⟩
 have B4:=Ha (B3.out.trans (b.mono B3.out.size));clear b B3
 go_wp2
 go_ret2
 exact ⟨rfl,B4.out⟩
theorem AL (a b:ByteArray) (n d m c:Int) (r:ByteArray) (w:World) (hz:(b.toList == [48])=false) (hm0:m<0) (hn : -1000000000<n∧n<1000000000) (hd:0<d∧d<1000000000) (hm : -1000000000<m∧m<1000000000) (hc:0<c∧c<1000000000)
  (h0:CqB w 54 #[.string a,.string b] (.int .i64 0))
  (h1:CqB w 55 #[.string a] (.tuple #[.int .i64 n,.int .i64 d,.bool true]))
  (h2:CqB w 55 #[.string b] (.tuple #[.int .i64 m,.int .i64 c,.bool true]))
  (h3:CqB w 56 #[.int .i64 (n * -c),.int .i64 (d * -m)] (.string r)) :
  Calls Tryz.prog 21 #[.string a,.string b] w fun e W'=>e = .returned (.tuple #[.string r,.int .i64 0])∧Below w.heap.size w W':=by
 have z0:=j3 (x:=n) (y := -c) ⟨by omega,by omega⟩ ⟨by omega,by omega⟩
 have z1:=j3 (x:=d) (y := -m) ⟨by omega,by omega⟩ ⟨by omega,by omega⟩
 have C:=Ha ((Hb h0 (Hb h1 (Hb h2 h3))));clear h0 h1 h2 h3
 have B0:=Ha (Below.refl w.heap.size w)
 go_enter Tryz.func21,Tryz.ntmps21
 go_wp2_with fail
 refine (C.out.1 _ B0.out).mono ?_
 rintro e w1 ⟨rfl,b⟩
 have B1:=Ha (B0.out.trans (b.mono B0.out.size));clear b B0
 go_wp2_with fail
 refine (C.out.2.1 _ B1.out).mono ?_
 rintro e w2 ⟨rfl,b⟩
 have B2:=Ha (B1.out.trans (b.mono B1.out.size));clear b B1
 go_wp2_with fail
 refine (C.out.2.2.1 _ B2.out).mono ?_
 rintro e w3 ⟨rfl,b⟩
 have B3:=Ha (B2.out.trans (b.mono B2.out.size));clear b B2
 go_wp2_with fail
 refine (C.out.2.2.2 _ B3.out).mono ?_
 rintro e w4 ⟨rfl,b⟩
 have B4:=Ha (B3.out.trans (b.mono B3.out.size));clear b B3
 go_wp2
 go_ret2
 exact ⟨rfl,B4.out⟩
theorem AM (a b p q r s:ByteArray) (n d m c:Int) (k:Bool) (u:ByteArray) (f:Int) (w:World)
  (h0:CqB w 54 #[.string a,.string b] (.int .i64 0))
  (h1:CqB w 55 #[.string a] (.tuple #[.int .i64 n,.int .i64 d,.bool false]))
  (h2:CqB w 55 #[.string b] (.tuple #[.int .i64 m,.int .i64 c,.bool k]))
  (h3:CqB w 57 #[.string a] (.tuple #[.string p,.string q]))
  (h4:CqB w 57 #[.string b] (.tuple #[.string r,.string s]))
  (h5:CqB w 58 #[.string p,.string q,.string r,.string s] (.tuple #[.string u,.int .i64 f])) :
  Calls Tryz.prog 63 #[.string a,.string b] w fun e W'=>e = .returned (.tuple #[.string u,.int .i64 f])∧Below w.heap.size w W':=by
 have C:=Ha ((Hb h0 (Hb h1 (Hb h2 (Hb h3 (Hb h4 h5))))));clear h0 h1 h2 h3 h4 h5
 have B0:=Ha (Below.refl w.heap.size w)
 go_enter Tryz.func63,Tryz.ntmps63
 go_wp2_with fail
 refine (C.out.1 _ B0.out).mono ?_
 rintro e w1 ⟨rfl,b⟩
 have B1:=Ha (B0.out.trans (b.mono B0.out.size));clear b B0
 go_wp2_with fail
 refine (C.out.2.1 _ B1.out).mono ?_
 rintro e w2 ⟨rfl,b⟩
 have B2:=Ha (B1.out.trans (b.mono B1.out.size));clear b B1
 go_wp2_with fail
 refine (C.out.2.2.1 _ B2.out).mono ?_
 rintro e w3 ⟨rfl,b⟩
 have B3:=Ha (B2.out.trans (b.mono B2.out.size));clear b B2
 go_wp2_with fail
 refine (C.out.2.2.2.1 _ B3.out).mono ?_
 rintro e w4 ⟨rfl,b⟩
 have B4:=Ha (B3.out.trans (b.mono B3.out.size));clear b B3
 go_wp2_with fail
 refine (C.out.2.2.2.2.1 _ B4.out).mono ?_
 rintro e w5 ⟨rfl,b⟩
 have B5:=Ha (B4.out.trans (b.mono B4.out.size));clear b B4
 go_wp2_with fail
 refine (C.out.2.2.2.2.2 _ B5.out).mono ?_
 rintro e w6 ⟨rfl,b⟩
 have B6:=Ha (B5.out.trans (b.mono B5.out.size));clear b B5
 go_wp2
 go_ret2
 exact ⟨rfl,B6.out⟩
theorem AN (a b p q r s:ByteArray) (n d m c:Int) (k:Bool) (u:ByteArray) (f:Int) (w:World) (hz:(b.toList == [48])=false)
  (h0:CqB w 54 #[.string a,.string b] (.int .i64 0))
  (h1:CqB w 55 #[.string a] (.tuple #[.int .i64 n,.int .i64 d,.bool false]))
  (h2:CqB w 55 #[.string b] (.tuple #[.int .i64 m,.int .i64 c,.bool k]))
  (h3:CqB w 57 #[.string a] (.tuple #[.string p,.string q]))
  (h4:CqB w 57 #[.string b] (.tuple #[.string r,.string s]))
  (h5:CqB w 58 #[.string p,.string q,.string s,.string r] (.tuple #[.string u,.int .i64 f])) :
  Calls Tryz.prog 21 #[.string a,.string b] w fun e W'=>e = .returned (.tuple #[.string u,.int .i64 f])∧Below w.heap.size w W':=by
 have C:=Ha ((Hb h0 (Hb h1 (Hb h2 (Hb h3 (Hb h4 h5))))));clear h0 h1 h2 h3 h4 h5
 have B0:=Ha (Below.refl w.heap.size w)
 go_enter Tryz.func21,Tryz.ntmps21
 go_wp2_with fail
 refine (C.out.1 _ B0.out).mono ?_
 rintro e w1 ⟨rfl,b⟩
 have B1:=Ha (B0.out.trans (b.mono B0.out.size));clear b B0
 go_wp2_with fail
 refine (C.out.2.1 _ B1.out).mono ?_
 rintro e w2 ⟨rfl,b⟩
 have B2:=Ha (B1.out.trans (b.mono B1.out.size));clear b B1
 go_wp2_with fail
 refine (C.out.2.2.1 _ B2.out).mono ?_
 rintro e w3 ⟨rfl,b⟩
 have B3:=Ha (B2.out.trans (b.mono B2.out.size));clear b B2
 go_wp2_with fail
 refine (C.out.2.2.2.1 _ B3.out).mono ?_
 rintro e w4 ⟨rfl,b⟩
 have B4:=Ha (B3.out.trans (b.mono B3.out.size));clear b B3
 go_wp2_with fail
 refine (C.out.2.2.2.2.1 _ B4.out).mono ?_
 rintro e w5 ⟨rfl,b⟩
 have B5:=Ha (B4.out.trans (b.mono B4.out.size));clear b B4
 go_wp2_with fail
 refine (C.out.2.2.2.2.2 _ B5.out).mono ?_
 rintro e w6 ⟨rfl,b⟩
 have B6:=Ha (B5.out.trans (b.mono B5.out.size));clear b B5
 go_wp2
 go_ret2
 exact ⟨rfl,B6.out⟩
theorem AO (a b p q r s:ByteArray) (n d m c:Int) (u:ByteArray) (f:Int) (w:World)
  (h0:CqB w 54 #[.string a,.string b] (.int .i64 0))
  (h1:CqB w 55 #[.string a] (.tuple #[.int .i64 n,.int .i64 d,.bool true]))
  (h2:CqB w 55 #[.string b] (.tuple #[.int .i64 m,.int .i64 c,.bool false]))
  (h3:CqB w 57 #[.string a] (.tuple #[.string p,.string q]))
  (h4:CqB w 57 #[.string b] (.tuple #[.string r,.string s]))
  (h5:CqB w 58 #[.string p,.string q,.string r,.string s] (.tuple #[.string u,.int .i64 f])) :
  Calls Tryz.prog 63 #[.string a,.string b] w fun e W'=>e = .returned (.tuple #[.string u,.int .i64 f])∧Below w.heap.size w W':=by
 have C:=Ha ((Hb h0 (Hb h1 (Hb h2 (Hb h3 (Hb h4 h5))))));clear h0 h1 h2 h3 h4 h5
 have B0:=Ha (Below.refl w.heap.size w)
 go_enter Tryz.func63,Tryz.ntmps63
 go_wp2_with fail
 refine (C.out.1 _ B0.out).mono ?_
 rintro e w1 ⟨rfl,b⟩
 have B1:=Ha (B0.out.trans (b.mono B0.out.size));clear b B0
 go_wp2_with fail
 refine (C.out.2.1 _ B1.out).mono ?_
 rintro e w2 ⟨rfl,b⟩
 have B2:=Ha (B1.out.trans (b.mono B1.out.size));clear b B1
 go_wp2_with fail
 refine (C.out.2.2.1 _ B2.out).mono ?_
 rintro e w3 ⟨rfl,b⟩
 have B3:=Ha (B2.out.trans (b.mono B2.out.size));clear b B2
 go_wp2_with fail
 refine (C.out.2.2.2.1 _ B3.out).mono ?_
 rintro e w4 ⟨rfl,b⟩
 have B4:=Ha (B3.out.trans (b.mono B3.out.size));clear b B3
 go_wp2_with fail
 refine (C.out.2.2.2.2.1 _ B4.out).mono ?_
 rintro e w5 ⟨rfl,b⟩
 have B5:=Ha (B4.out.trans (b.mono B4.out.size));clear b B4
 go_wp2_with fail
 refine (C.out.2.2.2.2.2 _ B5.out).mono ?_
 rintro e w6 ⟨rfl,b⟩
 have B6:=Ha (B5.out.trans (b.mono B5.out.size));clear b B5
 go_wp2
 go_ret2
 exact ⟨rfl,B6.out⟩
theorem AP (a b p q r s:ByteArray) (n d m c:Int) (u:ByteArray) (f:Int) (w:World) (hz:(b.toList == [48])=false)
  (h0:CqB w 54 #[.string a,.string b] (.int .i64 0))
  (h1:CqB w 55 #[.string a] (.tuple #[.int .i64 n,.int .i64 d,.bool true]))
  (h2:CqB w 55 #[.string b] (.tuple #[.int .i64 m,.int .i64 c,.bool false]))
  (h3:CqB w 57 #[.string a] (.tuple #[.string p,.string q]))
  (h4:CqB w 57 #[.string b] (.tuple #[.string r,.string s]))
  (h5:CqB w 58 #[.string p,.string q,.string s,.string r] (.tuple #[.string u,.int .i64 f])) :
  Calls Tryz.prog 21 #[.string a,.string b] w fun e W'=>e = .returned (.tuple #[.string u,.int .i64 f])∧Below w.heap.size w W':=by
 have C:=Ha ((Hb h0 (Hb h1 (Hb h2 (Hb h3 (Hb h4 h5))))));clear h0 h1 h2 h3 h4 h5
 have B0:=Ha (Below.refl w.heap.size w)
 go_enter Tryz.func21,Tryz.ntmps21
 go_wp2_with fail
 refine (C.out.1 _ B0.out).mono ?_
 rintro e w1 ⟨rfl,b⟩
 have B1:=Ha (B0.out.trans (b.mono B0.out.size));clear b B0
 go_wp2_with fail
 refine (C.out.2.1 _ B1.out).mono ?_
 rintro e w2 ⟨rfl,b⟩
 have B2:=Ha (B1.out.trans (b.mono B1.out.size));clear b B1
 go_wp2_with fail
 refine (C.out.2.2.1 _ B2.out).mono ?_
 rintro e w3 ⟨rfl,b⟩
 have B3:=Ha (B2.out.trans (b.mono B2.out.size));clear b B2
 go_wp2_with fail
 refine (C.out.2.2.2.1 _ B3.out).mono ?_
 rintro e w4 ⟨rfl,b⟩
 have B4:=Ha (B3.out.trans (b.mono B3.out.size));clear b B3
 go_wp2_with fail
 refine (C.out.2.2.2.2.1 _ B4.out).mono ?_
 rintro e w5 ⟨rfl,b⟩
 have B5:=Ha (B4.out.trans (b.mono B4.out.size));clear b B4
 go_wp2_with fail
 refine (C.out.2.2.2.2.2 _ B5.out).mono ?_
 rintro e w6 ⟨rfl,b⟩
 have B6:=Ha (B5.out.trans (b.mono B5.out.size));clear b B5
 go_wp2
 go_ret2
 exact ⟨rfl,B6.out⟩
end
end Go.Proofs.YtocalfjfjjljnaaGreatDoor
