/- Parts of the proof of the text YteckjifdpcbaeaaGreatDoorZG38. -/
import Derived.Lib.AtoiAllCases
import Derived.Lib.SmallJoins
import Derived.Test.YteckjifdpcbaeaaGreatDoorZG1
import Derived.Test.YteckjifdpcbaeaaGreatDoorZG2
import Derived.Test.YteckjifdpcbaeaaGreatDoorZG23
import Derived.Test.YteckjifdpcbaeaaGreatDoorZG35
set_option linter.all false
set_option maxRecDepth 100000
set_option maxHeartbeats 8000000
namespace Go.Proofs.YteckjifdpcbaeaaGreatDoor
open Go.RowKit
theorem mul9 {x y:Int} (hx : -1000000000<x∧x<1000000000) (hy : -1000000000<y∧y<1000000000) : -1000000000000000000<x*y∧x*y<1000000000000000000:=by
 have h:(x*y).natAbs≤999999999*999999999:=by
  rw [Int.natAbs_mul];exact Nat.mul_le_mul (by omega) (by omega)
 omega
theorem radd_s (a b:ByteArray) (n d m c:Int) (r:ByteArray) (w:World) (hn : -1000000000<n∧n<1000000000) (hd:0<d∧d<1000000000) (hm : -1000000000<m∧m<1000000000) (hc:0<c∧c<1000000000)
  (h1:CqB w 60 #[.string a] (.tuple #[.int .i64 n,.int .i64 d,.bool true]))
  (h2:CqB w 60 #[.string b] (.tuple #[.int .i64 m,.int .i64 c,.bool true]))
  (h3:CqB w 61 #[.int .i64 (n*c+m*d),.int .i64 (d*c)] (.string r)) :
  Calls Tryz.prog 76 #[.string a,.string b] w fun e W'=>e = .returned (.tuple #[.string r,.int .i64 0])∧Below w.heap.size w W':=by
 have z1:=mul9 hn ⟨by omega,hc.2⟩
 have z2:=mul9 hm ⟨by omega,hd.2⟩
 have z3:=mul9 (x:=d) (y:=c) ⟨by omega,hd.2⟩ ⟨by omega,hc.2⟩
 have C:=Lib.hid ((And.intro h1 (And.intro h2 h3)));clear h1 h2 h3
 have B0:=Lib.hid (Below.refl w.heap.size w)
 go_enter Tryz.func76,Tryz.ntmps76
 go_wp2_with fail
 refine (C.out.1 _ B0.out).mono ?_
 rintro e w1 ⟨rfl,b⟩
 have B1:=Lib.hid (B0.out.trans (b.mono B0.out.size));clear b B0
 go_wp2_with fail
 refine (C.out.2.1 _ B1.out).mono ?_
 rintro e w2 ⟨rfl,b⟩
 have B2:=Lib.hid (B1.out.trans (b.mono B1.out.size));clear b B1
 go_wp2_with fail
 refine (C.out.2.2 _ B2.out).mono ?_
 rintro e w3 ⟨rfl,b⟩
 have B3:=Lib.hid (B2.out.trans (b.mono B2.out.size));clear b B2
 go_wp2
 go_ret2
 exact ⟨rfl,B3.out⟩
theorem radd_e1f (a b p q r s:ByteArray) (n d m c:Int) (k:Bool) (x y:ByteArray) (f:Int) (w:World) (n1:(f==0)=false) (n2:(f != 0)=true)
  (h1:CqB w 60 #[.string a] (.tuple #[.int .i64 n,.int .i64 d,.bool false]))
  (h2:CqB w 60 #[.string b] (.tuple #[.int .i64 m,.int .i64 c,.bool k]))
  (h3:CqB w 62 #[.string a] (.tuple #[.string p,.string q]))
  (h4:CqB w 62 #[.string b] (.tuple #[.string r,.string s]))
  (h5:CqB w 118 #[.string p,.string s,.string r,.string q] (.tuple #[.string x,.string y,.int .i64 f])) :
  Calls Tryz.prog 76 #[.string a,.string b] w fun e W'=>e = .returned (.tuple #[.string ⟨#[]⟩,.int .i64 f])∧Below w.heap.size w W':=by
 have C:=Lib.hid ((And.intro h1 (And.intro h2 (And.intro h3 (And.intro h4 h5)))));clear h1 h2 h3 h4 h5
 have B0:=Lib.hid (Below.refl w.heap.size w)
 go_enter Tryz.func76,Tryz.ntmps76
 go_wp2_with fail
 refine (C.out.1 _ B0.out).mono ?_
 rintro e w1 ⟨rfl,b⟩
 have B1:=Lib.hid (B0.out.trans (b.mono B0.out.size));clear b B0
 go_wp2_with fail
 refine (C.out.2.1 _ B1.out).mono ?_
 rintro e w2 ⟨rfl,b⟩
 have B2:=Lib.hid (B1.out.trans (b.mono B1.out.size));clear b B1
 go_wp2_with fail
 refine (C.out.2.2.1 _ B2.out).mono ?_
 rintro e w3 ⟨rfl,b⟩
 have B3:=Lib.hid (B2.out.trans (b.mono B2.out.size));clear b B2
 go_wp2_with fail
 refine (C.out.2.2.2.1 _ B3.out).mono ?_
 rintro e w4 ⟨rfl,b⟩
 have B4:=Lib.hid (B3.out.trans (b.mono B3.out.size));clear b B3
 go_wp2_with fail
 refine (C.out.2.2.2.2 _ B4.out).mono ?_
 rintro e w5 ⟨rfl,b⟩
 have B5:=Lib.hid (B4.out.trans (b.mono B4.out.size));clear b B4
 go_wp2
 go_ret2
 exact ⟨rfl,B5.out⟩
theorem radd_e2f (a b p q r s:ByteArray) (n d m c:Int) (k:Bool) (x y z v:ByteArray) (f:Int) (w:World) (n1:(f==0)=false) (n2:(f != 0)=true)
  (h1:CqB w 60 #[.string a] (.tuple #[.int .i64 n,.int .i64 d,.bool false]))
  (h2:CqB w 60 #[.string b] (.tuple #[.int .i64 m,.int .i64 c,.bool k]))
  (h3:CqB w 62 #[.string a] (.tuple #[.string p,.string q]))
  (h4:CqB w 62 #[.string b] (.tuple #[.string r,.string s]))
  (h5:CqB w 118 #[.string p,.string s,.string r,.string q] (.tuple #[.string x,.string y,.int .i64 0]))
  (h6:CqB w 118 #[.string q,.string s,.string ⟨#[49]⟩,.string ⟨#[49]⟩] (.tuple #[.string z,.string v,.int .i64 f])) :
  Calls Tryz.prog 76 #[.string a,.string b] w fun e W'=>e = .returned (.tuple #[.string ⟨#[]⟩,.int .i64 f])∧Below w.heap.size w W':=by
 have C:=Lib.hid ((And.intro h1 (And.intro h2 (And.intro h3 (And.intro h4 (And.intro h5 h6))))));clear h1 h2 h3 h4 h5 h6
 have B0:=Lib.hid (Below.refl w.heap.size w)
 go_enter Tryz.func76,Tryz.ntmps76
 go_wp2_with fail
 refine (C.out.1 _ B0.out).mono ?_
 rintro e w1 ⟨rfl,b⟩
 have B1:=Lib.hid (B0.out.trans (b.mono B0.out.size));clear b B0
 go_wp2_with fail
 refine (C.out.2.1 _ B1.out).mono ?_
 rintro e w2 ⟨rfl,b⟩
 have B2:=Lib.hid (B1.out.trans (b.mono B1.out.size));clear b B1
 go_wp2_with fail
 refine (C.out.2.2.1 _ B2.out).mono ?_
 rintro e w3 ⟨rfl,b⟩
 have B3:=Lib.hid (B2.out.trans (b.mono B2.out.size));clear b B2
 go_wp2_with fail
 refine (C.out.2.2.2.1 _ B3.out).mono ?_
 rintro e w4 ⟨rfl,b⟩
 have B4:=Lib.hid (B3.out.trans (b.mono B3.out.size));clear b B3
 go_wp2_with fail
 refine (C.out.2.2.2.2.1 _ B4.out).mono ?_
 rintro e w5 ⟨rfl,b⟩
 have B5:=Lib.hid (B4.out.trans (b.mono B4.out.size));clear b B4
 go_wp2_with fail
 refine (C.out.2.2.2.2.2 _ B5.out).mono ?_
 rintro e w6 ⟨rfl,b⟩
 have B6:=Lib.hid (B5.out.trans (b.mono B5.out.size));clear b B5
 go_wp2
 go_ret2
 exact ⟨rfl,B6.out⟩
theorem radd_e3f (a b p q r s:ByteArray) (n d m c:Int) (k:Bool) (x y z t:ByteArray) (f:Int) (w:World) (n1:(f==0)=false) (n2:(f != 0)=true)
  (h1:CqB w 60 #[.string a] (.tuple #[.int .i64 n,.int .i64 d,.bool false]))
  (h2:CqB w 60 #[.string b] (.tuple #[.int .i64 m,.int .i64 c,.bool k]))
  (h3:CqB w 62 #[.string a] (.tuple #[.string p,.string q]))
  (h4:CqB w 62 #[.string b] (.tuple #[.string r,.string s]))
  (h5:CqB w 118 #[.string p,.string s,.string r,.string q] (.tuple #[.string x,.string y,.int .i64 0]))
  (h6:CqB w 118 #[.string q,.string s,.string ⟨#[49]⟩,.string ⟨#[49]⟩] (.tuple #[.string z,.string ⟨#[49]⟩,.int .i64 0]))
  (h7:CqB w 119 #[.string x,.string y] (.tuple #[.string t,.int .i64 f])) :
  Calls Tryz.prog 76 #[.string a,.string b] w fun e W'=>e = .returned (.tuple #[.string ⟨#[]⟩,.int .i64 f])∧Below w.heap.size w W':=by
 have C:=Lib.hid ((And.intro h1 (And.intro h2 (And.intro h3 (And.intro h4 (And.intro h5 (And.intro h6 h7)))))));clear h1 h2 h3 h4 h5 h6 h7
 have B0:=Lib.hid (Below.refl w.heap.size w)
 go_enter Tryz.func76,Tryz.ntmps76
 go_wp2_with fail
 refine (C.out.1 _ B0.out).mono ?_
 rintro e w1 ⟨rfl,b⟩
 have B1:=Lib.hid (B0.out.trans (b.mono B0.out.size));clear b B0
 go_wp2_with fail
 refine (C.out.2.1 _ B1.out).mono ?_
 rintro e w2 ⟨rfl,b⟩
 have B2:=Lib.hid (B1.out.trans (b.mono B1.out.size));clear b B1
 go_wp2_with fail
 refine (C.out.2.2.1 _ B2.out).mono ?_
 rintro e w3 ⟨rfl,b⟩
 have B3:=Lib.hid (B2.out.trans (b.mono B2.out.size));clear b B2
 go_wp2_with fail
 refine (C.out.2.2.2.1 _ B3.out).mono ?_
 rintro e w4 ⟨rfl,b⟩
 have B4:=Lib.hid (B3.out.trans (b.mono B3.out.size));clear b B3
 go_wp2_with fail
 refine (C.out.2.2.2.2.1 _ B4.out).mono ?_
 rintro e w5 ⟨rfl,b⟩
 have B5:=Lib.hid (B4.out.trans (b.mono B4.out.size));clear b B4
 go_wp2_with fail
 refine (C.out.2.2.2.2.2.1 _ B5.out).mono ?_
 rintro e w6 ⟨rfl,b⟩
 have B6:=Lib.hid (B5.out.trans (b.mono B5.out.size));clear b B5
 go_wp2_with fail
 refine (C.out.2.2.2.2.2.2 _ B6.out).mono ?_
 rintro e w7 ⟨rfl,b⟩
 have B7:=Lib.hid (B6.out.trans (b.mono B6.out.size));clear b B6
 go_wp2
 go_ret2
 exact ⟨rfl,B7.out⟩
theorem radd_okf (a b p q r s:ByteArray) (n d m c:Int) (k:Bool) (x y z t u:ByteArray) (f:Int) (w:World)
  (h1:CqB w 60 #[.string a] (.tuple #[.int .i64 n,.int .i64 d,.bool false]))
  (h2:CqB w 60 #[.string b] (.tuple #[.int .i64 m,.int .i64 c,.bool k]))
  (h3:CqB w 62 #[.string a] (.tuple #[.string p,.string q]))
  (h4:CqB w 62 #[.string b] (.tuple #[.string r,.string s]))
  (h5:CqB w 118 #[.string p,.string s,.string r,.string q] (.tuple #[.string x,.string y,.int .i64 0]))
  (h6:CqB w 118 #[.string q,.string s,.string ⟨#[49]⟩,.string ⟨#[49]⟩] (.tuple #[.string z,.string ⟨#[49]⟩,.int .i64 0]))
  (h7:CqB w 119 #[.string x,.string y] (.tuple #[.string t,.int .i64 0]))
  (h8:CqB w 64 #[.string t,.string z] (.tuple #[.string u,.int .i64 f])) :
  Calls Tryz.prog 76 #[.string a,.string b] w fun e W'=>e = .returned (.tuple #[.string u,.int .i64 f])∧Below w.heap.size w W':=by
 have C:=Lib.hid ((And.intro h1 (And.intro h2 (And.intro h3 (And.intro h4 (And.intro h5 (And.intro h6 (And.intro h7 h8))))))));clear h1 h2 h3 h4 h5 h6 h7 h8
 have B0:=Lib.hid (Below.refl w.heap.size w)
 go_enter Tryz.func76,Tryz.ntmps76
 go_wp2_with fail
 refine (C.out.1 _ B0.out).mono ?_
 rintro e w1 ⟨rfl,b⟩
 have B1:=Lib.hid (B0.out.trans (b.mono B0.out.size));clear b B0
 go_wp2_with fail
 refine (C.out.2.1 _ B1.out).mono ?_
 rintro e w2 ⟨rfl,b⟩
 have B2:=Lib.hid (B1.out.trans (b.mono B1.out.size));clear b B1
 go_wp2_with fail
 refine (C.out.2.2.1 _ B2.out).mono ?_
 rintro e w3 ⟨rfl,b⟩
 have B3:=Lib.hid (B2.out.trans (b.mono B2.out.size));clear b B2
 go_wp2_with fail
 refine (C.out.2.2.2.1 _ B3.out).mono ?_
 rintro e w4 ⟨rfl,b⟩
 have B4:=Lib.hid (B3.out.trans (b.mono B3.out.size));clear b B3
 go_wp2_with fail
 refine (C.out.2.2.2.2.1 _ B4.out).mono ?_
 rintro e w5 ⟨rfl,b⟩
 have B5:=Lib.hid (B4.out.trans (b.mono B4.out.size));clear b B4
 go_wp2_with fail
 refine (C.out.2.2.2.2.2.1 _ B5.out).mono ?_
 rintro e w6 ⟨rfl,b⟩
 have B6:=Lib.hid (B5.out.trans (b.mono B5.out.size));clear b B5
 go_wp2_with fail
 refine (C.out.2.2.2.2.2.2.1 _ B6.out).mono ?_
 rintro e w7 ⟨rfl,b⟩
 have B7:=Lib.hid (B6.out.trans (b.mono B6.out.size));clear b B6
 go_wp2_with fail
 refine (C.out.2.2.2.2.2.2.2 _ B7.out).mono ?_
 rintro e w8 ⟨rfl,b⟩
 have B8:=Lib.hid (B7.out.trans (b.mono B7.out.size));clear b B7
 go_wp2
 go_ret2
 exact ⟨rfl,B8.out⟩
theorem radd_e1t (a b p q r s:ByteArray) (n d m c:Int) (x y:ByteArray) (f:Int) (w:World) (n1:(f==0)=false) (n2:(f != 0)=true)
  (h1:CqB w 60 #[.string a] (.tuple #[.int .i64 n,.int .i64 d,.bool true]))
  (h2:CqB w 60 #[.string b] (.tuple #[.int .i64 m,.int .i64 c,.bool false]))
  (h3:CqB w 62 #[.string a] (.tuple #[.string p,.string q]))
  (h4:CqB w 62 #[.string b] (.tuple #[.string r,.string s]))
  (h5:CqB w 118 #[.string p,.string s,.string r,.string q] (.tuple #[.string x,.string y,.int .i64 f])) :
  Calls Tryz.prog 76 #[.string a,.string b] w fun e W'=>e = .returned (.tuple #[.string ⟨#[]⟩,.int .i64 f])∧Below w.heap.size w W':=by
 have C:=Lib.hid ((And.intro h1 (And.intro h2 (And.intro h3 (And.intro h4 h5)))));clear h1 h2 h3 h4 h5
 have B0:=Lib.hid (Below.refl w.heap.size w)
 go_enter Tryz.func76,Tryz.ntmps76
 go_wp2_with fail
 refine (C.out.1 _ B0.out).mono ?_
 rintro e w1 ⟨rfl,b⟩
 have B1:=Lib.hid (B0.out.trans (b.mono B0.out.size));clear b B0
 go_wp2_with fail
 refine (C.out.2.1 _ B1.out).mono ?_
 rintro e w2 ⟨rfl,b⟩
 have B2:=Lib.hid (B1.out.trans (b.mono B1.out.size));clear b B1
 go_wp2_with fail
 refine (C.out.2.2.1 _ B2.out).mono ?_
 rintro e w3 ⟨rfl,b⟩
 have B3:=Lib.hid (B2.out.trans (b.mono B2.out.size));clear b B2
 go_wp2_with fail
 refine (C.out.2.2.2.1 _ B3.out).mono ?_
 rintro e w4 ⟨rfl,b⟩
 have B4:=Lib.hid (B3.out.trans (b.mono B3.out.size));clear b B3
 go_wp2_with fail
 refine (C.out.2.2.2.2 _ B4.out).mono ?_
 rintro e w5 ⟨rfl,b⟩
 have B5:=Lib.hid (B4.out.trans (b.mono B4.out.size));clear b B4
 go_wp2
 go_ret2
 exact ⟨rfl,B5.out⟩
theorem radd_e2t (a b p q r s:ByteArray) (n d m c:Int) (x y z v:ByteArray) (f:Int) (w:World) (n1:(f==0)=false) (n2:(f != 0)=true)
  (h1:CqB w 60 #[.string a] (.tuple #[.int .i64 n,.int .i64 d,.bool true]))
  (h2:CqB w 60 #[.string b] (.tuple #[.int .i64 m,.int .i64 c,.bool false]))
  (h3:CqB w 62 #[.string a] (.tuple #[.string p,.string q]))
  (h4:CqB w 62 #[.string b] (.tuple #[.string r,.string s]))
  (h5:CqB w 118 #[.string p,.string s,.string r,.string q] (.tuple #[.string x,.string y,.int .i64 0]))
  (h6:CqB w 118 #[.string q,.string s,.string ⟨#[49]⟩,.string ⟨#[49]⟩] (.tuple #[.string z,.string v,.int .i64 f])) :
  Calls Tryz.prog 76 #[.string a,.string b] w fun e W'=>e = .returned (.tuple #[.string ⟨#[]⟩,.int .i64 f])∧Below w.heap.size w W':=by
 have C:=Lib.hid ((And.intro h1 (And.intro h2 (And.intro h3 (And.intro h4 (And.intro h5 h6))))));clear h1 h2 h3 h4 h5 h6
 have B0:=Lib.hid (Below.refl w.heap.size w)
 go_enter Tryz.func76,Tryz.ntmps76
 go_wp2_with fail
 refine (C.out.1 _ B0.out).mono ?_
 rintro e w1 ⟨rfl,b⟩
 have B1:=Lib.hid (B0.out.trans (b.mono B0.out.size));clear b B0
 go_wp2_with fail
 refine (C.out.2.1 _ B1.out).mono ?_
 rintro e w2 ⟨rfl,b⟩
 have B2:=Lib.hid (B1.out.trans (b.mono B1.out.size));clear b B1
 go_wp2_with fail
 refine (C.out.2.2.1 _ B2.out).mono ?_
 rintro e w3 ⟨rfl,b⟩
 have B3:=Lib.hid (B2.out.trans (b.mono B2.out.size));clear b B2
 go_wp2_with fail
 refine (C.out.2.2.2.1 _ B3.out).mono ?_
 rintro e w4 ⟨rfl,b⟩
 have B4:=Lib.hid (B3.out.trans (b.mono B3.out.size));clear b B3
 go_wp2_with fail
 refine (C.out.2.2.2.2.1 _ B4.out).mono ?_
 rintro e w5 ⟨rfl,b⟩
 have B5:=Lib.hid (B4.out.trans (b.mono B4.out.size));clear b B4
 go_wp2_with fail
 refine (C.out.2.2.2.2.2 _ B5.out).mono ?_
 rintro e w6 ⟨rfl,b⟩
 have B6:=Lib.hid (B5.out.trans (b.mono B5.out.size));clear b B5
 go_wp2
 go_ret2
 exact ⟨rfl,B6.out⟩
theorem radd_e3t (a b p q r s:ByteArray) (n d m c:Int) (x y z t:ByteArray) (f:Int) (w:World) (n1:(f==0)=false) (n2:(f != 0)=true)
  (h1:CqB w 60 #[.string a] (.tuple #[.int .i64 n,.int .i64 d,.bool true]))
  (h2:CqB w 60 #[.string b] (.tuple #[.int .i64 m,.int .i64 c,.bool false]))
  (h3:CqB w 62 #[.string a] (.tuple #[.string p,.string q]))
  (h4:CqB w 62 #[.string b] (.tuple #[.string r,.string s]))
  (h5:CqB w 118 #[.string p,.string s,.string r,.string q] (.tuple #[.string x,.string y,.int .i64 0]))
  (h6:CqB w 118 #[.string q,.string s,.string ⟨#[49]⟩,.string ⟨#[49]⟩] (.tuple #[.string z,.string ⟨#[49]⟩,.int .i64 0]))
  (h7:CqB w 119 #[.string x,.string y] (.tuple #[.string t,.int .i64 f])) :
  Calls Tryz.prog 76 #[.string a,.string b] w fun e W'=>e = .returned (.tuple #[.string ⟨#[]⟩,.int .i64 f])∧Below w.heap.size w W':=by
 have C:=Lib.hid ((And.intro h1 (And.intro h2 (And.intro h3 (And.intro h4 (And.intro h5 (And.intro h6 h7)))))));clear h1 h2 h3 h4 h5 h6 h7
 have B0:=Lib.hid (Below.refl w.heap.size w)
 go_enter Tryz.func76,Tryz.ntmps76
 go_wp2_with fail
 refine (C.out.1 _ B0.out).mono ?_
 rintro e w1 ⟨rfl,b⟩
 have B1:=Lib.hid (B0.out.trans (b.mono B0.out.size));clear b B0
 go_wp2_with fail
 refine (C.out.2.1 _ B1.out).mono ?_
 rintro e w2 ⟨rfl,b⟩
 have B2:=Lib.hid (B1.out.trans (b.mono B1.out.size));clear b B1
 go_wp2_with fail
 refine (C.out.2.2.1 _ B2.out).mono ?_
 rintro e w3 ⟨rfl,b⟩
 have B3:=Lib.hid (B2.out.trans (b.mono B2.out.size));clear b B2
 go_wp2_with fail
 refine (C.out.2.2.2.1 _ B3.out).mono ?_
 rintro e w4 ⟨rfl,b⟩
 have B4:=Lib.hid (B3.out.trans (b.mono B3.out.size));clear b B3
 go_wp2_with fail
 refine (C.out.2.2.2.2.1 _ B4.out).mono ?_
 rintro e w5 ⟨rfl,b⟩
 have B5:=Lib.hid (B4.out.trans (b.mono B4.out.size));clear b B4
 go_wp2_with fail
 refine (C.out.2.2.2.2.2.1 _ B5.out).mono ?_
 rintro e w6 ⟨rfl,b⟩
 have B6:=Lib.hid (B5.out.trans (b.mono B5.out.size));clear b B5
 go_wp2_with fail
 refine (C.out.2.2.2.2.2.2 _ B6.out).mono ?_
 rintro e w7 ⟨rfl,b⟩
 have B7:=Lib.hid (B6.out.trans (b.mono B6.out.size));clear b B6
 go_wp2
 go_ret2
 exact ⟨rfl,B7.out⟩
theorem radd_okt (a b p q r s:ByteArray) (n d m c:Int) (x y z t u:ByteArray) (f:Int) (w:World)
  (h1:CqB w 60 #[.string a] (.tuple #[.int .i64 n,.int .i64 d,.bool true]))
  (h2:CqB w 60 #[.string b] (.tuple #[.int .i64 m,.int .i64 c,.bool false]))
  (h3:CqB w 62 #[.string a] (.tuple #[.string p,.string q]))
  (h4:CqB w 62 #[.string b] (.tuple #[.string r,.string s]))
  (h5:CqB w 118 #[.string p,.string s,.string r,.string q] (.tuple #[.string x,.string y,.int .i64 0]))
  (h6:CqB w 118 #[.string q,.string s,.string ⟨#[49]⟩,.string ⟨#[49]⟩] (.tuple #[.string z,.string ⟨#[49]⟩,.int .i64 0]))
  (h7:CqB w 119 #[.string x,.string y] (.tuple #[.string t,.int .i64 0]))
  (h8:CqB w 64 #[.string t,.string z] (.tuple #[.string u,.int .i64 f])) :
  Calls Tryz.prog 76 #[.string a,.string b] w fun e W'=>e = .returned (.tuple #[.string u,.int .i64 f])∧Below w.heap.size w W':=by
 have C:=Lib.hid ((And.intro h1 (And.intro h2 (And.intro h3 (And.intro h4 (And.intro h5 (And.intro h6 (And.intro h7 h8))))))));clear h1 h2 h3 h4 h5 h6 h7 h8
 have B0:=Lib.hid (Below.refl w.heap.size w)
 go_enter Tryz.func76,Tryz.ntmps76
 go_wp2_with fail
 refine (C.out.1 _ B0.out).mono ?_
 rintro e w1 ⟨rfl,b⟩
 have B1:=Lib.hid (B0.out.trans (b.mono B0.out.size));clear b B0
 go_wp2_with fail
 refine (C.out.2.1 _ B1.out).mono ?_
 rintro e w2 ⟨rfl,b⟩
 have B2:=Lib.hid (B1.out.trans (b.mono B1.out.size));clear b B1
 go_wp2_with fail
 refine (C.out.2.2.1 _ B2.out).mono ?_
 rintro e w3 ⟨rfl,b⟩
 have B3:=Lib.hid (B2.out.trans (b.mono B2.out.size));clear b B2
 go_wp2_with fail
 refine (C.out.2.2.2.1 _ B3.out).mono ?_
 rintro e w4 ⟨rfl,b⟩
 have B4:=Lib.hid (B3.out.trans (b.mono B3.out.size));clear b B3
 go_wp2_with fail
 refine (C.out.2.2.2.2.1 _ B4.out).mono ?_
 rintro e w5 ⟨rfl,b⟩
 have B5:=Lib.hid (B4.out.trans (b.mono B4.out.size));clear b B4
 go_wp2_with fail
 refine (C.out.2.2.2.2.2.1 _ B5.out).mono ?_
 rintro e w6 ⟨rfl,b⟩
 have B6:=Lib.hid (B5.out.trans (b.mono B5.out.size));clear b B5
 go_wp2_with fail
 refine (C.out.2.2.2.2.2.2.1 _ B6.out).mono ?_
 rintro e w7 ⟨rfl,b⟩
 have B7:=Lib.hid (B6.out.trans (b.mono B6.out.size));clear b B6
 go_wp2_with fail
 refine (C.out.2.2.2.2.2.2.2 _ B7.out).mono ?_
 rintro e w8 ⟨rfl,b⟩
 have B8:=Lib.hid (B7.out.trans (b.mono B7.out.size));clear b B7
 go_wp2
 go_ret2
 exact ⟨rfl,B8.out⟩
def I64 (z:Int):Prop := -9223372036854775808≤z∧z≤9223372036854775807
theorem I64.short {z:Int} (h:I64 z):short z :=
 Nat.lt_of_le_of_lt (show z.natAbs≤9223372036854775808 by unfold I64 at h;omega) (Nat.lt_of_lt_of_le (by decide:9223372036854775808<tenTo 19) (tenTo_mono (by decide:19≤300)))
end Go.Proofs.YteckjifdpcbaeaaGreatDoor

namespace Go.Proofs.YteckjifdpcbaeaaGreatDoor
open Go.Lib
end Go.Proofs.YteckjifdpcbaeaaGreatDoor
namespace Go.Proofs.YteckjifdpcbaeaaGreatDoor
open Go.RowKit
def chk2Q (a b:ByteArray):Int:=if chkQ a.data.toList=0 then chkQ b.data.toList else chkQ a.data.toList
def rat (a:ByteArray):Rat:=ratOf a.data.toList
def opB (f:Rat→Rat→ByteArray) (a b:ByteArray):ByteArray:=if chk2Q a b=0 then f (rat a) (rat b) else ⟨#[]⟩
def opE (f:Rat→Rat→Int) (a b:ByteArray):Int:=if chk2Q a b=0 then f (rat a) (rat b) else chk2Q a b
def qdivB' (x y:Rat):ByteArray:=if y=0 then ⟨#[]⟩ else qdivB x y
def qdivE' (x y:Rat):Int:=if y=0 then 12 else qdivE x y
theorem chk2Q_ok {a b:ByteArray} (h:chk2Q a b=0):chkQ a.data.toList=0∧chkQ b.data.toList=0:=by
 unfold chk2Q at h
 split at h
 ·exact ⟨by assumption,h⟩
 ·exact absurd h (by assumption)
theorem chkQ_sq {a:ByteArray} (h:chkQ a.data.toList=0):Sq (rat a):=chkQ_lim h
theorem chkQ_str {a:ByteArray} (h:chkQ a.data.toList=0):strQ (rat a)=a:=(str_of_chkQ h).symm
def floB (a:ByteArray):ByteArray:=if chkQ a.data.toList=0 then strB ((rat a).num.fdiv (rat a).den) else ⟨#[]⟩
theorem check2_bad (a b:ByteArray) (f:Int) (w:World) (n1:(f==0)=false) (n2:(f != 0)=true)
  (h1:CqB w 51 #[.string a] (.int .i64 f)) :
  Calls Tryz.prog 74 #[.string a,.string b] w fun e W'=>e = .returned (.int .i64 f)∧Below w.heap.size w W':=by
 have C:=Lib.hid h1;clear h1
 have B0:=Lib.hid (Below.refl w.heap.size w)
 go_enter Tryz.func74,Tryz.ntmps74
 go_wp2_with fail
 refine (C.out _ B0.out).mono ?_
 rintro e w1 ⟨rfl,b⟩
 have B1:=Lib.hid (B0.out.trans (b.mono B0.out.size));clear b B0
 go_wp2
 go_ret
 exact ⟨rfl,B1.out⟩
theorem check2_ok (a b:ByteArray) (f:Int) (w:World)
  (h1:CqB w 51 #[.string a] (.int .i64 0))
  (h2:CqB w 51 #[.string b] (.int .i64 f)) :
  Calls Tryz.prog 74 #[.string a,.string b] w fun e W'=>e = .returned (.int .i64 f)∧Below w.heap.size w W':=by
 have C:=Lib.hid ((And.intro h1 h2));clear h1 h2
 have B0:=Lib.hid (Below.refl w.heap.size w)
 go_enter Tryz.func74,Tryz.ntmps74
 go_wp2_with fail
 refine (C.out.1 _ B0.out).mono ?_
 rintro e w1 ⟨rfl,b⟩
 have B1:=Lib.hid (B0.out.trans (b.mono B0.out.size));clear b B0
 go_wp2_with fail
 refine (C.out.2 _ B1.out).mono ?_
 rintro e w2 ⟨rfl,b⟩
 have B2:=Lib.hid (B1.out.trans (b.mono B1.out.size));clear b B1
 go_wp2
 go_ret
 exact ⟨rfl,B2.out⟩
theorem rAdd_bad (a b:ByteArray) (f:Int) (w:World) (n1:(f==0)=false) (n2:(f != 0)=true)
  (h0:CqB w 74 #[.string a,.string b] (.int .i64 f)) :
  Calls Tryz.prog 38 #[.string a,.string b] w fun e W'=>e = .returned (.tuple #[.string ⟨#[]⟩,.int .i64 f])∧Below w.heap.size w W':=by
 have C:=Lib.hid h0;clear h0
 have B0:=Lib.hid (Below.refl w.heap.size w)
 go_enter Tryz.func38,Tryz.ntmps38
 go_wp2_with fail
 refine (C.out _ B0.out).mono ?_
 rintro e w1 ⟨rfl,b⟩
 have B1:=Lib.hid (B0.out.trans (b.mono B0.out.size));clear b B0
 go_wp2
 go_ret2
 exact ⟨rfl,B1.out⟩
theorem rMul_bad (a b:ByteArray) (f:Int) (w:World) (n1:(f==0)=false) (n2:(f != 0)=true)
  (h0:CqB w 74 #[.string a,.string b] (.int .i64 f)) :
  Calls Tryz.prog 58 #[.string a,.string b] w fun e W'=>e = .returned (.tuple #[.string ⟨#[]⟩,.int .i64 f])∧Below w.heap.size w W':=by
 have C:=Lib.hid h0;clear h0
 have B0:=Lib.hid (Below.refl w.heap.size w)
 go_enter Tryz.func58,Tryz.ntmps58
 go_wp2_with fail
 refine (C.out _ B0.out).mono ?_
 rintro e w1 ⟨rfl,b⟩
 have B1:=Lib.hid (B0.out.trans (b.mono B0.out.size));clear b B0
 go_wp2
 go_ret2
 exact ⟨rfl,B1.out⟩
theorem rDiv_bad (a b:ByteArray) (f:Int) (w:World) (n1:(f==0)=false) (n2:(f != 0)=true)
  (h0:CqB w 74 #[.string a,.string b] (.int .i64 f)) :
  Calls Tryz.prog 37 #[.string a,.string b] w fun e W'=>e = .returned (.tuple #[.string ⟨#[]⟩,.int .i64 f])∧Below w.heap.size w W':=by
 have C:=Lib.hid h0;clear h0
 have B0:=Lib.hid (Below.refl w.heap.size w)
 go_enter Tryz.func37,Tryz.ntmps37
 go_wp2_with fail
 refine (C.out _ B0.out).mono ?_
 rintro e w1 ⟨rfl,b⟩
 have B1:=Lib.hid (B0.out.trans (b.mono B0.out.size));clear b B0
 go_wp2
 go_ret2
 exact ⟨rfl,B1.out⟩
theorem rAdd_ok (a b r:ByteArray) (f:Int) (w:World)
  (h0:CqB w 74 #[.string a,.string b] (.int .i64 0))
  (h1:CqB w 76 #[.string a,.string b] (.tuple #[.string r,.int .i64 f])) :
  Calls Tryz.prog 38 #[.string a,.string b] w fun e W'=>e = .returned (.tuple #[.string r,.int .i64 f])∧Below w.heap.size w W':=by
 have C:=Lib.hid ((And.intro h0 h1));clear h0 h1
 have B0:=Lib.hid (Below.refl w.heap.size w)
 go_enter Tryz.func38,Tryz.ntmps38
 go_wp2_with fail
 refine (C.out.1 _ B0.out).mono ?_
 rintro e w1 ⟨rfl,b⟩
 have B1:=Lib.hid (B0.out.trans (b.mono B0.out.size));clear b B0
 go_wp2_with fail
 refine (C.out.2 _ B1.out).mono ?_
 rintro e w2 ⟨rfl,b⟩
 have B2:=Lib.hid (B1.out.trans (b.mono B1.out.size));clear b B1
 go_wp2
 go_ret2
 exact ⟨rfl,B2.out⟩
theorem rmul_e (n d m c x y:ByteArray) (f:Int) (w:World) (n1:(f==0)=false) (n2:(f != 0)=true)
  (h1:CqB w 118 #[.string n,.string m,.string d,.string c] (.tuple #[.string x,.string y,.int .i64 f])) :
  Calls Tryz.prog 75 #[.string n,.string d,.string m,.string c] w fun e W'=>e = .returned (.tuple #[.string ⟨#[]⟩,.int .i64 f])∧Below w.heap.size w W':=by
 have C:=Lib.hid h1;clear h1
 have B0:=Lib.hid (Below.refl w.heap.size w)
 go_enter Tryz.func75,Tryz.ntmps75
 go_wp2_with fail
 refine (C.out _ B0.out).mono ?_
 rintro e w1 ⟨rfl,b⟩
 have B1:=Lib.hid (B0.out.trans (b.mono B0.out.size));clear b B0
 go_wp2
 go_ret2
 exact ⟨rfl,B1.out⟩
theorem rmul_ok (n d m c x y r:ByteArray) (f:Int) (w:World)
  (h1:CqB w 118 #[.string n,.string m,.string d,.string c] (.tuple #[.string x,.string y,.int .i64 0]))
  (h2:CqB w 64 #[.string x,.string y] (.tuple #[.string r,.int .i64 f])) :
  Calls Tryz.prog 75 #[.string n,.string d,.string m,.string c] w fun e W'=>e = .returned (.tuple #[.string r,.int .i64 f])∧Below w.heap.size w W':=by
 have C:=Lib.hid ((And.intro h1 h2));clear h1 h2
 have B0:=Lib.hid (Below.refl w.heap.size w)
 go_enter Tryz.func75,Tryz.ntmps75
 go_wp2_with fail
 refine (C.out.1 _ B0.out).mono ?_
 rintro e w1 ⟨rfl,b⟩
 have B1:=Lib.hid (B0.out.trans (b.mono B0.out.size));clear b B0
 go_wp2_with fail
 refine (C.out.2 _ B1.out).mono ?_
 rintro e w2 ⟨rfl,b⟩
 have B2:=Lib.hid (B1.out.trans (b.mono B1.out.size));clear b B1
 go_wp2
 go_ret2
 exact ⟨rfl,B2.out⟩
theorem rMul_s (a b:ByteArray) (n d m c:Int) (r:ByteArray) (w:World) (hn : -1000000000<n∧n<1000000000) (hd:0<d∧d<1000000000) (hm : -1000000000<m∧m<1000000000) (hc:0<c∧c<1000000000)
  (h0:CqB w 74 #[.string a,.string b] (.int .i64 0))
  (h1:CqB w 60 #[.string a] (.tuple #[.int .i64 n,.int .i64 d,.bool true]))
  (h2:CqB w 60 #[.string b] (.tuple #[.int .i64 m,.int .i64 c,.bool true]))
  (h3:CqB w 61 #[.int .i64 (n*m),.int .i64 (d*c)] (.string r)) :
  Calls Tryz.prog 58 #[.string a,.string b] w fun e W'=>e = .returned (.tuple #[.string r,.int .i64 0])∧Below w.heap.size w W':=by
 have z0:=mul9 (x:=n) (y:=m) ⟨by omega,by omega⟩ ⟨by omega,by omega⟩
 have z1:=mul9 (x:=d) (y:=c) ⟨by omega,by omega⟩ ⟨by omega,by omega⟩
 have C:=Lib.hid ((And.intro h0 (And.intro h1 (And.intro h2 h3))));clear h0 h1 h2 h3
 have B0:=Lib.hid (Below.refl w.heap.size w)
 go_enter Tryz.func58,Tryz.ntmps58
 go_wp2_with fail
 refine (C.out.1 _ B0.out).mono ?_
 rintro e w1 ⟨rfl,b⟩
 have B1:=Lib.hid (B0.out.trans (b.mono B0.out.size));clear b B0
 go_wp2_with fail
 refine (C.out.2.1 _ B1.out).mono ?_
 rintro e w2 ⟨rfl,b⟩
 have B2:=Lib.hid (B1.out.trans (b.mono B1.out.size));clear b B1
 go_wp2_with fail
 refine (C.out.2.2.1 _ B2.out).mono ?_
 rintro e w3 ⟨rfl,b⟩
 have B3:=Lib.hid (B2.out.trans (b.mono B2.out.size));clear b B2
 go_wp2_with fail
 refine (C.out.2.2.2 _ B3.out).mono ?_
 rintro e w4 ⟨rfl,b⟩
 have B4:=Lib.hid (B3.out.trans (b.mono B3.out.size));clear b B3
 go_wp2
 go_ret2
 exact ⟨rfl,B4.out⟩
theorem rDiv_0 (a b:ByteArray) (w:World) (hz:(b.toList == [48])=true)
  (h0:CqB w 74 #[.string a,.string b] (.int .i64 0)) :
  Calls Tryz.prog 37 #[.string a,.string b] w fun e W'=>e = .returned (.tuple #[.string ⟨#[]⟩,.int .i64 12])∧Below w.heap.size w W':=by
 have C:=Lib.hid h0;clear h0
 have B0:=Lib.hid (Below.refl w.heap.size w)
 go_enter Tryz.func37,Tryz.ntmps37
 go_wp2_with fail
 refine (C.out _ B0.out).mono ?_
 rintro e w1 ⟨rfl,b⟩
 have B1:=Lib.hid (B0.out.trans (b.mono B0.out.size));clear b B0
 go_wp2
 go_ret2
 exact ⟨rfl,B1.out⟩
theorem rDiv_sp (a b:ByteArray) (n d m c:Int) (r:ByteArray) (w:World) (hz:(b.toList == [48])=false) (hm0:0<m) (hn : -1000000000<n∧n<1000000000) (hd:0<d∧d<1000000000) (hm : -1000000000<m∧m<1000000000) (hc:0<c∧c<1000000000)
  (h0:CqB w 74 #[.string a,.string b] (.int .i64 0))
  (h1:CqB w 60 #[.string a] (.tuple #[.int .i64 n,.int .i64 d,.bool true]))
  (h2:CqB w 60 #[.string b] (.tuple #[.int .i64 m,.int .i64 c,.bool true]))
  (h3:CqB w 61 #[.int .i64 (n*c),.int .i64 (d*m)] (.string r)) :
  Calls Tryz.prog 37 #[.string a,.string b] w fun e W'=>e = .returned (.tuple #[.string r,.int .i64 0])∧Below w.heap.size w W':=by
 have z0:=mul9 (x:=n) (y:=c) ⟨by omega,by omega⟩ ⟨by omega,by omega⟩
 have z1:=mul9 (x:=d) (y:=m) ⟨by omega,by omega⟩ ⟨by omega,by omega⟩
 have C:=Lib.hid ((And.intro h0 (And.intro h1 (And.intro h2 h3))));clear h0 h1 h2 h3
 have B0:=Lib.hid (Below.refl w.heap.size w)
 go_enter Tryz.func37,Tryz.ntmps37
 go_wp2_with fail
 refine (C.out.1 _ B0.out).mono ?_
 rintro e w1 ⟨rfl,b⟩
 have B1:=Lib.hid (B0.out.trans (b.mono B0.out.size));clear b B0
 go_wp2_with fail
 refine (C.out.2.1 _ B1.out).mono ?_
 rintro e w2 ⟨rfl,b⟩
 have B2:=Lib.hid (B1.out.trans (b.mono B1.out.size));clear b B1
 go_wp2_with fail
 refine (C.out.2.2.1 _ B2.out).mono ?_
 rintro e w3 ⟨rfl,b⟩
 have B3:=Lib.hid (B2.out.trans (b.mono B2.out.size));clear b B2
 go_wp2_with fail
 refine (C.out.2.2.2 _ B3.out).mono ?_
 rintro e w4 ⟨rfl,b⟩
 have B4:=Lib.hid (B3.out.trans (b.mono B3.out.size));clear b B3
 go_wp2
 go_ret2
 exact ⟨rfl,B4.out⟩
theorem rDiv_sn (a b:ByteArray) (n d m c:Int) (r:ByteArray) (w:World) (hz:(b.toList == [48])=false) (hm0:m<0) (hn : -1000000000<n∧n<1000000000) (hd:0<d∧d<1000000000) (hm : -1000000000<m∧m<1000000000) (hc:0<c∧c<1000000000)
  (h0:CqB w 74 #[.string a,.string b] (.int .i64 0))
  (h1:CqB w 60 #[.string a] (.tuple #[.int .i64 n,.int .i64 d,.bool true]))
  (h2:CqB w 60 #[.string b] (.tuple #[.int .i64 m,.int .i64 c,.bool true]))
  (h3:CqB w 61 #[.int .i64 (n * -c),.int .i64 (d * -m)] (.string r)) :
  Calls Tryz.prog 37 #[.string a,.string b] w fun e W'=>e = .returned (.tuple #[.string r,.int .i64 0])∧Below w.heap.size w W':=by
 have z0:=mul9 (x:=n) (y := -c) ⟨by omega,by omega⟩ ⟨by omega,by omega⟩
 have z1:=mul9 (x:=d) (y := -m) ⟨by omega,by omega⟩ ⟨by omega,by omega⟩
 have C:=Lib.hid ((And.intro h0 (And.intro h1 (And.intro h2 h3))));clear h0 h1 h2 h3
 have B0:=Lib.hid (Below.refl w.heap.size w)
 go_enter Tryz.func37,Tryz.ntmps37
 go_wp2_with fail
 refine (C.out.1 _ B0.out).mono ?_
 rintro e w1 ⟨rfl,b⟩
 have B1:=Lib.hid (B0.out.trans (b.mono B0.out.size));clear b B0
 go_wp2_with fail
 refine (C.out.2.1 _ B1.out).mono ?_
 rintro e w2 ⟨rfl,b⟩
 have B2:=Lib.hid (B1.out.trans (b.mono B1.out.size));clear b B1
 go_wp2_with fail
 refine (C.out.2.2.1 _ B2.out).mono ?_
 rintro e w3 ⟨rfl,b⟩
 have B3:=Lib.hid (B2.out.trans (b.mono B2.out.size));clear b B2
 go_wp2_with fail
 refine (C.out.2.2.2 _ B3.out).mono ?_
 rintro e w4 ⟨rfl,b⟩
 have B4:=Lib.hid (B3.out.trans (b.mono B3.out.size));clear b B3
 go_wp2
 go_ret2
 exact ⟨rfl,B4.out⟩
theorem rMul_lf (a b p q r s:ByteArray) (n d m c:Int) (k:Bool) (u:ByteArray) (f:Int) (w:World)
  (h0:CqB w 74 #[.string a,.string b] (.int .i64 0))
  (h1:CqB w 60 #[.string a] (.tuple #[.int .i64 n,.int .i64 d,.bool false]))
  (h2:CqB w 60 #[.string b] (.tuple #[.int .i64 m,.int .i64 c,.bool k]))
  (h3:CqB w 62 #[.string a] (.tuple #[.string p,.string q]))
  (h4:CqB w 62 #[.string b] (.tuple #[.string r,.string s]))
  (h5:CqB w 75 #[.string p,.string q,.string r,.string s] (.tuple #[.string u,.int .i64 f])) :
  Calls Tryz.prog 58 #[.string a,.string b] w fun e W'=>e = .returned (.tuple #[.string u,.int .i64 f])∧Below w.heap.size w W':=by
 have C:=Lib.hid ((And.intro h0 (And.intro h1 (And.intro h2 (And.intro h3 (And.intro h4 h5))))));clear h0 h1 h2 h3 h4 h5
 have B0:=Lib.hid (Below.refl w.heap.size w)
 go_enter Tryz.func58,Tryz.ntmps58
 go_wp2_with fail
 refine (C.out.1 _ B0.out).mono ?_
 rintro e w1 ⟨rfl,b⟩
 have B1:=Lib.hid (B0.out.trans (b.mono B0.out.size));clear b B0
 go_wp2_with fail
 refine (C.out.2.1 _ B1.out).mono ?_
 rintro e w2 ⟨rfl,b⟩
 have B2:=Lib.hid (B1.out.trans (b.mono B1.out.size));clear b B1
 go_wp2_with fail
 refine (C.out.2.2.1 _ B2.out).mono ?_
 rintro e w3 ⟨rfl,b⟩
 have B3:=Lib.hid (B2.out.trans (b.mono B2.out.size));clear b B2
 go_wp2_with fail
 refine (C.out.2.2.2.1 _ B3.out).mono ?_
 rintro e w4 ⟨rfl,b⟩
 have B4:=Lib.hid (B3.out.trans (b.mono B3.out.size));clear b B3
 go_wp2_with fail
 refine (C.out.2.2.2.2.1 _ B4.out).mono ?_
 rintro e w5 ⟨rfl,b⟩
 have B5:=Lib.hid (B4.out.trans (b.mono B4.out.size));clear b B4
 go_wp2_with fail
 refine (C.out.2.2.2.2.2 _ B5.out).mono ?_
 rintro e w6 ⟨rfl,b⟩
 have B6:=Lib.hid (B5.out.trans (b.mono B5.out.size));clear b B5
 go_wp2
 go_ret2
 exact ⟨rfl,B6.out⟩
theorem rDiv_lf (a b p q r s:ByteArray) (n d m c:Int) (k:Bool) (u:ByteArray) (f:Int) (w:World) (hz:(b.toList == [48])=false)
  (h0:CqB w 74 #[.string a,.string b] (.int .i64 0))
  (h1:CqB w 60 #[.string a] (.tuple #[.int .i64 n,.int .i64 d,.bool false]))
  (h2:CqB w 60 #[.string b] (.tuple #[.int .i64 m,.int .i64 c,.bool k]))
  (h3:CqB w 62 #[.string a] (.tuple #[.string p,.string q]))
  (h4:CqB w 62 #[.string b] (.tuple #[.string r,.string s]))
  (h5:CqB w 75 #[.string p,.string q,.string s,.string r] (.tuple #[.string u,.int .i64 f])) :
  Calls Tryz.prog 37 #[.string a,.string b] w fun e W'=>e = .returned (.tuple #[.string u,.int .i64 f])∧Below w.heap.size w W':=by
 have C:=Lib.hid ((And.intro h0 (And.intro h1 (And.intro h2 (And.intro h3 (And.intro h4 h5))))));clear h0 h1 h2 h3 h4 h5
 have B0:=Lib.hid (Below.refl w.heap.size w)
 go_enter Tryz.func37,Tryz.ntmps37
 go_wp2_with fail
 refine (C.out.1 _ B0.out).mono ?_
 rintro e w1 ⟨rfl,b⟩
 have B1:=Lib.hid (B0.out.trans (b.mono B0.out.size));clear b B0
 go_wp2_with fail
 refine (C.out.2.1 _ B1.out).mono ?_
 rintro e w2 ⟨rfl,b⟩
 have B2:=Lib.hid (B1.out.trans (b.mono B1.out.size));clear b B1
 go_wp2_with fail
 refine (C.out.2.2.1 _ B2.out).mono ?_
 rintro e w3 ⟨rfl,b⟩
 have B3:=Lib.hid (B2.out.trans (b.mono B2.out.size));clear b B2
 go_wp2_with fail
 refine (C.out.2.2.2.1 _ B3.out).mono ?_
 rintro e w4 ⟨rfl,b⟩
 have B4:=Lib.hid (B3.out.trans (b.mono B3.out.size));clear b B3
 go_wp2_with fail
 refine (C.out.2.2.2.2.1 _ B4.out).mono ?_
 rintro e w5 ⟨rfl,b⟩
 have B5:=Lib.hid (B4.out.trans (b.mono B4.out.size));clear b B4
 go_wp2_with fail
 refine (C.out.2.2.2.2.2 _ B5.out).mono ?_
 rintro e w6 ⟨rfl,b⟩
 have B6:=Lib.hid (B5.out.trans (b.mono B5.out.size));clear b B5
 go_wp2
 go_ret2
 exact ⟨rfl,B6.out⟩
theorem rMul_lt (a b p q r s:ByteArray) (n d m c:Int) (u:ByteArray) (f:Int) (w:World)
  (h0:CqB w 74 #[.string a,.string b] (.int .i64 0))
  (h1:CqB w 60 #[.string a] (.tuple #[.int .i64 n,.int .i64 d,.bool true]))
  (h2:CqB w 60 #[.string b] (.tuple #[.int .i64 m,.int .i64 c,.bool false]))
  (h3:CqB w 62 #[.string a] (.tuple #[.string p,.string q]))
  (h4:CqB w 62 #[.string b] (.tuple #[.string r,.string s]))
  (h5:CqB w 75 #[.string p,.string q,.string r,.string s] (.tuple #[.string u,.int .i64 f])) :
  Calls Tryz.prog 58 #[.string a,.string b] w fun e W'=>e = .returned (.tuple #[.string u,.int .i64 f])∧Below w.heap.size w W':=by
 have C:=Lib.hid ((And.intro h0 (And.intro h1 (And.intro h2 (And.intro h3 (And.intro h4 h5))))));clear h0 h1 h2 h3 h4 h5
 have B0:=Lib.hid (Below.refl w.heap.size w)
 go_enter Tryz.func58,Tryz.ntmps58
 go_wp2_with fail
 refine (C.out.1 _ B0.out).mono ?_
 rintro e w1 ⟨rfl,b⟩
 have B1:=Lib.hid (B0.out.trans (b.mono B0.out.size));clear b B0
 go_wp2_with fail
 refine (C.out.2.1 _ B1.out).mono ?_
 rintro e w2 ⟨rfl,b⟩
 have B2:=Lib.hid (B1.out.trans (b.mono B1.out.size));clear b B1
 go_wp2_with fail
 refine (C.out.2.2.1 _ B2.out).mono ?_
 rintro e w3 ⟨rfl,b⟩
 have B3:=Lib.hid (B2.out.trans (b.mono B2.out.size));clear b B2
 go_wp2_with fail
 refine (C.out.2.2.2.1 _ B3.out).mono ?_
 rintro e w4 ⟨rfl,b⟩
 have B4:=Lib.hid (B3.out.trans (b.mono B3.out.size));clear b B3
 go_wp2_with fail
 refine (C.out.2.2.2.2.1 _ B4.out).mono ?_
 rintro e w5 ⟨rfl,b⟩
 have B5:=Lib.hid (B4.out.trans (b.mono B4.out.size));clear b B4
 go_wp2_with fail
 refine (C.out.2.2.2.2.2 _ B5.out).mono ?_
 rintro e w6 ⟨rfl,b⟩
 have B6:=Lib.hid (B5.out.trans (b.mono B5.out.size));clear b B5
 go_wp2
 go_ret2
 exact ⟨rfl,B6.out⟩
theorem rDiv_lt (a b p q r s:ByteArray) (n d m c:Int) (u:ByteArray) (f:Int) (w:World) (hz:(b.toList == [48])=false)
  (h0:CqB w 74 #[.string a,.string b] (.int .i64 0))
  (h1:CqB w 60 #[.string a] (.tuple #[.int .i64 n,.int .i64 d,.bool true]))
  (h2:CqB w 60 #[.string b] (.tuple #[.int .i64 m,.int .i64 c,.bool false]))
  (h3:CqB w 62 #[.string a] (.tuple #[.string p,.string q]))
  (h4:CqB w 62 #[.string b] (.tuple #[.string r,.string s]))
  (h5:CqB w 75 #[.string p,.string q,.string s,.string r] (.tuple #[.string u,.int .i64 f])) :
  Calls Tryz.prog 37 #[.string a,.string b] w fun e W'=>e = .returned (.tuple #[.string u,.int .i64 f])∧Below w.heap.size w W':=by
 have C:=Lib.hid ((And.intro h0 (And.intro h1 (And.intro h2 (And.intro h3 (And.intro h4 h5))))));clear h0 h1 h2 h3 h4 h5
 have B0:=Lib.hid (Below.refl w.heap.size w)
 go_enter Tryz.func37,Tryz.ntmps37
 go_wp2_with fail
 refine (C.out.1 _ B0.out).mono ?_
 rintro e w1 ⟨rfl,b⟩
 have B1:=Lib.hid (B0.out.trans (b.mono B0.out.size));clear b B0
 go_wp2_with fail
 refine (C.out.2.1 _ B1.out).mono ?_
 rintro e w2 ⟨rfl,b⟩
 have B2:=Lib.hid (B1.out.trans (b.mono B1.out.size));clear b B1
 go_wp2_with fail
 refine (C.out.2.2.1 _ B2.out).mono ?_
 rintro e w3 ⟨rfl,b⟩
 have B3:=Lib.hid (B2.out.trans (b.mono B2.out.size));clear b B2
 go_wp2_with fail
 refine (C.out.2.2.2.1 _ B3.out).mono ?_
 rintro e w4 ⟨rfl,b⟩
 have B4:=Lib.hid (B3.out.trans (b.mono B3.out.size));clear b B3
 go_wp2_with fail
 refine (C.out.2.2.2.2.1 _ B4.out).mono ?_
 rintro e w5 ⟨rfl,b⟩
 have B5:=Lib.hid (B4.out.trans (b.mono B4.out.size));clear b B4
 go_wp2_with fail
 refine (C.out.2.2.2.2.2 _ B5.out).mono ?_
 rintro e w6 ⟨rfl,b⟩
 have B6:=Lib.hid (B5.out.trans (b.mono B5.out.size));clear b B5
 go_wp2
 go_ret2
 exact ⟨rfl,B6.out⟩
end Go.Proofs.YteckjifdpcbaeaaGreatDoor
