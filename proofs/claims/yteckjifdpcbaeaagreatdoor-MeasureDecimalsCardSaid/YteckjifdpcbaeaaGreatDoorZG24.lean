/- Parts of the proof of the text YteckjifdpcbaeaaGreatDoorZG38. -/
import Derived.Test.YteckjifdpcbaeaaGreatDoorZG1
import Derived.Test.YteckjifdpcbaeaaGreatDoorZG23
set_option linter.all false
set_option maxRecDepth 100000
set_option maxHeartbeats 8000000
namespace Go.Proofs.YteckjifdpcbaeaaGreatDoor.T
open Go.Proofs.YteckjifdpcbaeaaGreatDoor Go Go.RowKit
theorem near_core (a m n:ByteArray) (w:World)
  (h1:∀ W,Below w.heap.size w W→Calls Tryz.prog 55 #[.string a,.string ⟨#[49,47,50]⟩] W fun e W'=>e = .returned (.tuple #[.string m,.int .i64 0])∧Below W.heap.size W W')
  (h2:∀ W,Below w.heap.size w W→Calls Tryz.prog 56 #[.string m] W fun e W'=>e = .returned (.tuple #[.string n,.int .i64 0])∧Below W.heap.size W W')
  : Calls Tryz.prog 24 #[.string a] w fun e W'=>e = .returned (.tuple #[.string n,.int .i64 0])∧Below w.heap.size w W':=by
 have O:=Lib.hid (And.intro h1 (h2));clear h1 h2
 go_enter Tryz.func24,Tryz.ntmps24
 have HB:=Lib.hid (Below.refl w.heap.size w)
 go_wp2_with fail
 refine (O.out.1 _ HB.out).mono ?_
 rintro e w1 ⟨rfl,b⟩
 have HN:=Lib.hid (HB.out.trans (b.mono HB.out.size));clear HB b;have HB:=HN;clear HN
 go_wp2_with fail
 refine (O.out.2 _ HB.out).mono ?_
 rintro e w2 ⟨rfl,b⟩
 have HN:=Lib.hid (HB.out.trans (b.mono HB.out.size));clear HB b;have HB:=HN;clear HN
 go_wp2
 go_ret2
 exact ⟨rfl,HB.out⟩
theorem check_core (a n d z:ByteArray) (g:Bool) (w:World) (s1:¬ (90:Int)<z.size) (s2:¬ (90:Int)<d.size)
  (h1:∀ W,Below w.heap.size w W→Calls Tryz.prog 77 #[.string a] W fun e W'=>e = .returned (.tuple #[.string n,.string d,.int .i64 0])∧Below W.heap.size W W')
  (h2:∀ W,Below w.heap.size w W→Calls Tryz.prog 31 #[.string n,.string ⟨#[45]⟩] W fun e W'=>e = .returned (.tuple #[.string z,.bool g])∧Below W.heap.size W W')
  : Calls Tryz.prog 39 #[.string a] w fun e W'=>e = .returned (.int .i64 0)∧Below w.heap.size w W':=by
 have O:=Lib.hid (And.intro h1 (h2));clear h1 h2
 go_enter Tryz.func39,Tryz.ntmps39
 have HB:=Lib.hid (Below.refl w.heap.size w)
 go_wp2_with fail
 refine (O.out.1 _ HB.out).mono ?_
 rintro e w1 ⟨rfl,b⟩
 have HN:=Lib.hid (HB.out.trans (b.mono HB.out.size));clear HB b;have HB:=HN;clear HN
 go_wp2_with fail
 refine (O.out.2 _ HB.out).mono ?_
 rintro e w2 ⟨rfl,b⟩
 have HN:=Lib.hid (HB.out.trans (b.mono HB.out.size));clear HB b;have HB:=HN;clear HN
 go_wp2
 go_ret
 exact ⟨rfl,HB.out⟩
theorem inl_core (a t r:ByteArray) (p:Nat) (w:World) (p1:¬ (p:Int)<0) (p2:¬ (100:Int)<p)
  (h1:∀ W,Below w.heap.size w W→Calls Tryz.prog 39 #[.string a] W fun e W'=>e = .returned (.int .i64 0)∧Below W.heap.size W W')
  (h2:∀ W,Below w.heap.size w W→Calls Tryz.prog 54 #[.int .i64 p] W fun e W'=>e = .returned (.string t)∧Below W.heap.size W W')
  (h3:∀ W,Below w.heap.size w W→Calls Tryz.prog 45 #[.string a,.string t] W fun e W'=>e = .returned (.tuple #[.string r,.int .i64 0])∧Below W.heap.size W W')
  : Calls Tryz.prog 23 #[.string a,.int .i64 p] w fun e W'=>e = .returned (.tuple #[.string r,.int .i64 0])∧Below w.heap.size w W':=by
 have O:=Lib.hid (And.intro h1 (And.intro h2 (h3)));clear h1 h2 h3
 go_enter Tryz.func23,Tryz.ntmps23
 have HB:=Lib.hid (Below.refl w.heap.size w)
 go_wp2_with fail
 refine (O.out.1 _ HB.out).mono ?_
 rintro e w1 ⟨rfl,b⟩
 have HN:=Lib.hid (HB.out.trans (b.mono HB.out.size));clear HB b;have HB:=HN;clear HN
 go_wp2_with fail
 refine (O.out.2.1 _ HB.out).mono ?_
 rintro e w2 ⟨rfl,b⟩
 have HN:=Lib.hid (HB.out.trans (b.mono HB.out.size));clear HB b;have HB:=HN;clear HN
 go_wp2_with fail
 refine (O.out.2.2 _ HB.out).mono ?_
 rintro e w3 ⟨rfl,b⟩
 have HN:=Lib.hid (HB.out.trans (b.mono HB.out.size));clear HB b;have HB:=HN;clear HN
 go_wp2
 go_ret2
 exact ⟨rfl,HB.out⟩
theorem print_core (a u n t:ByteArray) (p:Nat) (w:World)
  (h1:∀ W,Below w.heap.size w W→Calls Tryz.prog 23 #[.string a,.int .i64 p] W fun e W'=>e = .returned (.tuple #[.string u,.int .i64 0])∧Below W.heap.size W W')
  (h2:∀ W,Below w.heap.size w W→Calls Tryz.prog 24 #[.string u] W fun e W'=>e = .returned (.tuple #[.string n,.int .i64 0])∧Below W.heap.size W W')
  (h3:∀ W,Below w.heap.size w W→Calls Tryz.prog 25 #[.string n,.int .i64 p] W fun e W'=>e = .returned (.string t)∧Below W.heap.size W W')
  : Calls Tryz.prog 7 #[.string a,.int .i64 p] w fun e W'=>e = .returned (.tuple #[.string t,.int .i64 0])∧Below w.heap.size w W':=by
 have O:=Lib.hid (And.intro h1 (And.intro h2 (h3)));clear h1 h2 h3
 go_enter Tryz.func7,Tryz.ntmps7
 have HB:=Lib.hid (Below.refl w.heap.size w)
 go_wp2_with fail
 refine (O.out.1 _ HB.out).mono ?_
 rintro e w1 ⟨rfl,b⟩
 have HN:=Lib.hid (HB.out.trans (b.mono HB.out.size));clear HB b;have HB:=HN;clear HN
 go_wp2_with fail
 refine (O.out.2.1 _ HB.out).mono ?_
 rintro e w2 ⟨rfl,b⟩
 have HN:=Lib.hid (HB.out.trans (b.mono HB.out.size));clear HB b;have HB:=HN;clear HN
 go_wp2_with fail
 refine (O.out.2.2 _ HB.out).mono ?_
 rintro e w3 ⟨rfl,b⟩
 have HN:=Lib.hid (HB.out.trans (b.mono HB.out.size));clear HB b;have HB:=HN;clear HN
 go_wp2
 go_ret2
 exact ⟨rfl,HB.out⟩
theorem exact_core (a u x y:ByteArray) (g:Bool) (p:Nat) (w:World)
  (h1:∀ W,Below w.heap.size w W→Calls Tryz.prog 23 #[.string a,.int .i64 p] W fun e W'=>e = .returned (.tuple #[.string u,.int .i64 0])∧Below W.heap.size W W')
  (h2:∀ W,Below w.heap.size w W→Calls Tryz.prog 29 #[.string u,.string ⟨#[47]⟩] W fun e W'=>e = .returned (.tuple #[.string x,.string y,.bool g])∧Below W.heap.size W W')
  : Calls Tryz.prog 9 #[.string a,.int .i64 p] w fun e W'=>e = .returned (.tuple #[.bool (!g),.int .i64 0])∧Below w.heap.size w W':=by
 have O:=Lib.hid (And.intro h1 (h2));clear h1 h2
 go_enter Tryz.func9,Tryz.ntmps9
 have HB:=Lib.hid (Below.refl w.heap.size w)
 go_wp2_with fail
 refine (O.out.1 _ HB.out).mono ?_
 rintro e w1 ⟨rfl,b⟩
 have HN:=Lib.hid (HB.out.trans (b.mono HB.out.size));clear HB b;have HB:=HN;clear HN
 go_wp2_with fail
 refine (O.out.2 _ HB.out).mono ?_
 rintro e w2 ⟨rfl,b⟩
 have HN:=Lib.hid (HB.out.trans (b.mono HB.out.size));clear HB b;have HB:=HN;clear HN
 go_wp2
 go_ret2
 exact ⟨rfl,HB.out⟩
theorem dec0_core (n z t:ByteArray) (g:Bool) (w:World)
  (h1:∀ W,Below w.heap.size w W→Calls Tryz.prog 31 #[.string n,.string ⟨#[45]⟩] W fun e W'=>e = .returned (.tuple #[.string z,.bool g])∧Below W.heap.size W W')
  (h2:∀ W,Below w.heap.size w W→Calls Tryz.prog 34 #[.string z,.bool g] W fun e W'=>e = .returned (.string t)∧Below W.heap.size W W')
  : Calls Tryz.prog 25 #[.string n,.int .i64 0] w fun e W'=>e = .returned (.string t)∧Below w.heap.size w W':=by
 have O:=Lib.hid (And.intro h1 (h2));clear h1 h2
 go_enter Tryz.func25,Tryz.ntmps25
 have HB:=Lib.hid (Below.refl w.heap.size w)
 go_wp2_with fail
 refine (O.out.1 _ HB.out).mono ?_
 rintro e w1 ⟨rfl,b⟩
 have HN:=Lib.hid (HB.out.trans (b.mono HB.out.size));clear HB b;have HB:=HN;clear HN
 go_wp2_with fail
 refine (O.out.2 _ HB.out).mono ?_
 rintro e w2 ⟨rfl,b⟩
 have HN:=Lib.hid (HB.out.trans (b.mono HB.out.size));clear HB b;have HB:=HN;clear HN
 go_wp2
 go_ret
 exact ⟨rfl,HB.out⟩
theorem fr_yy (s x0 y0 x y n d:ByteArray) (g:Bool) (w:World) (s1:¬ (9223372036854775807:Int)<(x.size:Int)+(y.size:Int))
  (h1:∀ W,Below w.heap.size w W→Calls Tryz.prog 29 #[.string s,.string ⟨#[46]⟩] W fun e W'=>e = .returned (.tuple #[.string x,.string y,.bool true])∧Below W.heap.size W W')
  (h2:∀ W,Below w.heap.size w W→Calls Tryz.prog 66 #[.string (x++y)] W fun e W'=>e = .returned (.string n)∧Below W.heap.size W W')
  (h3:∀ W,Below w.heap.size w W→Calls Tryz.prog 54 #[.int .i64 y.size] W fun e W'=>e = .returned (.string d)∧Below W.heap.size W W')
  (h4:∀ W,Below w.heap.size w W→Calls Tryz.prog 48 #[.string x,.func (.func 67) #[] #[]] W fun e W'=>e = .returned (.bool true)∧Below W.heap.size W W')
  (h5:∀ W,Below w.heap.size w W→Calls Tryz.prog 48 #[.string y,.func (.func 67) #[] #[]] W fun e W'=>e = .returned (.bool g)∧Below W.heap.size W W')
  : Calls Tryz.prog 32 #[.string s] w fun e W'=>e = .returned (.tuple #[.string n,.string d,.bool g])∧Below w.heap.size w W':=by
 have O:=Lib.hid (And.intro h1 (And.intro h2 (And.intro h3 (And.intro h4 (h5)))));clear h1 h2 h3 h4 h5
 go_enter Tryz.func32,Tryz.ntmps32
 have HB:=Lib.hid (Below.refl w.heap.size w)
 go_wp2_with fail
 refine (O.out.1 _ HB.out).mono ?_
 rintro e w1 ⟨rfl,b⟩
 have HN:=Lib.hid (HB.out.trans (b.mono HB.out.size));clear HB b;have HB:=HN;clear HN
 go_wp2_with fail
 refine (O.out.2.1 _ HB.out).mono ?_
 rintro e w2 ⟨rfl,b⟩
 have HN:=Lib.hid (HB.out.trans (b.mono HB.out.size));clear HB b;have HB:=HN;clear HN
 go_wp2_with fail
 refine (O.out.2.2.1 _ HB.out).mono ?_
 rintro e w3 ⟨rfl,b⟩
 have HN:=Lib.hid (HB.out.trans (b.mono HB.out.size));clear HB b;have HB:=HN;clear HN
 go_wp2_with fail
 refine (O.out.2.2.2.1 _ HB.out).mono ?_
 rintro e w4 ⟨rfl,b⟩
 have HN:=Lib.hid (HB.out.trans (b.mono HB.out.size));clear HB b;have HB:=HN;clear HN
 go_wp2_with fail
 refine (O.out.2.2.2.2 _ HB.out).mono ?_
 rintro e w5 ⟨rfl,b⟩
 have HN:=Lib.hid (HB.out.trans (b.mono HB.out.size));clear HB b;have HB:=HN;clear HN
 go_wp2
 go_ret3
 exact ⟨rfl,HB.out⟩
theorem fr_yn (s x0 y0 x y n d:ByteArray) (g:Bool) (w:World) (s1:¬ (9223372036854775807:Int)<(x.size:Int)+(y.size:Int))
  (h1:∀ W,Below w.heap.size w W→Calls Tryz.prog 29 #[.string s,.string ⟨#[46]⟩] W fun e W'=>e = .returned (.tuple #[.string x,.string y,.bool true])∧Below W.heap.size W W')
  (h2:∀ W,Below w.heap.size w W→Calls Tryz.prog 66 #[.string (x++y)] W fun e W'=>e = .returned (.string n)∧Below W.heap.size W W')
  (h3:∀ W,Below w.heap.size w W→Calls Tryz.prog 54 #[.int .i64 y.size] W fun e W'=>e = .returned (.string d)∧Below W.heap.size W W')
  (h4:∀ W,Below w.heap.size w W→Calls Tryz.prog 48 #[.string x,.func (.func 67) #[] #[]] W fun e W'=>e = .returned (.bool false)∧Below W.heap.size W W')
  : Calls Tryz.prog 32 #[.string s] w fun e W'=>e = .returned (.tuple #[.string n,.string d,.bool false])∧Below w.heap.size w W':=by
 have O:=Lib.hid (And.intro h1 (And.intro h2 (And.intro h3 (h4))));clear h1 h2 h3 h4
 go_enter Tryz.func32,Tryz.ntmps32
 have HB:=Lib.hid (Below.refl w.heap.size w)
 go_wp2_with fail
 refine (O.out.1 _ HB.out).mono ?_
 rintro e w1 ⟨rfl,b⟩
 have HN:=Lib.hid (HB.out.trans (b.mono HB.out.size));clear HB b;have HB:=HN;clear HN
 go_wp2_with fail
 refine (O.out.2.1 _ HB.out).mono ?_
 rintro e w2 ⟨rfl,b⟩
 have HN:=Lib.hid (HB.out.trans (b.mono HB.out.size));clear HB b;have HB:=HN;clear HN
 go_wp2_with fail
 refine (O.out.2.2.1 _ HB.out).mono ?_
 rintro e w3 ⟨rfl,b⟩
 have HN:=Lib.hid (HB.out.trans (b.mono HB.out.size));clear HB b;have HB:=HN;clear HN
 go_wp2_with fail
 refine (O.out.2.2.2 _ HB.out).mono ?_
 rintro e w4 ⟨rfl,b⟩
 have HN:=Lib.hid (HB.out.trans (b.mono HB.out.size));clear HB b;have HB:=HN;clear HN
 go_wp2
 go_ret3
 exact ⟨rfl,HB.out⟩
theorem fr_nyy (s x0 y0 x y n d:ByteArray) (g:Bool) (w:World) (s1:¬ (9223372036854775807:Int)<(x.size:Int)+(y.size:Int))
  (h1:∀ W,Below w.heap.size w W→Calls Tryz.prog 29 #[.string s,.string ⟨#[46]⟩] W fun e W'=>e = .returned (.tuple #[.string x0,.string y0,.bool false])∧Below W.heap.size W W')
  (h2:∀ W,Below w.heap.size w W→Calls Tryz.prog 29 #[.string s,.string ⟨#[47]⟩] W fun e W'=>e = .returned (.tuple #[.string x,.string y,.bool true])∧Below W.heap.size W W')
  (h3:∀ W,Below w.heap.size w W→Calls Tryz.prog 66 #[.string x] W fun e W'=>e = .returned (.string n)∧Below W.heap.size W W')
  (h4:∀ W,Below w.heap.size w W→Calls Tryz.prog 66 #[.string y] W fun e W'=>e = .returned (.string d)∧Below W.heap.size W W')
  (h5:∀ W,Below w.heap.size w W→Calls Tryz.prog 48 #[.string x,.func (.func 67) #[] #[]] W fun e W'=>e = .returned (.bool true)∧Below W.heap.size W W')
  (h6:∀ W,Below w.heap.size w W→Calls Tryz.prog 48 #[.string y,.func (.func 67) #[] #[]] W fun e W'=>e = .returned (.bool g)∧Below W.heap.size W W')
  : Calls Tryz.prog 32 #[.string s] w fun e W'=>e = .returned (.tuple #[.string n,.string d,.bool g])∧Below w.heap.size w W':=by
 have O:=Lib.hid (And.intro h1 (And.intro h2 (And.intro h3 (And.intro h4 (And.intro h5 (h6))))));clear h1 h2 h3 h4 h5 h6
 go_enter Tryz.func32,Tryz.ntmps32
 have HB:=Lib.hid (Below.refl w.heap.size w)
 go_wp2_with fail
 refine (O.out.1 _ HB.out).mono ?_
 rintro e w1 ⟨rfl,b⟩
 have HN:=Lib.hid (HB.out.trans (b.mono HB.out.size));clear HB b;have HB:=HN;clear HN
 go_wp2_with fail
 refine (O.out.2.1 _ HB.out).mono ?_
 rintro e w2 ⟨rfl,b⟩
 have HN:=Lib.hid (HB.out.trans (b.mono HB.out.size));clear HB b;have HB:=HN;clear HN
 go_wp2_with fail
 refine (O.out.2.2.1 _ HB.out).mono ?_
 rintro e w3 ⟨rfl,b⟩
 have HN:=Lib.hid (HB.out.trans (b.mono HB.out.size));clear HB b;have HB:=HN;clear HN
 go_wp2_with fail
 refine (O.out.2.2.2.1 _ HB.out).mono ?_
 rintro e w4 ⟨rfl,b⟩
 have HN:=Lib.hid (HB.out.trans (b.mono HB.out.size));clear HB b;have HB:=HN;clear HN
 go_wp2_with fail
 refine (O.out.2.2.2.2.1 _ HB.out).mono ?_
 rintro e w5 ⟨rfl,b⟩
 have HN:=Lib.hid (HB.out.trans (b.mono HB.out.size));clear HB b;have HB:=HN;clear HN
 go_wp2_with fail
 refine (O.out.2.2.2.2.2 _ HB.out).mono ?_
 rintro e w6 ⟨rfl,b⟩
 have HN:=Lib.hid (HB.out.trans (b.mono HB.out.size));clear HB b;have HB:=HN;clear HN
 go_wp2
 go_ret3
 exact ⟨rfl,HB.out⟩
theorem fr_nyn (s x0 y0 x y n d:ByteArray) (g:Bool) (w:World) (s1:¬ (9223372036854775807:Int)<(x.size:Int)+(y.size:Int))
  (h1:∀ W,Below w.heap.size w W→Calls Tryz.prog 29 #[.string s,.string ⟨#[46]⟩] W fun e W'=>e = .returned (.tuple #[.string x0,.string y0,.bool false])∧Below W.heap.size W W')
  (h2:∀ W,Below w.heap.size w W→Calls Tryz.prog 29 #[.string s,.string ⟨#[47]⟩] W fun e W'=>e = .returned (.tuple #[.string x,.string y,.bool true])∧Below W.heap.size W W')
  (h3:∀ W,Below w.heap.size w W→Calls Tryz.prog 66 #[.string x] W fun e W'=>e = .returned (.string n)∧Below W.heap.size W W')
  (h4:∀ W,Below w.heap.size w W→Calls Tryz.prog 66 #[.string y] W fun e W'=>e = .returned (.string d)∧Below W.heap.size W W')
  (h5:∀ W,Below w.heap.size w W→Calls Tryz.prog 48 #[.string x,.func (.func 67) #[] #[]] W fun e W'=>e = .returned (.bool false)∧Below W.heap.size W W')
  : Calls Tryz.prog 32 #[.string s] w fun e W'=>e = .returned (.tuple #[.string n,.string d,.bool false])∧Below w.heap.size w W':=by
 have O:=Lib.hid (And.intro h1 (And.intro h2 (And.intro h3 (And.intro h4 (h5)))));clear h1 h2 h3 h4 h5
 go_enter Tryz.func32,Tryz.ntmps32
 have HB:=Lib.hid (Below.refl w.heap.size w)
 go_wp2_with fail
 refine (O.out.1 _ HB.out).mono ?_
 rintro e w1 ⟨rfl,b⟩
 have HN:=Lib.hid (HB.out.trans (b.mono HB.out.size));clear HB b;have HB:=HN;clear HN
 go_wp2_with fail
 refine (O.out.2.1 _ HB.out).mono ?_
 rintro e w2 ⟨rfl,b⟩
 have HN:=Lib.hid (HB.out.trans (b.mono HB.out.size));clear HB b;have HB:=HN;clear HN
 go_wp2_with fail
 refine (O.out.2.2.1 _ HB.out).mono ?_
 rintro e w3 ⟨rfl,b⟩
 have HN:=Lib.hid (HB.out.trans (b.mono HB.out.size));clear HB b;have HB:=HN;clear HN
 go_wp2_with fail
 refine (O.out.2.2.2.1 _ HB.out).mono ?_
 rintro e w4 ⟨rfl,b⟩
 have HN:=Lib.hid (HB.out.trans (b.mono HB.out.size));clear HB b;have HB:=HN;clear HN
 go_wp2_with fail
 refine (O.out.2.2.2.2 _ HB.out).mono ?_
 rintro e w5 ⟨rfl,b⟩
 have HN:=Lib.hid (HB.out.trans (b.mono HB.out.size));clear HB b;have HB:=HN;clear HN
 go_wp2
 go_ret3
 exact ⟨rfl,HB.out⟩
theorem fr_nny (s x0 y0 x y n d:ByteArray) (g:Bool) (w:World) (s1:¬ (9223372036854775807:Int)<(x.size:Int)+(y.size:Int))
  (h1:∀ W,Below w.heap.size w W→Calls Tryz.prog 29 #[.string s,.string ⟨#[46]⟩] W fun e W'=>e = .returned (.tuple #[.string x0,.string y0,.bool false])∧Below W.heap.size W W')
  (h2:∀ W,Below w.heap.size w W→Calls Tryz.prog 29 #[.string s,.string ⟨#[47]⟩] W fun e W'=>e = .returned (.tuple #[.string x,.string y,.bool false])∧Below W.heap.size W W')
  (h3:∀ W,Below w.heap.size w W→Calls Tryz.prog 66 #[.string x] W fun e W'=>e = .returned (.string n)∧Below W.heap.size W W')
  (h4:∀ W,Below w.heap.size w W→Calls Tryz.prog 66 #[.string ⟨#[49]⟩] W fun e W'=>e = .returned (.string d)∧Below W.heap.size W W')
  (h5:∀ W,Below w.heap.size w W→Calls Tryz.prog 48 #[.string x,.func (.func 67) #[] #[]] W fun e W'=>e = .returned (.bool true)∧Below W.heap.size W W')
  (h6:∀ W,Below w.heap.size w W→Calls Tryz.prog 48 #[.string ⟨#[49]⟩,.func (.func 67) #[] #[]] W fun e W'=>e = .returned (.bool g)∧Below W.heap.size W W')
  : Calls Tryz.prog 32 #[.string s] w fun e W'=>e = .returned (.tuple #[.string n,.string d,.bool g])∧Below w.heap.size w W':=by
 have O:=Lib.hid (And.intro h1 (And.intro h2 (And.intro h3 (And.intro h4 (And.intro h5 (h6))))));clear h1 h2 h3 h4 h5 h6
 go_enter Tryz.func32,Tryz.ntmps32
 have HB:=Lib.hid (Below.refl w.heap.size w)
 go_wp2_with fail
 refine (O.out.1 _ HB.out).mono ?_
 rintro e w1 ⟨rfl,b⟩
 have HN:=Lib.hid (HB.out.trans (b.mono HB.out.size));clear HB b;have HB:=HN;clear HN
 go_wp2_with fail
 refine (O.out.2.1 _ HB.out).mono ?_
 rintro e w2 ⟨rfl,b⟩
 have HN:=Lib.hid (HB.out.trans (b.mono HB.out.size));clear HB b;have HB:=HN;clear HN
 go_wp2_with fail
 refine (O.out.2.2.1 _ HB.out).mono ?_
 rintro e w3 ⟨rfl,b⟩
 have HN:=Lib.hid (HB.out.trans (b.mono HB.out.size));clear HB b;have HB:=HN;clear HN
 go_wp2_with fail
 refine (O.out.2.2.2.1 _ HB.out).mono ?_
 rintro e w4 ⟨rfl,b⟩
 have HN:=Lib.hid (HB.out.trans (b.mono HB.out.size));clear HB b;have HB:=HN;clear HN
 go_wp2_with fail
 refine (O.out.2.2.2.2.1 _ HB.out).mono ?_
 rintro e w5 ⟨rfl,b⟩
 have HN:=Lib.hid (HB.out.trans (b.mono HB.out.size));clear HB b;have HB:=HN;clear HN
 go_wp2_with fail
 refine (O.out.2.2.2.2.2 _ HB.out).mono ?_
 rintro e w6 ⟨rfl,b⟩
 have HN:=Lib.hid (HB.out.trans (b.mono HB.out.size));clear HB b;have HB:=HN;clear HN
 go_wp2
 go_ret3
 exact ⟨rfl,HB.out⟩
theorem fr_nnn (s x0 y0 x y n d:ByteArray) (g:Bool) (w:World) (s1:¬ (9223372036854775807:Int)<(x.size:Int)+(y.size:Int))
  (h1:∀ W,Below w.heap.size w W→Calls Tryz.prog 29 #[.string s,.string ⟨#[46]⟩] W fun e W'=>e = .returned (.tuple #[.string x0,.string y0,.bool false])∧Below W.heap.size W W')
  (h2:∀ W,Below w.heap.size w W→Calls Tryz.prog 29 #[.string s,.string ⟨#[47]⟩] W fun e W'=>e = .returned (.tuple #[.string x,.string y,.bool false])∧Below W.heap.size W W')
  (h3:∀ W,Below w.heap.size w W→Calls Tryz.prog 66 #[.string x] W fun e W'=>e = .returned (.string n)∧Below W.heap.size W W')
  (h4:∀ W,Below w.heap.size w W→Calls Tryz.prog 66 #[.string ⟨#[49]⟩] W fun e W'=>e = .returned (.string d)∧Below W.heap.size W W')
  (h5:∀ W,Below w.heap.size w W→Calls Tryz.prog 48 #[.string x,.func (.func 67) #[] #[]] W fun e W'=>e = .returned (.bool false)∧Below W.heap.size W W')
  : Calls Tryz.prog 32 #[.string s] w fun e W'=>e = .returned (.tuple #[.string n,.string d,.bool false])∧Below w.heap.size w W':=by
 have O:=Lib.hid (And.intro h1 (And.intro h2 (And.intro h3 (And.intro h4 (h5)))));clear h1 h2 h3 h4 h5
 go_enter Tryz.func32,Tryz.ntmps32
 have HB:=Lib.hid (Below.refl w.heap.size w)
 go_wp2_with fail
 refine (O.out.1 _ HB.out).mono ?_
 rintro e w1 ⟨rfl,b⟩
 have HN:=Lib.hid (HB.out.trans (b.mono HB.out.size));clear HB b;have HB:=HN;clear HN
 go_wp2_with fail
 refine (O.out.2.1 _ HB.out).mono ?_
 rintro e w2 ⟨rfl,b⟩
 have HN:=Lib.hid (HB.out.trans (b.mono HB.out.size));clear HB b;have HB:=HN;clear HN
 go_wp2_with fail
 refine (O.out.2.2.1 _ HB.out).mono ?_
 rintro e w3 ⟨rfl,b⟩
 have HN:=Lib.hid (HB.out.trans (b.mono HB.out.size));clear HB b;have HB:=HN;clear HN
 go_wp2_with fail
 refine (O.out.2.2.2.1 _ HB.out).mono ?_
 rintro e w4 ⟨rfl,b⟩
 have HN:=Lib.hid (HB.out.trans (b.mono HB.out.size));clear HB b;have HB:=HN;clear HN
 go_wp2_with fail
 refine (O.out.2.2.2.2 _ HB.out).mono ?_
 rintro e w5 ⟨rfl,b⟩
 have HN:=Lib.hid (HB.out.trans (b.mono HB.out.size));clear HB b;have HB:=HN;clear HN
 go_wp2
 go_ret3
 exact ⟨rfl,HB.out⟩
theorem parse_core (s z n d m r:ByteArray) (g:Bool) (x:Int) (w:World) (s1:¬ (90:Int)<s.size)
  (h1:∀ W,Below w.heap.size w W→Calls Tryz.prog 31 #[.string s,.string ⟨#[45]⟩] W fun e W'=>e = .returned (.tuple #[.string z,.bool g])∧Below W.heap.size W W')
  (h2:∀ W,Below w.heap.size w W→Calls Tryz.prog 32 #[.string z] W fun e W'=>e = .returned (.tuple #[.string n,.string d,.bool true])∧Below W.heap.size W W')
  (h3:∀ W,Below w.heap.size w W→Calls Tryz.prog 34 #[.string n,.bool g] W fun e W'=>e = .returned (.string m)∧Below W.heap.size W W')
  (h4:∀ W,Below w.heap.size w W→Calls Tryz.prog 33 #[.string m,.string d] W fun e W'=>e = .returned (.tuple #[.string r,.int .i64 x])∧Below W.heap.size W W')
  : Calls Tryz.prog 11 #[.string s] w fun e W'=>e = .returned (.tuple #[.string r,.int .i64 x])∧Below w.heap.size w W':=by
 have O:=Lib.hid (And.intro h1 (And.intro h2 (And.intro h3 (h4))));clear h1 h2 h3 h4
 go_enter Tryz.func11,Tryz.ntmps11
 have HB:=Lib.hid (Below.refl w.heap.size w)
 go_wp2_with fail
 refine (O.out.1 _ HB.out).mono ?_
 rintro e w1 ⟨rfl,b⟩
 have HN:=Lib.hid (HB.out.trans (b.mono HB.out.size));clear HB b;have HB:=HN;clear HN
 go_wp2_with fail
 refine (O.out.2.1 _ HB.out).mono ?_
 rintro e w2 ⟨rfl,b⟩
 have HN:=Lib.hid (HB.out.trans (b.mono HB.out.size));clear HB b;have HB:=HN;clear HN
 go_wp2_with fail
 refine (O.out.2.2.1 _ HB.out).mono ?_
 rintro e w3 ⟨rfl,b⟩
 have HN:=Lib.hid (HB.out.trans (b.mono HB.out.size));clear HB b;have HB:=HN;clear HN
 go_wp2_with fail
 refine (O.out.2.2.2 _ HB.out).mono ?_
 rintro e w4 ⟨rfl,b⟩
 have HN:=Lib.hid (HB.out.trans (b.mono HB.out.size));clear HB b;have HB:=HN;clear HN
 go_wp2
 go_ret2
 exact ⟨rfl,HB.out⟩
theorem parse_no (s z n d:ByteArray) (g:Bool) (w:World) (s1:¬ (90:Int)<s.size)
  (h1:∀ W,Below w.heap.size w W→Calls Tryz.prog 31 #[.string s,.string ⟨#[45]⟩] W fun e W'=>e = .returned (.tuple #[.string z,.bool g])∧Below W.heap.size W W')
  (h2:∀ W,Below w.heap.size w W→Calls Tryz.prog 32 #[.string z] W fun e W'=>e = .returned (.tuple #[.string n,.string d,.bool false])∧Below W.heap.size W W')
  : Calls Tryz.prog 11 #[.string s] w fun e W'=>e = .returned (.tuple #[.string ⟨#[]⟩,.int .i64 3])∧Below w.heap.size w W':=by
 have O:=Lib.hid (And.intro h1 (h2));clear h1 h2
 go_enter Tryz.func11,Tryz.ntmps11
 have HB:=Lib.hid (Below.refl w.heap.size w)
 go_wp2_with fail
 refine (O.out.1 _ HB.out).mono ?_
 rintro e w1 ⟨rfl,b⟩
 have HN:=Lib.hid (HB.out.trans (b.mono HB.out.size));clear HB b;have HB:=HN;clear HN
 go_wp2_with fail
 refine (O.out.2 _ HB.out).mono ?_
 rintro e w2 ⟨rfl,b⟩
 have HN:=Lib.hid (HB.out.trans (b.mono HB.out.size));clear HB b;have HB:=HN;clear HN
 go_wp2
 go_ret2
 exact ⟨rfl,HB.out⟩
theorem feet_core (n z q r f i t:ByteArray) (g:Bool) (w:World) (s1:f.size≤300) (s2:i.size≤100) (s3:r.size≤100)
  (h1:∀ W,Below w.heap.size w W→Calls Tryz.prog 31 #[.string n,.string ⟨#[45]⟩] W fun e W'=>e = .returned (.tuple #[.string z,.bool g])∧Below W.heap.size W W')
  (h2:∀ W,Below w.heap.size w W→Calls Tryz.prog 78 #[.string z,.string ⟨#[49,50]⟩] W fun e W'=>e = .returned (.tuple #[.string q,.string r,.int .i64 0])∧Below W.heap.size W W')
  (h3:∀ W,Below w.heap.size w W→Calls Tryz.prog 78 #[.string q,.string ⟨#[49,50]⟩] W fun e W'=>e = .returned (.tuple #[.string f,.string i,.int .i64 0])∧Below W.heap.size W W')
  (h4:∀ W,Below w.heap.size w W→Calls Tryz.prog 34 #[.string (f++⟨#[39]⟩++i++⟨#[34]⟩++r),.bool g] W fun e W'=>e = .returned (.string t)∧Below W.heap.size W W')
  : Calls Tryz.prog 40 #[.string n] w fun e W'=>e = .returned (.tuple #[.string t,.int .i64 0])∧Below w.heap.size w W':=by
 have O:=Lib.hid (And.intro h1 (And.intro h2 (And.intro h3 (h4))));clear h1 h2 h3 h4
 have n1:¬ (9223372036854775807:Int)<(f.size:Int)+1:=by omega
 have n2:¬ (9223372036854775807:Int)<(f.size:Int)+1+(i.size:Int):=by omega
 have n3:¬ (9223372036854775807:Int)<(f.size:Int)+1+(i.size:Int)+1:=by omega
 have n4:¬ (9223372036854775807:Int)<(f.size:Int)+1+(i.size:Int)+1+(r.size:Int):=by omega
 have m1:¬ 9223372036854775807<f.size+1:=by omega
 have m2:¬ 9223372036854775807<f.size+1+i.size:=by omega
 have m3:¬ 9223372036854775807<f.size+1+i.size+1:=by omega
 have m4:¬ 9223372036854775807<f.size+1+i.size+1+r.size:=by omega
 clear s1 s2 s3
 go_enter Tryz.func40,Tryz.ntmps40
 have HB:=Lib.hid (Below.refl w.heap.size w)
 go_wp2_with fail
 refine (O.out.1 _ HB.out).mono ?_
 rintro e w1 ⟨rfl,b⟩
 have HN:=Lib.hid (HB.out.trans (b.mono HB.out.size));clear HB b;have HB:=HN;clear HN
 go_wp2_with fail
 refine (O.out.2.1 _ HB.out).mono ?_
 rintro e w2 ⟨rfl,b⟩
 have HN:=Lib.hid (HB.out.trans (b.mono HB.out.size));clear HB b;have HB:=HN;clear HN
 go_wp2_with fail
 refine (O.out.2.2.1 _ HB.out).mono ?_
 rintro e w3 ⟨rfl,b⟩
 have HN:=Lib.hid (HB.out.trans (b.mono HB.out.size));clear HB b;have HB:=HN;clear HN
 go_wp2_with fail
 refine (O.out.2.2.2 _ HB.out).mono ?_
 rintro e w4 ⟨rfl,b⟩
 have HN:=Lib.hid (HB.out.trans (b.mono HB.out.size));clear HB b;have HB:=HN;clear HN
 go_wp2
 go_ret2
 exact ⟨rfl,HB.out⟩
theorem feetQ_core (a u n t:ByteArray) (x:Int) (w:World)
  (h1:∀ W,Below w.heap.size w W→Calls Tryz.prog 39 #[.string a] W fun e W'=>e = .returned (.int .i64 0)∧Below W.heap.size W W')
  (h2:∀ W,Below w.heap.size w W→Calls Tryz.prog 33 #[.string a,.string ⟨#[49,50,55,47,54,48]⟩] W fun e W'=>e = .returned (.tuple #[.string u,.int .i64 0])∧Below W.heap.size W W')
  (h3:∀ W,Below w.heap.size w W→Calls Tryz.prog 24 #[.string u] W fun e W'=>e = .returned (.tuple #[.string n,.int .i64 0])∧Below W.heap.size W W')
  (h4:∀ W,Below w.heap.size w W→Calls Tryz.prog 40 #[.string n] W fun e W'=>e = .returned (.tuple #[.string t,.int .i64 x])∧Below W.heap.size W W')
  : Calls Tryz.prog 13 #[.string a] w fun e W'=>e = .returned (.tuple #[.string t,.int .i64 x])∧Below w.heap.size w W':=by
 have O:=Lib.hid (And.intro h1 (And.intro h2 (And.intro h3 (h4))));clear h1 h2 h3 h4
 go_enter Tryz.func13,Tryz.ntmps13
 have HB:=Lib.hid (Below.refl w.heap.size w)
 go_wp2_with fail
 refine (O.out.1 _ HB.out).mono ?_
 rintro e w1 ⟨rfl,b⟩
 have HN:=Lib.hid (HB.out.trans (b.mono HB.out.size));clear HB b;have HB:=HN;clear HN
 go_wp2_with fail
 refine (O.out.2.1 _ HB.out).mono ?_
 rintro e w2 ⟨rfl,b⟩
 have HN:=Lib.hid (HB.out.trans (b.mono HB.out.size));clear HB b;have HB:=HN;clear HN
 go_wp2_with fail
 refine (O.out.2.2.1 _ HB.out).mono ?_
 rintro e w3 ⟨rfl,b⟩
 have HN:=Lib.hid (HB.out.trans (b.mono HB.out.size));clear HB b;have HB:=HN;clear HN
 go_wp2_with fail
 refine (O.out.2.2.2 _ HB.out).mono ?_
 rintro e w4 ⟨rfl,b⟩
 have HN:=Lib.hid (HB.out.trans (b.mono HB.out.size));clear HB b;have HB:=HN;clear HN
 go_wp2
 go_ret2
 exact ⟨rfl,HB.out⟩
theorem pfeet_core (s n r:ByteArray) (x:Int) (w:World) (s1:¬ (90:Int)<s.size)
  (h1:∀ W,Below w.heap.size w W→Calls Tryz.prog 44 #[.string s] W fun e W'=>e = .returned (.tuple #[.string n,.bool true])∧Below W.heap.size W W')
  (h2:∀ W,Below w.heap.size w W→Calls Tryz.prog 45 #[.string n,.string ⟨#[49,50,55,47,54,48]⟩] W fun e W'=>e = .returned (.tuple #[.string r,.int .i64 x])∧Below W.heap.size W W')
  : Calls Tryz.prog 15 #[.string s] w fun e W'=>e = .returned (.tuple #[.string r,.int .i64 x])∧Below w.heap.size w W':=by
 have O:=Lib.hid (And.intro h1 (h2));clear h1 h2
 go_enter Tryz.func15,Tryz.ntmps15
 have HB:=Lib.hid (Below.refl w.heap.size w)
 go_wp2_with fail
 refine (O.out.1 _ HB.out).mono ?_
 rintro e w1 ⟨rfl,b⟩
 have HN:=Lib.hid (HB.out.trans (b.mono HB.out.size));clear HB b;have HB:=HN;clear HN
 go_wp2_with fail
 refine (O.out.2 _ HB.out).mono ?_
 rintro e w2 ⟨rfl,b⟩
 have HN:=Lib.hid (HB.out.trans (b.mono HB.out.size));clear HB b;have HB:=HN;clear HN
 go_wp2
 go_ret2
 exact ⟨rfl,HB.out⟩
theorem dec_core (n z t r A B:ByteArray) (g:Bool) (p k m:Nat) (w:World) (p0:((p:Int)==0)=false) (pk:k=p+1 - z.size) (pp:p≤1000) (zz:z.size≤1000) (rz:r.size=k) (em:m+p=r.size+z.size) (f2:(r++z).extract 0 m=A) (f3:(r++z).extract m (r++z).size=B) (fs:(r++z).size=r.size+z.size) (sA:A.size≤3000) (sB:B.size≤3000)
  (h1:∀ W,Below w.heap.size w W→Calls Tryz.prog 31 #[.string n,.string ⟨#[45]⟩] W fun e W'=>e = .returned (.tuple #[.string z,.bool g])∧Below W.heap.size W W')
  (h2:∀ j:Int,j=k→∀ W,Below w.heap.size w W→Calls Tryz.prog 57 #[.string ⟨#[48]⟩,.int .i64 j] W fun e W'=>e = .returned (.string r)∧Below W.heap.size W W')
  (h3:∀ W,Below w.heap.size w W→Calls Tryz.prog 34 #[.string (A++⟨#[46]⟩++B),.bool g] W fun e W'=>e = .returned (.string t)∧Below W.heap.size W W')
  : Calls Tryz.prog 25 #[.string n,.int .i64 p] w fun e W'=>e = .returned (.string t)∧Below w.heap.size w W':=by
 have O:=Lib.hid (And.intro h1 (And.intro h2 (h3)));clear h1 h2 h3
 have hw:wrap64 ((p:Int)+1 - z.size)=p+1 - z.size:=by unfold wrap64;omega
 have n1:¬ (9223372036854775807:Int)<(r.size:Int)+(z.size:Int):=by omega
 have hm:(r.size:Int)+(z.size:Int) - (p:Int)=(m:Int):=by omega
 have g0:(0:Int)≤(m:Int):=by omega
 have g1:(m:Int)≤((r++z).size:Int):=by rw [fs];omega
 have n2:¬ (9223372036854775807:Int)<(A.size:Int)+1:=by omega
 have n3:¬ (9223372036854775807:Int)<(A.size:Int)+1+(B.size:Int):=by omega
 have m2:¬ 9223372036854775807<A.size+1:=by omega
 have m3:¬ 9223372036854775807<A.size+1+B.size:=by omega
 have PK:=Lib.hid pk;have RZ:=Lib.hid rz;clear pk rz em fs sA sB
 go_enter Tryz.func25,Tryz.ntmps25
 have HB:=Lib.hid (Below.refl w.heap.size w)
 go_wp2_with fail
 refine (O.out.1 _ HB.out).mono ?_
 rintro e w1 ⟨rfl,b⟩
 have HN:=Lib.hid (HB.out.trans (b.mono HB.out.size));clear HB b;have HB:=HN;clear HN
 go_wp2_with fail
 refine (O.out.2.1 _ (by have:=PK.out;omega) _ HB.out).mono ?_
 rintro e w2 ⟨rfl,b⟩
 have HN:=Lib.hid (HB.out.trans (b.mono HB.out.size));clear HB b;have HB:=HN;clear HN
 go_wp2
 have HD:=Lib.hid HB.out.drew;clear HB;have HB:=HD;clear HD
 generalize r++z=q at *
 go_region_held3 (fun _=>True) (first | trivial | (go_keep;done)) (first | (go_at_call 34;refine Calls.mono (O.out.2.2 _ HB.out) ?_;rintro e w3 ⟨rfl,b⟩;have HN:=Lib.hid (HB.out.trans (b.mono HB.out.size));clear HB b;have HB:=HN;clear HN))
 go_wp2
 go_ret
 exact ⟨rfl,HB.out⟩
end Go.Proofs.YteckjifdpcbaeaaGreatDoor.T
namespace Go.Proofs.YteckjifdpcbaeaaGreatDoor.T
open Go.Proofs.YteckjifdpcbaeaaGreatDoor Go Go.Lib
def half:Rat:=mkRat 1 2
def tw:Rat:=mkRat 127 60
theorem tw_ne:tw≠0:=by decide+kernel
def pw (n:Nat):Rat:=(((tenTo n:Nat):Int):Rat)
theorem cast_pos {m:Nat} (h:0<m):(0:Rat)<(((m:Nat):Int):Rat):=by
 have:=Rat.intCast_lt_intCast (a:=0) (b:=(m:Int))
 rw [Rat.intCast_zero] at this
 exact this.2 (by omega)
theorem tenTo_pos' (n:Nat):0<tenTo n:=Nat.pow_pos (by decide)
theorem pw_pos (n:Nat):0<pw n:=cast_pos (tenTo_pos' n)
theorem pw_ne (n:Nat):pw n≠0:=fun e=>by have:=pw_pos n;rw [e] at this;exact Rat.lt_irrefl this
def nr (x:Rat):Int:=(x+half).num.fdiv (x+half).den
def nuZ (l:List UInt8):Int:=if isNeg l then -(nuV (szL l):Int) else (nuV (szL l):Int)
def prV (l:List UInt8):Rat:=((nuZ l:Int):Rat) / (((deV (szL l):Nat):Int):Rat)
theorem cast_ne {d:Nat} (h:d≠0):(((d:Nat):Int):Rat)≠0:=fun e=>by have:=cast_pos (Nat.pos_of_ne_zero h);rw [e] at this;exact Rat.lt_irrefl this
theorem sign_abs (z:Int):(if decide (z<0)=true then -(z.natAbs:Int) else (z.natAbs:Int))=z:=by
 by_cases h:z<0
 ·rw [decide_eq_true h,if_pos rfl];omega
 ·rw [decide_eq_false h,if_neg (by decide)];omega
theorem num_div (q:Rat):(q.num:Rat) / ((q.den:Int):Rat)=q:=by rw [←Rat.divInt_eq_div];exact Rat.num_divInt_den q
end Go.Proofs.YteckjifdpcbaeaaGreatDoor.T
