/- Parts of the proof of the text YtocalfjfjjljnaaGreatDoorZO44. -/
import Derived.Deep.CutRange
import Derived.Deep.Cut
import Derived.Test.YtocalfjfjjljnaaGreatDoorZO1
import Derived.Test.YtocalfjfjjljnaaGreatDoorZO23
import Derived.Test.YtocalfjfjjljnaaGreatDoorZO35
set_option linter.all false
set_option maxRecDepth 100000
set_option maxHeartbeats 8000000
namespace Go.Proofs.YtocalfjfjjljnaaGreatDoor
open Go.RowKit
theorem yE (n0 d0 n d:ByteArray) (x y:Nat) (r:ByteArray) (w:World) (pn:0<n0.size) (pn':(0:Int)<n0.size) (pd:0<d0.size) (pd':(0:Int)<d0.size) (zn:n0.size≤1000) (qn:0<n.size) (qn':(0:Int)<n.size) (hP:(((d0[0].toNat:Int)==45)=false∧n0=n∧d0=d)∨(((d0[0].toNat:Int)==45)=true∧d0.extract 1 d0.size=d∧((((n0[0].toNat:Int)==45)=true∧n0.extract 1 n0.size=n)∨(((n0[0].toNat:Int)==45)=false∧(n0.toList == [48])=true∧n0=n)∨(((n0[0].toNat:Int)==45)=false∧(n0.toList == [48])=false∧⟨#[45]⟩++n0=n))))
  (s1:(n.size:Int)≤18) (s2:(d.size:Int)≤18) (hm:((n[0].toNat:Int)==45)=false)
  (cx:∀ W,Calls Tryz.prog 76 #[.string n] W fun e W'=>e = .returned (.int .i64 (x:Int))∧W=W') (cy:∀ W,Calls Tryz.prog 76 #[.string d] W fun e W'=>e = .returned (.int .i64 (y:Int))∧W=W')
  (cq:CqB w 56 #[.int .i64 (x:Int),.int .i64 (y:Int)] (.string r)) :
  Calls Tryz.prog 60 #[.string n0,.string d0] w fun e W'=>e = .returned (.tuple #[.string r,.int .i64 0])∧Below w.heap.size w W':=by
 have C:=Ha (Hb cx (Hb cy cq));clear cx cy cq
 have B0:=Ha (Below.refl w.heap.size w)
 go_enter Tryz.func60,Tryz.ntmps60
 go_upto_if 11 with fail
 go_cut [0,1] from 9 to 22 (fun s0 s1 wx=>s0 = .string n∧s1 = .string d∧wx=w)
 case first =>
  rcases hP with ⟨h1,rfl,rfl⟩ | ⟨h1,h2,⟨h3,h4⟩ | ⟨h3,h4,rfl⟩ | ⟨h3,h4,h5⟩⟩
  ·go_wp2_with fail
   all_goals (go_meet;exact ⟨rfl,rfl,rfl⟩)
  ·go_wp2_with fail
   all_goals (go_meet;exact ⟨rfl,rfl,rfl⟩)
  ·have h4':(n0.toList != [48])=false:=by rw [bne,h4];rfl
   go_wp2_with fail
   all_goals (go_meet;exact ⟨rfl,rfl,rfl⟩)
  ·have h4':(n0.toList != [48])=true:=by rw [bne,h4];rfl
   go_wp2_with fail
   all_goals (go_meet;exact ⟨rfl,rfl,rfl⟩)
 case rest =>
 obtain ⟨rfl,rfl,rfl⟩:=hcut
 clear hP
 go_wp2_with fail
 refine (C.out.1 _).mono ?_
 rintro e w' ⟨rfl,rfl⟩
 go_wp2_with fail
 refine (C.out.2.1 _).mono ?_
 rintro e w' ⟨rfl,rfl⟩
 go_wp2_with fail
 refine (C.out.2.2 _ B0.out).mono ?_
 rintro e w1 ⟨rfl,b⟩
 have B1:=Ha (B0.out.trans (b.mono B0.out.size));clear b B0
 go_wp2
 go_ret2
 exact ⟨rfl,B1.out⟩
theorem yF (n0 d0 n d:ByteArray) (n1:ByteArray) (x y:Nat) (r:ByteArray) (w:World) (pn:0<n0.size) (pn':(0:Int)<n0.size) (pd:0<d0.size) (pd':(0:Int)<d0.size) (zn:n0.size≤1000) (qn:0<n.size) (qn':(0:Int)<n.size) (hP:(((d0[0].toNat:Int)==45)=false∧n0=n∧d0=d)∨(((d0[0].toNat:Int)==45)=true∧d0.extract 1 d0.size=d∧((((n0[0].toNat:Int)==45)=true∧n0.extract 1 n0.size=n)∨(((n0[0].toNat:Int)==45)=false∧(n0.toList == [48])=true∧n0=n)∨(((n0[0].toNat:Int)==45)=false∧(n0.toList == [48])=false∧⟨#[45]⟩++n0=n))))
  (s1:(n.size:Int)≤18) (s2:(d.size:Int)≤18) (hm:((n[0].toNat:Int)==45)=true) (he:n.extract 1 n.size=n1) (hx:x<9223372036854775808)
  (cx:∀ W,Calls Tryz.prog 76 #[.string n1] W fun e W'=>e = .returned (.int .i64 (x:Int))∧W=W') (cy:∀ W,Calls Tryz.prog 76 #[.string d] W fun e W'=>e = .returned (.int .i64 (y:Int))∧W=W')
  (cq:CqB w 56 #[.int .i64 (-(x:Int)),.int .i64 (y:Int)] (.string r)) :
  Calls Tryz.prog 60 #[.string n0,.string d0] w fun e W'=>e = .returned (.tuple #[.string r,.int .i64 0])∧Below w.heap.size w W':=by
 have C:=Ha (Hb cx (Hb cy cq));clear cx cy cq
 have B0:=Ha (Below.refl w.heap.size w)
 go_enter Tryz.func60,Tryz.ntmps60
 go_upto_if 11 with fail
 go_cut [0,1] from 9 to 22 (fun s0 s1 wx=>s0 = .string n∧s1 = .string d∧wx=w)
 case first =>
  rcases hP with ⟨h1,rfl,rfl⟩ | ⟨h1,h2,⟨h3,h4⟩ | ⟨h3,h4,rfl⟩ | ⟨h3,h4,h5⟩⟩
  ·go_wp2_with fail
   all_goals (go_meet;exact ⟨rfl,rfl,rfl⟩)
  ·go_wp2_with fail
   all_goals (go_meet;exact ⟨rfl,rfl,rfl⟩)
  ·have h4':(n0.toList != [48])=false:=by rw [bne,h4];rfl
   go_wp2_with fail
   all_goals (go_meet;exact ⟨rfl,rfl,rfl⟩)
  ·have h4':(n0.toList != [48])=true:=by rw [bne,h4];rfl
   go_wp2_with fail
   all_goals (go_meet;exact ⟨rfl,rfl,rfl⟩)
 case rest =>
 obtain ⟨rfl,rfl,rfl⟩:=hcut
 clear hP
 go_wp2_with fail
 refine (C.out.1 _).mono ?_
 rintro e w' ⟨rfl,rfl⟩
 go_wp2_with fail
 refine (C.out.2.1 _).mono ?_
 rintro e w' ⟨rfl,rfl⟩
 go_wp2_with fail
 refine (C.out.2.2 _ B0.out).mono ?_
 rintro e w1 ⟨rfl,b⟩
 have B1:=Ha (B0.out.trans (b.mono B0.out.size));clear b B0
 go_wp2
 go_ret2
 exact ⟨rfl,B1.out⟩
theorem tV (n0 d0 n d:ByteArray) (g a ra b rb:ByteArray) (w:World) (pn:0<n0.size) (pn':(0:Int)<n0.size) (pd:0<d0.size) (pd':(0:Int)<d0.size) (zn:n0.size≤1000) (qn:0<n.size) (qn':(0:Int)<n.size) (hP:(((d0[0].toNat:Int)==45)=false∧n0=n∧d0=d)∨(((d0[0].toNat:Int)==45)=true∧d0.extract 1 d0.size=d∧((((n0[0].toNat:Int)==45)=true∧n0.extract 1 n0.size=n)∨(((n0[0].toNat:Int)==45)=false∧(n0.toList == [48])=true∧n0=n)∨(((n0[0].toNat:Int)==45)=false∧(n0.toList == [48])=false∧⟨#[45]⟩++n0=n))))
  (s1:¬ (n.size:Int)≤18) (pa:0<a.size) (pa':(0:Int)<a.size) (za:(a.size:Int)≤301) (zb:¬ (300:Int)<b.size) (hm:((a[0].toNat:Int)==45)=false) (ka:¬ (300:Int)<a.size) (h1:(b.toList == [49])=false)
  (cg:CqB w 77 #[.string n,.string d] (.tuple #[.string g,.int .i64 0]))
  (ca:CqB w 59 #[.string n,.string g] (.tuple #[.string a,.string ra,.int .i64 0]))
  (cb:CqB w 59 #[.string d,.string g] (.tuple #[.string b,.string rb,.int .i64 0])) :
  Calls Tryz.prog 60 #[.string n0,.string d0] w fun e W'=>e = .returned (.tuple #[.string (a++⟨#[47]⟩++b),.int .i64 0])∧Below w.heap.size w W':=by
 have C:=Ha (Hb cg (Hb ca cb));clear cg ca cb
 have B0:=Ha (Below.refl w.heap.size w)
 go_enter Tryz.func60,Tryz.ntmps60
 go_upto_if 11 with fail
 go_cut [0,1] from 9 to 22 (fun s0 s1 wx=>s0 = .string n∧s1 = .string d∧wx=w)
 case first =>
  rcases hP with ⟨h1,rfl,rfl⟩ | ⟨h1,h2,⟨h3,h4⟩ | ⟨h3,h4,rfl⟩ | ⟨h3,h4,h5⟩⟩
  ·go_wp2_with fail
   all_goals (go_meet;exact ⟨rfl,rfl,rfl⟩)
  ·go_wp2_with fail
   all_goals (go_meet;exact ⟨rfl,rfl,rfl⟩)
  ·have h4':(n0.toList != [48])=false:=by rw [bne,h4];rfl
   go_wp2_with fail
   all_goals (go_meet;exact ⟨rfl,rfl,rfl⟩)
  ·have h4':(n0.toList != [48])=true:=by rw [bne,h4];rfl
   go_wp2_with fail
   all_goals (go_meet;exact ⟨rfl,rfl,rfl⟩)
 case rest =>
 obtain ⟨rfl,rfl,rfl⟩:=hcut
 clear hP
 go_wp2_with fail
 refine (C.out.1 _ B0.out).mono ?_
 rintro e w1 ⟨rfl,b⟩
 have B1:=Ha (B0.out.trans (b.mono B0.out.size));clear b B0
 go_wp2_with fail
 refine (C.out.2.1 _ B1.out).mono ?_
 rintro e w2 ⟨rfl,b⟩
 have B2:=Ha (B1.out.trans (b.mono B1.out.size));clear b B1
 go_wp2_with fail
 refine (C.out.2.2 _ B2.out).mono ?_
 rintro e w3 ⟨rfl,b⟩
 have B3:=Ha (B2.out.trans (b.mono B2.out.size));clear b B2
 go_wp2
 go_ret2
 exact ⟨rfl,B3.out⟩
theorem tW (n0 d0 n d:ByteArray) (g a ra b rb:ByteArray) (w:World) (pn:0<n0.size) (pn':(0:Int)<n0.size) (pd:0<d0.size) (pd':(0:Int)<d0.size) (zn:n0.size≤1000) (qn:0<n.size) (qn':(0:Int)<n.size) (hP:(((d0[0].toNat:Int)==45)=false∧n0=n∧d0=d)∨(((d0[0].toNat:Int)==45)=true∧d0.extract 1 d0.size=d∧((((n0[0].toNat:Int)==45)=true∧n0.extract 1 n0.size=n)∨(((n0[0].toNat:Int)==45)=false∧(n0.toList == [48])=true∧n0=n)∨(((n0[0].toNat:Int)==45)=false∧(n0.toList == [48])=false∧⟨#[45]⟩++n0=n))))
  (s1:¬ (n.size:Int)≤18) (pa:0<a.size) (pa':(0:Int)<a.size) (za:(a.size:Int)≤301) (zb:¬ (300:Int)<b.size) (hm:((a[0].toNat:Int)==45)=false) (ka:¬ (300:Int)<a.size) (h1:(b.toList == [49])=true)
  (cg:CqB w 77 #[.string n,.string d] (.tuple #[.string g,.int .i64 0]))
  (ca:CqB w 59 #[.string n,.string g] (.tuple #[.string a,.string ra,.int .i64 0]))
  (cb:CqB w 59 #[.string d,.string g] (.tuple #[.string b,.string rb,.int .i64 0])) :
  Calls Tryz.prog 60 #[.string n0,.string d0] w fun e W'=>e = .returned (.tuple #[.string a,.int .i64 0])∧Below w.heap.size w W':=by
 have C:=Ha (Hb cg (Hb ca cb));clear cg ca cb
 have B0:=Ha (Below.refl w.heap.size w)
 go_enter Tryz.func60,Tryz.ntmps60
 go_upto_if 11 with fail
 go_cut [0,1] from 9 to 22 (fun s0 s1 wx=>s0 = .string n∧s1 = .string d∧wx=w)
 case first =>
  rcases hP with ⟨h1,rfl,rfl⟩ | ⟨h1,h2,⟨h3,h4⟩ | ⟨h3,h4,rfl⟩ | ⟨h3,h4,h5⟩⟩
  ·go_wp2_with fail
   all_goals (go_meet;exact ⟨rfl,rfl,rfl⟩)
  ·go_wp2_with fail
   all_goals (go_meet;exact ⟨rfl,rfl,rfl⟩)
  ·have h4':(n0.toList != [48])=false:=by rw [bne,h4];rfl
   go_wp2_with fail
   all_goals (go_meet;exact ⟨rfl,rfl,rfl⟩)
  ·have h4':(n0.toList != [48])=true:=by rw [bne,h4];rfl
   go_wp2_with fail
   all_goals (go_meet;exact ⟨rfl,rfl,rfl⟩)
 case rest =>
 obtain ⟨rfl,rfl,rfl⟩:=hcut
 clear hP
 go_wp2_with fail
 refine (C.out.1 _ B0.out).mono ?_
 rintro e w1 ⟨rfl,b⟩
 have B1:=Ha (B0.out.trans (b.mono B0.out.size));clear b B0
 go_wp2_with fail
 refine (C.out.2.1 _ B1.out).mono ?_
 rintro e w2 ⟨rfl,b⟩
 have B2:=Ha (B1.out.trans (b.mono B1.out.size));clear b B1
 go_wp2_with fail
 refine (C.out.2.2 _ B2.out).mono ?_
 rintro e w3 ⟨rfl,b⟩
 have B3:=Ha (B2.out.trans (b.mono B2.out.size));clear b B2
 go_wp2
 go_ret2
 exact ⟨rfl,B3.out⟩
theorem tX (n0 d0 n d:ByteArray) (g a ra b rb a1:ByteArray) (w:World) (pn:0<n0.size) (pn':(0:Int)<n0.size) (pd:0<d0.size) (pd':(0:Int)<d0.size) (zn:n0.size≤1000) (qn:0<n.size) (qn':(0:Int)<n.size) (hP:(((d0[0].toNat:Int)==45)=false∧n0=n∧d0=d)∨(((d0[0].toNat:Int)==45)=true∧d0.extract 1 d0.size=d∧((((n0[0].toNat:Int)==45)=true∧n0.extract 1 n0.size=n)∨(((n0[0].toNat:Int)==45)=false∧(n0.toList == [48])=true∧n0=n)∨(((n0[0].toNat:Int)==45)=false∧(n0.toList == [48])=false∧⟨#[45]⟩++n0=n))))
  (s1:¬ (n.size:Int)≤18) (pa:0<a.size) (pa':(0:Int)<a.size) (za:(a.size:Int)≤301) (zb:¬ (300:Int)<b.size) (hm:((a[0].toNat:Int)==45)=true) (he:a.extract 1 a.size=a1) (ka:¬ (300:Int)<a1.size) (h1:(b.toList == [49])=false)
  (cg:CqB w 77 #[.string n,.string d] (.tuple #[.string g,.int .i64 0]))
  (ca:CqB w 59 #[.string n,.string g] (.tuple #[.string a,.string ra,.int .i64 0]))
  (cb:CqB w 59 #[.string d,.string g] (.tuple #[.string b,.string rb,.int .i64 0])) :
  Calls Tryz.prog 60 #[.string n0,.string d0] w fun e W'=>e = .returned (.tuple #[.string (a++⟨#[47]⟩++b),.int .i64 0])∧Below w.heap.size w W':=by
 have C:=Ha (Hb cg (Hb ca cb));clear cg ca cb
 have B0:=Ha (Below.refl w.heap.size w)
 go_enter Tryz.func60,Tryz.ntmps60
 go_upto_if 11 with fail
 go_cut [0,1] from 9 to 22 (fun s0 s1 wx=>s0 = .string n∧s1 = .string d∧wx=w)
 case first =>
  rcases hP with ⟨h1,rfl,rfl⟩ | ⟨h1,h2,⟨h3,h4⟩ | ⟨h3,h4,rfl⟩ | ⟨h3,h4,h5⟩⟩
  ·go_wp2_with fail
   all_goals (go_meet;exact ⟨rfl,rfl,rfl⟩)
  ·go_wp2_with fail
   all_goals (go_meet;exact ⟨rfl,rfl,rfl⟩)
  ·have h4':(n0.toList != [48])=false:=by rw [bne,h4];rfl
   go_wp2_with fail
   all_goals (go_meet;exact ⟨rfl,rfl,rfl⟩)
  ·have h4':(n0.toList != [48])=true:=by rw [bne,h4];rfl
   go_wp2_with fail
   all_goals (go_meet;exact ⟨rfl,rfl,rfl⟩)
 case rest =>
 obtain ⟨rfl,rfl,rfl⟩:=hcut
 clear hP
 go_wp2_with fail
 refine (C.out.1 _ B0.out).mono ?_
 rintro e w1 ⟨rfl,b⟩
 have B1:=Ha (B0.out.trans (b.mono B0.out.size));clear b B0
 go_wp2_with fail
 refine (C.out.2.1 _ B1.out).mono ?_
 rintro e w2 ⟨rfl,b⟩
 have B2:=Ha (B1.out.trans (b.mono B1.out.size));clear b B1
 go_wp2_with fail
 refine (C.out.2.2 _ B2.out).mono ?_
 rintro e w3 ⟨rfl,b⟩
 have B3:=Ha (B2.out.trans (b.mono B2.out.size));clear b B2
 go_wp2
 go_ret2
 exact ⟨rfl,B3.out⟩
theorem tY (n0 d0 n d:ByteArray) (g a ra b rb a1:ByteArray) (w:World) (pn:0<n0.size) (pn':(0:Int)<n0.size) (pd:0<d0.size) (pd':(0:Int)<d0.size) (zn:n0.size≤1000) (qn:0<n.size) (qn':(0:Int)<n.size) (hP:(((d0[0].toNat:Int)==45)=false∧n0=n∧d0=d)∨(((d0[0].toNat:Int)==45)=true∧d0.extract 1 d0.size=d∧((((n0[0].toNat:Int)==45)=true∧n0.extract 1 n0.size=n)∨(((n0[0].toNat:Int)==45)=false∧(n0.toList == [48])=true∧n0=n)∨(((n0[0].toNat:Int)==45)=false∧(n0.toList == [48])=false∧⟨#[45]⟩++n0=n))))
  (s1:¬ (n.size:Int)≤18) (pa:0<a.size) (pa':(0:Int)<a.size) (za:(a.size:Int)≤301) (zb:¬ (300:Int)<b.size) (hm:((a[0].toNat:Int)==45)=true) (he:a.extract 1 a.size=a1) (ka:¬ (300:Int)<a1.size) (h1:(b.toList == [49])=true)
  (cg:CqB w 77 #[.string n,.string d] (.tuple #[.string g,.int .i64 0]))
  (ca:CqB w 59 #[.string n,.string g] (.tuple #[.string a,.string ra,.int .i64 0]))
  (cb:CqB w 59 #[.string d,.string g] (.tuple #[.string b,.string rb,.int .i64 0])) :
  Calls Tryz.prog 60 #[.string n0,.string d0] w fun e W'=>e = .returned (.tuple #[.string a,.int .i64 0])∧Below w.heap.size w W':=by
 have C:=Ha (Hb cg (Hb ca cb));clear cg ca cb
 have B0:=Ha (Below.refl w.heap.size w)
 go_enter Tryz.func60,Tryz.ntmps60
 go_upto_if 11 with fail
 go_cut [0,1] from 9 to 22 (fun s0 s1 wx=>s0 = .string n∧s1 = .string d∧wx=w)
 case first =>
  rcases hP with ⟨h1,rfl,rfl⟩ | ⟨h1,h2,⟨h3,h4⟩ | ⟨h3,h4,rfl⟩ | ⟨h3,h4,h5⟩⟩
  ·go_wp2_with fail
   all_goals (go_meet;exact ⟨rfl,rfl,rfl⟩)
  ·go_wp2_with fail
   all_goals (go_meet;exact ⟨rfl,rfl,rfl⟩)
  ·have h4':(n0.toList != [48])=false:=by rw [bne,h4];rfl
   go_wp2_with fail
   all_goals (go_meet;exact ⟨rfl,rfl,rfl⟩)
  ·have h4':(n0.toList != [48])=true:=by rw [bne,h4];rfl
   go_wp2_with fail
   all_goals (go_meet;exact ⟨rfl,rfl,rfl⟩)
 case rest =>
 obtain ⟨rfl,rfl,rfl⟩:=hcut
 clear hP
 go_wp2_with fail
 refine (C.out.1 _ B0.out).mono ?_
 rintro e w1 ⟨rfl,b⟩
 have B1:=Ha (B0.out.trans (b.mono B0.out.size));clear b B0
 go_wp2_with fail
 refine (C.out.2.1 _ B1.out).mono ?_
 rintro e w2 ⟨rfl,b⟩
 have B2:=Ha (B1.out.trans (b.mono B1.out.size));clear b B1
 go_wp2_with fail
 refine (C.out.2.2 _ B2.out).mono ?_
 rintro e w3 ⟨rfl,b⟩
 have B3:=Ha (B2.out.trans (b.mono B2.out.size));clear b B2
 go_wp2
 go_ret2
 exact ⟨rfl,B3.out⟩
theorem tZ (n0 d0 n d:ByteArray) (g a ra b rb:ByteArray) (w:World) (pn:0<n0.size) (pn':(0:Int)<n0.size) (pd:0<d0.size) (pd':(0:Int)<d0.size) (zn:n0.size≤1000) (qn:0<n.size) (qn':(0:Int)<n.size) (hP:(((d0[0].toNat:Int)==45)=false∧n0=n∧d0=d)∨(((d0[0].toNat:Int)==45)=true∧d0.extract 1 d0.size=d∧((((n0[0].toNat:Int)==45)=true∧n0.extract 1 n0.size=n)∨(((n0[0].toNat:Int)==45)=false∧(n0.toList == [48])=true∧n0=n)∨(((n0[0].toNat:Int)==45)=false∧(n0.toList == [48])=false∧⟨#[45]⟩++n0=n))))
  (s1:(n.size:Int)≤18) (s2:¬ (d.size:Int)≤18) (pa:0<a.size) (pa':(0:Int)<a.size) (za:(a.size:Int)≤301) (zb:¬ (300:Int)<b.size) (hm:((a[0].toNat:Int)==45)=false) (ka:¬ (300:Int)<a.size) (h1:(b.toList == [49])=false)
  (cg:CqB w 77 #[.string n,.string d] (.tuple #[.string g,.int .i64 0]))
  (ca:CqB w 59 #[.string n,.string g] (.tuple #[.string a,.string ra,.int .i64 0]))
  (cb:CqB w 59 #[.string d,.string g] (.tuple #[.string b,.string rb,.int .i64 0])) :
  Calls Tryz.prog 60 #[.string n0,.string d0] w fun e W'=>e = .returned (.tuple #[.string (a++⟨#[47]⟩++b),.int .i64 0])∧Below w.heap.size w W':=by
 have C:=Ha (Hb cg (Hb ca cb));clear cg ca cb
 have B0:=Ha (Below.refl w.heap.size w)
 go_enter Tryz.func60,Tryz.ntmps60
 go_upto_if 11 with fail
 go_cut [0,1] from 9 to 22 (fun s0 s1 wx=>s0 = .string n∧s1 = .string d∧wx=w)
 case first =>
  rcases hP with ⟨h1,rfl,rfl⟩ | ⟨h1,h2,⟨h3,h4⟩ | ⟨h3,h4,rfl⟩ | ⟨h3,h4,h5⟩⟩
  ·go_wp2_with fail
   all_goals (go_meet;exact ⟨rfl,rfl,rfl⟩)
  ·go_wp2_with fail
   all_goals (go_meet;exact ⟨rfl,rfl,rfl⟩)
  ·have h4':(n0.toList != [48])=false:=by rw [bne,h4];rfl
   go_wp2_with fail
   all_goals (go_meet;exact ⟨rfl,rfl,rfl⟩)
  ·have h4':(n0.toList != [48])=true:=by rw [bne,h4];rfl
   go_wp2_with fail
   all_goals (go_meet;exact ⟨rfl,rfl,rfl⟩)
 case rest =>
 obtain ⟨rfl,rfl,rfl⟩:=hcut
 clear hP
 go_wp2_with fail
 refine (C.out.1 _ B0.out).mono ?_
 rintro e w1 ⟨rfl,b⟩
 have B1:=Ha (B0.out.trans (b.mono B0.out.size));clear b B0
 go_wp2_with fail
 refine (C.out.2.1 _ B1.out).mono ?_
 rintro e w2 ⟨rfl,b⟩
 have B2:=Ha (B1.out.trans (b.mono B1.out.size));clear b B1
 go_wp2_with fail
 refine (C.out.2.2 _ B2.out).mono ?_
 rintro e w3 ⟨rfl,b⟩
 have B3:=Ha (B2.out.trans (b.mono B2.out.size));clear b B2
 go_wp2
 go_ret2
 exact ⟨rfl,B3.out⟩
theorem t6 (n0 d0 n d:ByteArray) (g a ra b rb:ByteArray) (w:World) (pn:0<n0.size) (pn':(0:Int)<n0.size) (pd:0<d0.size) (pd':(0:Int)<d0.size) (zn:n0.size≤1000) (qn:0<n.size) (qn':(0:Int)<n.size) (hP:(((d0[0].toNat:Int)==45)=false∧n0=n∧d0=d)∨(((d0[0].toNat:Int)==45)=true∧d0.extract 1 d0.size=d∧((((n0[0].toNat:Int)==45)=true∧n0.extract 1 n0.size=n)∨(((n0[0].toNat:Int)==45)=false∧(n0.toList == [48])=true∧n0=n)∨(((n0[0].toNat:Int)==45)=false∧(n0.toList == [48])=false∧⟨#[45]⟩++n0=n))))
  (s1:(n.size:Int)≤18) (s2:¬ (d.size:Int)≤18) (pa:0<a.size) (pa':(0:Int)<a.size) (za:(a.size:Int)≤301) (zb:¬ (300:Int)<b.size) (hm:((a[0].toNat:Int)==45)=false) (ka:¬ (300:Int)<a.size) (h1:(b.toList == [49])=true)
  (cg:CqB w 77 #[.string n,.string d] (.tuple #[.string g,.int .i64 0]))
  (ca:CqB w 59 #[.string n,.string g] (.tuple #[.string a,.string ra,.int .i64 0]))
  (cb:CqB w 59 #[.string d,.string g] (.tuple #[.string b,.string rb,.int .i64 0])) :
  Calls Tryz.prog 60 #[.string n0,.string d0] w fun e W'=>e = .returned (.tuple #[.string a,.int .i64 0])∧Below w.heap.size w W':=by
 have C:=Ha (Hb cg (Hb ca cb));clear cg ca cb
 have B0:=Ha (Below.refl w.heap.size w)
 go_enter Tryz.func60,Tryz.ntmps60
 go_upto_if 11 with fail
 go_cut [0,1] from 9 to 22 (fun s0 s1 wx=>s0 = .string n∧s1 = .string d∧wx=w)
 case first =>
  rcases hP with ⟨h1,rfl,rfl⟩ | ⟨h1,h2,⟨h3,h4⟩ | ⟨h3,h4,rfl⟩ | ⟨h3,h4,h5⟩⟩
  ·go_wp2_with fail
   all_goals (go_meet;exact ⟨rfl,rfl,rfl⟩)
  ·go_wp2_with fail
   all_goals (go_meet;exact ⟨rfl,rfl,rfl⟩)
  ·have h4':(n0.toList != [48])=false:=by rw [bne,h4];rfl
   go_wp2_with fail
   all_goals (go_meet;exact ⟨rfl,rfl,rfl⟩)
  ·have h4':(n0.toList != [48])=true:=by rw [bne,h4];rfl
   go_wp2_with fail
   all_goals (go_meet;exact ⟨rfl,rfl,rfl⟩)
 case rest =>
 obtain ⟨rfl,rfl,rfl⟩:=hcut
 clear hP
 go_wp2_with fail
 refine (C.out.1 _ B0.out).mono ?_
 rintro e w1 ⟨rfl,b⟩
 have B1:=Ha (B0.out.trans (b.mono B0.out.size));clear b B0
 go_wp2_with fail
 refine (C.out.2.1 _ B1.out).mono ?_
 rintro e w2 ⟨rfl,b⟩
 have B2:=Ha (B1.out.trans (b.mono B1.out.size));clear b B1
 go_wp2_with fail
 refine (C.out.2.2 _ B2.out).mono ?_
 rintro e w3 ⟨rfl,b⟩
 have B3:=Ha (B2.out.trans (b.mono B2.out.size));clear b B2
 go_wp2
 go_ret2
 exact ⟨rfl,B3.out⟩
theorem t7 (n0 d0 n d:ByteArray) (g a ra b rb a1:ByteArray) (w:World) (pn:0<n0.size) (pn':(0:Int)<n0.size) (pd:0<d0.size) (pd':(0:Int)<d0.size) (zn:n0.size≤1000) (qn:0<n.size) (qn':(0:Int)<n.size) (hP:(((d0[0].toNat:Int)==45)=false∧n0=n∧d0=d)∨(((d0[0].toNat:Int)==45)=true∧d0.extract 1 d0.size=d∧((((n0[0].toNat:Int)==45)=true∧n0.extract 1 n0.size=n)∨(((n0[0].toNat:Int)==45)=false∧(n0.toList == [48])=true∧n0=n)∨(((n0[0].toNat:Int)==45)=false∧(n0.toList == [48])=false∧⟨#[45]⟩++n0=n))))
  (s1:(n.size:Int)≤18) (s2:¬ (d.size:Int)≤18) (pa:0<a.size) (pa':(0:Int)<a.size) (za:(a.size:Int)≤301) (zb:¬ (300:Int)<b.size) (hm:((a[0].toNat:Int)==45)=true) (he:a.extract 1 a.size=a1) (ka:¬ (300:Int)<a1.size) (h1:(b.toList == [49])=false)
  (cg:CqB w 77 #[.string n,.string d] (.tuple #[.string g,.int .i64 0]))
  (ca:CqB w 59 #[.string n,.string g] (.tuple #[.string a,.string ra,.int .i64 0]))
  (cb:CqB w 59 #[.string d,.string g] (.tuple #[.string b,.string rb,.int .i64 0])) :
  Calls Tryz.prog 60 #[.string n0,.string d0] w fun e W'=>e = .returned (.tuple #[.string (a++⟨#[47]⟩++b),.int .i64 0])∧Below w.heap.size w W':=by
 have C:=Ha (Hb cg (Hb ca cb));clear cg ca cb
 have B0:=Ha (Below.refl w.heap.size w)
 go_enter Tryz.func60,Tryz.ntmps60
 go_upto_if 11 with fail
 go_cut [0,1] from 9 to 22 (fun s0 s1 wx=>s0 = .string n∧s1 = .string d∧wx=w)
 case first =>
  rcases hP with ⟨h1,rfl,rfl⟩ | ⟨h1,h2,⟨h3,h4⟩ | ⟨h3,h4,rfl⟩ | ⟨h3,h4,h5⟩⟩
  ·go_wp2_with fail
   all_goals (go_meet;exact ⟨rfl,rfl,rfl⟩)
  ·go_wp2_with fail
   all_goals (go_meet;exact ⟨rfl,rfl,rfl⟩)
  ·have h4':(n0.toList != [48])=false:=by rw [bne,h4];rfl
   go_wp2_with fail
   all_goals (go_meet;exact ⟨rfl,rfl,rfl⟩)
  ·have h4':(n0.toList != [48])=true:=by rw [bne,h4];rfl
   go_wp2_with fail
   all_goals (go_meet;exact ⟨rfl,rfl,rfl⟩)
 case rest =>
 obtain ⟨rfl,rfl,rfl⟩:=hcut
 clear hP
 go_wp2_with fail
 refine (C.out.1 _ B0.out).mono ?_
 rintro e w1 ⟨rfl,b⟩
 have B1:=Ha (B0.out.trans (b.mono B0.out.size));clear b B0
 go_wp2_with fail
 refine (C.out.2.1 _ B1.out).mono ?_
 rintro e w2 ⟨rfl,b⟩
 have B2:=Ha (B1.out.trans (b.mono B1.out.size));clear b B1
 go_wp2_with fail
 refine (C.out.2.2 _ B2.out).mono ?_
 rintro e w3 ⟨rfl,b⟩
 have B3:=Ha (B2.out.trans (b.mono B2.out.size));clear b B2
 go_wp2
 go_ret2
 exact ⟨rfl,B3.out⟩
theorem t8 (n0 d0 n d:ByteArray) (g a ra b rb a1:ByteArray) (w:World) (pn:0<n0.size) (pn':(0:Int)<n0.size) (pd:0<d0.size) (pd':(0:Int)<d0.size) (zn:n0.size≤1000) (qn:0<n.size) (qn':(0:Int)<n.size) (hP:(((d0[0].toNat:Int)==45)=false∧n0=n∧d0=d)∨(((d0[0].toNat:Int)==45)=true∧d0.extract 1 d0.size=d∧((((n0[0].toNat:Int)==45)=true∧n0.extract 1 n0.size=n)∨(((n0[0].toNat:Int)==45)=false∧(n0.toList == [48])=true∧n0=n)∨(((n0[0].toNat:Int)==45)=false∧(n0.toList == [48])=false∧⟨#[45]⟩++n0=n))))
  (s1:(n.size:Int)≤18) (s2:¬ (d.size:Int)≤18) (pa:0<a.size) (pa':(0:Int)<a.size) (za:(a.size:Int)≤301) (zb:¬ (300:Int)<b.size) (hm:((a[0].toNat:Int)==45)=true) (he:a.extract 1 a.size=a1) (ka:¬ (300:Int)<a1.size) (h1:(b.toList == [49])=true)
  (cg:CqB w 77 #[.string n,.string d] (.tuple #[.string g,.int .i64 0]))
  (ca:CqB w 59 #[.string n,.string g] (.tuple #[.string a,.string ra,.int .i64 0]))
  (cb:CqB w 59 #[.string d,.string g] (.tuple #[.string b,.string rb,.int .i64 0])) :
  Calls Tryz.prog 60 #[.string n0,.string d0] w fun e W'=>e = .returned (.tuple #[.string a,.int .i64 0])∧Below w.heap.size w W':=by
 have C:=Ha (Hb cg (Hb ca cb));clear cg ca cb
 have B0:=Ha (Below.refl w.heap.size w)
 go_enter Tryz.func60,Tryz.ntmps60
 go_upto_if 11 with fail
 go_cut [0,1] from 9 to 22 (fun s0 s1 wx=>s0 = .string n∧s1 = .string d∧wx=w)
 case first =>
  rcases hP with ⟨h1,rfl,rfl⟩ | ⟨h1,h2,⟨h3,h4⟩ | ⟨h3,h4,rfl⟩ | ⟨h3,h4,h5⟩⟩
  ·go_wp2_with fail
   all_goals (go_meet;exact ⟨rfl,rfl,rfl⟩)
  ·go_wp2_with fail
   all_goals (go_meet;exact ⟨rfl,rfl,rfl⟩)
  ·have h4':(n0.toList != [48])=false:=by rw [bne,h4];rfl
   go_wp2_with fail
   all_goals (go_meet;exact ⟨rfl,rfl,rfl⟩)
  ·have h4':(n0.toList != [48])=true:=by rw [bne,h4];rfl
   go_wp2_with fail
   all_goals (go_meet;exact ⟨rfl,rfl,rfl⟩)
 case rest =>
 obtain ⟨rfl,rfl,rfl⟩:=hcut
 clear hP
 go_wp2_with fail
 refine (C.out.1 _ B0.out).mono ?_
 rintro e w1 ⟨rfl,b⟩
 have B1:=Ha (B0.out.trans (b.mono B0.out.size));clear b B0
 go_wp2_with fail
 refine (C.out.2.1 _ B1.out).mono ?_
 rintro e w2 ⟨rfl,b⟩
 have B2:=Ha (B1.out.trans (b.mono B1.out.size));clear b B1
 go_wp2_with fail
 refine (C.out.2.2 _ B2.out).mono ?_
 rintro e w3 ⟨rfl,b⟩
 have B3:=Ha (B2.out.trans (b.mono B2.out.size));clear b B2
 go_wp2
 go_ret2
 exact ⟨rfl,B3.out⟩
theorem j7 {z:Int} (h:z<0):(aa z).data.toList=45::Lib.decDigits z.natAbs:=by
 rw [aB];unfold Lib.itoa;rw [if_pos h]
theorem iO {z:Int} (h:z<0):(aa z).extract 1 (aa z).size=aa (-z):=by
 apply aK
 rw [Lib.extract_data,List.take_of_length_le (by rw [List.length_drop,ac];omega),j7 h,aB]
 unfold Lib.itoa
 rw [if_neg (by omega),show (-z).toNat=z.natAbs by omega];rfl
theorem jW (z:Int) (hp:0<(aa z).size):(((aa z)[0].toNat:Int)==45)=decide (z<0):=by
 rw [au hp,aB,aN]
theorem oz {z:Int} (h:short z) (h0:0≤z):(aa z).size≤300:=by
 have h1:=dh (z:=z) h
 have hn:af (aa z).data.toList=false:=by rw [aB,aN];exact decide_eq_false (by omega)
 have h2:=kU (l:=(aa z).data.toList) (by rw [h1];rfl)
 rw [h1,bi hn,ac] at h2
 by_cases q:300<(aa z).size
 ·rw [if_pos q] at h2;cases h2
 ·omega
theorem pG (n0 d0:ByteArray) (N D:Int) (w:World) (pn:0<n0.size) (pd:0<d0.size) (zn:n0.size≤1000) (hN:short N) (hD:short D) (hD0:0<D) (ht:Tab w)
  (hP:(((d0[0].toNat:Int)==45)=false∧n0=aa N∧d0=aa D)∨(((d0[0].toNat:Int)==45)=true∧d0.extract 1 d0.size=aa D∧((((n0[0].toNat:Int)==45)=true∧n0.extract 1 n0.size=aa N)∨(((n0[0].toNat:Int)==45)=false∧(n0.toList == [48])=true∧n0=aa N)∨(((n0[0].toNat:Int)==45)=false∧(n0.toList == [48])=false∧⟨#[45]⟩++n0=aa N)))) :
  Calls Tryz.prog 60 #[.string n0,.string d0] w fun e W'=>e = .returned (.tuple #[.string (ag (Rat.divInt N D)),.int .i64 0])∧Below w.heap.size w W':=by
 have pn':(0:Int)<n0.size:=by omega
 have pd':(0:Int)<d0.size:=by omega
 have qn:=lj N
 have qn':(0:Int)<(aa N).size:=by omega
 have hm:=jW N qn
 by_cases hs:(aa N).size≤18∧(aa D).size≤18
 ·have hd18:D<1000000000000000000:=by
   have:=jV (k:=D.toNat) (j:=18) (by rw [show ((D.toNat:Nat):Int)=D by omega];exact hs.2)
   unfold aA at this;omega
  have cy:=fun W=>lC D.toNat W (by rw [show ((D.toNat:Nat):Int)=D by omega];exact hs.2)
  rw [show ((D.toNat:Nat):Int)=D by omega] at cy
  by_cases h:N<0
  ·rw [decide_eq_true h] at hm
   have e:=iO h
   have sz:(aa (N.natAbs:Int)).size≤17:=by
    have h1:=j7 h
    have h2:=congrArg List.length h1
    rw [ac,List.length_cons] at h2
    have h3:(aa (N.natAbs:Int)).size=(Lib.decDigits N.natAbs).length:=by
     rw [←ac,aB];unfold Lib.itoa;rw [if_neg (by omega)];rfl
    omega
   have hn17:=jV (j:=17) sz
   have cx:=fun W=>lC N.natAbs W (by omega)
   unfold aA at hn17
   have cq:=fun W (_:Below w.heap.size w W)=>dY N D W (by omega) hD0 (by omega)
   have c:=yF n0 d0 (aa N) (aa D) (aa (N.natAbs:Int)) N.natAbs D.toNat (ag (Rat.divInt N D)) w pn pn' pd pd' zn qn qn' hP (by omega) (by omega) hm (by rw [e,show -N=((N.natAbs:Nat):Int) by omega]) (by omega) cx
   rw [show ((D.toNat:Nat):Int)=D by omega,show -((N.natAbs:Nat):Int)=N by omega] at c
   exact c cy cq
  ·rw [decide_eq_false h] at hm
   have hn18:=jV (k:=N.toNat) (j:=18) (by rw [show ((N.toNat:Nat):Int)=N by omega];exact hs.1)
   unfold aA at hn18
   have cx:=fun W=>lC N.toNat W (by rw [show ((N.toNat:Nat):Int)=N by omega];exact hs.1)
   rw [show ((N.toNat:Nat):Int)=N by omega] at cx
   have cq:=fun W (_:Below w.heap.size w W)=>dY N D W (by omega) hD0 (by omega)
   have c:=yE n0 d0 (aa N) (aa D) N.toNat D.toNat (ag (Rat.divInt N D)) w pn pn' pd pd' zn qn qn' hP (by omega) (by omega) hm
   rw [show ((D.toNat:Nat):Int)=D by omega,show ((N.toNat:Nat):Int)=N by omega] at c
   exact c cx cy cq
 ·have hgp:=lf (n:=N) (d:=D) (by omega)
  have hgs:=iK hN hD
  have cg:=fun W (h:Below w.heap.size w W)=>yD N D W hN hD (ht.next h)
  have ca:=fun W (h:Below w.heap.size w W)=>ov N (aD N D) W hN hgs (by omega) (ht.next h)
  have cb:=fun W (h:Below w.heap.size w W)=>ov D (aD N D) W hD hgs (by omega) (ht.next h)
  have sa:=dR (y:=aD N D) hN (by omega)
  have sb:=dR (y:=aD N D) hD (by omega)
  have hb0:0≤D.fdiv (aD N D):=by rw [Int.fdiv_eq_ediv_of_nonneg _ (by omega)];exact Int.ediv_nonneg (by omega) (by omega)
  have hr:=BK (n:=N) hD0
  rw [←hr]
  have pa:=lj (N.fdiv (aD N D))
  have za:=aJ sa
  have zb:=oz sb hb0
  have hma:=jW (N.fdiv (aD N D)) pa
  have h1:((aa (D.fdiv (aD N D))).toList == [49])=decide (D.fdiv (aD N D)=1):=oo _
  have hl:¬ ((aa N).size:Int)≤18∨(((aa N).size:Int)≤18∧¬ ((aa D).size:Int)≤18):=by omega
  clear hr hs
  generalize N.fdiv (aD N D)=a at *
  generalize D.fdiv (aD N D)=b at *
  have hT:dw a b=if b=1 then aa a else aa a++⟨#[47]⟩++aa b:=by
   unfold dw nQ
   split
   ·rfl
   ·exact ms _ _
  rw [hT]
  have na:a<0→¬ (300:Int)<(aa (-a)).size:=fun h=>by
   have:=oz (z := -a) (fX sa) (by omega)
   omega
  have na2:¬ a<0→¬ (300:Int)<(aa a).size:=fun h=>by
   have:=oz (z:=a) sa (by omega)
   omega
  by_cases ho:b=1
  ·rw [if_pos ho]
   rw [decide_eq_true ho] at h1
   by_cases h:a<0
   ·rw [decide_eq_true h] at hma
    rcases hl with hl | ⟨l1,l2⟩
    ·exact tY n0 d0 _ _ _ _ _ _ _ _ w pn pn' pd pd' zn qn qn' hP hl pa (by omega) (by omega) (by omega) hma (iO h) (na h) h1 cg ca cb
    ·exact t8 n0 d0 _ _ _ _ _ _ _ _ w pn pn' pd pd' zn qn qn' hP l1 l2 pa (by omega) (by omega) (by omega) hma (iO h) (na h) h1 cg ca cb
   ·rw [decide_eq_false h] at hma
    rcases hl with hl | ⟨l1,l2⟩
    ·exact tW n0 d0 _ _ _ _ _ _ _ w pn pn' pd pd' zn qn qn' hP hl pa (by omega) (by omega) (by omega) hma (na2 h) h1 cg ca cb
    ·exact t6 n0 d0 _ _ _ _ _ _ _ w pn pn' pd pd' zn qn qn' hP l1 l2 pa (by omega) (by omega) (by omega) hma (na2 h) h1 cg ca cb
  ·rw [if_neg ho]
   rw [decide_eq_false ho] at h1
   by_cases h:a<0
   ·rw [decide_eq_true h] at hma
    rcases hl with hl | ⟨l1,l2⟩
    ·exact tX n0 d0 _ _ _ _ _ _ _ _ w pn pn' pd pd' zn qn qn' hP hl pa (by omega) (by omega) (by omega) hma (iO h) (na h) h1 cg ca cb
    ·exact t7 n0 d0 _ _ _ _ _ _ _ _ w pn pn' pd pd' zn qn qn' hP l1 l2 pa (by omega) (by omega) (by omega) hma (iO h) (na h) h1 cg ca cb
   ·rw [decide_eq_false h] at hma
    rcases hl with hl | ⟨l1,l2⟩
    ·exact tV n0 d0 _ _ _ _ _ _ _ w pn pn' pd pd' zn qn qn' hP hl pa (by omega) (by omega) (by omega) hma (na2 h) h1 cg ca cb
    ·exact tZ n0 d0 _ _ _ _ _ _ _ w pn pn' pd pd' zn qn qn' hP l1 l2 pa (by omega) (by omega) (by omega) hma (na2 h) h1 cg ca cb
theorem ns (n d:Int) (w:World) (hn:short n) (hd:short d) (h0:d≠0) (ht:Tab w) :
  Calls Tryz.prog 60 #[.string (aa n),.string (aa d)] w fun e W'=>e = .returned (.tuple #[.string (ag (Rat.divInt n d)),.int .i64 0])∧Below w.heap.size w W':=by
 have pn:=lj n
 have pd:=lj d
 have hm:=jW n pn
 have hk:=jW d pd
 have z0:((aa n).toList == [48])=decide (n=0):=by
  rw [←cR,eH]
  exact decide_eq_decide.2 Rat.intCast_eq_zero_iff
 rcases Int.lt_or_gt_of_ne h0 with h | h
 ·rw [decide_eq_true h] at hk
  rw [←Rat.neg_divInt_neg]
  refine pG _ _ (-n) (-d) w pn pd (jr hn) (fX hn) (fX hd) (by omega) ht (.inr ⟨hk,iO h,?_⟩)
  rcases Int.lt_trichotomy n 0 with q | q | q
  ·exact .inl ⟨by rw [hm];exact decide_eq_true q,iO q⟩
  ·exact .inr (.inl ⟨by rw [hm];exact decide_eq_false (by omega),by rw [z0];exact decide_eq_true q,by rw [q];rfl⟩)
  ·refine .inr (.inr ⟨by rw [hm];exact decide_eq_false (by omega),by rw [z0];exact decide_eq_false (by omega),?_⟩)
   have e:=fm (z := -n) (by omega)
   rwa [show (((-n).natAbs:Nat):Int)=n by omega] at e
 ·rw [decide_eq_false (show ¬ d<0 by omega)] at hk
  exact pG _ _ n d w pn pd (jr hn) hn hd (by omega) ht (.inl ⟨hk,rfl,rfl⟩)
end Go.Proofs.YtocalfjfjjljnaaGreatDoor
