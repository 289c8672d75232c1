/- Parts of the proof of the text YtocalfjfjjljnaaGreatDoorZO44. -/
import Derived.Test.YtocalfjfjjljnaaGreatDoorZO1
import Derived.Test.YtocalfjfjjljnaaGreatDoorZO21
import Derived.Test.YtocalfjfjjljnaaGreatDoorZO22
set_option linter.all false
set_option maxRecDepth 100000
set_option maxHeartbeats 8000000
namespace Go.Proofs.YtocalfjfjjljnaaGreatDoor
section
open Go.RowKit
def Sq (x:Rat):Prop:=x.num.natAbs<lim∧x.den<lim
theorem Sq.n {x:Rat} (h:Sq x):short x.num:=h.1
theorem Sq.d {x:Rat} (h:Sq x):short (x.den:Int):=by show Int.natAbs _<lim;rw [Int.natAbs_natCast];exact h.2
theorem ni (x:Rat):bN (ag x)=aa x.num:=aK (by rw [dM,be,aB,(di x).1])
theorem nj (x:Rat):bD (ag x)=aa (x.den:Int):=aK (by rw [cN,be,aB,(di x).2.1])
theorem il (x:Rat):valOf (bF (ag x).data.toList)=x.num∧valOf (aH (ag x).data.toList)=x.den:=by
 rw [be,(di x).1,(di x).2.1,cJ,cJ];exact ⟨rfl,rfl⟩
theorem Sq.chk {x:Rat} (h:Sq x):aM (ag x).data.toList=0:=sW h.1 h.2
theorem Sq.size {x:Rat} (h:Sq x):(ag x).size≤maxLen:=by
 have h1:=aJ h.n
 have h2:=aJ h.d
 rw [←ac,aB] at h1 h2
 rw [←ac,be]
 unfold cW maxLen
 split
 ·omega
 ·rw [List.length_append,List.length_cons];omega
theorem nX (x:Rat) (w:World) (hx:Sq x) (ht:Tab w) :
  Calls Tryz.prog 83 #[.string (ag x)] w fun e W'=>e = .returned (.tuple #[.agg #[.string (aa x.num),.int .i64 0,.string (aa (x.den:Int)),.int .i64 0],.int .i64 0])∧Below w.heap.size w W':=by
 have c:=li (ag x) w hx.size ht
 obtain ⟨q1,q2⟩:=p8 hx.chk
 rwa [q1,q2,ni,nj,hx.chk] at c
theorem uS {x:Rat} (h:mOK (ag x).data.toList=true):B18 x.num∧B18 (x.den:Int):=by
 have:=(uM h).2
 rwa [(il x).1,(il x).2] at this
theorem kC (x y:Rat) (p q:Nat) (rM:ByteArray) (eM:Int) (B:ByteArray) (E:Int) (w:World) (hx:Sq x) (hy:Sq y) (ht:Tab w) (ht2:cE w)
  (hs:B18 x.num→B18 (x.den:Int)→B18 y.num→B18 (y.den:Int)→CqB w 84 #[.agg #[.int .i64 x.num,.int .i64 (x.den:Int)],.agg #[.int .i64 y.num,.int .i64 (y.den:Int)],.pointer (some ⟨p,0,none⟩)] (.tuple #[.string rM,.int .i64 eM]))
  (hok:eM=0→rM=B∧E=0)
  (hl:CqB w 86 #[.agg #[.string (aa x.num),.int .i64 0,.string (aa (x.den:Int)),.int .i64 0],.agg #[.string (aa y.num),.int .i64 0,.string (aa (y.den:Int)),.int .i64 0],.pointer (some ⟨q,0,none⟩)] (.tuple #[.string B,.int .i64 E])) :
  Calls Tryz.prog 44 #[.string (ag x),.string (ag y),.func (.func 84) #[] #[.pointer (some ⟨p,0,none⟩)],.func (.func 86) #[] #[.pointer (some ⟨q,0,none⟩)]] w fun e W'=>e = .returned (.tuple #[.string B,.int .i64 E])∧Below w.heap.size w W':=by
 have el:∀ args W,(callFunc 86 args).run Tryz.prog W = .ok (.enter 86 args) W:=enters_of Tryz.func86 (by kernel_rfl) rfl
 have es:∀ args W,(callFunc 84 args).run Tryz.prog W = .ok (.enter 84 args) W:=enters_of Tryz.func84 (by kernel_rfl) rfl
 have ra:=fun W (hW:Below w.heap.size w W)=>nX x W hx (ht.next hW)
 have rb:=fun W (hW:Below w.heap.size w W)=>nX y W hy (ht.next hW)
 by_cases o:mOK (ag x).data.toList=true∧mOK (ag y).data.toList=true
 ·have hm:=fun W (hW:Below w.heap.size w W)=>mc (ag x) (ag y) W hx.size hy.size o.1 o.2 (aF ht2 hW)
  simp only [(il x).1,(il x).2,(il y).1,(il y).2] at hm
  have hs:=hs (uS o.1).1 (uS o.1).2 (uS o.2).1 (uS o.2).2
  by_cases he:eM=0
  ·obtain ⟨h1,h2⟩:=hok he
   subst h1;subst h2;subst he
   exact nT _ _ p q _ _ _ _ _ _ _ w hm es hs
  ·exact o4 _ _ p q _ _ _ _ _ _ _ _ _ _ _ _ _ _ w (aQ he).1 (aQ he).2 hm es hs ra rb el hl
 ·have hm:=fun W (hW:Below w.heap.size w W)=>mX (ag x) (ag y) W hx.size hy.size o (aF ht2 hW)
  exact o5 _ _ p q _ _ _ _ _ _ _ _ w hm ra rb el hl
theorem B18.ok {z:Int} (h:B18 z):z.natAbs<4611686018427387904:=by unfold B18 at h;omega
theorem mh {x:Rat} (h:Sq x):Lwf (some (x.den:Int)):=gD h.d
theorem mi {x:Rat} (h:Sq x):Lwf (some x.num):=gD h.n
theorem uT (x y:Rat):opL (· * ·) (some (x.den:Int)) (some (y.den:Int))≠some 0:=by
 rw [eE]
 unfold mkL
 intro h
 split at h
 ·have h1:=Option.some.inj h
  rcases Int.mul_eq_zero.1 h1 with q | q
  ·exact jh x q
  ·exact jh y q
 ·cases h
theorem Ah {x y:Rat} (hy:y≠0):opL (· * ·) (some y.num) (some (x.den:Int))≠some 0:=by
 rw [eE]
 unfold mkL
 intro h
 split at h
 ·have h1:=Option.some.inj h
  rcases Int.mul_eq_zero.1 h1 with q | q
  ·exact hy (Rat.num_eq_zero.1 q)
  ·exact jh x q
 ·cases h
theorem vY (x y:Rat) (p:Nat) (w:World) (bx:B18 x.num) (cx:B18 (x.den:Int)) (by_:B18 y.num) (cy:B18 (y.den:Int)) (hb:Blk w p #[.func (.func 89) #[] #[]]) (ht:Tab w) (ht2:cE w) :
  Calls Tryz.prog 84 #[.agg #[.int .i64 x.num,.int .i64 (x.den:Int)],.agg #[.int .i64 y.num,.int .i64 (y.den:Int)],.pointer (some ⟨p,0,none⟩)] w fun e W'=>e = .returned (.tuple #[.string (o3 (gE (az x.num y.den) (az y.num x.den)) (az x.den y.den)),.int .i64 (je (gE (az x.num y.den) (az y.num x.den)) (az x.den y.den))])∧Below w.heap.size w W' :=
 me 89 p _ _ _ _ _ _ _ _ w (enters_of Tryz.func89 (by kernel_rfl) rfl) hb (fun W _=>xO _ _ _ _ W bx cx by_ cy)
  (fun W hW=>jf _ _ W (rJ (bE _ _) (bE _ _)).1 (rJ (bE _ _) (bE _ _)).2 (bE _ _).lo (bE _ _).hi (nV (jh x) (jh y)) (ht.next hW) (aF ht2 hW))
theorem wa (a b r:ByteArray) (e0:Int) (w:World)
  (h:∀ W p q,Below w.heap.size w W→Blk W p #[.func (.func 89) #[] #[]]→Blk W q #[.func (.func 90) #[] #[]]→Calls Tryz.prog 44 #[.string a,.string b,.func (.func 84) #[] #[.pointer (some ⟨p,0,none⟩)],.func (.func 86) #[] #[.pointer (some ⟨q,0,none⟩)]] W fun e W'=>e = .returned (.tuple #[.string r,.int .i64 e0])∧Below W.heap.size W W') :
  Calls Tryz.prog 50 #[.string a,.string b] w fun e W'=>e = .returned (.tuple #[.string r,.int .i64 e0])∧Below w.heap.size w W':=by
 have C:=Ha (Hb h (Hb (fun W=>jc 89 W) (fun W=>jd 90 W)));clear h
 go_enter Tryz.func50,Tryz.ntmps50
 go_wp2_with fail
 refine (C.out.2.1 _).mono ?_
 rintro e w1 ⟨rfl,k0,b⟩
 have H1:=Ha (Hb k0 b);clear k0 b
 go_wp2_with fail
 refine (C.out.2.2 _).mono ?_
 rintro e w2 ⟨rfl,k1,b⟩
 have H2:=Ha (Hb (H1.out.1.next b) (Hb k1 (H1.out.2.trans (b.mono H1.out.2.size))));clear k1 b H1
 go_wp2_with fail
 refine (C.out.1 _ _ _ H2.out.2.2 H2.out.1 H2.out.2.1).mono ?_
 rintro e w3 ⟨rfl,b⟩
 have H3:=Ha (H2.out.2.2.trans (b.mono H2.out.2.2.size));clear b
 go_wp2
 go_ret2
 exact ⟨rfl,H3.out⟩
theorem wb (x y:Rat) (p:Nat) (w:World) (bx:B18 x.num) (cx:B18 (x.den:Int)) (by_:B18 y.num) (cy:B18 (y.den:Int)) (hb:Blk w p #[.func (.func 70) #[] #[]]) (ht:Tab w) (ht2:cE w) :
  Calls Tryz.prog 84 #[.agg #[.int .i64 x.num,.int .i64 (x.den:Int)],.agg #[.int .i64 y.num,.int .i64 (y.den:Int)],.pointer (some ⟨p,0,none⟩)] w fun e W'=>e = .returned (.tuple #[.string (o3 (az x.num y.num) (az x.den y.den)),.int .i64 (je (az x.num y.num) (az x.den y.den))])∧Below w.heap.size w W' :=
 me 70 p _ _ _ _ _ _ _ _ w (enters_of Tryz.func70 (by kernel_rfl) rfl) hb (fun W _=>p9 _ _ _ _ W bx cx by_ cy)
  (fun W hW=>jf _ _ W (bE _ _).lo (bE _ _).hi (bE _ _).lo (bE _ _).hi (nV (jh x) (jh y)) (ht.next hW) (aF ht2 hW))
theorem wd (a b r:ByteArray) (e0:Int) (w:World)
  (h:∀ W p q,Below w.heap.size w W→Blk W p #[.func (.func 70) #[] #[]]→Blk W q #[.func (.func 71) #[] #[]]→Calls Tryz.prog 44 #[.string a,.string b,.func (.func 84) #[] #[.pointer (some ⟨p,0,none⟩)],.func (.func 86) #[] #[.pointer (some ⟨q,0,none⟩)]] W fun e W'=>e = .returned (.tuple #[.string r,.int .i64 e0])∧Below W.heap.size W W') :
  Calls Tryz.prog 29 #[.string a,.string b] w fun e W'=>e = .returned (.tuple #[.string r,.int .i64 e0])∧Below w.heap.size w W':=by
 have C:=Ha (Hb h (Hb (fun W=>jc 70 W) (fun W=>jd 71 W)));clear h
 go_enter Tryz.func29,Tryz.ntmps29
 go_wp2_with fail
 refine (C.out.2.1 _).mono ?_
 rintro e w1 ⟨rfl,k0,b⟩
 have H1:=Ha (Hb k0 b);clear k0 b
 go_wp2_with fail
 refine (C.out.2.2 _).mono ?_
 rintro e w2 ⟨rfl,k1,b⟩
 have H2:=Ha (Hb (H1.out.1.next b) (Hb k1 (H1.out.2.trans (b.mono H1.out.2.size))));clear k1 b H1
 go_wp2_with fail
 refine (C.out.1 _ _ _ H2.out.2.2 H2.out.1 H2.out.2.1).mono ?_
 rintro e w3 ⟨rfl,b⟩
 have H3:=Ha (H2.out.2.2.trans (b.mono H2.out.2.2.size));clear b
 go_wp2
 go_ret2
 exact ⟨rfl,H3.out⟩
theorem we (x y:Rat) (p:Nat) (w:World) (bx:B18 x.num) (cx:B18 (x.den:Int)) (by_:B18 y.num) (cy:B18 (y.den:Int)) (h0:y≠0) (hb:Blk w p #[.func (.func 46) #[] #[]]) (ht:Tab w) (ht2:cE w) :
  Calls Tryz.prog 84 #[.agg #[.int .i64 x.num,.int .i64 (x.den:Int)],.agg #[.int .i64 y.num,.int .i64 (y.den:Int)],.pointer (some ⟨p,0,none⟩)] w fun e W'=>e = .returned (.tuple #[.string (o3 (az x.num y.den) (az y.num x.den)),.int .i64 (je (az x.num y.den) (az y.num x.den))])∧Below w.heap.size w W' :=
 me 46 p _ _ _ _ _ _ _ _ w (enters_of Tryz.func46 (by kernel_rfl) rfl) hb (fun W _=>tD _ _ _ _ W bx cx by_ cy)
  (fun W hW=>jf _ _ W (bE _ _).lo (bE _ _).hi (bE _ _).lo (bE _ _).hi (nV (fun e=>h0 (Rat.num_eq_zero.1 e)) (jh x)) (ht.next hW) (aF ht2 hW))
theorem wh (a b r:ByteArray) (e0:Int) (hz:(b.toList == [48])=false) (hz':(b.toList != [48])=true) (w:World)
  (h:∀ W p q,Below w.heap.size w W→Blk W p #[.func (.func 46) #[] #[]]→Blk W q #[.func (.func 48) #[] #[]]→Calls Tryz.prog 44 #[.string a,.string b,.func (.func 84) #[] #[.pointer (some ⟨p,0,none⟩)],.func (.func 86) #[] #[.pointer (some ⟨q,0,none⟩)]] W fun e W'=>e = .returned (.tuple #[.string r,.int .i64 e0])∧Below W.heap.size W W') :
  Calls Tryz.prog 18 #[.string a,.string b] w fun e W'=>e = .returned (.tuple #[.string r,.int .i64 e0])∧Below w.heap.size w W':=by
 have C:=Ha (Hb h (Hb (fun W=>jc 46 W) (fun W=>jd 48 W)));clear h
 go_enter Tryz.func18,Tryz.ntmps18
 go_wp2_with fail
 refine (C.out.2.1 _).mono ?_
 rintro e w1 ⟨rfl,k0,b⟩
 have H1:=Ha (Hb k0 b);clear k0 b
 go_wp2_with fail
 refine (C.out.2.2 _).mono ?_
 rintro e w2 ⟨rfl,k1,b⟩
 have H2:=Ha (Hb (H1.out.1.next b) (Hb k1 (H1.out.2.trans (b.mono H1.out.2.size))));clear k1 b H1
 go_wp2_with fail
 refine (C.out.1 _ _ _ H2.out.2.2 H2.out.1 H2.out.2.1).mono ?_
 rintro e w3 ⟨rfl,b⟩
 have H3:=Ha (H2.out.2.2.trans (b.mono H2.out.2.2.size));clear b
 go_wp2
 go_ret2
 exact ⟨rfl,H3.out⟩
theorem qe (x:Rat) (w:World) (hx:Sq x) (ht:Tab w) (ht2:cE w) :
  Calls Tryz.prog 42 #[.string (ag x)] w fun e W'=>e = .returned (.tuple #[.string (aa x.num),.string (aa (x.den:Int)),.int .i64 0])∧Below w.heap.size w W':=by
 have c:=nS (ag x) w hx.size ht ht2
 unfold paN paD at c
 rwa [if_pos hx.chk,if_pos hx.chk,ni,nj,hx.chk] at c
theorem rN (a n d q r:ByteArray) (w:World)
  (hp:CqB w 42 #[.string a] (.tuple #[.string n,.string d,.int .i64 0]))
  (hd:CqB w 52 #[.string n,.string d] (.tuple #[.string q,.string r,.int .i64 0])) :
  Calls Tryz.prog 51 #[.string a] w fun e W'=>e = .returned (.tuple #[.string q,.int .i64 0])∧Below w.heap.size w W':=by
 have C:=Ha (Hb hp hd);clear hp hd
 go_enter Tryz.func51,Tryz.ntmps51
 go_wp2_with fail
 refine (C.out.1 _ (Below.refl _ _)).mono ?_
 rintro e w1 ⟨rfl,b⟩
 have H1:=Ha b;clear b
 go_wp2_with fail
 refine (C.out.2 _ H1.out).mono ?_
 rintro e w2 ⟨rfl,b⟩
 have H2:=Ha (H1.out.trans (b.mono H1.out.size));clear b
 go_wp2
 go_ret2
 exact ⟨rfl,H2.out⟩
theorem Ai (x:Rat) (w:World) (hx:Sq x) (ht:Tab w) (ht2:cE w) :
  Calls Tryz.prog 51 #[.string (ag x)] w fun e W'=>e = .returned (.tuple #[.string (aa (x.num.fdiv x.den)),.int .i64 0])∧Below w.heap.size w W' :=
 rN _ _ _ _ _ w (fun W hW=>qe x W hx (ht.next hW) (aF ht2 hW)) (fun W hW=>i7 x.num x.den W hx.n hx.d (jh x) (ht.next hW))
end
namespace T
open Go.RowKit
def k1 (c:UInt8) (s:ByteArray):ByteArray:=bO (kA c s.data.toList)
def k2 (c:UInt8) (s:ByteArray):ByteArray:=bO (kB c s.data.toList)
theorem rO {c:UInt8} {s:ByteArray} (h:kH c s.data.toList=true):Lib.indexByte s.data.toList c=((k1 c s).size:Int)∧s.extract 0 (k1 c s).size=k1 c s∧s.extract ((k1 c s).size+1) s.size=k2 c s∧(k1 c s).size+1≤s.size:=by
 have h2:=nh (lV.1 h)
 have hns:=BJ c s.data.toList
 have hl:(k1 c s).size=(kA c s.data.toList).length:=ai _
 have hlen:=congrArg List.length h2
 simp only [List.length_append,List.length_cons] at hlen
 rw [ac] at hlen
 have hbn:(k1 c s).data.toList=kA c s.data.toList:=aP _
 have hbd:(k2 c s).data.toList=kB c s.data.toList:=aP _
 rw [hl]
 generalize kA c s.data.toList=n at *
 generalize kB c s.data.toList=d at *
 refine ⟨?_,?_,?_,by omega⟩
 ·rw [h2];exact kR (c:=c) d hns
 ·apply aK
  rw [Lib.extract_data,hbn,h2]
  simp
 ·apply aK
  rw [Lib.extract_data,hbd,List.take_of_length_le (by rw [List.length_drop,ac];omega),h2,List.drop_append,List.drop_eq_nil_of_le (by omega)]
  simp
theorem Aj {c:UInt8} {s:ByteArray} (h:kH c s.data.toList=false):k1 c s=s∧k2 c s=⟨#[]⟩∧Lib.indexByte s.data.toList c = -1:=by
 have hn:c ∉ s.data.toList:=fun e=>by rw [lV.2 e] at h;cases h
 obtain ⟨e1,e2⟩:=xx hn
 unfold k1 k2
 rw [e1,e2]
 exact ⟨xr s,rfl,kQ hn⟩
theorem DJ (c:UInt8) (s:ByteArray) (w:World) (hs:s.size≤1000000) :
  Calls Tryz.prog 110 #[.string s,.string ⟨#[c]⟩] w fun e W'=>e = .returned (.tuple #[.string (k1 c s),.string (k2 c s),.bool (kH c s.data.toList)])∧Below w.heap.size w W':=by
 have ci:=fun W=>Tryz.stringslite_Index_one s c W
 cases h:kH c s.data.toList
 ·obtain ⟨e1,e2,e3⟩:=Aj h
  rw [e3] at ci
  rw [e1,e2]
  have C:=Ha ci
  clear ci h e1 e2 e3
  go_enter Tryz.func110,Tryz.ntmps110
  go_wp2_with fail
  refine (C.out _).mono ?_
  rintro e w' ⟨rfl,rfl⟩
  go_wp2
  go_ret3
  exact ⟨rfl,Below.refl _ _⟩
 ·obtain ⟨e1,e2,e3,e4⟩:=rO h
  rw [e1] at ci
  have C:=Ha ci
  have hz:(⟨#[c]⟩:ByteArray).size=1:=rfl
  clear ci h e1
  generalize (k1 c s).size=k at *
  go_enter Tryz.func110,Tryz.ntmps110
  go_wp2_with fail
  refine (C.out _).mono ?_
  rintro e w' ⟨rfl,rfl⟩
  go_wp2
  go_quiet (fail)
  go_wp2
  go_ret3
  exact ⟨rfl,⟨rfl,rfl,rfl,Nat.le_refl _,fun _ _=>rfl⟩⟩
theorem xX (c:UInt8) (s:ByteArray) (w:World) (hs:s.size≤1000000) :
  Calls Tryz.prog 66 #[.string s,.string ⟨#[c]⟩] w fun e W'=>e = .returned (.tuple #[.string (k1 c s),.string (k2 c s),.bool (kH c s.data.toList)])∧Below w.heap.size w W':=by
 have C:=Ha (fun W=>DJ c s W hs)
 clear hs
 generalize k1 c s=n at *
 generalize k2 c s=d at *
 generalize kH c s.data.toList=b at *
 go_enter Tryz.func66,Tryz.ntmps66
 go_wp2_with fail
 refine (C.out _).mono ?_
 rintro e w' ⟨rfl,hb⟩
 have B:=Ha hb;clear hb
 go_wp2
 go_ret3
 exact ⟨rfl,B.out⟩
theorem xY (l:List UInt8):Lib.hasPrefix l [45]=af l:=by
 unfold Lib.hasPrefix af
 cases l with
 | nil=>rfl
 | cons a t=>simp [List.isPrefixOf];exact BEq.comm
def zB (s:ByteArray):ByteArray:=bO (szL s.data.toList)
theorem jO (s:ByteArray) (w:World) :
  Calls Tryz.prog 43 #[.string s,.string ⟨#[45]⟩] w fun e W'=>e = .returned (.tuple #[.string (zB s),.bool (af s.data.toList)])∧Below w.heap.size w W':=by
 refine (Tryz.strings_CutPrefix s ⟨#[45]⟩ w).mono ?_
 rintro e w' ⟨rfl,rfl⟩
 refine ⟨?_,Below.refl _ _⟩
 have h1:Lib.hasPrefix s.data.toList (⟨#[45]⟩:ByteArray).data.toList=af s.data.toList:=xY _
 have h2:Lib.trimPrefix s.data.toList (⟨#[45]⟩:ByteArray).data.toList=szL s.data.toList:=by
  unfold Lib.trimPrefix szL
  rw [h1]
  cases af s.data.toList <;> simp
 rw [h1,h2];rfl
theorem BL (c:UInt8):∀ n,Lib.repeatL [c] n=List.replicate n c
 | 0=>rfl
 | n+1=>by
  show [c]++Lib.repeatL [c] n=_
  rw [BL c n,List.replicate_succ];rfl
theorem DK (n:Nat) (w:World) (h:n≤1000) :
  Calls Tryz.prog 79 #[.string ⟨#[48]⟩,.int .i64 n] w fun e W'=>e = .returned (.string (bO (List.replicate n 48)))∧Below w.heap.size w W':=by
 match n,h with
 | 0,_=>exact (Tryz.strings_Repeat_zero ⟨#[48]⟩ w).mono fun e W' ⟨a,b⟩=>⟨a,by rw [b];exact Below.refl _ _⟩
 | 1,_=>exact (Tryz.strings_Repeat_one ⟨#[48]⟩ w).mono fun e W' ⟨a,b⟩=>⟨a,by rw [b];exact Below.refl _ _⟩
 | n+2,h =>
  have c:=Tryz.strings_Repeat_main ⟨#[48]⟩ (n+2) w (by omega) (by omega) (by show 1*(n+2)≤_;omega) (by decide)
  rwa [show (⟨#[48]⟩:ByteArray).data.toList = [48] from rfl,BL] at c
def sgB (b:Bool) (s:ByteArray):ByteArray:=if b && s.toList != [48] then ⟨#[45]⟩++s else s
theorem lk (b:Bool) (s:ByteArray) (w:World) (hs:s.size≤1000) :
  Calls Tryz.prog 53 #[.string s,.bool b] w fun e W'=>e = .returned (.string (sgB b s))∧Below w.heap.size w W':=by
 cases b
 ·go_enter Tryz.func53,Tryz.ntmps53
  go_wp2
  go_ret
  exact ⟨rfl,Below.refl _ _⟩
 ·unfold sgB
  cases h:(s.toList == [48])
  ·have h':(s.toList != [48])=true:=by rw [bne,h];rfl
   have n3:¬ (9223372036854775807:Int)<1+(s.size:Int):=by omega
   rw [h',if_pos (by decide)]
   clear hs
   go_enter Tryz.func53,Tryz.ntmps53
   go_wp2
   go_ret
   exact ⟨rfl,Below.refl _ _⟩
  ·have h':(s.toList != [48])=false:=by rw [bne,h];rfl
   rw [h',if_neg (by decide)]
   clear hs
   go_enter Tryz.func53,Tryz.ntmps53
   go_wp2
   go_ret
   exact ⟨rfl,Below.refl _ _⟩
theorem Ee (n:Nat) (w:World) (h:n≤1000) :
  Calls Tryz.prog 78 #[.int .i64 n] w fun e W'=>e = .returned (.string (bO (49::List.replicate n 48)))∧Below w.heap.size w W':=by
 have C:=Ha (DK n w h)
 have e0:bO (49::List.replicate n 48)=⟨#[49]⟩++bO (List.replicate n 48):=(ee [49] _).symm
 have n3:¬ (9223372036854775807:Int)<1+((bO (List.replicate n 48)).size:Int):=by rw [ai,List.length_replicate];omega
 rw [e0]
 clear h e0
 generalize bO (List.replicate n 48)=r at *
 go_enter Tryz.func78,Tryz.ntmps78
 go_wp2_with fail
 refine C.out.mono ?_
 rintro e w' ⟨rfl,b⟩
 have B:=Ha b;clear b
 go_wp2
 go_ret
 exact ⟨rfl,B.out⟩
theorem DL (c:UInt8) (w:World):Calls Tryz.prog 68 #[.int .u8 c.toNat] w fun e W'=>e = .returned (.bool (aj c))∧w=W':=by
 by_cases h1:(48:Int)≤c.toNat
 ·by_cases h2:(c.toNat:Int)≤57
  ·rw [show aj c=true by rw [ao];omega]
   go_enter Tryz.func68,Tryz.ntmps68
   go_wp2
   go_ret
   exact ⟨rfl,rfl⟩
  ·rw [show aj c=false by rw [←Bool.not_eq_true,ao];omega]
   go_enter Tryz.func68,Tryz.ntmps68
   go_wp2
   go_ret
   exact ⟨rfl,rfl⟩
 ·rw [show aj c=false by rw [←Bool.not_eq_true,ao];omega]
  go_enter Tryz.func68,Tryz.ntmps68
  go_wp2
  go_ret
  exact ⟨rfl,rfl⟩
theorem Ck {a b:Bool} (h:a=b):Ending.returned (.bool a) = .returned (.bool b):=by rw [h]
def dy (p:UInt8→Bool) (l:List UInt8):Bool := !l.isEmpty && l.all p
theorem Cl {p:UInt8→Bool} {s:ByteArray} (h:s.data.toList.all p=false):dy p s.data.toList=false:=by unfold dy;rw [h,Bool.and_false]
theorem Cm {p:UInt8→Bool} {s:ByteArray} (h:s.data.toList = []):dy p s.data.toList=false:=by rw [h];rfl
theorem Cn {p:UInt8→Bool} {s:ByteArray} (h:s.data.toList.isEmpty=false) (h2:s.data.toList.all p=true):dy p s.data.toList=true:=by unfold dy;rw [h,h2];rfl
theorem kD (f:FuncId) (p:UInt8→Bool) (s:ByteArray) (w:World) (hs:s.size≤100000)
  (eg:∀ args W,(callFunc f args).run Tryz.prog W = .ok (.enter f args) W)
  (hp:∀ c:UInt8,Calls Tryz.prog f #[.int .u8 c.toNat] w fun e W'=>e = .returned (.bool (p c))∧w=W') :
  Calls Tryz.prog 34 #[.string s,.func (.func f) #[] #[]] w fun e W'=>e = .returned (.bool (dy p s.data.toList))∧w=W':=by
 have O:=Ha hp;clear hp
 have hm:s.size≤9223372036854775807:=by omega
 clear hs
 go_enter Tryz.func34,Tryz.ntmps34
 go_wp2
 go_loop [8] (fun i=>∃ k:Nat,k≤s.size∧i = .int .i64 k∧Hid ((s.data.toList.take k).all p=true)) (fun i=>s.size - (intOf i).toNat)
 case atStart=>exact ⟨0,Nat.zero_le _,rfl,rfl⟩
 case round =>
  obtain ⟨k,hk,rfl,hd⟩:=hrel
  by_cases hlt:k<s.size
  ·have X:=Ha (O.out s[k])
   cases h1:p s[k]
   ·rw [h1] at X
    have hz:dy p s.data.toList=false:=Cl (by
     rw [List.all_eq_false]
     exact ⟨s[k],cD s k hlt,by rw [h1];decide⟩)
    have HZ:=Ha hz
    clear hz h1
    go_wp2_with fail
    refine X.out.mono ?_
    rintro e w' ⟨rfl,rfl⟩
    go_wp2
    go_ret
    exact ⟨Ck HZ.out.symm,rfl⟩
   ·rw [h1] at X
    have hd':Hid ((s.data.toList.take (k+1)).all p=true):=by
     show (s.data.toList.take (k+1)).all p=true
     rw [a8 s k hlt,List.all_append,hd.out]
     simp [h1]
    clear hd h1
    go_wp2_with fail
    refine X.out.mono ?_
    rintro e w' ⟨rfl,rfl⟩
    go_wp2
    go_round
    case rel=>exact ⟨k+1,by omega,by go_num,hd'⟩
    case measure=>simp [intOf];omega
  ·have ha:s.data.toList.all p=true:=by
    have:=hd.out;rwa [List.take_of_length_le (by rw [ac];omega)] at this
   have HA:=Ha ha
   clear hd ha
   by_cases h0:s.size=0
   ·have hE:=gg h0
    have e0:s.data.toList = []:=cQ h0
    have hE':(s.toList != [])=false:=by rw [bne,ByteArray.toList_eq,e0];rfl
    have HE:=Ha e0
    clear e0 h0
    go_wp2
    go_ret
    exact ⟨Ck (Cm HE.out).symm,rfl⟩
   ·have h0':0<s.size:=by omega
    have e0:s.data.toList.isEmpty=false:=by
     cases h:s.data.toList with
     | nil=>rw [←ac,h] at h0';cases h0'
     | cons a t=>rfl
    have hE':(s.toList == [])=false:=by
     rw [ByteArray.toList_eq,beq_eq_false_iff_ne]
     intro h;rw [h] at e0;cases e0
    have hE:(s.toList != [])=true:=by rw [bne,hE'];rfl
    have HE:=Ha e0
    clear e0
    go_wp2
    go_ret
    exact ⟨Ck (Cn HE.out HA.out).symm,rfl⟩
theorem BM (s:ByteArray) (w:World) (hs:s.size≤100000) :
  Calls Tryz.prog 34 #[.string s,.func (.func 68) #[] #[]] w fun e W'=>e = .returned (.bool (dgs s.data.toList))∧Below w.heap.size w W' :=
 (kD 68 aj s w hs (enters_of Tryz.func68 (by kernel_rfl) rfl) (fun c=>DL c w)).mono fun e W' h=>⟨h.1,by rw [←h.2];exact Below.refl _ _⟩
end T
namespace T
open Go.RowKit
theorem wi (a m n:ByteArray) (w:World)
  (h1:∀ W,Below w.heap.size w W→Calls Tryz.prog 50 #[.string a,.string ⟨#[49,47,50]⟩] W fun e W'=>e = .returned (.tuple #[.string m,.int .i64 0])∧Below W.heap.size W W')
  (h2:∀ W,Below w.heap.size w W→Calls Tryz.prog 51 #[.string m] W fun e W'=>e = .returned (.tuple #[.string n,.int .i64 0])∧Below W.heap.size W W')
  : Calls Tryz.prog 19 #[.string a] w fun e W'=>e = .returned (.tuple #[.string n,.int .i64 0])∧Below w.heap.size w W':=by
 have O:=Ha (Hb h1 (h2));clear h1 h2
 go_enter Tryz.func19,Tryz.ntmps19
 have HB:=Ha (Below.refl w.heap.size w)
 go_wp2_with fail
 refine (O.out.1 _ HB.out).mono ?_
 rintro e w1 ⟨rfl,b⟩
 replace HB:=Ha (HB.out.trans (b.mono HB.out.size));clear b
 go_wp2_with fail
 refine (O.out.2 _ HB.out).mono ?_
 rintro e w2 ⟨rfl,b⟩
 replace HB:=Ha (HB.out.trans (b.mono HB.out.size));clear b
 go_wp2
 go_ret2
 exact ⟨rfl,HB.out⟩
theorem tE (a n d z:ByteArray) (g:Bool) (w:World) (s1:¬ (90:Int)<z.size) (s2:¬ (90:Int)<d.size)
  (h1:∀ W,Below w.heap.size w W→Calls Tryz.prog 42 #[.string a] W fun e W'=>e = .returned (.tuple #[.string n,.string d,.int .i64 0])∧Below W.heap.size W W')
  (h2:∀ W,Below w.heap.size w W→Calls Tryz.prog 43 #[.string n,.string ⟨#[45]⟩] W fun e W'=>e = .returned (.tuple #[.string z,.bool g])∧Below W.heap.size W W')
  : Calls Tryz.prog 17 #[.string a] w fun e W'=>e = .returned (.int .i64 0)∧Below w.heap.size w W':=by
 have O:=Ha (Hb h1 (h2));clear h1 h2
 go_enter Tryz.func17,Tryz.ntmps17
 have HB:=Ha (Below.refl w.heap.size w)
 go_wp2_with fail
 refine (O.out.1 _ HB.out).mono ?_
 rintro e w1 ⟨rfl,b⟩
 replace HB:=Ha (HB.out.trans (b.mono HB.out.size));clear b
 go_wp2_with fail
 refine (O.out.2 _ HB.out).mono ?_
 rintro e w2 ⟨rfl,b⟩
 replace HB:=Ha (HB.out.trans (b.mono HB.out.size));clear b
 go_wp2
 go_ret
 exact ⟨rfl,HB.out⟩
theorem xZ (a t r:ByteArray) (p:Nat) (w:World) (p1:¬ (p:Int)<0) (p2:¬ (100:Int)<p)
  (h1:∀ W,Below w.heap.size w W→Calls Tryz.prog 17 #[.string a] W fun e W'=>e = .returned (.int .i64 0)∧Below W.heap.size W W')
  (h2:∀ W,Below w.heap.size w W→Calls Tryz.prog 78 #[.int .i64 p] W fun e W'=>e = .returned (.string t)∧Below W.heap.size W W')
  (h3:∀ W,Below w.heap.size w W→Calls Tryz.prog 29 #[.string a,.string t] W fun e W'=>e = .returned (.tuple #[.string r,.int .i64 0])∧Below W.heap.size W W')
  : Calls Tryz.prog 40 #[.string a,.int .i64 p] w fun e W'=>e = .returned (.tuple #[.string r,.int .i64 0])∧Below w.heap.size w W':=by
 have O:=Ha (Hb h1 (Hb h2 (h3)));clear h1 h2 h3
 go_enter Tryz.func40,Tryz.ntmps40
 have HB:=Ha (Below.refl w.heap.size w)
 go_wp2_with fail
 refine (O.out.1 _ HB.out).mono ?_
 rintro e w1 ⟨rfl,b⟩
 replace HB:=Ha (HB.out.trans (b.mono HB.out.size));clear b
 go_wp2_with fail
 refine (O.out.2.1 _ HB.out).mono ?_
 rintro e w2 ⟨rfl,b⟩
 replace HB:=Ha (HB.out.trans (b.mono HB.out.size));clear b
 go_wp2_with fail
 refine (O.out.2.2 _ HB.out).mono ?_
 rintro e w3 ⟨rfl,b⟩
 replace HB:=Ha (HB.out.trans (b.mono HB.out.size));clear b
 go_wp2
 go_ret2
 exact ⟨rfl,HB.out⟩
theorem tF (a u n t:ByteArray) (p:Nat) (w:World)
  (h1:∀ W,Below w.heap.size w W→Calls Tryz.prog 40 #[.string a,.int .i64 p] W fun e W'=>e = .returned (.tuple #[.string u,.int .i64 0])∧Below W.heap.size W W')
  (h2:∀ W,Below w.heap.size w W→Calls Tryz.prog 19 #[.string u] W fun e W'=>e = .returned (.tuple #[.string n,.int .i64 0])∧Below W.heap.size W W')
  (h3:∀ W,Below w.heap.size w W→Calls Tryz.prog 41 #[.string n,.int .i64 p] W fun e W'=>e = .returned (.string t)∧Below W.heap.size W W')
  : Calls Tryz.prog 16 #[.string a,.int .i64 p] w fun e W'=>e = .returned (.tuple #[.string t,.int .i64 0])∧Below w.heap.size w W':=by
 have O:=Ha (Hb h1 (Hb h2 (h3)));clear h1 h2 h3
 go_enter Tryz.func16,Tryz.ntmps16
 have HB:=Ha (Below.refl w.heap.size w)
 go_wp2_with fail
 refine (O.out.1 _ HB.out).mono ?_
 rintro e w1 ⟨rfl,b⟩
 replace HB:=Ha (HB.out.trans (b.mono HB.out.size));clear b
 go_wp2_with fail
 refine (O.out.2.1 _ HB.out).mono ?_
 rintro e w2 ⟨rfl,b⟩
 replace HB:=Ha (HB.out.trans (b.mono HB.out.size));clear b
 go_wp2_with fail
 refine (O.out.2.2 _ HB.out).mono ?_
 rintro e w3 ⟨rfl,b⟩
 replace HB:=Ha (HB.out.trans (b.mono HB.out.size));clear b
 go_wp2
 go_ret2
 exact ⟨rfl,HB.out⟩
theorem wj (n z t:ByteArray) (g:Bool) (w:World)
  (h1:∀ W,Below w.heap.size w W→Calls Tryz.prog 43 #[.string n,.string ⟨#[45]⟩] W fun e W'=>e = .returned (.tuple #[.string z,.bool g])∧Below W.heap.size W W')
  (h2:∀ W,Below w.heap.size w W→Calls Tryz.prog 53 #[.string z,.bool g] W fun e W'=>e = .returned (.string t)∧Below W.heap.size W W')
  : Calls Tryz.prog 41 #[.string n,.int .i64 0] w fun e W'=>e = .returned (.string t)∧Below w.heap.size w W':=by
 have O:=Ha (Hb h1 (h2));clear h1 h2
 go_enter Tryz.func41,Tryz.ntmps41
 have HB:=Ha (Below.refl w.heap.size w)
 go_wp2_with fail
 refine (O.out.1 _ HB.out).mono ?_
 rintro e w1 ⟨rfl,b⟩
 replace HB:=Ha (HB.out.trans (b.mono HB.out.size));clear b
 go_wp2_with fail
 refine (O.out.2 _ HB.out).mono ?_
 rintro e w2 ⟨rfl,b⟩
 replace HB:=Ha (HB.out.trans (b.mono HB.out.size));clear b
 go_wp2
 go_ret
 exact ⟨rfl,HB.out⟩
theorem wk (n z q r f i t:ByteArray) (g:Bool) (w:World) (s1:f.size≤300) (s2:i.size≤100) (s3:r.size≤100)
  (h1:∀ W,Below w.heap.size w W→Calls Tryz.prog 43 #[.string n,.string ⟨#[45]⟩] W fun e W'=>e = .returned (.tuple #[.string z,.bool g])∧Below W.heap.size W W')
  (h2:∀ W,Below w.heap.size w W→Calls Tryz.prog 52 #[.string z,.string ⟨#[49,50]⟩] W fun e W'=>e = .returned (.tuple #[.string q,.string r,.int .i64 0])∧Below W.heap.size W W')
  (h3:∀ W,Below w.heap.size w W→Calls Tryz.prog 52 #[.string q,.string ⟨#[49,50]⟩] W fun e W'=>e = .returned (.tuple #[.string f,.string i,.int .i64 0])∧Below W.heap.size W W')
  (h4:∀ W,Below w.heap.size w W→Calls Tryz.prog 53 #[.string (f++⟨#[39]⟩++i++⟨#[34]⟩++r),.bool g] W fun e W'=>e = .returned (.string t)∧Below W.heap.size W W')
  : Calls Tryz.prog 20 #[.string n] w fun e W'=>e = .returned (.tuple #[.string t,.int .i64 0])∧Below w.heap.size w W':=by
 have O:=Ha (Hb h1 (Hb h2 (Hb h3 (h4))));clear h1 h2 h3 h4
 have n1:¬ (9223372036854775807:Int)<(f.size:Int)+1:=by omega
 have n2:¬ (9223372036854775807:Int)<(f.size:Int)+1+(i.size:Int):=by omega
 have n3:¬ (9223372036854775807:Int)<(f.size:Int)+1+(i.size:Int)+1:=by omega
 have n4:¬ (9223372036854775807:Int)<(f.size:Int)+1+(i.size:Int)+1+(r.size:Int):=by omega
 have m1:¬ 9223372036854775807<f.size+1:=by omega
 have m2:¬ 9223372036854775807<f.size+1+i.size:=by omega
 have m3:¬ 9223372036854775807<f.size+1+i.size+1:=by omega
 have m4:¬ 9223372036854775807<f.size+1+i.size+1+r.size:=by omega
 clear s1 s2 s3
 go_enter Tryz.func20,Tryz.ntmps20
 have HB:=Ha (Below.refl w.heap.size w)
 go_wp2_with fail
 refine (O.out.1 _ HB.out).mono ?_
 rintro e w1 ⟨rfl,b⟩
 replace HB:=Ha (HB.out.trans (b.mono HB.out.size));clear b
 go_wp2_with fail
 refine (O.out.2.1 _ HB.out).mono ?_
 rintro e w2 ⟨rfl,b⟩
 replace HB:=Ha (HB.out.trans (b.mono HB.out.size));clear b
 go_wp2_with fail
 refine (O.out.2.2.1 _ HB.out).mono ?_
 rintro e w3 ⟨rfl,b⟩
 replace HB:=Ha (HB.out.trans (b.mono HB.out.size));clear b
 go_wp2_with fail
 refine (O.out.2.2.2 _ HB.out).mono ?_
 rintro e w4 ⟨rfl,b⟩
 replace HB:=Ha (HB.out.trans (b.mono HB.out.size));clear b
 go_wp2
 go_ret2
 exact ⟨rfl,HB.out⟩
theorem tG (a u n t:ByteArray) (x:Int) (w:World)
  (h1:∀ W,Below w.heap.size w W→Calls Tryz.prog 17 #[.string a] W fun e W'=>e = .returned (.int .i64 0)∧Below W.heap.size W W')
  (h2:∀ W,Below w.heap.size w W→Calls Tryz.prog 18 #[.string a,.string ⟨#[49,50,55,47,54,48]⟩] W fun e W'=>e = .returned (.tuple #[.string u,.int .i64 0])∧Below W.heap.size W W')
  (h3:∀ W,Below w.heap.size w W→Calls Tryz.prog 19 #[.string u] W fun e W'=>e = .returned (.tuple #[.string n,.int .i64 0])∧Below W.heap.size W W')
  (h4:∀ W,Below w.heap.size w W→Calls Tryz.prog 20 #[.string n] W fun e W'=>e = .returned (.tuple #[.string t,.int .i64 x])∧Below W.heap.size W W')
  : Calls Tryz.prog 6 #[.string a] w fun e W'=>e = .returned (.tuple #[.string t,.int .i64 x])∧Below w.heap.size w W':=by
 have O:=Ha (Hb h1 (Hb h2 (Hb h3 (h4))));clear h1 h2 h3 h4
 go_enter Tryz.func6,Tryz.ntmps6
 have HB:=Ha (Below.refl w.heap.size w)
 go_wp2_with fail
 refine (O.out.1 _ HB.out).mono ?_
 rintro e w1 ⟨rfl,b⟩
 replace HB:=Ha (HB.out.trans (b.mono HB.out.size));clear b
 go_wp2_with fail
 refine (O.out.2.1 _ HB.out).mono ?_
 rintro e w2 ⟨rfl,b⟩
 replace HB:=Ha (HB.out.trans (b.mono HB.out.size));clear b
 go_wp2_with fail
 refine (O.out.2.2.1 _ HB.out).mono ?_
 rintro e w3 ⟨rfl,b⟩
 replace HB:=Ha (HB.out.trans (b.mono HB.out.size));clear b
 go_wp2_with fail
 refine (O.out.2.2.2 _ HB.out).mono ?_
 rintro e w4 ⟨rfl,b⟩
 replace HB:=Ha (HB.out.trans (b.mono HB.out.size));clear b
 go_wp2
 go_ret2
 exact ⟨rfl,HB.out⟩
theorem nY (s n r:ByteArray) (x:Int) (w:World) (s1:¬ (90:Int)<s.size)
  (h1:∀ W,Below w.heap.size w W→Calls Tryz.prog 28 #[.string s] W fun e W'=>e = .returned (.tuple #[.string n,.bool true])∧Below W.heap.size W W')
  (h2:∀ W,Below w.heap.size w W→Calls Tryz.prog 29 #[.string n,.string ⟨#[49,50,55,47,54,48]⟩] W fun e W'=>e = .returned (.tuple #[.string r,.int .i64 x])∧Below W.heap.size W W')
  : Calls Tryz.prog 8 #[.string s] w fun e W'=>e = .returned (.tuple #[.string r,.int .i64 x])∧Below w.heap.size w W':=by
 have O:=Ha (Hb h1 (h2));clear h1 h2
 go_enter Tryz.func8,Tryz.ntmps8
 have HB:=Ha (Below.refl w.heap.size w)
 go_wp2_with fail
 refine (O.out.1 _ HB.out).mono ?_
 rintro e w1 ⟨rfl,b⟩
 replace HB:=Ha (HB.out.trans (b.mono HB.out.size));clear b
 go_wp2_with fail
 refine (O.out.2 _ HB.out).mono ?_
 rintro e w2 ⟨rfl,b⟩
 replace HB:=Ha (HB.out.trans (b.mono HB.out.size));clear b
 go_wp2
 go_ret2
 exact ⟨rfl,HB.out⟩
theorem rP (s n:ByteArray) (w:World) (s1:¬ (90:Int)<s.size)
  (h1:∀ W,Below w.heap.size w W→Calls Tryz.prog 28 #[.string s] W fun e W'=>e = .returned (.tuple #[.string n,.bool false])∧Below W.heap.size W W')
  : Calls Tryz.prog 8 #[.string s] w fun e W'=>e = .returned (.tuple #[.string ⟨#[]⟩,.int .i64 3])∧Below w.heap.size w W':=by
 have O:=Ha (h1);clear h1
 go_enter Tryz.func8,Tryz.ntmps8
 have HB:=Ha (Below.refl w.heap.size w)
 go_wp2_with fail
 refine (O.out _ HB.out).mono ?_
 rintro e w1 ⟨rfl,b⟩
 replace HB:=Ha (HB.out.trans (b.mono HB.out.size));clear b
 go_wp2
 go_ret2
 exact ⟨rfl,HB.out⟩
theorem x6 (n z t r A B:ByteArray) (g:Bool) (p k m:Nat) (w:World) (p0:((p:Int)==0)=false) (pk:k=p+1 - z.size) (pp:p≤1000) (zz:z.size≤1000) (rz:r.size=k) (em:m+p=r.size+z.size) (f2:(r++z).extract 0 m=A) (f3:(r++z).extract m (r++z).size=B) (fs:(r++z).size=r.size+z.size) (sA:A.size≤3000) (sB:B.size≤3000)
  (h1:∀ W,Below w.heap.size w W→Calls Tryz.prog 43 #[.string n,.string ⟨#[45]⟩] W fun e W'=>e = .returned (.tuple #[.string z,.bool g])∧Below W.heap.size W W')
  (h2:∀ j:Int,j=k→∀ W,Below w.heap.size w W→Calls Tryz.prog 79 #[.string ⟨#[48]⟩,.int .i64 j] W fun e W'=>e = .returned (.string r)∧Below W.heap.size W W')
  (h3:∀ W,Below w.heap.size w W→Calls Tryz.prog 53 #[.string (A++⟨#[46]⟩++B),.bool g] W fun e W'=>e = .returned (.string t)∧Below W.heap.size W W')
  : Calls Tryz.prog 41 #[.string n,.int .i64 p] w fun e W'=>e = .returned (.string t)∧Below w.heap.size w W':=by
 have O:=Ha (Hb h1 (Hb h2 (h3)));clear h1 h2 h3
 have hw:wrap64 ((p:Int)+1 - z.size)=p+1 - z.size:=by unfold wrap64;omega
 have n1:¬ (9223372036854775807:Int)<(r.size:Int)+(z.size:Int):=by omega
 have hm:(r.size:Int)+(z.size:Int) - (p:Int)=(m:Int):=by omega
 have g0:(0:Int)≤(m:Int):=by omega
 have g1:(m:Int)≤((r++z).size:Int):=by rw [fs];omega
 have n2:¬ (9223372036854775807:Int)<(A.size:Int)+1:=by omega
 have n3:¬ (9223372036854775807:Int)<(A.size:Int)+1+(B.size:Int):=by omega
 have m2:¬ 9223372036854775807<A.size+1:=by omega
 have m3:¬ 9223372036854775807<A.size+1+B.size:=by omega
 have PK:=Ha pk;have RZ:=Ha rz;clear pk rz em fs sA sB
 go_enter Tryz.func41,Tryz.ntmps41
 have HB:=Ha (Below.refl w.heap.size w)
 go_wp2_with fail
 refine (O.out.1 _ HB.out).mono ?_
 rintro e w1 ⟨rfl,b⟩
 replace HB:=Ha (HB.out.trans (b.mono HB.out.size));clear b
 go_wp2_with fail
 refine (O.out.2.1 _ (by have:=PK.out;omega) _ HB.out).mono ?_
 rintro e w2 ⟨rfl,b⟩
 replace HB:=Ha (HB.out.trans (b.mono HB.out.size));clear b
 go_wp2
 have HD:=Ha HB.out.drew;clear HB;have HB:=HD;clear HD
 generalize r++z=q at *
 go_region_held3 (fun _=>True) (first | trivial | (go_keep;done)) (first | (go_at_call 53;refine Calls.mono (O.out.2.2 _ HB.out) ?_;rintro e w3 ⟨rfl,b⟩;replace HB:=Ha (HB.out.trans (b.mono HB.out.size));clear b))
 go_wp2
 go_ret
 exact ⟨rfl,HB.out⟩
end T
end Go.Proofs.YtocalfjfjjljnaaGreatDoor
