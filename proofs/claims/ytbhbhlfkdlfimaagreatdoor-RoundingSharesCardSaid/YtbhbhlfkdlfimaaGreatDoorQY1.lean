/- Parts of the proofs of the texts YtbhbhlfkdlfimaaGreatDoorQY. -/
import Derived.Shelf.Strings.Builder1
import Derived.Shelf.Strings.Builder2
import Derived.Shelf.Small.Bits
import Derived.Shelf.Small.Strs
import Derived.Shelf.Small.Wraps
import Derived.Shelf.Strings.BuilderF
import Derived.Shelf.Strconv.Itoa0
import Derived.Shelf.Strconv.Itoa1
import Derived.Shelf.LaysM
import Derived.Shelf.Strconv.Itoa2
import Derived.Shelf.Strconv.Itoa3
import Derived.Shelf.Strconv.Itoa4
import Derived.Shelf.Strconv.Clone
import Derived.Shelf.Strconv.SyntaxError
import Derived.Shelf.LaysC
import Derived.Shelf.Strconv.ToError
import Derived.Shelf.Strconv.Lower
import Derived.Shelf.Strconv.ParseUint10
import Derived.Shelf.Strconv.ParseUint10Empty
import Derived.Shelf.Strconv.ParseUint10Any
import Derived.Shelf.Strconv.RangeError
import Derived.Shelf.Strconv.ToErrorRange
import Derived.Shelf.Strconv.ParseUint10b64
import Derived.Ground.MpProg
import Derived.Shelf.Pu.ParseUintPublic10
import Derived.Shelf.Strings.Search1
import Derived.Shelf.Strings.Search2
import Derived.Shelf.Strings.Cut
import Derived.Shelf.Strings.Shaped
import Derived.Shelf.Strconv.AppendUint10
import Derived.Shelf.Strconv.AppendInt10
import Derived.Shelf.Strconv.AppendIntPublic10
import Derived.Shelf.Strings.Prefix
import Derived.Shelf.Bits.Mul64
import Derived.Shelf.Strings.Repeat
import Derived.Shelf.Slices.Equal
import Derived.Ground.SlgnProg
import Derived.Shelf.SlicesE.Equal
import Derived.Test.YtbhbhlfkdlfimaaGreatDoorProg
import Derived.Shelf.SlGeneric
import Derived.Shelf.SlicesE.Clone
import Derived.Shelf.Spec.SlicesGrow
import Derived.Shelf.SlicesQ.IndexFunc
import Derived.Shelf.SlSortCmp.WholeK
import Derived.Ground.SlgfProg
import Derived.Ground.SlsfProg
import Derived.Ground.Names8Prog
import Derived.Test.YtbhbhlfkdlfimaaGreatDoorQX1
import Derived.Test.YtbhbhlfkdlfimaaGreatDoorQX10
import Derived.Test.YtbhbhlfkdlfimaaGreatDoorQX11
import Derived.Test.YtbhbhlfkdlfimaaGreatDoorQX12
import Derived.Test.YtbhbhlfkdlfimaaGreatDoorQX13
import Derived.Test.YtbhbhlfkdlfimaaGreatDoorQX14
import Derived.Test.YtbhbhlfkdlfimaaGreatDoorQX15
import Derived.Test.YtbhbhlfkdlfimaaGreatDoorQX16
import Derived.Test.YtbhbhlfkdlfimaaGreatDoorQX17
import Derived.Test.YtbhbhlfkdlfimaaGreatDoorQX18
import Derived.Test.YtbhbhlfkdlfimaaGreatDoorQX19
import Derived.Test.YtbhbhlfkdlfimaaGreatDoorQX2
import Derived.Test.YtbhbhlfkdlfimaaGreatDoorQX20
import Derived.Test.YtbhbhlfkdlfimaaGreatDoorQX21
import Derived.Test.YtbhbhlfkdlfimaaGreatDoorQX22
import Derived.Test.YtbhbhlfkdlfimaaGreatDoorQX23
import Derived.Test.YtbhbhlfkdlfimaaGreatDoorQX24
import Derived.Test.YtbhbhlfkdlfimaaGreatDoorQX25
import Derived.Test.YtbhbhlfkdlfimaaGreatDoorQX3
import Derived.Test.YtbhbhlfkdlfimaaGreatDoorQX4
import Derived.Test.YtbhbhlfkdlfimaaGreatDoorQX5
import Derived.Test.YtbhbhlfkdlfimaaGreatDoorQX6
import Derived.Test.YtbhbhlfkdlfimaaGreatDoorQX7
import Derived.Test.YtbhbhlfkdlfimaaGreatDoorQX8
import Derived.Test.YtbhbhlfkdlfimaaGreatDoorQX9
set_option linter.all false
set_option maxRecDepth 100000
set_option maxHeartbeats 8000000
namespace Go.Proofs
open Go.Shelf
def Tryz.lays111_ren:Go.Shelf.Ren:=⟨fun | 111=>19 | n=>n,fun | 28=>25 | 3=>3 | 4=>4 | 0=>0 | n=>n,fun | n=>n⟩
theorem Tryz.lays111:Go.Proofs.Lays.n111 Tryz.prog Tryz.lays111_ren:={
 mixed:=by kernel_rfl
 f111:=Tryz.func19.trans (congrArg some (by kernel_rfl))
 t0:=Tryz.underlying0
 a0:=Tryz.isAgg0
 z0:=Tryz.sizeOf0
 v0:=Tryz.zeroValue0
 t3:=Tryz.underlying3
 a3:=Tryz.isAgg3
 z3:=Tryz.sizeOf3
 v3:=Tryz.zeroValue3
 t4:=Tryz.underlying4
 a4:=Tryz.isAgg4
 z4:=Tryz.sizeOf4
 v4:=Tryz.zeroValue4
 t28:=Tryz.underlying25
 a28:=Tryz.isAgg25
 z28:=Tryz.sizeOf25
 v28:=Tryz.zeroValue25 }
open Go.RowKit Go.Lib in
theorem Tryz.slices_Equal_int (b1 o1 n c b2 o2 m d:Nat) (xs ys:List Int) (w:World) (hx:n≤xs.length) (hy:m≤ys.length) (hbig:n≤9223372036854775807) (hbig2:m≤9223372036854775807) (hc1:∀ j,j<xs.length→w.cell? ⟨b1,o1+j,none⟩=some (.int .i64 (xs.getD j 0))) (hc2:∀ j,j<ys.length→w.cell? ⟨b2,o2+j,none⟩=some (.int .i64 (ys.getD j 0))) :
  Calls Tryz.prog 19 #[.slice (some ⟨b1,o1,none⟩) n c,.slice (some ⟨b2,o2,none⟩) m d] w fun e w'=>e = .returned (.bool (xs.take n==ys.take m))∧∃ q,w'=w.drewN q:=Any.slices_Equal_int Tryz.lays111 b1 o1 n c b2 o2 m d xs ys w hx hy hbig hbig2 hc1 hc2
end Go.Proofs
namespace Go.Proofs.YtbhbhlfkdlfimaaGreatDoor.T
open Go.Proofs.YtbhbhlfkdlfimaaGreatDoor
theorem CQ.ten {z:Rat} {c c':Nat} (h:CQ z c) (h':CQ (100*z) c'):c'≤10*c:=by
 refine h'.2 _ ?_
 have a:=Rat.mul_le_mul_of_nonneg_left (c:=100) h.1 (by decide)
 have e:(((10*c)*(10*c):Nat):Rat)=100*((c*c:Nat):Rat):=by
  rw [show (10*c)*(10*c)=100*(c*c) from by rw [Nat.mul_mul_mul_comm],Rat.natCast_mul];rfl
 rwa [e]
theorem RQ.ten {z:Rat} {r r':Nat} (h:RQ z r) (h':RQ (100*z) r'):10*r≤r':=by
 have a:=Rat.mul_le_mul_of_nonneg_left (c:=100) h.1 (by decide)
 have e:(((10*r)*(10*r):Nat):Rat)=100*((r*r:Nat):Rat):=by
  rw [show (10*r)*(10*r)=100*(r*r) from by rw [Nat.mul_mul_mul_comm],Rat.natCast_mul];rfl
 rw [←e] at a
 have:=Rat.natCast_lt_natCast.1 (Std.lt_of_le_of_lt a h'.2)
 rcases Nat.lt_or_ge r' (10*r) with l | l
 ·exact absurd (Nat.mul_self_le_mul_self (show r'+1≤10*r from l)) (by omega)
 ·exact l
end Go.Proofs.YtbhbhlfkdlfimaaGreatDoor.T
namespace Go.Proofs.YtbhbhlfkdlfimaaGreatDoor.T
open Go.Proofs.YtbhbhlfkdlfimaaGreatDoor Go Go.RowKit
theorem Ev (s:ByteArray) (w:World) (h:(s.toList == [48])=false) :
  Calls Tryz.prog 121 #[.string s] w fun e W'=>∃ b,e = .returned (.slice (some ⟨b,0,none⟩) 1 1)∧Blk W' b #[.string s,.string ⟨#[49]⟩]∧Below w.heap.size w W':=by
 go_enter Tryz.func121,Tryz.ntmps121
 go_wp2
 go_ret
 exact ⟨_,rfl,Blk.new w _ _,(Below.refl _ w).alloc (Nat.le_refl _) _⟩
theorem GK (s:ByteArray) (w:World):Calls Tryz.prog 221 #[.string s] w fun e W'=>e = .returned (.bool (aw s.data.toList))∧Below w.heap.size w W':=by
 have c:=fun W=>Tryz.strings_HasPrefix s ⟨#[45]⟩ W
 rw [show (⟨#[45]⟩:ByteArray).data.toList = [45] from rfl,iE] at c
 have C:=Ha c;clear c
 generalize aw s.data.toList=b at *
 go_enter Tryz.func221,Tryz.ntmps221
 go_wp2_with fail
 refine (C.out _).mono ?_
 rintro e w1 ⟨rfl,rfl⟩
 go_wp2
 go_ret
 exact ⟨rfl,Below.refl _ _⟩
theorem ePl (n:Nat) (w:World) (h:n≤40):Calls Tryz.prog 71 #[.int .i64 n] w fun e W'=>e = .returned (.bool true)∧Below w.heap.size w W':=by
 have h1:(0:Int)≤n:=by omega
 have h2:(n:Int)≤40:=by omega
 clear h
 go_enter Tryz.func71,Tryz.ntmps71
 go_wp2
 go_ret
 exact ⟨rfl,Below.refl _ _⟩
theorem Ew (w:World):Calls Tryz.prog 73 #[.int .i64 0] w fun e W'=>e = .returned (.string ⟨#[49]⟩)∧Below w.heap.size w W':=by
 go_enter Tryz.func73,Tryz.ntmps73
 go_wp2
 go_ret
 exact ⟨rfl,Below.refl _ _⟩
theorem xn (n:Nat) (rp:ByteArray) (w:World) (h:0<n) (hz:rp.size≤1000)
  (h1:∀ W,Below w.heap.size w W→Calls Tryz.prog 123 #[.string ⟨#[48]⟩,.int .i64 n] W fun e W'=>e = .returned (.string rp)∧Below W.heap.size W W') :
  Calls Tryz.prog 73 #[.int .i64 n] w fun e W'=>e = .returned (.string (⟨#[49,47,49]⟩++rp))∧Below w.heap.size w W':=by
 have O:=Ha h1;clear h1
 have n1:((n:Int)==0)=false:=by simp;omega
 have n2:¬ (n:Int)=0:=by omega
 have n3:¬ (9223372036854775807:Int)<3+(rp.size:Int):=by omega
 clear h hz
 go_enter Tryz.func73,Tryz.ntmps73
 go_wp2_with fail
 refine (O.out _ (Below.refl _ _)).mono ?_
 rintro e w1 ⟨rfl,b⟩
 have B1:=Ha b;clear b
 go_wp2
 go_ret
 exact ⟨rfl,B1.out⟩
theorem vv (b n c:Nat) (cs rs ns ds ts:Nat→ByteArray) (w:World) (h100:n≤100) (hb:b<w.heap.size)
  (hc:∀ j,j<n→w.cell? ⟨b,j*2,none⟩=some (.string (cs j))∧w.cell? ⟨b,j*2+1,none⟩=some (.string (rs j)))
  (hp:∀ j,j<n→∀ W,Below w.heap.size w W→Calls Tryz.prog 13 #[.string (cs j)] W fun e W'=>e = .returned (.tuple #[.string (ns j),.string (ds j),.int .i64 0])∧Below W.heap.size W W')
  (ht:∀ j,j<n→∀ W,Calls Tryz.prog 177 #[.string (ns j),.string ⟨#[45]⟩] W fun e W'=>e = .returned (.string (ts j))∧W=W')
  (hs:∀ j,j<n→(ts j).size≤20∧(ds j).size≤20) :
  Calls Tryz.prog 118 #[.slice (some ⟨b,0,none⟩) n c] w fun e W'=>e = .returned (.bool true)∧Below w.heap.size w W':=by
 have O:=Ha (Hb hc (Hb hp (Hb ht hs)));clear hc hp ht hs
 go_enter Tryz.func118,Tryz.ntmps118
 go_wp2
 go_loopw [10] (fun i wr=>∃ j:Nat,i = .int .i64 j∧j≤n∧Hid (Below w.heap.size w wr)) (fun i _=>n - (intOf i).toNat)
 case atStart=>exact ⟨0,rfl,by omega,Below.refl _ _⟩
 case round =>
  obtain ⟨j,rfl,hj,HB⟩:=hrel
  by_cases hlt:j<n
  ·have hz:(j:Int)<n:=by omega
   have d0:=(HB.out.cell (p:=⟨b,j*2,none⟩) hb).trans (O.out.1 j hlt).1
   have d1:=(HB.out.cell (p:=⟨b,j*2+1,none⟩) hb).trans (O.out.1 j hlt).2
   have hp:=Ha (O.out.2.1 j hlt)
   have ht:=Ha (O.out.2.2.1 j hlt)
   have hs:=O.out.2.2.2 j hlt
   have s1:¬ (20:Int)<(ts j).size:=by omega
   have s2:¬ (20:Int)<(ds j).size:=by omega
   clear hs
   generalize cs j=cj at *
   generalize rs j=rj at *
   generalize ns j=nj at *
   generalize ds j=dj at *
   generalize ts j=tj at *
   go_wp2_with fail
   have HN:=Ha (Hb (Blk.new wr #[.string cj,.string rj] 43) (HB.out.alloc HB.out.size (.cells #[.string cj,.string rj] 43)))
   clear HB;have HB:=HN;clear HN
   generalize wr.alloc (.cells #[.string cj,.string rj] 43)=u at *
   generalize wr.heap.size=k at *
   clear d0 d1
   have e0:=HB.out.1.cell 0 (.string cj) rfl;have e1:=HB.out.1.cell 1 (.string rj) rfl
   go_wp2_with fail
   refine (hp.out _ HB.out.2).mono ?_
   rintro e w2 ⟨rfl,b2⟩
   replace HB:=Ha (HB.out.2.trans (b2.mono HB.out.2.size));clear b2 e0 e1
   go_wp2_with fail
   refine (ht.out _).mono ?_
   rintro e w3 ⟨rfl,rfl⟩
   go_wp2
   go_roundw
   case rel=>exact ⟨j+1,by go_num,by omega,HB.out⟩
   case measure=>simp [intOf];omega
  ·have ej:j=n:=by omega
   have hz:¬ (j:Int)<n:=by omega
   go_wp2
   go_ret
   exact ⟨rfl,HB.out⟩
theorem vw (b:Nat) (p:Option Addr) (n c:Nat) (w:World) (hb:Blk w b #[.slice p n c])
  (h1:∀ W,Below w.heap.size w W→Calls Tryz.prog 113 #[.slice p n c] W fun e W'=>e = .returned (.int .i64 0)∧Below W.heap.size W W')
  (h2:∀ W,Below w.heap.size w W→Calls Tryz.prog 118 #[.slice p n c] W fun e W'=>e = .returned (.bool true)∧Below W.heap.size W W') :
  Calls Tryz.prog 70 #[.slice (some ⟨b,0,none⟩) 1 1] w fun e W'=>e = .returned (.int .i64 0)∧Below w.heap.size w W':=by
 have O:=Ha (Hb h1 h2);clear h1 h2
 have HK:=Ha hb;clear hb
 have HB:=Ha (Below.refl w.heap.size w)
 go_enter Tryz.func70,Tryz.ntmps70
 go_wp2
 go_loopw [9] (fun i wr=>∃ j:Nat,i = .int .i64 j∧j≤1∧Hid (Below w.heap.size w wr)) (fun i _=>1 - (intOf i).toNat)
 case atStart=>exact ⟨0,rfl,by omega,HB⟩
 case round =>
  clear HB
  obtain ⟨j,rfl,hj,HB⟩:=hrel
  by_cases hlt:j<1
  ·obtain rfl:j=0:=by omega
   have d0:=(HB.out.cell (p:=⟨b,0,none⟩) HK.out.lt).trans (HK.out.cell 0 _ rfl)
   go_wp2_with fail
   refine (O.out.1 _ HB.out).mono ?_
   rintro e v1 ⟨rfl,b1⟩
   replace HB:=Ha (HB.out.trans (b1.mono HB.out.size));clear b1
   go_wp2
   go_roundw
   case rel=>exact ⟨1,rfl,by omega,HB⟩
   case measure=>simp [intOf]
  ·have hz:¬ (j:Int)<1:=by omega
   go_wp2
   go_loopw [19] (fun i wr=>∃ m:Nat,i = .int .i64 m∧m≤1∧Hid (Below w.heap.size w wr)) (fun i _=>1 - (intOf i).toNat)
   case atStart=>exact ⟨0,rfl,by omega,HB⟩
   case round =>
    clear HB
    obtain ⟨m,rfl,hj,HB⟩:=hrel
    by_cases hlt:m<1
    ·obtain rfl:m=0:=by omega
     have d0:=(HB.out.cell (p:=⟨b,0,none⟩) HK.out.lt).trans (HK.out.cell 0 _ rfl)
     go_wp2_with fail
     refine (O.out.2 _ HB.out).mono ?_
     rintro e v1 ⟨rfl,b1⟩
     replace HB:=Ha (HB.out.trans (b1.mono HB.out.size));clear b1
     go_wp2
     go_roundw
     case rel=>exact ⟨1,rfl,by omega,HB⟩
     case measure=>simp [intOf]
    ·have hz:¬ (m:Int)<1:=by omega
     go_wp2
     go_ret
     exact ⟨rfl,HB.out⟩
theorem CY (c r s1 s2 lo hi m:ByteArray) (pl:Int) (ng:Bool) (w:World)
  (o1:∀ W,Below w.heap.size w W→Calls Tryz.prog 10 #[.string c,.string c] W fun e W'=>e = .returned (.tuple #[.string s1,.int .i64 0])∧Below W.heap.size W W')
  (o2:∀ W,Below w.heap.size w W→Calls Tryz.prog 10 #[.string s1,.string r] W fun e W'=>e = .returned (.tuple #[.string s2,.int .i64 0])∧Below W.heap.size W W')
  (o3:∀ W,Below w.heap.size w W→Calls Tryz.prog 220 #[.string s2,.int .i64 pl] W fun e W'=>e = .returned (.tuple #[.agg #[.string lo,.string hi],.int .i64 0])∧Below W.heap.size W W')
  (o4:∀ W,Below w.heap.size w W→Calls Tryz.prog 221 #[.string c] W fun e W'=>e = .returned (.bool ng)∧Below W.heap.size W W')
  (o5:ng=true→∀ W,Below w.heap.size w W→Calls Tryz.prog 122 #[.string ⟨#[48]⟩,.string lo] W fun e W'=>e = .returned (.tuple #[.string m,.int .i64 0])∧Below W.heap.size W W') :
  Calls Tryz.prog 178 #[.agg #[.string c,.string r],.int .i64 pl] w fun e W'=>e = .returned (.string (if ng then m else hi))∧Below w.heap.size w W':=by
 have O:=Ha (Hb o1 (Hb o2 (Hb o3 (Hb o4 o5))));clear o1 o2 o3 o4 o5
 go_enter Tryz.func178,Tryz.ntmps178
 go_wp2_with fail
 have HB:=Ha (Hb (Blk.new w #[.string c,.string r] 43) ((Below.refl _ w).alloc (Nat.le_refl _) (.cells #[.string c,.string r] 43)))
 generalize w.alloc (.cells #[.string c,.string r] 43)=W0 at *
 generalize hk:w.heap.size=k at *
 have HK:=Ha hk;clear hk
 have e0:=HB.out.1.cell 0 (.string c) rfl;have e1:=HB.out.1.cell 1 (.string r) rfl
 refine (O.out.1 _ HB.out.2).mono ?_
 rintro e v1 ⟨rfl,b⟩
 replace HB:=Ha (Hb (HB.out.1.next b) (HB.out.2.trans (b.mono (Nat.le_of_lt HB.out.1.lt))));clear b e0 e1;have e0:=HB.out.1.cell 0 (.string c) rfl;have e1:=HB.out.1.cell 1 (.string r) rfl
 go_wp2_with fail
 refine (O.out.2.1 _ HB.out.2).mono ?_
 rintro e v2 ⟨rfl,b⟩
 replace HB:=Ha (Hb (HB.out.1.next b) (HB.out.2.trans (b.mono (Nat.le_of_lt HB.out.1.lt))));clear b e0 e1;have e0:=HB.out.1.cell 0 (.string c) rfl;have e1:=HB.out.1.cell 1 (.string r) rfl
 go_wp2_with fail
 refine (O.out.2.2.1 _ HB.out.2).mono ?_
 rintro e v3 ⟨rfl,b⟩
 replace HB:=Ha (Hb (HB.out.1.next b) (HB.out.2.trans (b.mono (Nat.le_of_lt HB.out.1.lt))));clear b e0 e1;have e0:=HB.out.1.cell 0 (.string c) rfl;have e1:=HB.out.1.cell 1 (.string r) rfl
 have kn:k<v3.heap.size:=HB.out.1.lt
 have km:k≠v3.heap.size:=Nat.ne_of_lt kn
 go_wp2_with fail
 replace HB:=Ha (Hb (HB.out.1.alloc (.cells #[.string lo,.string hi] 60)) (Hb (Blk.new v3 #[.string lo,.string hi] 60) (HB.out.2.alloc (Nat.le_of_lt HB.out.1.lt) (.cells #[.string lo,.string hi] 60))));clear e0 e1 kn km
 generalize v3.alloc (.cells #[.string lo,.string hi] 60)=v4 at *
 generalize v3.heap.size=m1 at *
 have e0:=HB.out.1.cell 0 (.string c) rfl
 have g0:=HB.out.2.1.cell 0 (.string lo) rfl
 have g1:=HB.out.2.1.cell 1 (.string hi) rfl
 go_wp2_with fail
 refine (O.out.2.2.2.1 _ HB.out.2.2).mono ?_
 rintro e v5 ⟨rfl,b⟩
 replace HB:=Ha (Hb (HB.out.2.1.next b) (HB.out.2.2.trans (b.mono (Nat.le_of_lt HB.out.1.lt))));clear b e0 g0 g1
 have g0:=HB.out.1.cell 0 (.string lo) rfl
 have g1:=HB.out.1.cell 1 (.string hi) rfl
 cases ng
 ·go_wp2
  go_ret
  have hb:=HB.out.2
  rw [←HK.out] at hb
  exact ⟨rfl,hb⟩
 ·have OO:=Ha (O.out.2.2.2.2 rfl);clear O
  go_wp2_with fail
  refine (OO.out _ HB.out.2).mono ?_
  rintro e v6 ⟨rfl,b⟩
  have HN:=HB.out.2.trans (b.mono (Nat.le_trans (by rw [HK.out];exact Nat.le_refl _) HB.out.2.size))
  rw [←HK.out] at HN
  have HN:=Ha HN
  go_wp2
  go_ret
  exact ⟨rfl,HN.out⟩
theorem xo (b n c pl:Nat) (un:ByteArray) (cs rs ds ss:Nat→ByteArray) (q f m:ByteArray) (w:World) (h100:n≤100) (hpl:pl≤40) (h0:ss 0=⟨#[48]⟩) (hb:b<w.heap.size)
  (hc:∀ j,j<n→w.cell? ⟨b,j*2,none⟩=some (.string (cs j))∧w.cell? ⟨b,j*2+1,none⟩=some (.string (rs j)))
  (hr:∀ j,j<n→∀ W,Below w.heap.size w W→Calls Tryz.prog 178 #[.agg #[.string (cs j),.string (rs j)],.int .i64 ((pl:Int)+2)] W fun e W'=>e = .returned (.string (ds j))∧Below W.heap.size W W')
  (hp:∀ j,j<n→∀ W,Below w.heap.size w W→Calls Tryz.prog 9 #[.string (ss j),.string (ds j)] W fun e W'=>e = .returned (.tuple #[.string (ss (j+1)),.int .i64 0])∧Below W.heap.size W W')
  (hd:∀ W,Below w.heap.size w W→Calls Tryz.prog 11 #[.string (ss n),.string un] W fun e W'=>e = .returned (.tuple #[.string q,.int .i64 0])∧Below W.heap.size W W')
  (hf:∀ W,Below w.heap.size w W→Calls Tryz.prog 179 #[.string q] W fun e W'=>e = .returned (.tuple #[.string f,.int .i64 0])∧Below W.heap.size W W')
  (hm:∀ W,Below w.heap.size w W→Calls Tryz.prog 10 #[.string f,.string un] W fun e W'=>e = .returned (.tuple #[.string m,.int .i64 0])∧Below W.heap.size W W') :
  Calls Tryz.prog 119 #[.slice (some ⟨b,0,none⟩) n c,.int .i64 pl,.string un] w fun e W'=>e = .returned (.string m)∧Below w.heap.size w W':=by
 have O:=Ha (Hb hc (Hb hr (Hb hp (Hb hd (Hb hf hm)))));clear hc hr hp hd hf hm
 have hw:IntKind.i64.wrap ((pl:Int)+2)=(pl:Int)+2:=by rw [IntKind.wrap_i64];omega
 clear hpl
 go_enter Tryz.func119,Tryz.ntmps119
 go_wp2
 go_loopw [7,16] (fun s i wr=>∃ j:Nat,s = .string (ss j)∧i = .int .i64 j∧j≤n∧Hid (Below w.heap.size w wr)) (fun _ i _=>n - (intOf i).toNat)
 case atStart=>exact ⟨0,by rw [h0],rfl,by omega,Below.refl _ _⟩
 case round =>
  obtain ⟨j,rfl,rfl,hj,HB⟩:=hrel
  by_cases hlt:j<n
  ·have hz:(j:Int)<n:=by omega
   have d0:=(HB.out.cell (p:=⟨b,j*2,none⟩) hb).trans (O.out.1 j hlt).1
   have d1:=(HB.out.cell (p:=⟨b,j*2+1,none⟩) hb).trans (O.out.1 j hlt).2
   have hr:=Ha (O.out.2.1 j hlt)
   have hp:=Ha (O.out.2.2.1 j hlt)
   clear h0
   generalize cs j=cj at *
   generalize rs j=rj at *
   generalize ds j=dj at *
   generalize hsj:ss j=sj at *
   generalize hsk:ss (j+1)=sk at *
   have HS:=Ha hsk;clear hsk hsj
   go_wp2_with fail
   have HN:=Ha (Hb (Blk.new wr #[.string cj,.string rj] 43) (HB.out.alloc HB.out.size (.cells #[.string cj,.string rj] 43)))
   clear HB;have HB:=HN;clear HN
   generalize wr.alloc (.cells #[.string cj,.string rj] 43)=u at *
   generalize wr.heap.size=k at *
   clear d0 d1
   have e0:=HB.out.1.cell 0 (.string cj) rfl;have e1:=HB.out.1.cell 1 (.string rj) rfl
   go_wp2_with fail
   refine (hr.out _ HB.out.2).mono ?_
   rintro e w2 ⟨rfl,b2⟩
   replace HB:=Ha (HB.out.2.trans (b2.mono HB.out.2.size));clear b2 e0 e1
   go_wp2_with fail
   refine (hp.out _ HB.out).mono ?_
   rintro e w3 ⟨rfl,b3⟩
   replace HB:=Ha (HB.out.trans (b3.mono HB.out.size));clear b3
   go_wp2
   go_roundw
   case rel=>exact ⟨j+1,by rw [HS.out],by go_num,by omega,HB.out⟩
   case measure=>simp [intOf];omega
  ·have ej:j=n:=by omega
   rw [ej]
   clear hlt hj h0 ej
   have hz:¬ (n:Int)<n:=by omega
   go_wp2_with fail
   refine (O.out.2.2.2.1 _ HB.out).mono ?_
   rintro e w2 ⟨rfl,b2⟩
   replace HB:=Ha (HB.out.trans (b2.mono HB.out.size));clear b2
   go_wp2_with fail
   refine (O.out.2.2.2.2.1 _ HB.out).mono ?_
   rintro e w3 ⟨rfl,b3⟩
   replace HB:=Ha (HB.out.trans (b3.mono HB.out.size));clear b3
   go_wp2_with fail
   refine (O.out.2.2.2.2.2 _ HB.out).mono ?_
   rintro e w4 ⟨rfl,b3⟩
   replace HB:=Ha (HB.out.trans (b3.mono HB.out.size));clear b3
   go_wp2
   go_ret
   exact ⟨rfl,HB.out⟩
theorem vy (p:Option Addr) (n c:Nat) (pl:Nat) (un lo hi:ByteArray) (o2:Int) (P1 P2:Value→World→Prop) (w:World)
  (h1:∀ W,Below w.heap.size w W→Calls Tryz.prog 119 #[.slice p n c,.int .i64 pl,.string un] W fun e W'=>e = .returned (.string lo)∧Below W.heap.size W W')
  (h2:∀ W,Below w.heap.size w W→Calls Tryz.prog 121 #[.string lo] W fun e W'=>∃ v,e = .returned v∧P1 v W'∧Below W.heap.size W W')
  (h3:∀ v W,P1 v W→Below w.heap.size w W→Calls Tryz.prog 120 #[v,.slice p n c] W fun e W'=>e = .returned (.tuple #[.int .i64 (-1),.int .i64 0])∧Below W.heap.size W W')
  (h4:∀ W,Below w.heap.size w W→Calls Tryz.prog 9 #[.string lo,.string un] W fun e W'=>e = .returned (.tuple #[.string hi,.int .i64 0])∧Below W.heap.size W W')
  (h5:∀ W,Below w.heap.size w W→Calls Tryz.prog 121 #[.string hi] W fun e W'=>∃ v,e = .returned v∧P2 v W'∧Below W.heap.size W W')
  (h6:∀ v W,P2 v W→Below w.heap.size w W→Calls Tryz.prog 120 #[v,.slice p n c] W fun e W'=>e = .returned (.tuple #[.int .i64 o2,.int .i64 0])∧Below W.heap.size W W') :
  Calls Tryz.prog 72 #[.slice p n c,.int .i64 pl,.string un] w fun e W'=>e = .returned (.tuple #[.agg #[.string lo,.string hi],.int .i64 0])∧Below w.heap.size w W':=by
 have O:=Ha (Hb h1 (Hb h2 (Hb h3 (Hb h4 (Hb h5 h6)))));clear h1 h2 h3 h4 h5 h6
 go_enter Tryz.func72,Tryz.ntmps72
 go_wp2_with fail
 have HB:=Ha (Hb (Blk.new w #[.string ⟨#[]⟩,.string ⟨#[]⟩] 60) ((Below.refl _ w).alloc (Nat.le_refl _) (.cells #[.string ⟨#[]⟩,.string ⟨#[]⟩] 60)))
 generalize w.alloc (.cells #[.string ⟨#[]⟩,.string ⟨#[]⟩] 60)=W0 at *
 generalize hk:w.heap.size=k at *
 have HK:=Ha hk;clear hk
 refine (O.out.1 _ HB.out.2).mono ?_
 rintro e v1 ⟨rfl,b⟩
 replace HB:=Ha (Hb (HB.out.1.next b) (HB.out.2.trans (b.mono (Nat.le_of_lt HB.out.1.lt))));clear b
 go_wp2_with fail
 refine (O.out.2.1 _ HB.out.2).mono ?_
 rintro e v2 ⟨x1,rfl,p1,b⟩
 have HP:=Ha p1;clear p1
 replace HB:=Ha (Hb (HB.out.1.next b) (HB.out.2.trans (b.mono (Nat.le_of_lt HB.out.1.lt))));clear b
 go_wp2_with fail
 refine (O.out.2.2.1 _ _ HP.out HB.out.2).mono ?_
 rintro e v3 ⟨rfl,b⟩
 replace HB:=Ha (Hb (HB.out.1.next b) (HB.out.2.trans (b.mono (Nat.le_of_lt HB.out.1.lt))));clear b HP
 go_wp2_with fail
 have km:k<v3.heap.size:=HB.out.1.lt
 replace HB:=Ha (Hb (HB.out.1.alloc (.cells #[.string lo,.string lo] 60)) (Hb (Blk.new v3 #[.string lo,.string lo] 60) (HB.out.2.alloc (Nat.le_of_lt km) (.cells #[.string lo,.string lo] 60))))
 generalize v3.alloc (.cells #[.string lo,.string lo] 60)=v4 at *
 generalize v3.heap.size=m at *
 refine (O.out.2.2.2.1 _ HB.out.2.2).mono ?_
 rintro e v5 ⟨rfl,b⟩
 replace HB:=Ha (Hb (HB.out.1.next b) (Hb (HB.out.2.1.next b) (HB.out.2.2.trans (b.mono (Nat.le_of_lt HB.out.1.lt)))));clear b
 have r1:=HB.out.2.1.cell 1 (.string lo) rfl
 have q1:=HB.out.2.1.free 1
 go_wp2_with fail
 replace HB:=Ha (Hb (HB.out.1.other (p:=⟨m,1,none⟩) (Nat.ne_of_lt km) (.string hi)) (Hb (show Blk _ m #[.string lo,.string hi] from HB.out.2.1.set 1 (.string hi)) (HB.out.2.2.setCell (p:=⟨m,1,none⟩) (Nat.le_of_lt km) (.string hi))));clear r1 q1
 generalize v5.setCell ⟨m,1,none⟩ (.string hi)=v6 at *
 refine (O.out.2.2.2.2.1 _ HB.out.2.2).mono ?_
 rintro e v7 ⟨x2,rfl,p1,b⟩
 have HP:=Ha p1;clear p1
 replace HB:=Ha (Hb (HB.out.1.next b) (Hb (HB.out.2.1.next b) (HB.out.2.2.trans (b.mono (Nat.le_of_lt HB.out.1.lt)))));clear b
 go_wp2_with fail
 refine (O.out.2.2.2.2.2 _ _ HP.out HB.out.2.2).mono ?_
 rintro e v8 ⟨rfl,b⟩
 replace HB:=Ha (Hb (HB.out.1.next b) (Hb (HB.out.2.1.next b) (HB.out.2.2.trans (b.mono (Nat.le_of_lt HB.out.1.lt)))));clear b HP
 have r0:=HB.out.2.1.cell 0 (.string lo) rfl
 have r1:=HB.out.2.1.cell 1 (.string hi) rfl
 have t0:=HB.out.1.cell 0 (.string ⟨#[]⟩) rfl
 have t1:=HB.out.1.cell 1 (.string ⟨#[]⟩) rfl
 have f0:=HB.out.1.free 0
 have f1:=HB.out.1.free 1
 go_wp2
 have g:=HB.out.1.put2 (.string lo) (.string hi)
 have g0:=g.cell 0 (.string lo) rfl
 have g1:=g.cell 1 (.string hi) rfl
 refine bodyPost_ret (v := .tuple #[.agg #[.string lo,.string hi],.int .i64 0]) (by simp [results,Tryz.results72,go_sem,g0,g1]) rfl ?_
 refine ⟨rfl,?_⟩
 rw [HK.out]
 exact bi HB.out.2.2 (l:=k) (Nat.le_refl _) (.string lo) (.string hi)
theorem CZ (q:Option Addr) (n c:Nat) (p:Nat) (un:ByteArray) (lo hi:ByteArray) (w:World) (hp:p≤40)
  (h1:∀ d W,Blk W d #[.slice q n c]→Below w.heap.size w W→Calls Tryz.prog 70 #[.slice (some ⟨d,0,none⟩) 1 1] W fun e W'=>e = .returned (.int .i64 0)∧Below W.heap.size W W')
  (h2:∀ W,Below w.heap.size w W→Calls Tryz.prog 73 #[.int .i64 p] W fun e W'=>e = .returned (.string un)∧Below W.heap.size W W')
  (h3:∀ W,Below w.heap.size w W→Calls Tryz.prog 72 #[.slice q n c,.int .i64 p,.string un] W fun e W'=>e = .returned (.tuple #[.agg #[.string lo,.string hi],.int .i64 0])∧Below W.heap.size W W') :
  Calls Tryz.prog 28 #[.slice q n c,.int .i64 p] w fun e W'=>e = .returned (.tuple #[.agg #[.string lo,.string hi],.int .i64 0])∧Below w.heap.size w W':=by
 have h4:=fun W=>ePl p W hp
 have O:=Ha (Hb h1 (Hb h2 (Hb h3 h4)));clear h1 h2 h3 h4 hp
 go_enter Tryz.func28,Tryz.ntmps28
 go_wp2_with fail
 have K0:=(Blk.new w #[.string ⟨#[]⟩,.string ⟨#[]⟩] 60).alloc (.cells #[.slice q n c] 45)
 have H0:=(Below.refl _ w).alloc (Nat.le_refl _) (.cells #[.string ⟨#[]⟩,.string ⟨#[]⟩] 60)
 have HB:=Ha (Hb K0 (H0.alloc H0.size (.cells #[.slice q n c] 45)));clear H0 K0
 have K:=Blk.new (w.alloc (.cells #[.string ⟨#[]⟩,.string ⟨#[]⟩] 60)) #[.slice q n c] 45
 rw [World.size_alloc] at K
 generalize (w.alloc (.cells #[.string ⟨#[]⟩,.string ⟨#[]⟩] 60)).alloc (.cells #[.slice q n c] 45)=W0 at *
 generalize hk:w.heap.size=k at *
 have HK:=Ha hk;clear hk
 refine (O.out.1 _ _ K HB.out.2).mono ?_
 rintro e w1 ⟨rfl,b⟩
 replace HB:=Ha (Hb (HB.out.1.next b) (HB.out.2.trans (b.mono (Nat.le_of_lt HB.out.1.lt))));clear b K
 go_wp2_with fail
 refine (O.out.2.2.2 _).mono ?_
 rintro e w1 ⟨rfl,b⟩
 replace HB:=Ha (Hb (HB.out.1.next b) (HB.out.2.trans (b.mono (Nat.le_of_lt HB.out.1.lt))));clear b
 go_wp2_with fail
 refine (O.out.2.1 _ HB.out.2).mono ?_
 rintro e w1 ⟨rfl,b⟩
 replace HB:=Ha (Hb (HB.out.1.next b) (HB.out.2.trans (b.mono (Nat.le_of_lt HB.out.1.lt))));clear b
 go_wp2_with fail
 refine (O.out.2.2.1 _ HB.out.2).mono ?_
 rintro e w1 ⟨rfl,b⟩
 replace HB:=Ha (Hb (HB.out.1.next b) (HB.out.2.trans (b.mono (Nat.le_of_lt HB.out.1.lt))));clear b
 have t0:=HB.out.1.cell 0 (.string ⟨#[]⟩) rfl
 have t1:=HB.out.1.cell 1 (.string ⟨#[]⟩) rfl
 have f0:=HB.out.1.free 0
 have f1:=HB.out.1.free 1
 go_wp2
 have g:=HB.out.1.put2 (.string lo) (.string hi)
 have g0:=g.cell 0 (.string lo) rfl
 have g1:=g.cell 1 (.string hi) rfl
 refine bodyPost_ret (v := .tuple #[.agg #[.string lo,.string hi],.int .i64 0]) (by simp [results,Tryz.results28,go_sem,g0,g1]) rfl ?_
 refine ⟨rfl,?_⟩
 rw [HK.out]
 exact bi HB.out.2 (l:=k) (Nat.le_refl _) (.string lo) (.string hi)
theorem C5 {k:Nat} {x:Rat} (h:Bq k x) (hk:1≤k):Bq k ((x.num.fdiv x.den:Int):Rat):=by
 refine wc hk (Nat.lt_of_le_of_lt ?_ h.1)
 rw [Int.fdiv_eq_ediv_of_nonneg _ (by omega)]
 exact Int.natAbs_ediv_le_natAbs _ _
theorem An (l:List Tm) (b n c:Nat) (w:World) (hn:n=l.length) (h100:n≤100) (tl:Tl w b l) (hB:∀ t∈l,Bq 20 t.1) (ht:Tab w) (ht2:aH w) :
  Calls Tryz.prog 118 #[.slice (some ⟨b,0,none⟩) n c] w fun e W'=>e = .returned (.bool true)∧Below w.heap.size w W' :=
 vv b n c (fun j=>af (tat l j).1) (fun j=>af (tat l j).2) (fun j=>aa (tat l j).1.num) (fun j=>aa ((tat l j).1.den:Int)) (fun j=>szB (aa (tat l j).1.num)) w h100 tl.lt
  (fun j hj=>⟨tl.c0 j (by omega),tl.c1 j (by omega)⟩)
  (fun j hj W hW=>nQ (tat l j).1 W ((hB _ (bV (by omega))).lim (by decide)) (ht.next hW) (ae ht2 hW))
  (fun j hj W=>(Tryz.strings_TrimPrefix (aa (tat l j).1.num) ⟨#[45]⟩ W).mono fun e W' h=>⟨by rw [h.1,show (⟨#[45]⟩:ByteArray).data.toList = [45] from rfl,oy];rfl,h.2.symm⟩)
  (fun j hj=>by
   have k:=hB _ (bV (l:=l) (j:=j) (by omega))
   refine ⟨?_,by rw [mi];exact xS k.2 (by decide)⟩
   rw [←ag]
   show (szL (aa (tat l j).1.num).data.toList).toArray.toList.length≤20
   rw [List.toList_toArray,aF,iX,Lib.decDigits_length]
   exact xS k.1 (by decide))
end Go.Proofs.YtbhbhlfkdlfimaaGreatDoor.T
namespace Go.Proofs
open Go.Shelf
def Tryz.laysSortFuncP_ren:Go.Shelf.Ren:=⟨fun | 6=>59 | 15=>105 | 14=>104 | 28=>155 | 29=>156 | 20=>147 | 21=>148 | 22=>149 | 23=>150 | 24=>151 | 25=>152 | 26=>153 | 27=>154 | 46=>207 | 47=>208 | 48=>209 | 49=>210 | 50=>211 | 57=>242 | n=>n,fun | 22=>98 | 24=>100 | 25=>102 | 3=>3 | 39=>156 | 0=>0 | 53=>206 | 55=>82 | 4=>4 | 46=>199 | 45=>198 | 50=>203 | 5=>5 | 9=>9 | 66=>258 | 70=>261 | 76=>288 | 77=>289 | n=>n,fun | n=>n⟩
theorem Tryz.laysSortFuncP:Go.Proofs.SlLaysF0.n6 Tryz.prog Tryz.laysSortFuncP_ren:={
 mixed:=by kernel_rfl
 f6:=⟨Tryz.f59.name,by decide,Tryz.func59.trans (congrArg some (by kernel_rfl))⟩
 f14:=⟨Tryz.f104.name,by decide,Tryz.func104.trans (congrArg some (by kernel_rfl))⟩
 f15:=Tryz.func105.trans (congrArg some (by kernel_rfl))
 f20:=⟨Tryz.f147.name,by decide,Tryz.func147.trans (congrArg some (by kernel_rfl))⟩
 f21:=⟨Tryz.f148.name,by decide,Tryz.func148.trans (congrArg some (by kernel_rfl))⟩
 f22:=⟨Tryz.f149.name,by decide,Tryz.func149.trans (congrArg some (by kernel_rfl))⟩
 f23:=⟨Tryz.f150.name,by decide,Tryz.func150.trans (congrArg some (by kernel_rfl))⟩
 f24:=⟨Tryz.f151.name,by decide,Tryz.func151.trans (congrArg some (by kernel_rfl))⟩
 f25:=⟨Tryz.f152.name,by decide,Tryz.func152.trans (congrArg some (by kernel_rfl))⟩
 f26:=⟨Tryz.f153.name,by decide,Tryz.func153.trans (congrArg some (by kernel_rfl))⟩
 f27:=⟨Tryz.f154.name,by decide,Tryz.func154.trans (congrArg some (by kernel_rfl))⟩
 f28:=Tryz.func155.trans (congrArg some (by kernel_rfl))
 f29:=Tryz.func156.trans (congrArg some (by kernel_rfl))
 f46:=⟨Tryz.f207.name,by decide,Tryz.func207.trans (congrArg some (by kernel_rfl))⟩
 f47:=Tryz.func208.trans (congrArg some (by kernel_rfl))
 f48:=Tryz.func209.trans (congrArg some (by kernel_rfl))
 f49:=⟨Tryz.f210.name,by decide,Tryz.func210.trans (congrArg some (by kernel_rfl))⟩
 f50:=⟨Tryz.f211.name,by decide,Tryz.func211.trans (congrArg some (by kernel_rfl))⟩
 f57:=⟨Tryz.f242.name,by decide,Tryz.func242.trans (congrArg some (by kernel_rfl))⟩
 t0:=Tryz.underlying0
 a0:=Tryz.isAgg0
 z0:=Tryz.sizeOf0
 v0:=Tryz.zeroValue0
 t3:=Tryz.underlying3
 a3:=Tryz.isAgg3
 z3:=Tryz.sizeOf3
 v3:=Tryz.zeroValue3
 t4:=Tryz.underlying4
 a4:=Tryz.isAgg4
 z4:=Tryz.sizeOf4
 v4:=Tryz.zeroValue4
 t5:=Tryz.underlying5
 a5:=Tryz.isAgg5
 z5:=Tryz.sizeOf5
 v5:=Tryz.zeroValue5
 t9:=Tryz.underlying9
 a9:=Tryz.isAgg9
 z9:=Tryz.sizeOf9
 v9:=Tryz.zeroValue9
 t22:=Tryz.underlying98
 a22:=Tryz.isAgg98
 z22:=Tryz.sizeOf98
 v22:=Tryz.zeroValue98
 t25:=Tryz.underlying102
 a25:=Tryz.isAgg102
 z25:=Tryz.sizeOf102
 v25:=Tryz.zeroValue102
 t39:=Tryz.underlying156
 a39:=Tryz.isAgg156
 z39:=Tryz.sizeOf156
 v39:=Tryz.zeroValue156
 t45:=Tryz.underlying198
 a45:=Tryz.isAgg198
 z45:=Tryz.sizeOf198
 v45:=Tryz.zeroValue198
 t46:=Tryz.underlying199
 a46:=Tryz.isAgg199
 z46:=Tryz.sizeOf199
 v46:=Tryz.zeroValue199
 t50:=Tryz.underlying203
 a50:=Tryz.isAgg203
 z50:=Tryz.sizeOf203
 v50:=Tryz.zeroValue203
 t53:=Tryz.underlying206
 a53:=Tryz.isAgg206
 z53:=Tryz.sizeOf206
 v53:=Tryz.zeroValue206
 t55:=Tryz.underlying82
 a55:=Tryz.isAgg82
 z55:=Tryz.sizeOf82
 v55:=Tryz.zeroValue82
 t66:=Tryz.underlying258
 a66:=Tryz.isAgg258
 z66:=Tryz.sizeOf258
 v66:=Tryz.zeroValue258
 t70:=Tryz.underlying261
 a70:=Tryz.isAgg261
 z70:=Tryz.sizeOf261
 v70:=Tryz.zeroValue261
 t76:=Tryz.underlying288
 a76:=Tryz.isAgg288
 z76:=Tryz.sizeOf288
 v76:=Tryz.zeroValue288
 t77:=Tryz.underlying289
 a77:=Tryz.isAgg289
 z77:=Tryz.sizeOf289
 v77:=Tryz.zeroValue289 }
end Go.Proofs
namespace Go.Proofs.YtbhbhlfkdlfimaaGreatDoor.T
open Go.Proofs.YtbhbhlfkdlfimaaGreatDoor Go Go.RowKit
theorem zn (p p':Option Addr) (n c n' c':Nat) (w:World) (Q:Value→World→Prop)
  (hA:∀ W b,Below w.heap.size w W→Blk W b #[.slice p n c,.slice p' n' c']→Calls Tryz.prog 67 #[.slice (some ⟨b,0,none⟩) 2 2] W fun e W'=>e = .returned (.bool true)∧Below W.heap.size W W')
  (hC:∀ W b,Below w.heap.size w W→Blk W b #[.slice p n c,.slice p' n' c']→Calls Tryz.prog 146 #[.slice (some ⟨b,0,none⟩) 2 2] W fun e W'=>∃ v,e = .returned v ∧
   Calls Tryz.prog 69 #[v] W' fun e W''=>∃ v,e = .returned (.tuple #[v,.int .i64 0])∧Q v W'') :
  Calls Tryz.prog 103 #[.slice p n c,.slice p' n' c'] w fun e W'=>∃ v,e = .returned (.tuple #[v,.int .i64 0])∧Q v W':=by
 have O:=Ha (Hb hA hC);clear hA hC
 go_enter Tryz.func103,Tryz.ntmps103
 go_wp2_with fail
 refine (O.out.1 _ _ ((Below.refl _ w).alloc (Nat.le_refl _) _) (Blk.new w _ _)).mono ?_
 rintro e W1 ⟨rfl,b⟩
 have B1:=Ha (((Below.refl _ w).alloc (Nat.le_refl _) (.cells #[.slice p n c,.slice p' n' c'] 45)).trans (b.mono (by simp)))
 clear b
 go_wp2_with fail
 refine (O.out.2 _ _ (B1.out.alloc B1.out.size _) (Blk.new W1 _ _)).mono ?_
 rintro e W2 ⟨v,rfl,h⟩
 have H:=Ha h;clear h
 go_wp2_with fail
 refine H.out.mono ?_
 rintro e W3 ⟨v',rfl,hq⟩
 have HQ:=Ha hq;clear hq
 go_wp2
 go_ret2
 exact ⟨_,rfl,HQ.out⟩
theorem Hf (l k:List Tm) (p p':Option Addr) (n n' c c':Nat) (w:World) (h:Su w p n c l) (h':Su w p' n' c' k) (hg:Gd (l++k)) (ht:Tab w) (ht2:aH w) (hS:Sm w) :
  Calls Tryz.prog 103 #[.slice p n c,.slice p' n' c'] w fun e W'=>Rs (l++k) w.heap.size w e W':=by
 refine (zn p p' n c n' c' w (fun v W'=>Rs (l++k) w.heap.size w (.returned (.tuple #[v,.int .i64 0])) W') (fun W b hw hb => ?_) (fun W b hw hb => ?_)).mono fun e W' h=>Rs.to h
 ·exact pI b p p' n c n' c' l k W hb (h.next hw).sd (h'.next hw).sd (ht.next hw) (ae ht2 hw) (hS.next hw)
 ·refine (zH hb (h.next hw).sr (h'.next hw).sr (by have:=h.le;omega) (by have:=h'.le;omega)).mono fun e W' ⟨v,e1,o,b1⟩=>⟨v,e1,?_⟩
  obtain ⟨q,d,rfl,rd,_⟩:=o.rd
  have b2:=hw.trans (b1.mono hw.size)
  exact (nh (l++k) hg q _ d W' rfl rd (ht.next b2) (ae ht2 b2) (hS.next b2)).mono fun e W'' r=>r.of b2 b2.size
end Go.Proofs.YtbhbhlfkdlfimaaGreatDoor.T
namespace Go.Proofs.YtbhbhlfkdlfimaaGreatDoor.T
open Go.Proofs.YtbhbhlfkdlfimaaGreatDoor Go Go.RowKit
theorem zx {D M R b:Nat} {t:Tm} (h:Ns D M R t) (hR:R<10000) (hb:Nrm b) (lb:b<10000):J D (M*R) (co (b:Rat) t):=by
 obtain ⟨x,q⟩:=t
 obtain ⟨a,e,l⟩:=h.r
 have e':q=(a:Rat):=e
 subst e'
 have b0:=cz hb.1
 rcases Nat.eq_zero_or_pos a with z | z
 ·subst z
  rw [show (((0:Nat):Rat))=0 from rfl,DN b0];exact J.zero _ _
 ·rw [←Fw b0 (x,(a:Rat)) (aP a)]
  obtain ⟨c,ec,lc⟩:=wI a
  have nn:=oI (q:=(a:Rat)) (aP a)
  have ln:=ux z
  show J D (M*R) (co (b:Rat) (x*nC (a:Rat),((nN (a:Rat):Nat):Rat)))
  generalize nN (a:Rat)=n at *
  by_cases k:bG ((n:Rat) / (b:Rat))
  ·have:=qV nn hb (by omega) lb k
   subst this
   rw [r7 _ b0,ec]
   have j:=h.c.mul (J.int (c:Int))
   rw [Rat.intCast_natCast,Int.natAbs_natCast,Nat.mul_one] at j
   exact j.up (Nat.mul_le_mul_left _ (Nat.le_trans lc l))
  ·unfold co
   rw [if_neg k];exact J.zero _ _
theorem zy {D M R b:Nat} {L:List Tm} (h:∀ t∈L,Ns D M R t) (hR:R<10000) (hb:Nrm b) (lb:b<10000):J D (L.length*(M*R)) (vl (b:Rat) L):=Gp fun t ht=>zx (h t ht) hR hb lb
theorem Ok.small {D M R Ln:Nat} {C:List Rat} {L l:List Tm} (h:Ok D M R Ln C L l) (hR:R<10000) {t:Tm} (ht:t∈l):Ns D (Ln*(M*R)) R t:=by
 obtain ⟨b,e,nb,lb⟩:=h.rt t ht
 refine ⟨?_,b,e,lb⟩
 rw [←oG h.red ht,h.vl _ (h.red.1 t ht),e]
 exact (zy h.raw hR nb (by omega)).up (Nat.mul_le_mul_right _ h.len)
end Go.Proofs.YtbhbhlfkdlfimaaGreatDoor.T
namespace Go.Proofs.YtbhbhlfkdlfimaaGreatDoor.T
open Go.Proofs.YtbhbhlfkdlfimaaGreatDoor Go Go.RowKit
theorem fc (c r:ByteArray) (w:World) (hr:aw r.data.toList=false)
  (h1:∀ W,Below w.heap.size w W→Calls Tryz.prog 212 #[.agg #[.string c,.string r]] W fun e W'=>e = .returned (.int .i64 0)∧Below W.heap.size W W') :
  Calls Tryz.prog 205 #[.agg #[.string c,.string r]] w fun e W'=>e = .returned (.int .i64 0)∧Below w.heap.size w W':=by
 have p:=fun W=>Tryz.strings_HasPrefix r ⟨#[45]⟩ W
 rw [show (⟨#[45]⟩:ByteArray).data.toList = [45] from rfl,iE,hr] at p
 have O:=Ha (Hb h1 p);clear h1 p hr
 go_enter Tryz.func205,Tryz.ntmps205
 go_wp2_with fail
 have HB:=Ha (Hb (Blk.new w #[.string c,.string r] 43) ((Below.refl _ w).alloc (Nat.le_refl _) (.cells #[.string c,.string r] 43)))
 generalize w.alloc (.cells #[.string c,.string r] 43)=W0 at *
 generalize hk:w.heap.size=k at *
 have HK:=Ha hk;clear hk
 have e0:=HB.out.1.cell 0 (.string c) rfl;have e1:=HB.out.1.cell 1 (.string r) rfl
 refine (O.out.1 _ HB.out.2).mono ?_
 rintro e v1 ⟨rfl,b⟩
 replace HB:=Ha (Hb (HB.out.1.next b) (HB.out.2.trans (b.mono (by have h1:=HB.out.2.size;have h2:=HK.out;omega))));clear b
 have e0:=HB.out.1.cell 0 (.string c) rfl;have e1:=HB.out.1.cell 1 (.string r) rfl
 go_wp2_with fail
 refine (O.out.2 _).mono ?_
 rintro e v2 ⟨rfl,rfl⟩
 go_wp2
 go_ret
 have hb:=HB.out.2
 rw [←HK.out] at hb
 exact ⟨rfl,hb⟩
theorem oA (b n c:Nat) (cs rs:Nat→ByteArray) (w:World) (h256:n≤256) (Q:Value→World→Prop) (hb:b<w.heap.size)
  (hc:∀ j,j<n→w.cell? ⟨b,j*2,none⟩=some (.string (cs j))∧w.cell? ⟨b,j*2+1,none⟩=some (.string (rs j)))
  (h1:∀ j,j<n→∀ W,Below w.heap.size w W→Calls Tryz.prog 205 #[.agg #[.string (cs j),.string (rs j)]] W fun e W'=>e = .returned (.int .i64 0)∧Below W.heap.size W W')
  (hG:∀ W,Below w.heap.size w W→Calls Tryz.prog 69 #[.slice (some ⟨b,0,none⟩) n c] W fun e W''=>∃ v,e = .returned (.tuple #[v,.int .i64 0])∧Q v W'') :
  Calls Tryz.prog 145 #[.slice (some ⟨b,0,none⟩) n c] w fun e W'=>∃ v,e = .returned (.tuple #[v,.int .i64 0])∧Q v W':=by
 have O:=Ha (Hb hc (Hb h1 hG));clear hc h1 hG
 have y1:¬ (256:Int)<n:=by omega
 go_enter Tryz.func145,Tryz.ntmps145
 go_wp2
 go_loopw [12] (fun i wr=>∃ j:Nat,i = .int .i64 j∧j≤n∧Hid (Below w.heap.size w wr)) (fun i _=>n - (intOf i).toNat)
 case atStart=>exact ⟨0,rfl,by omega,Below.refl _ _⟩
 case round =>
  obtain ⟨j,rfl,hj,HB⟩:=hrel
  by_cases hlt:j<n
  ·have hz:(j:Int)<n:=by omega
   have d0:=(HB.out.cell (p:=⟨b,j*2,none⟩) hb).trans (O.out.1 j hlt).1
   have d1:=(HB.out.cell (p:=⟨b,j*2+1,none⟩) hb).trans (O.out.1 j hlt).2
   have hr:=Ha (O.out.2.1 j hlt)
   generalize cs j=cj at *
   generalize rs j=rj at *
   go_wp2_with fail
   have HN:=Ha (Hb (Blk.new wr #[.string cj,.string rj] 43) (HB.out.alloc HB.out.size (.cells #[.string cj,.string rj] 43)))
   clear HB;have HB:=HN;clear HN
   generalize wr.alloc (.cells #[.string cj,.string rj] 43)=u at *
   generalize wr.heap.size=k at *
   clear d0 d1
   have e0:=HB.out.1.cell 0 (.string cj) rfl;have e1:=HB.out.1.cell 1 (.string rj) rfl
   go_wp2_with fail
   refine (hr.out _ HB.out.2).mono ?_
   rintro e w2 ⟨rfl,b2⟩
   replace HB:=Ha (HB.out.2.trans (b2.mono HB.out.2.size));clear b2 e0 e1
   go_wp2
   go_roundw
   case rel=>exact ⟨j+1,by go_num,by omega,HB.out⟩
   case measure=>simp [intOf];omega
  ·have hz:¬ (j:Int)<n:=by omega
   clear hlt hj
   go_wp2_with fail
   refine (O.out.2.2 _ HB.out).mono ?_
   rintro e W3 ⟨v',rfl,hq⟩
   have HQ:=Ha hq;clear hq
   go_wp2
   go_ret2
   exact ⟨_,rfl,HQ.out⟩
theorem Hg {x:Rat} (h:0≤x):aw (af x).data.toList=false:=by
 rw [AW];exact decide_eq_false (by grind)
theorem G3 (l:List Tm) (b c:Nat) (w:World) (tl:Tl w b l) (hg:Gd l) (hB:∀ t∈l,Bq 60 t.1∧Bq 60 t.2) (ht:Tab w) (ht2:aH w) (hS:Sm w) :
  Calls Tryz.prog 145 #[.slice (some ⟨b,0,none⟩) l.length c] w fun e W'=>Rs l w.heap.size w e W':=by
 refine (oA b l.length c (fun j=>af (tat l j).1) (fun j=>af (tat l j).2) w hg.gv.len (fun v W'=>Rs l w.heap.size w (.returned (.tuple #[v,.int .i64 0])) W') tl.lt
  (fun j hj=>⟨tl.c0 j hj,tl.c1 j hj⟩) (fun j hj W hW => ?_) (fun W hW => ?_)).mono fun e W' h=>Rs.to h
 ·have hm:=bV (l:=l) (j:=j) hj
  obtain ⟨b1,b2⟩:=hB _ hm
  refine fc _ _ W (Hg (hg.gv.ok _ hm).1) (fun W2 h2=>lA _ _ W2 fun s W3 hs h3 => ?_)
  rcases hs with rfl | rfl
  ·exact jT _ W3 (b1.lim (by decide)) (((ht.next hW).next h2).next h3) (ae (ae (ae ht2 hW) h2) h3)
  ·exact jT _ W3 (b2.lim (by decide)) (((ht.next hW).next h2).next h3) (ae (ae (ae ht2 hW) h2) h3)
 ·exact (nh l hg _ _ c W rfl (fun _=>⟨b,rfl,tl.next hW⟩) (ht.next hW) (ae ht2 hW) (hS.next hW)).mono fun e W'' r=>r.of hW hW.size
end Go.Proofs.YtbhbhlfkdlfimaaGreatDoor.T
namespace Go.Proofs.YtbhbhlfkdlfimaaGreatDoor.T
open Go.Proofs.YtbhbhlfkdlfimaaGreatDoor Go Go.RowKit
theorem rq {r:Nat} (h0:0<r) (h:∀ c,c<r+1→2≤c→¬ c*c∣r):Nrm r:=by
 obtain ⟨c,e,lc⟩:=wI r
 have s:=mV (q:=(r:Rat)) (aP r)
 rw [e,←Rat.natCast_mul,←Rat.natCast_mul] at s
 have s2:=Rat.natCast_inj.1 s
 have c1:c=1:=by
  rcases Nat.lt_or_ge c 2 with l | l
  ·have:c≠0:=fun z=>by rw [z] at s2;simp at s2;omega
   omega
  ·exact absurd ⟨_,s2.symm⟩ (h c (by omega) l)
 refine ⟨h0,by rw [e,c1];rfl,?_⟩
 rw [c1] at s2;omega
theorem FJ:Nrm 1:=rq (by decide) (by decide)
theorem Gq:Nrm 2:=rq (by decide) (by decide)
theorem EI {a b:Nat} (ha:Nrm a) (hb:Nrm b) (la:a<10000) (lb:b<10000) (h:Rl (a:Rat) (b:Rat)):a=b:=qV ha hb la lb ((nO (cz ha.1) (cz hb.1)).2 h)
theorem uB {l:List Tm} (hr:Red l) (hn:∀ t∈l,∃ b:Nat,t.2=(b:Rat)∧Nrm b∧b<10000) (hc:∀ t∈l,t.1≠0) {x:Rat} {q:Nat} (hq:Nrm q) (lq:q<10000) (hx:x≠0) (hv:∀ m,0<m→T.vl m l=co m (x,(q:Rat))):l = [(x,(q:Rat))]:=by
 have q0:=cz hq.1
 have rel:∀ t∈l,t.2=(q:Rat):=fun t ht=>by
  obtain ⟨b,e,nb,lb⟩:=hn t ht
  have h1:=oG hr ht
  rw [hv t.2 (hr.1 t ht)] at h1
  have h2:Rl (q:Rat) t.2:=by
   refine Classical.byContradiction fun n=>hc t ht ?_
   rw [←h1,AN x (hr.1 t ht) q0 n]
  rw [e] at h2 ⊢
  rw [EI hq nb lq lb h2]
 match l,hr,hc,hv,rel with
 | [],_,_,hv,_ =>
  have:=hv (q:Rat) q0
  rw [r7 x q0] at this
  exact absurd this.symm hx
 | [t],hr,_,hv,rel =>
  have h1:=oG hr (t:=t) List.mem_cons_self
  have h2:=rel t List.mem_cons_self
  rw [h2,hv _ q0,r7 x q0] at h1
  rw [show t=(t.1,t.2) from rfl,←h1,h2]
 | t::s::l,hr,_,_,rel =>
  have:=(List.pairwise_cons.1 hr.2).1 s List.mem_cons_self
  rw [rel t List.mem_cons_self,rel s (List.mem_cons_of_mem _ List.mem_cons_self)] at this
  exact absurd (Rl.refl _) this
def Lt (g:List Tm):Prop:=∀ t∈g,t.1≠0∧∃ b:Nat,t.2=(b:Rat)∧Nrm b∧b<10000
theorem BV {g:List Tm} (h:Lt g) (hd:g.Pairwise fun s t=>s.2≠t.2):Red g:=by
 refine ⟨fun t ht => ?_,?_⟩
 ·obtain ⟨_,b,e,nb,_⟩:=h t ht
  rw [e];exact cz nb.1
 ·refine hd.imp_of_mem fun {s t} hs ht n r=>n ?_
  obtain ⟨_,a,ea,na,la⟩:=h s hs
  obtain ⟨_,b,eb,nb,lb⟩:=h t ht
  rw [ea,eb] at r ⊢
  rw [EI na nb la lb r]
theorem BW:∀ (g l:List Tm),Red (l++g)→Lt g→g.foldl stp l=l++g
 | [],l,_,_=>by simp
 | t::g,l,hr,hg=>by
  obtain ⟨c0,b,e,nb,_⟩:=hg t List.mem_cons_self
  have ht:lB t=t:=by
   obtain ⟨c,q⟩:=t
   have e':q=(b:Rat):=e
   subst e'
   show (c*nC (b:Rat),((nN (b:Rat):Nat):Rat))=(c,(b:Rat))
   rw [nb.2.1,nb.2.2,Rat.mul_one]
  have hl:=(List.pairwise_append.1 hr.2).2.2
  have st:stp l t=l ++ [t]:=by
   unfold stp
   rw [if_neg (fun z=>z.elim c0 fun z=>by have:=cz nb.1;rw [e] at z;grind),ht]
   refine pz fun j hj r => ?_
   have hm:=bV hj
   exact hl _ hm t List.mem_cons_self ((oF (hr.1 _ (List.mem_append.2 (.inl hm))) (hr.1 t (by simp))).1 r).symm
  show g.foldl stp (stp l t)=_
  rw [st,BW g (l ++ [t]) (by rw [List.append_assoc];exact hr) fun s hs=>hg s (List.mem_cons_of_mem _ hs),List.append_assoc];rfl
theorem FK {g:List Tm} (h:Lt g) (hd:g.Pairwise fun s t=>s.2≠t.2):T.fin g=g:=by
 have e:gth g=g:=by
  have:=BW g [] (by rw [List.nil_append];exact BV h hd) h
  rwa [List.nil_append] at this
 unfold T.fin
 rw [e]
 refine List.filter_eq_self.2 fun t ht => ?_
 unfold nz
 exact decide_eq_true (h t ht).1
theorem yr {g:List Tm} (h:Lt g) (hB:∀ t∈g,Bq 60 t.1) (hl:g.length≤16) (hd:g.Pairwise fun s t=>s.2<t.2):Good g:=by
 refine ⟨hl,fun t ht => ?_,hd,(BV h (hd.imp fun {s t} k e=>by rw [e] at k;exact Rat.lt_irrefl k)).2⟩
 obtain ⟨c0,b,e,nb,lb⟩:=h t ht
 exact ⟨c0,hB t ht,b,e,nb,Nat.lt_of_lt_of_le lb (by decide+kernel)⟩
theorem pn {c:Rat} {r p s:Nat} (h0:0≤c.num) (h1:s*s≤rdN c r p / (c.den*c.den)) (h2:rdN c r p / (c.den*c.den)<(s+1)*(s+1)):rdZ c r p=s:=by
 unfold rdZ rdS
 rw [if_pos h0,gn ⟨h1,h2⟩]
theorem BX {c:Rat} {r p s:Nat} (h0:¬ 0≤c.num) (h1:s*s≤rdN c r p / (c.den*c.den)) (h2:rdN c r p / (c.den*c.den)<(s+1)*(s+1)) (h3:s*s*(c.den*c.den)≠rdN c r p):rdZ c r p = -((s:Int)+1):=by
 unfold rdZ rdS
 rw [if_neg h0,gn ⟨h1,h2⟩,if_neg h3]
def y62:Rat:=mkRat (-1) 62
def g1:List Tm := [(1,2),(1,3)] ++ [((1:Rat),(10:Rat))].map (mulT (-1))
def g2:List Tm := [(1,2),(1,3)] ++ [(y62,(1:Rat)),((1:Rat),(10:Rat))].map (mulT (-1))
theorem uC {c:Rat} {q:Nat} (hc:c≠0) (hB:Bq 60 c) (hq:Nrm q) (lq:q<10000):Good [(c,(q:Rat))] :=
 yr (fun t ht=>by obtain rfl:=List.mem_singleton.1 ht;exact ⟨hc,q,rfl,hq,lq⟩) (fun t ht=>by obtain rfl:=List.mem_singleton.1 ht;exact hB) (by simp) (List.pairwise_singleton _ _)
theorem DW {g r:List Tm} {D M R k:Nat} {x:Rat} {q:Nat} (h:∀ t∈g,Ns D M R t) (hD:0<D) (hR1:0<R) (hk:g.length≤k) (hk2:k≤16) (hR:R<10000)
  (h1:k*(M*(R*R))<ak 60) (h2:D*R<ak 60) (hq:Nrm q) (lq:q<10000) (hx:x≠0) (hv:∀ m,0<m→T.vl m g=co m (x,(q:Rat))) :
  Gd g∧(r.Perm (T.fin g)→Good r→r = [(x,(q:Rat))]):=by
 have cl:Cl (g.map (·.2)) g:=fun t ht _=>⟨t.2,List.mem_map.2 ⟨t,ht,rfl⟩,Rl.refl _⟩
 have gd:=BK h hD hR1 hk (by omega) (pL (j:=5) (Nat.lt_of_lt_of_le hR (by decide+kernel)) (by decide)) h1 h2 cl (by rw [List.length_map];omega)
 refine ⟨gd,fun hp hg => ?_⟩
 have ok:=Ok.fin (L:=g) (Ln:=k) h hk (fun t ht=>(h t ht).r) (fun _ _=>rfl) gd cl hp
 exact uB ok.red (fun t ht=>by obtain ⟨b,e,nb,lb⟩:=ok.rt t ht;exact ⟨b,e,nb,by omega⟩) (fun t ht=>(hg.ok t ht).1) hq lq hx fun m hm=>by rw [ok.vl m hm,hv m hm]
end Go.Proofs.YtbhbhlfkdlfimaaGreatDoor.T
namespace Go.Proofs.YtbhbhlfkdlfimaaGreatDoor.T
open Go.Proofs.YtbhbhlfkdlfimaaGreatDoor Go Go.RowKit
theorem sq1:af (1:Rat)=⟨#[49]⟩:=ig
theorem sq2:af (2:Rat)=⟨#[50]⟩:=by decide+kernel
def Sv (W:World) (l:List Tm) (v:Value):Prop:=∃ p n c,v = .slice p n c∧Su W p n c l
theorem Sv.next {W W':World} {l:List Tm} {v:Value} (h:Sv W l v) (g:Below W.heap.size W W'):Sv W' l v:=by
 obtain ⟨p,n,c,e,s⟩:=h
 exact ⟨p,n,c,e,s.next g⟩
theorem Rs.only {g l:List Tm} {w W':World} {e:Ending} {B:Nat} (h:Rs g B w e W') (ho:∀ r,r.Perm (T.fin g)→Good r→r=l):∃ v,e = .returned (.tuple #[v,.int .i64 0])∧Sv W' l v∧Below B w W':=by
 obtain ⟨p,n,c,r,e1,hp,hs,hb⟩:=h
 obtain rfl:=ho r hp hs.good
 exact ⟨_,e1,⟨p,n,c,rfl,hs⟩,hb⟩
theorem BY {W:World} {b:Nat} {x q:Rat} (hg:Good [(x,q)]) (h:Blk W b #[.string (af x),.string (af q)]):Su W (some ⟨b,0,none⟩) 1 1 [(x,q)]:=Su.lit hg (Tl.lit1 x q h) 1 (by simp)
end Go.Proofs.YtbhbhlfkdlfimaaGreatDoor.T
namespace Go.Proofs.YtbhbhlfkdlfimaaGreatDoor.T
open Go.Proofs.YtbhbhlfkdlfimaaGreatDoor Go Go.RowKit
noncomputable def uq (t:Tm) (p:Nat):Rat:=hiT (t.1*t.1*t.2) p
theorem Ex (t:Tm) (p b:Nat) (w:World) (hp:p≤42) (h0:0≤t.1) (hc:Bq 20 t.1) (hb:t.2=(b:Rat)) (hl:b<ak 40) (ht:Tab w) (ht2:aH w) :
  Calls Tryz.prog 178 #[.agg #[.string (af t.1),.string (af t.2)],.int .i64 p] w fun e W'=>e = .returned (.string (af (uq t p)))∧Below w.heap.size w W':=by
 have q2:Bq 40 t.2:=by rw [hb];exact sF (by decide) hl
 obtain ⟨a1,a2,a3⟩:=a8 hc hc (by decide)
 obtain ⟨b1,b2,b3⟩:=a8 a3 q2 (by decide)
 have nn:0≤t.1*t.1*t.2:=Rat.mul_nonneg (Rat.mul_nonneg h0 h0) (by rw [hb];exact aP b)
 have ng:aw (af t.1).data.toList=false:=by rw [AW];exact decide_eq_false (by grind)
 exact CY (af t.1) (af t.2) (af (t.1*t.1)) (af (t.1*t.1*t.2)) (af (loT (t.1*t.1*t.2) p)) (af (uq t p)) ⟨#[]⟩ p false w
  (fun W h=>by have c:=gz t.1 t.1 W (hc.lim (by decide)) (hc.lim (by decide)) (ht.next h) (ae ht2 h);rwa [a1,a2] at c)
  (fun W h=>by have c:=gz (t.1*t.1) t.2 W (a3.lim (by decide)) (q2.lim (by decide)) (ht.next h) (ae ht2 h);rwa [b1,b2] at c)
  (fun W h=>zJ _ p 80 43 W nn (by omega) b3 (by omega) (by decide) (by decide) (ht.next h) (ae ht2 h))
  (fun W h=>by have c:=GK (af t.1) W;rwa [ng] at c) (fun h=>by cases h)
theorem C8 (q:Rat) (w:World) (h0:q≠0) (hq:Bq 60 q) :
  Calls Tryz.prog 121 #[.string (af q)] w fun e W'=>∃ v,e = .returned v∧Sv W' [(q,((1:Nat):Rat))] v∧Below w.heap.size w W':=by
 refine (Ev (af q) w (by rw [oQ];exact decide_eq_false h0)).mono fun e W' ⟨b,e1,k,bl⟩=>⟨_,e1,⟨_,1,1,rfl,BY (uC h0 hq FJ (by decide)) ?_⟩,bl⟩
 rw [show ((1:Nat):Rat)=1 from rfl,ig];exact k
theorem Ey:uT 0=1:=by decide+kernel
theorem Ez (p:Nat) (w:World) (hp:p≤40) :
  Calls Tryz.prog 73 #[.int .i64 p] w fun e W'=>e = .returned (.string (af (uT p)))∧Below w.heap.size w W':=by
 rcases Nat.eq_zero_or_pos p with rfl | h
 ·rw [Ey,ig];exact Ew w
 ·have c:=xn p ⟨(List.replicate p 48).toArray⟩ w h (by rw [pK];omega) (fun W _=>FA p W (by omega))
  have e:(⟨#[49,47,49]⟩:ByteArray)++⟨(List.replicate p 48).toArray⟩=af (uT p):=by
   have t2:49::List.replicate p 48=Lib.itoa (ak p:Int):=by
    have k:=congrArg (fun s:ByteArray=>s.data.toList) (uu p)
    rw [aF] at k
    exact k
   apply aU
   show [49,47,49]++List.replicate p 48=cG (uT p)
   unfold cG
   rw [(EG p).1,(EG p).2]
   have d1:¬ ak p=1:=by have:=js h;have e1:ak 0=1:=rfl;omega
   simp [d1]
   rw [←t2,bU];rfl
  rwa [e] at c
structure OfD (l:List Tm) (p:Nat) (s:Nat→Rat) (z:Int) (lo hi:Rat):Prop where
 pl:p≤40
 co:∀ t∈l,Bq 20 t.1∧0≤t.1
 s0:s 0=0
 st:∀ j,j<l.length→s (j+1)=s j+uq (tat l j) (p+2)
 bs:∀ j,j≤l.length→Bq 60 (s j)
 bu:∀ t∈l,Bq 60 (uq t (p+2))
 hz:(s l.length / uT p).num.fdiv (s l.length / uT p).den=z
 lz:lo=(z:Rat)*uT p
 hl:hi=lo+uT p
 b1:Bq 60 lo∧lo≠0
 b2:Bq 60 hi∧hi≠0
 g1:Gd ([(lo,((1:Nat):Rat))]++l.map (mulT (-1)))
 g2:Gd ([(hi,((1:Nat):Rat))]++l.map (mulT (-1)))
 v1:sgV (T.fin ([(lo,((1:Nat):Rat))]++l.map (mulT (-1)))) = -1∧sgE (T.fin ([(lo,((1:Nat):Rat))]++l.map (mulT (-1))))=0
 v2:sgV (T.fin ([(hi,((1:Nat):Rat))]++l.map (mulT (-1))))=1∧sgE (T.fin ([(hi,((1:Nat):Rat))]++l.map (mulT (-1))))=0
theorem Gt (l:List Tm) (b n c p:Nat) (s:Nat→Rat) (z:Int) (lo hi:Rat) (w:World) (h:Su w (some ⟨b,0,none⟩) n c l) (hne:0<n) (D:OfD l p s z lo hi) (ht:Tab w) (ht2:aH w) (hS:Sm w) :
  Calls Tryz.prog 28 #[.slice (some ⟨b,0,none⟩) n c,.int .i64 p] w fun e W'=>e = .returned (.tuple #[.agg #[.string (af lo),.string (af hi)],.int .i64 0])∧Below w.heap.size w W':=by
 have hn:=h.sr.1
 have h16:=h.good.len
 have tl:Tl w b l:=by
  obtain ⟨b',e,t⟩:=h.sr.rd (by omega)
  cases e;exact t
 have n100:n≤100:=by omega
 have D60:=D.pl
 have ub:Bq 60 (uT p):=EH (by omega)
 have u0:uT p≠0:=by have:=BF p;grind
 have gd:∀ j,j<n→∃ q:Nat,(tat l j).2=(q:Rat)∧q<ak 40:=fun j hj=>by
  obtain ⟨_,_,q,e,_,lq⟩:=h.good.ok _ (bV (l:=l) (j:=j) (by omega))
  exact ⟨q,e,lq⟩
 have near:=fun W (hW:Below w.heap.size w W)=>xo b n c p (af (uT p)) (fun j=>af (tat l j).1) (fun j=>af (tat l j).2) (fun j=>af (uq (tat l j) (p+2))) (fun j=>af (s j)) (af (s n / uT p)) (af (z:Rat)) (af lo) W n100 D.pl
  (by show af (s 0)=_;rw [D.s0,gg]) (tl.next hW).lt (fun j hj=>⟨(tl.next hW).c0 j (by omega),(tl.next hW).c1 j (by omega)⟩)
  (fun j hj V hV=>by
   obtain ⟨q,e,lq⟩:=gd j hj
   have k:=D.co _ (bV (l:=l) (j:=j) (by omega))
   exact Ex (tat l j) (p+2) q V (by omega) k.2 k.1 e lq ((ht.next hW).next hV) (ae (ae ht2 hW) hV))
  (fun j hj V hV=>by
   have c:=j5 (s j) (uq (tat l j) (p+2)) V ((D.bs j (by omega)).lim (by decide)) ((D.bu _ (bV (l:=l) (j:=j) (by omega))).lim (by decide)) ((ht.next hW).next hV) (ae (ae ht2 hW) hV)
   have k:=cH (D.bs j (by omega)) (D.bu _ (bV (l:=l) (j:=j) (by omega))) (by decide)
   rwa [k.1,k.2.1,←D.st j (by omega)] at c)
  (fun V hV=>by
   have k:=iB (D.bs n (by omega)) ub (by decide) u0
   have c:=xR (s n) (uT p) V ((D.bs n (by omega)).lim (by decide)) (ub.lim (by decide)) u0 ((ht.next hW).next hV) (ae (ae ht2 hW) hV)
   rwa [k.1,k.2.1] at c)
  (fun V hV=>by
   have k:=(iB (D.bs n (by omega)) ub (by decide) u0).2.2
   have c:=Go.Proofs.YtbhbhlfkdlfimaaGreatDoor.Floor_q (s n / uT p) V (k.lim (by decide)) ((ht.next hW).next hV) (ae (ae ht2 hW) hV)
   have e:=D.hz
   rw [←hn] at e
   rwa [e,←ji] at c)
  (fun V hV=>by
   have k:=(iB (D.bs n (by omega)) ub (by decide) u0).2.2
   have zb:Bq 120 (z:Rat):=by
    have e:=D.hz
    rw [←hn] at e
    rw [←e]
    exact C5 k (by decide)
   have c:=gz (z:Rat) (uT p) V (zb.lim (by decide)) (ub.lim (by decide)) ((ht.next hW).next hV) (ae (ae ht2 hW) hV)
   have m:=a8 zb ub (by decide)
   rwa [m.1,m.2.1,←D.lz] at c)
 have cmp:∀ (q:Rat) (v:Value) W,Sv W [(q,((1:Nat):Rat))] v→Gd ([(q,((1:Nat):Rat))]++l.map (mulT (-1)))→Below w.heap.size w W→Calls Tryz.prog 120 #[v,.slice (some ⟨b,0,none⟩) n c] W fun e W'=>e = .returned (.tuple #[.int .i64 (sgV (T.fin ([(q,((1:Nat):Rat))]++l.map (mulT (-1))))),.int .i64 (sgE (T.fin ([(q,((1:Nat):Rat))]++l.map (mulT (-1)))))])∧Below W.heap.size W W':=fun q v W hv hg hW=>by
  obtain ⟨p',n',c',rfl,hs⟩:=hv
  exact wL _ l p' (some ⟨b,0,none⟩) n' n c' c W hs (h.next hW) hg (ht.next hW) (ae ht2 hW) (hS.next hW)
 have ar:=fun W (hW:Below w.heap.size w W)=>vy (some ⟨b,0,none⟩) n c p (af (uT p)) (af lo) (af hi) 1
  (fun v W'=>Sv W' [(lo,((1:Nat):Rat))] v) (fun v W'=>Sv W' [(hi,((1:Nat):Rat))] v) W
  (fun V hV=>near V (hW.trans (hV.mono hW.size)))
  (fun V hV=>C8 lo V D.b1.2 D.b1.1)
  (fun v V hv hV=>by
   have c:=cmp lo v V hv D.g1 (hW.trans (hV.mono hW.size))
   rwa [D.v1.1,D.v1.2] at c)
  (fun V hV=>by
   have c:=j5 lo (uT p) V (D.b1.1.lim (by decide)) (ub.lim (by decide)) (ht.next (hW.trans (hV.mono hW.size))) (ae ht2 (hW.trans (hV.mono hW.size)))
   have k:=cH D.b1.1 ub (by decide)
   rwa [k.1,k.2.1,←D.hl] at c)
  (fun V hV=>C8 hi V D.b2.2 D.b2.1)
  (fun v V hv hV=>by
   have c:=cmp hi v V hv D.g2 (hW.trans (hV.mono hW.size))
   rwa [D.v2.1,D.v2.2] at c)
 exact CZ _ n c p (af (uT p)) _ _ w D.pl
  (fun d W hd hW=>vw d _ n c W hd (fun V hV=>iK l _ n c V (h.next (hW.trans (hV.mono hW.size))).sd (ht.next (hW.trans (hV.mono hW.size))) (ae ht2 (hW.trans (hV.mono hW.size))) (hS.next (hW.trans (hV.mono hW.size))))
   (fun V hV=>by
    have g:=hW.trans (hV.mono hW.size)
    exact An l b n c V hn n100 (tl.next g) (fun t k=>(D.co t k).1) (ht.next g) (ae ht2 g)))
  (fun W _=>Ez p W D.pl)
  ar
end Go.Proofs.YtbhbhlfkdlfimaaGreatDoor.T
