/- Parts of the proof of the text YtjdomibbaemdnaaGreatDoorZKD2. -/
import Derived.Test.YtjdomibbaemdnaaGreatDoorRows
import Derived.Test.YtjdomibbaemdnaaGreatDoorZK46
import Derived.Test.YtjdomibbaemdnaaGreatDoorCards
import Derived.Test.YtjdomibbaemdnaaGreatDoorTie
import Derived.ProofKit
import Derived.LaidMore
import Derived.OpenShut
import Derived.Stop.Joined
import Derived.Stop.LaidErr
import Derived.SevenTiedAt
import Derived.Below
import Derived.RowKitTokens
import Derived.Test.YtjdomibbaemdnaaGreatDoorZK1
import Derived.Test.YtjdomibbaemdnaaGreatDoorZK24
import Derived.Test.YtjdomibbaemdnaaGreatDoorZK25
import Derived.Test.YtjdomibbaemdnaaGreatDoorZK3
import Derived.Test.YtjdomibbaemdnaaGreatDoorZK39
import Derived.Test.YtjdomibbaemdnaaGreatDoorZK41
import Derived.Test.YtjdomibbaemdnaaGreatDoorZK42
import Derived.Test.YtjdomibbaemdnaaGreatDoorZK9
set_option linter.all false
set_option maxRecDepth 100000
set_option maxHeartbeats 8000000
namespace Go.Proofs.YtjdomibbaemdnaaGreatDoor
section
open Go.ChangeShapes Go.WideShapes Go.ChangeAt Go.RowKit
theorem own:ownKnob Tryz.prog.godebug=none:=by kernel_rfl
theorem xQ:Tryz.prog.globalNamed "math/bits.deBruijn64tab" = some 4:=by kernel_rfl
theorem ts:(Rows.laid_math_bits_deBruijn64tab:DataW Unit)=Lib.tabData .u8 (Lib.deBruijn64tab.map fun n:Nat=>(n:Int)):=rfl
theorem xR {W:World} (h:Lib.TabIs Tryz.prog W "math/bits.deBruijn64tab" .u8 (Lib.deBruijn64tab.map fun n:Nat=>(n:Int))):aW W:=by
 intro j hj
 unfold Lib.TabIs World.var? at h
 rw [xQ] at h
 unfold World.cell?
 cases hh:W.heap[4]? with
 | none=>simp [hh] at h
 | some o =>
  cases o with
  | cells cs t f =>
   have h1:some cs=some ((Lib.deBruijn64tab.map fun n:Nat=>(n:Int)).map fun z=>Value.int .u8 z).toArray:=by
    rw [←h];simp only [Option.bind_some,hh]
   have h2:=Option.some.inj h1
   subst h2
   have hj':j<64:=hj
   simp only [List.map_map,List.getElem?_toArray,List.getElem?_map]
   rw [List.getD_eq_getElem?_getD,List.getElem?_eq_getElem hj]
   rfl
  | _=>simp [hh] at h
section
variable {H:Type} {enc:TypeId × Value→H} {P:Program} {w:World} {base:Nat} {spare:Nat→Bool} {held:Bool}
end
def kR:List (String × DataW Unit) := [("math/bits.deBruijn32tab", Rows.laid_math_bits_deBruijn32tab),("math/bits.deBruijn64tab", Rows.laid_math_bits_deBruijn64tab),("internal/strconv.uint64pow10", Rows.laid_internal_strconv_uint64pow10),("strconv.ErrRange", Rows.laid_strconv_ErrRange),("strconv.ErrSyntax", Rows.laid_strconv_ErrSyntax),("kingpost/root.small", Rows.laid_kingpost_root_small)]
theorem vO (os:Os) (args:Array Value):laidMetH Tryz.prog kR ((World.doorLaid Tryz.prog 400 os).forCall (fun _ _=>0) ⟨#[],args,[]⟩).memory :=
 laidMetH_of_parts3 (fuel:=8) (laidMet_of_run' 8 (by kernel_rfl) (by kernel_rfl)) (by kernel_rfl) (by kernel_rfl)
theorem tt {W:World} (h:laidMetH Tryz.prog kR W):laidMet Tryz.prog kR W:=by
 rwa [MakeChecks.laidMetH_plain _ _ _ (by kernel_rfl)] at h
theorem qh {W:World} (h:laidMetH Tryz.prog kR W):Tab W:=by
 have h2:laidMet Tryz.prog (("internal/strconv.uint64pow10", Lib.tabData .u64 Lib.pow10Tab) :: [("strconv.ErrRange", Rows.laid_strconv_ErrRange),("strconv.ErrSyntax", Rows.laid_strconv_ErrSyntax),("kingpost/root.small", Rows.laid_kingpost_root_small)]) W:=laidMet.tail (laidMet.tail (tt h))
 exact Lib.tabIs_of_head Al (t:=249) (e:=143) (n:=20) (by kernel_rfl) (by kernel_rfl) (by kernel_rfl) (by kernel_rfl) (by kernel_rfl) h2
theorem nY {W:World} (h:laidMetH Tryz.prog kR W):aW W:=by
 have h2:=laidMet.tail (tt h)
 rw [ts] at h2
 exact xR (Lib.tabIs_of_head xQ (t:=245) (e:=5) (n:=64) (by kernel_rfl) (by kernel_rfl) (by kernel_rfl) (by kernel_rfl) (by kernel_rfl) h2)
theorem xS:Tryz.prog.globalNamed "kingpost/root.small" = some 0:=by kernel_rfl
theorem tu:(Rows.laid_kingpost_root_small:DataW Unit)=Lib.tabData .u64 (T.af.map fun n:Nat=>(n:Int)):=rfl
theorem BG {W:World} (h:Lib.TabIs Tryz.prog W "kingpost/root.small" .u64 (T.af.map fun n:Nat=>(n:Int))):T.Sm W:=by
 unfold Lib.TabIs World.var? at h
 rw [xS] at h
 cases hh:W.heap[0]? with
 | none=>simp [hh] at h
 | some o =>
  cases o with
  | cells cs t f =>
   have h1:some cs=some ((T.af.map fun n:Nat=>(n:Int)).map fun z=>Value.int .u64 z).toArray:=by
    rw [←h];simp only [Option.bind_some,hh]
   have h2:=Option.some.inj h1
   subst h2
   exact ⟨t,f,hh⟩
  | _=>simp [hh] at h
theorem rY {W:World} (h:laidMetH Tryz.prog kR W):T.Sm W:=by
 have h2:=laidMet.tail (laidMet.tail (laidMet.tail (laidMet.tail (laidMet.tail (tt h)))))
 rw [tu] at h2
 exact BG (Lib.tabIs_of_head xS (t:=178) (e:=143) (n:=25) (by kernel_rfl) (by kernel_rfl) (by kernel_rfl) (by kernel_rfl) (by kernel_rfl) h2)
end
namespace T
open Go.Proofs.YtjdomibbaemdnaaGreatDoor Go.Lib
def q12:Rat:=⟨1,2,by decide,by decide⟩
def q94:Rat:=⟨9,4,by decide,by decide⟩
def q32:Rat:=⟨3,2,by decide,by decide⟩
def q1c:Rat:=⟨1,100,by decide,by decide⟩
def BI:Rat:=⟨141,100,by decide,by decide⟩
theorem it (q:Rat) (l:List UInt8) (h:cQ q=l):ah q=⟨l.toArray⟩:=by unfold ah;rw [h]
theorem s_8:ah 8=⟨#[56]⟩:=it _ [56] (by decide+kernel)
theorem s_2:ah 2=⟨#[50]⟩:=it _ [50] (by decide+kernel)
theorem BR:ah q12=⟨#[49,47,50]⟩:=it _ [49,47,50] (by decide+kernel)
theorem BS:ah q94=⟨#[57,47,52]⟩:=it _ [57,47,52] (by decide+kernel)
theorem BU:ah q32=⟨#[51,47,50]⟩:=it _ [51,47,50] (by decide+kernel)
theorem BV:ah q1c=⟨#[49,47,49,48,48]⟩:=it _ [49,47,49,48,48] (by decide+kernel)
theorem BJ:ah BI=⟨#[49,52,49,47,49,48,48]⟩:=it _ [49,52,49,47,49,48,48] (by decide+kernel)
theorem AX:aj 2=1:=du ⟨by decide,by decide⟩
theorem AY:aj 8=2:=du ⟨by decide,by decide⟩
theorem xU:aj 9=3:=du ⟨by decide,by decide⟩
theorem xV:aj 4=2:=du ⟨by decide,by decide⟩
theorem rZ:ad af 1=(1,1):=dS (by decide) af (by decide)
theorem xW:ad af 2=(1,2):=dS (by decide) af (by decide)
theorem xX:strip 2 8=(2,2):=by
 rw [fy (by decide) (by decide) (by decide),show 8 / (2*2)=2 from rfl,dD (by decide)];rfl
theorem xY:ad af 8=(2,2):=by
 show ((strip 2 8).1*(ad [3,5,7,11,13,17,19,23,29,31,37,41,43,47,53,59,61,67,71,73,79,83,89,97] (strip 2 8).2).1,(ad [3,5,7,11,13,17,19,23,29,31,37,41,43,47,53,59,61,67,71,73,79,83,89,97] (strip 2 8).2).2)=_
 rw [xX,dS (by decide) _ (by decide)];rfl
theorem lz:¬ cj 8:=by
 unfold cj
 rw [show (8:Rat).num.natAbs=8 from rfl,AY]
 exact fun h=>by cases h.1
theorem xZ:nC 8=2∧nN 8=2:=by
 unfold nC cN cD nN
 rw [if_neg lz,if_neg lz,if_neg lz,show (8:Rat).num.natAbs=8 from rfl,show (8:Rat).den=1 from rfl,xY,rZ]
 exact ⟨by decide+kernel,rfl⟩
theorem jP:¬ cj q12:=by
 unfold cj
 rw [show q12.den=2 from rfl,AX]
 exact fun h=>by cases h.2
theorem ut:nC q12=q12∧nN q12=2:=by
 unfold nC cN cD nN
 rw [if_neg jP,if_neg jP,if_neg jP,show q12.num.natAbs=1 from rfl,show q12.den=2 from rfl,rZ,xW]
 exact ⟨by decide+kernel,rfl⟩
theorem AZ:cj q94:=by
 unfold cj
 rw [show q94.num.natAbs=9 from rfl,show q94.den=4 from rfl,xU,xV]
 exact ⟨rfl,rfl⟩
theorem zD:eE q94=q32:=by
 unfold eE
 rw [show q94.num.natAbs=9 from rfl,show q94.den=4 from rfl,xU,xV]
 decide+kernel
theorem A0:((flN 2 q1c:Nat):Rat)*q1c=BI:=by
 unfold flN uN uD
 rw [show (2:Rat).num.natAbs*q1c.den*q1c.den / ((2:Rat).den*q1c.num.natAbs*q1c.num.natAbs)=20000 by decide+kernel,du (r:=141) ⟨by decide,by decide⟩]
 decide+kernel
end T
namespace T
open Go.RowKit
theorem x6 (q:Rat) (h1:q.num.natAbs<1000000000000000000000 ) (h2:q.den<1000000000000000000000):Bq 90 q :=
 (show Bq 21 q from ⟨h1,h2⟩).up (by decide)
theorem mx4 (W:World):(Builtin.max_ #[26,26,26,26] 26 #[.int .i64 0,.int .i64 0,.int .i64 0,.int .i64 0]).run Tryz.prog W = .ok (.int .i64 0) W:=by kernel_rfl
theorem tz (w:World) (ht:Tab w) (ht2:aW w) (hS:Sm w):Calls Tryz.prog 6 #[] w fun e W'=>e = .returned (.bool true)∧Below w.heap.size w W':=by
 have n8:(0:Rat)≤8:=by decide
 have o1:=fun W (h:Below w.heap.size w W)=>nE 8 W n8 (x6 _ (by decide+kernel) (by decide+kernel)) (ht.next h) (ai ht2 h) (hS.next h)
 rw [xZ.1,xZ.2,s_8,s_2,show aa ((2:Nat):Int)=⟨#[50]⟩ from oP (by decide+kernel)] at o1
 have o2:=fun W (h:Below w.heap.size w W)=>nE q12 W (by decide+kernel) (x6 _ (by decide+kernel) (by decide+kernel)) (ht.next h) (ai ht2 h) (hS.next h)
 rw [ut.1,ut.2,BR,show aa ((2:Nat):Int)=⟨#[50]⟩ from oP (by decide+kernel)] at o2
 have o3:=fun W (h:Below w.heap.size w W)=>oV q94 W (by decide+kernel) (x6 _ (by decide+kernel) (by decide+kernel)) AZ (ht.next h) (ai ht2 h)
 rw [zD,BS,BU] at o3
 have o4:=fun W (h:Below w.heap.size w W)=>zh 2 q1c W (by decide) (by decide+kernel) (x6 _ (by decide+kernel) (by decide+kernel)) (x6 _ (by decide+kernel) (by decide+kernel)) (ht.next h) (ai ht2 h)
 rw [A0,s_2,BV,BJ] at o4
 have O:=Ha (Hb o1 (Hb o2 (Hb o3 o4)));clear o1 o2 o3 o4 ht ht2 hS n8
 have hm:=mx4
 go_enter Tryz.func6,Tryz.ntmps6
 go_wp2_with fail
 refine (O.out.1 _ (Below.refl _ _)).mono ?_
 rintro e v1 ⟨rfl,b⟩
 have B1:=Ha b;clear b
 go_wp2_with fail
 refine (O.out.2.1 _ B1.out).mono ?_
 rintro e v2 ⟨rfl,b⟩
 have B2:=Ha (B1.out.trans (b.mono B1.out.size));clear b B1
 go_wp2_with fail
 refine (O.out.2.2.1 _ B2.out).mono ?_
 rintro e v3 ⟨rfl,b⟩
 have B3:=Ha (B2.out.trans (b.mono B2.out.size));clear b B2
 go_wp2_with fail
 refine (O.out.2.2.2 _ B3.out).mono ?_
 rintro e v4 ⟨rfl,b⟩
 have B4:=Ha (B3.out.trans (b.mono B3.out.size));clear b B3
 go_wp2
 go_ret
 exact ⟨rfl,B4.out⟩
end T
namespace T
open Go.RowKit
theorem A1 (p q:ByteArray) (w:World)
  (h0:∀ (b:Nat) W,Sl W b [p,q]→Below w.heap.size w W→Calls Tryz.prog 5 #[.slice (some ⟨b,0,none⟩) 2 2] W fun e W'=>e = .returned (.bool true)∧Below W.heap.size W W')
  (h1:∀ W,Below w.heap.size w W→Calls Tryz.prog 6 #[] W fun e W'=>e = .returned (.bool true)∧Below W.heap.size W W')
  : Calls Tryz.prog 3 #[.string p,.string q] w fun e W'=>e = .returned (.bool true)∧Below w.heap.size w W':=by
 have H0:=Ha h0;clear h0
 have O:=Ha (h1);clear h1
 go_enter Tryz.func3,Tryz.ntmps3
 go_wp2_with fail
 have hS1:=Sl.new2 w p q 22
 have BB:=Ha ((Below.refl _ w).alloc (Nat.le_refl _) (.cells #[.string p,.string q] 22))
 generalize w.alloc (.cells #[.string p,.string q] 22)=v0 at *
 generalize hk0:w.heap.size=k0 at hS1
 refine (H0.out _ _ hS1 BB.out).mono ?_
 rintro e v1 ⟨rfl,b⟩
 have HB:=Ha (BB.out.trans (b.mono BB.out.size));clear b BB hS1 hk0 H0
 go_wp2_with fail
 refine (O.out _ HB.out).mono ?_
 rintro e w1 ⟨rfl,b⟩
 replace HB:=Ha (HB.out.trans (b.mono HB.out.size));clear b
 go_wp2
 go_ret
 exact ⟨rfl,HB.out⟩
theorem zE (p q A B X U:ByteArray) (E F I:Int) (g h:Bool) (w:World)
  (h0:∀ (b:Nat) W,Sl W b [p,q]→Below w.heap.size w W→Calls Tryz.prog 5 #[.slice (some ⟨b,0,none⟩) 2 2] W fun e W'=>e = .returned (.bool false)∧Below W.heap.size W W')
  (h1:∀ W,Below w.heap.size w W→Calls Tryz.prog 7 #[.string q] W fun e W'=>e = .returned (.tuple #[.string A,.string B,.int .i64 E])∧Below W.heap.size W W')
  (h2:∀ W,Below w.heap.size w W→Calls Tryz.prog 8 #[.string q] W fun e W'=>e = .returned (.tuple #[.string A,.string B,.int .i64 E])∧Below W.heap.size W W')
  (h3:∀ W,Below w.heap.size w W→Calls Tryz.prog 9 #[.string q] W fun e W'=>e = .returned (.tuple #[.string X,.bool g,.int .i64 F])∧Below W.heap.size W W')
  (h4:∀ W,Below w.heap.size w W→Calls Tryz.prog 10 #[.string q] W fun e W'=>e = .returned (.tuple #[.string X,.bool g,.int .i64 F])∧Below W.heap.size W W')
  (h5:∀ W,Below w.heap.size w W→Calls Tryz.prog 11 #[.string p,.string q] W fun e W'=>e = .returned (.tuple #[.string U,.bool h,.int .i64 I])∧Below W.heap.size W W')
  (h6:∀ W,Below w.heap.size w W→Calls Tryz.prog 12 #[.string p,.string q] W fun e W'=>e = .returned (.tuple #[.string U,.bool h,.int .i64 I])∧Below W.heap.size W W')
  (h7:∀ W,Below w.heap.size w W→Calls Tryz.prog 6 #[] W fun e W'=>e = .returned (.bool true)∧Below W.heap.size W W')
  : Calls Tryz.prog 3 #[.string p,.string q] w fun e W'=>e = .returned (.bool true)∧Below w.heap.size w W':=by
 have H0:=Ha h0;clear h0
 have O:=Ha (Hb h1 (Hb h2 (Hb h3 (Hb h4 (Hb h5 (Hb h6 (h7)))))));clear h1 h2 h3 h4 h5 h6 h7
 go_enter Tryz.func3,Tryz.ntmps3
 go_wp2_with fail
 have hS1:=Sl.new2 w p q 22
 have BB:=Ha ((Below.refl _ w).alloc (Nat.le_refl _) (.cells #[.string p,.string q] 22))
 generalize w.alloc (.cells #[.string p,.string q] 22)=v0 at *
 generalize hk0:w.heap.size=k0 at hS1
 refine (H0.out _ _ hS1 BB.out).mono ?_
 rintro e v1 ⟨rfl,b⟩
 have HB:=Ha (BB.out.trans (b.mono BB.out.size));clear b BB hS1 hk0 H0
 go_wp2_with fail
 refine (O.out.1 _ HB.out).mono ?_
 rintro e w1 ⟨rfl,b⟩
 replace HB:=Ha (HB.out.trans (b.mono HB.out.size));clear b
 go_wp2_with fail
 refine (O.out.2.1 _ HB.out).mono ?_
 rintro e w2 ⟨rfl,b⟩
 replace HB:=Ha (HB.out.trans (b.mono HB.out.size));clear b
 go_wp2_with fail
 refine (O.out.2.2.1 _ HB.out).mono ?_
 rintro e w3 ⟨rfl,b⟩
 replace HB:=Ha (HB.out.trans (b.mono HB.out.size));clear b
 go_wp2_with fail
 refine (O.out.2.2.2.1 _ HB.out).mono ?_
 rintro e w4 ⟨rfl,b⟩
 replace HB:=Ha (HB.out.trans (b.mono HB.out.size));clear b
 go_wp2_with fail
 refine (O.out.2.2.2.2.1 _ HB.out).mono ?_
 rintro e w5 ⟨rfl,b⟩
 replace HB:=Ha (HB.out.trans (b.mono HB.out.size));clear b
 go_wp2_with fail
 refine (O.out.2.2.2.2.2.1 _ HB.out).mono ?_
 rintro e w6 ⟨rfl,b⟩
 replace HB:=Ha (HB.out.trans (b.mono HB.out.size));clear b
 go_wp2_with fail
 refine (O.out.2.2.2.2.2.2 _ HB.out).mono ?_
 rintro e w7 ⟨rfl,b⟩
 replace HB:=Ha (HB.out.trans (b.mono HB.out.size));clear b
 go_wp2
 go_ret
 exact ⟨rfl,HB.out⟩
end T
end Go.Proofs.YtjdomibbaemdnaaGreatDoor
