/- Parts of the proof of the text YtocalfjfjjljnaaGreatDoorZOD2. -/
import Derived.Test.YtocalfjfjjljnaaGreatDoorRows
import Derived.Test.YtocalfjfjjljnaaGreatDoorZO46
import Derived.Test.YtocalfjfjjljnaaGreatDoorCards
import Derived.Test.YtocalfjfjjljnaaGreatDoorTie
import Derived.ProofKit
import Derived.LaidMore
import Derived.OpenShut
import Derived.Stop.Joined
import Derived.Stop.LaidErr
import Derived.SevenTiedAt
import Derived.Below
import Derived.RowKitTokens
import Derived.Test.YtocalfjfjjljnaaGreatDoorZO1
import Derived.Test.YtocalfjfjjljnaaGreatDoorZO24
import Derived.Test.YtocalfjfjjljnaaGreatDoorZO25
import Derived.Test.YtocalfjfjjljnaaGreatDoorZO3
import Derived.Test.YtocalfjfjjljnaaGreatDoorZO37
import Derived.Test.YtocalfjfjjljnaaGreatDoorZO40
import Derived.Test.YtocalfjfjjljnaaGreatDoorZO43
import Derived.Test.YtocalfjfjjljnaaGreatDoorZO44
import Derived.Test.YtocalfjfjjljnaaGreatDoorZO8
set_option linter.all false
set_option maxRecDepth 100000
set_option maxHeartbeats 8000000
namespace Go.Proofs.YtocalfjfjjljnaaGreatDoor
section
open Go.ChangeShapes Go.WideShapes Go.ChangeAt Go.RowKit
theorem own:ownKnob Tryz.prog.godebug=none:=by kernel_rfl
theorem zP:Tryz.prog.globalNamed "math/bits.deBruijn64tab" = some 4:=by kernel_rfl
theorem uz:(Rows.laid_math_bits_deBruijn64tab:DataW Unit)=Lib.tabData .u8 (Lib.deBruijn64tab.map fun n:Nat=>(n:Int)):=rfl
theorem zQ {W:World} (h:Lib.TabIs Tryz.prog W "math/bits.deBruijn64tab" .u8 (Lib.deBruijn64tab.map fun n:Nat=>(n:Int))):cE W:=by
 intro j hj
 unfold Lib.TabIs World.var? at h
 rw [zP] at h
 unfold World.cell?
 cases hh:W.heap[4]? with
 | none=>simp [hh] at h
 | some o =>
  cases o with
  | cells cs t f =>
   have h1:some cs=some ((Lib.deBruijn64tab.map fun n:Nat=>(n:Int)).map fun z=>Value.int .u8 z).toArray:=by
    rw [←h];simp only [Option.bind_some,hh]
   have h2:=Option.some.inj h1
   subst h2
   have hj':j<64:=hj
   simp only [List.map_map,List.getElem?_toArray,List.getElem?_map]
   rw [List.getD_eq_getElem?_getD,List.getElem?_eq_getElem hj]
   rfl
  | _=>simp [hh] at h
section
variable {H:Type} {enc:TypeId × Value→H} {P:Program} {w:World} {base:Nat} {spare:Nat→Bool} {held:Bool}
end
def km:List (String × DataW Unit) := [("math/bits.deBruijn32tab", Rows.laid_math_bits_deBruijn32tab),("math/bits.deBruijn64tab", Rows.laid_math_bits_deBruijn64tab),("internal/strconv.uint64pow10", Rows.laid_internal_strconv_uint64pow10),("strconv.ErrRange", Rows.laid_strconv_ErrRange),("strconv.ErrSyntax", Rows.laid_strconv_ErrSyntax)]
theorem xn (os:Os) (args:Array Value):laidMetH Tryz.prog km ((World.doorLaid Tryz.prog 400 os).forCall (fun _ _=>0) ⟨#[],args,[]⟩).memory :=
 laidMetH_of_parts3 (fuel:=8) (laidMet_of_run' 8 (by kernel_rfl) (by kernel_rfl)) (by kernel_rfl) (by kernel_rfl)
theorem qY {W:World} (h:laidMetH Tryz.prog km W):laidMet Tryz.prog km W:=by
 rwa [MakeChecks.laidMetH_plain _ _ _ (by kernel_rfl)] at h
theorem qZ {W:World} (h:laidMetH Tryz.prog km W):Tab W:=by
 have h2:laidMet Tryz.prog (("internal/strconv.uint64pow10", Lib.tabData .u64 Lib.pow10Tab) :: [("strconv.ErrRange", Rows.laid_strconv_ErrRange),("strconv.ErrSyntax", Rows.laid_strconv_ErrSyntax)]) W:=laidMet.tail (laidMet.tail (qY h))
 exact Lib.tabIs_of_head Cv (t:=208) (e:=156) (n:=20) (by kernel_rfl) (by kernel_rfl) (by kernel_rfl) (by kernel_rfl) (by kernel_rfl) h2
theorem oW {W:World} (h:laidMetH Tryz.prog km W):cE W:=by
 have h2:=laidMet.tail (qY h)
 rw [uz] at h2
 exact zQ (Lib.tabIs_of_head zP (t:=223) (e:=5) (n:=64) (by kernel_rfl) (by kernel_rfl) (by kernel_rfl) (by kernel_rfl) (by kernel_rfl) h2)
theorem vG : "*" ++ "errors.errorString" = "*errors.errorString" := by decide
theorem zR (u:TypeId) (h:Tryz.prog.typeName? 3 u=some "*errors.errorString"):u=233 :=
 typeName_ptr_named (nm := "errors.errorString") (by rw [vG];kernel_rfl) (by kernel_rfl) (by decide) u (by rw [vG];exact h)
theorem D6:Tryz.prog.globalNamed "strconv.ErrRange" = some 3:=by kernel_rfl
theorem q6 {W:World} (h:laidMetH Tryz.prog km W):sw W:=by
 have h2:laidMet Tryz.prog (("strconv.ErrRange", .iface "*errors.errorString" (.ptr (.agg [.lit (.string [118,97,108,117,101,32,111,117,116,32,111,102,32,114,97,110,103,101])]))) :: [("strconv.ErrSyntax", Rows.laid_strconv_ErrSyntax)]) W:=laidMet.tail (laidMet.tail (laidMet.tail (qY h)))
 obtain ⟨a,s,hv,_⟩:=laid_sentinel (ti:=88) (tp:=233) (te:=235) (ts:=9) h2 D6 (by kernel_rfl) Tryz.underlying88 zR Tryz.underlying233 Tryz.underlying235 rfl rfl Tryz.underlying9 (by kernel_rfl) (by kernel_rfl)
 refine ⟨.iface 233 (.pointer (some a)),?_,.inr ⟨_,_,rfl⟩⟩
 have:=World.var?_cell D6 hv 0
 simpa using this
end
namespace T
open Go.Proofs.YtocalfjfjjljnaaGreatDoor Go.ChangeShapes Go.WideShapes Go.ChangeAt Go.RowKit
theorem Cd:Tryz.prog.globalNamed "strconv.ErrSyntax" = some 2:=by kernel_rfl
theorem errS_of_laid5 {W:World} (h:laidMetH Tryz.prog km W):sL W:=by
 have h2:laidMet Tryz.prog [("strconv.ErrSyntax", .iface "*errors.errorString" (.ptr (.agg [.lit (.string [105,110,118,97,108,105,100,32,115,121,110,116,97,120])])))] W:=laidMet.tail (laidMet.tail (laidMet.tail (laidMet.tail (qY h))))
 obtain ⟨a,s,hv,_⟩:=laid_sentinel (ti:=88) (tp:=233) (te:=235) (ts:=9) h2 Cd (by kernel_rfl) Tryz.underlying88 zR Tryz.underlying233 Tryz.underlying235 rfl rfl Tryz.underlying9 (by kernel_rfl) (by kernel_rfl)
 refine ⟨.iface 233 (.pointer (some a)),?_,.inr ⟨_,_,rfl⟩⟩
 have:=World.var?_cell Cd hv 0
 simpa using this
end T
namespace T
open Go.RowKit
theorem Ek (W:World):(Builtin.max_ #[25,25,25,25] 25 #[.int .i64 0,.int .i64 0,.int .i64 0,.int .i64 0]).run Tryz.prog W = .ok (.int .i64 0) W:=by kernel_rfl
theorem s5  (w:World)
  (h1:∀ W,Below w.heap.size w W→Calls Tryz.prog 16 #[.string ⟨#[53,47,50]⟩,.int .i64 0] W fun e W'=>e = .returned (.tuple #[.string ⟨#[51]⟩,.int .i64 0])∧Below W.heap.size W W')
  (h2:∀ W,Below w.heap.size w W→Calls Tryz.prog 16 #[.string ⟨#[45,53,47,50]⟩,.int .i64 0] W fun e W'=>e = .returned (.tuple #[.string ⟨#[45,50]⟩,.int .i64 0])∧Below W.heap.size W W')
  (h3:∀ W,Below w.heap.size w W→Calls Tryz.prog 16 #[.string ⟨#[49,47,51]⟩,.int .i64 2] W fun e W'=>e = .returned (.tuple #[.string ⟨#[48,46,51,51]⟩,.int .i64 0])∧Below W.heap.size W W')
  (h4:∀ W,Below w.heap.size w W→Calls Tryz.prog 6 #[.string ⟨#[49,48,48,48]⟩] W fun e W'=>e = .returned (.tuple #[.string ⟨#[51,39,51,34,52]⟩,.int .i64 0])∧Below W.heap.size W W')
  (h5:∀ W,Below w.heap.size w W→Calls Tryz.prog 8 #[.string ⟨#[48,39,49,34,48]⟩] W fun e W'=>e = .returned (.tuple #[.string ⟨#[49,50,55,47,53]⟩,.int .i64 0])∧Below W.heap.size W W')
  : Calls Tryz.prog 5 #[] w fun e W'=>e = .returned (.bool true)∧Below w.heap.size w W':=by
 have O:=Ha (Hb h1 (Hb h2 (Hb h3 (Hb h4 (h5)))));clear h1 h2 h3 h4 h5
 have hm4:=Ek
 go_enter Tryz.func5,Tryz.ntmps5
 have HB:=Ha (Below.refl w.heap.size w)
 go_wp2_with fail
 refine (O.out.1 _ HB.out).mono ?_
 rintro e w1 ⟨rfl,b⟩
 replace HB:=Ha (HB.out.trans (b.mono HB.out.size));clear b
 go_wp2_with fail
 refine (O.out.2.1 _ HB.out).mono ?_
 rintro e w2 ⟨rfl,b⟩
 replace HB:=Ha (HB.out.trans (b.mono HB.out.size));clear b
 go_wp2_with fail
 refine (O.out.2.2.1 _ HB.out).mono ?_
 rintro e w3 ⟨rfl,b⟩
 replace HB:=Ha (HB.out.trans (b.mono HB.out.size));clear b
 go_wp2_with fail
 refine (O.out.2.2.2.1 _ HB.out).mono ?_
 rintro e w4 ⟨rfl,b⟩
 replace HB:=Ha (HB.out.trans (b.mono HB.out.size));clear b
 go_wp2_with fail
 refine (O.out.2.2.2.2 _ HB.out).mono ?_
 rintro e w5 ⟨rfl,b⟩
 replace HB:=Ha (HB.out.trans (b.mono HB.out.size));clear b
 go_wp2
 go_ret
 exact ⟨rfl,HB.out⟩
theorem uA (w:World) (T:TabM w):Calls Tryz.prog 5 #[] w fun e W'=>e = .returned (.bool true)∧Below w.heap.size w W':=by
 have b1:Bq 90 (mkRat 5 2):=by constructor <;> decide+kernel
 have b2:Bq 90 (mkRat (-5) 2):=by constructor <;> decide+kernel
 have b3:Bq 90 (mkRat 1 3):=by constructor <;> decide+kernel
 have b4:Bq 90 1000:=by constructor <;> decide+kernel
 refine s5 w (fun W hW => ?_) (fun W hW => ?_) (fun W hW => ?_) (fun W hW => ?_) (fun W hW => ?_)
 ·have c:=qi (mkRat 5 2) 0 W b1 (by decide) (T.next hW)
  rwa [show ag (mkRat 5 2)=⟨#[53,47,50]⟩ by decide+kernel,show nr (mkRat 5 2*pw 0)=3 by decide+kernel,show bO (xC 0 3)=⟨#[51]⟩ by decide+kernel] at c
 ·have c:=qi (mkRat (-5) 2) 0 W b2 (by decide) (T.next hW)
  rwa [show ag (mkRat (-5) 2)=⟨#[45,53,47,50]⟩ by decide+kernel,show nr (mkRat (-5) 2*pw 0) = -2 by decide+kernel,show bO (xC 0 (-2))=⟨#[45,50]⟩ by decide+kernel] at c
 ·have c:=qi (mkRat 1 3) 2 W b3 (by decide) (T.next hW)
  rwa [show ag (mkRat 1 3)=⟨#[49,47,51]⟩ by decide+kernel,show nr (mkRat 1 3*pw 2)=33 by decide+kernel,show bO (xC 2 33)=⟨#[48,46,51,51]⟩ by decide+kernel] at c
 ·have c:=yf 1000 W b4 (T.next hW)
  rwa [show ag 1000=⟨#[49,48,48,48]⟩ by decide+kernel,show nr (1000 / tw)=472 by decide+kernel,show bO (ftT 472)=⟨#[51,39,51,34,52]⟩ by decide+kernel] at c
 ·have c:=Al 12 W (by show Int.natAbs 12<aA 80;exact Nat.lt_of_lt_of_le (show 12<aA 2 by decide) (ay (by decide))) (T.next hW)
  rwa [show bO (ftT 12)=⟨#[48,39,49,34,48]⟩ by decide+kernel,show ag (((12:Int):Rat)*tw)=⟨#[49,50,55,47,53]⟩ by decide+kernel] at c
end T
namespace T
open Go.RowKit
theorem s6 {s:ByteArray} (h:s.size=0):wl s.data.toList = []:=by
 rw [cQ h];rfl
theorem q7 (s:ByteArray) (w:World) (h:s.size=0) (he:s.toList.isEmpty=true) :
  Calls Tryz.prog 11 #[.string s] w fun e W'=>e = .returned (.tuple #[.slice none 0 0,.int .i64 0])∧Below w.heap.size w W':=by
 go_enter Tryz.func11,Tryz.ntmps11
 go_wp2
 go_rounds 1
 all_goals go_ret2
 all_goals exact ⟨rfl,Below.refl _ _⟩
theorem s7 (s:ByteArray) (w:World) (s1:(65536:Int)<s.size) :
  Calls Tryz.prog 11 #[.string s] w fun e W'=>e = .returned (.tuple #[.slice none 0 0,.int .i64 4])∧Below w.heap.size w W':=by
 go_enter Tryz.func11,Tryz.ntmps11
 go_wp2
 go_ret2
 exact ⟨rfl,Below.refl _ _⟩
theorem uB (s:ByteArray) (w:World) (hs:s.size≤1000) (h:∃ x∈wl s.data.toList,dy dn x.data.toList=false) :
  Calls Tryz.prog 11 #[.string s] w fun e W'=>e = .returned (.tuple #[.slice none 0 0,.int .i64 3])∧Below w.heap.size w W':=by
 have h0:0<s.size:=Nat.pos_of_ne_zero fun z=>by
  obtain ⟨x,hx,_⟩:=h
  rw [s6 z] at hx;cases hx
 refine (pB s w hs h0).mono ?_
 rintro e W' ⟨hB,(⟨rfl,_⟩ | ⟨v,_,hg,_⟩)⟩
 ·exact ⟨rfl,hB⟩
 ·obtain ⟨x,hx,hb⟩:=h
  rw [hg x hx] at hb;cases hb
theorem s8 (s:ByteArray) (w:World) (hs:s.size≤1000) (h:∀ x∈wl s.data.toList,dy dn x.data.toList=true) :
  Calls Tryz.prog 11 #[.string s] w fun e W'=>∃ v,e = .returned (.tuple #[v,.int .i64 0])∧QW s v W'∧Below w.heap.size w W':=by
 by_cases h0:s.size=0
 ·exact (q7 s w h0 (sI (cQ h0))).mono fun e W' ⟨he,hb⟩=>⟨_,he,.inl ⟨_,_,rfl,s6 h0⟩,hb⟩
 refine (pB s w hs (by omega)).mono ?_
 rintro e W' ⟨hB,(⟨_,x,hx,hb⟩ | ⟨v,rfl,_,hr⟩)⟩
 ·rw [h x hx] at hb;cases hb
 ·exact ⟨v,rfl,BU hr,hB⟩
theorem uC (b b' n c c':Nat) (xs:Nat→ByteArray) (w:World) (h16:n≤2000) (hc1:n≤c) (hc2:n≤c') (hb:b<w.heap.size∧b'<w.heap.size)
  (hc:∀ j,j<n→w.cell? ⟨b,j,none⟩=some (.string (xs j))) (hd:∀ j,j<n→w.cell? ⟨b',j,none⟩=some (.string (xs j))) :
  Calls Tryz.prog 12 #[.slice (some ⟨b,0,none⟩) n c,.slice (some ⟨b',0,none⟩) n c'] w fun e W'=>e = .returned (.bool true)∧Below w.heap.size w W':=by
 have O:=Ha (Hb hc hd);clear hc hd
 have HB0:=Ha (Below.refl w.heap.size w)
 go_enter Tryz.func12,Tryz.ntmps12
 go_wp2
 go_loopw [5] (fun i wr=>∃ j:Nat,i = .int .i64 j∧j≤n∧Hid (Below w.heap.size w wr)) (fun i _=>n - (intOf i).toNat)
 case atStart=>exact ⟨0,rfl,by omega,HB0⟩
 case round =>
  obtain ⟨j,rfl,hj,HB⟩:=hrel
  clear HB0
  by_cases hlt:j<n
  ·have hz:(j:Int)<n:=by omega
   have hz1:(j:Int)<c:=by omega
   have hz2:(j:Int)<c':=by omega
   have hz3:(0:Int)≤j:=by omega
   have d0:=(HB.out.drew.cell (p:=⟨b,j,none⟩) hb.1).trans (O.out.1 j hlt)
   have f0:=(HB.out.drew.cell (p:=⟨b',j,none⟩) hb.2).trans (O.out.2 j hlt)
   generalize xs j=cj at *
   go_wp2
   go_region_held3 (fun w'=>w'.cell? ⟨b,j,none⟩=some (.string cj)∧w'.cell? ⟨b',j,none⟩=some (.string cj)) (first | exact ⟨d0,f0⟩ | (go_keep;done)) (first | fail)
   all_goals
    go_wp2
    go_roundw
    case rel=>exact ⟨j+1,by go_num,by omega,HB.out.drew⟩
    case measure=>simp [intOf];omega
  ·have hz:¬ (j:Int)<n:=by omega
   go_wp2
   go_ret
   exact ⟨rfl,HB.out⟩
theorem pP (p p':Option Addr) (c c':Nat) (w:World) :
  Calls Tryz.prog 12 #[.slice p 0 c,.slice p' 0 c'] w fun e W'=>e = .returned (.bool true)∧Below w.heap.size w W':=by
 go_enter Tryz.func12,Tryz.ntmps12
 go_wp2
 go_rounds 1
 all_goals go_ret
 all_goals exact ⟨rfl,Below.refl _ _⟩
theorem D7 (s:ByteArray) (hs:s.size≤1000) (u v:Value) (w:World) (hu:QW s u w) (hv:QW s v w) :
  Calls Tryz.prog 12 #[u,v] w fun e W'=>e = .returned (.bool true)∧Below w.heap.size w W':=by
 have hl:=yh s.data.toList
 have hls:s.data.toList.length=s.size:=rfl
 by_cases z:wl s.data.toList = []
 ·have e:∀ x:Value,QW s x w→∃ p c,x = .slice p 0 c:=fun x h=>by
   rcases h with ⟨a,c,e,_⟩ | ⟨g,cap,e,_⟩
   ·exact ⟨a,c,e⟩
   ·rw [z] at e;exact ⟨_,_,e⟩
  obtain ⟨p,c,rfl⟩:=e u hu
  obtain ⟨p',c',rfl⟩:=e v hv
  exact pP p p' c c' w
 ·rcases hu with ⟨_,_,_,k⟩ | ⟨g,cap,rfl,g1,g2,g3⟩
  ·exact absurd k z
  rcases hv with ⟨_,_,_,k⟩ | ⟨g',cap',rfl,g1',g2',g3'⟩
  ·exact absurd k z
  refine uC g g' _ cap cap' (fun j=>((wl s.data.toList)[j]?).getD ⟨#[]⟩) w (by omega) g2 g2' ⟨g1,g1'⟩ (fun j hj => ?_) (fun j hj => ?_)
  ·refine g3 j _ ?_
   rw [List.getElem?_eq_getElem hj];rfl
  ·refine g3' j _ ?_
   rw [List.getElem?_eq_getElem hj];rfl
theorem BH:∀ n,n<256→mA (UInt8.ofNat n)=kE (UInt8.ofNat n):=by decide+kernel
theorem BI (c:UInt8):mA c=kE c:=by
 have:=BH c.toNat (UInt8.toNat_lt c)
 rwa [UInt8.ofNat_toNat] at this
theorem vH (s:ByteArray):nmR s=nm s:=by
 have hls:s.data.toList.length=s.size:=rfl
 unfold nmR nm dy
 have e:s.data.toList.all mA=s.data.toList.all kE:=by
  congr 1;funext c;exact BI c
 rw [e]
 cases hd:s.data.toList with
 | nil =>
  rw [hd] at hls
  have:s.size=0:=by simpa using hls.symm
  rw [this];simp
 | cons a t =>
  rw [hd] at hls
  have:0<s.size:=by rw [←hls];simp
  rw [decide_eq_true this];simp
end T
namespace T
open Go.RowKit
theorem iX (a s x y:ByteArray) (n:Bool) (E G I:Int) (Q:Value→World→Prop) (w:World) (z1:¬ (120:Int)<s.size) (z3:¬ (65538:Int)<s.size) (x1:(x.toList==x.toList)=true) (y1:(y.toList==y.toList)=true) (E1:(E==E)=true) (G1:(G==G)=true) (I1:(I==I)=true) (n1:(n==n)=true)
  (h1:∀ W,Below w.heap.size w W→Calls Tryz.prog 4 #[.string a] W fun e W'=>e = .returned (.bool false)∧Below W.heap.size W W')
  (h2:∀ W,Below w.heap.size w W→Calls Tryz.prog 6 #[.string a] W fun e W'=>e = .returned (.tuple #[.string x,.int .i64 E])∧Below W.heap.size W W')
  (h3:∀ W,Below w.heap.size w W→Calls Tryz.prog 7 #[.string a] W fun e W'=>e = .returned (.tuple #[.string x,.int .i64 E])∧Below W.heap.size W W')
  (h4:∀ W,Below w.heap.size w W→Calls Tryz.prog 8 #[.string s] W fun e W'=>e = .returned (.tuple #[.string y,.int .i64 G])∧Below W.heap.size W W')
  (h5:∀ W,Below w.heap.size w W→Calls Tryz.prog 9 #[.string s] W fun e W'=>e = .returned (.tuple #[.string y,.int .i64 G])∧Below W.heap.size W W')
  (h6:∀ W,Below w.heap.size w W→Calls Tryz.prog 10 #[.string s] W fun e W'=>∃ v,e = .returned (.tuple #[v,.int .i64 I])∧Q v W'∧Below W.heap.size W W')
  (h7:∀ W,Below w.heap.size w W→Calls Tryz.prog 11 #[.string s] W fun e W'=>∃ v,e = .returned (.tuple #[v,.int .i64 I])∧Q v W'∧Below W.heap.size W W')
  (h8:∀ W u v,Below w.heap.size w W→Q u W→Q v W→Calls Tryz.prog 12 #[u,v] W fun e W'=>e = .returned (.bool true)∧Below W.heap.size W W')
  (h9:∀ W,Below w.heap.size w W→Calls Tryz.prog 13 #[.string s] W fun e W'=>e = .returned (.bool n)∧Below W.heap.size W W')
  (h10:∀ W,Below w.heap.size w W→Calls Tryz.prog 14 #[.string s] W fun e W'=>e = .returned (.bool n)∧Below W.heap.size W W')
  (h11:∀ W,Below w.heap.size w W→Calls Tryz.prog 5 #[] W fun e W'=>e = .returned (.bool true)∧Below W.heap.size W W')
  (h12:∀ v (W W':World),Q v W→Below W.heap.size W W'→Q v W')
  : Calls Tryz.prog 3 #[.string a,.string s] w fun e W'=>e = .returned (.bool true)∧Below w.heap.size w W':=by
 have O:=Ha (Hb h1 (Hb h2 (Hb h3 (Hb h4 (Hb h5 (Hb h6 (Hb h7 (Hb h8 (Hb h9 (Hb h10 (Hb h11 (h12))))))))))));clear h1 h2 h3 h4 h5 h6 h7 h8 h9 h10 h11 h12
 go_enter Tryz.func3,Tryz.ntmps3
 have HB:=Ha (Below.refl w.heap.size w)
 go_wp2_with fail
 refine (O.out.1 _ HB.out).mono ?_
 rintro e w1 ⟨rfl,b⟩
 replace HB:=Ha (HB.out.trans (b.mono HB.out.size));clear b
 go_wp2_with fail
 refine (O.out.2.1 _ HB.out).mono ?_
 rintro e w2 ⟨rfl,b⟩
 replace HB:=Ha (HB.out.trans (b.mono HB.out.size));clear b
 go_wp2_with fail
 refine (O.out.2.2.1 _ HB.out).mono ?_
 rintro e w3 ⟨rfl,b⟩
 replace HB:=Ha (HB.out.trans (b.mono HB.out.size));clear b
 go_wp2_with fail
 refine (O.out.2.2.2.1 _ HB.out).mono ?_
 rintro e w4 ⟨rfl,b⟩
 replace HB:=Ha (HB.out.trans (b.mono HB.out.size));clear b
 go_wp2_with fail
 refine (O.out.2.2.2.2.1 _ HB.out).mono ?_
 rintro e w5 ⟨rfl,b⟩
 replace HB:=Ha (HB.out.trans (b.mono HB.out.size));clear b
 go_wp2_with fail
 refine (O.out.2.2.2.2.2.1 _ HB.out).mono ?_
 rintro e w6 ⟨v6,rfl,q,b⟩
 have A:=Ha q;clear q
 replace HB:=Ha (HB.out.trans (b.mono HB.out.size));clear b
 go_wp2_with fail
 refine (O.out.2.2.2.2.2.2.1 _ HB.out).mono ?_
 rintro e w7 ⟨v7,rfl,q,b⟩
 have A':=Ha (O.out.2.2.2.2.2.2.2.2.2.2.2 _ _ _ A.out b);clear A;have A:=A';clear A'
 have B:=Ha q;clear q
 replace HB:=Ha (HB.out.trans (b.mono HB.out.size));clear b
 go_wp2_with fail
 refine (O.out.2.2.2.2.2.2.2.1 _ _ _ HB.out A.out B.out).mono ?_
 rintro e w8 ⟨rfl,b⟩
 clear A B
 replace HB:=Ha (HB.out.trans (b.mono HB.out.size));clear b
 go_wp2_with fail
 refine (O.out.2.2.2.2.2.2.2.2.1 _ HB.out).mono ?_
 rintro e w9 ⟨rfl,b⟩
 replace HB:=Ha (HB.out.trans (b.mono HB.out.size));clear b
 go_wp2_with fail
 refine (O.out.2.2.2.2.2.2.2.2.2.1 _ HB.out).mono ?_
 rintro e w10 ⟨rfl,b⟩
 replace HB:=Ha (HB.out.trans (b.mono HB.out.size));clear b
 go_wp2_with fail
 refine (O.out.2.2.2.2.2.2.2.2.2.2.1 _ HB.out).mono ?_
 rintro e w11 ⟨rfl,b⟩
 replace HB:=Ha (HB.out.trans (b.mono HB.out.size));clear b
 go_wp2
 go_ret
 exact ⟨rfl,HB.out⟩
theorem m8 (a s x y:ByteArray) (n:Bool) (E G I:Int) (Q:Value→World→Prop) (w:World) (z1:(120:Int)<s.size) (z2:¬ (s.size:Int)≤65536) (z3:¬ (65538:Int)<s.size) (x1:(x.toList==x.toList)=true) (y1:(y.toList==y.toList)=true) (E1:(E==E)=true) (G1:(G==G)=true) (I1:(I==I)=true) (n1:(n==n)=true)
  (h1:∀ W,Below w.heap.size w W→Calls Tryz.prog 4 #[.string a] W fun e W'=>e = .returned (.bool false)∧Below W.heap.size W W')
  (h2:∀ W,Below w.heap.size w W→Calls Tryz.prog 6 #[.string a] W fun e W'=>e = .returned (.tuple #[.string x,.int .i64 E])∧Below W.heap.size W W')
  (h3:∀ W,Below w.heap.size w W→Calls Tryz.prog 7 #[.string a] W fun e W'=>e = .returned (.tuple #[.string x,.int .i64 E])∧Below W.heap.size W W')
  (h4:∀ W,Below w.heap.size w W→Calls Tryz.prog 8 #[.string s] W fun e W'=>e = .returned (.tuple #[.string y,.int .i64 G])∧Below W.heap.size W W')
  (h5:∀ W,Below w.heap.size w W→Calls Tryz.prog 9 #[.string s] W fun e W'=>e = .returned (.tuple #[.string y,.int .i64 G])∧Below W.heap.size W W')
  (h6:∀ W,Below w.heap.size w W→Calls Tryz.prog 10 #[.string s] W fun e W'=>∃ v,e = .returned (.tuple #[v,.int .i64 I])∧Q v W'∧Below W.heap.size W W')
  (h7:∀ W,Below w.heap.size w W→Calls Tryz.prog 11 #[.string s] W fun e W'=>∃ v,e = .returned (.tuple #[v,.int .i64 I])∧Q v W'∧Below W.heap.size W W')
  (h8:∀ W u v,Below w.heap.size w W→Q u W→Q v W→Calls Tryz.prog 12 #[u,v] W fun e W'=>e = .returned (.bool true)∧Below W.heap.size W W')
  (h9:∀ W,Below w.heap.size w W→Calls Tryz.prog 13 #[.string s] W fun e W'=>e = .returned (.bool n)∧Below W.heap.size W W')
  (h10:∀ W,Below w.heap.size w W→Calls Tryz.prog 14 #[.string s] W fun e W'=>e = .returned (.bool n)∧Below W.heap.size W W')
  (h11:∀ W,Below w.heap.size w W→Calls Tryz.prog 5 #[] W fun e W'=>e = .returned (.bool true)∧Below W.heap.size W W')
  (h12:∀ v (W W':World),Q v W→Below W.heap.size W W'→Q v W')
  : Calls Tryz.prog 3 #[.string a,.string s] w fun e W'=>e = .returned (.bool true)∧Below w.heap.size w W':=by
 have O:=Ha (Hb h1 (Hb h2 (Hb h3 (Hb h4 (Hb h5 (Hb h6 (Hb h7 (Hb h8 (Hb h9 (Hb h10 (Hb h11 (h12))))))))))));clear h1 h2 h3 h4 h5 h6 h7 h8 h9 h10 h11 h12
 go_enter Tryz.func3,Tryz.ntmps3
 have HB:=Ha (Below.refl w.heap.size w)
 go_wp2_with fail
 refine (O.out.1 _ HB.out).mono ?_
 rintro e w1 ⟨rfl,b⟩
 replace HB:=Ha (HB.out.trans (b.mono HB.out.size));clear b
 go_wp2_with fail
 refine (O.out.2.1 _ HB.out).mono ?_
 rintro e w2 ⟨rfl,b⟩
 replace HB:=Ha (HB.out.trans (b.mono HB.out.size));clear b
 go_wp2_with fail
 refine (O.out.2.2.1 _ HB.out).mono ?_
 rintro e w3 ⟨rfl,b⟩
 replace HB:=Ha (HB.out.trans (b.mono HB.out.size));clear b
 go_wp2_with fail
 refine (O.out.2.2.2.1 _ HB.out).mono ?_
 rintro e w4 ⟨rfl,b⟩
 replace HB:=Ha (HB.out.trans (b.mono HB.out.size));clear b
 go_wp2_with fail
 refine (O.out.2.2.2.2.1 _ HB.out).mono ?_
 rintro e w5 ⟨rfl,b⟩
 replace HB:=Ha (HB.out.trans (b.mono HB.out.size));clear b
 go_wp2_with fail
 refine (O.out.2.2.2.2.2.1 _ HB.out).mono ?_
 rintro e w6 ⟨v6,rfl,q,b⟩
 have A:=Ha q;clear q
 replace HB:=Ha (HB.out.trans (b.mono HB.out.size));clear b
 go_wp2_with fail
 refine (O.out.2.2.2.2.2.2.1 _ HB.out).mono ?_
 rintro e w7 ⟨v7,rfl,q,b⟩
 have A':=Ha (O.out.2.2.2.2.2.2.2.2.2.2.2 _ _ _ A.out b);clear A;have A:=A';clear A'
 have B:=Ha q;clear q
 replace HB:=Ha (HB.out.trans (b.mono HB.out.size));clear b
 go_wp2_with fail
 refine (O.out.2.2.2.2.2.2.2.1 _ _ _ HB.out A.out B.out).mono ?_
 rintro e w8 ⟨rfl,b⟩
 clear A B
 replace HB:=Ha (HB.out.trans (b.mono HB.out.size));clear b
 go_wp2_with fail
 refine (O.out.2.2.2.2.2.2.2.2.1 _ HB.out).mono ?_
 rintro e w9 ⟨rfl,b⟩
 replace HB:=Ha (HB.out.trans (b.mono HB.out.size));clear b
 go_wp2_with fail
 refine (O.out.2.2.2.2.2.2.2.2.2.1 _ HB.out).mono ?_
 rintro e w10 ⟨rfl,b⟩
 replace HB:=Ha (HB.out.trans (b.mono HB.out.size));clear b
 go_wp2_with fail
 refine (O.out.2.2.2.2.2.2.2.2.2.2.1 _ HB.out).mono ?_
 rintro e w11 ⟨rfl,b⟩
 replace HB:=Ha (HB.out.trans (b.mono HB.out.size));clear b
 go_wp2
 go_ret
 exact ⟨rfl,HB.out⟩
theorem m9 (a s:ByteArray) (w:World)
  (h1:∀ W,Below w.heap.size w W→Calls Tryz.prog 4 #[.string a] W fun e W'=>e = .returned (.bool true)∧Below W.heap.size W W')
  (h2:∀ W,Below w.heap.size w W→Calls Tryz.prog 5 #[] W fun e W'=>e = .returned (.bool true)∧Below W.heap.size W W')
  : Calls Tryz.prog 3 #[.string a,.string s] w fun e W'=>e = .returned (.bool true)∧Below w.heap.size w W':=by
 have O:=Ha (Hb h1 h2);clear h1 h2
 go_enter Tryz.func3,Tryz.ntmps3
 have HB:=Ha (Below.refl w.heap.size w)
 go_wp2_with fail
 refine (O.out.1 _ HB.out).mono ?_
 rintro e w1 ⟨rfl,b⟩
 replace HB:=Ha (HB.out.trans (b.mono HB.out.size));clear b
 go_wp2_with fail
 refine (O.out.2 _ HB.out).mono ?_
 rintro e w2 ⟨rfl,b⟩
 replace HB:=Ha (HB.out.trans (b.mono HB.out.size));clear b
 go_wp2
 go_ret
 exact ⟨rfl,HB.out⟩
theorem nc (a s:ByteArray) (w:World) (z1:(120:Int)<s.size) (z2:(s.size:Int)≤65536)
  (h1:∀ W,Below w.heap.size w W→Calls Tryz.prog 4 #[.string a] W fun e W'=>e = .returned (.bool false)∧Below W.heap.size W W')
  (h2:∀ W,Below w.heap.size w W→Calls Tryz.prog 5 #[] W fun e W'=>e = .returned (.bool true)∧Below W.heap.size W W')
  : Calls Tryz.prog 3 #[.string a,.string s] w fun e W'=>e = .returned (.bool true)∧Below w.heap.size w W':=by
 have O:=Ha (Hb h1 h2);clear h1 h2
 go_enter Tryz.func3,Tryz.ntmps3
 have HB:=Ha (Below.refl w.heap.size w)
 go_wp2_with fail
 refine (O.out.1 _ HB.out).mono ?_
 rintro e w1 ⟨rfl,b⟩
 replace HB:=Ha (HB.out.trans (b.mono HB.out.size));clear b
 go_wp2_with fail
 refine (O.out.2 _ HB.out).mono ?_
 rintro e w2 ⟨rfl,b⟩
 replace HB:=Ha (HB.out.trans (b.mono HB.out.size));clear b
 go_wp2
 go_ret
 exact ⟨rfl,HB.out⟩
theorem nf (a s:ByteArray) (w:World) (z1:(120:Int)<s.size) (z2:¬ (s.size:Int)≤65536) (z3:(65538:Int)<s.size)
  (h1:∀ W,Below w.heap.size w W→Calls Tryz.prog 4 #[.string a] W fun e W'=>e = .returned (.bool false)∧Below W.heap.size W W')
  (h2:∀ W,Below w.heap.size w W→Calls Tryz.prog 5 #[] W fun e W'=>e = .returned (.bool true)∧Below W.heap.size W W')
  : Calls Tryz.prog 3 #[.string a,.string s] w fun e W'=>e = .returned (.bool true)∧Below w.heap.size w W':=by
 have O:=Ha (Hb h1 h2);clear h1 h2
 go_enter Tryz.func3,Tryz.ntmps3
 have HB:=Ha (Below.refl w.heap.size w)
 go_wp2_with fail
 refine (O.out.1 _ HB.out).mono ?_
 rintro e w1 ⟨rfl,b⟩
 replace HB:=Ha (HB.out.trans (b.mono HB.out.size));clear b
 go_wp2_with fail
 refine (O.out.2 _ HB.out).mono ?_
 rintro e w2 ⟨rfl,b⟩
 replace HB:=Ha (HB.out.trans (b.mono HB.out.size));clear b
 go_wp2
 go_ret
 exact ⟨rfl,HB.out⟩
theorem MeasureOthers_any (a s:ByteArray) (w:World) (ha:a.size≤maxLen) (_hs:s.size≤maxLen) (T:TabM w) (hE:sw w) (hS:sL w) :
  Calls Tryz.prog 3 #[.string a,.string s] w fun e W'=>e = .returned (.bool true)∧Below w.heap.size w W':=by
 have hG:=fun W (hW:Below w.heap.size w W)=>uj a W ha (T.next hW)
 have hA:=fun W (hW:Below w.heap.size w W)=>uA W (T.next hW)
 by_cases hg:grM a=true
 ·rw [hg] at hG
  exact m9 a s w hG hA
 have hg:=Bool.eq_false_iff.2 hg
 rw [hg] at hG
 have F:∃ (x:ByteArray) (E:Int),(∀ W,Below w.heap.size w W→Calls Tryz.prog 6 #[.string a] W fun e W'=>e = .returned (.tuple #[.string x,.int .i64 E])∧Below W.heap.size W W') ∧
   (∀ W,Below w.heap.size w W→Calls Tryz.prog 7 #[.string a] W fun e W'=>e = .returned (.tuple #[.string x,.int .i64 E])∧Below W.heap.size W W'):=by
  by_cases hc:ckV a.data.toList=0
  ·obtain ⟨c1,c2⟩:=Cs hc
   have ea:=gP c1
   rw [ea]
   exact ⟨_,_,fun W hW=>yf _ W c2 (T.next hW),fun W hW=>AZ _ W c2 (T.next hW)⟩
  ·exact ⟨_,_,fun W hW=>zu a W ha hc (T.next hW),fun W hW=>wS a W ha hc (T.next hW)⟩
 obtain ⟨x,E,f1,f2⟩:=F
 have p1:=fun W (hW:Below w.heap.size w W)=>wU s W (T.next hW)
 have p2:=fun W (hW:Below w.heap.size w W)=>Br s W (T.next hW) (bZ hE hW) (ch hS hW)
 have n1:=fun W (_:Below w.heap.size w W)=>DR s W
 have nil8:∀ (W:World) (u v:Value),Below w.heap.size w W→(u = .slice none 0 0)→(v = .slice none 0 0)→Calls Tryz.prog 12 #[u,v] W fun e W'=>e = .returned (.bool true)∧Below W.heap.size W W':=fun W u v _ hu hv=>by
  rw [hu,hv];exact pP none none 0 0 W
 by_cases z1:120<s.size
 ·by_cases z2:s.size≤65536
  ·exact nc a s w (by omega) (by omega) hG hA
  ·by_cases z3:65538<s.size
   ·exact nf a s w (by omega) (by omega) (by omega) hG hA
   ·have n2:=fun W (_:Below w.heap.size w W)=>Cc s W (by omega)
    rw [vH] at n2
    exact m8 a s x _ (nm s) E _ 4 (fun v _=>v = .slice none 0 0) w (by omega) (by omega) (by omega) (beq_self_eq_true _) (beq_self_eq_true _) (beq_self_eq_true _) (beq_self_eq_true _) (beq_self_eq_true _) (beq_self_eq_true _) hG f1 f2 p1 p2
     (fun W _=>(tK s W (by omega)).mono fun e W' ⟨he,hb⟩=>⟨_,he,rfl,hb⟩) (fun W _=>(s7 s W (by omega)).mono fun e W' ⟨he,hb⟩=>⟨_,he,rfl,hb⟩) nil8 n1 n2 hA (fun _ _ _ h _=>h)
 ·have n2:=fun W (_:Below w.heap.size w W)=>Cc s W (by omega)
  rw [vH] at n2
  by_cases hw:∃ x∈wl s.data.toList,dy dn x.data.toList=false
  ·exact iX a s x _ (nm s) E _ 3 (fun v _=>v = .slice none 0 0) w (by omega) (by omega) (beq_self_eq_true _) (beq_self_eq_true _) (beq_self_eq_true _) (beq_self_eq_true _) (beq_self_eq_true _) (beq_self_eq_true _) hG f1 f2 p1 p2
    (fun W _=>(wq s W (by omega) hw).mono fun e W' ⟨he,hb⟩=>⟨_,he,rfl,hb⟩) (fun W _=>(uB s W (by omega) hw).mono fun e W' ⟨he,hb⟩=>⟨_,he,rfl,hb⟩) nil8 n1 n2 hA (fun _ _ _ h _=>h)
  ·have hw':∀ x∈wl s.data.toList,dy dn x.data.toList=true:=fun x hx=>by
    cases h:dy dn x.data.toList
    ·exact absurd ⟨x,hx,h⟩ hw
    ·rfl
   exact iX a s x _ (nm s) E _ 0 (fun v W=>QW s v W) w (by omega) (by omega) (beq_self_eq_true _) (beq_self_eq_true _) (beq_self_eq_true _) (beq_self_eq_true _) (beq_self_eq_true _) (beq_self_eq_true _) hG f1 f2 p1 p2
    (fun W _=>tJ s W (by omega) hw') (fun W _=>s8 s W (by omega) hw') (fun W u v _ hu hv=>D7 s (by omega) u v W hu hv) n1 n2 hA (fun _ _ _ h hb=>h.next hb)
end T
end Go.Proofs.YtocalfjfjjljnaaGreatDoor
