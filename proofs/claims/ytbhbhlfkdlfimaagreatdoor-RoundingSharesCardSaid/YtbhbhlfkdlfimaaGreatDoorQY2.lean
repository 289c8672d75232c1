/- Parts of the proofs of the texts YtbhbhlfkdlfimaaGreatDoorQY. -/
import Derived.Test.YtbhbhlfkdlfimaaGreatDoorQX1
import Derived.Test.YtbhbhlfkdlfimaaGreatDoorQX10
import Derived.Test.YtbhbhlfkdlfimaaGreatDoorQX11
import Derived.Test.YtbhbhlfkdlfimaaGreatDoorQX12
import Derived.Test.YtbhbhlfkdlfimaaGreatDoorQX13
import Derived.Test.YtbhbhlfkdlfimaaGreatDoorQX14
import Derived.Test.YtbhbhlfkdlfimaaGreatDoorQX15
import Derived.Test.YtbhbhlfkdlfimaaGreatDoorQX16
import Derived.Test.YtbhbhlfkdlfimaaGreatDoorQX17
import Derived.Test.YtbhbhlfkdlfimaaGreatDoorQX18
import Derived.Test.YtbhbhlfkdlfimaaGreatDoorQX19
import Derived.Test.YtbhbhlfkdlfimaaGreatDoorQX2
import Derived.Test.YtbhbhlfkdlfimaaGreatDoorQX20
import Derived.Test.YtbhbhlfkdlfimaaGreatDoorQX21
import Derived.Test.YtbhbhlfkdlfimaaGreatDoorQX22
import Derived.Test.YtbhbhlfkdlfimaaGreatDoorQX23
import Derived.Test.YtbhbhlfkdlfimaaGreatDoorQX24
import Derived.Test.YtbhbhlfkdlfimaaGreatDoorQX25
import Derived.Test.YtbhbhlfkdlfimaaGreatDoorQX3
import Derived.Test.YtbhbhlfkdlfimaaGreatDoorQX4
import Derived.Test.YtbhbhlfkdlfimaaGreatDoorQX5
import Derived.Test.YtbhbhlfkdlfimaaGreatDoorQX6
import Derived.Test.YtbhbhlfkdlfimaaGreatDoorQX7
import Derived.Test.YtbhbhlfkdlfimaaGreatDoorQX8
import Derived.Test.YtbhbhlfkdlfimaaGreatDoorQX9
import Derived.Test.YtbhbhlfkdlfimaaGreatDoorQY1
set_option linter.all false
set_option maxRecDepth 100000
set_option maxHeartbeats 8000000
namespace Go.Proofs.YtbhbhlfkdlfimaaGreatDoor
namespace T
open Go.RowKit
theorem EA {q:Rat} {n r:Nat} (h1:r*r≤uN q (uT n) / uD q (uT n)) (h2:uN q (uT n) / uD q (uT n)<(r+1)*(r+1)) (h3:¬ r*r*uD q (uT n)=uN q (uT n)):hiN q n=r+1:=by
 unfold hiN upR;rw [gn ⟨h1,h2⟩,if_neg h3]
theorem Hh {q:Rat} {n r:Nat} (h1:r*r≤uN q (uT n) / uD q (uT n)) (h2:uN q (uT n) / uD q (uT n)<(r+1)*(r+1)) (h3:r*r*uD q (uT n)=uN q (uT n)):hiN q n=r:=by
 unfold hiN upR;rw [gn ⟨h1,h2⟩,if_pos h3]
theorem C9 {s t:Tm} {a b:Int} (h1:rdT 4 s=a) (h2:rdT 4 t=b):(0<a+b→sgV [s,t]=1∧sgE [s,t]=0)∧(a+b+2≤0→sgV [s,t] = -1∧sgE [s,t]=0):=by
 have s4:sml 4 [s,t] [s,t].length=a+b:=by
  rw [sX]
  simp only [List.map_cons,List.map_nil,List.sum_cons,List.sum_nil,h1,h2];omega
 have l : [s,t].length=2:=rfl
 refine ⟨fun h => ?_,fun h => ?_⟩
 ·have d:dec 4 [s,t]=1:=by unfold dec;rw [s4,if_pos h]
  unfold sgV sgE
  rw [d,l];exact ⟨rfl,rfl⟩
 ·have d:dec 4 [s,t] = -1:=by unfold dec;rw [s4,l,if_neg (by omega),if_pos (by omega)]
  unfold sgV sgE
  rw [d,l];exact ⟨rfl,rfl⟩
theorem j0 {c:Rat} {b:Nat} (h:Nrm b):lB (c,(b:Rat))=(c,(b:Rat)):=by
 show (c*nC (b:Rat),((nN (b:Rat):Nat):Rat))=(c,(b:Rat))
 rw [h.2.1,h.2.2,Rat.mul_one]
theorem Gu {r c:Rat} (hr:r≠0) (hc:c≠0):Lt [(r,((1:Nat):Rat)),(c,((2:Nat):Rat))]:=fun t ht=>by
 have:t=(r,((1:Nat):Rat))∨t=(c,((2:Nat):Rat)):=by simpa using ht
 rcases this with rfl | rfl
 ·exact ⟨hr,1,rfl,FJ,by decide⟩
 ·exact ⟨hc,2,rfl,Gq,by decide⟩
theorem EJ {r c:Rat} (hr:r≠0) (hc:c≠0):T.fin [(r,((1:Nat):Rat)),(c,((2:Nat):Rat))] = [(r,((1:Nat):Rat)),(c,((2:Nat):Rat))] :=
 FK (Gu hr hc) (List.pairwise_cons.2 ⟨fun s hs=>by obtain rfl:=List.mem_singleton.1 hs;exact (by decide+kernel:((1:Nat):Rat)≠((2:Nat):Rat)),List.pairwise_singleton _ _⟩)
theorem GL {g:List Tm} (h:∀ t∈g,t.2=((1:Nat):Rat)∨t.2=((2:Nat):Rat)):Cl [1,2] g:=fun t ht _=>by
 rcases h t ht with e | e
 ·exact ⟨1,by simp,by rw [e];exact Rl.refl _⟩
 ·exact ⟨2,by simp,by rw [e];exact Rl.refl _⟩
theorem Gw {r c:Rat} {D M:Nat} (jr:J D M r) (jc:J D M c) (hD:0<D) (h1:2*(M*(2*2))<ak 60) (h2:D*2<ak 60):Gd [(r,((1:Nat):Rat)),(c,((2:Nat):Rat))]:=by
 have hm:∀ t ∈ [(r,((1:Nat):Rat)),(c,((2:Nat):Rat))],t=(r,((1:Nat):Rat))∨t=(c,((2:Nat):Rat)):=fun t ht=>by simpa using ht
 refine BK (D:=D) (M:=M) (R:=2) (k:=2) (C := [1,2]) (fun t ht => ?_) hD (by decide) (Nat.le_refl 2) (by decide) (by decide+kernel) h1 h2 (GL fun t ht => ?_) (by decide)
 ·rcases hm t ht with rfl | rfl
  ·exact ⟨jr,1,rfl,by decide⟩
  ·exact ⟨jc,2,rfl,by decide⟩
 ·rcases hm t ht with rfl | rfl
  ·exact .inl rfl
  ·exact .inr rfl
theorem Hc {a r c:Rat} {D M:Nat} (ja:J D M a) (jr:J D M r) (jc:J D M c) (hD:0<D) (h1:3*(M*(2*2))<ak 60) (h2:D*2<ak 60):Gd [(a,((1:Nat):Rat)),(r,((1:Nat):Rat)),(c,((2:Nat):Rat))]:=by
 have hm:∀ t ∈ [(a,((1:Nat):Rat)),(r,((1:Nat):Rat)),(c,((2:Nat):Rat))],t=(a,((1:Nat):Rat))∨t=(r,((1:Nat):Rat))∨t=(c,((2:Nat):Rat)):=fun t ht=>by simpa using ht
 refine BK (D:=D) (M:=M) (R:=2) (k:=3) (C := [1,2]) (fun t ht => ?_) hD (by decide) (Nat.le_refl 3) (by decide) (by decide+kernel) h1 h2 (GL fun t ht => ?_) (by decide)
 ·rcases hm t ht with rfl | rfl | rfl
  ·exact ⟨ja,1,rfl,by decide⟩
  ·exact ⟨jr,1,rfl,by decide⟩
  ·exact ⟨jc,2,rfl,by decide⟩
 ·rcases hm t ht with rfl | rfl | rfl
  ·exact .inl rfl
  ·exact .inl rfl
  ·exact .inr rfl
theorem Hz (a b:Rat):fL (a,((1:Nat):Rat)) (b,((1:Nat):Rat)):=by
 have e:((1:Nat):Rat) / ((1:Nat):Rat)=1:=by decide+kernel
 unfold fL kv jZ
 split <;> (show bG (((1:Nat):Rat) / ((1:Nat):Rat));rw [e];exact sI)
theorem Hi (a b:Rat):iG (a,((1:Nat):Rat)) (b,((1:Nat):Rat))=(a+b,((1:Nat):Rat)):=by
 have e:((1:Nat):Rat) / ((1:Nat):Rat)=1:=by decide+kernel
 unfold iG kv jZ
 split
 ·show (_+_*bf (((1:Nat):Rat) / ((1:Nat):Rat)),_)=_
  rw [e,DH,Rat.mul_one]
  try first | rfl | rw [Rat.add_comm]
 ·show (_+_*bf (((1:Nat):Rat) / ((1:Nat):Rat)),_)=_
  rw [e,DH,Rat.mul_one]
  try first | rfl | rw [Rat.add_comm]
theorem CI {a r c:Rat} (ha:a≠0) (hr:r≠0) (hc:c≠0) (h:a+r≠0):T.fin [(a,((1:Nat):Rat)),(r,((1:Nat):Rat)),(c,((2:Nat):Rat))] = [(a+r,((1:Nat):Rat)),(c,((2:Nat):Rat))]:=by
 have n1:((1:Nat):Rat)≠0:=by decide+kernel
 have s1:stp [] (a,((1:Nat):Rat)) = [(a,((1:Nat):Rat))]:=by
  unfold stp
  rw [if_neg (fun z=>z.elim ha n1),j0 FJ];rfl
 have s2:stp [(a,((1:Nat):Rat))] (r,((1:Nat):Rat)) = [(a+r,((1:Nat):Rat))]:=by
  unfold stp
  rw [if_neg (fun z=>z.elim hr n1),j0 FJ]
  unfold ins
  rw [if_pos (Hz a r),Hi]
 have e:T.fin [(a,((1:Nat):Rat)),(r,((1:Nat):Rat)),(c,((2:Nat):Rat))]=T.fin [(a+r,((1:Nat):Rat)),(c,((2:Nat):Rat))]:=by
  have s3:stp [] (a+r,((1:Nat):Rat)) = [(a+r,((1:Nat):Rat))]:=by
   unfold stp
   rw [if_neg (fun z=>z.elim h n1),j0 FJ];rfl
  unfold T.fin gth
  simp only [List.foldl_cons,List.foldl_nil,s1,s2,s3]
 rw [e,EJ h hc]
theorem G4:uq ((10:Rat),((2:Nat):Rat)) 2=mkRat 283 20:=by
 have h:hiN ((10:Rat)*10*((2:Nat):Rat)) 2=1415:=EA (r:=1414) (by decide+kernel) (by decide+kernel) (by decide+kernel)
 show ((hiN ((10:Rat)*10*((2:Nat):Rat)) 2:Nat):Rat)*uT 2=_
 rw [h];decide+kernel
def hf:Rat:=mkRat 1 2
theorem H9:uq (hf,((1:Nat):Rat)) 2=hf:=by
 have h:hiN (hf*hf*((1:Nat):Rat)) 2=50:=Hh (r:=50) (by decide+kernel) (by decide+kernel) (by decide+kernel)
 show ((hiN (hf*hf*((1:Nat):Rat)) 2:Nat):Rat)*uT 2=_
 rw [h];decide+kernel
theorem Gy {c:Rat} {n s:Nat} (h0:0≤c.num) (h1:s*s≤rdN c 1 4 / (c.den*c.den)) (h2:rdN c 1 4 / (c.den*c.den)<(s+1)*(s+1)) (hn:n=s):rdT 4 (c,((1:Nat):Rat))=n:=by
 subst hn;exact pn h0 h1 h2
theorem vz {D M:Nat} {x:Rat} (z:Int) (h:x*(D:Rat)=(z:Rat)) (b:z.natAbs≤M):J D M x:=⟨z,h,b⟩
theorem qg {x:Rat} (h:x.num.natAbs<10000∧x.den<10000) {k:Nat} (hk:4≤k):Bq k x:=by
 have:Bq 4 x:=h
 exact this.up hk
theorem D_b:OfD [((10:Rat),((2:Nat):Rat))] 0 (fun j=>if j=0 then 0 else mkRat 283 20) 14 14 15 where
 pl:=by decide
 co:=fun t ht=>by obtain rfl:=List.mem_singleton.1 ht;exact ⟨qg (by decide+kernel) (by decide),by decide+kernel⟩
 s0:=rfl
 st:=fun j hj=>by
  obtain rfl:j=0:=by simp at hj;omega
  show mkRat 283 20=0+uq ((10:Rat),((2:Nat):Rat)) 2
  rw [G4];decide+kernel
 bs:=fun j hj=>by
  show Bq 60 (if j=0 then 0 else mkRat 283 20)
  split
  ·exact jR.up (by decide)
  ·exact qg (by decide+kernel) (by decide)
 bu:=fun t ht=>by
  obtain rfl:=List.mem_singleton.1 ht
  show Bq 60 (uq _ 2)
  rw [G4];exact qg (by decide+kernel) (by decide)
 hz:=by decide+kernel
 lz:=by decide+kernel
 hl:=by decide+kernel
 b1:=⟨qg (by decide+kernel) (by decide),by decide+kernel⟩
 b2:=⟨qg (by decide+kernel) (by decide),by decide+kernel⟩
 g1:=Gw (D:=1) (M:=15) (vz 14 (by decide+kernel) (by decide)) (vz (-10) (by decide+kernel) (by decide)) (by decide) (by decide+kernel) (by decide+kernel)
 g2:=Gw (D:=1) (M:=15) (vz 15 (by decide+kernel) (by decide)) (vz (-10) (by decide+kernel) (by decide)) (by decide) (by decide+kernel) (by decide+kernel)
 v1:=by
  show sgV (T.fin [((14:Rat),((1:Nat):Rat)),((10:Rat) * -1,((2:Nat):Rat))]) = -1∧sgE (T.fin [((14:Rat),((1:Nat):Rat)),((10:Rat) * -1,((2:Nat):Rat))])=0
  rw [EJ (by decide+kernel) (by decide+kernel)]
  exact (C9 (a:=140000) (b := -141422) (Gy (s:=140000) (by decide+kernel) (by decide+kernel) (by decide+kernel) rfl) (BX (s:=141421) (by decide+kernel) (by decide+kernel) (by decide+kernel) (by decide+kernel))).2 (by decide)
 v2:=by
  show sgV (T.fin [((15:Rat),((1:Nat):Rat)),((10:Rat) * -1,((2:Nat):Rat))])=1∧sgE (T.fin [((15:Rat),((1:Nat):Rat)),((10:Rat) * -1,((2:Nat):Rat))])=0
  rw [EJ (by decide+kernel) (by decide+kernel)]
  exact (C9 (a:=150000) (b := -141422) (Gy (s:=150000) (by decide+kernel) (by decide+kernel) (by decide+kernel) rfl) (BX (s:=141421) (by decide+kernel) (by decide+kernel) (by decide+kernel) (by decide+kernel))).1 (by decide)
theorem D_c:OfD [(hf,((1:Nat):Rat)),((10:Rat),((2:Nat):Rat))] 0 (fun j=>if j=0 then 0 else if j=1 then hf else mkRat 293 20) 14 14 15 where
 pl:=by decide
 co:=fun t ht=>by
  have:t=(hf,((1:Nat):Rat))∨t=((10:Rat),((2:Nat):Rat)):=by simpa using ht
  rcases this with rfl | rfl
  ·exact ⟨qg (by decide+kernel) (by decide),by decide+kernel⟩
  ·exact ⟨qg (by decide+kernel) (by decide),by decide+kernel⟩
 s0:=rfl
 st:=fun j hj=>by
  have:j=0∨j=1:=by simp at hj;omega
  rcases this with rfl | rfl
  ·show hf=0+uq (hf,((1:Nat):Rat)) 2
   rw [H9];decide+kernel
  ·show mkRat 293 20=hf+uq ((10:Rat),((2:Nat):Rat)) 2
   rw [G4];decide+kernel
 bs:=fun j hj=>by
  show Bq 60 (if j=0 then 0 else if j=1 then hf else mkRat 293 20)
  split
  ·exact jR.up (by decide)
  ·split
   ·exact qg (by decide+kernel) (by decide)
   ·exact qg (by decide+kernel) (by decide)
 bu:=fun t ht=>by
  have:t=(hf,((1:Nat):Rat))∨t=((10:Rat),((2:Nat):Rat)):=by simpa using ht
  rcases this with rfl | rfl
  ·show Bq 60 (uq _ 2)
   rw [H9];exact qg (by decide+kernel) (by decide)
  ·show Bq 60 (uq _ 2)
   rw [G4];exact qg (by decide+kernel) (by decide)
 hz:=by decide+kernel
 lz:=by decide+kernel
 hl:=by decide+kernel
 b1:=⟨qg (by decide+kernel) (by decide),by decide+kernel⟩
 b2:=⟨qg (by decide+kernel) (by decide),by decide+kernel⟩
 g1:=Hc (D:=2) (M:=30) (vz 28 (by decide+kernel) (by decide)) (vz (-1) (by decide+kernel) (by decide)) (vz (-20) (by decide+kernel) (by decide)) (by decide) (by decide+kernel) (by decide+kernel)
 g2:=Hc (D:=2) (M:=30) (vz 30 (by decide+kernel) (by decide)) (vz (-1) (by decide+kernel) (by decide)) (vz (-20) (by decide+kernel) (by decide)) (by decide) (by decide+kernel) (by decide+kernel)
 v1:=by
  show sgV (T.fin [((14:Rat),((1:Nat):Rat)),(hf * -1,((1:Nat):Rat)),((10:Rat) * -1,((2:Nat):Rat))]) = -1∧sgE (T.fin [((14:Rat),((1:Nat):Rat)),(hf * -1,((1:Nat):Rat)),((10:Rat) * -1,((2:Nat):Rat))])=0
  rw [CI (by decide+kernel) (by decide+kernel) (by decide+kernel) (by decide+kernel)]
  exact (C9 (a:=135000) (b := -141422) (Gy (s:=135000) (by decide+kernel) (by decide+kernel) (by decide+kernel) rfl) (BX (s:=141421) (by decide+kernel) (by decide+kernel) (by decide+kernel) (by decide+kernel))).2 (by decide)
 v2:=by
  show sgV (T.fin [((15:Rat),((1:Nat):Rat)),(hf * -1,((1:Nat):Rat)),((10:Rat) * -1,((2:Nat):Rat))])=1∧sgE (T.fin [((15:Rat),((1:Nat):Rat)),(hf * -1,((1:Nat):Rat)),((10:Rat) * -1,((2:Nat):Rat))])=0
  rw [CI (by decide+kernel) (by decide+kernel) (by decide+kernel) (by decide+kernel)]
  exact (C9 (a:=145000) (b := -141422) (Gy (s:=145000) (by decide+kernel) (by decide+kernel) (by decide+kernel) rfl) (BX (s:=141421) (by decide+kernel) (by decide+kernel) (by decide+kernel) (by decide+kernel))).1 (by decide)
end T
namespace T
open Go.RowKit
theorem Ie (s:ByteArray) (w:World):Calls Tryz.prog 143 #[.string s] w fun e W'=>e = .returned (.bool (aw s.data.toList))∧Below w.heap.size w W':=by
 have c:=fun W=>Tryz.strings_HasPrefix s ⟨#[45]⟩ W
 rw [show (⟨#[45]⟩:ByteArray).data.toList = [45] from rfl,iE] at c
 have C:=Ha c;clear c
 generalize aw s.data.toList=b at *
 go_enter Tryz.func143,Tryz.ntmps143
 go_wp2_with fail
 refine (C.out _).mono ?_
 rintro e w1 ⟨rfl,rfl⟩
 go_wp2
 go_ret
 exact ⟨rfl,Below.refl _ _⟩
theorem ma (a:ByteArray) (Q:Value→World→Prop) (w:World)
  (h:∀ b W,Blk W b #[.string a,.string ⟨#[49]⟩]→Below w.heap.size w W→Calls Tryz.prog 145 #[.slice (some ⟨b,0,none⟩) 1 1] W fun e W'=>∃ v,e = .returned (.tuple #[v,.int .i64 0])∧Q v W') :
  Calls Tryz.prog 102 #[.string a] w fun e W'=>∃ v,e = .returned (.tuple #[v,.int .i64 0])∧Q v W':=by
 have O:=Ha h;clear h
 go_enter Tryz.func102,Tryz.ntmps102
 go_wp2_with fail
 refine (O.out _ _ (Blk.new w _ _) ((Below.refl _ w).alloc (Nat.le_refl _) _)).mono ?_
 rintro e w1 ⟨v,rfl,q⟩
 have HQ:=Ha q;clear q
 go_wp2
 go_ret2
 exact ⟨v,rfl,HQ.out⟩
theorem kX (S:Value) (u:ByteArray) (b:Nat) (w:World) (hb:Blk w b #[.string u])
  (h1:∀ W,Below w.heap.size w W→Calls Tryz.prog 38 #[.string u] W fun e W'=>e = .returned (.int .i64 0)∧Below W.heap.size W W')
  (h2:∀ W,Below w.heap.size w W→Calls Tryz.prog 113 #[S] W fun e W'=>e = .returned (.int .i64 0)∧Below W.heap.size W W') :
  Calls Tryz.prog 142 #[S,.slice (some ⟨b,0,none⟩) 1 1] w fun e W'=>e = .returned (.bool true)∧Below w.heap.size w W':=by
 have O:=Ha (Hb h1 h2);clear h1 h2
 have HK:=Ha hb;clear hb
 go_enter Tryz.func142,Tryz.ntmps142
 go_wp2
 go_loopw [9] (fun i wr=>∃ j:Nat,i = .int .i64 j∧j≤1∧Hid (Below w.heap.size w wr)) (fun i _=>1 - (intOf i).toNat)
 case atStart=>exact ⟨0,rfl,by omega,Below.refl _ _⟩
 case round =>
  obtain ⟨j,rfl,hj,HB⟩:=hrel
  by_cases hlt:j<1
  ·obtain rfl:j=0:=by omega
   have d0:=(HB.out.cell (p:=⟨b,0,none⟩) HK.out.lt).trans (HK.out.cell 0 _ rfl)
   go_wp2_with fail
   refine (O.out.1 _ HB.out).mono ?_
   rintro e w2 ⟨rfl,b⟩
   replace HB:=Ha (HB.out.trans (b.mono HB.out.size));clear b
   go_wp2
   go_roundw
   case rel=>exact ⟨1,rfl,by omega,HB.out⟩
   case measure=>simp [intOf]
  ·obtain rfl:j=1:=by omega
   go_wp2_with fail
   refine (O.out.2 _ HB.out).mono ?_
   rintro e w2 ⟨rfl,b⟩
   replace HB:=Ha (HB.out.trans (b.mono HB.out.size));clear b
   go_wp2
   go_ret
   exact ⟨rfl,HB.out⟩
theorem kY (S:Value) (u inv n:ByteArray) (k:FuncId) (caps:Array Value) (P:Value→World→Prop) (w:World) (z0:(u.toList == [48])=false)
  (eg:∀ args W,(callFunc k args).run Tryz.prog W = .ok (.enter k args) W)
  (h1:∀ b W,Blk W b #[.string u]→Below w.heap.size w W→Calls Tryz.prog 142 #[S,.slice (some ⟨b,0,none⟩) 1 1] W fun e W'=>e = .returned (.bool true)∧Below W.heap.size W W')
  (h2:∀ W,Below w.heap.size w W→Calls Tryz.prog 143 #[.string u] W fun e W'=>e = .returned (.bool false)∧Below W.heap.size W W')
  (h3:∀ W,Below w.heap.size w W→Calls Tryz.prog 11 #[.string ⟨#[49]⟩,.string u] W fun e W'=>e = .returned (.tuple #[.string inv,.int .i64 0])∧Below W.heap.size W W')
  (h4:∀ W,Below w.heap.size w W→Calls Tryz.prog 144 #[S,.string inv] W fun e W'=>∃ v,e = .returned (.tuple #[v,.int .i64 0])∧P v W'∧Below W.heap.size W W')
  (h5:∀ v W,P v W→Below w.heap.size w W→Calls Tryz.prog k (#[v]++caps) W fun e W'=>e = .returned (.tuple #[.string n,.int .i64 0])∧Below W.heap.size W W') :
  Calls Tryz.prog 100 #[S,.string u,.func (.func k) #[] caps] w fun e W'=>e = .returned (.tuple #[.string n,.int .i64 0])∧Below w.heap.size w W':=by
 have O:=Ha (Hb h1 (Hb h2 (Hb h3 (Hb h4 h5))));clear h1 h2 h3 h4 h5
 go_enter Tryz.func100,Tryz.ntmps100
 go_wp2_with fail
 have HB:=Ha ((Below.refl _ w).alloc (Nat.le_refl _) (.cells #[.string u] 30))
 refine (O.out.1 _ _ (Blk.new w _ _) HB.out).mono ?_
 rintro e w1 ⟨rfl,b⟩
 replace HB:=Ha (HB.out.trans (b.mono HB.out.size));clear b
 go_wp2_with fail
 refine (O.out.2.1 _ HB.out).mono ?_
 rintro e w2 ⟨rfl,b⟩
 replace HB:=Ha (HB.out.trans (b.mono HB.out.size));clear b
 go_wp2_with fail
 refine (O.out.2.2.1 _ HB.out).mono ?_
 rintro e w3 ⟨rfl,b⟩
 replace HB:=Ha (HB.out.trans (b.mono HB.out.size));clear b
 go_wp2_with fail
 refine (O.out.2.2.2.1 _ HB.out).mono ?_
 rintro e w4 ⟨v,rfl,p,b⟩
 have HP:=Ha p;clear p
 replace HB:=Ha (HB.out.trans (b.mono HB.out.size));clear b
 go_wp2_with fail
 refine (O.out.2.2.2.2 _ _ HP.out HB.out).mono ?_
 rintro e w5 ⟨rfl,b⟩
 replace HB:=Ha (HB.out.trans (b.mono HB.out.size));clear b
 go_wp2
 go_ret2
 exact ⟨rfl,HB.out⟩
theorem mb (S fv:Value) (u n m:ByteArray) (w:World)
  (h1:∀ W,Below w.heap.size w W→Calls Tryz.prog 100 #[S,.string u,fv] W fun e W'=>e = .returned (.tuple #[.string n,.int .i64 0])∧Below W.heap.size W W')
  (h2:∀ W,Below w.heap.size w W→Calls Tryz.prog 10 #[.string n,.string u] W fun e W'=>e = .returned (.tuple #[.string m,.int .i64 0])∧Below W.heap.size W W') :
  Calls Tryz.prog 54 #[S,.string u,fv] w fun e W'=>e = .returned (.tuple #[.string m,.int .i64 0])∧Below w.heap.size w W':=by
 have O:=Ha (Hb h1 h2);clear h1 h2
 go_enter Tryz.func54,Tryz.ntmps54
 go_wp2_with fail
 refine (O.out.1 _ (Below.refl _ _)).mono ?_
 rintro e w1 ⟨rfl,b⟩
 have HB:=Ha b;clear b
 go_wp2_with fail
 refine (O.out.2 _ HB.out).mono ?_
 rintro e w2 ⟨rfl,b⟩
 replace HB:=Ha (HB.out.trans (b.mono HB.out.size));clear b
 go_wp2
 go_ret2
 exact ⟨rfl,HB.out⟩
theorem ot (S:Value) (lo hi:ByteArray) (w:World)
  (h1:∀ W,Below w.heap.size w W→Calls Tryz.prog 28 #[S,.int .i64 0] W fun e W'=>e = .returned (.tuple #[.agg #[.string lo,.string hi],.int .i64 0])∧Below W.heap.size W W') :
  Calls Tryz.prog 55 #[S] w fun e W'=>e = .returned (.tuple #[.string lo,.int .i64 0])∧Below w.heap.size w W':=by
 have O:=Ha h1;clear h1
 go_enter Tryz.func55,Tryz.ntmps55
 go_wp2_with fail
 refine (O.out _ (Below.refl _ _)).mono ?_
 rintro e w1 ⟨rfl,b⟩
 have HB:=Ha b;clear b
 go_wp2
 go_ret2
 exact ⟨rfl,HB.out.alloc HB.out.size _⟩
theorem G5 (S:Value) (lo hi:ByteArray) (w:World)
  (h1:∀ W,Below w.heap.size w W→Calls Tryz.prog 28 #[S,.int .i64 0] W fun e W'=>e = .returned (.tuple #[.agg #[.string lo,.string hi],.int .i64 0])∧Below W.heap.size W W') :
  Calls Tryz.prog 56 #[S] w fun e W'=>e = .returned (.tuple #[.string hi,.int .i64 0])∧Below w.heap.size w W':=by
 have O:=Ha h1;clear h1
 go_enter Tryz.func56,Tryz.ntmps56
 go_wp2_with fail
 refine (O.out _ (Below.refl _ _)).mono ?_
 rintro e w1 ⟨rfl,b⟩
 have HB:=Ha b;clear b
 go_wp2
 go_ret2
 exact ⟨rfl,HB.out.alloc HB.out.size _⟩
end T
namespace T
open Go.RowKit
theorem mx (p:Option Addr) (n c:Nat) (k:ByteArray) (P Q:Value→World→Prop) (w:World)
  (hA:∀ b W,Blk W b #[.slice p n c]→Below w.heap.size w W→Calls Tryz.prog 67 #[.slice (some ⟨b,0,none⟩) 1 1] W fun e W'=>e = .returned (.bool true)∧Below W.heap.size W W')
  (hC:∀ W,Below w.heap.size w W→Calls Tryz.prog 38 #[.string k] W fun e W'=>e = .returned (.int .i64 0)∧Below W.heap.size W W')
  (hS:∀ W,Below w.heap.size w W→Calls Tryz.prog 204 #[.slice p n c,.string k] W fun e W'=>∃ v,e = .returned (.tuple #[v,.int .i64 0])∧P v W'∧Below W.heap.size W W')
  (hG:∀ v W,P v W→Below w.heap.size w W→Calls Tryz.prog 69 #[v] W fun e W'=>∃ v,e = .returned (.tuple #[v,.int .i64 0])∧Q v W') :
  Calls Tryz.prog 144 #[.slice p n c,.string k] w fun e W'=>∃ v,e = .returned (.tuple #[v,.int .i64 0])∧Q v W':=by
 have O:=Ha (Hb hA (Hb hC (Hb hS hG)));clear hA hC hS hG
 go_enter Tryz.func144,Tryz.ntmps144
 go_wp2_with fail
 have HB:=Ha ((Below.refl _ w).alloc (Nat.le_refl _) (.cells #[.slice p n c] 45))
 refine (O.out.1 _ _ (Blk.new w _ _) HB.out).mono ?_
 rintro e w1 ⟨rfl,b⟩
 replace HB:=Ha (HB.out.trans (b.mono HB.out.size));clear b
 go_wp2_with fail
 refine (O.out.2.1 _ HB.out).mono ?_
 rintro e w1 ⟨rfl,b⟩
 replace HB:=Ha (HB.out.trans (b.mono HB.out.size));clear b
 go_wp2_with fail
 refine (O.out.2.2.1 _ HB.out).mono ?_
 rintro e w1 ⟨v,rfl,q,b⟩
 have HQ:=Ha q;clear q
 replace HB:=Ha (HB.out.trans (b.mono HB.out.size));clear b
 go_wp2_with fail
 refine (O.out.2.2.2 _ _ HQ.out HB.out).mono ?_
 rintro e w1 ⟨v',rfl,q⟩
 have HQ:=Ha q;clear q
 go_wp2
 go_ret2
 exact ⟨v',rfl,HQ.out⟩
theorem CW (l:List Tm) (k:Rat) (p:Option Addr) (n c:Nat) (w:World) (h:Su w p n c l) (hk:Bq 60 k) (hg:Gd (l.map (mulT k))) (ht:Tab w) (ht2:aH w) (hS:Sm w) :
  Calls Tryz.prog 144 #[.slice p n c,.string (af k)] w fun e W'=>Rs (l.map (mulT k)) w.heap.size w e W':=by
 have h16:=h.good.len
 have hn:=h.sr.1
 refine Calls.mono (mx p n c (af k) (fun v W'=>Below w.heap.size w W'∧∃ B,Ow W' B 43 v (l.map (mulT k))) (fun v W'=>Rs (l.map (mulT k)) w.heap.size w (.returned (.tuple #[v,.int .i64 0])) W') w
  (fun b W hb hW=>wB b p n c l W hb (h.next hW).sd (ht.next hW) (ae ht2 hW) (hS.next hW))
  (fun W hW=>jT k W (hk.lim (by decide)) (ht.next hW) (ae ht2 hW))
  (fun W hW=>(zG l k p n c W (h.next hW).sr (by omega) hk (fun t k=>by obtain ⟨_,cb,_⟩:=h.good.ok t k;exact cb) (ht.next hW) (ae ht2 hW)).mono fun e W' ⟨v,e1,o,b⟩=>⟨v,e1,⟨hW.trans (b.mono hW.size),_,o⟩,b⟩)
  (fun v W ⟨hb,B,o⟩ hW=>by
   obtain ⟨p',c',rfl,rd,_⟩:=o.rd
   refine (nh (l.map (mulT k)) hg p' _ c' W rfl rd (ht.next hb) (ae ht2 hb) (hS.next hb)).mono fun e W' r=>Rs.of r hb hb.size)) fun e W' r=>Rs.to r
theorem Su.some {W:World} {p:Option Addr} {n c:Nat} {l:List Tm} (h:Su W p n c l) (hl:0<l.length):∃ b,p=some ⟨b,0,none⟩∧0<n:=by
 obtain ⟨b,e,_⟩:=h.sr.rd hl
 exact ⟨b,e,by rw [h.sr.1];exact hl⟩
end T
namespace T
open Go.RowKit
theorem Hj (a:ByteArray) (k:FuncId) (w:World) :
  Calls Tryz.prog 57 #[.string a,.func (.func k) #[] #[]] w fun e W'=>∃ x y,e = .returned (.func (.func 101) #[] #[.pointer (some ⟨x,0,none⟩),.pointer (some ⟨y,0,none⟩)])∧Blk W' x #[.string a]∧Blk W' y #[.func (.func k) #[] #[]]∧Below w.heap.size w W':=by
 have K1:=(Blk.new w #[.string a] 30).alloc (.cells #[.func (.func k) #[] #[]] 95)
 have K2:=Blk.new (w.alloc (.cells #[.string a] 30)) #[.func (.func k) #[] #[]] 95
 rw [World.size_alloc] at K2
 have O:=Ha (Hb K1 (Hb K2 (((Below.refl _ w).alloc (Nat.le_refl _) (.cells #[.string a] 30)).alloc (by rw [World.size_alloc];omega) (.cells #[.func (.func k) #[] #[]] 95))));clear K1 K2
 go_enter Tryz.func57,Tryz.ntmps57
 go_wp2
 go_ret
 exact ⟨_,_,rfl,O.out⟩
theorem If (S:Value) (a n:ByteArray) (x y:Nat) (k:FuncId) (P Q:Value→World→Prop) (w:World)
  (eg:∀ args W,(callFunc k args).run Tryz.prog W = .ok (.enter k args) W)
  (hx:Blk w x #[.string a]) (hy:Blk w y #[.func (.func k) #[] #[]])
  (h1:∀ W,Below w.heap.size w W→Calls Tryz.prog 102 #[.string a] W fun e W'=>∃ v,e = .returned (.tuple #[v,.int .i64 0])∧P v W'∧Below W.heap.size W W')
  (h2:∀ v W,P v W→Below w.heap.size w W→Calls Tryz.prog 103 #[S,v] W fun e W'=>∃ v',e = .returned (.tuple #[v',.int .i64 0])∧Q v' W'∧Below W.heap.size W W')
  (h3:∀ v W,Q v W→Below w.heap.size w W→Calls Tryz.prog k #[v] W fun e W'=>e = .returned (.tuple #[.string n,.int .i64 0])∧Below W.heap.size W W') :
  Calls Tryz.prog 101 #[S,.pointer (some ⟨x,0,none⟩),.pointer (some ⟨y,0,none⟩)] w fun e W'=>e = .returned (.tuple #[.string n,.int .i64 0])∧Below w.heap.size w W':=by
 have O:=Ha (Hb h1 (Hb h2 h3));clear h1 h2 h3
 have c0:=hx.cell 0 (.string a) rfl
 have HY:=Ha hy;clear hy hx
 go_enter Tryz.func101,Tryz.ntmps101
 go_wp2_with fail
 refine (O.out.1 _ (Below.refl _ _)).mono ?_
 rintro e w1 ⟨v,rfl,p,b⟩
 have HP:=Ha p;clear p c0
 have HB:=Ha b;clear b
 go_wp2_with fail
 refine (O.out.2.1 _ _ HP.out HB.out).mono ?_
 rintro e w2 ⟨v',rfl,q,b⟩
 have HQ:=Ha q;clear q
 replace HB:=Ha (HB.out.trans (b.mono HB.out.size));clear b
 have c1:=(HY.out.next HB.out).cell 0 (.func (.func k) #[] #[]) rfl
 go_wp2_with fail
 refine (O.out.2.2 _ _ HQ.out HB.out).mono ?_
 rintro e w3 ⟨rfl,b⟩
 replace HB:=Ha (HB.out.trans (b.mono HB.out.size));clear b c1
 go_wp2
 go_ret2
 exact ⟨rfl,HB.out⟩
theorem Ia (S:Value) (u m:ByteArray) (w:World)
  (h:Calls Tryz.prog 54 #[S,.string u,.func (.func 55) #[] #[]] w fun e W'=>e = .returned (.tuple #[.string m,.int .i64 0])∧Below w.heap.size w W') :
  Calls Tryz.prog 16 #[S,.string u] w fun e W'=>e = .returned (.tuple #[.string m,.int .i64 0])∧Below w.heap.size w W':=by
 have O:=Ha h;clear h
 go_enter Tryz.func16,Tryz.ntmps16
 go_wp2_with fail
 refine O.out.mono ?_
 rintro e w1 ⟨rfl,b⟩
 have HB:=Ha b;clear b
 go_wp2
 go_ret2
 exact ⟨rfl,HB.out⟩
theorem rUp (S:Value) (u m:ByteArray) (w:World)
  (h:Calls Tryz.prog 54 #[S,.string u,.func (.func 56) #[] #[]] w fun e W'=>e = .returned (.tuple #[.string m,.int .i64 0])∧Below w.heap.size w W') :
  Calls Tryz.prog 17 #[S,.string u] w fun e W'=>e = .returned (.tuple #[.string m,.int .i64 0])∧Below w.heap.size w W':=by
 have O:=Ha h;clear h
 go_enter Tryz.func17,Tryz.ntmps17
 go_wp2_with fail
 refine O.out.mono ?_
 rintro e w1 ⟨rfl,b⟩
 have HB:=Ha b;clear b
 go_wp2
 go_ret2
 exact ⟨rfl,HB.out⟩
theorem Ib (S:Value) (u m:ByteArray) (w:World)
  (h:∀ x y W,Blk W x #[.string ⟨#[49,47,50]⟩]→Blk W y #[.func (.func 55) #[] #[]]→Below w.heap.size w W→Calls Tryz.prog 54 #[S,.string u,.func (.func 101) #[] #[.pointer (some ⟨x,0,none⟩),.pointer (some ⟨y,0,none⟩)]] W fun e W'=>e = .returned (.tuple #[.string m,.int .i64 0])∧Below W.heap.size W W') :
  Calls Tryz.prog 18 #[S,.string u] w fun e W'=>e = .returned (.tuple #[.string m,.int .i64 0])∧Below w.heap.size w W':=by
 have O:=Ha (Hb (fun W=>Hj ⟨#[49,47,50]⟩ 55 W) h);clear h
 go_enter Tryz.func18,Tryz.ntmps18
 go_wp2_with fail
 refine (O.out.1 _).mono ?_
 rintro e w1 ⟨x,y,rfl,k1,k2,b⟩
 have HB:=Ha b;clear b
 have HK:=Ha (Hb k1 k2);clear k1 k2
 go_wp2_with fail
 refine (O.out.2 _ _ _ HK.out.1 HK.out.2 HB.out).mono ?_
 rintro e w2 ⟨rfl,b⟩
 replace HB:=Ha (HB.out.trans (b.mono HB.out.size));clear b
 go_wp2
 go_ret2
 exact ⟨rfl,HB.out⟩
end T
namespace T
open Go.RowKit
theorem GA {W:World} {b:Nat} (h:Blk W b #[.string ⟨#[49]⟩,.string ⟨#[50]⟩]):Su W (some ⟨b,0,none⟩) 1 1 [((1:Rat),((2:Nat):Rat))]:=by
 refine BY (uC (by decide) (so.up (by decide)) Gq (by decide)) ?_
 rw [show ((2:Nat):Rat)=2 from rfl,sq1,sq2];exact h
end T
namespace T
open Go.RowKit
abbrev s10:List Tm := [((10:Rat),((2:Nat):Rat))]
abbrev sHf:List Tm := [(hf,((1:Nat):Rat))]
abbrev sNr:List Tm := [(hf,((1:Nat):Rat)),((10:Rat),((2:Nat):Rat))]
def t10:Rat:=mkRat 1 10
theorem Hk:af t10=⟨#[49,47,49,48]⟩:=by decide+kernel
theorem Ig:af hf=⟨#[49,47,50]⟩:=by decide+kernel
theorem my {k:Nat} (hk:4≤k):Bq k t10:=qg (by decide+kernel) hk
theorem w10 {r:List Tm}:Gd ([((1:Rat),((2:Nat):Rat))].map (mulT 10))∧(r.Perm (T.fin ([((1:Rat),((2:Nat):Rat))].map (mulT 10)))→Good r→r=s10) :=
 DW (D:=1) (M:=10) (R:=4) (k:=1) (fun t ht=>by
  obtain rfl:t=((1:Rat)*10,((2:Nat):Rat)):=List.mem_singleton.1 ht
  exact ⟨vz 10 (by decide+kernel) (by decide),2,rfl,by decide⟩) (by decide) (by decide) (by decide) (by decide) (by decide) (by decide+kernel) (by decide+kernel) Gq (by decide) (by decide+kernel) fun m _=>by
  show co m ((1:Rat)*10,((2:Nat):Rat))+0=_
  rw [show (1:Rat)*10=10 by decide+kernel,Rat.add_zero]
theorem wHf {r:List Tm}:Gd sHf∧(r.Perm (T.fin sHf)→Good r→r=sHf) :=
 DW (D:=2) (M:=1) (R:=4) (k:=1) (fun t ht=>by
  obtain rfl:t=(hf,((1:Nat):Rat)):=List.mem_singleton.1 ht
  exact ⟨vz 1 (by decide+kernel) (by decide),1,rfl,by decide⟩) (by decide) (by decide) (by decide) (by decide) (by decide) (by decide+kernel) (by decide+kernel) FJ (by decide) (by decide+kernel) fun m _=>by
  show co m (hf,((1:Nat):Rat))+0=_
  rw [Rat.add_zero]
theorem mNr {t:Tm} (h:t∈s10++sHf):t=((10:Rat),((2:Nat):Rat))∨t=(hf,((1:Nat):Rat)):=by simpa using h
theorem gNr:Gd (s10++sHf):=by
 refine BK (D:=2) (M:=20) (R:=2) (k:=2) (C := [1,2]) (fun t ht => ?_) (by decide) (by decide) (Nat.le_refl 2) (by decide) (by decide+kernel) (by decide+kernel) (by decide+kernel) (GL fun t ht => ?_) (by decide)
 ·rcases mNr ht with rfl | rfl
  ·exact ⟨vz 20 (by decide+kernel) (by decide),2,rfl,by decide⟩
  ·exact ⟨vz 1 (by decide+kernel) (by decide),1,rfl,by decide⟩
 ·rcases mNr ht with rfl | rfl
  ·exact .inr rfl
  ·exact .inl rfl
theorem wNr {r:List Tm} (hp:r.Perm (T.fin (s10++sHf))) (hg:Good r):r=sNr:=by
 have hl:Lt (s10++sHf):=fun t ht=>by
  rcases mNr ht with rfl | rfl
  ·exact ⟨by decide+kernel,2,rfl,Gq,by decide⟩
  ·exact ⟨by decide+kernel,1,rfl,FJ,by decide⟩
 rw [FK hl (List.pairwise_cons.2 ⟨fun s hs=>by obtain rfl:=List.mem_singleton.1 hs;exact (by decide+kernel:((2:Nat):Rat)≠((1:Nat):Rat)),List.pairwise_singleton _ _⟩)] at hp
 have hl2:r.length=2:=hp.length_eq
 match r,hl2 with
 | [a,b],_ =>
  have ha:=mNr (hp.mem_iff.1 (List.mem_cons_self ..))
  have hb:=mNr (hp.mem_iff.1 (List.mem_cons_of_mem a (List.mem_cons_self ..)))
  have o:a.2<b.2:=(List.pairwise_cons.1 hg.asc).1 b (List.mem_cons_self ..)
  rcases ha with rfl | rfl <;> rcases hb with rfl | rfl
  ·exact absurd o (by decide+kernel)
  ·exact absurd o (by decide+kernel)
  ·rfl
  ·exact absurd o (by decide+kernel)
theorem lg:∀ args w,(callFunc 55 args).run Tryz.prog w = .ok (.enter 55 args) w:=enters_of Tryz.func55 (by kernel_rfl) rfl
theorem C6:∀ args w,(callFunc 56 args).run Tryz.prog w = .ok (.enter 56 args) w:=enters_of Tryz.func56 (by kernel_rfl) rfl
theorem Hl:∀ args w,(callFunc 101 args).run Tryz.prog w = .ok (.enter 101 args) w:=enters_of Tryz.func101 (by kernel_rfl) rfl
structure Alw (w:World):Prop where
 t:Tab w
 u:aH w
 s:Sm w
theorem Alw.next {w W:World} (h:Alw w) (b:Below w.heap.size w W):Alw W:=⟨h.t.next b,ae h.u b,h.s.next b⟩
theorem Hm {l:List Tm} {s:Nat→Rat} {z:Int} {v:Value} (D:OfD l 0 s z 14 15) (hl:0<l.length) (w:World) (h:Sv w l v) (A:Alw w) :
  Calls Tryz.prog 28 #[v,.int .i64 0] w fun e W'=>e = .returned (.tuple #[.agg #[.string ⟨#[49,52]⟩,.string ⟨#[49,53]⟩],.int .i64 0])∧Below w.heap.size w W':=by
 obtain ⟨p,n,c,rfl,hs⟩:=h
 obtain ⟨b,rfl,n0⟩:=hs.some hl
 have k:=Gt l b n c 0 s z 14 15 w hs n0 D A.t A.u A.s
 rwa [show af 14=⟨#[49,52]⟩ from by decide+kernel,show af 15=⟨#[49,53]⟩ from by decide+kernel] at k
theorem m7 (k:FuncId) (caps:Array Value) (n m:ByteArray) (b:Nat) (w:World) (A:Alw w) (hb:Blk w b #[.string ⟨#[49]⟩,.string ⟨#[50]⟩])
  (eg:∀ args W,(callFunc k args).run Tryz.prog W = .ok (.enter k args) W)
  (h5:∀ v W,Sv W s10 v→Below w.heap.size w W→Calls Tryz.prog k (#[v]++caps) W fun e W'=>e = .returned (.tuple #[.string n,.int .i64 0])∧Below W.heap.size W W')
  (h6:∀ W,Below w.heap.size w W→Calls Tryz.prog 10 #[.string n,.string ⟨#[49,47,49,48]⟩] W fun e W'=>e = .returned (.tuple #[.string m,.int .i64 0])∧Below W.heap.size W W') :
  Calls Tryz.prog 54 #[.slice (some ⟨b,0,none⟩) 1 1,.string ⟨#[49,47,49,48]⟩,.func (.func k) #[] caps] w fun e W'=>e = .returned (.tuple #[.string m,.int .i64 0])∧Below w.heap.size w W':=by
 have hs:=GA hb
 refine mb _ _ _ n m w (fun W0 g0=>kY _ _ ⟨#[49,48]⟩ n k caps (fun v W=>Sv W s10 v∧Below w.heap.size w W) W0 (by decide+kernel) eg (fun b' W hb' g => ?_) (fun W g => ?_) (fun W g => ?_) (fun W g => ?_) (fun v W hv g=>h5 v W hv.1 hv.2)) h6
 ·have g1:=g0.trans (g.mono g0.size)
  refine kX _ _ b' W hb' (fun W2 g2 => ?_) (fun W2 g2 => ?_)
  ·have a2:=(A.next g1).next g2
   have c:=jT t10 W2 ((my (by decide):Bq 60 t10).lim (by decide)) a2.t a2.u
   rwa [Hk] at c
  ·have a2:=(A.next g1).next g2
   exact iK _ _ 1 1 W2 ((hs.next g1).next g2).sd a2.t a2.u a2.s
 ·exact Ie ⟨#[49,47,49,48]⟩ W
 ·have a2:=(A.next g0).next g
  have c:=xR 1 t10 W ((so.up (by decide):Bq 60 1).lim (by decide)) ((my (by decide):Bq 60 t10).lim (by decide)) (by decide+kernel) a2.t a2.u
  rwa [Hk,sq1,show og 1 t10=⟨#[49,48]⟩ from by decide+kernel,show oh 1 t10=0 from by decide+kernel] at c
 ·have g1:=g0.trans (g.mono g0.size)
  have a2:=(A.next g0).next g
  have c:=CW [((1:Rat),((2:Nat):Rat))] 10 _ 1 1 W (hs.next g1) (qg (by decide+kernel) (by decide)) (w10 (r := [])).1 a2.t a2.u a2.s
  rw [show af 10=⟨#[49,48]⟩ from by decide+kernel] at c
  refine c.mono fun e W' r => ?_
  obtain ⟨v,e1,sv,b1⟩:=r.only fun r hp hg=>w10.2 hp hg
  exact ⟨v,e1,⟨sv,g1.trans (b1.mono g1.size)⟩,b1⟩
theorem Hd (x:Rat) (m n:ByteArray) (hx:Bq 60 x) (hn:af x=n) (h1:nZ x t10=m) (h2:n9 x t10=0) (w:World) (A:Alw w) :
  Calls Tryz.prog 10 #[.string n,.string ⟨#[49,47,49,48]⟩] w fun e W'=>e = .returned (.tuple #[.string m,.int .i64 0])∧Below w.heap.size w W':=by
 have c:=gz x t10 w (hx.lim (by decide)) ((my (by decide):Bq 60 t10).lim (by decide)) A.t A.u
 rwa [hn,h1,h2,Hk] at c
theorem He (w:World) (A:Alw w):∀ W,Below w.heap.size w W→Calls Tryz.prog 10 #[.string ⟨#[49,52]⟩,.string ⟨#[49,47,49,48]⟩] W fun e W'=>e = .returned (.tuple #[.string ⟨#[55,47,53]⟩,.int .i64 0])∧Below W.heap.size W W' :=
 fun W g=>Hd 14 _ _ (qg (by decide+kernel) (by decide)) (by decide+kernel) (by decide+kernel) (by decide+kernel) W (A.next g)
theorem Hn (w:World) (A:Alw w):∀ W,Below w.heap.size w W→Calls Tryz.prog 10 #[.string ⟨#[49,53]⟩,.string ⟨#[49,47,49,48]⟩] W fun e W'=>e = .returned (.tuple #[.string ⟨#[51,47,50]⟩,.int .i64 0])∧Below W.heap.size W W' :=
 fun W g=>Hd 15 _ _ (qg (by decide+kernel) (by decide)) (by decide+kernel) (by decide+kernel) (by decide+kernel) W (A.next g)
theorem Ho (b:Nat) (w:World) (A:Alw w) (hb:Blk w b #[.string ⟨#[49]⟩,.string ⟨#[50]⟩]) :
  Calls Tryz.prog 16 #[.slice (some ⟨b,0,none⟩) 1 1,.string ⟨#[49,47,49,48]⟩] w fun e W'=>e = .returned (.tuple #[.string ⟨#[55,47,53]⟩,.int .i64 0])∧Below w.heap.size w W' :=
 Ia _ _ _ w (m7 _ #[] ⟨#[49,52]⟩ _ b w A hb lg (fun v W hv g=>ot v ⟨#[49,52]⟩ ⟨#[49,53]⟩ W fun W2 g2=>Hm D_b (by decide) W2 (hv.next g2) ((A.next g).next g2)) (He w A))
theorem Ih (b:Nat) (w:World) (A:Alw w) (hb:Blk w b #[.string ⟨#[49]⟩,.string ⟨#[50]⟩]) :
  Calls Tryz.prog 17 #[.slice (some ⟨b,0,none⟩) 1 1,.string ⟨#[49,47,49,48]⟩] w fun e W'=>e = .returned (.tuple #[.string ⟨#[51,47,50]⟩,.int .i64 0])∧Below w.heap.size w W' :=
 rUp _ _ _ w (m7 _ #[] ⟨#[49,53]⟩ _ b w A hb C6 (fun v W hv g=>G5 v ⟨#[49,52]⟩ ⟨#[49,53]⟩ W fun W2 g2=>Hm D_b (by decide) W2 (hv.next g2) ((A.next g).next g2)) (Hn w A))
theorem Hp (w:World) (A:Alw w):Calls Tryz.prog 102 #[.string ⟨#[49,47,50]⟩] w fun e W'=>∃ v,e = .returned (.tuple #[v,.int .i64 0])∧Sv W' sHf v∧Below w.heap.size w W':=by
 refine ma _ (fun v W'=>Sv W' sHf v∧Below w.heap.size w W') w fun b W hb g => ?_
 have a2:=A.next g
 have tl:Tl W b sHf:=Tl.lit1 hf 1 (by rw [Ig,sq1];exact hb)
 have c:=G3 sHf b 1 W tl (wHf (r := [])).1 (fun t ht=>by obtain rfl:=List.mem_singleton.1 ht;exact ⟨qg (by decide+kernel) (by decide),so.up (by decide)⟩) a2.t a2.u a2.s
 refine c.mono fun e W' r => ?_
 obtain ⟨v,e1,sv,b1⟩:=r.only fun r hp hg=>wHf.2 hp hg
 exact ⟨v,e1,sv,g.trans (b1.mono g.size)⟩
theorem Hq (b:Nat) (w:World) (A:Alw w) (hb:Blk w b #[.string ⟨#[49]⟩,.string ⟨#[50]⟩]) :
  Calls Tryz.prog 18 #[.slice (some ⟨b,0,none⟩) 1 1,.string ⟨#[49,47,49,48]⟩] w fun e W'=>e = .returned (.tuple #[.string ⟨#[55,47,53]⟩,.int .i64 0])∧Below w.heap.size w W':=by
 refine Ib _ _ _ w fun x y W hx hy g=>m7 _ _ ⟨#[49,52]⟩ _ b W (A.next g) (hb.next g) Hl (fun v W1 hv g1 => ?_) (He W (A.next g))
 have a1:=(A.next g).next g1
 refine If v _ ⟨#[49,52]⟩ x y 55 (fun v' W'=>Sv W' sHf v'∧Below W1.heap.size W1 W') (fun v' W'=>Sv W' sNr v'∧Below W1.heap.size W1 W') W1 lg (hx.next g1) (hy.next g1) (fun W2 g2 => ?_) (fun v2 W2 h2 g2 => ?_)
  (fun v2 W2 h2 g2=>ot v2 ⟨#[49,52]⟩ ⟨#[49,53]⟩ W2 fun W3 g3=>Hm D_c (by decide) W3 (h2.1.next g3) ((a1.next g2).next g3))
 ·refine (Hp W2 (a1.next g2)).mono fun e W' ⟨v',e1,sv,b1⟩=>⟨v',e1,⟨sv,g2.trans (b1.mono g2.size)⟩,b1⟩
 ·obtain ⟨p,n,c,rfl,hs⟩:=hv
  obtain ⟨p',n',c',rfl,hs'⟩:=h2.1
  have a2:=a1.next g2
  refine (Hf s10 sHf p p' n n' c c' W2 (hs.next g2) hs' gNr a2.t a2.u a2.s).mono fun e W' r => ?_
  obtain ⟨v,e1,sv,b1⟩:=r.only fun r hp hg=>wNr hp hg
  exact ⟨v,e1,⟨sv,g2.trans (b1.mono g2.size)⟩,b1⟩
end T
namespace T
def an (f:Nat→Nat):Nat→Nat
 | 0=>0
 | j+1=>an f j+f j
theorem gq (f:Nat→Nat):∀ n,an f (n+1)=f 0+an (fun j=>f (j+1)) n
 | 0=>by simp [an]
 | n+1=>by
  show an f (n+1)+f (n+1)=f 0+(an (fun j=>f (j+1)) n+f (n+1))
  rw [gq f n];omega
theorem cw {f g:Nat→Nat}:∀ n,(∀ j,j<n→f j=g j)→an f n=an g n
 | 0,_=>rfl
 | n+1,h=>by
  show an f n+f n=an g n+g n
  rw [cw n fun j hj=>h j (by omega),h n (by omega)]
theorem ep (f g:Nat→Nat):∀ n,an (fun j=>f j+g j) n=an f n+an g n
 | 0=>rfl
 | n+1=>by
  show an (fun j=>f j+g j) n+(f n+g n)=(an f n+f n)+(an g n+g n)
  rw [ep f g n];omega
theorem eG (f:Nat→Nat) (c:Nat):∀ n,an (fun j=>c*f j) n=c*an f n
 | 0=>by simp [an]
 | n+1=>by
  show an (fun j=>c*f j) n+c*f n=c*(an f n+f n)
  rw [eG f c n,Nat.mul_add]
theorem gs {f:Nat→Nat} {c:Nat}:∀ n,(∀ j,j<n→f j<c)→0<n→an f n<n*c
 | 0,_,h=>by omega
 | n+1,h,_=>by
  have h1:=h n (by omega)
  show an f n+f n<(n+1)*c
  rw [Nat.succ_mul]
  rcases Nat.eq_zero_or_pos n with rfl | z
  ·simp [an];exact h1
  ·have:=gs (f:=f) (c:=c) n (fun j hj=>h j (by omega)) z
   omega
theorem hJ {f:Nat→Nat} {a:Nat}:∀ n,(∀ j,a≤j→j<n→f j=0)→a≤n→an f n=an f a
 | 0,_,h=>by rw [show a=0 by omega]
 | n+1,h,ha=>by
  rcases Nat.lt_or_ge n a with l | l
  ·rw [show a=n+1 by omega]
  ·show an f n+f n=_
   rw [h n l (by omega),hJ n (fun j h1 h2=>h j h1 (by omega)) l];rfl
def one (a:Nat) (j:Nat):Nat:=if j<a then 1 else 0
theorem it (a:Nat):∀ n,a≤n→an (one a) n=a
 | 0,h=>by rw [show a=0 by omega];rfl
 | n+1,h=>by
  show an (one a) n+one a n=a
  rcases Nat.lt_or_ge n a with l | l
  ·have e:an (one a) n=n:=by
    have:∀ m,m≤n→an (one a) m=m:=fun m=>by
     induction m with
     | zero=>intro _;rfl
     | succ m ih=>intro hm;show an (one a) m+one a m=_;rw [ih (by omega),one,if_pos (by omega)]
    exact this n (Nat.le_refl _)
   rw [e,one,if_pos l];omega
  ·rw [it a n l,one,if_neg (by omega)];rfl
theorem cZ {α:Type} (d:α) (h:α→Nat):∀ l:List α,(l.map h).sum=an (fun j=>h (l[j]?.getD d)) l.length
 | []=>rfl
 | x::l=>by
  rw [List.map_cons,List.sum_cons,List.length_cons,gq,cZ d h l]
  simp
structure Pn where
 place:Nat
 size:Nat
 rem:Nat
def pnQ (n s:Nat) (ws:List Nat) (i:Nat):Pn:=⟨i,n*(ws[i]?.getD 0) / s,n*(ws[i]?.getD 0) % s⟩
def pns (n s:Nat) (ws:List Nat):List Pn:=(List.range ws.length).map (pnQ n s ws)
def pdQ:Pn:=⟨0,0,0⟩
def pat (l:List Pn) (j:Nat):Pn:=l[j]?.getD pdQ
def pLt (a b:Pn):Prop:=b.rem<a.rem∨a.rem=b.rem∧a.place<b.place
structure Shr (n:Nat) (ws F:List Nat):Prop where
 len:F.length=ws.length
 sum:F.sum=n
 near:∀ i,i<ws.length→F[i]?.getD 0*ws.sum<n*(ws[i]?.getD 0)+ws.sum∧n*(ws[i]?.getD 0)<F[i]?.getD 0*ws.sum+ws.sum
 mono:∀ i k,i<ws.length→k<ws.length→(ws[k]?.getD 0<ws[i]?.getD 0∨ws[i]?.getD 0=ws[k]?.getD 0∧i<k)→F[k]?.getD 0≤F[i]?.getD 0
theorem Hr {n:Nat} {ws F:List Nat} {L:List Pn} {a:Nat} (hs:0<ws.sum) (hp:L.Perm (pns n ws.sum ws)) (ho:L.Pairwise fun x y=>¬ pLt y x)
  (ha:n=((pns n ws.sum ws).map (·.size)).sum+a) (hl:F.length=ws.length) (hF:∀ j,j<L.length→F[(pat L j).place]?.getD 0=(pat L j).size+one a j):Shr n ws F:=by
 have hlen:L.length=ws.length:=by rw [hp.length_eq];simp [pns]
 have hmem:∀ p∈L,p.place<ws.length∧p=pnQ n ws.sum ws p.place:=fun p h=>by
  have:=hp.mem_iff.1 h
  obtain ⟨i,hi,rfl⟩:=List.mem_map.1 this
  exact ⟨List.mem_range.1 hi,rfl⟩
 have pm:∀ j,j<L.length→pat L j∈L:=fun j hj=>by unfold pat;rw [List.getElem?_eq_getElem hj];exact List.getElem_mem hj
 have hpl:(L.map (·.place)).Perm (List.range ws.length):=by
  have:=hp.map (·.place)
  unfold pns at this
  rw [List.map_map] at this
  have e:((fun x:Pn=>x.place) ∘ pnQ n ws.sum ws)=id:=rfl
  rw [e,List.map_id] at this
  exact this
 have idx:∀ i,i<ws.length→∃ j,j<L.length∧(pat L j).place=i:=fun i hi=>by
  have h1:=hpl.mem_iff.2 (List.mem_range.2 hi)
  obtain ⟨p,hp1,rfl⟩:=List.mem_map.1 h1
  obtain ⟨j,hj,e⟩:=List.getElem_of_mem hp1
  exact ⟨j,hj,by unfold pat;rw [List.getElem?_eq_getElem hj];simp [e]⟩
 have sumsz:an (fun j=>(pat L j).size) L.length=((pns n ws.sum ws).map (·.size)).sum:=by
  rw [←(hp.map (·.size)).sum_nat,cZ pdQ];rfl
 have sumrm:an (fun j=>(pat L j).rem) L.length=ws.sum*a:=by
  have e1:an (fun j=>ws.sum*(pat L j).size+(pat L j).rem) L.length=n*ws.sum:=by
   have e2:an (fun j=>ws.sum*(pat L j).size+(pat L j).rem) L.length=(L.map fun p=>ws.sum*p.size+p.rem).sum:=(cZ pdQ (fun p:Pn=>ws.sum*p.size+p.rem) L).symm
   rw [e2,(hp.map _).sum_nat]
   unfold pns
   rw [List.map_map]
   have e3:((fun p:Pn=>ws.sum*p.size+p.rem) ∘ pnQ n ws.sum ws)=fun i=>n*(ws[i]?.getD 0):=funext fun i=>Nat.div_add_mod _ _
   rw [e3]
   have e4:=cZ 0 (fun i=>n*(ws[i]?.getD 0)) (List.range ws.length)
   rw [e4,List.length_range]
   have e5:an (fun j=>n*(ws[(List.range ws.length)[j]?.getD 0]?.getD 0)) ws.length=an (fun j=>n*(ws[j]?.getD 0)) ws.length :=
    cw _ fun j hj=>by rw [List.getElem?_range hj];rfl
   rw [e5,eG]
   have e6:=cZ 0 (fun x:Nat=>x) ws
   rw [show ws.map (fun x:Nat=>x)=ws from List.map_id ws] at e6
   rw [←e6]
  rw [ep,eG,sumsz] at e1
  have:n*ws.sum=(((pns n ws.sum ws).map (·.size)).sum+a)*ws.sum:=by rw [←ha]
  rw [this,Nat.add_mul,Nat.mul_comm,Nat.mul_comm a] at e1
  omega
 have rmlt:∀ p∈L,p.rem<ws.sum:=fun p h=>by rw [(hmem p h).2];exact Nat.mod_lt _ hs
 have ord:∀ i j,i<j→j<L.length→¬ pLt (pat L j) (pat L i):=fun i j h1 h2=>by
  have:=List.pairwise_iff_getElem.1 ho i j (by omega) h2 h1
  unfold pat
  rw [List.getElem?_eq_getElem h2,List.getElem?_eq_getElem (by omega:i<L.length)]
  exact this
 have alen:a≤L.length:=by
  rcases Nat.eq_zero_or_pos L.length with z | z
  ·rw [z] at sumrm
   have:ws.sum*a=0:=sumrm.symm
   rcases Nat.mul_eq_zero.1 this with h | h <;> omega
  ·have:=gs (f:=fun j=>(pat L j).rem) (c:=ws.sum) L.length (fun j hj=>rmlt _ (pm j hj)) z
   rw [sumrm,Nat.mul_comm L.length] at this
   exact Nat.le_of_lt (Nat.lt_of_mul_lt_mul_left this)
 have rpos:∀ j,j<a→0<(pat L j).rem:=fun j hj=>by
  refine Nat.pos_of_ne_zero fun z => ?_
  have hz:∀ i,j≤i→i<L.length→(pat L i).rem=0:=fun i h1 h2=>by
   rcases Nat.lt_or_eq_of_le h1 with l | rfl
   ·have:=ord j i l h2
    unfold pLt at this
    omega
   ·exact z
  have e:=hJ (f:=fun j=>(pat L j).rem) (a:=j) L.length hz (by omega)
  rw [sumrm] at e
  rcases Nat.eq_zero_or_pos j with rfl | p
  ·have:ws.sum*a=0:=e
   rcases Nat.mul_eq_zero.1 this with h | h <;> omega
  ·have:=gs (f:=fun j=>(pat L j).rem) (c:=ws.sum) j (fun i hi=>rmlt _ (pm i (by omega))) p
   rw [←e,Nat.mul_comm j] at this
   have:=Nat.lt_of_mul_lt_mul_left this
   omega
 have val:∀ i,i<ws.length→∃ j,j<L.length∧(pat L j).place=i∧pat L j=pnQ n ws.sum ws i∧F[i]?.getD 0=n*(ws[i]?.getD 0) / ws.sum+one a j:=fun i hi=>by
  obtain ⟨j,hj,e⟩:=idx i hi
  have h1:=(hmem _ (pm j hj)).2
  rw [e] at h1
  have h2:=hF j hj
  rw [e,h1] at h2
  exact ⟨j,hj,e,h1,h2⟩
 refine ⟨hl,?_,fun i hi => ?_,fun i k hi hk hw => ?_⟩
 ·have e1:=cZ 0 (fun x:Nat=>x) F
  rw [show F.map (fun x:Nat=>x)=F from List.map_id F] at e1
  have e2:=(hpl.map fun i=>F[i]?.getD 0).sum_nat
  rw [List.map_map] at e2
  have e3:=cZ pdQ ((fun i=>F[i]?.getD 0) ∘ fun x:Pn=>x.place) L
  have e4:=cZ 0 (fun i=>F[i]?.getD 0) (List.range ws.length)
  rw [List.length_range] at e4
  have e5:an (fun j=>F[(List.range ws.length)[j]?.getD 0]?.getD 0) ws.length=an (fun j=>F[j]?.getD 0) ws.length :=
   cw _ fun j hj=>by rw [List.getElem?_range hj];rfl
  rw [e1,hl,←e5,←e4,←e2,e3]
  have e6:an (fun j=>((fun i=>F[i]?.getD 0) ∘ fun x:Pn=>x.place) (L[j]?.getD pdQ)) L.length=an (fun j=>(pat L j).size+one a j) L.length:=cw _ fun j hj=>hF j hj
  rw [e6,ep,sumsz,it a _ alen,←ha]
 ·obtain ⟨j,hj,e,hp1,v⟩:=val i hi
  have dm:=Nat.div_add_mod (n*(ws[i]?.getD 0)) ws.sum
  have ml:=Nat.mod_lt (n*(ws[i]?.getD 0)) hs
  have rp:j<a→0<n*(ws[i]?.getD 0) % ws.sum:=fun h=>by
   have:=rpos j h
   rw [hp1] at this;exact this
  rw [v,Nat.add_mul,Nat.mul_comm (n*(ws[i]?.getD 0) / ws.sum)]
  generalize n*(ws[i]?.getD 0) % ws.sum=r at *
  generalize ws.sum*(n*(ws[i]?.getD 0) / ws.sum)=q at *
  unfold one
  by_cases h:j<a
  ·have:=rp h
   rw [if_pos h,Nat.one_mul];omega
  ·rw [if_neg h,Nat.zero_mul];omega
 ·obtain ⟨j,hj,e,hp1,v⟩:=val i hi
  obtain ⟨m,hm,e',hp2,v'⟩:=val k hk
  rw [v,v']
  have dm:=Nat.div_add_mod (n*(ws[i]?.getD 0)) ws.sum
  have dm':=Nat.div_add_mod (n*(ws[k]?.getD 0)) ws.sum
  have r1:(pat L j).rem=n*(ws[i]?.getD 0) % ws.sum:=by rw [hp1];rfl
  have r2:(pat L m).rem=n*(ws[k]?.getD 0) % ws.sum:=by rw [hp2];rfl
  have le:n*(ws[k]?.getD 0)≤n*(ws[i]?.getD 0):=Nat.mul_le_mul_left _ (by rcases hw with h | h <;> omega)
  have sle:n*(ws[k]?.getD 0) / ws.sum≤n*(ws[i]?.getD 0) / ws.sum:=Nat.div_le_div_right le
  have o1:one a m≤1:=by unfold one;split <;> omega
  rcases Nat.lt_or_eq_of_le sle with l | eqq
  ·omega
  ·have:one a m≤one a j:=by
    unfold one
    by_cases h:m<a
    ·rw [if_pos h,if_pos]
     ·exact Nat.le_refl _
     ·refine Classical.byContradiction fun hja => ?_
      have lt:m<j:=by omega
      have:=ord m j lt hj
      unfold pLt at this
      rw [r1,r2,e,e'] at this
      rw [eqq] at dm'
      rcases hw with hw | ⟨hw,hik⟩
      ·have:n*(ws[i]?.getD 0) % ws.sum≤n*(ws[k]?.getD 0) % ws.sum:=by omega
       have e0:n*(ws[i]?.getD 0)=n*(ws[k]?.getD 0):=by omega
       rcases Nat.eq_zero_or_pos n with z | z
       ·have p0:=rpos m h
        rw [r2,z,Nat.zero_mul,Nat.zero_mod] at p0
        omega
       ·have:=Nat.eq_of_mul_eq_mul_left z e0
        omega
      ·rw [hw] at this
       omega
    ·rw [if_neg h];exact Nat.zero_le _
   omega
end T
end Go.Proofs.YtbhbhlfkdlfimaaGreatDoor
