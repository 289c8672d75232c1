/- Parts of the proof of the text YtocalfjfjjljnaaGreatDoorZO44. -/
import Derived.Test.YtocalfjfjjljnaaGreatDoorZO1
import Derived.Test.YtocalfjfjjljnaaGreatDoorZO24
import Derived.Test.YtocalfjfjjljnaaGreatDoorZO25
set_option linter.all false
set_option maxRecDepth 100000
set_option maxHeartbeats 8000000
namespace Go.Proofs.YtocalfjfjjljnaaGreatDoor.T
open Go.Proofs.YtocalfjfjjljnaaGreatDoor Go Go.RowKit
theorem wT (s z rest X:ByteArray) (g h1 h2 c:Bool) (J:Nat) (E:Int) (N P:Nat→ByteArray) (Q:Nat→ByteArray) (w:World) (hN:N 0=⟨#[48]⟩) (hJ:J<3) (hE:(E==0)=false) (hE':(E != 0)=true)
   (c1:∀ W,Below w.heap.size w W→Calls Tryz.prog 43 #[.string s,.string ⟨#[45]⟩] W fun e W'=>e = .returned (.tuple #[.string z,.bool g])∧Below W.heap.size W W')
   (c2:∀ W,Below w.heap.size w W→Calls Tryz.prog 66 #[.string z,.string ⟨#[39]⟩] W fun e W'=>e = .returned (.tuple #[.string (P 0),.string rest,.bool h1])∧Below W.heap.size W W')
   (c3:∀ W,Below w.heap.size w W→Calls Tryz.prog 66 #[.string rest,.string ⟨#[34]⟩] W fun e W'=>e = .returned (.tuple #[.string (P 1),.string (P 2),.bool h2])∧Below W.heap.size W W')
   (c4:∀ j,j≤J→∀ W,Below w.heap.size w W→Calls Tryz.prog 67 #[.string (N j),.string ⟨#[49,50]⟩] W fun e W'=>e = .returned (.tuple #[.string (Q j),.int .i64 0])∧Below W.heap.size W W')
   (c5:∀ j,j<J→∀ W,Below w.heap.size w W→Calls Tryz.prog 34 #[.string (P j),.func (.func 68) #[] #[]] W fun e W'=>e = .returned (.bool true)∧Below W.heap.size W W')
   (c6:∀ j,j<J→∀ W,Below w.heap.size w W→Calls Tryz.prog 69 #[.string (Q j),.string (P j)] W fun e W'=>e = .returned (.tuple #[.string (N (j+1)),.int .i64 0])∧Below W.heap.size W W')
   (c7:∀ W,Below w.heap.size w W→Calls Tryz.prog 34 #[.string (P J),.func (.func 68) #[] #[]] W fun e W'=>e = .returned (.bool c)∧Below W.heap.size W W')
   (c8:c=true→∀ W,Below w.heap.size w W→Calls Tryz.prog 69 #[.string (Q J),.string (P J)] W fun e W'=>e = .returned (.tuple #[.string X,.int .i64 E])∧Below W.heap.size W W') :
   Calls Tryz.prog 28 #[.string s] w fun e W'=>e = .returned (.tuple #[.string ⟨#[]⟩,.bool false])∧Below w.heap.size w W':=by
 have O:=Ha (Hb c1 (Hb c2 (Hb c3 (Hb c4 (Hb c5 (Hb c6 (Hb c7 c8)))))));clear c1 c2 c3 c4 c5 c6 c7 c8
 have HN0:=Ha hN;clear hN
 have ix0:=BP
 have ix1:=BQ
 have ix2:=BR
 go_enter Tryz.func28,Tryz.ntmps28
 have HB:=Ha (Below.refl w.heap.size w)
 go_wp2_with fail
 refine (O.out.1 _ HB.out).mono ?_
 rintro e w1 ⟨rfl,b⟩
 replace HB:=Ha (HB.out.trans (b.mono HB.out.size));clear b
 go_wp2_with fail
 refine (O.out.2.1 _ HB.out).mono ?_
 rintro e w2 ⟨rfl,b⟩
 replace HB:=Ha (HB.out.trans (b.mono HB.out.size));clear b
 go_wp2_with fail
 refine (O.out.2.2.1 _ HB.out).mono ?_
 rintro e w3 ⟨rfl,b⟩
 replace HB:=Ha (HB.out.trans (b.mono HB.out.size));clear b
 have HJ:=Ha hJ;clear hJ
 go_wp2
 go_loopw [12,40] (fun x i wr=>∃ j:Nat,x = .string (N j)∧i = .int .i64 j∧j≤J∧Hid (Below w.heap.size w wr)) (fun _ i _=>3 - (intOf i).toNat)
 case atStart=>exact ⟨0,by rw [HN0.out],rfl,by omega,HB⟩
 case round =>
   clear HB
   obtain ⟨j,rfl,rfl,hj,HB⟩:=hrel
   have hJ3:=HJ.out
   by_cases hlt:j<J
   · have X:=Ha (Hb (O.out.2.2.2.1 j hj) (Hb (O.out.2.2.2.2.1 j hlt) (O.out.2.2.2.2.2.1 j hlt)))
     have LT:=Ha hlt
     have hjj:j=0∨j=1:=by omega
     clear hlt hj hJ3
     rcases hjj with rfl | rfl <;>
     (go_wp2_with fail
      refine (X.out.1 _ HB.out).mono ?_
      rintro e w4 ⟨rfl,b⟩
      replace HB:=Ha (HB.out.trans (b.mono HB.out.size));clear b
      go_wp2_with fail
      refine (X.out.2.1 _ HB.out).mono ?_
      rintro e w5 ⟨rfl,b⟩
      replace HB:=Ha (HB.out.trans (b.mono HB.out.size));clear b
      go_wp2_with fail
      refine (X.out.2.2 _ HB.out).mono ?_
      rintro e w6 ⟨rfl,b⟩
      replace HB:=Ha (HB.out.trans (b.mono HB.out.size));clear b
      go_wp2
      go_roundw
      case rel=>exact ⟨_,rfl,rfl,LT.out,HB⟩
      case measure=>simp [intOf])
   · obtain rfl:j=J:=by omega
     have X:=Ha (Hb (O.out.2.2.2.1 j hj) (Hb O.out.2.2.2.2.2.2.1 O.out.2.2.2.2.2.2.2))
     have hjj:j=0∨j=1∨j=2:=by omega
     clear hlt hj hJ3 HJ O
     rcases hjj with rfl | rfl | rfl <;>
     (cases c
      · go_wp2_with fail
        refine (X.out.1 _ HB.out).mono ?_
        rintro e w4 ⟨rfl,b⟩
        replace HB:=Ha (HB.out.trans (b.mono HB.out.size));clear b
        go_wp2_with fail
        refine (X.out.2.1 _ HB.out).mono ?_
        rintro e w5 ⟨rfl,b⟩
        replace HB:=Ha (HB.out.trans (b.mono HB.out.size));clear b
        go_wp2
        go_ret2
        exact ⟨rfl,HB.out⟩
      · go_wp2_with fail
        refine (X.out.1 _ HB.out).mono ?_
        rintro e w4 ⟨rfl,b⟩
        replace HB:=Ha (HB.out.trans (b.mono HB.out.size));clear b
        go_wp2_with fail
        refine (X.out.2.1 _ HB.out).mono ?_
        rintro e w5 ⟨rfl,b⟩
        replace HB:=Ha (HB.out.trans (b.mono HB.out.size));clear b
        go_wp2_with fail
        refine (X.out.2.2 trivial _ HB.out).mono ?_
        rintro e w6 ⟨rfl,b⟩
        replace HB:=Ha (HB.out.trans (b.mono HB.out.size));clear b
        go_wp2
        go_ret2
        exact ⟨rfl,HB.out⟩)
def cC (l:List UInt8):Nat→List UInt8
 | 0=>kA 39 l
 | 1=>kA 34 (kB 39 l)
 | _=>kB 34 (kB 39 l)
def gd9 (p:List UInt8):Bool:=dgs p && (chk p==0)
def vN9 (l:List UInt8):Nat→Nat
 | 0=>0
 | n+1=>vN9 l n*12+ad (cC l n)
theorem oH (l:List UInt8) (j:Nat):(cC l j).length≤l.length:=by
 unfold cC
 split
 ·exact (kS 39 l).1
 ·exact Nat.le_trans (kS 34 _).1 (kS 39 l).2
 ·exact Nat.le_trans (kS 34 _).2 (kS 39 l).2
theorem mw {l:List UInt8} (h:l.length≤90):∀ j,(∀ i,i<j→dgs (cC l i)=true)→vN9 l j<aA (90+2*j)
 | 0,_=>Nat.pow_pos (by decide)
 | j+1,hd=>by
  have i1:=mw h j (fun i hi=>hd i (by omega))
  have i2:=Nat.lt_of_lt_of_le (cV (cC l j) (pQ (hd j (by omega)))) (ay (Nat.le_trans (oH l j) (Nat.le_trans h (by omega:90≤90+2*j))))
  have e:aA (90+2*(j+1))=aA (90+2*j)*100:=by unfold aA;rw [show 90+2*(j+1)=90+2*j+2 by omega,Nat.pow_add]
  rw [e]
  show vN9 l j*12+ad (cC l j)<_
  omega
theorem nu {p:List UInt8} (h:gd9 p=true):dgs p=true∧p=Lib.decDigits (ad p):=by
 unfold gd9 at h
 rw [Bool.and_eq_true,beq_iff_eq] at h
 refine ⟨h.1,?_⟩
 have hn:af p=false:=by
  have:=ph (pQ h.1) [] (ta h.1)
  rwa [List.append_nil] at this
 have:=cY p h.2
 rw [←fV hn,Lib.itoa_nonneg] at this
 exact this.symm
def tz9 (l:List UInt8):Int:=if af l then -(vN9 (szL l) 3:Int) else (vN9 (szL l) 3:Int)
def zo (l:List UInt8):Bool:=gd9 (cC (szL l) 0) && gd9 (cC (szL l) 1) && gd9 (cC (szL l) 2)
theorem zp {l:List UInt8} (h:l.length≤90) (hd:∀ i,i<3→dgs (cC (szL l) i)=true):Bd 110 (tz9 l):=by
 have h1:=mw (Nat.le_trans (bj l) h) 3 hd
 have h2:=Nat.lt_of_lt_of_le h1 (ay (by decide:90+2*3≤110))
 show Int.natAbs _<_
 unfold tz9
 split <;> simpa using h2
section
variable (s:ByteArray) (w:World) (hs:s.size≤90) (T:TabM w)
include hs T
theorem vk (j:Nat) (hj:j≤3) (hd:∀ i,i<j→dgs (cC (szL s.data.toList) i)=true) (W:World) (hW:Below w.heap.size w W) :
  Calls Tryz.prog 67 #[.string (aa ((vN9 (szL s.data.toList) j:Nat):Int)),.string ⟨#[49,50]⟩] W fun e W'=>e = .returned (.tuple #[.string (aa ((vN9 (szL s.data.toList) j*12:Nat):Int)),.int .i64 0])∧Below W.heap.size W W':=by
 have hl:s.data.toList.length≤90:=hs
 have h1:=mw (Nat.le_trans (bj _) hl) j hd
 have h2:=Nat.lt_of_lt_of_le h1 (ay (by omega:90+2*j≤110))
 have e:aA 112=aA 110*100:=by unfold aA;rw [show 112=110+2 from rfl,Nat.pow_add]
 have h3:vN9 (szL s.data.toList) j*12<aA 112:=by rw [e];omega
 have c:=vz ((vN9 (szL s.data.toList) j:Nat):Int) 12 W (by rw [Int.natAbs_natCast];exact Nat.lt_of_lt_of_le h2 (ay (by decide))) (jY (by decide)) (by
  have:((vN9 (szL s.data.toList) j*12:Nat):Int).natAbs<lim:=by rw [Int.natAbs_natCast];exact Nat.lt_of_lt_of_le h3 (ay (by decide))
  rwa [Int.natCast_mul] at this) (T.next hW).1
 rw [ye] at c
 rw [Int.natCast_mul]
 exact c
theorem oI (j:Nat) (W:World) :
  Calls Tryz.prog 34 #[.string (bO (cC (szL s.data.toList) j)),.func (.func 68) #[] #[]] W fun e W'=>e = .returned (.bool (dgs (cC (szL s.data.toList) j)))∧Below W.heap.size W W':=by
 have hl:s.data.toList.length≤90:=hs
 have c:=BM (bO (cC (szL s.data.toList) j)) W (by rw [ai];have:=oH (szL s.data.toList) j;have:=bj s.data.toList;omega)
 rwa [aP] at c
theorem vl (j:Nat) (hj:j<3) (hd:∀ i,i<j→dgs (cC (szL s.data.toList) i)=true) (hg:gd9 (cC (szL s.data.toList) j)=true) (W:World) (hW:Below w.heap.size w W) :
  Calls Tryz.prog 69 #[.string (aa ((vN9 (szL s.data.toList) j*12:Nat):Int)),.string (bO (cC (szL s.data.toList) j))] W fun e W'=>e = .returned (.tuple #[.string (aa ((vN9 (szL s.data.toList) (j+1):Nat):Int)),.int .i64 0])∧Below W.heap.size W W':=by
 have hl:s.data.toList.length≤90:=hs
 obtain ⟨g1,g2⟩:=nu hg
 have h1:=mw (Nat.le_trans (bj _) hl) (j+1) (fun i hi=>by
  rcases Nat.lt_or_ge i j with q | q
  ·exact hd i q
  ·obtain rfl:i=j:=by omega
   exact g1)
 have h2:=Nat.lt_of_lt_of_le h1 (ay (by omega:90+2*(j+1)≤110))
 have es:vN9 (szL s.data.toList) (j+1)=vN9 (szL s.data.toList) j*12+ad (cC (szL s.data.toList) j):=rfl
 have big:∀ k:Nat,k≤vN9 (szL s.data.toList) (j+1)→((k:Nat):Int).natAbs<lim:=fun k hk=>by
  rw [Int.natAbs_natCast];exact Nat.lt_of_lt_of_le (Nat.lt_of_le_of_lt hk h2) (ay (by decide))
 have c:=vy ((vN9 (szL s.data.toList) j*12:Nat):Int) ((ad (cC (szL s.data.toList) j):Nat):Int) W (big _ (by omega)) (big _ (by omega)) (by rw [←Int.natCast_add,←es];exact big _ (Nat.le_refl _)) (T.next hW).1
 rw [←Int.natCast_add,←es,←aR (ad _),←g2] at c
 exact c
theorem Bo (j:Nat) (hj:j<3) (hd:∀ i,i<j→dgs (cC (szL s.data.toList) i)=true) (hg:chk (cC (szL s.data.toList) j)≠0) (W:World) (hW:Below w.heap.size w W) :
  Calls Tryz.prog 69 #[.string (aa ((vN9 (szL s.data.toList) j*12:Nat):Int)),.string (bO (cC (szL s.data.toList) j))] W fun e W'=>e = .returned (.tuple #[.string ⟨#[]⟩,.int .i64 (chk (cC (szL s.data.toList) j))])∧Below W.heap.size W W':=by
 have hl:s.data.toList.length≤90:=hs
 have h1:=mw (Nat.le_trans (bj _) hl) j hd
 have h2:=Nat.lt_of_lt_of_le h1 (ay (by omega:90+2*j≤110))
 have e:aA 112=aA 110*100:=by unfold aA;rw [show 112=110+2 from rfl,Nat.pow_add]
 have h3:((vN9 (szL s.data.toList) j*12:Nat):Int).natAbs<lim:=by
  rw [Int.natAbs_natCast]
  exact Nat.lt_of_lt_of_le (show _<aA 112 by rw [e];omega) (ay (by decide))
 have c:=Add_any (aa ((vN9 (szL s.data.toList) j*12:Nat):Int)) (bO (cC (szL s.data.toList) j)) W (by have:=aJ h3;unfold maxLen;omega) (by rw [ai];have:=oH (szL s.data.toList) j;have:=bj s.data.toList;unfold maxLen;omega) (T.next hW).1
 have e2:bo (aa ((vN9 (szL s.data.toList) j*12:Nat):Int)).data.toList (bO (cC (szL s.data.toList) j)).data.toList=chk (cC (szL s.data.toList) j):=by
  unfold bo;rw [if_pos (dh h3),aP]
 rw [e2,lJ hg,lK hg] at c
 exact c
theorem vm (W:World):Calls Tryz.prog 43 #[.string s,.string ⟨#[45]⟩] W fun e W'=>e = .returned (.tuple #[.string (bO (szL s.data.toList)),.bool (af s.data.toList)])∧Below W.heap.size W W':=jO s W
theorem vn (W:World):Calls Tryz.prog 66 #[.string (bO (szL s.data.toList)),.string ⟨#[39]⟩] W fun e W'=>e = .returned (.tuple #[.string (bO (cC (szL s.data.toList) 0)),.string (bO (kB 39 (szL s.data.toList))),.bool (kH 39 (szL s.data.toList))])∧Below W.heap.size W W':=by
 have hl:s.data.toList.length≤90:=hs
 have c:=xX 39 (bO (szL s.data.toList)) W (by rw [ai];have:=bj s.data.toList;omega)
 unfold k1 k2 at c
 rwa [aP] at c
theorem vo (W:World):Calls Tryz.prog 66 #[.string (bO (kB 39 (szL s.data.toList))),.string ⟨#[34]⟩] W fun e W'=>e = .returned (.tuple #[.string (bO (cC (szL s.data.toList) 1)),.string (bO (cC (szL s.data.toList) 2)),.bool (kH 34 (kB 39 (szL s.data.toList)))])∧Below W.heap.size W W':=by
 have hl:s.data.toList.length≤90:=hs
 have c:=xX 34 (bO (kB 39 (szL s.data.toList))) W (by rw [ai];have:=bj s.data.toList;have:=(kS 39 (szL s.data.toList)).2;omega)
 unfold k1 k2 at c
 rwa [aP] at c
theorem pL (hg:∀ j,j<3→gd9 (cC (szL s.data.toList) j)=true) :
  Calls Tryz.prog 28 #[.string s] w fun e W'=>e = .returned (.tuple #[.string (aa (tz9 s.data.toList)),.bool ((bO (ftT (tz9 s.data.toList))).toList==s.toList)])∧Below w.heap.size w W':=by
 have hl:s.data.toList.length≤90:=hs
 have hd:∀ i,i<3→dgs (cC (szL s.data.toList) i)=true:=fun i hi=>(nu (hg i hi)).1
 have bz:=zp hl hd
 have h3:=mw (Nat.le_trans (bj _) hl) 3 hd
 exact rS s (bO (szL s.data.toList)) (bO (kB 39 (szL s.data.toList))) (aa (tz9 s.data.toList)) (bO (ftT (tz9 s.data.toList))) (af s.data.toList) (kH 39 (szL s.data.toList)) (kH 34 (kB 39 (szL s.data.toList))) (fun j=>aa ((vN9 (szL s.data.toList) j:Nat):Int)) (fun j=>bO (cC (szL s.data.toList) j)) (fun j=>aa ((vN9 (szL s.data.toList) j*12:Nat):Int)) w (by show aa 0=_;decide+kernel)
  (fun W _=>vm s w hs T W) (fun W _=>vn s w hs T W) (fun W _=>vo s w hs T W) (fun j hj W hW=>vk s w hs T j (by omega) (fun i hi=>hd i (by omega)) W hW) (fun j hj W hW=>by
   have c:=oI s w hs T j W
   rwa [hd j hj] at c) (fun j hj W hW=>vl s w hs T j hj (fun i hi=>hd i (by omega)) (hg j hj) W hW) (fun W hW=>by
   have c:=lk (af s.data.toList) (bO (Lib.decDigits (vN9 (szL s.data.toList) 3))) W (by rw [ai];have:=cG (k:=96) (by decide) h3;omega)
   rwa [uV,aR] at c) (fun W hW=>tH _ W (bz.up (by decide)) (T.next hW))
theorem zq (J:Nat) (hJ:J<3) (hg:∀ j,j<J→gd9 (cC (szL s.data.toList) j)=true) (hb:gd9 (cC (szL s.data.toList) J)=false) :
  Calls Tryz.prog 28 #[.string s] w fun e W'=>e = .returned (.tuple #[.string ⟨#[]⟩,.bool false])∧Below w.heap.size w W':=by
 have hd:∀ i,i<J→dgs (cC (szL s.data.toList) i)=true:=fun i hi=>(nu (hg i hi)).1
 obtain ⟨E,e0,e1,e2⟩:∃ E:Int,(E==0)=false∧(E != 0)=true∧(dgs (cC (szL s.data.toList) J)=true→chk (cC (szL s.data.toList) J)=E):=by
  by_cases h:dgs (cC (szL s.data.toList) J)=true
  ·unfold gd9 at hb
   rw [h,Bool.true_and] at hb
   exact ⟨_,hb,by rw [bne,hb];rfl,fun _=>rfl⟩
  ·exact ⟨1,rfl,rfl,fun q=>absurd q h⟩
 refine wT s (bO (szL s.data.toList)) (bO (kB 39 (szL s.data.toList))) ⟨#[]⟩ (af s.data.toList) (kH 39 (szL s.data.toList)) (kH 34 (kB 39 (szL s.data.toList))) (dgs (cC (szL s.data.toList) J)) J E (fun j=>aa ((vN9 (szL s.data.toList) j:Nat):Int)) (fun j=>bO (cC (szL s.data.toList) j)) (fun j=>aa ((vN9 (szL s.data.toList) j*12:Nat):Int)) w (by show aa 0=_;decide+kernel) hJ e0 e1
  (fun W _=>vm s w hs T W) (fun W _=>vn s w hs T W) (fun W _=>vo s w hs T W) (fun j hj W hW=>vk s w hs T j (by omega) (fun i hi=>hd i (by omega)) W hW) (fun j hj W hW=>by
   have c:=oI s w hs T j W
   rwa [hd j hj] at c) (fun j hj W hW=>vl s w hs T j (by omega) (fun i hi=>hd i (by omega)) (hg j hj) W hW) (fun W _=>oI s w hs T J W) (fun hc W hW => ?_)
 have ne:chk (cC (szL s.data.toList) J)≠0:=by rw [e2 hc];simpa using e0
 have c:=Bo s w hs T J hJ hd ne W hW
 rwa [e2 hc] at c
end
def pfO (l:List UInt8):Bool:=zo l && (ftT (tz9 l)==l)
def pfE (l:List UInt8):Int:=if 90<l.length then 4 else if pfO l then 0 else 3
def pfB (l:List UInt8):ByteArray:=if pfE l=0 then ag ((tz9 l:Rat)*tw) else ⟨#[]⟩
theorem uo (s:ByteArray) (w:World) (s1:(90:Int)<s.size) :
  Calls Tryz.prog 8 #[.string s] w fun e W'=>e = .returned (.tuple #[.string ⟨#[]⟩,.int .i64 4])∧Below w.heap.size w W':=by
 go_enter Tryz.func8,Tryz.ntmps8
 go_wp2
 go_ret2
 exact ⟨rfl,Below.refl _ _⟩
end Go.Proofs.YtocalfjfjjljnaaGreatDoor.T
