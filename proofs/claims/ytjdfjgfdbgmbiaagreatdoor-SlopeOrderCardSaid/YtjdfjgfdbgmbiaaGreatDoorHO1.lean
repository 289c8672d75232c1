/- Parts of the proofs of the texts YtjdfjgfdbgmbiaaGreatDoorHO. -/
import Derived.Test.YtjdfjgfdbgmbiaaGreatDoorHB1
import Derived.Test.YtjdfjgfdbgmbiaaGreatDoorHB10
import Derived.Test.YtjdfjgfdbgmbiaaGreatDoorHB11
import Derived.Test.YtjdfjgfdbgmbiaaGreatDoorHB12
import Derived.Test.YtjdfjgfdbgmbiaaGreatDoorHB13
import Derived.Test.YtjdfjgfdbgmbiaaGreatDoorHB14
import Derived.Test.YtjdfjgfdbgmbiaaGreatDoorHB15
import Derived.Test.YtjdfjgfdbgmbiaaGreatDoorHB16
import Derived.Test.YtjdfjgfdbgmbiaaGreatDoorHB17
import Derived.Test.YtjdfjgfdbgmbiaaGreatDoorHB18
import Derived.Test.YtjdfjgfdbgmbiaaGreatDoorHB19
import Derived.Test.YtjdfjgfdbgmbiaaGreatDoorHB2
import Derived.Test.YtjdfjgfdbgmbiaaGreatDoorHB20
import Derived.Test.YtjdfjgfdbgmbiaaGreatDoorHB21
import Derived.Test.YtjdfjgfdbgmbiaaGreatDoorHB22
import Derived.Test.YtjdfjgfdbgmbiaaGreatDoorHB23
import Derived.Test.YtjdfjgfdbgmbiaaGreatDoorHB24
import Derived.Test.YtjdfjgfdbgmbiaaGreatDoorHB25
import Derived.Test.YtjdfjgfdbgmbiaaGreatDoorHB26
import Derived.Test.YtjdfjgfdbgmbiaaGreatDoorHB27
import Derived.Test.YtjdfjgfdbgmbiaaGreatDoorHB28
import Derived.Test.YtjdfjgfdbgmbiaaGreatDoorHB29
import Derived.Test.YtjdfjgfdbgmbiaaGreatDoorHB3
import Derived.Test.YtjdfjgfdbgmbiaaGreatDoorHB30
import Derived.Test.YtjdfjgfdbgmbiaaGreatDoorHB31
import Derived.Test.YtjdfjgfdbgmbiaaGreatDoorHB32
import Derived.Test.YtjdfjgfdbgmbiaaGreatDoorHB33
import Derived.Test.YtjdfjgfdbgmbiaaGreatDoorHB34
import Derived.Test.YtjdfjgfdbgmbiaaGreatDoorHB35
import Derived.Test.YtjdfjgfdbgmbiaaGreatDoorHB36
import Derived.Test.YtjdfjgfdbgmbiaaGreatDoorHB37
import Derived.Test.YtjdfjgfdbgmbiaaGreatDoorHB38
import Derived.Test.YtjdfjgfdbgmbiaaGreatDoorHB39
import Derived.Test.YtjdfjgfdbgmbiaaGreatDoorHB4
import Derived.Test.YtjdfjgfdbgmbiaaGreatDoorHB5
import Derived.Test.YtjdfjgfdbgmbiaaGreatDoorHB6
import Derived.Test.YtjdfjgfdbgmbiaaGreatDoorHB7
import Derived.Test.YtjdfjgfdbgmbiaaGreatDoorHB8
import Derived.Test.YtjdfjgfdbgmbiaaGreatDoorHB9
set_option linter.all false
set_option maxRecDepth 100000
set_option maxHeartbeats 8000000
namespace Go.Proofs.YtjdfjgfdbgmbiaaGreatDoor.T
open Go.Proofs.YtjdfjgfdbgmbiaaGreatDoor Go Go.RowKit
theorem nN_lt {x:Rat} {k:Nat} (hk:1≤k) (h:Bq k x):nN x<tenTo (k+k):=by
 rw [tenTo_add]
 have t0:=tenTo_pos k
 unfold nN
 split
 ·exact Nat.lt_of_lt_of_le (Nat.one_lt_pow (by omega) (by decide):1<tenTo k) (Nat.le_mul_of_pos_right _ t0)
 ·rename_i hb
  have n0:=num_pos_of hb
  obtain ⟨_,_,_,d1,_⟩:=strips_spec primes primes_2 n0
  obtain ⟨_,_,_,d2,_⟩:=strips_spec primes primes_2 x.den_pos
  exact Nat.mul_lt_mul'' (Nat.lt_of_le_of_lt (Nat.le_of_dvd n0 d1) h.1) (Nat.lt_of_le_of_lt (Nat.le_of_dvd x.den_pos d2) h.2)
theorem nC_bq {x:Rat} {k:Nat} (h:Bq k x):Bq k (nC x) :=
 (nC_J x).bq (cD_pos x) (Nat.lt_of_le_of_lt (cN_le x) h.1) (Nat.lt_of_le_of_lt (cD_le x) h.2)
theorem gth1 {c q:Rat} (c0:c≠0) (q0:q≠0):gth [(c,q)] = [(c*nC q,((nN q:Nat):Rat))]:=by
 show stp [] (c,q)=_
 unfold stp
 rw [if_neg (fun h=>h.elim c0 q0)]
 rfl
theorem co0 {c q:Rat} (c0:c≠0) (q0:0<q):c*nC q≠0:=fun z=>(Rat.mul_eq_zero.1 z).elim c0 fun z=>by
 have:=nC_pos (Rat.le_of_lt q0) (by grind)
 grind
theorem fin1 {c q:Rat} (c0:c≠0) (q0:0<q):T.fin [(c,q)] = [(c*nC q,((nN q:Nat):Rat))]:=by
 unfold T.fin
 rw [gth1 c0 (by grind),List.filter_cons_of_pos (by unfold nz;exact decide_eq_true (co0 c0 q0))];rfl
theorem gd1 {c q:Rat} (c0:c≠0) (q0:0<q) (hc:Bq 100 c) (hq:Bq 90 q) (hk:Bq 90 (nC q)) (hC:Bq 60 (c*nC q)) (hN:nN q<tenTo 20):Gd [(c,q)]:=by
 have nt:NT (nrmT (c,q)):=⟨hC.up (by decide),nN q,rfl,nrm_of (Rat.le_of_lt q0),hN⟩
 refine ⟨⟨by simp,fun t ht => ?_,fun t ht _ _ => ?_,fun j _ s hs => ?_⟩,?_,?_⟩
 ·obtain rfl:=List.mem_singleton.1 ht
  exact ⟨Rat.le_of_lt q0,hq,hc⟩
 ·obtain rfl:=List.mem_singleton.1 ht
  exact ⟨hk,nt⟩
 ·match j with
  | 0=>simp [gth] at hs
  | j+1 =>
   have e : [(c,q)].take (j+1) = [(c,q)]:=by simp
   rw [e,gth1 c0 (by grind)] at hs
   obtain rfl:=List.mem_singleton.1 hs
   exact nt
 ·rw [fin1 c0 q0];simp
 ·rw [fin1 c0 q0]
  intro t ht
  obtain rfl:=List.mem_singleton.1 ht;exact hC
theorem Make_1 (c q:Rat) (W:World) (b:Nat) (k:Blk W b #[.string (strQ c),.string (strQ q)]) (c0:c≠0) (q0:0<q) (bc:Bq 60 c) (bq:Bq 60 q) (hC:Bq 60 (c*nC q)) (hN:nN q<tenTo 20) (ht:Tab W) (ht2:Tab64 W) (hS:Sm W) :
  Calls Tryz.prog 28 #[.slice (some ⟨b,0,none⟩) 1 1] W fun e W'=>∃ v,e = .returned (.tuple #[v,.int .i64 0])∧Sv W' [(c*nC q,((nN q:Nat):Rat))] v∧Below W.heap.size W W':=by
 refine (Make_ok [(c,q)] b 1 W (Tl.lit1 c q k) (gd1 c0 q0 (bc.up (by decide)) (bq.up (by decide)) (nC_bq (bq.up (by decide))) hC hN) (fun t ht => ?_) ht ht2 hS).mono fun e W' r=>r.only fun r hp _ => ?_
 ·obtain rfl:=List.mem_singleton.1 ht;exact ⟨bc,bq⟩
 ·rw [fin1 c0 q0] at hp;exact List.perm_singleton.1 hp
theorem Same_1 (l:List Tm) (W:World) (v u:Value) (hv:Sv W l v) (hu:Sv W l u) :
  Calls Tryz.prog 23 #[v,u] W fun e W'=>e = .returned (.bool true)∧Below W.heap.size W W':=by
 obtain ⟨p,a,b,rfl,hs⟩:=hv
 obtain ⟨p',a',b',rfl,hs'⟩:=hu
 exact Same_ok l p p' a a' b b' W hs hs'
theorem rmul (j k:Nat) {x y:Rat} (hx:Bq j x) (hy:Bq k y) (h:j+k≤300) (W:World) (ht:Tab W) (ht2:Tab64 W) :
  Calls Tryz.prog 24 #[.string (strQ x),.string (strQ y)] W fun e W'=>e = .returned (.tuple #[.string (strQ (x*y)),.int .i64 0])∧Below W.heap.size W W':=by
 have m:=qmul_ok hx hy h
 have c:=Mul_q x y W (hx.lim (by omega)) (hy.lim (by omega)) ht ht2
 rwa [m.1,m.2.1] at c
theorem radd (j k:Nat) {x y:Rat} (hx:Bq j x) (hy:Bq k y) (h:j+k+1≤300) (W:World) (ht:Tab W) (ht2:Tab64 W) :
  Calls Tryz.prog 13 #[.string (strQ x),.string (strQ y)] W fun e W'=>e = .returned (.tuple #[.string (strQ (x+y)),.int .i64 0])∧Below W.heap.size W W':=by
 have m:=qadd_ok hx hy h
 have c:=Add_q x y W (hx.lim (by omega)) (hy.lim (by omega)) ht ht2
 rwa [m.1,m.2.1] at c
theorem rdiv (j k:Nat) {x y:Rat} (hx:Bq j x) (hy:Bq k y) (y0:y≠0) (h:j+k≤300) (W:World) (ht:Tab W) (ht2:Tab64 W) :
  Calls Tryz.prog 82 #[.string (strQ x),.string (strQ y)] W fun e W'=>e = .returned (.tuple #[.string (strQ (x / y)),.int .i64 0])∧Below W.heap.size W W':=by
 have m:=qdiv_ok hx hy h y0
 have c:=Div_q x y W (hx.lim (by omega)) (hy.lim (by omega)) y0 ht ht2
 rwa [m.1,m.2.1] at c
theorem rcmp (j k:Nat) {x y:Rat} (hx:Bq j x) (hy:Bq k y) (h:j+k≤300) (W:World) (ht:Tab W) (ht2:Tab64 W) :
  Calls Tryz.prog 15 #[.string (strQ x),.string (strQ y)] W fun e W'=>e = .returned (.tuple #[.int .i64 (cmpQ x y),.int .i64 0])∧Below W.heap.size W W':=by
 have m:=qcmp_ok hx hy h
 have c:=Compare_q x y W (hx.lim (by omega)) (hy.lim (by omega)) ht ht2
 rwa [m.1,m.2] at c
theorem ratS (q:Rat):rat (strQ q)=q:=strQ_rat q
theorem rsum1 (j k:Nat) {x y:Rat} (hx:Bq j x) (hy:Bq k y) (h:1+j+k+5≤300) (W:World) (b:Nat) (l:Blk W b #[.string (strQ 1),.string (strQ x),.string (strQ y)]) (ht:Tab W) (ht2:Tab64 W) :
  Calls Tryz.prog 83 #[.slice (some ⟨b,0,none⟩) 3 3] W fun e W'=>e = .returned (.tuple #[.string (strQ (1+x+y)),.int .i64 0])∧Below W.heap.size W W':=by
 have s1:Sq (1:Rat):=Bq_one.lim (by decide)
 have sx:Sq x:=hx.lim (by omega)
 have sy:Sq y:=hy.lim (by omega)
 have hv:StrsAt W.heap.size W (.slice (some ⟨b,0,none⟩) [strQ 1,strQ x,strQ y].length 3) [strQ 1,strQ x,strQ y] := .inr ⟨b,0,3,rfl,l.lt,Nat.le_refl _,by decide,fun j hj=>by
  have h3:j=0∨j=1∨j=2:=by simp at hj;omega
  rcases h3 with rfl | rfl | rfl
  ·exact l.cell 0 _ rfl
  ·exact l.cell 1 _ rfl
  ·exact l.cell 2 _ rfl⟩
 have mem:∀ s ∈ [strQ 1,strQ x,strQ y],s=strQ 1∨s=strQ x∨s=strQ y:=fun s hs=>by simpa using hs
 have c:=Sum_any (some ⟨b,0,none⟩) 3 [strQ 1,strQ x,strQ y] W hv (by simp) (fun s hs=>by
  rcases mem s hs with rfl | rfl | rfl
  ·exact s1.size
  ·exact sx.size
  ·exact sy.size) ht ht2
 obtain ⟨h1,h2⟩:=sumB_all (xs := [strQ 1,strQ x,strQ y]) (fun s hs=>by
  rcases mem s hs with rfl | rfl | rfl
  ·exact s1.chk
  ·exact sx.chk
  ·exact sy.chk)
 obtain ⟨a1,a2,a3⟩:=qadd_ok Bq_zero Bq_one (by decide)
 rw [Rat.zero_add] at a1 a3
 obtain ⟨b1,b2,b3⟩:=qadd_ok a3 hx (by omega)
 obtain ⟨c1,c2,_⟩:=qadd_ok b3 hy (by omega)
 have e0:sumS []=some 0:=rfl
 have e1:sumS [strQ 1]=some 1:=by
  have:=sumS_snoc [] (strQ 1)
  rw [List.nil_append,e0,Option.bind_some,ratS,if_pos a2,Rat.zero_add] at this
  exact this
 have e2:sumS [strQ 1,strQ x]=some (1+x):=by
  have:=sumS_snoc [strQ 1] (strQ x)
  rw [e1,Option.bind_some,ratS,if_pos b2] at this
  exact this
 have e3:sumS [strQ 1,strQ x,strQ y]=some (1+x+y):=by
  have:=sumS_snoc [strQ 1,strQ x] (strQ y)
  rw [e2,Option.bind_some,ratS,if_pos c2] at this
  exact this
 rw [h1,h2,e3] at c
 exact c
end Go.Proofs.YtjdfjgfdbgmbiaaGreatDoor.T
namespace Go.Proofs.YtjdfjgfdbgmbiaaGreatDoor.T
open Go.Proofs.YtjdfjgfdbgmbiaaGreatDoor Go Go.RowKit
theorem posi_core (a:ByteArray) (w:World)
  (h1:∀ W,Below w.heap.size w W→Calls Tryz.prog 15 #[.string a,.string ⟨#[48]⟩] W fun e W'=>e = .returned (.tuple #[.int .i64 1,.int .i64 0])∧Below W.heap.size W W')
  : Calls Tryz.prog 31 #[.string a] w fun e W'=>e = .returned (.int .i64 0)∧Below w.heap.size w W':=by
 have O:=Lib.hid (h1);clear h1
 go_enter Tryz.func31,Tryz.ntmps31
 have HB:=Lib.hid (Below.refl w.heap.size w)
 go_wp2_with fail
 refine (O.out _ HB.out).mono ?_
 rintro e w1 ⟨rfl,b⟩
 have HN:=Lib.hid (HB.out.trans (b.mono HB.out.size));clear HB b;have HB:=HN;clear HN
 go_wp2
 go_ret
 exact ⟨rfl,HB.out⟩
theorem square_core (a s:ByteArray) (w:World)
  (h1:∀ W,Below w.heap.size w W→Calls Tryz.prog 24 #[.string a,.string a] W fun e W'=>e = .returned (.tuple #[.string s,.int .i64 0])∧Below W.heap.size W W')
  : Calls Tryz.prog 68 #[.string a] w fun e W'=>e = .returned (.tuple #[.string s,.int .i64 0])∧Below w.heap.size w W':=by
 have O:=Lib.hid (h1);clear h1
 go_enter Tryz.func68,Tryz.ntmps68
 have HB:=Lib.hid (Below.refl w.heap.size w)
 go_wp2_with fail
 refine (O.out _ HB.out).mono ?_
 rintro e w1 ⟨rfl,b⟩
 have HN:=Lib.hid (HB.out.trans (b.mono HB.out.size));clear HB b;have HB:=HN;clear HN
 go_wp2
 go_ret2
 exact ⟨rfl,HB.out⟩
theorem inv_core (a r:ByteArray) (w:World)
  (h1:∀ W,Below w.heap.size w W→Calls Tryz.prog 82 #[.string ⟨#[49]⟩,.string a] W fun e W'=>e = .returned (.tuple #[.string r,.int .i64 0])∧Below W.heap.size W W')
  : Calls Tryz.prog 81 #[.string a,.int .i64 0] w fun e W'=>e = .returned (.tuple #[.string r,.int .i64 0])∧Below w.heap.size w W':=by
 have O:=Lib.hid (h1);clear h1
 go_enter Tryz.func81,Tryz.ntmps81
 have HB:=Lib.hid (Below.refl w.heap.size w)
 go_wp2_with fail
 refine (O.out _ HB.out).mono ?_
 rintro e w1 ⟨rfl,b⟩
 have HN:=Lib.hid (HB.out.trans (b.mono HB.out.size));clear HB b;have HB:=HN;clear HN
 go_wp2
 go_ret2
 exact ⟨rfl,HB.out⟩
theorem invsq_core (a s r:ByteArray) (w:World)
  (h1:∀ W,Below w.heap.size w W→Calls Tryz.prog 68 #[.string a] W fun e W'=>e = .returned (.tuple #[.string s,.int .i64 0])∧Below W.heap.size W W')
  (h2:∀ W,Below w.heap.size w W→Calls Tryz.prog 81 #[.string s,.int .i64 0] W fun e W'=>e = .returned (.tuple #[.string r,.int .i64 0])∧Below W.heap.size W W')
  : Calls Tryz.prog 47 #[.string a] w fun e W'=>e = .returned (.tuple #[.string r,.int .i64 0])∧Below w.heap.size w W':=by
 have O:=Lib.hid (And.intro h1 (h2));clear h1 h2
 go_enter Tryz.func47,Tryz.ntmps47
 have HB:=Lib.hid (Below.refl w.heap.size w)
 go_wp2_with fail
 refine (O.out.1 _ HB.out).mono ?_
 rintro e w1 ⟨rfl,b⟩
 have HN:=Lib.hid (HB.out.trans (b.mono HB.out.size));clear HB b;have HB:=HN;clear HN
 go_wp2_with fail
 refine (O.out.2 _ HB.out).mono ?_
 rintro e w2 ⟨rfl,b⟩
 have HN:=Lib.hid (HB.out.trans (b.mono HB.out.size));clear HB b;have HB:=HN;clear HN
 go_wp2
 go_ret2
 exact ⟨rfl,HB.out⟩
theorem sqone_core (a s r:ByteArray) (w:World)
  (h1:∀ W,Below w.heap.size w W→Calls Tryz.prog 68 #[.string a] W fun e W'=>e = .returned (.tuple #[.string s,.int .i64 0])∧Below W.heap.size W W')
  (h2:∀ W,Below w.heap.size w W→Calls Tryz.prog 13 #[.string ⟨#[49]⟩,.string s] W fun e W'=>e = .returned (.tuple #[.string r,.int .i64 0])∧Below W.heap.size W W')
  : Calls Tryz.prog 33 #[.string a] w fun e W'=>e = .returned (.tuple #[.string r,.int .i64 0])∧Below w.heap.size w W':=by
 have O:=Lib.hid (And.intro h1 (h2));clear h1 h2
 go_enter Tryz.func33,Tryz.ntmps33
 have HB:=Lib.hid (Below.refl w.heap.size w)
 go_wp2_with fail
 refine (O.out.1 _ HB.out).mono ?_
 rintro e w1 ⟨rfl,b⟩
 have HN:=Lib.hid (HB.out.trans (b.mono HB.out.size));clear HB b;have HB:=HN;clear HN
 go_wp2_with fail
 refine (O.out.2 _ HB.out).mono ?_
 rintro e w2 ⟨rfl,b⟩
 have HN:=Lib.hid (HB.out.trans (b.mono HB.out.size));clear HB b;have HB:=HN;clear HN
 go_wp2
 go_ret2
 exact ⟨rfl,HB.out⟩
theorem over_core (a b r:ByteArray) (w:World)
  (h1:∀ W,Below w.heap.size w W→Calls Tryz.prog 82 #[.string b,.string a] W fun e W'=>e = .returned (.tuple #[.string r,.int .i64 0])∧Below W.heap.size W W')
  : Calls Tryz.prog 51 #[.string a,.string b] w fun e W'=>e = .returned (.tuple #[.string r,.int .i64 0])∧Below w.heap.size w W':=by
 have O:=Lib.hid (h1);clear h1
 go_enter Tryz.func51,Tryz.ntmps51
 have HB:=Lib.hid (Below.refl w.heap.size w)
 go_wp2_with fail
 refine (O.out _ HB.out).mono ?_
 rintro e w1 ⟨rfl,b⟩
 have HN:=Lib.hid (HB.out.trans (b.mono HB.out.size));clear HB b;have HB:=HN;clear HN
 go_wp2
 go_ret2
 exact ⟨rfl,HB.out⟩
theorem invsum_core (a b s r:ByteArray) (w:World)
  (h1:∀ W,Below w.heap.size w W→Calls Tryz.prog 13 #[.string a,.string b] W fun e W'=>e = .returned (.tuple #[.string s,.int .i64 0])∧Below W.heap.size W W')
  (h2:∀ W,Below w.heap.size w W→Calls Tryz.prog 81 #[.string s,.int .i64 0] W fun e W'=>e = .returned (.tuple #[.string r,.int .i64 0])∧Below W.heap.size W W')
  : Calls Tryz.prog 48 #[.string a,.string b] w fun e W'=>e = .returned (.tuple #[.string r,.int .i64 0])∧Below w.heap.size w W':=by
 have O:=Lib.hid (And.intro h1 (h2));clear h1 h2
 go_enter Tryz.func48,Tryz.ntmps48
 have HB:=Lib.hid (Below.refl w.heap.size w)
 go_wp2_with fail
 refine (O.out.1 _ HB.out).mono ?_
 rintro e w1 ⟨rfl,b⟩
 have HN:=Lib.hid (HB.out.trans (b.mono HB.out.size));clear HB b;have HB:=HN;clear HN
 go_wp2_with fail
 refine (O.out.2 _ HB.out).mono ?_
 rintro e w2 ⟨rfl,b⟩
 have HN:=Lib.hid (HB.out.trans (b.mono HB.out.size));clear HB b;have HB:=HN;clear HN
 go_wp2
 go_ret2
 exact ⟨rfl,HB.out⟩
theorem invprod_core (a b s r:ByteArray) (w:World)
  (h1:∀ W,Below w.heap.size w W→Calls Tryz.prog 24 #[.string a,.string b] W fun e W'=>e = .returned (.tuple #[.string s,.int .i64 0])∧Below W.heap.size W W')
  (h2:∀ W,Below w.heap.size w W→Calls Tryz.prog 81 #[.string s,.int .i64 0] W fun e W'=>e = .returned (.tuple #[.string r,.int .i64 0])∧Below W.heap.size W W')
  : Calls Tryz.prog 55 #[.string a,.string b] w fun e W'=>e = .returned (.tuple #[.string r,.int .i64 0])∧Below w.heap.size w W':=by
 have O:=Lib.hid (And.intro h1 (h2));clear h1 h2
 go_enter Tryz.func55,Tryz.ntmps55
 have HB:=Lib.hid (Below.refl w.heap.size w)
 go_wp2_with fail
 refine (O.out.1 _ HB.out).mono ?_
 rintro e w1 ⟨rfl,b⟩
 have HN:=Lib.hid (HB.out.trans (b.mono HB.out.size));clear HB b;have HB:=HN;clear HN
 go_wp2_with fail
 refine (O.out.2 _ HB.out).mono ?_
 rintro e w2 ⟨rfl,b⟩
 have HN:=Lib.hid (HB.out.trans (b.mono HB.out.size));clear HB b;have HB:=HN;clear HN
 go_wp2
 go_ret2
 exact ⟨rfl,HB.out⟩
theorem itself_core (a:ByteArray) (w:World):Calls Tryz.prog 50 #[.string a] w fun e W'=>e = .returned (.tuple #[.string a,.int .i64 0])∧Below w.heap.size w W':=by
 go_enter Tryz.func50,Tryz.ntmps50
 go_wp2
 go_ret2
 exact ⟨rfl,Below.refl _ _⟩
theorem onesum_core (a c r:ByteArray) (w:World)
  (h1:∀ W b,Below w.heap.size w W→Blk W b #[.string ⟨#[49]⟩,.string a,.string c]→Calls Tryz.prog 83 #[.slice (some ⟨b,0,none⟩) 3 3] W fun e W'=>e = .returned (.tuple #[.string r,.int .i64 0])∧Below W.heap.size W W') :
  Calls Tryz.prog 52 #[.string a,.string c] w fun e W'=>e = .returned (.tuple #[.string r,.int .i64 0])∧Below w.heap.size w W':=by
 have O:=Lib.hid h1;clear h1
 go_enter Tryz.func52,Tryz.ntmps52
 go_wp2_with fail
 have HB:=Lib.hid ((Below.refl _ w).alloc (Nat.le_refl _) (.cells #[.string ⟨#[49]⟩,.string a,.string c] 22))
 refine (O.out _ _ HB.out (Blk.new w _ _)).mono ?_
 rintro e w2 ⟨rfl,b⟩
 have HN:=Lib.hid (HB.out.trans (b.mono HB.out.size));clear HB b;have HB:=HN;clear HN
 go_wp2
 go_ret2
 exact ⟨rfl,HB.out⟩
theorem of_core (kf kg:FuncId) (ef:∀ args W,(callFunc kf args).run Tryz.prog W = .ok (.enter kf args) W) (eg:∀ args W,(callFunc kg args).run Tryz.prog W = .ok (.enter kg args) W) (p q a c r:ByteArray) (w:World)
  (h1:∀ W,Below w.heap.size w W→Calls Tryz.prog 31 #[.string p] W fun e W'=>e = .returned (.int .i64 0)∧Below W.heap.size W W')
  (h2:∀ W,Below w.heap.size w W→Calls Tryz.prog 31 #[.string q] W fun e W'=>e = .returned (.int .i64 0)∧Below W.heap.size W W')
  (h3:∀ W,Below w.heap.size w W→Calls Tryz.prog kf #[.string p] W fun e W'=>e = .returned (.tuple #[.string a,.int .i64 0])∧Below W.heap.size W W')
  (h4:∀ W,Below w.heap.size w W→Calls Tryz.prog kf #[.string q] W fun e W'=>e = .returned (.tuple #[.string c,.int .i64 0])∧Below W.heap.size W W')
  (h5:∀ W,Below w.heap.size w W→Calls Tryz.prog kg #[.string a,.string c] W fun e W'=>e = .returned (.tuple #[.string r,.int .i64 0])∧Below W.heap.size W W') :
  Calls Tryz.prog 49 #[.agg #[.func (.func kf) #[] #[],.func (.func kg) #[] #[]],.string p,.string q] w fun e W'=>e = .returned (.tuple #[.string r,.int .i64 0])∧Below w.heap.size w W':=by
 have O:=Lib.hid (And.intro h1 (And.intro h2 (And.intro h3 (And.intro h4 h5))));clear h1 h2 h3 h4 h5
 go_enter Tryz.func49,Tryz.ntmps49
 go_wp2_with fail
 have HP:=Lib.hid (Blk.new w #[.func (.func kf) #[] #[],.func (.func kg) #[] #[]] 77)
 have HB:=Lib.hid ((Below.refl _ w).alloc (Nat.le_refl _) (.cells #[.func (.func kf) #[] #[],.func (.func kg) #[] #[]] 77))
 generalize w.alloc (.cells #[.func (.func kf) #[] #[],.func (.func kg) #[] #[]] 77)=W0 at *
 generalize hk:w.heap.size=k at *
 have HK:=Lib.hid hk;clear hk
 have e0:=(show World.cell? _ ⟨k,0,none⟩=some (.func (.func kf) #[] #[]) from HP.out.cell 0 _ rfl)
 have e1:=(show World.cell? _ ⟨k,1,none⟩=some (.func (.func kg) #[] #[]) from HP.out.cell 1 _ rfl)
 refine (O.out.1 _ HB.out).mono ?_
 rintro e w1 ⟨rfl,b⟩
 have HN:=Lib.hid (HP.out.next b);clear HP;have HP:=HN;clear HN
 have HN:=Lib.hid (HB.out.trans (b.mono (by have h1:=HB.out.size;have h2:=HK.out;omega)));clear HB b;have HB:=HN;clear HN
 clear e0 e1
 have e0:=(show World.cell? _ ⟨k,0,none⟩=some (.func (.func kf) #[] #[]) from HP.out.cell 0 _ rfl)
 have e1:=(show World.cell? _ ⟨k,1,none⟩=some (.func (.func kg) #[] #[]) from HP.out.cell 1 _ rfl)
 go_wp2_with fail
 refine (O.out.2.1 _ HB.out).mono ?_
 rintro e w2 ⟨rfl,b⟩
 have HN:=Lib.hid (HP.out.next b);clear HP;have HP:=HN;clear HN
 have HN:=Lib.hid (HB.out.trans (b.mono (by have h1:=HB.out.size;have h2:=HK.out;omega)));clear HB b;have HB:=HN;clear HN
 clear e0 e1
 have e0:=(show World.cell? _ ⟨k,0,none⟩=some (.func (.func kf) #[] #[]) from HP.out.cell 0 _ rfl)
 have e1:=(show World.cell? _ ⟨k,1,none⟩=some (.func (.func kg) #[] #[]) from HP.out.cell 1 _ rfl)
 go_wp2_with fail
 have b0:Below w2.heap.size w2 (w2.alloc (.cells #[.int .i64 0,.int .i64 0] 27)):=(Below.refl _ _).alloc (Nat.le_refl _) _
 refine (cmpOr2 _ 0 0 _ (Blk.new w2 _ _)).mono ?_
 rintro e w3 ⟨rfl,b1⟩
 have b:=b0.trans (b1.mono b0.size);clear b0 b1
 have HN:=Lib.hid (HP.out.next b);clear HP;have HP:=HN;clear HN
 have HN:=Lib.hid (HB.out.trans (b.mono (by have h1:=HB.out.size;have h2:=HK.out;omega)));clear HB b;have HB:=HN;clear HN
 clear e0 e1
 have e0:=(show World.cell? _ ⟨k,0,none⟩=some (.func (.func kf) #[] #[]) from HP.out.cell 0 _ rfl)
 have e1:=(show World.cell? _ ⟨k,1,none⟩=some (.func (.func kg) #[] #[]) from HP.out.cell 1 _ rfl)
 go_wp2_with fail
 refine (O.out.2.2.1 _ HB.out).mono ?_
 rintro e w4 ⟨rfl,b⟩
 have HN:=Lib.hid (HP.out.next b);clear HP;have HP:=HN;clear HN
 have HN:=Lib.hid (HB.out.trans (b.mono (by have h1:=HB.out.size;have h2:=HK.out;omega)));clear HB b;have HB:=HN;clear HN
 clear e0 e1
 have e0:=(show World.cell? _ ⟨k,0,none⟩=some (.func (.func kf) #[] #[]) from HP.out.cell 0 _ rfl)
 have e1:=(show World.cell? _ ⟨k,1,none⟩=some (.func (.func kg) #[] #[]) from HP.out.cell 1 _ rfl)
 go_wp2_with fail
 refine (O.out.2.2.2.1 _ HB.out).mono ?_
 rintro e w5 ⟨rfl,b⟩
 have HN:=Lib.hid (HP.out.next b);clear HP;have HP:=HN;clear HN
 have HN:=Lib.hid (HB.out.trans (b.mono (by have h1:=HB.out.size;have h2:=HK.out;omega)));clear HB b;have HB:=HN;clear HN
 clear e0 e1
 have e0:=(show World.cell? _ ⟨k,0,none⟩=some (.func (.func kf) #[] #[]) from HP.out.cell 0 _ rfl)
 have e1:=(show World.cell? _ ⟨k,1,none⟩=some (.func (.func kg) #[] #[]) from HP.out.cell 1 _ rfl)
 go_wp2_with fail
 refine (O.out.2.2.2.2 _ HB.out).mono ?_
 rintro e w6 ⟨rfl,b⟩
 have HN:=Lib.hid (HP.out.next b);clear HP;have HP:=HN;clear HN
 have HN:=Lib.hid (HB.out.trans (b.mono (by have h1:=HB.out.size;have h2:=HK.out;omega)));clear HB b;have HB:=HN;clear HN
 clear e0 e1
 have e0:=(show World.cell? _ ⟨k,0,none⟩=some (.func (.func kf) #[] #[]) from HP.out.cell 0 _ rfl)
 have e1:=(show World.cell? _ ⟨k,1,none⟩=some (.func (.func kg) #[] #[]) from HP.out.cell 1 _ rfl)
 go_wp2
 go_ret2
 have hb:=HB.out
 rw [←HK.out] at hb
 exact ⟨rfl,hb⟩
theorem hroot_core (a:ByteArray) (w:World) (Q:Value→World→Prop)
  (h1:∀ W b,Below w.heap.size w W→Blk W b #[.string ⟨#[49]⟩,.string a]→Calls Tryz.prog 28 #[.slice (some ⟨b,0,none⟩) 1 1] W fun e W'=>∃ v,e = .returned (.tuple #[v,.int .i64 0])∧Q v W') :
  Calls Tryz.prog 32 #[.string a,.int .i64 0] w fun e W'=>∃ v,e = .returned (.tuple #[v,.int .i64 0])∧Q v W':=by
 have O:=Lib.hid h1;clear h1
 go_enter Tryz.func32,Tryz.ntmps32
 go_wp2_with fail
 have HB:=Lib.hid ((Below.refl _ w).alloc (Nat.le_refl _) (.cells #[.string ⟨#[49]⟩,.string a] 50))
 refine (O.out _ _ HB.out (Blk.new w _ _)).mono ?_
 rintro e w2 ⟨v,rfl,hq⟩
 have HQ:=Lib.hid hq;clear hq
 go_wp2
 go_ret2
 exact ⟨_,rfl,HQ.out⟩
theorem factor_core (a r:ByteArray) (w:World) (Q:Value→World→Prop)
  (h1:∀ W,Below w.heap.size w W→Calls Tryz.prog 31 #[.string a] W fun e W'=>e = .returned (.int .i64 0)∧Below W.heap.size W W')
  (h2:∀ W,Below w.heap.size w W→Calls Tryz.prog 33 #[.string a] W fun e W'=>e = .returned (.tuple #[.string r,.int .i64 0])∧Below W.heap.size W W')
  (h3:∀ W,Below w.heap.size w W→Calls Tryz.prog 32 #[.string r,.int .i64 0] W fun e W'=>∃ v,e = .returned (.tuple #[v,.int .i64 0])∧Q v W') :
  Calls Tryz.prog 11 #[.string a] w fun e W'=>∃ v,e = .returned (.tuple #[v,.int .i64 0])∧Q v W':=by
 have O:=Lib.hid (And.intro h1 (And.intro h2 h3));clear h1 h2 h3
 go_enter Tryz.func11,Tryz.ntmps11
 have HB:=Lib.hid (Below.refl w.heap.size w)
 go_wp2_with fail
 refine (O.out.1 _ HB.out).mono ?_
 rintro e w1 ⟨rfl,b⟩
 have HN:=Lib.hid (HB.out.trans (b.mono HB.out.size));clear HB b;have HB:=HN;clear HN
 go_wp2_with fail
 refine (O.out.2.1 _ HB.out).mono ?_
 rintro e w2 ⟨rfl,b⟩
 have HN:=Lib.hid (HB.out.trans (b.mono HB.out.size));clear HB b;have HB:=HN;clear HN
 go_wp2_with fail
 refine (O.out.2.2 _ HB.out).mono ?_
 rintro e w3 ⟨v,rfl,hq⟩
 have HQ:=Lib.hid hq;clear hq
 go_wp2
 go_ret2
 exact ⟨_,rfl,HQ.out⟩
theorem hip_core (p q r:ByteArray) (w:World) (Q:Value→World→Prop)
  (h1:∀ W,Below w.heap.size w W→Calls Tryz.prog 49 #[.agg #[.func (.func 47) #[] #[],.func (.func 48) #[] #[]],.string p,.string q] W fun e W'=>e = .returned (.tuple #[.string r,.int .i64 0])∧Below W.heap.size W W')
  (h2:∀ W,Below w.heap.size w W→Calls Tryz.prog 32 #[.string r,.int .i64 0] W fun e W'=>∃ v,e = .returned (.tuple #[v,.int .i64 0])∧Q v W') :
  Calls Tryz.prog 17 #[.string p,.string q] w fun e W'=>∃ v,e = .returned (.tuple #[v,.int .i64 0])∧Q v W':=by
 have O:=Lib.hid (And.intro h1 h2);clear h1 h2
 go_enter Tryz.func17,Tryz.ntmps17
 have HB:=Lib.hid (Below.refl w.heap.size w)
 go_wp2_with fail
 refine (O.out.1 _ HB.out).mono ?_
 rintro e w1 ⟨rfl,b⟩
 have HN:=Lib.hid (HB.out.trans (b.mono HB.out.size));clear HB b;have HB:=HN;clear HN
 go_wp2_with fail
 refine (O.out.2 _ HB.out).mono ?_
 rintro e w3 ⟨v,rfl,hq⟩
 have HQ:=Lib.hid hq;clear hq
 go_wp2
 go_ret2
 exact ⟨_,rfl,HQ.out⟩
theorem length_core (p q r:ByteArray) (w:World) (Q:Value→World→Prop)
  (h1:∀ W,Below w.heap.size w W→Calls Tryz.prog 49 #[.agg #[.func (.func 47) #[] #[],.func (.func 52) #[] #[]],.string p,.string q] W fun e W'=>e = .returned (.tuple #[.string r,.int .i64 0])∧Below W.heap.size W W')
  (h2:∀ W,Below w.heap.size w W→Calls Tryz.prog 32 #[.string r,.int .i64 0] W fun e W'=>∃ v,e = .returned (.tuple #[v,.int .i64 0])∧Q v W') :
  Calls Tryz.prog 20 #[.string p,.string q] w fun e W'=>∃ v,e = .returned (.tuple #[v,.int .i64 0])∧Q v W':=by
 have O:=Lib.hid (And.intro h1 h2);clear h1 h2
 go_enter Tryz.func20,Tryz.ntmps20
 have HB:=Lib.hid (Below.refl w.heap.size w)
 go_wp2_with fail
 refine (O.out.1 _ HB.out).mono ?_
 rintro e w1 ⟨rfl,b⟩
 have HN:=Lib.hid (HB.out.trans (b.mono HB.out.size));clear HB b;have HB:=HN;clear HN
 go_wp2_with fail
 refine (O.out.2 _ HB.out).mono ?_
 rintro e w3 ⟨v,rfl,hq⟩
 have HQ:=Lib.hid hq;clear hq
 go_wp2
 go_ret2
 exact ⟨_,rfl,HQ.out⟩
theorem dihedral_core (p q r:ByteArray) (w:World) (Q:Value→World→Prop)
  (h1:∀ W,Below w.heap.size w W→Calls Tryz.prog 49 #[.agg #[.func (.func 33) #[] #[],.func (.func 55) #[] #[]],.string p,.string q] W fun e W'=>e = .returned (.tuple #[.string r,.int .i64 0])∧Below W.heap.size W W')
  (h2:∀ W,Below w.heap.size w W→Calls Tryz.prog 32 #[.string r,.int .i64 0] W fun e W'=>∃ v,e = .returned (.tuple #[v,.int .i64 0])∧Q v W') :
  Calls Tryz.prog 22 #[.string p,.string q] w fun e W'=>∃ v,e = .returned (.tuple #[v,.int .i64 0])∧Q v W':=by
 have O:=Lib.hid (And.intro h1 h2);clear h1 h2
 go_enter Tryz.func22,Tryz.ntmps22
 have HB:=Lib.hid (Below.refl w.heap.size w)
 go_wp2_with fail
 refine (O.out.1 _ HB.out).mono ?_
 rintro e w1 ⟨rfl,b⟩
 have HN:=Lib.hid (HB.out.trans (b.mono HB.out.size));clear HB b;have HB:=HN;clear HN
 go_wp2_with fail
 refine (O.out.2 _ HB.out).mono ?_
 rintro e w3 ⟨v,rfl,hq⟩
 have HQ:=Lib.hid hq;clear hq
 go_wp2
 go_ret2
 exact ⟨_,rfl,HQ.out⟩
theorem plan_core (p q r:ByteArray) (w:World)
  (h1:∀ W,Below w.heap.size w W→Calls Tryz.prog 49 #[.agg #[.func (.func 50) #[] #[],.func (.func 51) #[] #[]],.string p,.string q] W fun e W'=>e = .returned (.tuple #[.string r,.int .i64 0])∧Below W.heap.size W W')
  : Calls Tryz.prog 19 #[.string p,.string q] w fun e W'=>e = .returned (.tuple #[.string r,.int .i64 0])∧Below w.heap.size w W':=by
 have O:=Lib.hid (h1);clear h1
 go_enter Tryz.func19,Tryz.ntmps19
 have HB:=Lib.hid (Below.refl w.heap.size w)
 go_wp2_with fail
 refine (O.out _ HB.out).mono ?_
 rintro e w1 ⟨rfl,b⟩
 have HN:=Lib.hid (HB.out.trans (b.mono HB.out.size));clear HB b;have HB:=HN;clear HN
 go_wp2
 go_ret2
 exact ⟨rfl,HB.out⟩
theorem isPart_yes (n:Int) (w:World) (h1:1≤n) (h2:n≤48):Calls Tryz.prog 95 #[.int .i64 n] w fun e W'=>e = .returned (.bool true)∧Below w.heap.size w W':=by
 go_enter Tryz.func95,Tryz.ntmps95
 go_wp2
 go_ret
 exact ⟨rfl,Below.refl _ _⟩
theorem pcheck_core (a c:Int) (w:World)
  (h1:∀ W,Below w.heap.size w W→Calls Tryz.prog 95 #[.int .i64 a] W fun e W'=>e = .returned (.bool true)∧Below W.heap.size W W')
  (h2:∀ W,Below w.heap.size w W→Calls Tryz.prog 95 #[.int .i64 c] W fun e W'=>e = .returned (.bool true)∧Below W.heap.size W W') :
  Calls Tryz.prog 65 #[.agg #[.int .i64 a,.int .i64 c]] w fun e W'=>e = .returned (.int .i64 0)∧Below w.heap.size w W':=by
 have O:=Lib.hid (And.intro h1 h2);clear h1 h2
 go_enter Tryz.func65,Tryz.ntmps65
 go_wp2_with fail
 have HP:=Lib.hid (Blk.new w #[.int .i64 a,.int .i64 c] 90)
 have HB:=Lib.hid ((Below.refl _ w).alloc (Nat.le_refl _) (.cells #[.int .i64 a,.int .i64 c] 90))
 generalize w.alloc (.cells #[.int .i64 a,.int .i64 c] 90)=W0 at *
 generalize hk:w.heap.size=k at *
 have HK:=Lib.hid hk;clear hk
 have e0:=(show World.cell? _ ⟨k,0,none⟩=some (.int .i64 a) from HP.out.cell 0 _ rfl)
 have e1:=(show World.cell? _ ⟨k,1,none⟩=some (.int .i64 c) from HP.out.cell 1 _ rfl)
 refine (O.out.1 _ HB.out).mono ?_
 rintro e w1 ⟨rfl,b⟩
 have HN:=Lib.hid (HP.out.next b);clear HP;have HP:=HN;clear HN
 have HN:=Lib.hid (HB.out.trans (b.mono (by have h1:=HB.out.size;have h2:=HK.out;omega)));clear HB b;have HB:=HN;clear HN
 clear e0 e1
 have e0:=(show World.cell? _ ⟨k,0,none⟩=some (.int .i64 a) from HP.out.cell 0 _ rfl)
 have e1:=(show World.cell? _ ⟨k,1,none⟩=some (.int .i64 c) from HP.out.cell 1 _ rfl)
 go_wp2_with fail
 refine (O.out.2 _ HB.out).mono ?_
 rintro e w2 ⟨rfl,b⟩
 have HN:=Lib.hid (HP.out.next b);clear HP;have HP:=HN;clear HN
 have HN:=Lib.hid (HB.out.trans (b.mono (by have h1:=HB.out.size;have h2:=HK.out;omega)));clear HB b;have HB:=HN;clear HN
 clear e0 e1
 have e0:=(show World.cell? _ ⟨k,0,none⟩=some (.int .i64 a) from HP.out.cell 0 _ rfl)
 have e1:=(show World.cell? _ ⟨k,1,none⟩=some (.int .i64 c) from HP.out.cell 1 _ rfl)
 go_wp2
 go_ret
 have hb:=HB.out
 rw [←HK.out] at hb
 exact ⟨rfl,hb⟩
theorem scheck_core (a b:Int) (w:World)
  (h1:∀ W,Below w.heap.size w W→Calls Tryz.prog 65 #[.agg #[.int .i64 a,.int .i64 b]] W fun e W'=>e = .returned (.int .i64 0)∧Below W.heap.size W W')
  : Calls Tryz.prog 67 #[.int .i64 a,.int .i64 b] w fun e W'=>e = .returned (.int .i64 0)∧Below w.heap.size w W':=by
 have O:=Lib.hid (h1);clear h1
 go_enter Tryz.func67,Tryz.ntmps67
 have HB:=Lib.hid (Below.refl w.heap.size w)
 go_wp2_with fail
 refine (O.out _ HB.out).mono ?_
 rintro e w1 ⟨rfl,b⟩
 have HN:=Lib.hid (HB.out.trans (b.mono HB.out.size));clear HB b;have HB:=HN;clear HN
 go_wp2
 go_ret
 exact ⟨rfl,HB.out⟩
theorem sof_core (a b:Int) (r:ByteArray) (w:World)
  (h1:∀ W,Below w.heap.size w W→Calls Tryz.prog 67 #[.int .i64 a,.int .i64 b] W fun e W'=>e = .returned (.int .i64 0)∧Below W.heap.size W W')
  (h2:∀ W,Below w.heap.size w W→Calls Tryz.prog 27 #[.int .i64 a,.int .i64 b] W fun e W'=>e = .returned (.tuple #[.string r,.int .i64 0])∧Below W.heap.size W W')
  : Calls Tryz.prog 30 #[.int .i64 a,.int .i64 b] w fun e W'=>e = .returned (.tuple #[.string r,.int .i64 0])∧Below w.heap.size w W':=by
 have O:=Lib.hid (And.intro h1 (h2));clear h1 h2
 go_enter Tryz.func30,Tryz.ntmps30
 have HB:=Lib.hid (Below.refl w.heap.size w)
 go_wp2_with fail
 refine (O.out.1 _ HB.out).mono ?_
 rintro e w1 ⟨rfl,b⟩
 have HN:=Lib.hid (HB.out.trans (b.mono HB.out.size));clear HB b;have HB:=HN;clear HN
 go_wp2_with fail
 refine (O.out.2 _ HB.out).mono ?_
 rintro e w2 ⟨rfl,b⟩
 have HN:=Lib.hid (HB.out.trans (b.mono HB.out.size));clear HB b;have HB:=HN;clear HN
 go_wp2
 go_ret2
 exact ⟨rfl,HB.out⟩
theorem cmpInt (x y:Int) (w:World):Calls Tryz.prog 96 #[.int .i64 x,.int .i64 y] w fun e W'=>e = .returned (.int .i64 (ordZ x y))∧Below w.heap.size w W':=by
 unfold ordZ
 by_cases h:x<y
 ·rw [if_pos h]
  go_enter Tryz.func96,Tryz.ntmps96
  go_wp2
  go_ret
  exact ⟨rfl,Below.refl _ _⟩
 ·rw [if_neg h]
  by_cases k:y<x
  ·rw [if_pos k]
   go_enter Tryz.func96,Tryz.ntmps96
   go_wp2
   go_ret
   exact ⟨rfl,Below.refl _ _⟩
  ·rw [if_neg k]
   go_enter Tryz.func96,Tryz.ntmps96
   go_wp2
   go_ret
   exact ⟨rfl,Below.refl _ _⟩
theorem pcmp_core (a b c d x y r:Int) (w:World) (ex:IntKind.i64.wrap (a*d)=x) (ey:IntKind.i64.wrap (c*b)=y)
  (h1:∀ W,Below w.heap.size w W→Calls Tryz.prog 96 #[.int .i64 x,.int .i64 y] W fun e W'=>e = .returned (.int .i64 r)∧Below W.heap.size W W') :
  Calls Tryz.prog 66 #[.agg #[.int .i64 a,.int .i64 b],.agg #[.int .i64 c,.int .i64 d]] w fun e W'=>e = .returned (.int .i64 r)∧Below w.heap.size w W':=by
 have O:=Lib.hid h1;clear h1
 go_enter Tryz.func66,Tryz.ntmps66
 go_wp2_with fail
 have HA:=(Below.refl _ w).alloc (Nat.le_refl _) (.cells #[.int .i64 a,.int .i64 b] 90)
 have HB:=Lib.hid (HA.alloc HA.size (.cells #[.int .i64 c,.int .i64 d] 90));clear HA
 refine (O.out _ HB.out).mono ?_
 rintro e w1 ⟨rfl,b0⟩
 have HN:=Lib.hid (HB.out.trans (b0.mono HB.out.size));clear HB b0;have HB:=HN;clear HN
 go_wp2
 go_ret
 exact ⟨rfl,HB.out⟩
theorem scmp_core (a b c d r:Int) (w:World)
  (h1:∀ x y W,(x=a∧y=b∨x=c∧y=d)→Below w.heap.size w W→Calls Tryz.prog 65 #[.agg #[.int .i64 x,.int .i64 y]] W fun e W'=>e = .returned (.int .i64 0)∧Below W.heap.size W W')
  (h3:∀ W,Below w.heap.size w W→Calls Tryz.prog 66 #[.agg #[.int .i64 a,.int .i64 b],.agg #[.int .i64 c,.int .i64 d]] W fun e W'=>e = .returned (.int .i64 r)∧Below W.heap.size W W') :
  Calls Tryz.prog 29 #[.int .i64 a,.int .i64 b,.int .i64 c,.int .i64 d] w fun e W'=>e = .returned (.tuple #[.int .i64 r,.int .i64 0])∧Below w.heap.size w W':=by
 have O:=Lib.hid (And.intro h1 h3);clear h1 h3
 go_enter Tryz.func29,Tryz.ntmps29
 go_wp2
 have HA:=(Below.refl _ w).alloc (Nat.le_refl _) (.cells #[.int .i64 a,.int .i64 b] 90)
 have B2:=Blk.new (w.alloc (.cells #[.int .i64 a,.int .i64 b] 90)) #[.int .i64 c,.int .i64 d] 90
 rw [World.size_alloc] at B2
 have HB:=Lib.hid (And.intro (And.intro ((Blk.new w #[.int .i64 a,.int .i64 b] 90).alloc (.cells #[.int .i64 c,.int .i64 d] 90)) B2) (HA.alloc HA.size (.cells #[.int .i64 c,.int .i64 d] 90)));clear HA B2
 generalize (w.alloc (.cells #[.int .i64 a,.int .i64 b] 90)).alloc (.cells #[.int .i64 c,.int .i64 d] 90)=W0 at *
 generalize hk:w.heap.size=k at *
 have HK:=Lib.hid hk;clear hk
 have HD:=Lib.hid (And.intro (And.intro HB.out.1.1.drew HB.out.1.2.drew) HB.out.2.drew);clear HB;have HB:=HD;clear HD
 have e0:=(show World.cell? _ ⟨k,0,none⟩=some (.int .i64 a) from HB.out.1.1.cell 0 _ rfl);have e1:=(show World.cell? _ ⟨k,1,none⟩=some (.int .i64 b) from HB.out.1.1.cell 1 _ rfl);have f0:=(show World.cell? _ ⟨k+1,0,none⟩=some (.int .i64 c) from HB.out.1.2.cell 0 _ rfl);have f1:=(show World.cell? _ ⟨k+1,1,none⟩=some (.int .i64 d) from HB.out.1.2.cell 1 _ rfl)
 go_region_held3 (fun w'=>(w'.cell? ⟨k,0,none⟩=some (.int .i64 a)∧w'.cell? ⟨k,1,none⟩=some (.int .i64 b))∧w'.cell? ⟨k+1,0,none⟩=some (.int .i64 c)∧w'.cell? ⟨k+1,1,none⟩=some (.int .i64 d)) (first | exact ⟨⟨e0,e1⟩,f0,f1⟩ | (go_keep;done) | exact ⟨⟨alc e0,alc e1⟩,alc f0,alc f1⟩ | exact ⟨⟨alc_d e0,alc_d e1⟩,alc_d f0,alc_d f1⟩)
  (first | (go_at_call 65;refine Calls.mono (O.out.1 _ _ _ ?_ HB.out.2) ?_;(first | exact .inl ⟨rfl,rfl⟩ | exact .inr ⟨rfl,rfl⟩);rintro e w2 ⟨rfl,b0⟩;have HN:=Lib.hid (And.intro (And.intro (HB.out.1.1.next b0) (HB.out.1.2.next b0)) (HB.out.2.trans (b0.mono (by have h1:=HB.out.2.size;have h2:=HK.out;omega))));clear HB b0;have HB:=HN;clear HN;have e0:=(show World.cell? _ ⟨k,0,none⟩=some (.int .i64 a) from HB.out.1.1.cell 0 _ rfl);have e1:=(show World.cell? _ ⟨k,1,none⟩=some (.int .i64 b) from HB.out.1.1.cell 1 _ rfl);have f0:=(show World.cell? _ ⟨k+1,0,none⟩=some (.int .i64 c) from HB.out.1.2.cell 0 _ rfl);have f1:=(show World.cell? _ ⟨k+1,1,none⟩=some (.int .i64 d) from HB.out.1.2.cell 1 _ rfl)) | (go_at_call 64;refine (cmpOr2 _ 0 0 _ (Blk.new _ _ _)).mono ?_;rintro e w5 ⟨rfl,b1⟩;have b0:=((Below.refl _ _).alloc (Nat.le_refl _) (.cells #[.int .i64 0,.int .i64 0] 27)).trans (b1.mono (by simp));clear b1;have HN:=Lib.hid (And.intro (And.intro (HB.out.1.1.next b0) (HB.out.1.2.next b0)) (HB.out.2.trans (b0.mono (by have h1:=HB.out.2.size;have h2:=HK.out;omega))));clear HB b0;have HB:=HN;clear HN;have e0:=(show World.cell? _ ⟨k,0,none⟩=some (.int .i64 a) from HB.out.1.1.cell 0 _ rfl);have e1:=(show World.cell? _ ⟨k,1,none⟩=some (.int .i64 b) from HB.out.1.1.cell 1 _ rfl);have f0:=(show World.cell? _ ⟨k+1,0,none⟩=some (.int .i64 c) from HB.out.1.2.cell 0 _ rfl);have f1:=(show World.cell? _ ⟨k+1,1,none⟩=some (.int .i64 d) from HB.out.1.2.cell 1 _ rfl)))
 all_goals
  go_wp2_with fail
  refine (O.out.2 _ HB.out.2).mono ?_
  rintro e w6 ⟨rfl,b0⟩
  have HN:=Lib.hid (And.intro (And.intro (HB.out.1.1.next b0) (HB.out.1.2.next b0)) (HB.out.2.trans (b0.mono (by have h1:=HB.out.2.size;have h2:=HK.out;omega))));clear HB b0;have HB:=HN;clear HN
  go_wp2
  go_ret2
  have hb:=HB.out.2
  rw [←HK.out] at hb
  exact ⟨rfl,hb⟩
end Go.Proofs.YtjdfjgfdbgmbiaaGreatDoor.T
namespace Go.Proofs.YtjdfjgfdbgmbiaaGreatDoor.T
open Go.Proofs.YtjdfjgfdbgmbiaaGreatDoor Go Go.RowKit
theorem rat_inv (x:Rat):1 / x=Rat.divInt (x.den:Int) x.num:=by rw [Rat.div_def,Rat.one_mul,Rat.inv_def]
theorem inv_bq {x:Rat} {k:Nat} (h:Bq k x) (x0:x≠0):Bq k (1 / x):=by
 rw [rat_inv]
 exact Bq.of_int (fun z=>x0 (Rat.num_eq_zero.1 z)) h.den h.num
theorem one_add_int (x:Rat):1+x=Rat.divInt ((x.den:Int)+x.num) (x.den:Int):=by
 have d0:=nat_pos x.den_pos
 have e:=num_is x
 rw [Rat.divInt_eq_div,Rat.intCast_add,Rat.intCast_natCast,e]
 have h:((x.den:Nat):Rat)+x*((x.den:Nat):Rat)=(1+x)*((x.den:Nat):Rat):=by grind
 rw [h,Rat.mul_div_cancel (by grind)]
theorem one_add_bq {x:Rat} {k:Nat} (h:Bq k x):Bq (k+1) (1+x):=by
 rw [one_add_int]
 refine Bq.of_int (by have:=x.den_pos;omega) ?_ (h.up (by omega)).den
 exact h.den.add h.num
structure Pt (p:Rat):Prop where
 pos:0<p
 bq:Bq 2 p
theorem pt1:Pt 1:=⟨by decide,Bq_one.up (by decide)⟩
theorem Pt.ne {p:Rat} (h:Pt p):p≠0:=by have:=h.pos;grind
theorem Pt.sq {p:Rat} (h:Pt p):Bq 4 (p*p):=(qmul_ok h.bq h.bq (by decide)).2.2
theorem Pt.sq0 {p:Rat} (h:Pt p):0<p*p:=Rat.mul_pos h.pos h.pos
theorem Pt.inv {p:Rat} (h:Pt p):Bq 4 (1 / (p*p)):=inv_bq h.sq (by have:=h.sq0;grind)
theorem inv_pos {x:Rat} (h:0<x):0<1 / x:=by
 rw [Rat.div_def,Rat.one_mul];exact Rat.inv_pos.2 h
theorem Pt.inv0 {p:Rat} (h:Pt p):0<1 / (p*p):=inv_pos h.sq0
def facQ (p:Rat):Rat:=1+p*p
def hipQ (p q:Rat):Rat:=1 / (1 / (p*p)+1 / (q*q))
def lenQ (p q:Rat):Rat:=1+1 / (p*p)+1 / (q*q)
def dihQ (p q:Rat):Rat:=1 / (facQ p*facQ q)
theorem Pt.fac {p:Rat} (h:Pt p):Bq 5 (facQ p):=one_add_bq h.sq
theorem Pt.fac0 {p:Rat} (h:Pt p):0<facQ p:=by have:=h.sq0;unfold facQ;grind
theorem sum0 {p q:Rat} (h:Pt p) (h':Pt q):0<1 / (p*p)+1 / (q*q):=by have:=h.inv0;have:=h'.inv0;grind
theorem hip_bq {p q:Rat} (h:Pt p) (h':Pt q):Bq 10 (hipQ p q):=(inv_bq (qadd_ok h.inv h'.inv (by decide)).2.2 (by have:=sum0 h h';grind)).up (by decide)
theorem hip_0 {p q:Rat} (h:Pt p) (h':Pt q):0<hipQ p q:=inv_pos (sum0 h h')
theorem len_bq {p q:Rat} (h:Pt p) (h':Pt q):Bq 10 (lenQ p q):=(qadd_ok (one_add_bq h.inv) h'.inv (by decide)).2.2
theorem len_0 {p q:Rat} (h:Pt p) (h':Pt q):0<lenQ p q:=by have:=h.inv0;have:=h'.inv0;unfold lenQ;grind
theorem fac2_bq {p q:Rat} (h:Pt p) (h':Pt q):Bq 10 (facQ p*facQ q):=(qmul_ok h.fac h'.fac (by decide)).2.2
theorem fac2_0 {p q:Rat} (h:Pt p) (h':Pt q):0<facQ p*facQ q:=Rat.mul_pos h.fac0 h'.fac0
theorem dih_bq {p q:Rat} (h:Pt p) (h':Pt q):Bq 10 (dihQ p q):=inv_bq (fac2_bq h h') (by have:=fac2_0 h h';grind)
theorem dih_0 {p q:Rat} (h:Pt p) (h':Pt q):0<dihQ p q:=inv_pos (fac2_0 h h')
theorem sq0b:strQ (0:Rat)=⟨#[48]⟩:=strQ_zero
theorem posi_q {p:Rat} (h:Pt p) (w:World) (ht:Tab w) (ht2:Tab64 w) :
  Calls Tryz.prog 31 #[.string (strQ p)] w fun e W'=>e = .returned (.int .i64 0)∧Below w.heap.size w W' :=
 posi_core _ w fun W h1=>by
  have:=rcmp 2 1 h.bq Bq_zero (by decide) W (ht.next h1) (TabQ_next ht2 h1)
  rwa [sq0b,cmpQ_gt h.pos] at this
theorem square_q {x:Rat} {k:Nat} (h:Bq k x) (hk:k+k≤300) (w:World) (ht:Tab w) (ht2:Tab64 w) :
  Calls Tryz.prog 68 #[.string (strQ x)] w fun e W'=>e = .returned (.tuple #[.string (strQ (x*x)),.int .i64 0])∧Below w.heap.size w W' :=
 square_core _ _ w fun W h1=>rmul k k h h hk W (ht.next h1) (TabQ_next ht2 h1)
theorem inv_q {x:Rat} {k:Nat} (h:Bq k x) (x0:x≠0) (hk:1+k≤300) (w:World) (ht:Tab w) (ht2:Tab64 w) :
  Calls Tryz.prog 81 #[.string (strQ x),.int .i64 0] w fun e W'=>e = .returned (.tuple #[.string (strQ (1 / x)),.int .i64 0])∧Below w.heap.size w W' :=
 inv_core _ _ w fun W h1=>by
  have:=rdiv 1 k Bq_one h x0 hk W (ht.next h1) (TabQ_next ht2 h1)
  rwa [sq1] at this
theorem invsq_q {p:Rat} (h:Pt p) (w:World) (ht:Tab w) (ht2:Tab64 w) :
  Calls Tryz.prog 47 #[.string (strQ p)] w fun e W'=>e = .returned (.tuple #[.string (strQ (1 / (p*p))),.int .i64 0])∧Below w.heap.size w W' :=
 invsq_core _ _ _ w (fun W h1=>square_q h.bq (by decide) W (ht.next h1) (TabQ_next ht2 h1)) fun W h1=>inv_q h.sq (by have:=h.sq0;grind) (by decide) W (ht.next h1) (TabQ_next ht2 h1)
theorem sqone_q {p:Rat} (h:Pt p) (w:World) (ht:Tab w) (ht2:Tab64 w) :
  Calls Tryz.prog 33 #[.string (strQ p)] w fun e W'=>e = .returned (.tuple #[.string (strQ (facQ p)),.int .i64 0])∧Below w.heap.size w W' :=
 sqone_core _ _ _ w (fun W h1=>square_q h.bq (by decide) W (ht.next h1) (TabQ_next ht2 h1)) fun W h1=>by
  have:=radd 1 4 Bq_one h.sq (by decide) W (ht.next h1) (TabQ_next ht2 h1)
  rwa [sq1] at this
theorem of_hip {p q:Rat} (h:Pt p) (h':Pt q) (w:World) (ht:Tab w) (ht2:Tab64 w) :
  Calls Tryz.prog 49 #[.agg #[.func (.func 47) #[] #[],.func (.func 48) #[] #[]],.string (strQ p),.string (strQ q)] w fun e W'=>e = .returned (.tuple #[.string (strQ (hipQ p q)),.int .i64 0])∧Below w.heap.size w W' :=
 of_core _ _ (enters_of Tryz.func47 (by kernel_rfl) rfl) (enters_of Tryz.func48 (by kernel_rfl) rfl) _ _ _ _ _ w
  (fun W h1=>posi_q h W (ht.next h1) (TabQ_next ht2 h1)) (fun W h1=>posi_q h' W (ht.next h1) (TabQ_next ht2 h1))
  (fun W h1=>invsq_q h W (ht.next h1) (TabQ_next ht2 h1)) (fun W h1=>invsq_q h' W (ht.next h1) (TabQ_next ht2 h1))
  fun W h1=>invsum_core _ _ _ _ W (fun W2 h2=>radd 4 4 h.inv h'.inv (by decide) W2 ((ht.next h1).next h2) (TabQ_next (TabQ_next ht2 h1) h2))
   fun W2 h2=>inv_q (qadd_ok h.inv h'.inv (by decide)).2.2 (by have:=sum0 h h';grind) (by decide) W2 ((ht.next h1).next h2) (TabQ_next (TabQ_next ht2 h1) h2)
theorem of_plan {p q:Rat} (h:Pt p) (h':Pt q) (w:World) (ht:Tab w) (ht2:Tab64 w) :
  Calls Tryz.prog 49 #[.agg #[.func (.func 50) #[] #[],.func (.func 51) #[] #[]],.string (strQ p),.string (strQ q)] w fun e W'=>e = .returned (.tuple #[.string (strQ (q / p)),.int .i64 0])∧Below w.heap.size w W' :=
 of_core _ _ (enters_of Tryz.func50 (by kernel_rfl) rfl) (enters_of Tryz.func51 (by kernel_rfl) rfl) _ _ _ _ _ w
  (fun W h1=>posi_q h W (ht.next h1) (TabQ_next ht2 h1)) (fun W h1=>posi_q h' W (ht.next h1) (TabQ_next ht2 h1))
  (fun W _=>itself_core _ W) (fun W _=>itself_core _ W)
  fun W h1=>over_core _ _ _ W fun W2 h2=>rdiv 2 2 h'.bq h.bq h.ne (by decide) W2 ((ht.next h1).next h2) (TabQ_next (TabQ_next ht2 h1) h2)
theorem of_len {p q:Rat} (h:Pt p) (h':Pt q) (w:World) (ht:Tab w) (ht2:Tab64 w) :
  Calls Tryz.prog 49 #[.agg #[.func (.func 47) #[] #[],.func (.func 52) #[] #[]],.string (strQ p),.string (strQ q)] w fun e W'=>e = .returned (.tuple #[.string (strQ (lenQ p q)),.int .i64 0])∧Below w.heap.size w W' :=
 of_core _ _ (enters_of Tryz.func47 (by kernel_rfl) rfl) (enters_of Tryz.func52 (by kernel_rfl) rfl) _ _ _ _ _ w
  (fun W h1=>posi_q h W (ht.next h1) (TabQ_next ht2 h1)) (fun W h1=>posi_q h' W (ht.next h1) (TabQ_next ht2 h1))
  (fun W h1=>invsq_q h W (ht.next h1) (TabQ_next ht2 h1)) (fun W h1=>invsq_q h' W (ht.next h1) (TabQ_next ht2 h1))
  fun W h1=>onesum_core _ _ _ W fun W2 b h2 l=>by
   rw [←sq1] at l
   exact rsum1 4 4 h.inv h'.inv (by decide) W2 b l ((ht.next h1).next h2) (TabQ_next (TabQ_next ht2 h1) h2)
theorem of_dih {p q:Rat} (h:Pt p) (h':Pt q) (w:World) (ht:Tab w) (ht2:Tab64 w) :
  Calls Tryz.prog 49 #[.agg #[.func (.func 33) #[] #[],.func (.func 55) #[] #[]],.string (strQ p),.string (strQ q)] w fun e W'=>e = .returned (.tuple #[.string (strQ (dihQ p q)),.int .i64 0])∧Below w.heap.size w W' :=
 of_core _ _ (enters_of Tryz.func33 (by kernel_rfl) rfl) (enters_of Tryz.func55 (by kernel_rfl) rfl) _ _ _ _ _ w
  (fun W h1=>posi_q h W (ht.next h1) (TabQ_next ht2 h1)) (fun W h1=>posi_q h' W (ht.next h1) (TabQ_next ht2 h1))
  (fun W h1=>sqone_q h W (ht.next h1) (TabQ_next ht2 h1)) (fun W h1=>sqone_q h' W (ht.next h1) (TabQ_next ht2 h1))
  fun W h1=>invprod_core _ _ _ _ W (fun W2 h2=>rmul 5 5 h.fac h'.fac (by decide) W2 ((ht.next h1).next h2) (TabQ_next (TabQ_next ht2 h1) h2))
   fun W2 h2=>inv_q (fac2_bq h h') (by have:=fac2_0 h h';grind) (by decide) W2 ((ht.next h1).next h2) (TabQ_next (TabQ_next ht2 h1) h2)
noncomputable def R1 (x:Rat):List Tm := [(nC x,((nN x:Nat):Rat))]
theorem rootOf_q (x:Rat) (x0:0<x) (hx:Bq 10 x) (w:World) (ht:Tab w) (ht2:Tab64 w) (hS:Sm w) :
  Calls Tryz.prog 32 #[.string (strQ x),.int .i64 0] w fun e W'=>∃ v,e = .returned (.tuple #[v,.int .i64 0])∧(Sv W' (R1 x) v∧Below w.heap.size w W') :=
 hroot_core _ w _ fun W b h1 k=>by
  rw [←sq1] at k
  have m:=Make_1 1 x W b k (by decide) x0 (Bq_one.up (by decide)) (hx.up (by decide)) (by rw [Rat.one_mul];exact (nC_bq hx).up (by decide)) (Nat.lt_of_lt_of_le (nN_lt (by decide) hx) (tenTo_mono (by decide))) (ht.next h1) (TabQ_next ht2 h1) (hS.next h1)
  rw [Rat.one_mul] at m
  exact m.mono fun e W' ⟨v,e1,s,b1⟩=>⟨v,e1,s,h1.trans (b1.mono h1.size)⟩
theorem Factor_q {p:Rat} (h:Pt p) (w:World) (ht:Tab w) (ht2:Tab64 w) (hS:Sm w) :
  Calls Tryz.prog 11 #[.string (strQ p)] w fun e W'=>∃ v,e = .returned (.tuple #[v,.int .i64 0])∧(Sv W' (R1 (facQ p)) v∧Below w.heap.size w W') :=
 factor_core _ _ w _ (fun W h1=>posi_q h W (ht.next h1) (TabQ_next ht2 h1)) (fun W h1=>sqone_q h W (ht.next h1) (TabQ_next ht2 h1))
  fun W h1=>(rootOf_q _ h.fac0 (h.fac.up (by decide)) W (ht.next h1) (TabQ_next ht2 h1) (hS.next h1)).mono fun e W' ⟨v,e1,s,b1⟩=>⟨v,e1,s,h1.trans (b1.mono h1.size)⟩
theorem Hip_q {p q:Rat} (h:Pt p) (h':Pt q) (w:World) (ht:Tab w) (ht2:Tab64 w) (hS:Sm w) :
  Calls Tryz.prog 17 #[.string (strQ p),.string (strQ q)] w fun e W'=>∃ v,e = .returned (.tuple #[v,.int .i64 0])∧(Sv W' (R1 (hipQ p q)) v∧Below w.heap.size w W') :=
 hip_core _ _ _ w _ (fun W h1=>of_hip h h' W (ht.next h1) (TabQ_next ht2 h1))
  fun W h1=>(rootOf_q _ (hip_0 h h') (hip_bq h h') W (ht.next h1) (TabQ_next ht2 h1) (hS.next h1)).mono fun e W' ⟨v,e1,s,b1⟩=>⟨v,e1,s,h1.trans (b1.mono h1.size)⟩
theorem Length_q {p q:Rat} (h:Pt p) (h':Pt q) (w:World) (ht:Tab w) (ht2:Tab64 w) (hS:Sm w) :
  Calls Tryz.prog 20 #[.string (strQ p),.string (strQ q)] w fun e W'=>∃ v,e = .returned (.tuple #[v,.int .i64 0])∧(Sv W' (R1 (lenQ p q)) v∧Below w.heap.size w W') :=
 length_core _ _ _ w _ (fun W h1=>of_len h h' W (ht.next h1) (TabQ_next ht2 h1))
  fun W h1=>(rootOf_q _ (len_0 h h') (len_bq h h') W (ht.next h1) (TabQ_next ht2 h1) (hS.next h1)).mono fun e W' ⟨v,e1,s,b1⟩=>⟨v,e1,s,h1.trans (b1.mono h1.size)⟩
theorem Dihedral_q {p q:Rat} (h:Pt p) (h':Pt q) (w:World) (ht:Tab w) (ht2:Tab64 w) (hS:Sm w) :
  Calls Tryz.prog 22 #[.string (strQ p),.string (strQ q)] w fun e W'=>∃ v,e = .returned (.tuple #[v,.int .i64 0])∧(Sv W' (R1 (dihQ p q)) v∧Below w.heap.size w W') :=
 dihedral_core _ _ _ w _ (fun W h1=>of_dih h h' W (ht.next h1) (TabQ_next ht2 h1))
  fun W h1=>(rootOf_q _ (dih_0 h h') (dih_bq h h') W (ht.next h1) (TabQ_next ht2 h1) (hS.next h1)).mono fun e W' ⟨v,e1,s,b1⟩=>⟨v,e1,s,h1.trans (b1.mono h1.size)⟩
theorem Plan_q {p q:Rat} (h:Pt p) (h':Pt q) (w:World) (ht:Tab w) (ht2:Tab64 w) :
  Calls Tryz.prog 19 #[.string (strQ p),.string (strQ q)] w fun e W'=>e = .returned (.tuple #[.string (strQ (q / p)),.int .i64 0])∧Below w.heap.size w W' :=
 plan_core _ _ _ w fun W h1=>of_plan h h' W (ht.next h1) (TabQ_next ht2 h1)
theorem max4_8 (W:World):(Builtin.max_ #[27,27,27,27] 27 #[.int .i64 0,.int .i64 0,.int .i64 0,.int .i64 0]).run Tryz.prog W = .ok (.int .i64 0) W:=by kernel_rfl
theorem max5_8 (W:World):(Builtin.max_ #[27,27,27,27,27] 27 #[.int .i64 0,.int .i64 0,.int .i64 0,.int .i64 0,.int .i64 0]).run Tryz.prog W = .ok (.int .i64 0) W:=by kernel_rfl
def piQ (a b:Int):Rat:=Rat.divInt (a % 48+1) (b % 48+1)
theorem div_pos {a b:Int} (ha:0<a) (hb:0<b):0<Rat.divInt a b:=by
 have:=(frac_lt (a:=0) (b:=a) (c:=1) (d:=b) (by decide) hb).2 (by omega)
 rwa [show Rat.divInt 0 1=0 from rfl] at this
theorem pi_pt (a b:Int):Pt (piQ a b):=by
 refine ⟨div_pos (by omega) (by omega),Bq.of_int (by omega) ?_ ?_⟩
 ·show (a % 48+1).natAbs<tenTo 2
  have:tenTo 2=100:=by decide
  omega
 ·show (b % 48+1).natAbs<tenTo 2
  have:tenTo 2=100:=by decide
  omega
theorem one_any (c n:ByteArray) (w:World):Calls Tryz.prog 26 #[.string c,.string n] w fun e W'=>∃ b,e = .returned (.slice (some ⟨b,0,none⟩) 1 1)∧Blk W' b #[.string c,.string n]∧Below w.heap.size w W':=by
 go_enter Tryz.func26,Tryz.ntmps26
 go_wp2
 go_ret
 exact ⟨_,rfl,Blk.new w _ _,(Below.refl w.heap.size w).alloc (Nat.le_refl _) _⟩
theorem one_sv (c:Rat) (n:Nat) (s1 s2:ByteArray) (e1:strQ c=s1) (e2:strQ (n:Rat)=s2) (c0:c≠0) (bc:Bq 60 c) (hn:Nrm n) (ln:n<10000) (w:World) :
  Calls Tryz.prog 26 #[.string s1,.string s2] w fun e W'=>∃ v,e = .returned v∧Sv W' [(c,(n:Rat))] v∧Below w.heap.size w W':=by
 refine (one_any s1 s2 w).mono fun e W' ⟨b,e3,k,b1⟩ => ?_
 rw [←e1,←e2] at k
 exact ⟨_,e3,⟨_,1,1,rfl,lit_su (lit_good c0 bc hn ln) k⟩,b1⟩
theorem root_is {x c:Rat} {n:Nat} (c0:0≤c) (hn:nN x=n) (x0:0≤x) (e:c*c*(n:Rat)=x) (n0:0<n):R1 x = [(c,(n:Rat))]:=by
 have s:=nC_sq x0
 rw [hn] at s
 have n1:=nat_pos n0
 have h:nC x*nC x=c*c:=by
  have h2:(nC x*nC x - c*c)*(n:Rat)=0:=by grind
  rcases Rat.mul_eq_zero.1 h2 with z | z
  ·grind
  ·grind
 unfold R1
 rw [hn,sq_inj (nC_nonneg x) c0 h]
end Go.Proofs.YtjdfjgfdbgmbiaaGreatDoor.T
