/- Parts of the proofs of the texts YtpkloolckbhdaaaGreatDoorQTR. -/
import Derived.Test.YtpkloolckbhdaaaGreatDoorQTR1
set_option linter.all false
set_option maxRecDepth 100000
set_option maxHeartbeats 8000000
namespace Go.Proofs.YtpkloolckbhdaaaGreatDoor.T
open Go.Proofs.YtpkloolckbhdaaaGreatDoor Go Go.RowKit
theorem max5_4 (W:World):(Builtin.max_ #[28,28,28,28,28] 28 #[.int .i64 0,.int .i64 0,.int .i64 0,.int .i64 0,.int .i64 0]).run Tryz.prog W = .ok (.int .i64 0) W:=by kernel_rfl
theorem srt_make {p:Rat} {sp:ByteArray} (h:Pq p) (hsp:strQ p=sp) (W:World) (b:Nat) (k:Blk W b #[.string ⟨#[49]⟩,.string sp]) (ht:Tab W) (ht2:Tab64 W) (hS:Sm W) :
  Calls Tryz.prog 27 #[.slice (some ⟨b,0,none⟩) 1 1] W fun e W'=>∃ v,e = .returned (.tuple #[v,.int .i64 0])∧Sv W' (Sq1 p) v∧Below W.heap.size W W':=by
 rw [←sq1,←hsp] at k
 refine (Make_ok [((1:Rat),p)] b 1 W (Tl.lit1 1 p k) (gd_one h) (fun t ht => ?_) ht ht2 hS).mono fun e W' ⟨q,n,c,r,e1,hp,hs,hb⟩ => ?_
 ·obtain rfl:=List.mem_singleton.1 ht
  exact ⟨Bq_one.up (by decide),(show Bq 5 p from ⟨Nat.lt_of_le_of_lt h.num (by decide+kernel),Nat.lt_of_le_of_lt h.den (by decide+kernel)⟩).up (by decide)⟩
 ·rw [fin_one h] at hp
  have e2:r=Sq1 p:=by
   unfold Sq1 at hp ⊢
   by_cases z:p=0
   ·rw [if_pos z] at hp ⊢; exact hp.eq_nil
   ·rw [if_neg z] at hp ⊢; exact List.perm_singleton.1 hp
  rw [←e2]
  exact ⟨_,e1,⟨q,n,c,rfl,hs⟩,hb⟩
theorem srt_mul {p:Rat} (h:Pq p) (W:World) (v:Value) (hv:Sv W (Sq1 p) v) (ht:Tab W) (ht2:Tab64 W) (hS:Sm W) :
  Calls Tryz.prog 23 #[v,v] W fun e W'=>∃ u,e = .returned (.tuple #[u,.int .i64 0])∧Sv W' (if p=0 then [] else [(p,1)]) u∧Below W.heap.size W W':=by
 obtain ⟨q,n,c,rfl,hs⟩:=hv
 obtain ⟨gd,ho⟩:=square_res h
 exact (Mul_ok _ _ q q n n c c W hs hs gd ht ht2 hS).mono fun e W' r=>r.only ho
theorem srt_val {p:Rat} {sp:ByteArray} (hsp:strQ p=sp) (W:World) (v:Value) (hv:Sv W (if p=0 then [] else [(p,1)]) v) (ht:Tab W) (ht2:Tab64 W) (hS:Sm W) :
  Calls Tryz.prog 29 #[v] W fun e W'=>e = .returned (.tuple #[.string sp,.bool true,.int .i64 0])∧Below W.heap.size W W':=by
 obtain ⟨q,n,c,rfl,hs⟩:=hv
 have:=Value_ok _ q n c W hs ht ht2 hS
 by_cases z:p=0
 ·rw [if_pos z] at this
  rw [←hsp,z,strQ_zero];exact this
 ·rw [if_neg z] at this
  rw [←hsp]
  unfold vS vI at this
  simpa using this
theorem srt_cmp {p q:Rat} (hp:Pq p) (hq:Pq q) (o:Int) (ho:ordQ p q=o) (W:World) (u v:Value) (hu:Sv W (Sq1 p) u) (hv:Sv W (Sq1 q) v) (ht:Tab W) (ht2:Tab64 W) (hS:Sm W) :
  Calls Tryz.prog 30 #[u,v] W fun e W'=>e = .returned (.tuple #[.int .i64 o,.int .i64 0])∧Below W.heap.size W W':=by
 obtain ⟨a,n,c,rfl,hs⟩:=hu
 obtain ⟨a',n',c',rfl,hs'⟩:=hv
 have:=Compare_ok _ _ a a' n n' c c' W hs hs' (cmp_gd hp hq) ht ht2 hS
 rwa [(cmp_sg hp hq).1,(cmp_sg hp hq).2,ho] at this
theorem frac_lt {a b c d:Int} (hc:0<c) (hd:0<d):Rat.divInt a c<Rat.divInt b d↔a*d<b*c:=by
 have c0:(0:Rat)<(c:Rat):=by have:=Rat.intCast_lt_intCast.2 hc;exact this
 have d0:(0:Rat)<(d:Rat):=by have:=Rat.intCast_lt_intCast.2 hd;exact this
 have e1:Rat.divInt a c*(c:Rat)=(a:Rat):=by rw [Rat.divInt_eq_div];exact Rat.div_mul_cancel (by grind)
 have e2:Rat.divInt b d*(d:Rat)=(b:Rat):=by rw [Rat.divInt_eq_div];exact Rat.div_mul_cancel (by grind)
 have e3:Rat.divInt a c*((c:Rat)*(d:Rat))=((a*d:Int):Rat):=by rw [Rat.intCast_mul,←e1];grind
 have e4:Rat.divInt b d*((c:Rat)*(d:Rat))=((b*c:Int):Rat):=by rw [Rat.intCast_mul,←e2];grind
 have m0:=Rat.mul_pos c0 d0
 constructor
 ·intro h
  have:=Rat.mul_lt_mul_of_pos_right h m0
  rw [e3,e4] at this
  exact Rat.intCast_lt_intCast.1 this
 ·intro h
  refine Rat.lt_of_mul_lt_mul_right (c:=(c:Rat)*(d:Rat)) ?_ (Rat.le_of_lt m0)
  rw [e3,e4]
  exact Rat.intCast_lt_intCast.2 h
def ordZ (x y:Int):Int:=if x<y then -1 else if y<x then 1 else 0
theorem ord_frac {a b c d:Int} (hc:0<c) (hd:0<d):ordQ (Rat.divInt a c) (Rat.divInt b d)=ordZ (a*d) (b*c):=by
 unfold ordQ ordZ
 simp only [frac_lt hc hd,frac_lt hd hc]
theorem srt_main (a b c d:Nat) (w:World) (ha:a≤65535) (hb:b≤65535) (hc:c≤255) (hd:d≤255) (ht:Tab w) (ht2:Tab64 w) (hS:Sm w) :
  Calls Tryz.prog 7 #[.int .u16 a,.int .u16 b,.int .u8 c,.int .u8 d] w fun e W'=>e = .returned (.bool true)∧Below w.heap.size w W':=by
 have T:=Lib.hid (fun W (h:Below w.heap.size w W)=>And.intro (ht.next h) (And.intro (TabQ_next ht2 h) (hS.next h)))
 have F1:=Lib.hid (fun W (h:Below w.heap.size w W)=>frac_any (a:Int) (c:Int) W (by omega) (by omega) (by omega) (by omega) (ht.next h))
 have F2:=Lib.hid (fun W (h:Below w.heap.size w W)=>frac_any (b:Int) (d:Int) W (by omega) (by omega) (by omega) (by omega) (ht.next h))
 clear ht ht2 hS
 obtain ⟨m,hm⟩:∃ m:Nat,m=c % 20+1:=⟨_,rfl⟩
 obtain ⟨k,hk⟩:∃ k:Nat,k=d % 20+1:=⟨_,rfl⟩
 have em:(c:Int) % 20+1=(m:Int):=by omega
 have ek:(d:Int) % 20+1=(k:Int):=by omega
 have m0:0<m:=by omega
 have k0:0<k:=by omega
 have m1:m≤20:=by omega
 have k1:k≤20:=by omega
 rw [em] at F1
 rw [ek] at F2
 have P:=Lib.hid (pq_of a m m0 m1 ha)
 have Q:=Lib.hid (pq_of b k k0 k1 hb)
 have HO:=Lib.hid (ord_frac (a:=a) (b:=b) (c:=m) (d:=k) (by omega) (by omega))
 have x1:0≤(a:Int)*(k:Int):=Int.mul_nonneg (by omega) (by omega)
 have x2:(a:Int)*(k:Int)≤65535*20:=Int.mul_le_mul (by omega) (by omega) (by omega) (by omega)
 have y1:0≤(b:Int)*(m:Int):=Int.mul_nonneg (by omega) (by omega)
 have y2:(b:Int)*(m:Int)≤65535*20:=Int.mul_le_mul (by omega) (by omega) (by omega) (by omega)
 obtain ⟨xx,hxx⟩:∃ xx:Int,xx=(a:Int)*(k:Int):=⟨_,rfl⟩
 obtain ⟨yy,hyy⟩:∃ yy:Int,yy=(b:Int)*(m:Int):=⟨_,rfl⟩
 have w1:IntKind.i64.wrap ((a:Int)*((d:Int) % 20+1))=xx:=by rw [ek,IntKind.wrap_i64];omega
 have w2:IntKind.i64.wrap ((b:Int)*((c:Int) % 20+1))=yy:=by rw [em,IntKind.wrap_i64];omega
 rw [←hxx,←hyy] at HO
 generalize Rat.divInt (a:Int) (m:Int)=p at *
 generalize Rat.divInt (b:Int) (k:Int)=q at *
 obtain ⟨sp,hsp⟩:∃ sp,strQ p=sp:=⟨_,rfl⟩
 obtain ⟨sq,hsq⟩:∃ sq,strQ q=sq:=⟨_,rfl⟩
 rw [hsp] at F1
 rw [hsq] at F2
 have HP:=Lib.hid hsp;have HQ:=Lib.hid hsq
 clear hsp hsq x1 x2 y1 y2 em ek m0 k0 m1 k1 hm hk hxx hyy
 have hm5:=max5_4
 have eg:∀ args W,(callFunc 25 args).run Tryz.prog W = .ok (.enter 25 args) W:=enters_of Tryz.func25 (by kernel_rfl) rfl
 have HB:=Lib.hid (Below.refl w.heap.size w)
 go_enter Tryz.func7,Tryz.ntmps7
 go_wp2_with fail
 refine (F1.out _ HB.out).mono ?_
 rintro e W ⟨rfl,b0⟩
 have HN:=Lib.hid (HB.out.trans (b0.mono HB.out.size))
 clear HB b0;have HB:=HN;clear HN
 go_wp2_with fail
 refine (F2.out _ HB.out).mono ?_
 rintro e W ⟨rfl,b0⟩
 have HN:=Lib.hid (HB.out.trans (b0.mono HB.out.size))
 clear HB b0;have HB:=HN;clear HN
 go_wp2_with fail
 refine (root_any _ _ _).mono ?_
 rintro e W ⟨kb,rfl,s0,b0⟩
 have HN:=Lib.hid (HB.out.trans (b0.mono HB.out.size))
 have K:=Lib.hid (s0)
 clear s0
 clear HB b0;have HB:=HN;clear HN
 go_wp2_with fail
 refine (srt_make P.out HP.out _ _ K.out (T.out _ HB.out).1 (T.out _ HB.out).2.1 (T.out _ HB.out).2.2).mono ?_
 rintro e W ⟨v1,rfl,s0,b0⟩
 have HN:=Lib.hid (HB.out.trans (b0.mono HB.out.size))
 have A:=Lib.hid (s0)
 clear s0
 clear HB b0;have HB:=HN;clear HN
 clear K
 go_wp2_with fail
 refine (root_any _ _ _).mono ?_
 rintro e W ⟨kb,rfl,s0,b0⟩
 have HN:=Lib.hid (HB.out.trans (b0.mono HB.out.size))
 have A':=Lib.hid (A.out.next b0);clear A;have A:=A';clear A'
 have K:=Lib.hid (s0)
 clear s0
 clear HB b0;have HB:=HN;clear HN
 go_wp2_with fail
 refine (srt_make Q.out HQ.out _ _ K.out (T.out _ HB.out).1 (T.out _ HB.out).2.1 (T.out _ HB.out).2.2).mono ?_
 rintro e W ⟨v2,rfl,s0,b0⟩
 have HN:=Lib.hid (HB.out.trans (b0.mono HB.out.size))
 have A':=Lib.hid (A.out.next b0);clear A;have A:=A';clear A'
 have B:=Lib.hid (s0)
 clear s0
 clear HB b0;have HB:=HN;clear HN
 clear K
 go_wp2_with fail
 refine (srt_mul P.out _ _ A.out (T.out _ HB.out).1 (T.out _ HB.out).2.1 (T.out _ HB.out).2.2).mono ?_
 rintro e W ⟨v3,rfl,s0,b0⟩
 have HN:=Lib.hid (HB.out.trans (b0.mono HB.out.size))
 have A':=Lib.hid (A.out.next b0);clear A;have A:=A';clear A'
 have B':=Lib.hid (B.out.next b0);clear B;have B:=B';clear B'
 have S:=Lib.hid (s0)
 clear s0
 clear HB b0;have HB:=HN;clear HN
 go_wp2_with fail
 refine (srt_val HP.out _ _ S.out (T.out _ HB.out).1 (T.out _ HB.out).2.1 (T.out _ HB.out).2.2).mono ?_
 rintro e W ⟨rfl,b0⟩
 have HN:=Lib.hid (HB.out.trans (b0.mono HB.out.size))
 have A':=Lib.hid (A.out.next b0);clear A;have A:=A';clear A'
 have B':=Lib.hid (B.out.next b0);clear B;have B:=B';clear B'
 clear HB b0;have HB:=HN;clear HN
 clear S
 have h3:xx<yy∨xx=yy∨yy<xx:=by omega
 rcases h3 with h | h | h
 ·have o1:ordZ xx yy = -1:=by unfold ordZ;rw [if_pos h]
  have O1:=Lib.hid o1;clear o1
  go_wp2_with fail
  refine (srt_cmp P.out Q.out (-1) (by rw [HO.out];exact O1.out) _ _ _ A.out B.out (T.out _ HB.out).1 (T.out _ HB.out).2.1 (T.out _ HB.out).2.2).mono ?_
  rintro e W ⟨rfl,b0⟩
  have HN:=Lib.hid (HB.out.trans (b0.mono HB.out.size))
  clear HB b0;have HB:=HN;clear HN
  clear A B HO O1
  go_wp2_with fail
  refine (awake4_any _ (T.out _ HB.out).1 (T.out _ HB.out).2.1 (T.out _ HB.out).2.2).mono ?_
  rintro e W ⟨rfl,b0⟩
  have HN:=Lib.hid (HB.out.trans (b0.mono HB.out.size))
  clear HB b0;have HB:=HN;clear HN
  go_wp2
  go_ret
  exact ⟨rfl,HB.out⟩
 ·have o1:ordZ xx yy=0:=by unfold ordZ;rw [if_neg (by omega),if_neg (by omega)]
  subst h
  have n1:¬ xx<xx:=by omega
  have O1:=Lib.hid o1;clear o1
  go_wp2_with fail
  refine (srt_cmp P.out Q.out 0 (by rw [HO.out];exact O1.out) _ _ _ A.out B.out (T.out _ HB.out).1 (T.out _ HB.out).2.1 (T.out _ HB.out).2.2).mono ?_
  rintro e W ⟨rfl,b0⟩
  have HN:=Lib.hid (HB.out.trans (b0.mono HB.out.size))
  clear HB b0;have HB:=HN;clear HN
  clear A B HO O1
  go_wp2_with fail
  refine (awake4_any _ (T.out _ HB.out).1 (T.out _ HB.out).2.1 (T.out _ HB.out).2.2).mono ?_
  rintro e W ⟨rfl,b0⟩
  have HN:=Lib.hid (HB.out.trans (b0.mono HB.out.size))
  clear HB b0;have HB:=HN;clear HN
  go_wp2
  go_ret
  exact ⟨rfl,HB.out⟩
 ·have o1:ordZ xx yy=1:=by unfold ordZ;rw [if_neg (by omega),if_pos h]
  have n1:¬ xx<yy:=by omega
  have O1:=Lib.hid o1;clear o1
  go_wp2_with fail
  refine (srt_cmp P.out Q.out 1 (by rw [HO.out];exact O1.out) _ _ _ A.out B.out (T.out _ HB.out).1 (T.out _ HB.out).2.1 (T.out _ HB.out).2.2).mono ?_
  rintro e W ⟨rfl,b0⟩
  have HN:=Lib.hid (HB.out.trans (b0.mono HB.out.size))
  clear HB b0;have HB:=HN;clear HN
  clear A B HO O1
  go_wp2_with fail
  refine (awake4_any _ (T.out _ HB.out).1 (T.out _ HB.out).2.1 (T.out _ HB.out).2.2).mono ?_
  rintro e W ⟨rfl,b0⟩
  have HN:=Lib.hid (HB.out.trans (b0.mono HB.out.size))
  clear HB b0;have HB:=HN;clear HN
  go_wp2
  go_ret
  exact ⟨rfl,HB.out⟩
theorem SurdRoots_any (a b c d:Int) (w:World) (ha:(Lit.int .u16 a).wf=true) (hb:(Lit.int .u16 b).wf=true) (hc:(Lit.int .u8 c).wf=true) (hd:(Lit.int .u8 d).wf=true) (ht:Tab w) (ht2:Tab64 w) (hS:Sm w) :
  Calls Tryz.prog 7 #[.int .u16 a,.int .u16 b,.int .u8 c,.int .u8 d] w fun e W'=>e = .returned (.bool true)∧Below w.heap.size w W':=by
 have h1:0≤a∧a≤65535:=by simpa [Lit.wf,IntKind.min,IntKind.max,IntKind.signed,IntKind.bits] using ha
 have h2:0≤b∧b≤65535:=by simpa [Lit.wf,IntKind.min,IntKind.max,IntKind.signed,IntKind.bits] using hb
 have h3:0≤c∧c≤255:=by simpa [Lit.wf,IntKind.min,IntKind.max,IntKind.signed,IntKind.bits] using hc
 have h4:0≤d∧d≤255:=by simpa [Lit.wf,IntKind.min,IntKind.max,IntKind.signed,IntKind.bits] using hd
 obtain ⟨a',rfl⟩:∃ k:Nat,a=k:=⟨a.toNat,by omega⟩
 obtain ⟨b',rfl⟩:∃ k:Nat,b=k:=⟨b.toNat,by omega⟩
 obtain ⟨c',rfl⟩:∃ k:Nat,c=k:=⟨c.toNat,by omega⟩
 obtain ⟨d',rfl⟩:∃ k:Nat,d=k:=⟨d.toNat,by omega⟩
 exact srt_main a' b' c' d' w (by omega) (by omega) (by omega) (by omega) ht ht2 hS
end Go.Proofs.YtpkloolckbhdaaaGreatDoor.T
