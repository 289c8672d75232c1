/- Parts of the proof of the text YtpkloolckbhdaaaGreatDoorQTC2. -/
import Derived.Test.YtpkloolckbhdaaaGreatDoorQT1
import Derived.Test.YtpkloolckbhdaaaGreatDoorQT37
set_option linter.all false
set_option maxRecDepth 100000
set_option maxHeartbeats 8000000
namespace Go.Proofs.YtpkloolckbhdaaaGreatDoor.T
open Go.Proofs.YtpkloolckbhdaaaGreatDoor Go Go.RowKit
theorem num_any (z:Int) (w:World) (h1 : -9223372036854775808≤z) (h2:z≤9223372036854775807) (ht:Tab w) :
  Calls Tryz.prog 31 #[.int .i64 z] w fun e W'=>e = .returned (.string (strB z))∧Below w.heap.size w W':=by
 have O:=Lib.hid (Itoa_any z w h1 h2 ht);clear ht h1 h2
 go_enter Tryz.func31,Tryz.ntmps31
 go_wp2_with fail
 refine O.out.mono ?_
 rintro e W1 ⟨rfl,b⟩
 have HB:=Lib.hid b;clear b
 go_wp2
 go_ret
 exact ⟨rfl,HB.out⟩
theorem terms_core (a b n:Int) (kf ka kn:Nat) (g:Int→ByteArray) (w:World) (w1:IntKind.i64.wrap a=a) (w2:IntKind.i64.wrap n=n) (hk:kf<w.heap.size∧ka<w.heap.size∧kn<w.heap.size)
  (hc:w.cell? ⟨kf,0,none⟩=some (.func (.func 31) #[] #[])∧w.cell? ⟨ka,0,none⟩=some (.int .i16 a)∧w.cell? ⟨kn,0,none⟩=some (.int .u16 n))
  (hN:∀ z W,(z=a∨z=b∨z=n)→Below w.heap.size w W→Calls Tryz.prog 31 #[.int .i64 z] W fun e W'=>e = .returned (.string (g z))∧Below W.heap.size W W') :
  Calls Tryz.prog 32 #[.int .i64 b,.pointer (some ⟨kf,0,none⟩),.pointer (some ⟨ka,0,none⟩),.pointer (some ⟨kn,0,none⟩)] w fun e W'=>∃ bl,e = .returned (.slice (some ⟨bl,0,none⟩) 2 2)∧Blk W' bl #[.string (g a),.string ⟨#[49]⟩,.string (g b),.string (g n)]∧Below w.heap.size w W':=by
 have eg:∀ args W,(callFunc 31 args).run Tryz.prog W = .ok (.enter 31 args) W:=enters_of Tryz.func31 (by kernel_rfl) rfl
 have O:=Lib.hid hN;clear hN
 have HB:=Lib.hid (Below.refl w.heap.size w)
 go_enter Tryz.func32,Tryz.ntmps32
 go_wp2
 have HD:=Lib.hid HB.out.drew;clear HB;have HB:=HD;clear HD
 have e0:=(HB.out.cell (p:=⟨kf,0,none⟩) hk.1).trans hc.1;have e1:=(HB.out.cell (p:=⟨ka,0,none⟩) hk.2.1).trans hc.2.1;have e2:=(HB.out.cell (p:=⟨kn,0,none⟩) hk.2.2).trans hc.2.2
 go_region_held3 (fun w'=>w'.cell? ⟨kf,0,none⟩=some (.func (.func 31) #[] #[])∧w'.cell? ⟨ka,0,none⟩=some (.int .i16 a)∧w'.cell? ⟨kn,0,none⟩=some (.int .u16 n)) (first | exact ⟨e0,e1,e2⟩ | (go_keep;done) | exact ⟨alc e0,alc e1,alc e2⟩)
  (first | (go_at_call 31;with_reducible refine Calls.mono (O.out _ _ ?_ HB.out) ?_;(first | exact .inl rfl | exact .inr (.inl rfl) | exact .inr (.inr rfl));rintro e w4 ⟨rfl,b⟩;have HN:=Lib.hid (HB.out.trans (b.mono HB.out.size));clear HB b;have HB:=HN;clear HN;have e0:=(HB.out.cell (p:=⟨kf,0,none⟩) hk.1).trans hc.1;have e1:=(HB.out.cell (p:=⟨ka,0,none⟩) hk.2.1).trans hc.2.1;have e2:=(HB.out.cell (p:=⟨kn,0,none⟩) hk.2.2).trans hc.2.2))
 all_goals
  go_wp2
  go_ret
  exact ⟨_,rfl,Blk.new _ _ _,HB.out.alloc HB.out.size _⟩
end Go.Proofs.YtpkloolckbhdaaaGreatDoor.T
namespace Go.Proofs.YtpkloolckbhdaaaGreatDoor.T
open Go.Proofs.YtpkloolckbhdaaaGreatDoor Go Go.RowKit
def rawC (a b:Int) (n:Nat):List Tm := [((a:Rat),1),((b:Rat),(n:Rat))]
theorem rawC_mem {a b:Int} {n:Nat} {t:Tm} (h:t∈rawC a b n):t=((a:Rat),1)∨t=((b:Rat),(n:Rat)):=by simpa [rawC] using h
theorem rawC_ns {a b:Int} {n:Nat} (ha:a.natAbs≤32768) (hb:b.natAbs≤32768) (hn:n≤65535):∀ t∈rawC a b n,Ns 1 32768 65535 t:=fun t ht=>by
 rcases rawC_mem ht with rfl | rfl
 ·exact ⟨(J.int a).up ha,1,rfl,by decide⟩
 ·exact ⟨(J.int b).up hb,n,rfl,hn⟩
theorem rawC_cl (a b:Int) (n:Nat):Cl [1,(n:Rat)] (rawC a b n):=fun t ht _=>by
 rcases rawC_mem ht with rfl | rfl
 ·exact ⟨1,by simp,Rl.refl _⟩
 ·exact ⟨(n:Rat),by simp,Rl.refl _⟩
theorem rawC_gd {a b:Int} {n:Nat} (ha:a.natAbs≤32768) (hb:b.natAbs≤32768) (hn:n≤65535):Gd (rawC a b n) :=
 gd_raw (k:=2) (rawC_ns ha hb hn) (by decide) (by decide) (Nat.le_refl 2) (by decide) (by decide+kernel) (by decide+kernel) (by decide+kernel) (rawC_cl a b n) (show 2≤16 by decide)
theorem rawC_ok {a b:Int} {n:Nat} (ha:a.natAbs≤32768) (hb:b.natAbs≤32768) (hn:n≤65535) {r:List Tm} (hp:r.Perm (T.fin (rawC a b n))):Ok 1 32768 65535 2 [1,(n:Rat)] (rawC a b n) r :=
 Ok.fin (rawC_ns ha hb hn) (Nat.le_refl 2) (fun t ht=>(rawC_ns ha hb hn t ht).r) (fun _ _=>rfl) (rawC_gd ha hb hn) (rawC_cl a b n) hp
def MC:Nat:=2*(32768*65535)
theorem rawC_int {a b:Int} {n:Nat} (ha:a.natAbs≤32768) (hb:b.natAbs≤32768) (hn:n≤65535) {r:List Tm} (hp:r.Perm (T.fin (rawC a b n))):∀ t∈r,Ns 1 MC 65535 t:=fun t ht=>by
 have ok:=rawC_ok ha hb hn hp
 obtain ⟨q,e,nq,lq⟩:=ok.rt t ht
 refine ⟨?_,q,e,lq⟩
 have own:t.1=T.vl (q:Rat) (rawC a b n):=by rw [←e,←ok.vl _ (ok.red.1 t ht),vl_own ok.red ht]
 rw [own]
 by_cases q1:q=1
 ·subst q1
  exact (vl_raw (rawC_ns ha hb hn) (b:=1) (by decide)).up (show 2*(32768*(65535*1))≤MC by decide)
 ·have q0:=nat_pos nq.1
  have z:co (q:Rat) ((a:Rat),1)=0:=co_rl _ q0 (by decide) fun r=>q1 (nq.one r.symm)
  show J 1 MC (co (q:Rat) ((a:Rat),1)+(co (q:Rat) ((b:Rat),(n:Rat))+0))
  rw [z,Rat.add_zero,Rat.zero_add]
  rcases Nat.eq_zero_or_pos n with n0 | n0
  ·subst n0
   rw [show (((0:Nat):Rat))=0 from rfl,co_null q0];exact J.zero _ _
  ·have h0:(0:Rat)≤(n:Rat):=castn_nonneg n
   rw [←co_nrm q0 ((b:Rat),(n:Rat)) h0]
   obtain ⟨c,ec,lc⟩:=nC_nat n
   show J 1 MC (co (q:Rat) ((b:Rat)*nC (n:Rat),((nN (n:Rat):Nat):Rat)))
   obtain ⟨s,hs,sz,es,_⟩:=gth_src (fun t ht=>((rawC_ns ha hb hn) t ht).nn) (List.mem_filter.1 (hp.subset ht)).1
   have eq:nN (n:Rat)=q:=by
    rcases rawC_mem hs with rfl | rfl
    ·exfalso
     have e1:nN (1:Rat)=1:=nrm1.2.2
     rw [show ((a:Rat),(1:Rat)).2=1 from rfl,e1,e] at es
     exact q1 (Rat.natCast_inj.1 es)
    ·rw [e] at es
     exact (Rat.natCast_inj.1 es).symm
   rw [eq,co_self _ q0,ec]
   have j:=(J.int b).mul (J.int (c:Int))
   rw [Rat.intCast_natCast,Int.natAbs_natCast,Nat.mul_one] at j
   exact j.up (Nat.le_trans (Nat.mul_le_mul hb (Nat.le_trans lc hn)) (by decide))
def rawP (a b:Int) (n:Nat):List Tm:=if n=0 then [((a:Rat),1)] else rawC a b n
theorem rawP_vl (a b:Int) (n:Nat) {m:Rat} (hm:0<m):T.vl m (rawC a b n)=T.vl m (rawP a b n):=by
 unfold rawP
 split
 ·rename_i z
  subst z
  show co m ((a:Rat),1)+(co m ((b:Rat),((0:Nat):Rat))+0)=co m ((a:Rat),1)+0
  rw [show (((0:Nat):Rat))=0 from rfl,co_null hm,Rat.add_zero]
 ·rfl
theorem rawP_pos (a b:Int) (n:Nat):∀ t∈rawP a b n,0<t.2:=fun t ht=>by
 unfold rawP at ht
 split at ht
 ·obtain rfl:=List.mem_singleton.1 ht;exact (by decide:(0:Rat)<1)
 ·rcases rawC_mem ht with rfl | rfl
  ·exact (by decide:(0:Rat)<1)
  ·exact nat_pos (by omega)
def xC (a b:Int) (n:Nat):Int:=a*a - b*b*n
theorem pr_conj (a b:Int) (n:Nat) {m:Rat} (hm:0<m):pr m (rawP a (-b) n) (rawP a b n)=co m ((xC a b n:Rat),1):=by
 unfold rawP
 split
 ·rename_i z
  subst z
  show co m ((a:Rat)*a,1*1)+0+0=_
  have:((xC a b 0:Int):Rat)=(a:Rat)*a:=by unfold xC;rw [Int.natCast_zero,Int.mul_zero,Int.sub_zero,Rat.intCast_mul]
  rw [this,Rat.add_zero,Rat.add_zero,Rat.mul_one]
 ·show (co m ((a:Rat)*a,1*1)+(co m ((a:Rat)*((-b:Int):Rat),1*(n:Rat))+0))+((co m ((b:Rat)*a,(n:Rat)*1)+(co m ((b:Rat)*((-b:Int):Rat),(n:Rat)*(n:Rat))+0))+0)=_
  have n0:(0:Rat)≤(n:Rat):=castn_nonneg n
  have h1:=co_out (k:=(n:Rat)) (q:=1) ((b:Rat)*((-b:Int):Rat)) hm (by decide) n0
  rw [Rat.mul_one] at h1
  have h2:co m ((a:Rat)*((-b:Int):Rat),1*(n:Rat))+co m ((b:Rat)*a,(n:Rat)*1)=0:=by
   rw [Rat.one_mul,Rat.mul_one,←co_add,Rat.intCast_neg]
   have:(a:Rat) * -(b:Rat)+(b:Rat)*a=0:=by grind
   rw [this,co_zero]
  have h3:((xC a b n:Int):Rat)=(a:Rat)*a+(b:Rat)*((-b:Int):Rat)*(n:Rat):=by
   unfold xC
   rw [Rat.intCast_sub,Rat.intCast_mul,Rat.intCast_mul,Rat.intCast_mul,Rat.intCast_natCast,Rat.intCast_neg];grind
  rw [h1,h3,co_add,Rat.one_mul]
  grind
theorem conj_gd {a b:Int} {n:Nat} (ha:a.natAbs≤32768) (hb:b.natAbs≤32768) (hn:n≤65535) {l k:List Tm} (hl:l.Perm (T.fin (rawC a b n))) (hk:k.Perm (T.fin (rawC a (-b) n))) :
  Gd (prods l k)∧∀ r,r.Perm (T.fin (prods l k))→Good r→r=if ((xC a b n:Int):Rat)=0 then [] else [(((xC a b n:Int):Rat),1)]:=by
 have hb':(-b).natAbs≤32768:=by rw [Int.natAbs_neg];exact hb
 have o1:=rawC_ok ha hb hn hl
 have o2:=rawC_ok ha hb' hn hk
 obtain ⟨gd,hr⟩:=gd_prods (rawC_int ha hb hn hl) (rawC_int ha hb' hn hk) o1.l16 o2.l16 o1.cl o2.cl (by decide) (by decide) (by decide+kernel) (by decide+kernel) (by decide+kernel) (C2:=prC [1,(n:Rat)] [1,(n:Rat)]) (show 4≤16 by decide) (fun c hc=>hc)
 refine ⟨gd,fun r hp hg => ?_⟩
 have ok:=hr r hp
 refine one_only ok.red (fun t ht=>by obtain ⟨q,e,nq,_⟩:=ok.rt t ht;exact ⟨q,e,nq⟩) (fun t ht=>(hg.ok t ht).1) fun m hm => ?_
 rw [ok.vl m hm,vl_prods]
 have p1:∀ x,0<x→T.vl x k=T.vl x (rawP a (-b) n):=fun x hx=>by rw [o2.vl x hx,rawP_vl a (-b) n hx]
 have p2:∀ x,0<x→T.vl x l=T.vl x (rawP a b n):=fun x hx=>by rw [o1.vl x hx,rawP_vl a b n hx]
 have nn:∀ {l:List Tm},(∀ t∈l,0<t.2)→∀ t∈l,0≤t.2:=fun h t ht=>Rat.le_of_lt (h t ht)
 rw [pr_right hm (nn o2.red.1) (nn (rawP_pos a (-b) n)) p1 o1.red.1,pr_comm,pr_right hm (nn o1.red.1) (nn (rawP_pos a b n)) p2 (rawP_pos a (-b) n),pr_comm]
 exact pr_conj a b n hm
end Go.Proofs.YtpkloolckbhdaaaGreatDoor.T
namespace Go.Proofs.YtpkloolckbhdaaaGreatDoor.T
open Go.Proofs.YtpkloolckbhdaaaGreatDoor Go Go.RowKit
theorem mxe4 (W:World):(Builtin.max_ #[28,28,28,28] 28 #[.int .i64 0,.int .i64 0,.int .i64 0,.int .i64 0]).run Tryz.prog W = .ok (.int .i64 0) W:=by kernel_rfl
theorem wrap64 {z:Int} (h1 : -9223372036854775808≤z) (h2:z≤9223372036854775807):IntKind.i64.wrap z=z:=by rw [IntKind.wrap_i64];omega
theorem conj_num {a b:Int} {n:Nat} (ha:a.natAbs≤32768) (hb:b.natAbs≤32768) (hn:n≤65535) :
  (-1073741824≤a*a∧a*a≤1073741824)∧(-1073741824≤b*b∧b*b≤1073741824)∧(-70368744177664≤b*b*n∧b*b*n≤70368744177664):=by
 have h1:(a*a).natAbs≤32768*32768:=by rw [Int.natAbs_mul];exact Nat.mul_le_mul ha ha
 have h2:(b*b).natAbs≤32768*32768:=by rw [Int.natAbs_mul];exact Nat.mul_le_mul hb hb
 have h3:(b*b*n).natAbs≤32768*32768*65535:=by rw [Int.natAbs_mul,Int.natAbs_natCast];exact Nat.mul_le_mul h2 hn
 generalize a*a=x at *
 generalize b*b*n=z at *
 generalize b*b=y at *
 omega
def Cv (a b:Int) (n:Nat) (W:World) (v:Value):Prop:=∃ l,Sv W l v∧l.Perm (T.fin (rawC a b n))
theorem Cv.next {a b:Int} {n:Nat} {W W':World} {v:Value} (h:Cv a b n W v) (g:Below W.heap.size W W'):Cv a b n W' v:=by
 obtain ⟨l,s,p⟩:=h
 exact ⟨l,s.next g,p⟩
theorem conj_make {a b:Int} {n:Nat} (ha:a.natAbs≤32768) (hb:b.natAbs≤32768) (hn:n≤65535) (W:World) (bl:Nat) (h:Blk W bl #[.string (strB a),.string ⟨#[49]⟩,.string (strB b),.string (strB n)]) (ht:Tab W) (ht2:Tab64 W) (hS:Sm W) :
  Calls Tryz.prog 27 #[.slice (some ⟨bl,0,none⟩) 2 2] W fun e W'=>∃ v,e = .returned (.tuple #[v,.int .i64 0])∧Cv a b n W' v∧Below W.heap.size W W':=by
 have tl:=Tl.lit2 (a:Rat) 1 (b:Rat) (n:Rat) (W:=W) (b:=bl) (by
  rw [sq1,←Rat.intCast_natCast,strQ_int,strQ_int,strQ_int];exact h)
 refine (Make_ok (rawC a b n) bl 2 W tl (rawC_gd ha hb hn) (fun t ht => ?_) ht ht2 hS).mono fun e W' ⟨p,n,c,r,e1,hp,hs,hb⟩=>⟨_,e1,⟨r,⟨p,n,c,rfl,hs⟩,hp⟩,hb⟩
 have ns:=rawC_ns ha hb hn t ht
 refine ⟨ns.c.bq (by decide) (by decide+kernel) (by decide+kernel),?_⟩
 obtain ⟨q,eq,lq⟩:=ns.r
 rw [eq]
 exact (bq_cast (k:=5) (Nat.lt_of_le_of_lt lq (by decide+kernel)) (by decide)).up (by decide)
theorem conj_mul {a b:Int} {n:Nat} (ha:a.natAbs≤32768) (hb:b.natAbs≤32768) (hn:n≤65535) (W:World) (u v:Value) (hu:Cv a b n W u) (hv:Cv a (-b) n W v) (ht:Tab W) (ht2:Tab64 W) (hS:Sm W) :
  Calls Tryz.prog 23 #[u,v] W fun e W'=>∃ v,e = .returned (.tuple #[v,.int .i64 0])∧Sv W' (if ((xC a b n:Int):Rat)=0 then [] else [(((xC a b n:Int):Rat),1)]) v∧Below W.heap.size W W':=by
 obtain ⟨l,⟨p,n1,c,rfl,hs⟩,hl⟩:=hu
 obtain ⟨k,⟨p',n',c',rfl,hs'⟩,hk⟩:=hv
 obtain ⟨gd,ho⟩:=conj_gd ha hb hn hl hk
 exact (Mul_ok l k p p' n1 n' c c' W hs hs' gd ht ht2 hS).mono fun e W' r=>r.only ho
theorem conj_val (x:Int) (W:World) (v:Value) (hv:Sv W (if ((x:Int):Rat)=0 then [] else [((x:Rat),1)]) v) (ht:Tab W) (ht2:Tab64 W) (hS:Sm W) :
  Calls Tryz.prog 29 #[v] W fun e W'=>e = .returned (.tuple #[.string (strB x),.bool true,.int .i64 0])∧Below W.heap.size W W':=by
 obtain ⟨p,n,c,rfl,hs⟩:=hv
 have:=Value_ok _ p n c W hs ht ht2 hS
 by_cases z:(x:Rat)=0
 ·rw [if_pos z] at this
  have x0:x=0:=by
   have:(x:Rat)=((0:Int):Rat):=by rw [z];rfl
   exact Rat.intCast_inj.1 this
  rw [x0,show strB 0=⟨#[48]⟩ from by decide+kernel];exact this
 ·rw [if_neg z] at this
  rw [←strQ_int]
  unfold vS vI at this
  simpa using this
structure C3 (w:World) (k:Nat) (x y z:Value) (W:World):Prop where
 c0:W.cell? ⟨k,0,none⟩=some x
 c1:W.cell? ⟨k+1,0,none⟩=some y
 c2:W.cell? ⟨k+1+1,0,none⟩=some z
 lt:k+1+1<W.heap.size
 below:Below w.heap.size w W
theorem C3.next {w W W':World} {k:Nat} {x y z:Value} (h:C3 w k x y z W) (b:Below W.heap.size W W'):C3 w k x y z W':=by
 have:=h.lt
 exact ⟨(b.cell (p:=⟨k,0,none⟩) (by show k<_;omega)).trans h.c0,(b.cell (p:=⟨k+1,0,none⟩) (by show k+1<_;omega)).trans h.c1,(b.cell (p:=⟨k+1+1,0,none⟩) (by show k+1+1<_;omega)).trans h.c2,Nat.lt_of_lt_of_le h.lt b.size,h.below.trans (b.mono h.below.size)⟩
theorem C3.store (w:World) (x y z f:Value) (t1 t2 t3:TypeId) (hf:f.oneCell'=true):(store ⟨w.heap.size+1+1,0,none⟩ f).run Tryz.prog (((w.alloc (.cells #[x] t1)).alloc (.cells #[y] t2)).alloc (.cells #[z] t3)) =
  .ok () ((((w.alloc (.cells #[x] t1)).alloc (.cells #[y] t2)).alloc (.cells #[z] t3)).setCell ⟨w.heap.size+1+1,0,none⟩ f):=by
 have hb:=Blk.new ((w.alloc (.cells #[x] t1)).alloc (.cells #[y] t2)) #[z] t3
 have e:((w.alloc (.cells #[x] t1)).alloc (.cells #[y] t2)).heap.size=w.heap.size+1+1:=by simp
 rw [e] at hb
 have c:=hb.cell 0 _ rfl
 have fr:=hb.free 0
 rw [run_store _ _ _ f _ hf]
 simp [c,fr]
theorem C3.start (w:World) (x y f:Value) (t1 t2 t3:TypeId):C3 w w.heap.size x y f (((w.alloc (.cells #[x] t1)).alloc (.cells #[y] t2)).alloc (.cells #[f] t3)):=by
 have hb:=Blk.new ((w.alloc (.cells #[x] t1)).alloc (.cells #[y] t2)) #[f] t3
 have h1:=(Blk.new (w.alloc (.cells #[x] t1)) #[y] t2).alloc (.cells #[f] t3)
 have h0:=((Blk.new w #[x] t1).alloc (.cells #[y] t2)).alloc (.cells #[f] t3)
 have e:((w.alloc (.cells #[x] t1)).alloc (.cells #[y] t2)).heap.size=w.heap.size+1+1:=by simp
 have e2:(w.alloc (.cells #[x] t1)).heap.size=w.heap.size+1:=by simp
 rw [e] at hb
 rw [e2] at h1
 exact ⟨h0.cell 0 _ rfl,h1.cell 0 _ rfl,hb.cell 0 _ rfl,hb.lt,((((Below.refl _ w).alloc (Nat.le_refl _) _).alloc (by simp) _).alloc (by simp;omega) _)⟩
theorem conj_main (a b:Int) (n:Nat) (w:World) (ha:a.natAbs≤32768) (hb:b.natAbs≤32768) (hn:n≤65535) (ht:Tab w) (ht2:Tab64 w) (hS:Sm w) :
  Calls Tryz.prog 9 #[.int .i16 a,.int .i16 b,.int .u16 n] w fun e W'=>e = .returned (.bool true)∧Below w.heap.size w W':=by
 have T:=Lib.hid (fun W (h:Below w.heap.size w W)=>And.intro (ht.next h) (And.intro (TabQ_next ht2 h) (hS.next h)));clear ht ht2 hS
 have b2:(-b).natAbs≤32768:=by rw [Int.natAbs_neg];exact hb
 obtain ⟨q1,q2,q3⟩:=conj_num (a:=a) (b:=b) (n:=n) ha hb hn
 have wa:IntKind.i64.wrap a=a:=wrap64 (by omega) (by omega)
 have wb:IntKind.i64.wrap b=b:=wrap64 (by omega) (by omega)
 have wb2:IntKind.i64.wrap (-b) = -b:=wrap64 (by omega) (by omega)
 have wn:IntKind.i64.wrap (n:Int)=n:=wrap64 (by omega) (by omega)
 have w1:IntKind.i64.wrap (a*a)=a*a:=wrap64 (by omega) (by omega)
 have w2:IntKind.i64.wrap (b*b)=b*b:=wrap64 (by omega) (by omega)
 have w3:IntKind.i64.wrap (b*b*n)=b*b*n:=wrap64 (by omega) (by omega)
 have w4:IntKind.i64.wrap (a*a - b*b*n)=a*a - b*b*n:=wrap64 (by omega) (by omega)
 have oM:=Lib.hid (fun W bl h t1 t2 t3=>conj_make (a:=a) (b:=b) (n:=n) ha hb hn W bl h t1 t2 t3)
 have oM2:=Lib.hid (fun W bl h t1 t2 t3=>conj_make (a:=a) (b := -b) (n:=n) ha b2 hn W bl h t1 t2 t3)
 have oX:=Lib.hid (fun W u v hu hv t1 t2 t3=>conj_mul (a:=a) (b:=b) (n:=n) ha hb hn W u v hu hv t1 t2 t3)
 have oN:=Lib.hid (fun (z:Int) W (h:(z=a∨z=b∨z=(n:Int))∨z = -b∨z=a*a - b*b*n) (hB:Below w.heap.size w W)=>num_any z W (by rcases h with (rfl | rfl | rfl) | rfl | rfl <;> omega) (by rcases h with (rfl | rfl | rfl) | rfl | rfl <;> omega) (T.out W hB).1)
 have hm4:=mxe4
 clear q1 q2 q3 ha hb hn b2
 have eg2:∀ args W,(callFunc 32 args).run Tryz.prog W = .ok (.enter 32 args) W:=enters_of Tryz.func32 (by kernel_rfl) rfl
 have eg1:∀ args W,(callFunc 31 args).run Tryz.prog W = .ok (.enter 31 args) W:=enters_of Tryz.func31 (by kernel_rfl) rfl
 have c0:=C3.start w (.int .i16 a) (.int .u16 n) (.func (.func 31) #[] #[]) 62 50 63
 have hst:=C3.store w (.int .i16 a) (.int .u16 n) .nilFunc (.func (.func 31) #[] #[]) 62 50 63 rfl
 go_enter Tryz.func9,Tryz.ntmps9
 go_wp2_with fail
 generalize ((w.alloc (.cells #[.int .i16 a] 62)).alloc (.cells #[.int .u16 n] 50)).alloc (.cells #[(.func (.func 31) #[] #[])] 63)=W0 at *
 clear hst
 have HB:=Lib.hid c0;clear c0
 refine (terms_core a (b) n (w.heap.size+1+1) w.heap.size (w.heap.size+1) strB _ wa wn ⟨HB.out.lt,by have:=HB.out.lt;omega,by have:=HB.out.lt;omega⟩ ⟨HB.out.c2,HB.out.c0,HB.out.c1⟩ (fun z W h hB=>oN.out z W (by rcases h with h | h | h <;> simp [h]) (HB.out.below.trans (hB.mono HB.out.below.size)))).mono ?_
 rintro e W ⟨bl,rfl,k0,b⟩
 have HN:=Lib.hid (HB.out.next b)
 have K:=Lib.hid k0;clear k0
 clear HB b;have HB:=HN;clear HN
 go_wp2_with fail
 refine (oM.out _ _ K.out (T.out _ HB.out.below).1 (T.out _ HB.out.below).2.1 (T.out _ HB.out.below).2.2).mono ?_
 rintro e W ⟨v1,rfl,s,b⟩
 have HN:=Lib.hid (HB.out.next b)
 have A:=Lib.hid s;clear s
 clear HB b;have HB:=HN;clear HN
 clear K
 go_wp2_with fail
 refine (terms_core a (-b) n (w.heap.size+1+1) w.heap.size (w.heap.size+1) strB _ wa wn ⟨HB.out.lt,by have:=HB.out.lt;omega,by have:=HB.out.lt;omega⟩ ⟨HB.out.c2,HB.out.c0,HB.out.c1⟩ (fun z W h hB=>oN.out z W (by rcases h with h | h | h <;> simp [h]) (HB.out.below.trans (hB.mono HB.out.below.size)))).mono ?_
 rintro e W ⟨bl,rfl,k0,b⟩
 have HN:=Lib.hid (HB.out.next b)
 have A':=Lib.hid (A.out.next b);clear A;have A:=A';clear A'
 have K:=Lib.hid k0;clear k0
 clear HB b;have HB:=HN;clear HN
 go_wp2_with fail
 refine (oM2.out _ _ K.out (T.out _ HB.out.below).1 (T.out _ HB.out.below).2.1 (T.out _ HB.out.below).2.2).mono ?_
 rintro e W ⟨v2,rfl,s,b⟩
 have HN:=Lib.hid (HB.out.next b)
 have A':=Lib.hid (A.out.next b);clear A;have A:=A';clear A'
 have B:=Lib.hid s;clear s
 clear HB b;have HB:=HN;clear HN
 clear K
 go_wp2_with fail
 refine (oX.out _ _ _ A.out B.out (T.out _ HB.out.below).1 (T.out _ HB.out.below).2.1 (T.out _ HB.out.below).2.2).mono ?_
 rintro e W ⟨v3,rfl,s,b⟩
 have HN:=Lib.hid (HB.out.next b)
 have P:=Lib.hid s;clear s
 clear HB b;have HB:=HN;clear HN
 clear A B
 go_wp2_with fail
 refine (conj_val (a*a - b*b*n) _ _ P.out (T.out _ HB.out.below).1 (T.out _ HB.out.below).2.1 (T.out _ HB.out.below).2.2).mono ?_
 rintro e W ⟨rfl,b⟩
 have HN:=Lib.hid (HB.out.next b)
 clear HB b;have HB:=HN;clear HN
 clear P oM oM2 oX
 have e0:=HB.out.c0
 have e1:=HB.out.c1
 have e2:=HB.out.c2
 go_wp2_with fail
 refine (oN.out (a*a - b*b*n) _ (by simp) HB.out.below).mono ?_
 rintro e W ⟨rfl,b⟩
 have HN:=Lib.hid (HB.out.next b)
 clear HB b;have HB:=HN;clear HN
 clear e0 e1 e2
 generalize strB (a*a - b*b*n)=sx at *
 go_wp2_with fail
 refine (awake4_any _ (T.out _ HB.out.below).1 (T.out _ HB.out.below).2.1 (T.out _ HB.out.below).2.2).mono ?_
 rintro e W ⟨rfl,b⟩
 have HN:=Lib.hid (HB.out.next b)
 clear HB b;have HB:=HN;clear HN
 go_wp2
 go_ret
 exact ⟨rfl,HB.out.below⟩
theorem SurdConjugates_any (a b n:Int) (w:World) (ha:(Lit.int .i16 a).wf=true) (hb:(Lit.int .i16 b).wf=true) (hn:(Lit.int .u16 n).wf=true) (ht:Tab w) (ht2:Tab64 w) (hS:Sm w) :
  Calls Tryz.prog 9 #[.int .i16 a,.int .i16 b,.int .u16 n] w fun e W'=>e = .returned (.bool true)∧Below w.heap.size w W':=by
 have h1 : -32768≤a∧a≤32767:=by simpa [Lit.wf,IntKind.min,IntKind.max,IntKind.signed,IntKind.bits] using ha
 have h2 : -32768≤b∧b≤32767:=by simpa [Lit.wf,IntKind.min,IntKind.max,IntKind.signed,IntKind.bits] using hb
 have h3:0≤n∧n≤65535:=by simpa [Lit.wf,IntKind.min,IntKind.max,IntKind.signed,IntKind.bits] using hn
 obtain ⟨k,rfl⟩:∃ k:Nat,n=k:=⟨n.toNat,by omega⟩
 exact conj_main a b k w (by omega) (by omega) (by omega) ht ht2 hS
end Go.Proofs.YtpkloolckbhdaaaGreatDoor.T
