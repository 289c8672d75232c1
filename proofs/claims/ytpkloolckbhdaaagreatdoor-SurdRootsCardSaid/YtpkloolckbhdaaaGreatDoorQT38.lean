/- Parts of the proof of the text YtpkloolckbhdaaaGreatDoorQT38. -/
import Derived.Test.YtpkloolckbhdaaaGreatDoorRows
import Derived.Test.YtpkloolckbhdaaaGreatDoorCards
import Derived.Test.YtpkloolckbhdaaaGreatDoorTie
import Derived.ProofKit
import Derived.LaidMore
import Derived.OpenShut
import Derived.Stop.Joined
import Derived.Stop.LaidErr
import Derived.SevenTiedAt
import Derived.Below
import Derived.RowKitTokens
import Derived.Test.YtpkloolckbhdaaaGreatDoorQT1
import Derived.Test.YtpkloolckbhdaaaGreatDoorQT16
import Derived.Test.YtpkloolckbhdaaaGreatDoorQT25
import Derived.Test.YtpkloolckbhdaaaGreatDoorQT3
import Derived.Test.YtpkloolckbhdaaaGreatDoorQT37
set_option linter.all false
set_option maxRecDepth 100000
set_option maxHeartbeats 8000000
namespace Go.Proofs.YtpkloolckbhdaaaGreatDoor.T
open Go.Proofs.YtpkloolckbhdaaaGreatDoor Go Go.RowKit
def D0:Nat:=232792560
theorem D0_dvd:∀ b,b<21→0<b→b∣D0:=by decide+kernel
def fr (n:Int) (d:Nat):Rat:=Rat.divInt n ((d:Int) % 20+1)
theorem fr_J {n:Int} (d:Nat) (h1 : -128≤n) (h2:n≤127):J D0 (128*D0) (fr n d):=by
 obtain ⟨b,hb⟩:∃ b:Nat,b=d % 20+1:=⟨_,rfl⟩
 have b0:0<b:=by omega
 have b1:b<21:=by omega
 have e:fr n d=Rat.divInt n (b:Int):=by unfold fr;congr 1;omega
 obtain ⟨k,hk⟩:=D0_dvd b b1 b0
 have kl:k≤D0:=by rw [hk];exact Nat.le_mul_of_pos_left _ b0
 refine ⟨n*k,?_,?_⟩
 ·have bz:((b:Nat):Rat)≠0:=by have:=nat_pos b0;grind
  rw [e,Rat.divInt_eq_div,Rat.intCast_natCast,hk,Rat.natCast_mul,Rat.intCast_mul,Rat.intCast_natCast,←Rat.mul_assoc,Rat.div_mul_cancel bz]
 ·rw [Int.natAbs_mul,Int.natAbs_natCast]
  exact Nat.mul_le_mul (by omega) kl
def raw3 (A C E:Int) (B D F N M:Nat):List Tm := [(fr A B,1),(fr C D,(N:Rat)),(fr E F,(M:Rat))]
structure Sp (A C E:Int) (B D F N M:Nat):Prop where
 a : -128≤A∧A≤127
 c : -128≤C∧C≤127
 e : -128≤E∧E≤127
 b:B≤255∧D≤255∧F≤255
 n:N≤255∧M≤255
theorem raw3_mem {A C E:Int} {B D F N M:Nat} {t:Tm} (h:t∈raw3 A C E B D F N M):t=(fr A B,1)∨t=(fr C D,(N:Rat))∨t=(fr E F,(M:Rat)):=by simpa [raw3] using h
theorem raw3_ns {A C E:Int} {B D F N M:Nat} (h:Sp A C E B D F N M):∀ t∈raw3 A C E B D F N M,Ns D0 (128*D0) 255 t:=fun t ht=>by
 rcases raw3_mem ht with rfl | rfl | rfl
 ·exact ⟨fr_J B h.a.1 h.a.2,1,rfl,by decide⟩
 ·exact ⟨fr_J D h.c.1 h.c.2,N,rfl,h.n.1⟩
 ·exact ⟨fr_J F h.e.1 h.e.2,M,rfl,h.n.2⟩
def cls (N M:Nat):List Rat := [1,(N:Rat),(M:Rat)]
theorem raw3_cl (A C E:Int) (B D F N M:Nat):Cl (cls N M) (raw3 A C E B D F N M):=fun t ht _=>by
 rcases raw3_mem ht with rfl | rfl | rfl
 ·exact ⟨1,by simp [cls],Rl.refl _⟩
 ·exact ⟨(N:Rat),by simp [cls],Rl.refl _⟩
 ·exact ⟨(M:Rat),by simp [cls],Rl.refl _⟩
theorem raw3_gd {A C E:Int} {B D F N M:Nat} (h:Sp A C E B D F N M):Gd (raw3 A C E B D F N M) :=
 gd_raw (k:=3) (raw3_ns h) (by decide) (by decide) (Nat.le_refl 3) (by decide) (by decide+kernel) (by decide+kernel) (by decide+kernel) (raw3_cl A C E B D F N M) (show 3≤16 by decide)
abbrev Oks (N M:Nat) (L l:List Tm):Prop:=Ok D0 (128*D0) 255 3 (cls N M) L l
theorem raw3_ok {A C E:Int} {B D F N M:Nat} (h:Sp A C E B D F N M) {r:List Tm} (hp:r.Perm (T.fin (raw3 A C E B D F N M))):Oks N M (raw3 A C E B D F N M) r :=
 Ok.fin (raw3_ns h) (Nat.le_refl 3) (fun t ht=>(raw3_ns h t ht).r) (fun _ _=>rfl) (raw3_gd h) (raw3_cl A C E B D F N M) hp
theorem wrapN (n:Nat) (h:n≤255):IntKind.i64.wrap (n:Int)=n:=by rw [IntKind.wrap_i64];omega
theorem of_ok (A C E:Int) (B D F N M:Nat) (w:World) (h:Sp A C E B D F N M) (ht:Tab w) (ht2:Tab64 w) (hS:Sm w) :
  Calls Tryz.prog 18 #[.agg #[.int .i8 A,.int .i8 C,.int .i8 E,.int .u8 B,.int .u8 D,.int .u8 F,.int .u8 N,.int .u8 M]] w fun e W'=>∃ v,e = .returned (.tuple #[v,.bool true])∧∃ l,Sv W' l v∧Oks N M (raw3 A C E B D F N M) l∧Below w.heap.size w W':=by
 have e1:((1:Nat):Rat)=1:=rfl
 refine of_core A C E B D F N M (fun a b=>strQ (Rat.divInt a (b % 20+1))) strB w (fun v W'=>∃ l,Sv W' l v∧Oks N M (raw3 A C E B D F N M) l∧Below w.heap.size w W') (wrapN N h.n.1) (wrapN M h.n.2) (fun a b W hab hW => ?_) (fun z W hz hW => ?_) (fun W b hW hb => ?_) (fun v W hQ => ?_)
 ·have a1:=h.a;have a2:=h.c;have a3:=h.e;have a4:=h.b
  rcases hab with ⟨rfl,rfl⟩ | ⟨rfl,rfl⟩ | ⟨rfl,rfl⟩ <;> exact text_any _ _ W (by omega) (by omega) (by omega) (by omega) (ht.next hW)
 ·have a5:=h.n
  rcases hz with rfl | rfl <;> exact Itoa_any _ W (by omega) (by omega) (ht.next hW)
 ·have tl:=Tl.lit3 (fr A B) 1 (fr C D) (N:Rat) (fr E F) (M:Rat) (W:=W) (b:=b) (by
   rw [sq1,←Rat.intCast_natCast,←Rat.intCast_natCast,strQ_int,strQ_int];exact hb)
  refine (Make_ok (raw3 A C E B D F N M) b 3 W tl (raw3_gd h) (fun t ht => ?_) (ht.next hW) (TabQ_next ht2 hW) (hS.next hW)).mono fun e W' ⟨p,n,c,r,e1,hp,hs,hb⟩=>⟨_,e1,hb,r,⟨p,n,c,rfl,hs⟩,raw3_ok h hp,hW.trans (hb.mono hW.size)⟩
  have ns:=raw3_ns h t ht
  refine ⟨ns.c.bq (by decide) (by decide+kernel) (by decide+kernel),?_⟩
  obtain ⟨a,ea,la⟩:=ns.r
  rw [ea]
  exact (bq_cast (k:=3) (Nat.lt_of_le_of_lt la (by decide+kernel)) (by decide)).up (by decide)
 ·obtain ⟨l,⟨p,n,c,rfl,hs⟩,ho,hb⟩:=hQ
  exact (Check_good l p n c W hs.sd (ht.next hb) (TabQ_next ht2 hb) (hS.next hb)).mono fun e W' ⟨e1,b1⟩=>⟨e1,l,⟨p,n,c,rfl,hs.next b1⟩,ho,hb.trans (b1.mono hb.size)⟩
end Go.Proofs.YtpkloolckbhdaaaGreatDoor.T
namespace Go.Proofs.YtpkloolckbhdaaaGreatDoor.T
open Go.Proofs.YtpkloolckbhdaaaGreatDoor Go Go.RowKit
def Ov (D M R Ln:Nat) (C:List Rat) (L:List Tm) (W:World) (v:Value):Prop:=∃ l,Sv W l v∧Ok D M R Ln C L l
theorem Ov.next {D M R Ln:Nat} {C:List Rat} {L:List Tm} {W W':World} {v:Value} (h:Ov D M R Ln C L W v) (g:Below W.heap.size W W'):Ov D M R Ln C L W' v:=by
 obtain ⟨l,s,o⟩:=h
 exact ⟨l,s.next g,o⟩
theorem Ok.wide {D M R Ln Ln':Nat} {C C':List Rat} {L l:List Tm} (h:Ok D M R Ln C L l) (hL:Ln≤Ln') (hC:∀ c∈C,c∈C'):Ok D M R Ln' C' L l :=
 ⟨h.raw,Nat.le_trans h.len hL,h.red,h.l16,h.rt,h.cl.sub hC,h.vl⟩
theorem Ov.wide {D M R Ln Ln':Nat} {C C':List Rat} {L:List Tm} {W:World} {v:Value} (h:Ov D M R Ln C L W v) (hL:Ln≤Ln') (hC:∀ c∈C,c∈C'):Ov D M R Ln' C' L W v:=by
 obtain ⟨l,s,o⟩:=h
 exact ⟨l,s,o.wide hL hC⟩
theorem Add_sv {D M R Ln:Nat} {C:List Rat} {L K:List Tm} (W:World) (u v:Value) (hu:Ov D M R Ln C L W u) (hv:Ov D M R Ln C K W v) (nb:Nb D M R Ln) (nf:(Ln+Ln)*(M*(R*R))<tenTo 60) (hC:C.length≤16) (ht:Tab W) (ht2:Tab64 W) (hS:Sm W) :
  Calls Tryz.prog 19 #[u,v] W fun e W'=>∃ x,e = .returned (.tuple #[x,.int .i64 0])∧Ov D M R (Ln+Ln) C (L++K) W' x∧Below W.heap.size W W':=by
 obtain ⟨l,⟨p,n,c,rfl,s⟩,o⟩:=hu
 obtain ⟨k,⟨p',n',c',rfl,s'⟩,o'⟩:=hv
 obtain ⟨gd,ho⟩:=o.add o' nb nf hC (o.cl.both o'.cl)
 exact (Add_ok l k p p' n n' c c' W s s' gd ht ht2 hS).mono fun e W' ⟨q,m,d,r,e1,hp,hs,hb⟩=>⟨_,e1,⟨r,⟨q,m,d,rfl,hs⟩,ho r hp⟩,hb⟩
theorem Sub_sv {D M R Ln:Nat} {C:List Rat} {L K:List Tm} (W:World) (u v:Value) (hu:Ov D M R Ln C L W u) (hv:Ov D M R Ln C K W v) (nb:Nb D M R Ln) (nf:(Ln+Ln)*(M*(R*R))<tenTo 60) (hC:C.length≤16) (ht:Tab W) (ht2:Tab64 W) (hS:Sm W) :
  Calls Tryz.prog 20 #[u,v] W fun e W'=>∃ x,e = .returned (.tuple #[x,.int .i64 0])∧Ov D M R (Ln+Ln) C (L++K.map (mulT (-1))) W' x∧Below W.heap.size W W':=by
 obtain ⟨l,⟨p,n,c,rfl,s⟩,o⟩:=hu
 obtain ⟨k,⟨p',n',c',rfl,s'⟩,o'⟩:=hv
 obtain ⟨gd,ho⟩:=o.add o'.neg nb nf hC (o.cl.both o'.neg.cl)
 exact (Sub_ok l k p p' n n' c c' W s s' gd ht ht2 hS).mono fun e W' ⟨q,m,d,r,e1,hp,hs,hb⟩=>⟨_,e1,⟨r,⟨q,m,d,rfl,hs⟩,ho r hp⟩,hb⟩
theorem Sub_self {D M R Ln:Nat} {C:List Rat} {L:List Tm} (W:World) (u:Value) (hu:Ov D M R Ln C L W u) (nb:Nb D M R Ln) (nf:(Ln+Ln)*(M*(R*R))<tenTo 60) (hC:C.length≤16) (ht:Tab W) (ht2:Tab64 W) (hS:Sm W) :
  Calls Tryz.prog 20 #[u,u] W fun e W'=>∃ p c,e = .returned (.tuple #[.slice p 0 c,.int .i64 0])∧Below W.heap.size W W':=by
 obtain ⟨l,⟨p,n,c,rfl,s⟩,o⟩:=hu
 obtain ⟨gd,_⟩:=o.add o.neg nb nf hC (o.cl.both o.neg.cl)
 refine (Sub_ok l l p p n n c c W s s gd ht ht2 hS).mono fun e W' ⟨q,m,d,r,e1,hp,hs,hb⟩ => ?_
 have nn:∀ t∈l,0≤t.2:=fun t ht=>Rat.le_of_lt (o.red.1 t ht)
 rw [diff_nil nn nn fun _ _=>rfl] at hp
 have e0:=hs.sr.1
 rw [hp.eq_nil] at e0
 obtain rfl:m=0:=e0
 exact ⟨q,d,e1,hb⟩
theorem Equal_sv {D M R Ln:Nat} {C:List Rat} {L K:List Tm} (W:World) (u v:Value) (hu:Ov D M R Ln C L W u) (hv:Ov D M R Ln C K W v) (he:∀ m,0<m→T.vl m L=T.vl m K) (nb:Nb D M R Ln) (nf:(Ln+Ln)*(M*(R*R))<tenTo 60) (hC:C.length≤16) (ht:Tab W) (ht2:Tab64 W) (hS:Sm W) :
  Calls Tryz.prog 21 #[u,v] W fun e W'=>e = .returned (.bool true)∧Below W.heap.size W W':=by
 obtain ⟨l,⟨p,n,c,rfl,s⟩,o⟩:=hu
 obtain ⟨k,⟨p',n',c',rfl,s'⟩,o'⟩:=hv
 obtain ⟨gd,_⟩:=o.add o'.neg nb nf hC (o.cl.both o'.neg.cl)
 exact equal_ok l k p p' n n' c c' W s s' gd (fun m hm=>by rw [o.vl m hm,o'.vl m hm,he m hm]) ht ht2 hS
theorem row_zero {m:Rat} (hm:0<m) (c:Rat):∀ k:List Tm,T.vl m (k.map fun s=>(c*s.1,0*s.2))=0
 | []=>rfl
 | s::k=>by
  show co m (c*s.1,0*s.2)+_=0
  rw [row_zero hm c k,Rat.zero_mul,co_null hm];grind
theorem pr_right' {m:Rat} (hm:0<m) {k k':List Tm} (hk:∀ s∈k,0≤s.2) (hk':∀ s∈k',0≤s.2) (e:∀ x,0<x→T.vl x k=T.vl x k') :
  ∀ {l:List Tm},(∀ s∈l,0≤s.2)→pr m k l=pr m k' l
 | [],_=>rfl
 | t::l,h=>by
  show _+pr m k l=_+pr m k' l
  rw [pr_right' hm hk hk' e fun x hx=>h x (List.mem_cons_of_mem _ hx)]
  have ht:=h t List.mem_cons_self
  by_cases z:t.2=0
  ·rw [z,row_zero hm,row_zero hm]
  ·have tp:0<t.2:=Rat.lt_of_le_of_ne ht fun x=>z x.symm
   rw [row_eq hm t tp hk,row_eq hm t tp hk',e _ (Rat.mul_pos hm tp)]
theorem prods_vl {m:Rat} (hm:0<m) {l k L K:List Tm} (h1:∀ s∈l,0≤s.2) (h2:∀ s∈k,0≤s.2) (h3:∀ s∈L,0≤s.2) (h4:∀ s∈K,0≤s.2) (e:∀ x,0<x→T.vl x l=T.vl x L) (e':∀ x,0<x→T.vl x k=T.vl x K):T.vl m (prods l k)=T.vl m (prods L K):=by
 rw [vl_prods,vl_prods,pr_right' hm h2 h4 e' h1,pr_comm,pr_right' hm h1 h3 e h4,pr_comm]
theorem Mul_sv {D M R Ln:Nat} {C C' C2:List Rat} {L K:List Tm} (W:World) (u v:Value) (hu:Ov D M R Ln C L W u) (hv:Ov D M R Ln C' K W v) (hR4:R<10000) (hD:0<D) (hR1:0<R)
  (h1:256*(Ln*(M*R)*(Ln*(M*R))*(R*R*(R*R)))<tenTo 60) (h2:D*D*(R*R)<tenTo 60) (hC:C2.length≤16) (hs:∀ c∈prC C C',c∈C2) (ht:Tab W) (ht2:Tab64 W) (hS:Sm W) :
  Calls Tryz.prog 23 #[u,v] W fun e W'=>∃ x,e = .returned (.tuple #[x,.int .i64 0])∧Ov (D*D) (M*M) (R*R) (Ln*Ln) C2 (prods L K) W' x∧Below W.heap.size W W':=by
 obtain ⟨l,⟨p,n,c,rfl,s⟩,o⟩:=hu
 obtain ⟨k,⟨p',n',c',rfl,s'⟩,o'⟩:=hv
 have rr:R*R<tenTo 20:=Nat.lt_of_lt_of_le (Nat.mul_lt_mul'' hR4 hR4) (by decide+kernel)
 obtain ⟨gd,ho⟩:=gd_prods (fun t=>o.small hR4) (fun t=>o'.small hR4) o.l16 o'.l16 o.cl o'.cl (Nat.mul_pos hD hD) (Nat.mul_pos hR1 hR1) rr h1 h2 hC hs
 refine (Mul_ok l k p p' n n' c c' W s s' gd ht ht2 hS).mono fun e W' ⟨q,m,d,r,e1,hp,hs,hb⟩=>⟨_,e1,⟨r,⟨q,m,d,rfl,hs⟩,?_⟩,hb⟩
 have w:=ho r hp
 have nn:∀ {l:List Tm},Red l→∀ t∈l,0≤t.2:=fun h t ht=>Rat.le_of_lt (h.1 t ht)
 refine ⟨fun x hx => ?_,?_,w.red,w.l16,w.rt,w.cl,fun m hm => ?_⟩
 ·obtain ⟨t,ht,s,hs,rfl⟩:=prods_mem hx
  obtain ⟨a,e,la⟩:=(o.raw t ht).r
  obtain ⟨b,e',lb⟩:=(o'.raw s hs).r
  exact ⟨(o.raw t ht).c.mul (o'.raw s hs).c,a*b,by show t.2*s.2=_;rw [e,e',Rat.natCast_mul],Nat.mul_le_mul la lb⟩
 ·rw [prods_len];exact Nat.mul_le_mul o.len o'.len
 ·rw [w.vl m hm,prods_vl hm (nn o.red) (nn o'.red) (fun t ht=>(o.raw t ht).nn) (fun t ht=>(o'.raw t ht).nn) o.vl o'.vl]
theorem prods_comm (m:Rat) (L K:List Tm):T.vl m (prods L K)=T.vl m (prods K L):=by rw [vl_prods,vl_prods,pr_comm]
theorem prods_dist (m:Rat) (A B C:List Tm):T.vl m (prods A (B++C))=T.vl m (prods A B++prods A C):=by
 rw [vl_append,vl_prods,vl_prods,vl_prods,pr_comm,pr_append,pr_comm,pr_comm (l:=C)]
def M0:Nat:=128*D0
theorem nb3:Nb D0 M0 255 3:=⟨by decide,by decide,by decide+kernel,by decide+kernel,by decide+kernel,by decide+kernel⟩
theorem nb6:Nb D0 M0 255 6:=⟨by decide,by decide,by decide+kernel,by decide+kernel,by decide+kernel,by decide+kernel⟩
theorem nb12:Nb D0 M0 255 12:=⟨by decide,by decide,by decide+kernel,by decide+kernel,by decide+kernel,by decide+kernel⟩
theorem nb36:Nb (D0*D0) (M0*M0) (255*255) 36:=⟨by decide+kernel,by decide,by decide+kernel,by decide+kernel,by decide+kernel,by decide+kernel⟩
theorem nb72:Nb (D0*D0) (M0*M0) (255*255) 72:=⟨by decide+kernel,by decide,by decide+kernel,by decide+kernel,by decide+kernel,by decide+kernel⟩
theorem of_sv (A C E:Int) (B D F N M:Nat) (w:World) (h:Sp A C E B D F N M) (ht:Tab w) (ht2:Tab64 w) (hS:Sm w) :
  Calls Tryz.prog 18 #[.agg #[.int .i8 A,.int .i8 C,.int .i8 E,.int .u8 B,.int .u8 D,.int .u8 F,.int .u8 N,.int .u8 M]] w fun e W'=>∃ v,e = .returned (.tuple #[v,.bool true])∧Ov D0 M0 255 3 (cls N M) (raw3 A C E B D F N M) W' v∧Below w.heap.size w W' :=
 (of_ok A C E B D F N M w h ht ht2 hS).mono fun e W' ⟨v,e1,l,s,o,b⟩=>⟨v,e1,⟨l,s,o⟩,b⟩
end Go.Proofs.YtpkloolckbhdaaaGreatDoor.T
namespace Go.Proofs.YtpkloolckbhdaaaGreatDoor
open Go.ChangeShapes Go.WideShapes Go.ChangeAt Go.RowKit
theorem own:ownKnob Tryz.prog.godebug=none:=by kernel_rfl
theorem gTab64:Tryz.prog.globalNamed "math/bits.deBruijn64tab" = some 1:=by kernel_rfl
theorem laid64_tab:(Rows.laid_math_bits_deBruijn64tab:DataW Unit)=Lib.tabData .u8 (Lib.deBruijn64tab.map fun n:Nat=>(n:Int)):=rfl
theorem tab64_of {W:World} (h:Lib.TabIs Tryz.prog W "math/bits.deBruijn64tab" .u8 (Lib.deBruijn64tab.map fun n:Nat=>(n:Int))):Tab64 W:=by
 intro j hj
 unfold Lib.TabIs World.var? at h
 rw [gTab64] at h
 unfold World.cell?
 cases hh:W.heap[1]? with
 | none=>simp [hh] at h
 | some o =>
  cases o with
  | cells cs t f =>
   have h1:some cs=some ((Lib.deBruijn64tab.map fun n:Nat=>(n:Int)).map fun z=>Value.int .u8 z).toArray:=by
    rw [←h];simp only [Option.bind_some,hh]
   have h2:=Option.some.inj h1
   subst h2
   have hj':j<64:=hj
   simp only [List.map_map,List.getElem?_toArray,List.getElem?_map]
   rw [List.getD_eq_getElem?_getD,List.getElem?_eq_getElem hj]
   rfl
  | _=>simp [hh] at h
section
variable {H:Type} {enc:TypeId × Value→H} {P:Program} {w:World} {base:Nat} {spare:Nat→Bool} {held:Bool}
end
def laid6:List (String × DataW Unit) := [("math/bits.deBruijn32tab", Rows.laid_math_bits_deBruijn32tab),("math/bits.deBruijn64tab", Rows.laid_math_bits_deBruijn64tab),("internal/strconv.uint64pow10", Rows.laid_internal_strconv_uint64pow10),("strconv.ErrRange", Rows.laid_strconv_ErrRange),("strconv.ErrSyntax", Rows.laid_strconv_ErrSyntax),("kingpost/root.small", Rows.laid_kingpost_root_small)]
theorem door_met6 (os:Os) (args:Array Value):laidMetH Tryz.prog laid6 ((World.doorLaid Tryz.prog 400 os).forCall (fun _ _=>0) ⟨#[],args,[]⟩).memory :=
 laidMetH_of_parts3 (fuel:=8) (laidMet_of_run' 8 (by kernel_rfl) (by kernel_rfl)) (by kernel_rfl) (by kernel_rfl)
theorem plain6 {W:World} (h:laidMetH Tryz.prog laid6 W):laidMet Tryz.prog laid6 W:=by
 rwa [MakeChecks.laidMetH_plain _ _ _ (by kernel_rfl)] at h
theorem tab_of_laid6 {W:World} (h:laidMetH Tryz.prog laid6 W):Tab W:=by
 have h2:laidMet Tryz.prog (("internal/strconv.uint64pow10", Lib.tabData .u64 Lib.pow10Tab) :: [("strconv.ErrRange", Rows.laid_strconv_ErrRange),("strconv.ErrSyntax", Rows.laid_strconv_ErrSyntax),("kingpost/root.small", Rows.laid_kingpost_root_small)]) W:=laidMet.tail (laidMet.tail (plain6 h))
 exact Lib.tabIs_of_head gTab (t:=244) (e:=176) (n:=20) (by kernel_rfl) (by kernel_rfl) (by kernel_rfl) (by kernel_rfl) (by kernel_rfl) h2
theorem tab64_of_laid6 {W:World} (h:laidMetH Tryz.prog laid6 W):Tab64 W:=by
 have h2:=laidMet.tail (plain6 h)
 rw [laid64_tab] at h2
 exact tab64_of (Lib.tabIs_of_head gTab64 (t:=247) (e:=5) (n:=64) (by kernel_rfl) (by kernel_rfl) (by kernel_rfl) (by kernel_rfl) (by kernel_rfl) h2)
theorem gSmall:Tryz.prog.globalNamed "kingpost/root.small" = some 2:=by kernel_rfl
theorem laid_small:(Rows.laid_kingpost_root_small:DataW Unit)=Lib.tabData .u64 (T.primes.map fun n:Nat=>(n:Int)):=rfl
theorem sm_of {W:World} (h:Lib.TabIs Tryz.prog W "kingpost/root.small" .u64 (T.primes.map fun n:Nat=>(n:Int))):T.Sm W:=by
 unfold Lib.TabIs World.var? at h
 rw [gSmall] at h
 cases hh:W.heap[2]? with
 | none=>simp [hh] at h
 | some o =>
  cases o with
  | cells cs t f =>
   have h1:some cs=some ((T.primes.map fun n:Nat=>(n:Int)).map fun z=>Value.int .u64 z).toArray:=by
    rw [←h];simp only [Option.bind_some,hh]
   have h2:=Option.some.inj h1
   subst h2
   exact ⟨t,f,hh⟩
  | _=>simp [hh] at h
theorem sm_of_laid6 {W:World} (h:laidMetH Tryz.prog laid6 W):T.Sm W:=by
 have h2:=laidMet.tail (laidMet.tail (laidMet.tail (laidMet.tail (laidMet.tail (plain6 h)))))
 rw [laid_small] at h2
 exact sm_of (Lib.tabIs_of_head gSmall (t:=253) (e:=176) (n:=25) (by kernel_rfl) (by kernel_rfl) (by kernel_rfl) (by kernel_rfl) (by kernel_rfl) h2)
end Go.Proofs.YtpkloolckbhdaaaGreatDoor
