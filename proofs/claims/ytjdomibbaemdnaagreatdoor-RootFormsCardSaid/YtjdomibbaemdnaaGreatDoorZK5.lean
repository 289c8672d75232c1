/- Parts of the proof of the text YtjdomibbaemdnaaGreatDoorZK42. -/
import Derived.Deep.RegionHeld3
import Derived.Test.YtjdomibbaemdnaaGreatDoorZK1
import Derived.Test.YtjdomibbaemdnaaGreatDoorZK4
set_option linter.all false
set_option maxRecDepth 100000
set_option maxHeartbeats 8000000
namespace Go.Proofs.YtjdomibbaemdnaaGreatDoor
section
open Go.RowKit Go.Shelf
theorem jy (x y c:Nat) (w:World) (hx:x<1000000000) (hy:y<1000000000) (hc:c≤1) :
  Calls Tryz.prog 234 #[.int .u64 x,.int .u64 y,.int .u64 c] w fun e w'=>e = .returned (.tuple #[.int .u64 ((ec x y c).1:Nat),.int .u64 ((ec x y c).2:Nat)])∧w=w':=by
 have e1:=Ha (fun h:1000000000≤x+y+c=>show ec x y c=(x+y+c - 1000000000,1) by unfold ec;rw [if_pos h])
 have e2:=Ha (fun h:¬ 1000000000≤x+y+c=>show ec x y c=(x+y+c,0) by unfold ec;rw [if_neg h])
 generalize ec x y c=r at *
 obtain ⟨x',hx'⟩:∃ z:Int,(x:Int)=z:=⟨_,rfl⟩
 obtain ⟨y',hy'⟩:∃ z:Int,(y:Int)=z:=⟨_,rfl⟩
 obtain ⟨c',hc'⟩:∃ z:Int,(c:Int)=z:=⟨_,rfl⟩
 have b1:0≤x':=by omega
 have b2:x'≤999999999:=by omega
 have b3:0≤y':=by omega
 have b4:y'≤999999999:=by omega
 have b5:0≤c':=by omega
 have b6:c'≤1:=by omega
 rw [hx',hy',hc']
 have HX:=Ha (Hb hx' (Hb hy' hc'));clear hx' hy' hc' hx hy hc
 go_enter Tryz.func234,Tryz.ntmps234
 go_wp2
 ·have h:(1000000000:Int)≤x'+y'+c':=by assumption
  obtain ⟨g1,g2,g3⟩:=HX.out
  rw [e1.out (by omega)]
  go_returns
  exact ⟨il (by omega) (by rfl),rfl⟩
 ·have h:x'+y'+c'<1000000000:=by assumption
  obtain ⟨g1,g2,g3⟩:=HX.out
  rw [e2.out (by omega)]
  go_returns
  exact ⟨il (by omega) (by rfl),rfl⟩
theorem ow (x y c:Nat) (w:World) (hx:x<1000000000) (hy:y<1000000000) (hc:c≤1) :
  Calls Tryz.prog 238 #[.int .u64 x,.int .u64 y,.int .u64 c] w fun e w'=>e = .returned (.tuple #[.int .u64 ((gn x y c).1:Nat),.int .u64 ((gn x y c).2:Nat)])∧w=w':=by
 by_cases h:x<y+c
 ·have e:gn x y c=(x+1000000000 - y - c,1):=by unfold gn;rw [if_pos h]
  rw [e]
  clear e
  have h':(x:Int)<(y:Int)+c:=by omega
  clear h
  go_enter Tryz.func238,Tryz.ntmps238
  go_wp2
  go_returns
  exact ⟨il (by omega) (by rfl),rfl⟩
 ·have e:gn x y c=(x - y - c,0):=by unfold gn;rw [if_neg h]
  rw [e]
  clear e
  have h':(y:Int)+c≤(x:Int):=by omega
  clear h
  go_enter Tryz.func238,Tryz.ntmps238
  go_wp2
  go_returns
  exact ⟨il (by omega) (by rfl),rfl⟩
attribute [local go_sem] Oper.semAt_some
def KpP (Bb:Nat) (va vb:Value) (la lb:List Nat) (W W':World):Prop :=
 (W.cell? ⟨Bb,0,none⟩=some vb→W'.cell? ⟨Bb,0,none⟩=some vb)∧(Nats W va la→Nats W' va la)∧(Nats W vb lb→Nats W' vb lb)
theorem KpP.t {Bb:Nat} {va vb:Value} {la lb:List Nat} {A B C:World} (h:KpP Bb va vb la lb A B) (k:KpP Bb va vb la lb B C):KpP Bb va vb la lb A C :=
 ⟨fun x=>k.1 (h.1 x),fun x=>k.2.1 (h.2.1 x),fun x=>k.2.2 (h.2.2 x)⟩
theorem KpP.b {Bb:Nat} {va vb:Value} {la lb:List Nat} {w:World} (W:World) (l:Nat) (o o':Obj) (_:w.heap.size≤l) (h:W.heap[l]? = some o) (hc:o.isCells=false) (_:o.isWalk=false):KpP Bb va vb la lb W (W.putObj l o') :=
 ⟨fun hx=>iN hx h hc,fun hx=>hx.putObj h hc,fun hx=>hx.putObj h hc⟩
theorem te (la lb:List Nat) {k m:Nat} (h:k<m):prs la lb (k+1) <+: prs la lb m:=by
 have:prs la lb (k+1)=(prs la lb m).take (k+1):=by unfold prs;rw [←List.map_take,List.take_range,Nat.min_eq_left (by omega)]
 rw [this];exact List.take_prefix _ _
def zi (x:Dg × Dg):Array Value := #[.int .u64 (x.1.1:Nat),.int .u64 (x.2.1:Nat)]
theorem vy (n:Nat) (hn:1≤n) (l Ba Bb:Nat) (va vb:Value) (la lb:List Nat) (da:Dig la) (db:Dig lb) (hla:la.length≤1000000) (J Jx:List (Dg × Dg)→World→Prop)
  (hY:∀ pre x W,J pre W→pre.length<la.length→YieldAt Fence.wide (n - 1) Tryz.prog l (zi x) W fun e W' =>
   (e = .returned (.bool true)∧J (pre ++ [x]) W'∧KpP Bb va vb la lb W W')∨(e = .returned (.bool false)∧Jx (pre ++ [x]) W'))
  (W:World) (hBa:W.cell? ⟨Ba,0,none⟩=some va) (hBb:W.cell? ⟨Bb,0,none⟩=some vb) (ha:Nats W va la) (hb:Nats W vb lb) (h0:J [] W) :
  CallsIn Fence.wide n Tryz.prog 252 #[.func (.yield l) #[] #[],.pointer (some ⟨Ba,0,none⟩),.pointer (some ⟨Bb,0,none⟩)] W fun e W'=>(∃ v,e = .returned v) ∧
   ((∃ ys,ys=prs la lb la.length∧J ys W')∨(∃ pre,pre <+: prs la lb la.length∧Jx pre W')):=by
 have HY:=Ha hY;clear hY
 have HD:=Ha (Hb da db);clear da db
 have HA:=Ha ha
 obtain ⟨pa,ca,rfl,ha1,ha2,ha3⟩:=ha
 clear ha3
 refine callsIn_of_wp Tryz.func252 rfl trivial ?_ rfl
 simp only [Tryz.ntmps252,List.size_toArray,List.length_cons,List.length_nil,Nat.reduceAdd,Nat.reduceSub,Array.replicate_succ,Array.replicate_zero,List.push_toArray,List.append_toArray,List.nil_append,List.cons_append]
 gi_wp2
 gi_loopw [8] (fun p wr=>∃ k:Nat,p = .int .i64 k∧k≤la.length∧Hid (J (prs la lb k) wr)∧wr.cell? ⟨Bb,0,none⟩=some vb∧Hid (Nats wr (.slice pa la.length ca) la)∧Hid (Nats wr vb lb))
  (fun p _=>la.length - (intOf p).toNat)
 case atStart=>exact ⟨0,rfl,Nat.zero_le _,h0,hBb,HA.out,hb⟩
 case round =>
  clear h0 hBa hBb HA hb
  obtain ⟨k,rfl,hk,hJs,hcb,hna,hnb⟩:=hrel
  by_cases hlt:k<la.length
  ·obtain ⟨p',c',e',_,_,h3⟩:=hna.out
   simp only [Value.slice.injEq,true_and] at e'
   obtain ⟨rfl,rfl⟩:=e'
   obtain ⟨b,off,rfl,hc⟩:=h3 (by intro e;subst e;simp at hlt)
   have hca:=hc k hlt
   clear hc h3
   have cat:=pM vb lb k wr hnb.out (by omega) (by omega)
   rw [Int.toNat_natCast] at cat
   have hY2:=HY.out (prs la lb k) (mkD (la.getD k 0),mkD (lb.getD k 0)) wr hJs.out (by rw [dI];exact hlt)
   rw [←nB] at hY2
   obtain ⟨fn,tmps,assign,body,hy,hR⟩:=hY2
   simp only [zi,jl (HD.out.1.getD k),jl (HD.out.2.getD k)] at hy
   obtain ⟨x,hx⟩:∃ x,la.getD k 0=x:=⟨_,rfl⟩
   obtain ⟨y,hyy⟩:∃ y,lb.getD k 0=y:=⟨_,rfl⟩
   rw [hx] at hca hy
   rw [hyy] at cat hy
   have C:=Ha cat
   have HR:=Ha hR
   have HJ:=Ha (Hb hna (Hb hnb hcb))
   clear cat hR hx hyy hJs
   gi_wp2_with fail
   refine ⟨trivial,?_⟩
   refine (callsIn_wide.2 C.out).mono ?_
   rintro e' w' ⟨rfl,rfl⟩
   clear C
   gi_wp2
   refine HR.out.mono ?_
   clear HR
   rintro e' W3 (⟨rfl,hJ3,hk3⟩ | ⟨rfl,hJx3⟩)
   ·have H3:Hid (J (prs la lb (k+1)) W3):=hJ3
    obtain ⟨q1,q2,q3⟩:=hk3
    have hcb3:=q1 hcb
    have hna3:Hid (Nats W3 (.slice (some ⟨b,off,none⟩) la.length ca) la):=q2 hna.out
    have hnb3:Hid (Nats W3 vb lb):=q3 hnb.out
    clear q1 q2 q3 hJ3 HJ
    gi_wp2
    go_roundw
    case rel=>exact ⟨k+1,by go_num,by omega,H3,hcb3,hna3,hnb3⟩
    case measure=>simp [intOf];omega
   ·have H3:Hid (Jx (prs la lb (k+1)) W3):=hJx3
    clear hJx3
    gi_wp2
    refine bodyPost_ret (results_none rfl _ _ _) rfl ?_
    refine ⟨⟨_,rfl⟩,.inr ⟨prs la lb (k+1),?_,H3.out⟩⟩
    exact te la lb hlt
  ·have ek:k=la.length:=by omega
   have hJ2:Hid (J (prs la lb la.length) wr):=by rw [←ek];exact hJs
   clear ek hJs
   gi_wp2
   go_end0
   exact ⟨⟨_,rfl⟩,.inl ⟨_,rfl,hJ2.out⟩⟩
theorem rJ (n:Nat) (hn:1≤n) (Ba Bb:Nat) (va vb:Value) (la lb:List Nat) (da:Dig la) (db:Dig lb) (hla:la.length≤1000000) (w:World) (hBa:Ba<w.heap.size) (hBb:Bb<w.heap.size)
  (ca:w.cell? ⟨Ba,0,none⟩=some va) (cb:w.cell? ⟨Bb,0,none⟩=some vb) (ha:Nats w va la) (hb:Nats w vb lb) :
  SeqStopsK Fence.wide n Tryz.prog 252 #[.pointer (some ⟨Ba,0,none⟩),.pointer (some ⟨Bb,0,none⟩)] zi (KpP Bb va vb la lb) (fun ys=>ys=prs la lb la.length) (fun pre=>pre <+: prs la lb la.length) la.length w:=fun l J Jx W hW _ _ hY h0 =>
 vy n hn l Ba Bb va vb la lb da db hla J Jx hY W ((hW.cell (p:=⟨Ba,0,none⟩) hBa).trans ca) ((hW.cell (p:=⟨Bb,0,none⟩) hBb).trans cb) (ha.next hW) (hb.next hW) h0
theorem vz (pa pb:Option Addr) (na ca nb cb:Nat) (w:World) :
  Calls Tryz.prog 245 #[.slice pa na ca,.slice pb nb cb] w fun e w'=>e = .returned (.func (.func 252) #[] #[.pointer (some ⟨w.heap.size,0,none⟩),.pointer (some ⟨w.heap.size+1,0,none⟩)])∧w'=(w.alloc (.cells #[.slice pa na ca] 182)).alloc (.cells #[.slice pb nb cb] 182):=by
 go_enter Tryz.func245,Tryz.ntmps245
 go_wp2
 go_ret
 exact ⟨rfl,rfl⟩
def tf (f:FuncId) (st:Nat→Nat→Nat→Nat × Nat):Prop:=∀ (x y c:Nat) (W:World),x<1000000000→y<1000000000→c≤1 →
 Calls Tryz.prog f #[.int .u64 x,.int .u64 y,.int .u64 c] W fun e w'=>e = .returned (.tuple #[.int .u64 ((st x y c).1:Nat),.int .u64 ((st x y c).2:Nat)])∧W=w'
theorem rK {β:Type} (n₀:Nat) (e:TypeId) (size:Nat) (v:β→Value) (k:β→Nat) (f:β→List Value):Own (fun s W=>W.ownsRow n₀ e size (v s) (k s) (f s)):=by
 rintro s X Y row hr hg hrow
 refine hr.kept hg ?_
 rcases hr.2 with ⟨h,_⟩ | ⟨g,cap,cur,h,_,hgb,_⟩
 ·exact .inl (by rw [h];rfl)
 ·refine .inr fun e' => ?_
  obtain ⟨o,ho,hc⟩:=hrow g (by rw [h] at e';simpa [Value.ownBlock] using e'.symm)
  rw [hgb] at ho;cases ho;cases hc
structure Comb (w:World) (K M cap:Nat) (fv:Value) (vb:Value) (st:Nat→Nat→Nat→Nat × Nat) (pre:List (Dg × Dg)) (W:World):Prop where
 step:Boxed W K 259 fv
 out:Boxed W M 182 (.slice (some ⟨K+1,0,none⟩) pre.length cap)
 row:W.ownsRow (K+1) 143 1 (.slice (some ⟨K+1,0,none⟩) pre.length cap) pre.length (ag (bi st pre).1)
 carry:Boxed W (M+1) 143 (.int .u64 ((bi st pre).2:Nat))
 box:Boxed W (M+1+1+1) 182 vb
 below:Below K w W
theorem xw (w:World) (K M cap:Nat) (fv vb:Value) (st:Nat→Nat→Nat→Nat × Nat) (B:Nat) (hK:K≤w.heap.size) (hB:K≤B):OwnFrom B (fun pre W=>Comb w K M cap fv vb st pre W):=by
 intro pre W W' row h hg hr
 have hr':∀ r,row=some r→∃ o:Obj,W.heap[r]? = some o∧o.isCells=false:=fun r e=>(hr r e).2
 exact ⟨boxed_own K _ (fun _=>fv) pre W W' row h.step hg hr',boxed_own M _ (fun (p:List (Dg × Dg)) => .slice (some ⟨K+1,0,none⟩) p.length cap) pre W W' row h.out hg hr',
  rK (K+1) _ 1 (fun (p:List (Dg × Dg)) => .slice (some ⟨K+1,0,none⟩) p.length cap) (fun p=>p.length) (fun p=>ag (bi st p).1) pre W W' row h.row hg hr',
  boxed_own (M+1) _ (fun p => .int .u64 ((bi st p).2:Nat)) pre W W' row h.carry hg hr',boxed_own (M+1+1+1) _ (fun _=>vb) pre W W' row h.box hg hr',
  ownFrom_below hK hB pre W W' row h.below hg hr⟩
theorem vA {w:World} {K M cap:Nat} {fv vb:Value} {st:Nat→Nat→Nat→Nat × Nat} {pre:List (Dg × Dg)} {W w2:World} {tmp:Obj} (x:Dg × Dg) (h:Comb w K M cap fv vb st pre W) (hKM:K+1<M) (hK:K≤w.heap.size)
  (hown:w2.ownsRow (K+1) 143 1 (.slice (some ⟨K+1,0,none⟩) (pre.length+1) cap) (pre.length+1) (ag (bi st pre).1 ++ [.int .u64 ((st x.1.1 x.2.1 (bi st pre).2).1:Nat)]))
  (hg:(W.alloc tmp).grownBy w2 (some (K+1))) :
  Boxed w2 M 182 (.slice (some ⟨K+1,0,none⟩) pre.length cap) ∧
  Boxed (w2.setCell ⟨M,0,none⟩ (.slice (some ⟨K+1,0,none⟩) (pre.length+1) cap)) (M+1) 143 (.int .u64 ((bi st pre).2:Nat)) ∧
  KeepsOthers W ((w2.setCell ⟨M,0,none⟩ (.slice (some ⟨K+1,0,none⟩) (pre.length+1) cap)).setCell ⟨M+1,0,none⟩ (.int .u64 ((st x.1.1 x.2.1 (bi st pre).2).2:Nat))) ∧
  Comb w K M cap fv vb st (pre ++ [x]) ((w2.setCell ⟨M,0,none⟩ (.slice (some ⟨K+1,0,none⟩) (pre.length+1) cap)).setCell ⟨M+1,0,none⟩ (.int .u64 ((st x.1.1 x.2.1 (bi st pre).2).2:Nat))):=by
 have o2:=(h.out.alloc tmp).kept hg (by simp;omega)
 have c2:=(h.carry.alloc tmp).kept hg (by simp;omega)
 have s2:=(h.step.alloc tmp).kept hg (by simp)
 have b2:=(h.box.alloc tmp).kept hg (by simp;omega)
 have hb2:Below K w w2:=(h.below.alloc (Nat.le_trans hK h.below.size) tmp).grown hg (by have:=h.below.size;simp;omega) (fun k e=>by cases e;omega)
 have c3:=c2.other (B':=M) (by omega) (.slice (some ⟨K+1,0,none⟩) (pre.length+1) cap)
 refine ⟨o2,c3,?_,?_⟩
 ·refine (((KeepsOthers.alloc W tmp).trans (KeepsOthers.of_grownBy hg fun j o ej hj => ?_)).trans (KeepsOthers.setCell _ _ _)).trans (KeepsOthers.setCell _ _ _)
  cases ej
  rcases (h.row.alloc tmp).2 with ⟨h1,_⟩ | ⟨g,cap',cur,h1,_,hgb,_⟩
  ·cases h1
  ·simp only [Value.slice.injEq,Option.some.injEq,Addr.mk.injEq,true_and,and_true] at h1
   obtain ⟨rfl,_⟩:=h1
   rw [hgb] at hj;cases hj;rfl
 ·refine ⟨(s2.other (B':=M) (by omega) _).other (B':=M+1) (by omega) _,?_,?_,?_,(b2.other (B':=M) (by omega) _).other (B':=M+1) (by omega) _,?_⟩
  ·rw [List.length_append,List.length_singleton]
   exact (o2.set _).other (B':=M+1) (by omega) _
  ·rw [d9,List.length_append,List.length_singleton,←bh]
   refine (hown.kept (grownBy_setCell' w2 M _) (.inr ?_)).kept (grownBy_setCell' _ (M+1) _) (.inr ?_)
   ·simp [Value.ownBlock];omega
   ·simp [Value.ownBlock];omega
  ·rw [d9]
   exact c3.set _
  ·exact (hb2.setCell (p:=⟨M,0,none⟩) (by show K≤M;omega) _).setCell (p:=⟨M+1,0,none⟩) (by show K≤M+1;omega) _
theorem iP (f:FuncId) (st:Nat→Nat→Nat→Nat × Nat) (hst:tf f st) (hok:pZ st) (hen:∀ args W,(callFunc f args).run Tryz.prog W = .ok (.enter f args) W)
  (pa pb:Option Addr) (ca cb:Nat) (la lb:List Nat) (w:World) (ha:Nats w (.slice pa la.length ca) la) (hb:Nats w (.slice pb lb.length cb) lb) (da:Dig la) (db:Dig lb) (hla:la.length≤1000000) :
  Calls Tryz.prog 233 #[.slice pa la.length ca,.slice pb lb.length cb,.func (.func f) #[] #[]] w fun e W'=>∃ v,e = .returned v∧IsNat W' v (toN ((bi st (prs la lb la.length)).1 ++ [(bi st (prs la lb la.length)).2]))∧Fresh w.heap.size v∧Below w.heap.size w W':=by
 refine (callsIn_wide (n:=9)).1 ?_
 have HST:=Ha (Hb hst hok);clear hst hok
 have HAB:=Ha (Hb ha (Hb hb (Hb da db)));clear ha hb da db
 obtain ⟨i0,hi,hz0,hz1,hz2⟩:=info_parts di
 have HI:=Ha (Hb hi (Hb hz0 (Hb hz1 hz2)));clear hi hz0 hz1 hz2
 refine callsIn_of_wp_marks Tryz.func233 rfl trivial ?_ rfl
 simp only [Tryz.ntmps233,List.size_toArray,List.length_cons,List.length_nil,Nat.reduceAdd,Nat.reduceSub,Array.replicate_succ,Array.replicate_zero,List.push_toArray,List.append_toArray,List.nil_append,List.cons_append]
 gi_wp2_with (gi_at_make;refine wpListIn_make_own _ rfl _ _ 182 rfl (w.heap.size+1) 143 i0 (.int .u64 0) 1 Tryz.underlying182 HI.out.1 HI.out.2.1 HI.out.2.2.1 .i64 .i64 _ (la.length+1) rfl rfl (by omega) (by rw [HI.out.2.2.2];omega) (by unfold maxLen;omega) (by simp) ?_;intro w1 hown hgrow;simp only [World.size_alloc] at hown)
 refine ⟨trivial,?_⟩
 refine (callsIn_wide.2 (vz _ _ _ _ _ _ _)).mono ?_
 rintro e w' ⟨rfl,rfl⟩
 gi_wp2
 have hsz1:w.heap.size+1+1≤w1.heap.size:=by have:=(hown.lt (w.heap.size+1) rfl).2;omega
 have hb1:Below w.heap.size w w1:=((Below.refl _ w).alloc (Nat.le_refl _) _).grown hgrow (by simp) (fun k e=>by cases e)
 have s1:Boxed w1 w.heap.size 259 (.func (.func f) #[] #[]):=(Boxed.new w _ _).kept hgrow (by simp)
 generalize hM:w1.heap.size=M at *
 have hcomb:Comb w w.heap.size M (la.length+1) (.func (.func f) #[] #[]) (.slice pb lb.length cb) st [] ((((w1.alloc (.cells #[.slice (some ⟨w.heap.size+1,0,none⟩) 0 (la.length+1)] 182)).alloc (.cells #[.int .u64 0] 143)).alloc (.cells #[.slice pa la.length ca] 182)).alloc (.cells #[.slice pb lb.length cb] 182)):=by
  have n1:=Boxed.new w1 182 (.slice (some ⟨w.heap.size+1,0,none⟩) 0 (la.length+1))
  have n2:=Boxed.new (w1.alloc (.cells #[.slice (some ⟨w.heap.size+1,0,none⟩) 0 (la.length+1)] 182)) 143 (.int .u64 0)
  have n4:=Boxed.new (((w1.alloc (.cells #[.slice (some ⟨w.heap.size+1,0,none⟩) 0 (la.length+1)] 182)).alloc (.cells #[.int .u64 0] 143)).alloc (.cells #[.slice pa la.length ca] 182)) 182 (.slice pb lb.length cb)
  simp only [World.size_alloc,hM] at n1 n2 n4
  exact ⟨(((s1.alloc _).alloc _).alloc _).alloc _,((n1.alloc _).alloc _).alloc _,(((hown.alloc _).alloc _).alloc _).alloc _,(n2.alloc _).alloc _,n4,
   (((hb1.alloc (by omega) _).alloc (by simp;omega) _).alloc (by simp;omega) _).alloc (by simp;omega) _⟩
 have hca:((((w1.alloc (.cells #[.slice (some ⟨w.heap.size+1,0,none⟩) 0 (la.length+1)] 182)).alloc (.cells #[.int .u64 0] 143)).alloc (.cells #[.slice pa la.length ca] 182)).alloc (.cells #[.slice pb lb.length cb] 182)).cell? ⟨M+1+1,0,none⟩=some (.slice pa la.length ca):=by
  have n3:=(Boxed.new ((w1.alloc (.cells #[.slice (some ⟨w.heap.size+1,0,none⟩) 0 (la.length+1)] 182)).alloc (.cells #[.int .u64 0] 143)) 182 (.slice pa la.length ca)).alloc (.cells #[.slice pb lb.length cb] 182)
  simp only [World.size_alloc,hM] at n3
  exact n3.cell
 have hszW:((((w1.alloc (.cells #[.slice (some ⟨w.heap.size+1,0,none⟩) 0 (la.length+1)] 182)).alloc (.cells #[.int .u64 0] 143)).alloc (.cells #[.slice pa la.length ca] 182)).alloc (.cells #[.slice pb lb.length cb] 182)).heap.size=M+4:=by simp [hM]
 have HM:=Ha hM
 clear hown hgrow hb1 s1 hM
 generalize ((((w1.alloc (.cells #[.slice (some ⟨w.heap.size+1,0,none⟩) 0 (la.length+1)] 182)).alloc (.cells #[.int .u64 0] 143)).alloc (.cells #[.slice pa la.length ca] 182)).alloc (.cells #[.slice pb lb.length cb] 182))=W0 at *
 obtain ⟨ha,hb,da,db⟩:=HAB.out
 refine wpIn_rangeFunc_ownG rfl (by omega) (gf:=252) (lb := #[.pointer (some ⟨M+1+1,0,none⟩),.pointer (some ⟨M+1+1+1,0,none⟩)]) rfl trivial (enters_of Tryz.func252 (by kernel_rfl) rfl)
  (rJ (9 - 1) (by omega) (M+1+1) (M+1+1+1) (.slice pa la.length ca) (.slice pb lb.length cb) la lb da db hla W0 (by omega) (by omega) hca hcomb.box.cell (ha.next hcomb.below) (hb.next hcomb.below)) KpP.t KpP.b (Below.refl _ _) (fun _=>rfl)
  (fun pre W=>Comb w w.heap.size M (la.length+1) (.func (.func f) #[] #[]) (.slice pb lb.length cb) st pre W)
  (fun _ _ _=>False)
  (xw w w.heap.size M (la.length+1) _ _ st _ (Nat.le_refl _) (by omega))
  (fun _ _ _ _ _ hs _ _=>hs)
  hcomb
  (fun x=>{ tmps := #[.slice pa la.length ca,.slice pb lb.length cb,.func (.func f) #[] #[],undef,undef,.pointer (some ⟨w.heap.size,0,none⟩),.slice none 0 0,.pointer (some ⟨M,0,none⟩),.pointer (some ⟨M+1,0,none⟩),.int .u64 (x.1.1:Nat),.int .u64 (x.2.1:Nat),undef,undef,.slice pa la.length ca,.int .i64 la.length,.int .i64 (la.length+1),.slice (some ⟨w.heap.size+1,0,none⟩) 0 (la.length+1),.slice pa la.length ca,.slice pb lb.length cb,
   .func (.func 252) #[] #[.pointer (some ⟨M+1+1,0,none⟩),.pointer (some ⟨M+1+1+1,0,none⟩)],.int .u64 (x.1.1:Nat),.int .u64 (x.2.1:Nat),undef,undef,undef,undef,undef,undef,undef,undef,undef,undef,undef,undef,undef,undef,undef,undef,undef,undef],defers := [] }) ?assign ?body ?done ?stop
 case assign =>
  clear hcomb hca hszW ha hb da db
  intro l x W K hK
  simp only [zi]
  gi_wp2
  exact hK
 case body =>
  clear hcomb hca hszW ha hb da db
  rintro l pre x W hI hlt
  have hs:=hI.step.cell
  have hc:=hI.carry.cell
  have ho:=hI.out.cell
  obtain ⟨_,hcar⟩:=iO HST.out.2 pre
  have cst:=HST.out.1 x.1.1 x.2.1 (bi st pre).2 W x.1.2 x.2.2 hcar
  have CST:=Ha cst
  have HI2:=Ha hI
  clear cst hI
  obtain ⟨r,hr⟩:∃ r,st x.1.1 x.2.1 (bi st pre).2=r:=⟨_,rfl⟩
  have HR:=Ha hr
  rw [hr] at CST
  clear hr
  generalize hcc:(bi st pre).2=cc at *
  have HCC:=Ha hcc;clear hcc
  obtain ⟨⟨x1,hx1⟩,⟨x2,hx2⟩⟩:=x
  dsimp only at CST ⊢
  gi_wp2_with fail
  refine ⟨trivial,?_⟩
  refine (CallsIn.inRound l (callsIn_wide.2 CST.out)).mono ?_
  rintro e w' ⟨rfl,rfl⟩
  clear CST
  obtain ⟨hi,hz0,hz1,hz2⟩:=HI.out
  gi_wp2_with (gi_at_builtin;refine wpListIn_append_fits _ rfl _ _ 182 rfl (w.heap.size+1) 143 i0 1 Tryz.underlying182 hi hz1 (w.heap.size+1) pre.length (la.length+1) (ag (bi st pre).1) rfl (HI2.out.row.alloc _) ⟨W.heap.size,0,none⟩ 1 1 [.int .u64 (r.1:Nat)] rfl rfl (cell_one_new _ _ _) (by simp [Value.oneCell']) (by omega) ?_;intro w2 hown' hgrow;rw [←HR.out] at hown';rw [←HCC.out] at hown';obtain ⟨k1,k2,k3,k4⟩:=vA (⟨x1,hx1⟩,⟨x2,hx2⟩) HI2.out (by omega) (Nat.le_refl _) hown' hgrow;have hc1:=k1.cell;have hf1:=k1.frozen;have hc2:=k2.cell;have hf2:=k2.frozen;have KK:=Ha (Hb k3 k4);clear k1 k2 k3 k4 hown' hgrow)
  have KO:=KK.out
  have HR2:=HR.out
  (try dsimp only at KO)
  (try dsimp only at HR2)
  rw [HCC.out,HR2] at KO
  exact ⟨KO.1.from _,⟨fun _=>KO.2.box.cell,fun _=>HAB.out.1.next KO.2.below,fun _=>HAB.out.2.1.next KO.2.below⟩,KO.2⟩
 case done =>
  clear hcomb hca ha hb da db
  rintro D ys W hD rfl hI hK
  have ho:=hI.out.cell
  have hc:=hI.carry.cell
  have hpl:=dI la lb la.length
  obtain ⟨hdig,hcar⟩:=iO HST.out.2 (prs la lb la.length)
  have hol:=dn st (prs la lb la.length)
  rw [hpl] at hol ho
  have hrow:=hI.row
  rw [hpl] at hrow
  have hbel:=hI.below
  have HX:=Ha (Hb hrow (Hb hdig (Hb hol hbel)))
  clear hI hpl hrow hdig hol hbel
  generalize hoc:bi st (prs la lb la.length)=oc at *
  have HOC:=Ha hoc;clear hoc
  obtain ⟨hi,hz0,hz1,hz2⟩:=HI.out
  have HKD:=Ha hK
  gi_wp2_with (gi_at_builtin;refine wpListIn_append_fits _ rfl _ _ 182 rfl (w.heap.size+1) 143 i0 1 Tryz.underlying182 hi hz1 (w.heap.size+1) la.length (la.length+1) (ag oc.1) rfl (HX.out.1.alloc _) ⟨W.heap.size,0,none⟩ 1 1 [.int .u64 (oc.2:Nat)] rfl rfl (cell_one_new _ _ _) (by simp [Value.oneCell']) (by omega) ?_;intro w2 hown' hgrow;have HG:=Ha (Hb hown' hgrow);clear hown' hgrow)
  obtain ⟨hown',hgrow⟩:=HG.out
  obtain ⟨hrow,hdig,hol,hbel⟩:=HX.out
  rw [bh] at hown'
  have hl1:la.length+1=(oc.1 ++ [oc.2]).length:=by rw [List.length_append,hol];rfl
  have hdig2:Dig (oc.1 ++ [oc.2]):=hdig.append (Dig.one (by omega))
  have hown2:w2.ownsRow (w.heap.size+1) 143 1 (.slice (some ⟨w.heap.size+1,0,none⟩) (oc.1 ++ [oc.2]).length (la.length+1)) (oc.1 ++ [oc.2]).length (ag (oc.1 ++ [oc.2])):=by
   rw [←hl1];exact hown'
  have hN:=bg hown2
  have ct:=eI _ _ w2 hN hdig2
  rw [←hl1] at ct
  have CT:=Ha ct
  have hb2:Below w.heap.size w w2:=(hbel.alloc hbel.size _).grown hgrow (by have:=hbel.size;simp;omega) (fun k e=>by cases e;omega)
  have hK2:w2.heap[D]? = some (.deferred (some [])):=by
   have hDlt:=(Array.getElem?_eq_some_iff.1 hK).1
   exact (hgrow.block D (by simp;omega) (by intro e;cases e;omega)).trans ((Below.heap_alloc W _ D hDlt).trans hK)
  have HB2:=Ha (Hb hb2 hK2)
  clear ct hN hown2 hown' hgrow hrow hdig hol hbel hl1 hdig2 hb2 hK2 HX HG hK
  refine ⟨trivial,?_⟩
  refine (callsIn_wide.2 CT.out).mono ?_
  clear CT
  rintro e w' ⟨rfl,v',rfl,hN',hob⟩
  have HN:=Ha (Hb hN' hob);clear hN' hob
  gi_wp2
  refine ⟨by simp,.inl ⟨_,_,rfl,run_takeDeferred HB2.out.2,?_⟩⟩
  exact ⟨_,results_tmp rfl _ _ _,v',rfl,by rw [HOC.out];exact HN.out.1.putObj HB2.out.2 rfl,fun k hk=>by rw [HN.out.2] at hk;cases hk;exact Nat.le_succ _,HB2.out.1.trans (belowK_b (w:=w) (Nat.le_refl _) w2 D _ _ (by omega) HB2.out.2 rfl rfl)⟩
 case stop =>
  rintro D c pre W _ _ h _
  exact h.elim
end
section
open Go.RowKit
theorem IsNat.shape {w:World} {v:Value} {n:Nat} (h:IsNat w v n):∃ p cap,v = .slice p (dg n).length cap:=by
 obtain ⟨p,cap,e,_⟩:=h;exact ⟨p,cap,e⟩
theorem dU {w:World} {k j o:Nat} {x y v:Value} (hne:j≠k) (h:w.cell? ⟨k,o,none⟩=some v):((w.setCell ⟨j,0,none⟩ x).setCell ⟨j,1,none⟩ y).cell? ⟨k,o,none⟩=some v :=
 (World.cell?_of_block (Below.heap_setCell _ _ _ _ (by show k≠j;omega))).trans ((World.cell?_of_block (Below.heap_setCell _ _ _ _ (by show k≠j;omega))).trans h)
structure Boxes (w:World) (k:Nat) (x0 x1 y0 y1 z0 z1:Value) (W:World):Prop where
 c1:W.cell? ⟨k,0,none⟩=some x0
 c2:W.cell? ⟨k,1,none⟩=some x1
 c3:W.cell? ⟨k+1,0,none⟩=some y0
 c4:W.cell? ⟨k+1,1,none⟩=some y1
 c5:W.cell? ⟨k+1+1,0,none⟩=some z0
 c6:W.cell? ⟨k+1+1,1,none⟩=some z1
 f5:W.frozen? ⟨k+1+1,0,none⟩=false
 f6:W.frozen? ⟨k+1+1,1,none⟩=false
 size:k+3≤W.heap.size
 below:Below k w W
theorem bR (w:World) (x0 x1 y0 y1 z0 z1:Value) (t:TypeId) :
  Boxes w w.heap.size x0 x1 y0 y1 z0 z1 (((w.alloc (.cells #[x0,x1] t)).alloc (.cells #[y0,y1] t)).alloc (.cells #[z0,z1] t)) :=
 ⟨by go_cell,by go_cell,by go_cell,by go_cell,by go_cell,by go_cell,by simp [go_sem],by simp [go_sem],by simp,
  (((Below.refl _ w).alloc (Nat.le_refl _) _).alloc (by simp) _).alloc (by simp;omega) _⟩
theorem Boxes.next {w:World} {k:Nat} {x0 x1 y0 y1 z0 z1:Value} {W W':World} (h:Boxes w k x0 x1 y0 y1 z0 z1 W) (hb:Below W.heap.size W W'):Boxes w k x0 x1 y0 y1 z0 z1 W' :=
 have hs:=h.size
 ⟨(hb.cell (p:=⟨k,0,none⟩) (by show k<_;omega)).trans h.c1,(hb.cell (p:=⟨k,1,none⟩) (by show k<_;omega)).trans h.c2,
  (hb.cell (p:=⟨k+1,0,none⟩) (by show k+1<_;omega)).trans h.c3,(hb.cell (p:=⟨k+1,1,none⟩) (by show k+1<_;omega)).trans h.c4,
  (hb.cell (p:=⟨k+1+1,0,none⟩) (by show k+1+1<_;omega)).trans h.c5,(hb.cell (p:=⟨k+1+1,1,none⟩) (by show k+1+1<_;omega)).trans h.c6,
  (hb.frozen (p:=⟨k+1+1,0,none⟩) (by show k+1+1<_;omega)).trans h.f5,(hb.frozen (p:=⟨k+1+1,1,none⟩) (by show k+1+1<_;omega)).trans h.f6,
  Nat.le_trans h.size hb.size,h.below.trans (hb.mono (by omega))⟩
theorem Boxes.drew {w:World} {k:Nat} {x0 x1 y0 y1 z0 z1:Value} {W:World} (h:Boxes w k x0 x1 y0 y1 z0 z1 W):Boxes w k x0 x1 y0 y1 z0 z1 W.drew:=h.next (Below.refl _ _).drew
theorem gM (na nb:Bool) (va vb:Value) (a b:Nat) (w:World) (ha:IsNat w va a) (hb:IsNat w vb b) (hla:(dg a).length≤1000000) (hlb:(dg b).length≤1000000) :
  Calls Tryz.prog 160 #[.agg #[.bool na,va],.agg #[.bool nb,vb]] w fun e W'=>∃ v,e = .returned (.agg #[.bool (na != nb),v])∧IsNat W' v (a*b)∧Fresh w.heap.size v∧Below w.heap.size w W':=by
 have cp:∀ W,Below w.heap.size w W→Calls Tryz.prog 203 #[va,vb] W fun e W'=>∃ v,e = .returned v∧IsNat W' v (a*b)∧Fresh W.heap.size v∧Below W.heap.size W W':=fun W hW=>by
  have:=rH va vb (dg a) (dg b) W (Nats.next ha hW) (Nats.next hb hW) (aq a) (aq b) hla hlb
  rwa [ar,ar] at this
 obtain ⟨pa,ca,rfl⟩:=ha.shape
 obtain ⟨pb,cb,rfl⟩:=hb.shape
 have CP:=Ha cp;clear cp ha hb hla hlb
 generalize (dg a).length=la at *
 generalize (dg b).length=lb at *
 go_enter Tryz.func160,Tryz.ntmps160
 go_wp2
 have hbx:=bR w (.bool na) (.slice pa la ca) (.bool nb) (.slice pb lb cb) (.bool false) (.slice none 0 0) 184
 generalize ((w.alloc (.cells #[.bool na,.slice pa la ca] 184)).alloc (.cells #[.bool nb,.slice pb lb cb] 184)).alloc (.cells #[.bool false,.slice none 0 0] 184)=W0 at *
 generalize hk:w.heap.size=k at *
 have HK:=Ha hk;clear hk
 have HBD:=Ha hbx.drew
 clear hbx
 obtain ⟨c1,c2,c3,c4,_,_,_,_,_,_⟩:=HBD.out
 go_region_held3 (fun w'=>w'.cell? ⟨k,0,none⟩=some (.bool na)∧w'.cell? ⟨k,1,none⟩=some (.slice pa la ca)∧w'.cell? ⟨k+1,0,none⟩=some (.bool nb)∧w'.cell? ⟨k+1,1,none⟩=some (.slice pb lb cb)) (first | (go_keep;done) | ((try dsimp only);refine ⟨?_,?_,?_,?_⟩ <;> (first | (exact dU (by omega) (by assumption)) | (go_keep;done))))
  (first | (go_at_call 203;refine (CP.out _ HBD.out.below).mono ?_;rintro e w1 ⟨v,rfl,hv,hf,hb1⟩;obtain ⟨p,cap,rfl⟩:=hv.shape;have HB1:=Ha (HBD.out.next hb1);have HV:=Ha (Hb hv (Hb hf hb1));clear hv hf hb1;obtain ⟨e1,e2,e3,e4,e5,e6,e7,e8,_,_⟩:=HB1.out))
 obtain ⟨g5,g6⟩:=au e5 e6 (.bool (!(na==nb))) (.slice p (dg (a*b)).length cap)
 go_wp2
 refine bodyPost_ret (v := .agg #[.bool (!(na==nb)),.slice p (dg (a*b)).length cap]) (by simp [results,Tryz.results160,go_sem,g5,g6]) rfl ?_
 obtain ⟨hv,hf,hb1⟩:=HV.out
 have hf':Fresh (k+3) (.slice p (dg (a*b)).length cap):=hf.mono HBD.out.size
 refine ⟨_,by rw [show (na != nb) = !(na==nb) from rfl],(hv.setCell hf' (by show k+1+1<k+3;omega) _).setCell hf' (by show k+1+1<k+3;omega) _,hf'.mono (by rw [HK.out];omega),?_⟩
 rw [HK.out]
 exact ((HB1.out.below).setCell (p:=⟨k+1+1,0,none⟩) (by show k≤k+1+1;omega) _).setCell (p:=⟨k+1+1,1,none⟩) (by show k≤k+1+1;omega) _
theorem vB {w w':World} {base e size n:Nat} {v:Value} {xs:List Value} (h:w.ownsRow base e size v n xs) (hb:Below w.heap.size w w'):w'.ownsRow base e size v n xs:=by
 obtain ⟨h1,h2⟩:=h
 refine ⟨h1,?_⟩
 rcases h2 with h2 | ⟨g,cap,cur,hv,hg,hh,r⟩
 ·exact .inl h2
 ·exact .inr ⟨g,cap,cur,hv,hg,(hb.block g (Array.getElem?_eq_some_iff.1 hh).1).trans hh,r⟩
theorem kG (B n u:Nat) (hu:u<18446744073709551616) (sv:Value) (xs:List Value) (w:World) (h:w.ownsRow B 5 1 sv n xs) (hB:B≤w.heap.size) (hn:n+20≤140737488355328) (ht:Tab w) :
  Calls Tryz.prog 205 #[sv,.int .u64 u,.int .i64 10] w fun e w'=>∃ v',e = .returned v'∧w'.ownsRow B 5 1 v' (n+(Lib.decDigits u).length) (xs++Lib.byteCells (Lib.decDigits u))∧Below B w w':=by
 have c:=Tryz.internal_strconv_AppendUint_10 B n u hu sv xs w h hB hn ht
 have C:=Ha c;clear c h ht
 go_enter Tryz.func205,Tryz.ntmps205
 go_wp2_with fail
 refine C.out.mono ?_
 rintro e w' ⟨v',rfl,h1,h2,_⟩
 have H:=Ha (Hb h1 h2);clear h1 h2 C
 go_wp2
 go_ret
 exact ⟨v',rfl,H.out.1,H.out.2⟩
def pad (k:Nat) (d:Nat):List UInt8:=(List.range k).map fun i=>UInt8.ofNat (48+d / 10 ^ (k - 1 - i) % 10)
theorem iQ (k d:Nat):pad (k+1) d=UInt8.ofNat (48+d / 10 ^ k % 10)::pad k d:=by
 unfold pad
 rw [List.range_succ_eq_map,List.map_cons,List.map_map]
 congr 1
 refine List.map_congr_left fun i _ => ?_
 show UInt8.ofNat (48+d / 10 ^ (k+1 - 1 - (i+1)) % 10)=_
 rw [show k+1 - 1 - (i+1)=k - 1 - i by omega]
theorem cJ (k d:Nat):(pad k d).length=k:=by simp [pad]
def nums (l:List UInt8):List Nat:=l.map (·.toNat)
def fO (l:List Nat):List Value:=l.map fun x=>Value.int .u8 (x:Nat)
theorem rL (l:List UInt8):fO (nums l)=Lib.byteCells l:=by simp [fO,nums,Lib.byteCells]
def Row8 (w:World) (g:Nat) (l:List Nat):Prop:=w.heap[g]? = some (.cells (fO l).toArray 253 (0,0))
theorem Row8.cell {w:World} {g:Nat} {l:List Nat} (h:Row8 w g l) {i:Nat} (hi:i<l.length):w.cell? ⟨g,i,none⟩=some (.int .u8 (l.getD i 0:Nat)):=by
 rw [cell_of_row w g i _ _ (0,0) h]
 simp [fO,hi]
theorem Row8.frozen {w:World} {g:Nat} {l:List Nat} (h:Row8 w g l) (i:Nat):w.frozen? ⟨g,i,none⟩=false:=by
 unfold Row8 at h
 simp [World.frozen?, h]
theorem Row8.set {w:World} {g:Nat} {l:List Nat} (h:Row8 w g l) (i:Nat) (x:Nat):Row8 (w.setCell ⟨g,i,none⟩ (.int .u8 (x:Nat))) g (l.set i x):=by
 unfold Row8 at h ⊢
 simp [World.setCell,Array.getElem?_modify,h,fO,List.map_set]
theorem Row8.lt {w:World} {g:Nat} {l:List Nat} (h:Row8 w g l):g<w.heap.size:=(Array.getElem?_eq_some_iff.1 h).1
theorem rN {l:List Nat} {i x:Nat} (hi:i<l.length):(l.set i x).drop i=x::l.drop (i+1):=by
 rw [List.drop_eq_getElem_cons (by simpa using hi),List.getElem_set_self,List.drop_set_of_lt (by omega)]
theorem xx {L:List Nat} {k d:Nat} (hk:k<9) (hL:L.length=9) (h:L.drop (9 - k)=nums (pad k d)) :
  (L.set (8 - k) (48+d / 10 ^ k % 10)).drop (9 - (k+1))=nums (pad (k+1) d):=by
 rw [show 9 - (k+1)=8 - k by omega,rN (by omega),show 8 - k+1=9 - k by omega,h,iQ]
 show _=(UInt8.ofNat (48+d / 10 ^ k % 10)).toNat::nums (pad k d)
 rw [toNat_ofNat _ (Nat.mod_lt _ (by decide))]
theorem eh:(Tryz.prog.info? 5).map (fun i=>(i.zero,i.size,i.bytes))=some (some (.int .u8 0),1,1):=by kernel_rfl
theorem ln (B n d:Nat) (hd:d<1000000000) (sv:Value) (xs:List Value) (w:World) (h:w.ownsRow B 5 1 sv n xs) (hB:B≤w.heap.size) (hn:n+20≤140737488355328) :
  Calls Tryz.prog 206 #[sv,.int .u64 d] w fun e w'=>∃ v',e = .returned v'∧w'.ownsRow B 5 1 v' (n+9) (xs++Lib.byteCells (pad 9 d))∧Below B w w':=by
 have H:=Ha h;clear h
 obtain ⟨i0,hi,hz0,hz1,hz2⟩:=info_parts eh
 have HI:=Ha (Hb hi (Hb hz0 (Hb hz1 hz2)));clear hi hz0 hz1 hz2
 have hr0:Row8 (w.alloc (.cells #[.int .u8 0,.int .u8 0,.int .u8 0,.int .u8 0,.int .u8 0,.int .u8 0,.int .u8 0,.int .u8 0,.int .u8 0] 253)) w.heap.size (List.replicate 9 0):=heap_alloc_new w _
 have hb0:Below w.heap.size w (w.alloc (.cells #[.int .u8 0,.int .u8 0,.int .u8 0,.int .u8 0,.int .u8 0,.int .u8 0,.int .u8 0,.int .u8 0,.int .u8 0] 253)):=(Below.refl _ w).alloc (Nat.le_refl _) _
 have HR:=Ha (Hb hr0 hb0);clear hr0 hb0
 go_enter Tryz.func206,Tryz.ntmps206
 go_wp2
 go_loopw [1,6] (fun x y wr=>∃ (k:Nat) (L:List Nat) (f:Nat),k≤9∧y = .int .i64 (8 - (k:Int))∧x = .int .u64 f∧f<1000000000∧Hid (f=d / 10 ^ k)∧Row8 wr w.heap.size L∧L.length=9∧Hid (L.drop (9 - k)=nums (pad k d))∧Below w.heap.size w wr)
  (fun _ y _=>(intOf y+1).toNat)
 case atStart=>exact ⟨0,List.replicate 9 0,d,by omega,by go_num,rfl,hd,by show d=d / 10 ^ 0;simp,HR.out.1,rfl,rfl,HR.out.2⟩
 case round =>
  clear HR
  obtain ⟨k,L,f,hk,rfl,rfl,hf,hfd,hrow,hlen,hdrop,hbel⟩:=hrel
  by_cases hlt:k<9
  ·have co:=hrow.cell (i:=8 - k) (by omega)
   have fo:=hrow.frozen (8 - k)
   have HS:=Ha (xx hlt hlen hdrop.out)
   have hf2:Hid (f / 10=d / 10 ^ (k+1)):=by show f / 10=_;rw [hfd.out,Nat.pow_succ,Nat.div_div_eq_div_mul]
   have RR:=Ha (hrow.set (8 - k) (48+f % 10))
   have HFD:=hfd.out
   rw [←HFD] at HS
   clear HFD hfd hdrop
   have ek:(8 - (k:Int))=((8 - k:Nat):Int):=by omega
   have EK:=Ha ek
   rw [ek]
   clear ek
   generalize hj:8 - k=j at *
   have HJ:=Ha hj;clear hj
   have hj9:j<9:=by have:=HJ.out;omega
   generalize L.getD j 0=c at *
   go_wp2
   go_roundw
   case rel =>
    refine ⟨k+1,L.set j (48+f % 10),f / 10,by omega,?_,by go_num,by omega,hf2,?_,by rw [List.length_set];exact hlen,HS.out,hbel.setCell (p:=⟨w.heap.size,j,none⟩) (Nat.le_refl _) _⟩
    ·have:=EK.out;go_num
    ·have:=RR.out
     rw [Int.natCast_add,Int.natCast_emod] at this
     exact this
   case measure=>simp [intOf]
  ·have ek:k=9:=by omega
   subst ek
   have hL:L=nums (pad 9 d):=by have:=hdrop.out;simpa using this
   clear hdrop hfd
   have hx:fO L=Lib.byteCells (pad 9 d):=by rw [hL,rL]
   have hown:=vB H.out hbel
   have hsrc:∀ j u,(Lib.byteCells (pad 9 d))[j]? = some u→wr.cell? ((⟨w.heap.size,0,none⟩:Addr).add j)=some u:=by
    intro j u hu
    rw [←hx] at hu
    have hadd:(⟨w.heap.size,0,none⟩:Addr).add j=⟨w.heap.size,j,none⟩:=by unfold Addr.add;split <;> simp_all
    rw [hadd,cell_of_row wr _ j _ _ (0,0) hrow]
    simpa using hu
   have hl9:(Lib.byteCells (pad 9 d)).length=9*1:=by simp [Lib.byteCells,cJ]
   have hone:∀ u∈Lib.byteCells (pad 9 d),u.oneCell'=true:=Lib.byteCells_one _
   have HH:=Ha (Hb hown (Hb hsrc (Hb hl9 hone)));clear hown hsrc hl9 hone hx hL hrow hlen
   have hsz:=hbel.size
   go_wp2_with (at_builtin;refine wpList_append_own _ rfl _ _ 115 rfl B 5 i0 (.int .u8 0) 1 1 Tryz.underlying115 HI.out.1 HI.out.2.1 HI.out.2.2.1 HI.out.2.2.2 rfl (by decide) _ _ _ rfl HH.out.1 ⟨w.heap.size,0,none⟩ 9 9 (Lib.byteCells (pad 9 d)) rfl HH.out.2.2.1 HH.out.2.1 HH.out.2.2.2 (by unfold maxLen;omega) (by omega) (by omega) ?_;intro v' w2 hown' hgrow _)
   have hlt:∀ k,sv.ownBlock=some k→B≤k:=fun k hk=>(H.out.lt k hk).1
   have HZ:=Ha (Hb hown' (Hb hgrow hlt));clear hown' hgrow hlt
   go_ret
   exact ⟨v',rfl,HZ.out.1,(hbel.mono hB).grown HZ.out.2.1 (by omega) HZ.out.2.2⟩
end
section
theorem xz (k d:Nat):pad (k+1) d=pad k (d / 10) ++ [UInt8.ofNat (48+d % 10)]:=by
 unfold pad
 rw [List.range_succ,List.map_append,List.map_singleton]
 congr 1
 ·refine List.map_congr_left fun i hi => ?_
  have hi:=List.mem_range.1 hi
  rw [show k+1 - 1 - i=(k - 1 - i)+1 by omega,Nat.pow_succ,Nat.mul_comm,←Nat.div_div_eq_div_mul]
 ·rw [show k+1 - 1 - k=0 by omega];simp
theorem nF (k:Nat):∀ (q d:Nat),0<q→d<10 ^ k→Lib.decDigits (q*10 ^ k+d)=Lib.decDigits q++pad k d:=by
 induction k with
 | zero=>intro q d _ hd;simp at hd;subst hd;simp [pad]
 | succ k ih =>
  intro q d hq hd
  have hp:0<10 ^ k:=Nat.pow_pos (by decide)
  have h1:10 ^ k≤q*10 ^ k:=Nat.le_mul_of_pos_left _ hq
  rw [Nat.pow_succ] at hd ⊢
  have h2:(q*(10 ^ k*10)+d) / 10=q*10 ^ k+d / 10:=by rw [←Nat.mul_assoc];omega
  have h3:(q*(10 ^ k*10)+d) % 10=d % 10:=by rw [←Nat.mul_assoc];omega
  rw [Lib.decDigits,dif_neg (by rw [←Nat.mul_assoc];omega),h2,h3,ih q (d / 10) hq (by omega),xz,List.append_assoc]
def txt:List Nat→List UInt8
 | [] => []
 | d::r=>if r = [] then Lib.decDigits d else txt r++pad 9 d
theorem ug (d:Nat):txt [d]=Lib.decDigits d:=by simp [txt]
theorem rO {d:Nat} {r:List Nat} (h:r ≠ []):txt (d::r)=txt r++pad 9 d:=by simp [txt,h]
theorem zj {l:List Nat} (h:Dig l) (hne:l ≠ []) (hl:l.getLast? ≠ some 0):txt l=Lib.decDigits (toN l):=by
 induction l with
 | nil=>exact absurd rfl hne
 | cons d r ih =>
  by_cases hr:r = []
  ·subst hr;rw [ug];simp [toN]
  ·have hl':r.getLast? ≠ some 0:=by rwa [List.getLast?_cons_of_ne_nil hr] at hl
   rw [rO hr,ih h.tail hr hl',toN,←nF 9 (toN r) d (dF hr hl') h.head]
   congr 1
   rw [dH,Nat.mul_comm];omega
theorem AL {n:Nat} (h:n≠0):txt (dg n)=Lib.decDigits n:=by
 rw [zj (aq n) (fun e=>h ((cU n).1 e)) (tW n),ar]
theorem dM {l:List Nat} {m:Nat} (h:m<l.length):l.drop m=l.getD m 0::l.drop (m+1):=by
 rw [List.drop_eq_getElem_cons h,List.getD_eq_getElem?_getD,List.getElem?_eq_getElem h];rfl
theorem xA {l:List Nat} {m:Nat} (h:m+1<l.length):txt (l.drop m)=txt (l.drop (m+1))++pad 9 (l.getD m 0):=by
 rw [dM (by omega),rO (by intro e;have:=congrArg List.length e;rw [List.length_drop] at this;simp at this;omega)]
theorem xB {l:List Nat} {m:Nat} (h:m+1=l.length):txt (l.drop m)=Lib.decDigits (l.getD m 0):=by
 rw [dM (by omega),List.drop_of_length_le (by omega),ug]
def am (neg:Bool) (n:Nat):Int:=if neg then -(n:Int) else n
def lY:Bool→List UInt8
 | true => [45]
 | false => []
theorem nG (neg:Bool) {n:Nat} (h:n≠0):Lib.itoa (am neg n)=lY neg++Lib.decDigits n:=by
 unfold am lY
 cases neg
 ·simp [Lib.itoa_nonneg]
 ·simp only [if_true];rw [Lib.itoa_neg n (by omega)];rfl
def fj (z:Int):ByteArray:=if z.natAbs<lim then aa z else ByteArray.empty
def fk (z:Int):Int:=if z.natAbs<lim then 0 else 4
theorem vC (k:Nat):0<aO k:=Nat.pow_pos (by decide)
theorem uh:0<lim:=vC 300
theorem xC (neg:Bool) (n:Nat):(300<eJ n)↔¬ (am neg n).natAbs<lim:=by
 have h0:(am neg n).natAbs=n:=by unfold am;cases neg <;> simp
 rw [h0]
 unfold eJ
 by_cases h:n=0
 ·subst h
  rw [if_pos rfl]
  have:=uh
  constructor
  ·intro h;omega
  ·intro h;exact absurd this h
 ·rw [if_neg h]
  have:=gh n 300 (by decide)
  rw [show lim=aO 300 from rfl,←this];omega
end
end Go.Proofs.YtjdomibbaemdnaaGreatDoor
