/- Parts of the proof. -/
import Derived.RegionTactic
import Derived.ChangeAlike
import Derived.Test.YtbhbhlfkdlfimaaGreatDoorQX20
set_option linter.all false
set_option maxRecDepth 100000
set_option maxHeartbeats 8000000
namespace Go.Proofs.YtbhbhlfkdlfimaaGreatDoor
namespace T
open Go.RowKit
theorem q8 {w:World} {a:Addr} {o:Obj} {u:Value} (h:w.cell? a=some u):(w.alloc o).drew.cell? a=some u :=
 ((Below.refl w.heap.size w).alloc (Nat.le_refl _) o).cell (World.block_lt_of_cell? w a h) |>.trans h
theorem alc {w:World} {a:Addr} {o:Obj} {u:Value} (h:w.cell? a=some u):(w.alloc o).cell? a=some u :=
 ((Below.refl w.heap.size w).alloc (Nat.le_refl _) o).cell (World.block_lt_of_cell? w a h) |>.trans h
theorem lA (c r:ByteArray) (w:World)
  (h1:∀ s W,(s=c∨s=r)→Below w.heap.size w W→Calls Tryz.prog 38 #[.string s] W fun e W'=>e = .returned (.int .i64 0)∧Below W.heap.size W W') :
  Calls Tryz.prog 212 #[.agg #[.string c,.string r]] w fun e W'=>e = .returned (.int .i64 0)∧Below w.heap.size w W':=by
 have O:=Ha h1;clear h1
 go_enter Tryz.func212,Tryz.ntmps212
 go_wp2
 have HB:=Ha (Hb (Blk.new w #[.string c,.string r] 43) ((Below.refl _ w).alloc (Nat.le_refl _) (.cells #[.string c,.string r] 43)))
 generalize w.alloc (.cells #[.string c,.string r] 43)=W0 at *
 generalize hk:w.heap.size=k at *
 have HK:=Ha hk;clear hk
 have e0:=HB.out.1.cell 0 (.string c) rfl;have e1:=HB.out.1.cell 1 (.string r) rfl
 have HD:=Ha (Hb HB.out.1.drew HB.out.2.drew);clear HB;have HB:=HD;clear HD
 have e0:=HB.out.1.cell 0 (.string c) rfl;have e1:=HB.out.1.cell 1 (.string r) rfl
 go_region_held3 (fun w'=>w'.cell? ⟨k,0,none⟩=some (.string c)∧w'.cell? ⟨k,1,none⟩=some (.string r)) (first | exact ⟨e0,e1⟩ | (go_keep;done) | exact ⟨alc e0,alc e1⟩ | exact ⟨q8 e0,q8 e1⟩)
  (first | (go_at_call 38;refine Calls.mono (O.out _ _ ?_ HB.out.2) ?_;(first | exact .inl rfl | exact .inr rfl);rintro e w2 ⟨rfl,b⟩;replace HB:=Kc HB b;clear b;have e0:=HB.out.1.cell 0 (.string c) rfl;have e1:=HB.out.1.cell 1 (.string r) rfl) | (go_at_call 243;refine (pf _ 0 0 _ (Blk.new _ _ _)).mono ?_;rintro e w5 ⟨rfl,b⟩;have HN:=Ha (Hb ((HB.out.1.alloc (.cells #[.int .i64 0,.int .i64 0] 26)).next b) ((HB.out.2.alloc (by have h1:=HB.out.2.size;have h2:=HK.out;omega) (.cells #[.int .i64 0,.int .i64 0] 26)).trans (b.mono (by have h1:=HB.out.2.size;have h2:=HK.out;simp;omega))));clear HB b;have HB:=HN;clear HN;have e0:=HB.out.1.cell 0 (.string c) rfl;have e1:=HB.out.1.cell 1 (.string r) rfl))
 all_goals
  go_wp2
  go_ret
  have hb:=HB.out.2
  rw [←HK.out] at hb
  exact ⟨rfl,hb⟩
def GT (t:Tm):Prop:=t.1≠0∧Bq 60 t.1∧∃ b:Nat,t.2=(b:Rat)∧Nrm b∧b<ak 40
theorem bqN {b k:Nat} (h:b<ak k) (hk:1≤k):Bq k ((b:Nat):Rat):=sF hk h
theorem sG (b:Nat) (w:World) (hb:Nrm b) (hl:b<ak 40) (ht:Tab w) (ht2:aH w) (hS:Sm w) :
  Calls Tryz.prog 213 #[.string (af ((b:Nat):Rat))] w fun e W'=>e = .returned (.bool true)∧Below w.heap.size w W' :=
 qx _ w fun W h=>by
  have c:=uf ((b:Nat):Rat) W (aP b) ((bqN hl (by decide)).up (by decide)) (ht.next h) (ae ht2 h) (hS.next h)
  rwa [hb.2.1,hb.2.2,ig,←dR] at c
theorem sH {x y:Rat} (h:x≠y):((af x).toList==(af y).toList)=false:=by
 rw [Bool.eq_false_iff];intro k
 have h2:(af x).toList=(af y).toList:=by simpa using k
 refine h (kM ?_)
 rw [ByteArray.toList_eq,ByteArray.toList_eq] at h2
 exact aU h2
theorem pt {b k:Nat} (hk:1≤k):(af ((b:Nat):Rat)).size≤k↔b<ak k:=by
 rw [dR,mi];exact cL b k hk
theorem ug {a:Nat} (h:0<a):(a:Rat) / (a:Rat)=1:=by
 rw [Rat.div_def];exact Rat.mul_inv_cancel _ (by have:=cz h;grind)
theorem sI:bG (1:Rat):=jd ⟨1,by grind⟩
theorem DH:bf 1=1:=vW (dL sI) (by decide) (by rw [fK (by decide) sI];grind)
theorem q9 (a b:Nat) (w:World) (ha:Nrm a) (hb:Nrm b) (la:a<ak 90) (lb:b<ak 90) (h:bG ((a:Rat) / (b:Rat))) (ht:Tab w) (ht2:aH w) :
  Calls Tryz.prog 170 #[.string (af (a:Rat)),.string (af (b:Rat))] w fun e W'=>e = .returned (.tuple #[.string (af (bf ((a:Rat) / (b:Rat)))),.bool true])∧Below w.heap.size w W':=by
 by_cases e:a=b
 ·subst e
  rw [ug ha.1,DH,ig]
  exact we _ w
 ·have s90:=(pt (b:=a) (k:=90) (by decide)).2 la
  have t90:=(pt (b:=b) (k:=90) (by decide)).2 lb
  refine oV _ _ _ true w (sH fun k=>e (Rat.natCast_inj.1 k)) ?_ (by omega) (by omega) fun W h2 => ?_
  ·rcases Nat.lt_or_ge 4 (af (a:Rat)).size with l | l
   ·exact .inl l
   ·rcases Nat.lt_or_ge 4 (af (b:Rat)).size with m | m
    ·exact .inr m
    ·exact absurd (qV ha hb ((pt (by decide)).1 l) ((pt (by decide)).1 m) h) e
  ·exact zu (a:Rat) (b:Rat) W (aP a) (cz hb.1) (kw (aP a) (cz hb.1)) (bqN la (by decide)) (bqN lb (by decide)) h (ht.next h2) (ae ht2 h2)
theorem pw (a b:Nat) (w:World) (ha:Nrm a) (hb:Nrm b) (la:a<ak 90) (lb:b<ak 90) (h:¬ bG ((a:Rat) / (b:Rat))) (ht:Tab w) (ht2:aH w) :
  Calls Tryz.prog 170 #[.string (af (a:Rat)),.string (af (b:Rat))] w fun e W'=>e = .returned (.tuple #[.string ⟨#[]⟩,.bool false])∧Below w.heap.size w W':=by
 have e:a≠b:=fun e=>h (by rw [e,ug hb.1];exact sI)
 have ne:=sH (x:=(a:Rat)) (y:=(b:Rat)) fun k=>e (Rat.natCast_inj.1 k)
 have s90:=(pt (b:=a) (k:=90) (by decide)).2 la
 have t90:=(pt (b:=b) (k:=90) (by decide)).2 lb
 by_cases k:4<(af (a:Rat)).size∨4<(af (b:Rat)).size
 ·exact oV _ _ _ false w ne k (by omega) (by omega) fun W h2=>Bm (a:Rat) (b:Rat) W (aP a) (cz hb.1) (kw (aP a) (cz hb.1)) (bqN la (by decide)) (bqN lb (by decide)) h (ht.next h2) (ae ht2 h2)
 ·exact ua _ _ w ne (by omega) (by omega)
theorem sJ (t:Tm) (w:World) (h:GT t) (ht:Tab w) (ht2:aH w) (hS:Sm w) :
  Calls Tryz.prog 166 #[.agg #[.string (af t.1),.string (af t.2)]] w fun e W'=>e = .returned (.int .i64 0)∧Below w.heap.size w W':=by
 obtain ⟨c0,cb,b,e,nb,lb⟩:=h
 rw [e]
 have hb:=bqN lb (by decide)
 refine oW _ _ w (DG c0) (fun W hw => ?_) (fun W hw=>li _ _ W cb hb) (fun W hw=>sG b W nb lb (ht.next hw) (ae ht2 hw) (hS.next hw))
 refine lA _ _ W fun s W2 hs hw2 => ?_
 rcases hs with rfl | rfl
 ·exact jT t.1 W2 (cb.lim (by decide)) ((ht.next hw).next hw2) (ae (ae ht2 hw) hw2)
 ·exact jT (b:Rat) W2 (hb.lim (by decide)) ((ht.next hw).next hw2) (ae (ae ht2 hw) hw2)
structure Good (l:List Tm):Prop where
 len:l.length≤16
 ok:∀ t∈l,GT t
 asc:l.Pairwise fun s t=>s.2<t.2
 red:l.Pairwise fun s t=>¬ Rl s.2 t.2
theorem GT.pos {t:Tm} (h:GT t):0<t.2:=by obtain ⟨_,_,b,e,nb,_⟩:=h;rw [e];exact cz nb.1
theorem Good.Red {l:List Tm} (h:Good l):Red l:=⟨fun t ht=>(h.ok t ht).pos,h.red⟩
theorem qz (l:List Tm) (hl:Good l) (i:Nat) (hi:i<l.length) (p:Option Addr) (c:Nat) (w:World) (hx:Rd w p l) (ht:Tab w) (ht2:aH w) :
  Calls Tryz.prog 167 #[.string (af (tat l i).2),.slice p i c] w fun e W'=>e = .returned (.int .i64 0)∧Below w.heap.size w W':=by
 have hlen:=hl.len
 have hlt:(l.take i).length=i:=by rw [List.length_take];omega
 obtain ⟨_,_,a,ea,na,la⟩:=hl.ok _ (bV hi)
 have pr:∀ j,j<(l.take i).length→∃ b:Nat,(tat (l.take i) j).2=(b:Rat)∧Nrm b∧b<ak 40∧b<a∧¬ bG ((a:Rat) / (b:Rat)):=fun j hj=>by
  rw [hlt] at hj
  rw [oU hj]
  have hjl:j<l.length:=by omega
  obtain ⟨_,_,b,eb,nb,lb⟩:=hl.ok _ (bV hjl)
  have h1:=List.pairwise_iff_getElem.1 hl.asc j i hjl hi hj
  have h2:=List.pairwise_iff_getElem.1 hl.red j i hjl hi hj
  rw [←dV hjl,←dV hi,eb,ea] at h1 h2
  refine ⟨b,eb,nb,lb,Rat.natCast_lt_natCast.1 h1,fun k=>h2 ?_⟩
  exact ((nO (cz na.1) (cz nb.1)).1 k).symm
 rw [ea]
 have up:∀ {x:Nat},x<ak 40→x<ak 90:=fun h=>Nat.lt_of_lt_of_le h (aG (by decide))
 refine nE _ (l.take i) p i c w hlt.symm (by omega) (hx.take i) 1 (by decide) (fun j hj W hw => ?_) (fun j hj W hw => ?_)
 ·obtain ⟨b,eb,_,lb,ab,_⟩:=pr j hj
  rw [eb,dR,dR]
  have c1:=AQ a b W (aV (by decide) la) (aV (by decide) lb)
  have e1:bF (a:Int) (b:Int)=1:=by unfold bF;rw [if_neg (by omega),if_pos (by omega)]
  rwa [e1] at c1
 ·obtain ⟨b,eb,nb,lb,_,nr⟩:=pr j hj
  rw [eb]
  exact pw a b W na nb (up la) (up lb) nr (ht.next hw) (ae ht2 hw)
end T
namespace T
open Go.RowKit
theorem uh (c r nc nn pc:ByteArray) (w:World) (h90:nn.size≤90)
  (h1:∀ W,Below w.heap.size w W→Calls Tryz.prog 214 #[.string r] W fun e W'=>e = .returned (.tuple #[.string nc,.string nn,.int .i64 0])∧Below W.heap.size W W')
  (h2:∀ W,Below w.heap.size w W→Calls Tryz.prog 10 #[.string c,.string nc] W fun e W'=>e = .returned (.tuple #[.string pc,.int .i64 0])∧Below W.heap.size W W') :
  Calls Tryz.prog 168 #[.agg #[.string c,.string r]] w fun e W'=>e = .returned (.tuple #[.agg #[.string pc,.string nn],.int .i64 0])∧Below w.heap.size w W':=by
 have C:=Ha (Hb h1 h2);clear h1 h2
 have y1:¬ (90:Int)<nn.size:=by omega
 clear h90
 go_enter Tryz.func168,Tryz.ntmps168
 go_wp2_with fail
 have hbx:Bxs w w.heap.size [[.string c,.string r],[.string ⟨#[]⟩,.string ⟨#[]⟩]] ((w.alloc (.cells #[.string c,.string r] 43)).alloc (.cells #[.string ⟨#[]⟩,.string ⟨#[]⟩] 43)):=(((Bxs.nil w w (Below.refl _ _)).push rfl [.string c,.string r] 43).push (by simp) [.string ⟨#[]⟩,.string ⟨#[]⟩] 43)
 generalize ((w.alloc (.cells #[.string c,.string r] 43)).alloc (.cells #[.string ⟨#[]⟩,.string ⟨#[]⟩] 43))=W0 at *
 generalize hk:w.heap.size=k at *
 have HK:=Ha hk;clear hk
 have HB:=Ha hbx
 clear hbx
 have e00:=(show World.cell? _ ⟨k,0,none⟩=some (.string c) from HB.out.cells 0 _ rfl 0 _ rfl)
 have e01:=(show World.cell? _ ⟨k,1,none⟩=some (.string r) from HB.out.cells 0 _ rfl 1 _ rfl)
 have e10:=(show World.cell? _ ⟨k+1,0,none⟩=some (.string ⟨#[]⟩) from HB.out.cells 1 _ rfl 0 _ rfl)
 have f10:=(show World.frozen? _ ⟨k+1,0,none⟩=false from HB.out.frozen 1 (by simp) 0)
 have e11:=(show World.cell? _ ⟨k+1,1,none⟩=some (.string ⟨#[]⟩) from HB.out.cells 1 _ rfl 1 _ rfl)
 have f11:=(show World.frozen? _ ⟨k+1,1,none⟩=false from HB.out.frozen 1 (by simp) 1)
 refine (C.out.1 _ (by have:=HB.out.below;rwa [HK.out] at this)).mono ?_
 rintro e w1 ⟨rfl,b⟩
 replace HB:=Ha (HB.out.next b);clear b;have e00:=(show World.cell? _ ⟨k,0,none⟩=some (.string c) from HB.out.cells 0 _ rfl 0 _ rfl);have e01:=(show World.cell? _ ⟨k,1,none⟩=some (.string r) from HB.out.cells 0 _ rfl 1 _ rfl);have e10:=(show World.cell? _ ⟨k+1,0,none⟩=some (.string ⟨#[]⟩) from HB.out.cells 1 _ rfl 0 _ rfl);have f10:=(show World.frozen? _ ⟨k+1,0,none⟩=false from HB.out.frozen 1 (by simp) 0);have e11:=(show World.cell? _ ⟨k+1,1,none⟩=some (.string ⟨#[]⟩) from HB.out.cells 1 _ rfl 1 _ rfl);have f11:=(show World.frozen? _ ⟨k+1,1,none⟩=false from HB.out.frozen 1 (by simp) 1)
 go_wp2_with fail
 refine (C.out.2 _ (by have:=HB.out.below;rwa [HK.out] at this)).mono ?_
 rintro e w2 ⟨rfl,b⟩
 replace HB:=Ha (HB.out.next b);clear b;have e00:=(show World.cell? _ ⟨k,0,none⟩=some (.string c) from HB.out.cells 0 _ rfl 0 _ rfl);have e01:=(show World.cell? _ ⟨k,1,none⟩=some (.string r) from HB.out.cells 0 _ rfl 1 _ rfl);have e10:=(show World.cell? _ ⟨k+1,0,none⟩=some (.string ⟨#[]⟩) from HB.out.cells 1 _ rfl 0 _ rfl);have f10:=(show World.frozen? _ ⟨k+1,0,none⟩=false from HB.out.frozen 1 (by simp) 0);have e11:=(show World.cell? _ ⟨k+1,1,none⟩=some (.string ⟨#[]⟩) from HB.out.cells 1 _ rfl 1 _ rfl);have f11:=(show World.frozen? _ ⟨k+1,1,none⟩=false from HB.out.frozen 1 (by simp) 1)
 obtain ⟨g0,g1⟩:=vM e10 e11 (.string pc) (.string nn)
 go_wp2
 refine bodyPost_ret (v := .tuple #[.agg #[.string pc,.string nn],.int .i64 0]) (by simp [results,Tryz.results168,go_sem,g0,g1]) rfl ?_
 refine ⟨rfl,?_⟩
 have hbl:=HB.out.below
 rw [HK.out] at hbl ⊢
 exact bi hbl (by omega) _ _
theorem sK (a b c d x y:ByteArray) (w:World)
  (h1:∀ W,Below w.heap.size w W→Calls Tryz.prog 10 #[.string a,.string c] W fun e W'=>e = .returned (.tuple #[.string x,.int .i64 0])∧Below W.heap.size W W')
  (h2:∀ W,Below w.heap.size w W→Calls Tryz.prog 10 #[.string b,.string d] W fun e W'=>e = .returned (.tuple #[.string y,.int .i64 0])∧Below W.heap.size W W') :
  Calls Tryz.prog 68 #[.agg #[.string a,.string b],.agg #[.string c,.string d]] w fun e W'=>e = .returned (.agg #[.string x,.string y])∧Below w.heap.size w W':=by
 have C:=Ha (Hb h1 h2);clear h1 h2
 go_enter Tryz.func68,Tryz.ntmps68
 go_wp2_with fail
 have hbx:Bxs w w.heap.size [[.string a,.string b],[.string c,.string d],[.string ⟨#[]⟩,.string ⟨#[]⟩]] (((w.alloc (.cells #[.string a,.string b] 43)).alloc (.cells #[.string c,.string d] 43)).alloc (.cells #[.string ⟨#[]⟩,.string ⟨#[]⟩] 43)):=((((Bxs.nil w w (Below.refl _ _)).push rfl [.string a,.string b] 43).push (by simp) [.string c,.string d] 43).push (by simp) [.string ⟨#[]⟩,.string ⟨#[]⟩] 43)
 generalize (((w.alloc (.cells #[.string a,.string b] 43)).alloc (.cells #[.string c,.string d] 43)).alloc (.cells #[.string ⟨#[]⟩,.string ⟨#[]⟩] 43))=W0 at *
 generalize hk:w.heap.size=k at *
 have HK:=Ha hk;clear hk
 have HB:=Ha hbx
 clear hbx
 have e00:=(show World.cell? _ ⟨k,0,none⟩=some (.string a) from HB.out.cells 0 _ rfl 0 _ rfl)
 have e01:=(show World.cell? _ ⟨k,1,none⟩=some (.string b) from HB.out.cells 0 _ rfl 1 _ rfl)
 have e10:=(show World.cell? _ ⟨k+1,0,none⟩=some (.string c) from HB.out.cells 1 _ rfl 0 _ rfl)
 have e11:=(show World.cell? _ ⟨k+1,1,none⟩=some (.string d) from HB.out.cells 1 _ rfl 1 _ rfl)
 have e20:=(show World.cell? _ ⟨k+1+1,0,none⟩=some (.string ⟨#[]⟩) from HB.out.cells 2 _ rfl 0 _ rfl)
 have f20:=(show World.frozen? _ ⟨k+1+1,0,none⟩=false from HB.out.frozen 2 (by simp) 0)
 have e21:=(show World.cell? _ ⟨k+1+1,1,none⟩=some (.string ⟨#[]⟩) from HB.out.cells 2 _ rfl 1 _ rfl)
 have f21:=(show World.frozen? _ ⟨k+1+1,1,none⟩=false from HB.out.frozen 2 (by simp) 1)
 refine (C.out.1 _ (by have:=HB.out.below;rwa [HK.out] at this)).mono ?_
 rintro e w1 ⟨rfl,bx⟩
 replace HB:=Ha (HB.out.next bx);clear bx;have e00:=(show World.cell? _ ⟨k,0,none⟩=some (.string a) from HB.out.cells 0 _ rfl 0 _ rfl);have e01:=(show World.cell? _ ⟨k,1,none⟩=some (.string b) from HB.out.cells 0 _ rfl 1 _ rfl);have e10:=(show World.cell? _ ⟨k+1,0,none⟩=some (.string c) from HB.out.cells 1 _ rfl 0 _ rfl);have e11:=(show World.cell? _ ⟨k+1,1,none⟩=some (.string d) from HB.out.cells 1 _ rfl 1 _ rfl);have e20:=(show World.cell? _ ⟨k+1+1,0,none⟩=some (.string ⟨#[]⟩) from HB.out.cells 2 _ rfl 0 _ rfl);have f20:=(show World.frozen? _ ⟨k+1+1,0,none⟩=false from HB.out.frozen 2 (by simp) 0);have e21:=(show World.cell? _ ⟨k+1+1,1,none⟩=some (.string ⟨#[]⟩) from HB.out.cells 2 _ rfl 1 _ rfl);have f21:=(show World.frozen? _ ⟨k+1+1,1,none⟩=false from HB.out.frozen 2 (by simp) 1)
 go_wp2_with fail
 refine (C.out.2 _ (by have:=HB.out.below;rwa [HK.out] at this)).mono ?_
 rintro e w2 ⟨rfl,bx⟩
 replace HB:=Ha (HB.out.next bx);clear bx;have e00:=(show World.cell? _ ⟨k,0,none⟩=some (.string a) from HB.out.cells 0 _ rfl 0 _ rfl);have e01:=(show World.cell? _ ⟨k,1,none⟩=some (.string b) from HB.out.cells 0 _ rfl 1 _ rfl);have e10:=(show World.cell? _ ⟨k+1,0,none⟩=some (.string c) from HB.out.cells 1 _ rfl 0 _ rfl);have e11:=(show World.cell? _ ⟨k+1,1,none⟩=some (.string d) from HB.out.cells 1 _ rfl 1 _ rfl);have e20:=(show World.cell? _ ⟨k+1+1,0,none⟩=some (.string ⟨#[]⟩) from HB.out.cells 2 _ rfl 0 _ rfl);have f20:=(show World.frozen? _ ⟨k+1+1,0,none⟩=false from HB.out.frozen 2 (by simp) 0);have e21:=(show World.cell? _ ⟨k+1+1,1,none⟩=some (.string ⟨#[]⟩) from HB.out.cells 2 _ rfl 1 _ rfl);have f21:=(show World.frozen? _ ⟨k+1+1,1,none⟩=false from HB.out.frozen 2 (by simp) 1)
 obtain ⟨g0,g1⟩:=vM e20 e21 (.string x) (.string y)
 go_wp2
 refine bodyPost_ret (v := .agg #[.string x,.string y]) (by simp [results,Tryz.results68,go_sem,g0,g1]) rfl ?_
 refine ⟨rfl,?_⟩
 have hbl:=HB.out.below
 rw [HK.out] at hbl ⊢
 exact bi hbl (by omega) _ _
theorem wn (c r:ByteArray) (f:Bool) (w:World) (hf:(c.toList == [48])=f) :
  Calls Tryz.prog 172 #[.agg #[.string c,.string r]] w fun e W'=>e = .returned (.bool f)∧Below w.heap.size w W':=by
 go_enter Tryz.func172,Tryz.ntmps172
 go_wp2
 go_ret
 exact ⟨rfl,(Below.refl _ w).alloc (Nat.le_refl _) _⟩
end T
namespace T
open Go.RowKit
def Q4 (w:World) (k x y:Nat) (a b c d t r:ByteArray) (W:World):Prop:=Blk W x #[.string a,.string b]∧Blk W y #[.string c,.string d]∧Blk W k #[.string t,.string r]∧Below k w W
theorem Q4.f {w W:World} {k x y:Nat} {a b c d t r:ByteArray} (H:Hid (Q4 w k x y a b c d t r W)):W.cell? ⟨x,0,none⟩=some (.string a)∧W.cell? ⟨x,1,none⟩=some (.string b)∧W.frozen? ⟨x,0,none⟩=false∧W.frozen? ⟨x,1,none⟩=false ∧
  W.cell? ⟨y,0,none⟩=some (.string c)∧W.cell? ⟨y,1,none⟩=some (.string d)∧W.frozen? ⟨y,0,none⟩=false∧W.frozen? ⟨y,1,none⟩=false :=
 have h:=H.out
 ⟨h.1.cell 0 _ rfl,h.1.cell 1 _ rfl,h.1.free 0,h.1.free 1,h.2.1.cell 0 _ rfl,h.2.1.cell 1 _ rfl,h.2.1.free 0,h.2.1.free 1⟩
theorem Q4.n {w W W':World} {k x y:Nat} {a b c d t r:ByteArray} (H:Hid (Q4 w k x y a b c d t r W)) (g:Below W.heap.size W W'):Hid (Q4 w k x y a b c d t r W') :=
 have h:=H.out
 Ha ⟨h.1.next g,h.2.1.next g,h.2.2.1.next g,h.2.2.2.trans (g.mono (Nat.le_of_lt h.2.2.1.lt))⟩
theorem Q4.s {w W:World} {k x y:Nat} {a b c d t r:ByteArray} (H:Hid (Q4 w k x y a b c d t r W)) (xy:x≠y) (kx:k<x) (ky:k<y) :
  Hid (Q4 w k x y c d a b t r ((((W.setCell ⟨x,0,none⟩ (.string c)).setCell ⟨x,1,none⟩ (.string d)).setCell ⟨y,0,none⟩ (.string a)).setCell ⟨y,1,none⟩ (.string b))) :=
 have h:=H.out
 Ha ⟨(h.1.put2 _ _).other2 xy _ _,(h.2.1.other2 xy.symm _ _).put2 _ _,(h.2.2.1.other2 (Nat.ne_of_lt kx) _ _).other2 (Nat.ne_of_lt ky) _ _,bi (bi h.2.2.2 (Nat.le_of_lt kx) _ _) (Nat.le_of_lt ky) _ _⟩
def Q3 (w:World) (k m:Nat) (t r a b:ByteArray) (u:World):Prop:=Blk u k #[.string t,.string r]∧Blk u m #[.string a,.string b]∧Below k w u
theorem Q3.a {w W:World} {k:Nat} {t r:ByteArray} (H:Hid (Blk W k #[.string t,.string r]∧Below k w W)) (a b:ByteArray) (ty:TypeId):Hid (Q3 w k W.heap.size t r a b (W.alloc (.cells #[.string a,.string b] ty))) :=
 Ha ⟨H.out.1.alloc _,Blk.new _ _ _,H.out.2.alloc (Nat.le_of_lt H.out.1.lt) _⟩
theorem Q3.p {w u:World} {k m:Nat} {t r a b:ByteArray} (H:Hid (Q3 w k m t r a b u)) (o:Obj):u.cell? ⟨k,0,none⟩=some (.string t)∧u.cell? ⟨k,1,none⟩=some (.string r)∧u.cell? ⟨m,0,none⟩=some (.string a)∧u.cell? ⟨m,1,none⟩=some (.string b)∧(k<u.heap.size∧m<u.heap.size) ∧
  (k≠u.heap.size∧k≠u.heap.size+1∧m≠u.heap.size∧m≠u.heap.size+1)∧((u.alloc o).alloc o).drew.cell? ⟨k,0,none⟩=some (.string t)∧((u.alloc o).alloc o).drew.cell? ⟨k,1,none⟩=some (.string r)∧((u.alloc o).alloc o).drew.cell? ⟨m,0,none⟩=some (.string a)∧((u.alloc o).alloc o).drew.cell? ⟨m,1,none⟩=some (.string b):=by
 have h:=H.out
 have e0:=h.1.cell 0 _ rfl
 have e1:=h.1.cell 1 _ rfl
 have f0:=h.2.1.cell 0 _ rfl
 have f1:=h.2.1.cell 1 _ rfl
 have l1:=h.1.lt
 have l2:=h.2.1.lt
 exact ⟨e0,e1,f0,f1,⟨l1,l2⟩,⟨by omega,by omega,by omega,by omega⟩,q8 (alc e0),q8 (alc e1),q8 (alc f0),q8 (alc f1)⟩
theorem Q3.e {w u:World} {k m:Nat} {t r a' b':ByteArray} (H:Hid (Q3 w k m t r a' b' u)) (a b c d:ByteArray) (ty:TypeId) :
  Hid (Q4 w k u.heap.size (u.heap.size+1) a b c d t r ((u.alloc (.cells #[.string a,.string b] ty)).alloc (.cells #[.string c,.string d] ty)).drew):=by
 have h:=H.out
 have l1:=h.1.lt
 have g:=Blk.new (u.alloc (.cells #[.string a,.string b] ty)) #[.string c,.string d] ty
 rw [show (u.alloc (.cells #[.string a,.string b] ty)).heap.size=u.heap.size+1 by simp] at g
 exact Ha ⟨((Blk.new u _ ty).alloc _).drew,g.drew,((h.1.alloc _).alloc _).drew,((h.2.2.alloc (Nat.le_of_lt l1) _).alloc (by simp;omega) _).drew⟩
theorem Q4.r {w W:World} {k x y:Nat} {a b c d t r:ByteArray} (H:Hid (Q4 w k x y a b c d t r W)):Hid (Q4 w k y x c d a b t r W):=Ha ⟨H.out.2.1,H.out.1,H.out.2.2⟩
theorem wq (bb n c q:Nat) (sc sr:Nat→ByteArray) (tc tr:ByteArray) (x:Nat→Int) (w:World)
  (hb:bb<w.heap.size) (hc0:∀ j,j<n→w.cell? ⟨bb,j*2,none⟩=some (.string (sc j))) (hc1:∀ j,j<n→w.cell? ⟨bb,j*2+1,none⟩=some (.string (sr j))) (hf:∀ i,w.frozen? ⟨bb,i,none⟩=false) (hq:q<n) (hn:n≤1000) (cs pc sm rr:ByteArray) (hrr:sr q=rr) (hxq:¬ 0<x q)
  (hO:∀ j,j<n→∀ W,Below w.heap.size w W→Calls Tryz.prog 169 #[.string (sr j),.string tr] W fun e W'=>e = .returned (.int .i64 (x j))∧Below W.heap.size W W')
  (hRp:∀ j,j<q→0<x j→∀ W,Below w.heap.size w W→Calls Tryz.prog 170 #[.string (sr j),.string tr] W fun e W'=>e = .returned (.tuple #[.string ⟨#[]⟩,.bool false])∧Below W.heap.size W W')
  (hRn:∀ j,j<q→¬ 0<x j→∀ W,Below w.heap.size w W→Calls Tryz.prog 170 #[.string tr,.string (sr j)] W fun e W'=>e = .returned (.tuple #[.string ⟨#[]⟩,.bool false])∧Below W.heap.size W W')
  (hR:∀ W,Below w.heap.size w W→Calls Tryz.prog 170 #[.string tr,.string (sr q)] W fun e W'=>e = .returned (.tuple #[.string cs,.bool true])∧Below W.heap.size W W')
  (hM:∀ W,Below w.heap.size w W→Calls Tryz.prog 10 #[.string tc,.string cs] W fun e W'=>e = .returned (.tuple #[.string pc,.int .i64 0])∧Below W.heap.size W W')
  (hA:∀ W,Below w.heap.size w W→Calls Tryz.prog 9 #[.string (sc q),.string pc] W fun e W'=>e = .returned (.tuple #[.string sm,.int .i64 0])∧Below W.heap.size W W') :
  Calls Tryz.prog 116 #[.slice (some ⟨bb,0,none⟩) n c,.agg #[.string tc,.string tr]] w fun e W'=>e = .returned (.tuple #[.slice (some ⟨bb,0,none⟩) n c,.int .i64 0])∧∃ W1,Below w.heap.size w W1∧W'=(W1.setCell ⟨bb,q*2,none⟩ (.string sm)).setCell ⟨bb,q*2+1,none⟩ (.string rr):=by
 have E:=Ha hrr;clear hrr
 have O:=Ha (Hb hO (Hb hRp hRn));clear hO hRp hRn
 have O2:=Ha (Hb hR (Hb hM hA));clear hR hM hA
 have HT:=Ha (Hb hb (Hb hc0 (Hb hc1 hf)))
 clear hb hc0 hc1
 clear hf
 go_enter Tryz.func116,Tryz.ntmps116
 go_wp2
 have HB:=Ha (Hb (Blk.new w #[.string tc,.string tr] 43) ((Below.refl _ w).alloc (Nat.le_refl _) (.cells #[.string tc,.string tr] 43)))
 generalize w.alloc (.cells #[.string tc,.string tr] 43)=W0 at *
 generalize hk:w.heap.size=k at *
 have HK:=Ha hk;clear hk
 go_loopw [16] (fun i wr=>∃ j:Nat,i = .int .i64 j∧j≤q∧Hid (Blk wr k #[.string tc,.string tr]∧Below k w wr)) (fun i _=>n - (intOf i).toNat)
 case atStart=>exact ⟨0,rfl,by omega,HB.out⟩
 case round =>
  clear HB
  obtain ⟨j,rfl,hj,HB⟩:=hrel
  by_cases hlt:j<q
  ·have hz:(j:Int)<n:=by omega
   have d0:=(HB.out.2.cell (p:=⟨bb,j*2,none⟩) HT.out.1).trans (HT.out.2.1 j (by omega))
   have d1:=(HB.out.2.cell (p:=⟨bb,j*2+1,none⟩) HT.out.1).trans (HT.out.2.2.1 j (by omega))
   have hO:=Ha (O.out.1 j (by omega))
   clear hxq O2 E
   by_cases hx:0<x j
   ·have hR:=Ha (O.out.2.1 j hlt hx)
    generalize x j=xj at *
    generalize hsc:sc j=sc at *
    generalize hsr:sr j=sr at *
    clear hsc hsr
    go_wp2
    replace HB:=Q3.a HB sc sr 43
    clear d0 d1
    generalize wr.alloc (.cells #[.string sc,.string sr] 43)=u at *
    generalize wr.heap.size=m at *
    obtain ⟨e0,e1,f0,f1,⟨kn,mn⟩,⟨k1,k2,m1,m2⟩,g0,g1,i0,i1⟩:=Q3.p HB (.cells #[.string ⟨#[]⟩,.string ⟨#[]⟩] 43)
    go_region
    ·replace HB:=Q3.e HB sc sr tc tr 43
     generalize ((u.alloc (.cells #[.string sc,.string sr] 43)).alloc (.cells #[.string tc,.string tr] 43)).drew=W at *
     generalize u.heap.size=s at *
     clear e0 e1 f0 f1 g0 g1 i0 i1 k1 k2 m1 m2
     obtain ⟨l0,l1,fl0,fl1,h0,h1,fh0,fh1⟩:=Q4.f HB
     go_wp2_with fail
     refine (hO.out _ HB.out.2.2.2).mono ?_
     rintro e W2 ⟨rfl,b⟩
     replace HB:=Q4.n HB b;clear b l0 l1 h0 h1 fl0 fl1 fh0 fh1;obtain ⟨l0,l1,fl0,fl1,h0,h1,fh0,fh1⟩:=Q4.f HB
     go_wp2_with fail
     replace HB:=Q4.s HB (by omega) (by omega) (by omega)
     clear l0 l1 h0 h1 fl0 fl1 fh0 fh1
     generalize (((W2.setCell ⟨s,0,none⟩ (.string tc)).setCell ⟨s,1,none⟩ (.string tr)).setCell ⟨s+1,0,none⟩ (.string sc)).setCell ⟨s+1,1,none⟩ (.string sr)=W3 at *
     obtain ⟨l0,l1,fl0,fl1,h0,h1,fh0,fh1⟩:=Q4.f HB
     refine (hR.out _ HB.out.2.2.2).mono ?_
     rintro e W4 ⟨rfl,b⟩
     replace HB:=Q4.n HB b;clear b l0 l1 h0 h1 fl0 fl1 fh0 fh1;obtain ⟨l0,l1,fl0,fl1,h0,h1,fh0,fh1⟩:=Q4.f HB
     go_wp2
     go_roundw
     case rel=>exact ⟨j+1,by go_num,by omega,HB.out.2.2⟩
     case measure=>simp [intOf];omega
    ·replace HB:=Q4.r (Q3.e HB tc tr sc sr 43)
     generalize ((u.alloc (.cells #[.string tc,.string tr] 43)).alloc (.cells #[.string sc,.string sr] 43)).drew=W at *
     generalize u.heap.size=s at *
     clear e0 e1 f0 f1 g0 g1 i0 i1 k1 k2 m1 m2
     obtain ⟨l0,l1,fl0,fl1,h0,h1,fh0,fh1⟩:=Q4.f HB
     go_wp2_with fail
     refine (hO.out _ HB.out.2.2.2).mono ?_
     rintro e W2 ⟨rfl,b⟩
     replace HB:=Q4.n HB b;clear b l0 l1 h0 h1 fl0 fl1 fh0 fh1;obtain ⟨l0,l1,fl0,fl1,h0,h1,fh0,fh1⟩:=Q4.f HB
     go_wp2_with fail
     replace HB:=Q4.s HB (by omega) (by omega) (by omega)
     clear l0 l1 h0 h1 fl0 fl1 fh0 fh1
     generalize (((W2.setCell ⟨s+1,0,none⟩ (.string tc)).setCell ⟨s+1,1,none⟩ (.string tr)).setCell ⟨s,0,none⟩ (.string sc)).setCell ⟨s,1,none⟩ (.string sr)=W3 at *
     obtain ⟨l0,l1,fl0,fl1,h0,h1,fh0,fh1⟩:=Q4.f HB
     refine (hR.out _ HB.out.2.2.2).mono ?_
     rintro e W4 ⟨rfl,b⟩
     replace HB:=Q4.n HB b;clear b l0 l1 h0 h1 fl0 fl1 fh0 fh1;obtain ⟨l0,l1,fl0,fl1,h0,h1,fh0,fh1⟩:=Q4.f HB
     go_wp2
     go_roundw
     case rel=>exact ⟨j+1,by go_num,by omega,HB.out.2.2⟩
     case measure=>simp [intOf];omega
   ·have hR:=Ha (O.out.2.2 j hlt (by omega))
    generalize x j=xj at *
    generalize hsc:sc j=sc at *
    generalize hsr:sr j=sr at *
    clear hsc hsr
    go_wp2
    replace HB:=Q3.a HB sc sr 43
    clear d0 d1
    generalize wr.alloc (.cells #[.string sc,.string sr] 43)=u at *
    generalize wr.heap.size=m at *
    obtain ⟨e0,e1,f0,f1,⟨kn,mn⟩,⟨k1,k2,m1,m2⟩,g0,g1,i0,i1⟩:=Q3.p HB (.cells #[.string ⟨#[]⟩,.string ⟨#[]⟩] 43)
    go_region
    ·replace HB:=Q3.e HB sc sr tc tr 43
     generalize ((u.alloc (.cells #[.string sc,.string sr] 43)).alloc (.cells #[.string tc,.string tr] 43)).drew=W at *
     generalize u.heap.size=s at *
     clear e0 e1 f0 f1 g0 g1 i0 i1 k1 k2 m1 m2
     obtain ⟨l0,l1,fl0,fl1,h0,h1,fh0,fh1⟩:=Q4.f HB
     go_wp2_with fail
     refine (hO.out _ HB.out.2.2.2).mono ?_
     rintro e W2 ⟨rfl,b⟩
     replace HB:=Q4.n HB b;clear b l0 l1 h0 h1 fl0 fl1 fh0 fh1;obtain ⟨l0,l1,fl0,fl1,h0,h1,fh0,fh1⟩:=Q4.f HB
     go_wp2_with fail
     refine (hR.out _ HB.out.2.2.2).mono ?_
     rintro e W4 ⟨rfl,b⟩
     replace HB:=Q4.n HB b;clear b l0 l1 h0 h1 fl0 fl1 fh0 fh1;obtain ⟨l0,l1,fl0,fl1,h0,h1,fh0,fh1⟩:=Q4.f HB
     go_wp2
     go_roundw
     case rel=>exact ⟨j+1,by go_num,by omega,HB.out.2.2⟩
     case measure=>simp [intOf];omega
    ·replace HB:=Q4.r (Q3.e HB tc tr sc sr 43)
     generalize ((u.alloc (.cells #[.string tc,.string tr] 43)).alloc (.cells #[.string sc,.string sr] 43)).drew=W at *
     generalize u.heap.size=s at *
     clear e0 e1 f0 f1 g0 g1 i0 i1 k1 k2 m1 m2
     obtain ⟨l0,l1,fl0,fl1,h0,h1,fh0,fh1⟩:=Q4.f HB
     go_wp2_with fail
     refine (hO.out _ HB.out.2.2.2).mono ?_
     rintro e W2 ⟨rfl,b⟩
     replace HB:=Q4.n HB b;clear b l0 l1 h0 h1 fl0 fl1 fh0 fh1;obtain ⟨l0,l1,fl0,fl1,h0,h1,fh0,fh1⟩:=Q4.f HB
     go_wp2_with fail
     refine (hR.out _ HB.out.2.2.2).mono ?_
     rintro e W4 ⟨rfl,b⟩
     replace HB:=Q4.n HB b;clear b l0 l1 h0 h1 fl0 fl1 fh0 fh1;obtain ⟨l0,l1,fl0,fl1,h0,h1,fh0,fh1⟩:=Q4.f HB
     go_wp2
     go_roundw
     case rel=>exact ⟨j+1,by go_num,by omega,HB.out.2.2⟩
     case measure=>simp [intOf];omega
  ·obtain rfl:j=q:=by omega
   have hz:(j:Int)<n:=by omega
   have d0:=(HB.out.2.cell (p:=⟨bb,j*2,none⟩) HT.out.1).trans (HT.out.2.1 j (by omega))
   have d1:=(HB.out.2.cell (p:=⟨bb,j*2+1,none⟩) HT.out.1).trans (HT.out.2.2.1 j (by omega))
   have hO:=Ha (O.out.1 j (by omega))
   have hR:=Ha O2.out.1
   have hM:=Ha O2.out.2.1
   have hA:=Ha O2.out.2.2
   clear O2 O
   generalize x j=xj at *
   generalize sc j=sc at *
   generalize sr j=sr at *
   go_wp2
   replace HB:=Q3.a HB sc sr 43
   clear d0 d1
   generalize wr.alloc (.cells #[.string sc,.string sr] 43)=u at *
   generalize wr.heap.size=m at *
   obtain ⟨e0,e1,f0,f1,⟨kn,mn⟩,⟨k1,k2,m1,m2⟩,g0,g1,i0,i1⟩:=Q3.p HB (.cells #[.string ⟨#[]⟩,.string ⟨#[]⟩] 43)
   go_region
   ·replace HB:=Q3.e HB sc sr tc tr 43
    generalize ((u.alloc (.cells #[.string sc,.string sr] 43)).alloc (.cells #[.string tc,.string tr] 43)).drew=W at *
    generalize u.heap.size=s at *
    clear e0 e1 f0 f1 g0 g1 i0 i1 k1 k2 m1 m2
    obtain ⟨l0,l1,fl0,fl1,h0,h1,fh0,fh1⟩:=Q4.f HB
    go_wp2_with fail
    refine (hO.out _ HB.out.2.2.2).mono ?_
    rintro e W2 ⟨rfl,b⟩
    replace HB:=Q4.n HB b;clear b l0 l1 h0 h1 fl0 fl1 fh0 fh1;obtain ⟨l0,l1,fl0,fl1,h0,h1,fh0,fh1⟩:=Q4.f HB
    go_wp2_with fail
    refine (hR.out _ HB.out.2.2.2).mono ?_
    rintro e W4 ⟨rfl,b⟩
    replace HB:=Q4.n HB b;clear b l0 l1 h0 h1 fl0 fl1 fh0 fh1;obtain ⟨l0,l1,fl0,fl1,h0,h1,fh0,fh1⟩:=Q4.f HB
    go_wp2_with fail
    refine (hM.out _ HB.out.2.2.2).mono ?_
    rintro e W5 ⟨rfl,b⟩
    replace HB:=Q4.n HB b;clear b l0 l1 h0 h1 fl0 fl1 fh0 fh1;obtain ⟨l0,l1,fl0,fl1,h0,h1,fh0,fh1⟩:=Q4.f HB
    go_wp2_with fail
    refine (hA.out _ HB.out.2.2.2).mono ?_
    rintro e W6 ⟨rfl,b⟩
    replace HB:=Q4.n HB b;clear b l0 l1 h0 h1 fl0 fl1 fh0 fh1;obtain ⟨l0,l1,fl0,fl1,h0,h1,fh0,fh1⟩:=Q4.f HB
    have q0:=(HB.out.2.2.2.cell (p:=⟨bb,j*2,none⟩) HT.out.1).trans (HT.out.2.1 j (by omega))
    have q1:=(HB.out.2.2.2.cell (p:=⟨bb,j*2+1,none⟩) HT.out.1).trans (HT.out.2.2.1 j (by omega))
    have fq0:=(HB.out.2.2.2.frozen (p:=⟨bb,j*2,none⟩) HT.out.1).trans (HT.out.2.2.2 (j*2))
    have fq1:=(HB.out.2.2.2.frozen (p:=⟨bb,j*2+1,none⟩) HT.out.1).trans (HT.out.2.2.2 (j*2+1))
    go_wp2
    go_ret2
    have hbl:=HB.out.2.2.2
    rw [←HK.out] at hbl
    exact ⟨rfl,W6,hbl,by rw [E.out]⟩
   ·replace HB:=Q4.r (Q3.e HB tc tr sc sr 43)
    generalize ((u.alloc (.cells #[.string tc,.string tr] 43)).alloc (.cells #[.string sc,.string sr] 43)).drew=W at *
    generalize u.heap.size=s at *
    clear e0 e1 f0 f1 g0 g1 i0 i1 k1 k2 m1 m2
    obtain ⟨l0,l1,fl0,fl1,h0,h1,fh0,fh1⟩:=Q4.f HB
    go_wp2_with fail
    refine (hO.out _ HB.out.2.2.2).mono ?_
    rintro e W2 ⟨rfl,b⟩
    replace HB:=Q4.n HB b;clear b l0 l1 h0 h1 fl0 fl1 fh0 fh1;obtain ⟨l0,l1,fl0,fl1,h0,h1,fh0,fh1⟩:=Q4.f HB
    go_wp2_with fail
    refine (hR.out _ HB.out.2.2.2).mono ?_
    rintro e W4 ⟨rfl,b⟩
    replace HB:=Q4.n HB b;clear b l0 l1 h0 h1 fl0 fl1 fh0 fh1;obtain ⟨l0,l1,fl0,fl1,h0,h1,fh0,fh1⟩:=Q4.f HB
    go_wp2_with fail
    refine (hM.out _ HB.out.2.2.2).mono ?_
    rintro e W5 ⟨rfl,b⟩
    replace HB:=Q4.n HB b;clear b l0 l1 h0 h1 fl0 fl1 fh0 fh1;obtain ⟨l0,l1,fl0,fl1,h0,h1,fh0,fh1⟩:=Q4.f HB
    go_wp2_with fail
    refine (hA.out _ HB.out.2.2.2).mono ?_
    rintro e W6 ⟨rfl,b⟩
    replace HB:=Q4.n HB b;clear b l0 l1 h0 h1 fl0 fl1 fh0 fh1;obtain ⟨l0,l1,fl0,fl1,h0,h1,fh0,fh1⟩:=Q4.f HB
    have q0:=(HB.out.2.2.2.cell (p:=⟨bb,j*2,none⟩) HT.out.1).trans (HT.out.2.1 j (by omega))
    have q1:=(HB.out.2.2.2.cell (p:=⟨bb,j*2+1,none⟩) HT.out.1).trans (HT.out.2.2.1 j (by omega))
    have fq0:=(HB.out.2.2.2.frozen (p:=⟨bb,j*2,none⟩) HT.out.1).trans (HT.out.2.2.2 (j*2))
    have fq1:=(HB.out.2.2.2.frozen (p:=⟨bb,j*2+1,none⟩) HT.out.1).trans (HT.out.2.2.2 (j*2+1))
    go_wp2
    go_ret2
    have hbl:=HB.out.2.2.2
    rw [←HK.out] at hbl
    exact ⟨rfl,W6,hbl,by rw [E.out]⟩
theorem ws (bb n c q:Nat) (sc sr:Nat→ByteArray) (tc tr:ByteArray) (x:Nat→Int) (w:World)
  (hb:bb<w.heap.size) (hc0:∀ j,j<n→w.cell? ⟨bb,j*2,none⟩=some (.string (sc j))) (hc1:∀ j,j<n→w.cell? ⟨bb,j*2+1,none⟩=some (.string (sr j))) (hf:∀ i,w.frozen? ⟨bb,i,none⟩=false) (hq:q<n) (hn:n≤1000) (cs pc sm rr:ByteArray) (hrr:tr=rr) (hxq:0<x q)
  (hO:∀ j,j<n→∀ W,Below w.heap.size w W→Calls Tryz.prog 169 #[.string (sr j),.string tr] W fun e W'=>e = .returned (.int .i64 (x j))∧Below W.heap.size W W')
  (hRp:∀ j,j<q→0<x j→∀ W,Below w.heap.size w W→Calls Tryz.prog 170 #[.string (sr j),.string tr] W fun e W'=>e = .returned (.tuple #[.string ⟨#[]⟩,.bool false])∧Below W.heap.size W W')
  (hRn:∀ j,j<q→¬ 0<x j→∀ W,Below w.heap.size w W→Calls Tryz.prog 170 #[.string tr,.string (sr j)] W fun e W'=>e = .returned (.tuple #[.string ⟨#[]⟩,.bool false])∧Below W.heap.size W W')
  (hR:∀ W,Below w.heap.size w W→Calls Tryz.prog 170 #[.string (sr q),.string tr] W fun e W'=>e = .returned (.tuple #[.string cs,.bool true])∧Below W.heap.size W W')
  (hM:∀ W,Below w.heap.size w W→Calls Tryz.prog 10 #[.string (sc q),.string cs] W fun e W'=>e = .returned (.tuple #[.string pc,.int .i64 0])∧Below W.heap.size W W')
  (hA:∀ W,Below w.heap.size w W→Calls Tryz.prog 9 #[.string tc,.string pc] W fun e W'=>e = .returned (.tuple #[.string sm,.int .i64 0])∧Below W.heap.size W W') :
  Calls Tryz.prog 116 #[.slice (some ⟨bb,0,none⟩) n c,.agg #[.string tc,.string tr]] w fun e W'=>e = .returned (.tuple #[.slice (some ⟨bb,0,none⟩) n c,.int .i64 0])∧∃ W1,Below w.heap.size w W1∧W'=(W1.setCell ⟨bb,q*2,none⟩ (.string sm)).setCell ⟨bb,q*2+1,none⟩ (.string rr):=by
 have E:=Ha hrr;clear hrr
 have O:=Ha (Hb hO (Hb hRp hRn));clear hO hRp hRn
 have O2:=Ha (Hb hR (Hb hM hA));clear hR hM hA
 have HT:=Ha (Hb hb (Hb hc0 (Hb hc1 hf)))
 clear hb hc0 hc1
 clear hf
 go_enter Tryz.func116,Tryz.ntmps116
 go_wp2
 have HB:=Ha (Hb (Blk.new w #[.string tc,.string tr] 43) ((Below.refl _ w).alloc (Nat.le_refl _) (.cells #[.string tc,.string tr] 43)))
 generalize w.alloc (.cells #[.string tc,.string tr] 43)=W0 at *
 generalize hk:w.heap.size=k at *
 have HK:=Ha hk;clear hk
 go_loopw [16] (fun i wr=>∃ j:Nat,i = .int .i64 j∧j≤q∧Hid (Blk wr k #[.string tc,.string tr]∧Below k w wr)) (fun i _=>n - (intOf i).toNat)
 case atStart=>exact ⟨0,rfl,by omega,HB.out⟩
 case round =>
  clear HB
  obtain ⟨j,rfl,hj,HB⟩:=hrel
  by_cases hlt:j<q
  ·have hz:(j:Int)<n:=by omega
   have d0:=(HB.out.2.cell (p:=⟨bb,j*2,none⟩) HT.out.1).trans (HT.out.2.1 j (by omega))
   have d1:=(HB.out.2.cell (p:=⟨bb,j*2+1,none⟩) HT.out.1).trans (HT.out.2.2.1 j (by omega))
   have hO:=Ha (O.out.1 j (by omega))
   clear hxq O2 E
   by_cases hx:0<x j
   ·have hR:=Ha (O.out.2.1 j hlt hx)
    generalize x j=xj at *
    generalize hsc:sc j=sc at *
    generalize hsr:sr j=sr at *
    clear hsc hsr
    go_wp2
    replace HB:=Q3.a HB sc sr 43
    clear d0 d1
    generalize wr.alloc (.cells #[.string sc,.string sr] 43)=u at *
    generalize wr.heap.size=m at *
    obtain ⟨e0,e1,f0,f1,⟨kn,mn⟩,⟨k1,k2,m1,m2⟩,g0,g1,i0,i1⟩:=Q3.p HB (.cells #[.string ⟨#[]⟩,.string ⟨#[]⟩] 43)
    go_region
    ·replace HB:=Q3.e HB sc sr tc tr 43
     generalize ((u.alloc (.cells #[.string sc,.string sr] 43)).alloc (.cells #[.string tc,.string tr] 43)).drew=W at *
     generalize u.heap.size=s at *
     clear e0 e1 f0 f1 g0 g1 i0 i1 k1 k2 m1 m2
     obtain ⟨l0,l1,fl0,fl1,h0,h1,fh0,fh1⟩:=Q4.f HB
     go_wp2_with fail
     refine (hO.out _ HB.out.2.2.2).mono ?_
     rintro e W2 ⟨rfl,b⟩
     replace HB:=Q4.n HB b;clear b l0 l1 h0 h1 fl0 fl1 fh0 fh1;obtain ⟨l0,l1,fl0,fl1,h0,h1,fh0,fh1⟩:=Q4.f HB
     go_wp2_with fail
     replace HB:=Q4.s HB (by omega) (by omega) (by omega)
     clear l0 l1 h0 h1 fl0 fl1 fh0 fh1
     generalize (((W2.setCell ⟨s,0,none⟩ (.string tc)).setCell ⟨s,1,none⟩ (.string tr)).setCell ⟨s+1,0,none⟩ (.string sc)).setCell ⟨s+1,1,none⟩ (.string sr)=W3 at *
     obtain ⟨l0,l1,fl0,fl1,h0,h1,fh0,fh1⟩:=Q4.f HB
     refine (hR.out _ HB.out.2.2.2).mono ?_
     rintro e W4 ⟨rfl,b⟩
     replace HB:=Q4.n HB b;clear b l0 l1 h0 h1 fl0 fl1 fh0 fh1;obtain ⟨l0,l1,fl0,fl1,h0,h1,fh0,fh1⟩:=Q4.f HB
     go_wp2
     go_roundw
     case rel=>exact ⟨j+1,by go_num,by omega,HB.out.2.2⟩
     case measure=>simp [intOf];omega
    ·replace HB:=Q4.r (Q3.e HB tc tr sc sr 43)
     generalize ((u.alloc (.cells #[.string tc,.string tr] 43)).alloc (.cells #[.string sc,.string sr] 43)).drew=W at *
     generalize u.heap.size=s at *
     clear e0 e1 f0 f1 g0 g1 i0 i1 k1 k2 m1 m2
     obtain ⟨l0,l1,fl0,fl1,h0,h1,fh0,fh1⟩:=Q4.f HB
     go_wp2_with fail
     refine (hO.out _ HB.out.2.2.2).mono ?_
     rintro e W2 ⟨rfl,b⟩
     replace HB:=Q4.n HB b;clear b l0 l1 h0 h1 fl0 fl1 fh0 fh1;obtain ⟨l0,l1,fl0,fl1,h0,h1,fh0,fh1⟩:=Q4.f HB
     go_wp2_with fail
     replace HB:=Q4.s HB (by omega) (by omega) (by omega)
     clear l0 l1 h0 h1 fl0 fl1 fh0 fh1
     generalize (((W2.setCell ⟨s+1,0,none⟩ (.string tc)).setCell ⟨s+1,1,none⟩ (.string tr)).setCell ⟨s,0,none⟩ (.string sc)).setCell ⟨s,1,none⟩ (.string sr)=W3 at *
     obtain ⟨l0,l1,fl0,fl1,h0,h1,fh0,fh1⟩:=Q4.f HB
     refine (hR.out _ HB.out.2.2.2).mono ?_
     rintro e W4 ⟨rfl,b⟩
     replace HB:=Q4.n HB b;clear b l0 l1 h0 h1 fl0 fl1 fh0 fh1;obtain ⟨l0,l1,fl0,fl1,h0,h1,fh0,fh1⟩:=Q4.f HB
     go_wp2
     go_roundw
     case rel=>exact ⟨j+1,by go_num,by omega,HB.out.2.2⟩
     case measure=>simp [intOf];omega
   ·have hR:=Ha (O.out.2.2 j hlt (by omega))
    generalize x j=xj at *
    generalize hsc:sc j=sc at *
    generalize hsr:sr j=sr at *
    clear hsc hsr
    go_wp2
    replace HB:=Q3.a HB sc sr 43
    clear d0 d1
    generalize wr.alloc (.cells #[.string sc,.string sr] 43)=u at *
    generalize wr.heap.size=m at *
    obtain ⟨e0,e1,f0,f1,⟨kn,mn⟩,⟨k1,k2,m1,m2⟩,g0,g1,i0,i1⟩:=Q3.p HB (.cells #[.string ⟨#[]⟩,.string ⟨#[]⟩] 43)
    go_region
    ·replace HB:=Q3.e HB sc sr tc tr 43
     generalize ((u.alloc (.cells #[.string sc,.string sr] 43)).alloc (.cells #[.string tc,.string tr] 43)).drew=W at *
     generalize u.heap.size=s at *
     clear e0 e1 f0 f1 g0 g1 i0 i1 k1 k2 m1 m2
     obtain ⟨l0,l1,fl0,fl1,h0,h1,fh0,fh1⟩:=Q4.f HB
     go_wp2_with fail
     refine (hO.out _ HB.out.2.2.2).mono ?_
     rintro e W2 ⟨rfl,b⟩
     replace HB:=Q4.n HB b;clear b l0 l1 h0 h1 fl0 fl1 fh0 fh1;obtain ⟨l0,l1,fl0,fl1,h0,h1,fh0,fh1⟩:=Q4.f HB
     go_wp2_with fail
     refine (hR.out _ HB.out.2.2.2).mono ?_
     rintro e W4 ⟨rfl,b⟩
     replace HB:=Q4.n HB b;clear b l0 l1 h0 h1 fl0 fl1 fh0 fh1;obtain ⟨l0,l1,fl0,fl1,h0,h1,fh0,fh1⟩:=Q4.f HB
     go_wp2
     go_roundw
     case rel=>exact ⟨j+1,by go_num,by omega,HB.out.2.2⟩
     case measure=>simp [intOf];omega
    ·replace HB:=Q4.r (Q3.e HB tc tr sc sr 43)
     generalize ((u.alloc (.cells #[.string tc,.string tr] 43)).alloc (.cells #[.string sc,.string sr] 43)).drew=W at *
     generalize u.heap.size=s at *
     clear e0 e1 f0 f1 g0 g1 i0 i1 k1 k2 m1 m2
     obtain ⟨l0,l1,fl0,fl1,h0,h1,fh0,fh1⟩:=Q4.f HB
     go_wp2_with fail
     refine (hO.out _ HB.out.2.2.2).mono ?_
     rintro e W2 ⟨rfl,b⟩
     replace HB:=Q4.n HB b;clear b l0 l1 h0 h1 fl0 fl1 fh0 fh1;obtain ⟨l0,l1,fl0,fl1,h0,h1,fh0,fh1⟩:=Q4.f HB
     go_wp2_with fail
     refine (hR.out _ HB.out.2.2.2).mono ?_
     rintro e W4 ⟨rfl,b⟩
     replace HB:=Q4.n HB b;clear b l0 l1 h0 h1 fl0 fl1 fh0 fh1;obtain ⟨l0,l1,fl0,fl1,h0,h1,fh0,fh1⟩:=Q4.f HB
     go_wp2
     go_roundw
     case rel=>exact ⟨j+1,by go_num,by omega,HB.out.2.2⟩
     case measure=>simp [intOf];omega
  ·obtain rfl:j=q:=by omega
   have hz:(j:Int)<n:=by omega
   have d0:=(HB.out.2.cell (p:=⟨bb,j*2,none⟩) HT.out.1).trans (HT.out.2.1 j (by omega))
   have d1:=(HB.out.2.cell (p:=⟨bb,j*2+1,none⟩) HT.out.1).trans (HT.out.2.2.1 j (by omega))
   have hO:=Ha (O.out.1 j (by omega))
   have hR:=Ha O2.out.1
   have hM:=Ha O2.out.2.1
   have hA:=Ha O2.out.2.2
   clear O2 O
   generalize x j=xj at *
   generalize sc j=sc at *
   generalize sr j=sr at *
   go_wp2
   replace HB:=Q3.a HB sc sr 43
   clear d0 d1
   generalize wr.alloc (.cells #[.string sc,.string sr] 43)=u at *
   generalize wr.heap.size=m at *
   obtain ⟨e0,e1,f0,f1,⟨kn,mn⟩,⟨k1,k2,m1,m2⟩,g0,g1,i0,i1⟩:=Q3.p HB (.cells #[.string ⟨#[]⟩,.string ⟨#[]⟩] 43)
   go_region
   ·replace HB:=Q3.e HB sc sr tc tr 43
    generalize ((u.alloc (.cells #[.string sc,.string sr] 43)).alloc (.cells #[.string tc,.string tr] 43)).drew=W at *
    generalize u.heap.size=s at *
    clear e0 e1 f0 f1 g0 g1 i0 i1 k1 k2 m1 m2
    obtain ⟨l0,l1,fl0,fl1,h0,h1,fh0,fh1⟩:=Q4.f HB
    go_wp2_with fail
    refine (hO.out _ HB.out.2.2.2).mono ?_
    rintro e W2 ⟨rfl,b⟩
    replace HB:=Q4.n HB b;clear b l0 l1 h0 h1 fl0 fl1 fh0 fh1;obtain ⟨l0,l1,fl0,fl1,h0,h1,fh0,fh1⟩:=Q4.f HB
    go_wp2_with fail
    replace HB:=Q4.s HB (by omega) (by omega) (by omega)
    clear l0 l1 h0 h1 fl0 fl1 fh0 fh1
    generalize (((W2.setCell ⟨s,0,none⟩ (.string tc)).setCell ⟨s,1,none⟩ (.string tr)).setCell ⟨s+1,0,none⟩ (.string sc)).setCell ⟨s+1,1,none⟩ (.string sr)=W3 at *
    obtain ⟨l0,l1,fl0,fl1,h0,h1,fh0,fh1⟩:=Q4.f HB
    refine (hR.out _ HB.out.2.2.2).mono ?_
    rintro e W4 ⟨rfl,b⟩
    replace HB:=Q4.n HB b;clear b l0 l1 h0 h1 fl0 fl1 fh0 fh1;obtain ⟨l0,l1,fl0,fl1,h0,h1,fh0,fh1⟩:=Q4.f HB
    go_wp2_with fail
    refine (hM.out _ HB.out.2.2.2).mono ?_
    rintro e W5 ⟨rfl,b⟩
    replace HB:=Q4.n HB b;clear b l0 l1 h0 h1 fl0 fl1 fh0 fh1;obtain ⟨l0,l1,fl0,fl1,h0,h1,fh0,fh1⟩:=Q4.f HB
    go_wp2_with fail
    refine (hA.out _ HB.out.2.2.2).mono ?_
    rintro e W6 ⟨rfl,b⟩
    replace HB:=Q4.n HB b;clear b l0 l1 h0 h1 fl0 fl1 fh0 fh1;obtain ⟨l0,l1,fl0,fl1,h0,h1,fh0,fh1⟩:=Q4.f HB
    have q0:=(HB.out.2.2.2.cell (p:=⟨bb,j*2,none⟩) HT.out.1).trans (HT.out.2.1 j (by omega))
    have q1:=(HB.out.2.2.2.cell (p:=⟨bb,j*2+1,none⟩) HT.out.1).trans (HT.out.2.2.1 j (by omega))
    have fq0:=(HB.out.2.2.2.frozen (p:=⟨bb,j*2,none⟩) HT.out.1).trans (HT.out.2.2.2 (j*2))
    have fq1:=(HB.out.2.2.2.frozen (p:=⟨bb,j*2+1,none⟩) HT.out.1).trans (HT.out.2.2.2 (j*2+1))
    go_wp2
    go_ret2
    have hbl:=HB.out.2.2.2
    rw [←HK.out] at hbl
    exact ⟨rfl,W6,hbl,by rw [E.out]⟩
   ·replace HB:=Q4.r (Q3.e HB tc tr sc sr 43)
    generalize ((u.alloc (.cells #[.string tc,.string tr] 43)).alloc (.cells #[.string sc,.string sr] 43)).drew=W at *
    generalize u.heap.size=s at *
    clear e0 e1 f0 f1 g0 g1 i0 i1 k1 k2 m1 m2
    obtain ⟨l0,l1,fl0,fl1,h0,h1,fh0,fh1⟩:=Q4.f HB
    go_wp2_with fail
    refine (hO.out _ HB.out.2.2.2).mono ?_
    rintro e W2 ⟨rfl,b⟩
    replace HB:=Q4.n HB b;clear b l0 l1 h0 h1 fl0 fl1 fh0 fh1;obtain ⟨l0,l1,fl0,fl1,h0,h1,fh0,fh1⟩:=Q4.f HB
    go_wp2_with fail
    replace HB:=Q4.s HB (by omega) (by omega) (by omega)
    clear l0 l1 h0 h1 fl0 fl1 fh0 fh1
    generalize (((W2.setCell ⟨s+1,0,none⟩ (.string tc)).setCell ⟨s+1,1,none⟩ (.string tr)).setCell ⟨s,0,none⟩ (.string sc)).setCell ⟨s,1,none⟩ (.string sr)=W3 at *
    obtain ⟨l0,l1,fl0,fl1,h0,h1,fh0,fh1⟩:=Q4.f HB
    refine (hR.out _ HB.out.2.2.2).mono ?_
    rintro e W4 ⟨rfl,b⟩
    replace HB:=Q4.n HB b;clear b l0 l1 h0 h1 fl0 fl1 fh0 fh1;obtain ⟨l0,l1,fl0,fl1,h0,h1,fh0,fh1⟩:=Q4.f HB
    go_wp2_with fail
    refine (hM.out _ HB.out.2.2.2).mono ?_
    rintro e W5 ⟨rfl,b⟩
    replace HB:=Q4.n HB b;clear b l0 l1 h0 h1 fl0 fl1 fh0 fh1;obtain ⟨l0,l1,fl0,fl1,h0,h1,fh0,fh1⟩:=Q4.f HB
    go_wp2_with fail
    refine (hA.out _ HB.out.2.2.2).mono ?_
    rintro e W6 ⟨rfl,b⟩
    replace HB:=Q4.n HB b;clear b l0 l1 h0 h1 fl0 fl1 fh0 fh1;obtain ⟨l0,l1,fl0,fl1,h0,h1,fh0,fh1⟩:=Q4.f HB
    have q0:=(HB.out.2.2.2.cell (p:=⟨bb,j*2,none⟩) HT.out.1).trans (HT.out.2.1 j (by omega))
    have q1:=(HB.out.2.2.2.cell (p:=⟨bb,j*2+1,none⟩) HT.out.1).trans (HT.out.2.2.1 j (by omega))
    have fq0:=(HB.out.2.2.2.frozen (p:=⟨bb,j*2,none⟩) HT.out.1).trans (HT.out.2.2.2 (j*2))
    have fq1:=(HB.out.2.2.2.frozen (p:=⟨bb,j*2+1,none⟩) HT.out.1).trans (HT.out.2.2.2 (j*2+1))
    go_wp2
    go_ret2
    have hbl:=HB.out.2.2.2
    rw [←HK.out] at hbl
    exact ⟨rfl,W6,hbl,by rw [E.out]⟩
end T
end Go.Proofs.YtbhbhlfkdlfimaaGreatDoor
