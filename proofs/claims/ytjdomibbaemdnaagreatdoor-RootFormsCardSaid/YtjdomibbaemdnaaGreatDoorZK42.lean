/- Parts of the proof of the text YtjdomibbaemdnaaGreatDoorZK42. -/
import Derived.Test.YtjdomibbaemdnaaGreatDoorZK1
import Derived.Test.YtjdomibbaemdnaaGreatDoorZK26
import Derived.Test.YtjdomibbaemdnaaGreatDoorZK40
set_option linter.all false
set_option maxRecDepth 100000
set_option maxHeartbeats 8000000
namespace Go.Proofs.YtjdomibbaemdnaaGreatDoor
namespace T
open Go.RowKit
theorem zf {m:Nat}:(sN m).size≤18↔m<1000000000000000000:=by
 unfold sN
 rw [fQ,Lib.itoa_nonneg,Lib.decDigits_length]
 exact aJ m 18 (by decide)
theorem uf (m:Nat) (w:World) (h0:0<m) (hm:m<lim) (ht:Tab w) (hS:Sm w) :
  Calls Tryz.prog 59 #[.string (sN m)] w fun e W'=>e = .returned (.tuple #[.string (sN (ad af m).1),.string (sN (ad af m).2)])∧Below w.heap.size w W':=by
 by_cases hs:(sN m).size≤18
 ·exact lh m w h0 (zf.1 hs) hs ht hS
 ·have C:=Ha (wy m w h0 hm ht hS);clear ht hS h0
  have hz:(sN m).size≤301:=aG (aF.2 hm)
  have h1:(18:Int)<(sN m).size:=by omega
  have h2:((sN m).size:Int)≤9223372036854775807:=by omega
  generalize sN (ad af m).1=a at *
  generalize sN (ad af m).2=b at *
  generalize sN m=s at *
  clear hs hz hm
  go_enter Tryz.func59,Tryz.ntmps59
  go_wp2_with fail
  refine C.out.mono ?_
  rintro e w1 ⟨rfl,b⟩
  have B1:=Ha b;clear b
  go_wp2
  go_ret2
  exact ⟨rfl,B1.out⟩
theorem ta (n d c:ByteArray) (w:World)
  (h:∀ W,Below w.heap.size w W→Calls Tryz.prog 33 #[.agg #[.string n,.string d]] W fun e W'=>e = .returned (.tuple #[.string c,.bool true])∧Below W.heap.size W W') :
  Calls Tryz.prog 26 #[.agg #[.string n,.string d]] w fun e W'=>e = .returned (.tuple #[.string c,.string ⟨#[49]⟩])∧Below w.heap.size w W':=by
 have C:=Ha (Hb h True.intro);clear h
 go_enter Tryz.func26,Tryz.ntmps26
 go_wp2_with fail
 have hbx:Bxs w w.heap.size [[.string n,.string d]] (w.alloc (.cells #[.string n,.string d] 47)):=((Bxs.nil w w (Below.refl _ _)).push rfl [.string n,.string d] 47)
 generalize (w.alloc (.cells #[.string n,.string d] 47))=W0 at *
 generalize hk:w.heap.size=k at *
 have HK:=Ha hk;clear hk
 have HB:=Ha hbx
 clear hbx
 have e00:=(show World.cell? _ ⟨k,0,none⟩=some (.string n) from HB.out.cells 0 _ rfl 0 _ rfl)
 have e01:=(show World.cell? _ ⟨k,1,none⟩=some (.string d) from HB.out.cells 0 _ rfl 1 _ rfl)
 refine (C.out.1 _ (by have:=HB.out.below;rwa [HK.out] at this)).mono ?_
 rintro e w1 ⟨rfl,b⟩
 replace HB:=Ha (HB.out.next b);clear b;have e00:=(show World.cell? _ ⟨k,0,none⟩=some (.string n) from HB.out.cells 0 _ rfl 0 _ rfl);have e01:=(show World.cell? _ ⟨k,1,none⟩=some (.string d) from HB.out.cells 0 _ rfl 1 _ rfl)
 go_wp2
 go_ret2
 refine ⟨rfl,?_⟩
 have hbl:=HB.out.below
 rwa [HK.out] at hbl ⊢
theorem vu (n d a m b k bk c mk:ByteArray) (w:World)
  (h1:∀ W,Below w.heap.size w W→Calls Tryz.prog 33 #[.agg #[.string n,.string d]] W fun e W'=>e = .returned (.tuple #[.string ⟨#[]⟩,.bool false])∧Below W.heap.size W W')
  (h2:∀ W,Below w.heap.size w W→Calls Tryz.prog 59 #[.string n] W fun e W'=>e = .returned (.tuple #[.string a,.string m])∧Below W.heap.size W W')
  (h3:∀ W,Below w.heap.size w W→Calls Tryz.prog 59 #[.string d] W fun e W'=>e = .returned (.tuple #[.string b,.string k])∧Below W.heap.size W W')
  (h4:∀ W,Below w.heap.size w W→Calls Tryz.prog 60 #[.string b,.string k] W fun e W'=>e = .returned (.string bk)∧Below W.heap.size W W')
  (h5:∀ W,Below w.heap.size w W→Calls Tryz.prog 43 #[.agg #[.string a,.string bk]] W fun e W'=>e = .returned (.string c)∧Below W.heap.size W W')
  (h6:∀ W,Below w.heap.size w W→Calls Tryz.prog 60 #[.string m,.string k] W fun e W'=>e = .returned (.string mk)∧Below W.heap.size W W') :
  Calls Tryz.prog 26 #[.agg #[.string n,.string d]] w fun e W'=>e = .returned (.tuple #[.string c,.string mk])∧Below w.heap.size w W':=by
 have C:=Ha (Hb h1 (Hb h2 (Hb h3 (Hb h4 (Hb h5 h6)))));clear h1 h2 h3 h4 h5 h6
 go_enter Tryz.func26,Tryz.ntmps26
 go_wp2_with fail
 have hbx:Bxs w w.heap.size [[.string n,.string d]] (w.alloc (.cells #[.string n,.string d] 47)):=((Bxs.nil w w (Below.refl _ _)).push rfl [.string n,.string d] 47)
 generalize (w.alloc (.cells #[.string n,.string d] 47))=W0 at *
 generalize hk:w.heap.size=k at *
 have HK:=Ha hk;clear hk
 have HB:=Ha hbx
 clear hbx
 have e00:=(show World.cell? _ ⟨k,0,none⟩=some (.string n) from HB.out.cells 0 _ rfl 0 _ rfl)
 have e01:=(show World.cell? _ ⟨k,1,none⟩=some (.string d) from HB.out.cells 0 _ rfl 1 _ rfl)
 refine (C.out.1 _ (by have:=HB.out.below;rwa [HK.out] at this)).mono ?_
 rintro e w1 ⟨rfl,b⟩
 replace HB:=Ha (HB.out.next b);clear b;have e00:=(show World.cell? _ ⟨k,0,none⟩=some (.string n) from HB.out.cells 0 _ rfl 0 _ rfl);have e01:=(show World.cell? _ ⟨k,1,none⟩=some (.string d) from HB.out.cells 0 _ rfl 1 _ rfl)
 go_wp2_with fail
 refine (C.out.2.1 _ (by have:=HB.out.below;rwa [HK.out] at this)).mono ?_
 rintro e w2 ⟨rfl,b⟩
 replace HB:=Ha (HB.out.next b);clear b;have e00:=(show World.cell? _ ⟨k,0,none⟩=some (.string n) from HB.out.cells 0 _ rfl 0 _ rfl);have e01:=(show World.cell? _ ⟨k,1,none⟩=some (.string d) from HB.out.cells 0 _ rfl 1 _ rfl)
 go_wp2_with fail
 refine (C.out.2.2.1 _ (by have:=HB.out.below;rwa [HK.out] at this)).mono ?_
 rintro e w3 ⟨rfl,b⟩
 replace HB:=Ha (HB.out.next b);clear b;have e00:=(show World.cell? _ ⟨k,0,none⟩=some (.string n) from HB.out.cells 0 _ rfl 0 _ rfl);have e01:=(show World.cell? _ ⟨k,1,none⟩=some (.string d) from HB.out.cells 0 _ rfl 1 _ rfl)
 go_wp2_with fail
 refine (C.out.2.2.2.1 _ (by have:=HB.out.below;rwa [HK.out] at this)).mono ?_
 rintro e w4 ⟨rfl,b⟩
 replace HB:=Ha (HB.out.next b);clear b;have e00:=(show World.cell? _ ⟨k,0,none⟩=some (.string n) from HB.out.cells 0 _ rfl 0 _ rfl);have e01:=(show World.cell? _ ⟨k,1,none⟩=some (.string d) from HB.out.cells 0 _ rfl 1 _ rfl)
 go_wp2_with fail
 refine (C.out.2.2.2.2.1 _ (by have:=HB.out.below;rwa [HK.out] at this)).mono ?_
 rintro e w5 ⟨rfl,b⟩
 replace HB:=Ha (HB.out.next b);clear b;have e00:=(show World.cell? _ ⟨k,0,none⟩=some (.string n) from HB.out.cells 0 _ rfl 0 _ rfl);have e01:=(show World.cell? _ ⟨k,1,none⟩=some (.string d) from HB.out.cells 0 _ rfl 1 _ rfl)
 go_wp2_with fail
 refine (C.out.2.2.2.2.2 _ (by have:=HB.out.below;rwa [HK.out] at this)).mono ?_
 rintro e w6 ⟨rfl,b⟩
 replace HB:=Ha (HB.out.next b);clear b;have e00:=(show World.cell? _ ⟨k,0,none⟩=some (.string n) from HB.out.cells 0 _ rfl 0 _ rfl);have e01:=(show World.cell? _ ⟨k,1,none⟩=some (.string d) from HB.out.cells 0 _ rfl 1 _ rfl)
 go_wp2
 go_ret2
 refine ⟨rfl,?_⟩
 have hbl:=HB.out.below
 rwa [HK.out] at hbl ⊢
theorem xr:aO 180≤lim:=aP (by decide)
theorem zg (q:Rat) (w:World) (h0:0≤q) (hq:Bq 90 q) (ht:Tab w) (hS:Sm w) :
  Calls Tryz.prog 26 #[.agg #[.string (aa q.num),.string (aa (q.den:Int))]] w fun e W'=>e = .returned (.tuple #[.string (ah (nC q)),.string (aa (nN q:Nat))])∧Below w.heap.size w W':=by
 have sq:Sq q:=hq.lim (by decide)
 by_cases hb:cj q
 ·obtain ⟨e1,e2⟩:=ie hb
  rw [e1,e2,show aa ((1:Nat):Int)=⟨#[49]⟩ from gp 1 [49] bK]
  exact ta _ _ _ w (fun W h=>oQ q _ W h0 sq (ht.next h) (fun _=>rfl) (fun k=>absurd hb k))
 ·have hn:=jM hb
  obtain ⟨a1,a2,a3,a4,_⟩:=aV af fS hn
  obtain ⟨b1,b2,b3,b4,_⟩:=aV af fS q.den_pos
  have la:(ad af q.num.natAbs).1≤q.num.natAbs:=by
   conv=>rhs;rw [a1,Nat.mul_assoc]
   exact Nat.le_mul_of_pos_right _ (Nat.mul_pos a2 a3)
  have lm:(ad af q.num.natAbs).2≤q.num.natAbs:=Nat.le_of_dvd hn a4
  have lk:(ad af q.den).2≤q.den:=Nat.le_of_dvd q.den_pos b4
  have lb:(ad af q.den).1≤q.den:=by
   conv=>rhs;rw [b1,Nat.mul_assoc]
   exact Nat.le_mul_of_pos_right _ (Nat.mul_pos b2 b3)
  have lbk:(ad af q.den).1*(ad af q.den).2≤q.den:=by
   conv=>rhs;rw [b1,Nat.mul_assoc]
   exact Nat.le_mul_of_pos_left _ b2
  have lmk:(ad af q.num.natAbs).2*(ad af q.den).2<lim :=
   Nat.lt_of_lt_of_le (Nat.lt_of_le_of_lt (Nat.mul_le_mul lm lk) (by rw [show (180:Nat)=90+90 from rfl,jq];exact Nat.mul_lt_mul'' hq.1 hq.2)) xr
  have eC:nC q=Rat.divInt ((ad af q.num.natAbs).1:Nat) (((ad af q.den).1*(ad af q.den).2:Nat):Int):=by
   unfold nC cN cD;rw [if_neg hb,if_neg hb];rfl
  have eN:nN q=(ad af q.num.natAbs).2*(ad af q.den).2:=by unfold nN;rw [if_neg hb]
  have hc:=cop q
  unfold cN cD at hc
  rw [if_neg hb,if_neg hb] at hc
  rw [eC,eN]
  have hd:q.den<lim:=sq.2
  have hnl:q.num.natAbs<lim:=sq.1
  have en:aa q.num=sN q.num.natAbs:=by unfold sN;rw [iq h0]
  rw [en]
  have p:=Nat.mul_pos b2 b3
  exact vu (sN q.num.natAbs) (sN q.den) _ _ _ _ (sN ((ad af q.den).1*(ad af q.den).2)) _ _ w
   (fun W h=>by have c:=oQ q _ W h0 sq (ht.next h) (fun k=>absurd k hb) (fun _=>rfl);rwa [en] at c)
   (fun W h=>uf _ W hn hnl (ht.next h) (hS.next h)) (fun W h=>uf _ W q.den_pos hd (ht.next h) (hS.next h))
   (fun W h=>pH _ _ W (Nat.lt_of_le_of_lt lb hd) (Nat.lt_of_le_of_lt lk hd) (Nat.lt_of_le_of_lt lbk hd) (ht.next h))
   (fun W h=>tT _ _ W (by omega) (by rw [Int.natAbs_natCast,Int.natAbs_natCast];exact hc) (aF.2 (Nat.lt_of_le_of_lt la hnl)) (aF.2 (Nat.lt_of_le_of_lt lbk hd)))
   (fun W h=>pH _ _ W (Nat.lt_of_le_of_lt lm hnl) (Nat.lt_of_le_of_lt lk hd) lmk (ht.next h))
theorem nn1 {q:Rat} (h:0≤q):fW [ah q]=0:=by
 unfold fW;simp only [List.any_cons,List.any_nil,iF,Bool.or_false];rw [decide_eq_false (by grind)];rfl
theorem nn2 {p q:Rat} (h:0≤p) (h':0≤q):fW [ah p,ah q]=0:=by
 unfold fW;simp only [List.any_cons,List.any_nil,iF,Bool.or_false];rw [decide_eq_false (by grind),decide_eq_false (by grind)];rfl
theorem xt {q:Rat} (h:q<0):fW [ah q]=2:=by
 unfold fW;simp only [List.any_cons,List.any_nil,iF,Bool.or_false];rw [decide_eq_true h];rfl
theorem nE (q:Rat) (w:World) (h0:0≤q) (hq:Bq 90 q) (ht:Tab w) (ht2:aW w) (hS:Sm w) :
  Calls Tryz.prog 7 #[.string (ah q)] w fun e W'=>e = .returned (.tuple #[.string (ah (nC q)),.string (aa (nN q:Nat)),.int .i64 0])∧Below w.heap.size w W':=by
 have o1:=fun (b:Nat) W (hx:Sl W b [ah q]) (h:Below w.heap.size w W)=>gR b q W hq hx (ht.next h) (ai ht2 h)
 have o2:=fun (b:Nat) W (hx:Sl W b [ah q]) (h:Below w.heap.size w W)=>bV b [ah q] W (by simp) hx
 rw [nn1 h0] at o2
 have o3:=fun W (_:Below w.heap.size w W)=>cE q W (hq.lim (by decide))
 have o4:=fun W (h:Below w.heap.size w W)=>zg q W h0 hq (ht.next h) (hS.next h)
 have O:=Ha (Hb o1 (Hb o2 (Hb o3 o4)));clear o1 o2 o3 o4 ht ht2 hS h0 hq
 generalize aa q.num=n at *
 generalize aa (q.den:Int)=d at *
 generalize ah (nC q)=c at *
 generalize aa (nN q:Nat)=m at *
 generalize ah q=s at *
 go_enter Tryz.func7,Tryz.ntmps7
 go_wp2_with fail
 have hS1:=Sl.new1 w s 22
 have BB:=Ha ((Below.refl _ w).alloc (Nat.le_refl _) (.cells #[.string s] 22))
 generalize w.alloc (.cells #[.string s] 22)=v0 at *
 generalize hk0:w.heap.size=k0 at hS1
 refine (O.out.1 _ _ hS1 BB.out).mono ?_
 rintro e v1 ⟨rfl,b⟩
 have B1:=Ha (BB.out.trans (b.mono BB.out.size));clear b BB hS1 hk0
 go_wp2_with fail
 have hS2:=Sl.new1 v1 s 22
 have BB:=Ha (B1.out.alloc B1.out.size (.cells #[.string s] 22))
 generalize v1.alloc (.cells #[.string s] 22)=v2 at *
 generalize v1.heap.size=k1 at hS2 ⊢
 refine (O.out.2.1 _ _ hS2 BB.out).mono ?_
 rintro e v3 ⟨rfl,b⟩
 have B3:=Ha (BB.out.trans (b.mono BB.out.size));clear b BB hS2 B1
 go_wp2_with fail
 have hS3:=Blk.new v3 #[.int .i64 0,.int .i64 0] 26
 have BB:=Ha (B3.out.alloc B3.out.size (.cells #[.int .i64 0,.int .i64 0] 26))
 generalize v3.alloc (.cells #[.int .i64 0,.int .i64 0] 26)=v4 at *
 generalize v3.heap.size=k3 at hS3 ⊢
 refine (fJ _ 0 0 v4 hS3).mono ?_
 rintro e v5 ⟨rfl,b⟩
 rw [if_pos rfl]
 have B5:=Ha (BB.out.trans (b.mono BB.out.size));clear b BB hS3 B3
 go_wp2_with fail
 refine (O.out.2.2.1 _ B5.out).mono ?_
 rintro e v6 ⟨rfl,b⟩
 have B6:=Ha (B5.out.trans (b.mono B5.out.size));clear b B5
 go_wp2_with fail
 refine (O.out.2.2.2 _ B6.out).mono ?_
 rintro e v7 ⟨rfl,b⟩
 have B7:=Ha (B6.out.trans (b.mono B6.out.size));clear b B6
 go_wp2
 go_ret3
 exact ⟨rfl,B7.out⟩
theorem oV (q:Rat) (w:World) (h0:0≤q) (hq:Bq 90 q) (hb:cj q) (ht:Tab w) (ht2:aW w) :
  Calls Tryz.prog 9 #[.string (ah q)] w fun e W'=>e = .returned (.tuple #[.string (ah (eE q)),.bool true,.int .i64 0])∧Below w.heap.size w W':=by
 have o1:=fun (b:Nat) W (hx:Sl W b [ah q]) (h:Below w.heap.size w W)=>gR b q W hq hx (ht.next h) (ai ht2 h)
 have o2:=fun (b:Nat) W (hx:Sl W b [ah q]) (h:Below w.heap.size w W)=>bV b [ah q] W (by simp) hx
 rw [nn1 h0] at o2
 have o3:=fun W (_:Below w.heap.size w W)=>cE q W (hq.lim (by decide))
 have o4:=fun W (h:Below w.heap.size w W)=>oQ q (.tuple #[.string (ah (eE q)),.bool true]) W h0 (hq.lim (by decide)) (ht.next h) (fun _=>rfl) (fun k=>absurd hb k)
 have O:=Ha (Hb o1 (Hb o2 (Hb o3 o4)));clear o1 o2 o3 o4 ht ht2 h0 hq hb
 generalize aa q.num=n at *
 generalize aa (q.den:Int)=d at *
 generalize ah (eE q)=c at *
 generalize ah q=s at *
 go_enter Tryz.func9,Tryz.ntmps9
 go_wp2_with fail
 have hS1:=Sl.new1 w s 22
 have BB:=Ha ((Below.refl _ w).alloc (Nat.le_refl _) (.cells #[.string s] 22))
 generalize w.alloc (.cells #[.string s] 22)=v0 at *
 generalize hk0:w.heap.size=k0 at hS1
 refine (O.out.1 _ _ hS1 BB.out).mono ?_
 rintro e v1 ⟨rfl,b⟩
 have B1:=Ha (BB.out.trans (b.mono BB.out.size));clear b BB hS1 hk0
 go_wp2_with fail
 have hS2:=Sl.new1 v1 s 22
 have BB:=Ha (B1.out.alloc B1.out.size (.cells #[.string s] 22))
 generalize v1.alloc (.cells #[.string s] 22)=v2 at *
 generalize v1.heap.size=k1 at hS2 ⊢
 refine (O.out.2.1 _ _ hS2 BB.out).mono ?_
 rintro e v3 ⟨rfl,b⟩
 have B3:=Ha (BB.out.trans (b.mono BB.out.size));clear b BB hS2 B1
 go_wp2_with fail
 have hS3:=Blk.new v3 #[.int .i64 0,.int .i64 0] 26
 have BB:=Ha (B3.out.alloc B3.out.size (.cells #[.int .i64 0,.int .i64 0] 26))
 generalize v3.alloc (.cells #[.int .i64 0,.int .i64 0] 26)=v4 at *
 generalize v3.heap.size=k3 at hS3 ⊢
 refine (fJ _ 0 0 v4 hS3).mono ?_
 rintro e v5 ⟨rfl,b⟩
 rw [if_pos rfl]
 have B5:=Ha (BB.out.trans (b.mono BB.out.size));clear b BB hS3 B3
 go_wp2_with fail
 refine (O.out.2.2.1 _ B5.out).mono ?_
 rintro e v6 ⟨rfl,b⟩
 have B6:=Ha (B5.out.trans (b.mono B5.out.size));clear b B5
 go_wp2_with fail
 refine (O.out.2.2.2 _ B6.out).mono ?_
 rintro e v7 ⟨rfl,b⟩
 have B7:=Ha (B6.out.trans (b.mono B6.out.size));clear b B6
 go_wp2
 go_ret3
 exact ⟨rfl,B7.out⟩
theorem xu (q:Rat) (w:World) (h0:0≤q) (hq:Bq 90 q) (hb:¬ cj q) (ht:Tab w) (ht2:aW w) :
  Calls Tryz.prog 9 #[.string (ah q)] w fun e W'=>e = .returned (.tuple #[.string ⟨#[]⟩,.bool false,.int .i64 0])∧Below w.heap.size w W':=by
 have o1:=fun (b:Nat) W (hx:Sl W b [ah q]) (h:Below w.heap.size w W)=>gR b q W hq hx (ht.next h) (ai ht2 h)
 have o2:=fun (b:Nat) W (hx:Sl W b [ah q]) (h:Below w.heap.size w W)=>bV b [ah q] W (by simp) hx
 rw [nn1 h0] at o2
 have o3:=fun W (_:Below w.heap.size w W)=>cE q W (hq.lim (by decide))
 have o4:=fun W (h:Below w.heap.size w W)=>oQ q (.tuple #[.string ⟨#[]⟩,.bool false]) W h0 (hq.lim (by decide)) (ht.next h) (fun k=>absurd k hb) (fun _=>rfl)
 have O:=Ha (Hb o1 (Hb o2 (Hb o3 o4)));clear o1 o2 o3 o4 ht ht2 h0 hq hb
 generalize aa q.num=n at *
 generalize aa (q.den:Int)=d at *
 generalize ah q=s at *
 go_enter Tryz.func9,Tryz.ntmps9
 go_wp2_with fail
 have hS1:=Sl.new1 w s 22
 have BB:=Ha ((Below.refl _ w).alloc (Nat.le_refl _) (.cells #[.string s] 22))
 generalize w.alloc (.cells #[.string s] 22)=v0 at *
 generalize hk0:w.heap.size=k0 at hS1
 refine (O.out.1 _ _ hS1 BB.out).mono ?_
 rintro e v1 ⟨rfl,b⟩
 have B1:=Ha (BB.out.trans (b.mono BB.out.size));clear b BB hS1 hk0
 go_wp2_with fail
 have hS2:=Sl.new1 v1 s 22
 have BB:=Ha (B1.out.alloc B1.out.size (.cells #[.string s] 22))
 generalize v1.alloc (.cells #[.string s] 22)=v2 at *
 generalize v1.heap.size=k1 at hS2 ⊢
 refine (O.out.2.1 _ _ hS2 BB.out).mono ?_
 rintro e v3 ⟨rfl,b⟩
 have B3:=Ha (BB.out.trans (b.mono BB.out.size));clear b BB hS2 B1
 go_wp2_with fail
 have hS3:=Blk.new v3 #[.int .i64 0,.int .i64 0] 26
 have BB:=Ha (B3.out.alloc B3.out.size (.cells #[.int .i64 0,.int .i64 0] 26))
 generalize v3.alloc (.cells #[.int .i64 0,.int .i64 0] 26)=v4 at *
 generalize v3.heap.size=k3 at hS3 ⊢
 refine (fJ _ 0 0 v4 hS3).mono ?_
 rintro e v5 ⟨rfl,b⟩
 rw [if_pos rfl]
 have B5:=Ha (BB.out.trans (b.mono BB.out.size));clear b BB hS3 B3
 go_wp2_with fail
 refine (O.out.2.2.1 _ B5.out).mono ?_
 rintro e v6 ⟨rfl,b⟩
 have B6:=Ha (B5.out.trans (b.mono B5.out.size));clear b B5
 go_wp2_with fail
 refine (O.out.2.2.2 _ B6.out).mono ?_
 rintro e v7 ⟨rfl,b⟩
 have B7:=Ha (B6.out.trans (b.mono B6.out.size));clear b B6
 go_wp2
 go_ret3
 exact ⟨rfl,B7.out⟩
theorem vv (q:Rat) (w:World) (h0:q<0) (hq:Bq 90 q) (ht:Tab w) (ht2:aW w) :
  Calls Tryz.prog 9 #[.string (ah q)] w fun e W'=>e = .returned (.tuple #[.string ⟨#[]⟩,.bool false,.int .i64 2])∧Below w.heap.size w W':=by
 have o1:=fun (b:Nat) W (hx:Sl W b [ah q]) (h:Below w.heap.size w W)=>gR b q W hq hx (ht.next h) (ai ht2 h)
 have o2:=fun (b:Nat) W (hx:Sl W b [ah q]) (h:Below w.heap.size w W)=>bV b [ah q] W (by simp) hx
 rw [xt h0] at o2
 have O:=Ha (Hb o1 (Hb o2 True.intro));clear o1 o2 ht ht2 h0 hq
 generalize ah q=s at *
 go_enter Tryz.func9,Tryz.ntmps9
 go_wp2_with fail
 have hS1:=Sl.new1 w s 22
 have BB:=Ha ((Below.refl _ w).alloc (Nat.le_refl _) (.cells #[.string s] 22))
 generalize w.alloc (.cells #[.string s] 22)=v0 at *
 generalize hk0:w.heap.size=k0 at hS1
 refine (O.out.1 _ _ hS1 BB.out).mono ?_
 rintro e v1 ⟨rfl,b⟩
 have B1:=Ha (BB.out.trans (b.mono BB.out.size));clear b BB hS1 hk0
 go_wp2_with fail
 have hS2:=Sl.new1 v1 s 22
 have BB:=Ha (B1.out.alloc B1.out.size (.cells #[.string s] 22))
 generalize v1.alloc (.cells #[.string s] 22)=v2 at *
 generalize v1.heap.size=k1 at hS2 ⊢
 refine (O.out.2.1 _ _ hS2 BB.out).mono ?_
 rintro e v3 ⟨rfl,b⟩
 have B3:=Ha (BB.out.trans (b.mono BB.out.size));clear b BB hS2 B1
 go_wp2_with fail
 have hS3:=Blk.new v3 #[.int .i64 0,.int .i64 2] 26
 have BB:=Ha (B3.out.alloc B3.out.size (.cells #[.int .i64 0,.int .i64 2] 26))
 generalize v3.alloc (.cells #[.int .i64 0,.int .i64 2] 26)=v4 at *
 generalize v3.heap.size=k3 at hS3 ⊢
 refine (fJ _ 0 2 v4 hS3).mono ?_
 rintro e v5 ⟨rfl,b⟩
 rw [if_pos rfl]
 have B5:=Ha (BB.out.trans (b.mono BB.out.size));clear b BB hS3 B3
 go_wp2
 go_ret3
 exact ⟨rfl,B5.out⟩
theorem tb (q u r:Rat) (m:ByteArray) (w:World) (h0:0≤q) (u0:0<u) (hq:Bq 90 q) (hu:Bq 90 u) (ht:Tab w) (ht2:aW w)
  (hc:∀ W,Below w.heap.size w W→Calls Tryz.prog 40 #[.agg #[.string (aa (uN q u:Nat)),.string (aa (uD q u:Nat))]] W fun e W'=>e = .returned (.string m)∧Below W.heap.size W W')
  (hm:∀ W,Below w.heap.size w W→Calls Tryz.prog 46 #[.string m,.string (ah u)] W fun e W'=>e = .returned (.string (ah r))∧Below W.heap.size W W') :
  Calls Tryz.prog 39 #[.string (ah q),.string (ah u),.func (.func 40) #[] #[]] w fun e W'=>e = .returned (.tuple #[.string (ah r),.int .i64 0])∧Below w.heap.size w W':=by
 have o1:=fun (b:Nat) W (hx:Sl W b [ah q,ah u]) (h:Below w.heap.size w W)=>jm b q u W hq hu hx (ht.next h) (ai ht2 h)
 have o2:=fun (b:Nat) W (hx:Sl W b [ah q]) (h:Below w.heap.size w W)=>bV b [ah q] W (by simp) hx
 rw [nn1 h0] at o2
 have z0:((ah u).toList == [48])=false:=by
  rw [Bool.eq_false_iff];intro h
  have h2:=(kg _).1 h
  rw [←dL] at h2
  have:=nM h2
  grind
 have o3:=fun W (_:Below w.heap.size w W)=>qV (ah u) W
 rw [show ap (ah u).data.toList=false from (iF u).trans (decide_eq_false (by grind))] at o3
 have o4:=fun W (h:Below w.heap.size w W)=>xl q u 90 90 W h0 u0 hq hu (by decide) (ht.next h)
 have O:=Ha (Hb o1 (Hb o2 (Hb o3 (Hb o4 (Hb hc hm)))));clear o1 o2 o3 o4 hc hm ht ht2 h0 u0 hq hu
 generalize aa (uN q u:Nat)=n at *
 generalize aa (uD q u:Nat)=d at *
 generalize ah r=c at *
 generalize ah q=s at *
 generalize ah u=t at *
 have eg:∀ args W,(callFunc 40 args).run Tryz.prog W = .ok (.enter 40 args) W:=enters_of Tryz.func40 (by kernel_rfl) rfl
 go_enter Tryz.func39,Tryz.ntmps39
 go_wp2_with fail
 have hS1:=Sl.new2 w s t 22
 have BB:=Ha ((Below.refl _ w).alloc (Nat.le_refl _) (.cells #[.string s,.string t] 22))
 generalize w.alloc (.cells #[.string s,.string t] 22)=v0 at *
 generalize hk0:w.heap.size=k0 at hS1
 refine (O.out.1 _ _ hS1 BB.out).mono ?_
 rintro e v1 ⟨rfl,b⟩
 have B1:=Ha (BB.out.trans (b.mono BB.out.size));clear b BB hS1 hk0
 go_wp2_with fail
 have hS2:=Sl.new1 v1 s 22
 have BB:=Ha (B1.out.alloc B1.out.size (.cells #[.string s] 22))
 generalize v1.alloc (.cells #[.string s] 22)=v2 at *
 generalize v1.heap.size=k1 at hS2 ⊢
 refine (O.out.2.1 _ _ hS2 BB.out).mono ?_
 rintro e v3 ⟨rfl,b⟩
 have B3:=Ha (BB.out.trans (b.mono BB.out.size));clear b BB hS2 B1
 go_wp2_with fail
 have hS3:=Blk.new v3 #[.int .i64 0,.int .i64 0] 26
 have BB:=Ha (B3.out.alloc B3.out.size (.cells #[.int .i64 0,.int .i64 0] 26))
 generalize v3.alloc (.cells #[.int .i64 0,.int .i64 0] 26)=v4 at *
 generalize v3.heap.size=k3 at hS3 ⊢
 refine (fJ _ 0 0 v4 hS3).mono ?_
 rintro e v5 ⟨rfl,b⟩
 rw [if_pos rfl]
 have B5:=Ha (BB.out.trans (b.mono BB.out.size));clear b BB hS3 B3
 go_wp2_with fail
 refine (O.out.2.2.1 _ B5.out).mono ?_
 rintro e v6 ⟨rfl,b⟩
 have B6:=Ha (B5.out.trans (b.mono B5.out.size));clear b B5
 go_wp2_with fail
 refine (O.out.2.2.2.1 _ B6.out).mono ?_
 rintro e v7 ⟨rfl,b⟩
 have B7:=Ha (B6.out.trans (b.mono B6.out.size));clear b B6
 go_wp2_with fail
 refine (O.out.2.2.2.2.1 _ B7.out).mono ?_
 rintro e v8 ⟨rfl,b⟩
 have B8:=Ha (B7.out.trans (b.mono B7.out.size));clear b B7
 go_wp2_with fail
 refine (O.out.2.2.2.2.2 _ B8.out).mono ?_
 rintro e v9 ⟨rfl,b⟩
 have B9:=Ha (B8.out.trans (b.mono B8.out.size));clear b B8
 go_wp2
 go_ret2
 exact ⟨rfl,B9.out⟩
theorem tc (s t r:ByteArray) (e0:Int) (w:World)
  (h:∀ W,Below w.heap.size w W→Calls Tryz.prog 39 #[.string s,.string t,.func (.func 40) #[] #[]] W fun e W'=>e = .returned (.tuple #[.string r,.int .i64 e0])∧Below W.heap.size W W') :
  Calls Tryz.prog 15 #[.string s,.string t] w fun e W'=>e = .returned (.tuple #[.string r,.int .i64 e0])∧Below w.heap.size w W':=by
 have C:=Ha h;clear h
 go_enter Tryz.func15,Tryz.ntmps15
 go_wp2_with fail
 refine (C.out _ (Below.refl _ _)).mono ?_
 rintro e w1 ⟨rfl,b⟩
 have B1:=Ha b;clear b
 go_wp2
 go_ret2
 exact ⟨rfl,B1.out⟩
theorem BD {q u:Rat} {k:Nat} (hq:Bq k q) (hu:Bq k u) (h0:0<u):flN q u<aO (k+k):=by
 unfold flN
 refine ua (Nat.lt_of_le_of_lt (Nat.div_le_self _ _) (Nat.lt_of_lt_of_le (zO hq hu) (aP (by omega))))
end T
namespace T
open Go.RowKit
theorem BE {u:Rat} (h:u≠0):((ah u).toList == [48])=false:=by
 rw [Bool.eq_false_iff];intro k
 have h2:=(kg _).1 k
 rw [←dL] at h2
 exact h (nM h2)
end T
end Go.Proofs.YtjdomibbaemdnaaGreatDoor
