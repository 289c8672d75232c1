/- Parts of the proof of the text YtjdfjgfdbgmbiaaGreatDoorHB39. -/
import Derived.Test.YtjdfjgfdbgmbiaaGreatDoorHB1
import Derived.Test.YtjdfjgfdbgmbiaaGreatDoorHB26
import Derived.Test.YtjdfjgfdbgmbiaaGreatDoorHB27
import Derived.Test.YtjdfjgfdbgmbiaaGreatDoorHB28
import Derived.Test.YtjdfjgfdbgmbiaaGreatDoorHB29
set_option linter.all false
set_option maxRecDepth 100000
set_option maxHeartbeats 8000000
namespace Go.Proofs.YtjdfjgfdbgmbiaaGreatDoor.T
open Go.Proofs.YtjdfjgfdbgmbiaaGreatDoor Go Go.RowKit
theorem sN_size {m:Nat}:(sN m).size≤18↔m<1000000000000000000:=by
 unfold sN
 rw [strB_len,Lib.itoa_nonneg,Lib.decDigits_length]
 exact nDigits_le_iff m 18 (by decide)
theorem wsq_any (m:Nat) (w:World) (h0:0<m) (hm:m<lim) (ht:Tab w) (hS:Sm w) :
  Calls Tryz.prog 219 #[.string (sN m)] w fun e W'=>e = .returned (.tuple #[.string (sN (strips primes m).1),.string (sN (strips primes m).2)])∧Below w.heap.size w W':=by
 by_cases hs:(sN m).size≤18
 ·exact short_any m w h0 (sN_size.1 hs) hs ht hS
 ·have C:=Lib.hid (long_any m w h0 hm ht hS);clear ht hS h0
  have hz:(sN m).size≤301:=strB_size (nat_short.2 hm)
  have h1:(18:Int)<(sN m).size:=by omega
  have h2:((sN m).size:Int)≤9223372036854775807:=by omega
  generalize sN (strips primes m).1=a at *
  generalize sN (strips primes m).2=b at *
  generalize sN m=s at *
  clear hs hz hm
  go_enter Tryz.func219,Tryz.ntmps219
  go_wp2_with fail
  refine C.out.mono ?_
  rintro e w1 ⟨rfl,b⟩
  have B1:=Lib.hid b;clear b
  go_wp2
  go_ret2
  exact ⟨rfl,B1.out⟩
theorem normal_yes (n d c:ByteArray) (w:World)
  (h:∀ W,Below w.heap.size w W→Calls Tryz.prog 177 #[.agg #[.string n,.string d]] W fun e W'=>e = .returned (.tuple #[.string c,.bool true])∧Below W.heap.size W W') :
  Calls Tryz.prog 175 #[.agg #[.string n,.string d]] w fun e W'=>e = .returned (.tuple #[.string c,.string ⟨#[49]⟩])∧Below w.heap.size w W':=by
 have C:=Lib.hid (And.intro h True.intro);clear h
 go_enter Tryz.func175,Tryz.ntmps175
 go_wp2_with fail
 have hbx:Bxs w w.heap.size [[.string n,.string d]] (w.alloc (.cells #[.string n,.string d] 219)):=((Bxs.nil w w (Below.refl _ _)).push rfl [.string n,.string d] 219)
 generalize (w.alloc (.cells #[.string n,.string d] 219))=W0 at *
 generalize hk:w.heap.size=k at *
 have HK:=Lib.hid hk;clear hk
 have HB:=Lib.hid hbx
 clear hbx
 have e00:=(show World.cell? _ ⟨k,0,none⟩=some (.string n) from HB.out.cells 0 _ rfl 0 _ rfl)
 have e01:=(show World.cell? _ ⟨k,1,none⟩=some (.string d) from HB.out.cells 0 _ rfl 1 _ rfl)
 refine (C.out.1 _ (by have:=HB.out.below;rwa [HK.out] at this)).mono ?_
 rintro e w1 ⟨rfl,b⟩
 have HN:=Lib.hid (HB.out.next b);clear HB b;have HB:=HN;clear HN;have e00:=(show World.cell? _ ⟨k,0,none⟩=some (.string n) from HB.out.cells 0 _ rfl 0 _ rfl);have e01:=(show World.cell? _ ⟨k,1,none⟩=some (.string d) from HB.out.cells 0 _ rfl 1 _ rfl)
 go_wp2
 go_ret2
 refine ⟨rfl,?_⟩
 have hbl:=HB.out.below
 rwa [HK.out] at hbl ⊢
theorem normal_no (n d a m b k bk c mk:ByteArray) (w:World)
  (h1:∀ W,Below w.heap.size w W→Calls Tryz.prog 177 #[.agg #[.string n,.string d]] W fun e W'=>e = .returned (.tuple #[.string ⟨#[]⟩,.bool false])∧Below W.heap.size W W')
  (h2:∀ W,Below w.heap.size w W→Calls Tryz.prog 219 #[.string n] W fun e W'=>e = .returned (.tuple #[.string a,.string m])∧Below W.heap.size W W')
  (h3:∀ W,Below w.heap.size w W→Calls Tryz.prog 219 #[.string d] W fun e W'=>e = .returned (.tuple #[.string b,.string k])∧Below W.heap.size W W')
  (h4:∀ W,Below w.heap.size w W→Calls Tryz.prog 220 #[.string b,.string k] W fun e W'=>e = .returned (.string bk)∧Below W.heap.size W W')
  (h5:∀ W,Below w.heap.size w W→Calls Tryz.prog 221 #[.agg #[.string a,.string bk]] W fun e W'=>e = .returned (.string c)∧Below W.heap.size W W')
  (h6:∀ W,Below w.heap.size w W→Calls Tryz.prog 220 #[.string m,.string k] W fun e W'=>e = .returned (.string mk)∧Below W.heap.size W W') :
  Calls Tryz.prog 175 #[.agg #[.string n,.string d]] w fun e W'=>e = .returned (.tuple #[.string c,.string mk])∧Below w.heap.size w W':=by
 have C:=Lib.hid (And.intro h1 (And.intro h2 (And.intro h3 (And.intro h4 (And.intro h5 h6)))));clear h1 h2 h3 h4 h5 h6
 go_enter Tryz.func175,Tryz.ntmps175
 go_wp2_with fail
 have hbx:Bxs w w.heap.size [[.string n,.string d]] (w.alloc (.cells #[.string n,.string d] 219)):=((Bxs.nil w w (Below.refl _ _)).push rfl [.string n,.string d] 219)
 generalize (w.alloc (.cells #[.string n,.string d] 219))=W0 at *
 generalize hk:w.heap.size=k at *
 have HK:=Lib.hid hk;clear hk
 have HB:=Lib.hid hbx
 clear hbx
 have e00:=(show World.cell? _ ⟨k,0,none⟩=some (.string n) from HB.out.cells 0 _ rfl 0 _ rfl)
 have e01:=(show World.cell? _ ⟨k,1,none⟩=some (.string d) from HB.out.cells 0 _ rfl 1 _ rfl)
 refine (C.out.1 _ (by have:=HB.out.below;rwa [HK.out] at this)).mono ?_
 rintro e w1 ⟨rfl,b⟩
 have HN:=Lib.hid (HB.out.next b);clear HB b;have HB:=HN;clear HN;have e00:=(show World.cell? _ ⟨k,0,none⟩=some (.string n) from HB.out.cells 0 _ rfl 0 _ rfl);have e01:=(show World.cell? _ ⟨k,1,none⟩=some (.string d) from HB.out.cells 0 _ rfl 1 _ rfl)
 go_wp2_with fail
 refine (C.out.2.1 _ (by have:=HB.out.below;rwa [HK.out] at this)).mono ?_
 rintro e w2 ⟨rfl,b⟩
 have HN:=Lib.hid (HB.out.next b);clear HB b;have HB:=HN;clear HN;have e00:=(show World.cell? _ ⟨k,0,none⟩=some (.string n) from HB.out.cells 0 _ rfl 0 _ rfl);have e01:=(show World.cell? _ ⟨k,1,none⟩=some (.string d) from HB.out.cells 0 _ rfl 1 _ rfl)
 go_wp2_with fail
 refine (C.out.2.2.1 _ (by have:=HB.out.below;rwa [HK.out] at this)).mono ?_
 rintro e w3 ⟨rfl,b⟩
 have HN:=Lib.hid (HB.out.next b);clear HB b;have HB:=HN;clear HN;have e00:=(show World.cell? _ ⟨k,0,none⟩=some (.string n) from HB.out.cells 0 _ rfl 0 _ rfl);have e01:=(show World.cell? _ ⟨k,1,none⟩=some (.string d) from HB.out.cells 0 _ rfl 1 _ rfl)
 go_wp2_with fail
 refine (C.out.2.2.2.1 _ (by have:=HB.out.below;rwa [HK.out] at this)).mono ?_
 rintro e w4 ⟨rfl,b⟩
 have HN:=Lib.hid (HB.out.next b);clear HB b;have HB:=HN;clear HN;have e00:=(show World.cell? _ ⟨k,0,none⟩=some (.string n) from HB.out.cells 0 _ rfl 0 _ rfl);have e01:=(show World.cell? _ ⟨k,1,none⟩=some (.string d) from HB.out.cells 0 _ rfl 1 _ rfl)
 go_wp2_with fail
 refine (C.out.2.2.2.2.1 _ (by have:=HB.out.below;rwa [HK.out] at this)).mono ?_
 rintro e w5 ⟨rfl,b⟩
 have HN:=Lib.hid (HB.out.next b);clear HB b;have HB:=HN;clear HN;have e00:=(show World.cell? _ ⟨k,0,none⟩=some (.string n) from HB.out.cells 0 _ rfl 0 _ rfl);have e01:=(show World.cell? _ ⟨k,1,none⟩=some (.string d) from HB.out.cells 0 _ rfl 1 _ rfl)
 go_wp2_with fail
 refine (C.out.2.2.2.2.2 _ (by have:=HB.out.below;rwa [HK.out] at this)).mono ?_
 rintro e w6 ⟨rfl,b⟩
 have HN:=Lib.hid (HB.out.next b);clear HB b;have HB:=HN;clear HN;have e00:=(show World.cell? _ ⟨k,0,none⟩=some (.string n) from HB.out.cells 0 _ rfl 0 _ rfl);have e01:=(show World.cell? _ ⟨k,1,none⟩=some (.string d) from HB.out.cells 0 _ rfl 1 _ rfl)
 go_wp2
 go_ret2
 refine ⟨rfl,?_⟩
 have hbl:=HB.out.below
 rwa [HK.out] at hbl ⊢
theorem ten180:tenTo 180≤lim:=tenTo_mono (by decide)
theorem onormal (q:Rat) (w:World) (h0:0≤q) (hq:Bq 90 q) (ht:Tab w) (hS:Sm w) :
  Calls Tryz.prog 175 #[.agg #[.string (strB q.num),.string (strB (q.den:Int))]] w fun e W'=>e = .returned (.tuple #[.string (strQ (nC q)),.string (strB (nN q:Nat))])∧Below w.heap.size w W':=by
 have sq:Sq q:=hq.lim (by decide)
 by_cases hb:bothS q
 ·obtain ⟨e1,e2⟩:=nC_both hb
  rw [e1,e2,show strB ((1:Nat):Int)=⟨#[49]⟩ from str_of 1 [49] itoa_one]
  exact normal_yes _ _ _ w (fun W h=>oroot q _ W h0 sq (ht.next h) (fun _=>rfl) (fun k=>absurd hb k))
 ·have hn:=num_pos_of hb
  obtain ⟨a1,a2,a3,a4,_⟩:=strips_spec primes primes_2 hn
  obtain ⟨b1,b2,b3,b4,_⟩:=strips_spec primes primes_2 q.den_pos
  have la:(strips primes q.num.natAbs).1≤q.num.natAbs:=by
   conv=>rhs;rw [a1,Nat.mul_assoc]
   exact Nat.le_mul_of_pos_right _ (Nat.mul_pos a2 a3)
  have lm:(strips primes q.num.natAbs).2≤q.num.natAbs:=Nat.le_of_dvd hn a4
  have lk:(strips primes q.den).2≤q.den:=Nat.le_of_dvd q.den_pos b4
  have lb:(strips primes q.den).1≤q.den:=by
   conv=>rhs;rw [b1,Nat.mul_assoc]
   exact Nat.le_mul_of_pos_right _ (Nat.mul_pos b2 b3)
  have lbk:(strips primes q.den).1*(strips primes q.den).2≤q.den:=by
   conv=>rhs;rw [b1,Nat.mul_assoc]
   exact Nat.le_mul_of_pos_left _ b2
  have lmk:(strips primes q.num.natAbs).2*(strips primes q.den).2<lim :=
   Nat.lt_of_lt_of_le (Nat.lt_of_le_of_lt (Nat.mul_le_mul lm lk) (by rw [show (180:Nat)=90+90 from rfl,tenTo_add];exact Nat.mul_lt_mul'' hq.1 hq.2)) ten180
  have eC:nC q=Rat.divInt ((strips primes q.num.natAbs).1:Nat) (((strips primes q.den).1*(strips primes q.den).2:Nat):Int):=by
   unfold nC cN cD;rw [if_neg hb,if_neg hb];rfl
  have eN:nN q=(strips primes q.num.natAbs).2*(strips primes q.den).2:=by unfold nN;rw [if_neg hb]
  have hc:=cop q
  unfold cN cD at hc
  rw [if_neg hb,if_neg hb] at hc
  rw [eC,eN]
  have hd:q.den<lim:=sq.2
  have hnl:q.num.natAbs<lim:=sq.1
  have en:strB q.num=sN q.num.natAbs:=by unfold sN;rw [num_nat h0]
  rw [en]
  have p:=Nat.mul_pos b2 b3
  exact normal_no (sN q.num.natAbs) (sN q.den) _ _ _ _ (sN ((strips primes q.den).1*(strips primes q.den).2)) _ _ w
   (fun W h=>by have c:=oroot q _ W h0 sq (ht.next h) (fun k=>absurd k hb) (fun _=>rfl);rwa [en] at c)
   (fun W h=>wsq_any _ W hn hnl (ht.next h) (hS.next h)) (fun W h=>wsq_any _ W q.den_pos hd (ht.next h) (hS.next h))
   (fun W h=>n_times _ _ W (Nat.lt_of_le_of_lt lb hd) (Nat.lt_of_le_of_lt lk hd) (Nat.lt_of_le_of_lt lbk hd) (ht.next h))
   (fun W h=>onumber _ _ W (by omega) (by rw [Int.natAbs_natCast,Int.natAbs_natCast];exact hc) (nat_short.2 (Nat.lt_of_le_of_lt la hnl)) (nat_short.2 (Nat.lt_of_le_of_lt lbk hd)))
   (fun W h=>n_times _ _ W (Nat.lt_of_le_of_lt lm hnl) (Nat.lt_of_le_of_lt lk hd) lmk (ht.next h))
theorem nn1 {q:Rat} (h:0≤q):neg3L [strQ q]=0:=by
 unfold neg3L;simp only [List.any_cons,List.any_nil,neg3_str,Bool.or_false];rw [decide_eq_false (by grind)];rfl
theorem nn2 {p q:Rat} (h:0≤p) (h':0≤q):neg3L [strQ p,strQ q]=0:=by
 unfold neg3L;simp only [List.any_cons,List.any_nil,neg3_str,Bool.or_false];rw [decide_eq_false (by grind),decide_eq_false (by grind)];rfl
theorem Normal_q (q:Rat) (w:World) (h0:0≤q) (hq:Bq 90 q) (ht:Tab w) (ht2:Tab64 w) (hS:Sm w) :
  Calls Tryz.prog 136 #[.string (strQ q)] w fun e W'=>e = .returned (.tuple #[.string (strQ (nC q)),.string (strB (nN q:Nat)),.int .i64 0])∧Below w.heap.size w W':=by
 have o1:=fun (b:Nat) W (hx:Sl W b [strQ q]) (h:Below w.heap.size w W)=>check_ok1 b q W hq hx (ht.next h) (TabQ_next ht2 h)
 have o2:=fun (b:Nat) W (hx:Sl W b [strQ q]) (h:Below w.heap.size w W)=>croots_any b [strQ q] W (by simp) hx
 rw [nn1 h0] at o2
 have o3:=fun W (_:Below w.heap.size w W)=>oparts_q q W (hq.lim (by decide))
 have o4:=fun W (h:Below w.heap.size w W)=>onormal q W h0 hq (ht.next h) (hS.next h)
 have O:=Lib.hid (And.intro o1 (And.intro o2 (And.intro o3 o4)));clear o1 o2 o3 o4 ht ht2 hS h0 hq
 generalize strB q.num=n at *
 generalize strB (q.den:Int)=d at *
 generalize strQ (nC q)=c at *
 generalize strB (nN q:Nat)=m at *
 generalize strQ q=s at *
 go_enter Tryz.func136,Tryz.ntmps136
 go_wp2_with fail
 have hS1:=Sl.new1 w s 22
 have BB:=Lib.hid ((Below.refl _ w).alloc (Nat.le_refl _) (.cells #[.string s] 22))
 generalize w.alloc (.cells #[.string s] 22)=v0 at *
 generalize hk0:w.heap.size=k0 at hS1
 refine (O.out.1 _ _ hS1 BB.out).mono ?_
 rintro e v1 ⟨rfl,b⟩
 have B1:=Lib.hid (BB.out.trans (b.mono BB.out.size));clear b BB hS1 hk0
 go_wp2_with fail
 have hS2:=Sl.new1 v1 s 22
 have BB:=Lib.hid (B1.out.alloc B1.out.size (.cells #[.string s] 22))
 generalize v1.alloc (.cells #[.string s] 22)=v2 at *
 generalize v1.heap.size=k1 at hS2 ⊢
 refine (O.out.2.1 _ _ hS2 BB.out).mono ?_
 rintro e v3 ⟨rfl,b⟩
 have B3:=Lib.hid (BB.out.trans (b.mono BB.out.size));clear b BB hS2 B1
 go_wp2_with fail
 have hS3:=Blk.new v3 #[.int .i64 0,.int .i64 0] 27
 have BB:=Lib.hid (B3.out.alloc B3.out.size (.cells #[.int .i64 0,.int .i64 0] 27))
 generalize v3.alloc (.cells #[.int .i64 0,.int .i64 0] 27)=v4 at *
 generalize v3.heap.size=k3 at hS3 ⊢
 refine (cmpOr2 _ 0 0 v4 hS3).mono ?_
 rintro e v5 ⟨rfl,b⟩
 rw [if_pos rfl]
 have B5:=Lib.hid (BB.out.trans (b.mono BB.out.size));clear b BB hS3 B3
 go_wp2_with fail
 refine (O.out.2.2.1 _ B5.out).mono ?_
 rintro e v6 ⟨rfl,b⟩
 have B6:=Lib.hid (B5.out.trans (b.mono B5.out.size));clear b B5
 go_wp2_with fail
 refine (O.out.2.2.2 _ B6.out).mono ?_
 rintro e v7 ⟨rfl,b⟩
 have B7:=Lib.hid (B6.out.trans (b.mono B6.out.size));clear b B6
 go_wp2
 go_ret3
 exact ⟨rfl,B7.out⟩
end Go.Proofs.YtjdfjgfdbgmbiaaGreatDoor.T
namespace Go.Proofs.YtjdfjgfdbgmbiaaGreatDoor.T
open Go.Proofs.YtjdfjgfdbgmbiaaGreatDoor Go Go.RowKit
theorem nz48 {u:Rat} (h:u≠0):((strQ u).toList == [48])=false:=by
 rw [Bool.eq_false_iff];intro k
 have h2:=(is0_iff _).1 k
 rw [←strQ_zero] at h2
 exact h (strQ_inj h2)
theorem Ratio_yes (p q:Rat) (w:World) (p0:0≤p) (q0:0<q) (z0:0≤p / q) (hp:Bq 90 p) (hq:Bq 90 q) (hb:bothS (p / q)) (ht:Tab w) (ht2:Tab64 w) :
  Calls Tryz.prog 139 #[.string (strQ p),.string (strQ q)] w fun e W'=>e = .returned (.tuple #[.string (strQ (rootR (p / q))),.bool true,.int .i64 0])∧Below w.heap.size w W':=by
 have o1:=fun (b:Nat) W (hx:Sl W b [strQ p,strQ q]) (h:Below w.heap.size w W)=>check_ok2 b p q W hp hq hx (ht.next h) (TabQ_next ht2 h)
 have o2:=fun (b:Nat) W (hx:Sl W b [strQ p,strQ q]) (_:Below w.heap.size w W)=>croots_any b [strQ p,strQ q] W (by simp) hx
 rw [nn2 p0 (Rat.le_of_lt q0)] at o2
 have qn:q≠0:=by grind
 have hz:=nz48 qn
 obtain ⟨d1,d2,hZ⟩:=qdiv_ok hp hq (by decide) qn
 have o3:=fun W (h:Below w.heap.size w W)=>Div_q p q W (hp.lim (by decide)) (hq.lim (by decide)) qn (ht.next h) (TabQ_next ht2 h)
 rw [d1,d2] at o3
 have o4:=fun W (_:Below w.heap.size w W)=>oparts_q (p / q) W (hZ.lim (by decide))
 have o5:=fun W (h:Below w.heap.size w W)=>oroot (p / q) (.tuple #[.string (strQ (rootR (p / q))),.bool true]) W z0 (hZ.lim (by decide)) (ht.next h) (fun _=>rfl) (fun k=>absurd hb k)
 have O:=Lib.hid (And.intro o1 (And.intro o2 (And.intro o3 (And.intro o4 o5))));clear o1 o2 o3 o4 o5 ht ht2 p0 q0 z0 hp hq hb qn d1 d2 hZ
 generalize strB (p / q).num=n at *
 generalize strB ((p / q).den:Int)=d at *
 generalize strQ (rootR (p / q))=c at *
 generalize strQ (p / q)=z at *
 generalize strQ p=s at *
 generalize strQ q=t at *
 go_enter Tryz.func139,Tryz.ntmps139
 go_wp2_with fail
 have hS1:=Sl.new2 w s t 22
 have BB:=Lib.hid ((Below.refl _ w).alloc (Nat.le_refl _) (.cells #[.string s,.string t] 22))
 generalize w.alloc (.cells #[.string s,.string t] 22)=v0 at *
 generalize hk0:w.heap.size=k0 at hS1
 refine (O.out.1 _ _ hS1 BB.out).mono ?_
 rintro e v1 ⟨rfl,b⟩
 have B1:=Lib.hid (BB.out.trans (b.mono BB.out.size));clear b BB hS1 hk0
 go_wp2_with fail
 have hS2:=Sl.new2 v1 s t 22
 have BB:=Lib.hid (B1.out.alloc B1.out.size (.cells #[.string s,.string t] 22))
 generalize v1.alloc (.cells #[.string s,.string t] 22)=v2 at *
 generalize v1.heap.size=k1 at hS2 ⊢
 refine (O.out.2.1 _ _ hS2 BB.out).mono ?_
 rintro e v3 ⟨rfl,b⟩
 have B3:=Lib.hid (BB.out.trans (b.mono BB.out.size));clear b BB hS2 B1
 go_wp2_with fail
 have hS3:=Blk.new v3 #[.int .i64 0,.int .i64 0] 27
 have BB:=Lib.hid (B3.out.alloc B3.out.size (.cells #[.int .i64 0,.int .i64 0] 27))
 generalize v3.alloc (.cells #[.int .i64 0,.int .i64 0] 27)=v4 at *
 generalize v3.heap.size=k3 at hS3 ⊢
 refine (cmpOr2 _ 0 0 v4 hS3).mono ?_
 rintro e v5 ⟨rfl,b⟩
 rw [if_pos rfl]
 have B5:=Lib.hid (BB.out.trans (b.mono BB.out.size));clear b BB hS3 B3
 go_wp2_with fail
 refine (O.out.2.2.1 _ B5.out).mono ?_
 rintro e v6 ⟨rfl,b⟩
 have B6:=Lib.hid (B5.out.trans (b.mono B5.out.size));clear b B5
 go_wp2_with fail
 refine (O.out.2.2.2.1 _ B6.out).mono ?_
 rintro e v7 ⟨rfl,b⟩
 have B7:=Lib.hid (B6.out.trans (b.mono B6.out.size));clear b B6
 go_wp2_with fail
 refine (O.out.2.2.2.2 _ B7.out).mono ?_
 rintro e v8 ⟨rfl,b⟩
 have B8:=Lib.hid (B7.out.trans (b.mono B7.out.size));clear b B7
 go_wp2
 go_ret3
 exact ⟨rfl,B8.out⟩
theorem Ratio_no (p q:Rat) (w:World) (p0:0≤p) (q0:0<q) (z0:0≤p / q) (hp:Bq 90 p) (hq:Bq 90 q) (hb:¬ bothS (p / q)) (ht:Tab w) (ht2:Tab64 w) :
  Calls Tryz.prog 139 #[.string (strQ p),.string (strQ q)] w fun e W'=>e = .returned (.tuple #[.string ⟨#[]⟩,.bool false,.int .i64 0])∧Below w.heap.size w W':=by
 have o1:=fun (b:Nat) W (hx:Sl W b [strQ p,strQ q]) (h:Below w.heap.size w W)=>check_ok2 b p q W hp hq hx (ht.next h) (TabQ_next ht2 h)
 have o2:=fun (b:Nat) W (hx:Sl W b [strQ p,strQ q]) (_:Below w.heap.size w W)=>croots_any b [strQ p,strQ q] W (by simp) hx
 rw [nn2 p0 (Rat.le_of_lt q0)] at o2
 have qn:q≠0:=by grind
 have hz:=nz48 qn
 obtain ⟨d1,d2,hZ⟩:=qdiv_ok hp hq (by decide) qn
 have o3:=fun W (h:Below w.heap.size w W)=>Div_q p q W (hp.lim (by decide)) (hq.lim (by decide)) qn (ht.next h) (TabQ_next ht2 h)
 rw [d1,d2] at o3
 have o4:=fun W (_:Below w.heap.size w W)=>oparts_q (p / q) W (hZ.lim (by decide))
 have o5:=fun W (h:Below w.heap.size w W)=>oroot (p / q) (.tuple #[.string ⟨#[]⟩,.bool false]) W z0 (hZ.lim (by decide)) (ht.next h) (fun k=>absurd k hb) (fun _=>rfl)
 have O:=Lib.hid (And.intro o1 (And.intro o2 (And.intro o3 (And.intro o4 o5))));clear o1 o2 o3 o4 o5 ht ht2 p0 q0 z0 hp hq hb qn d1 d2 hZ
 generalize strB (p / q).num=n at *
 generalize strB ((p / q).den:Int)=d at *
 generalize strQ (p / q)=z at *
 generalize strQ p=s at *
 generalize strQ q=t at *
 go_enter Tryz.func139,Tryz.ntmps139
 go_wp2_with fail
 have hS1:=Sl.new2 w s t 22
 have BB:=Lib.hid ((Below.refl _ w).alloc (Nat.le_refl _) (.cells #[.string s,.string t] 22))
 generalize w.alloc (.cells #[.string s,.string t] 22)=v0 at *
 generalize hk0:w.heap.size=k0 at hS1
 refine (O.out.1 _ _ hS1 BB.out).mono ?_
 rintro e v1 ⟨rfl,b⟩
 have B1:=Lib.hid (BB.out.trans (b.mono BB.out.size));clear b BB hS1 hk0
 go_wp2_with fail
 have hS2:=Sl.new2 v1 s t 22
 have BB:=Lib.hid (B1.out.alloc B1.out.size (.cells #[.string s,.string t] 22))
 generalize v1.alloc (.cells #[.string s,.string t] 22)=v2 at *
 generalize v1.heap.size=k1 at hS2 ⊢
 refine (O.out.2.1 _ _ hS2 BB.out).mono ?_
 rintro e v3 ⟨rfl,b⟩
 have B3:=Lib.hid (BB.out.trans (b.mono BB.out.size));clear b BB hS2 B1
 go_wp2_with fail
 have hS3:=Blk.new v3 #[.int .i64 0,.int .i64 0] 27
 have BB:=Lib.hid (B3.out.alloc B3.out.size (.cells #[.int .i64 0,.int .i64 0] 27))
 generalize v3.alloc (.cells #[.int .i64 0,.int .i64 0] 27)=v4 at *
 generalize v3.heap.size=k3 at hS3 ⊢
 refine (cmpOr2 _ 0 0 v4 hS3).mono ?_
 rintro e v5 ⟨rfl,b⟩
 rw [if_pos rfl]
 have B5:=Lib.hid (BB.out.trans (b.mono BB.out.size));clear b BB hS3 B3
 go_wp2_with fail
 refine (O.out.2.2.1 _ B5.out).mono ?_
 rintro e v6 ⟨rfl,b⟩
 have B6:=Lib.hid (B5.out.trans (b.mono B5.out.size));clear b B5
 go_wp2_with fail
 refine (O.out.2.2.2.1 _ B6.out).mono ?_
 rintro e v7 ⟨rfl,b⟩
 have B7:=Lib.hid (B6.out.trans (b.mono B6.out.size));clear b B6
 go_wp2_with fail
 refine (O.out.2.2.2.2 _ B7.out).mono ?_
 rintro e v8 ⟨rfl,b⟩
 have B8:=Lib.hid (B7.out.trans (b.mono B7.out.size));clear b B7
 go_wp2
 go_ret3
 exact ⟨rfl,B8.out⟩
end Go.Proofs.YtjdfjgfdbgmbiaaGreatDoor.T
namespace Go.Proofs.YtjdfjgfdbgmbiaaGreatDoor.T
open Go.Proofs.YtjdfjgfdbgmbiaaGreatDoor Go Go.RowKit
theorem alc_d {w:World} {a:Addr} {o:Obj} {u:Value} (h:w.cell? a=some u):(w.alloc o).drew.cell? a=some u :=
 ((Below.refl w.heap.size w).alloc (Nat.le_refl _) o).cell (World.block_lt_of_cell? w a h) |>.trans h
theorem alc {w:World} {a:Addr} {o:Obj} {u:Value} (h:w.cell? a=some u):(w.alloc o).cell? a=some u :=
 ((Below.refl w.heap.size w).alloc (Nat.le_refl _) o).cell (World.block_lt_of_cell? w a h) |>.trans h
theorem checkNumbers_core (c r:ByteArray) (w:World)
  (h1:∀ s W,(s=c∨s=r)→Below w.heap.size w W→Calls Tryz.prog 107 #[.string s] W fun e W'=>e = .returned (.int .i64 0)∧Below W.heap.size W W') :
  Calls Tryz.prog 93 #[.agg #[.string c,.string r]] w fun e W'=>e = .returned (.int .i64 0)∧Below w.heap.size w W':=by
 have O:=Lib.hid h1;clear h1
 go_enter Tryz.func93,Tryz.ntmps93
 go_wp2
 have HB:=Lib.hid (And.intro (Blk.new w #[.string c,.string r] 50) ((Below.refl _ w).alloc (Nat.le_refl _) (.cells #[.string c,.string r] 50)))
 generalize w.alloc (.cells #[.string c,.string r] 50)=W0 at *
 generalize hk:w.heap.size=k at *
 have HK:=Lib.hid hk;clear hk
 have e0:=(show World.cell? _ ⟨k,0,none⟩=some (.string c) from HB.out.1.cell 0 _ rfl);have e1:=(show World.cell? _ ⟨k,1,none⟩=some (.string r) from HB.out.1.cell 1 _ rfl)
 have HD:=Lib.hid (And.intro HB.out.1.drew HB.out.2.drew);clear HB;have HB:=HD;clear HD
 have e0:=(show World.cell? _ ⟨k,0,none⟩=some (.string c) from HB.out.1.cell 0 _ rfl);have e1:=(show World.cell? _ ⟨k,1,none⟩=some (.string r) from HB.out.1.cell 1 _ rfl)
 go_region_held3 (fun w'=>w'.cell? ⟨k,0,none⟩=some (.string c)∧w'.cell? ⟨k,1,none⟩=some (.string r)) (first | exact ⟨e0,e1⟩ | (go_keep;done) | exact ⟨alc e0,alc e1⟩ | exact ⟨alc_d e0,alc_d e1⟩)
  (first | (go_at_call 107;refine Calls.mono (O.out _ _ ?_ HB.out.2) ?_;(first | exact .inl rfl | exact .inr rfl);rintro e w2 ⟨rfl,b⟩;have HN:=Lib.hid (And.intro (HB.out.1.next b) (HB.out.2.trans (b.mono (by have h1:=HB.out.2.size;have h2:=HK.out;omega))));clear HB b;have HB:=HN;clear HN;have e0:=(show World.cell? _ ⟨k,0,none⟩=some (.string c) from HB.out.1.cell 0 _ rfl);have e1:=(show World.cell? _ ⟨k,1,none⟩=some (.string r) from HB.out.1.cell 1 _ rfl)) | (go_at_call 64;refine (cmpOr2 _ 0 0 _ (Blk.new _ _ _)).mono ?_;rintro e w5 ⟨rfl,b⟩;have HN:=Lib.hid (And.intro ((HB.out.1.alloc (.cells #[.int .i64 0,.int .i64 0] 27)).next b) ((HB.out.2.alloc (by have h1:=HB.out.2.size;have h2:=HK.out;omega) (.cells #[.int .i64 0,.int .i64 0] 27)).trans (b.mono (by have h1:=HB.out.2.size;have h2:=HK.out;simp;omega))));clear HB b;have HB:=HN;clear HN;have e0:=(show World.cell? _ ⟨k,0,none⟩=some (.string c) from HB.out.1.cell 0 _ rfl);have e1:=(show World.cell? _ ⟨k,1,none⟩=some (.string r) from HB.out.1.cell 1 _ rfl)))
 all_goals
  go_wp2
  go_ret
  have hb:=HB.out.2
  rw [←HK.out] at hb
  exact ⟨rfl,hb⟩
def GT (t:Tm):Prop:=t.1≠0∧Bq 60 t.1∧∃ b:Nat,t.2=(b:Rat)∧Nrm b∧b<tenTo 40
theorem bqN {b k:Nat} (h:b<tenTo k) (hk:1≤k):Bq k ((b:Nat):Rat):=nat_Bq hk h
theorem isNormal_yes (b:Nat) (w:World) (hb:Nrm b) (hl:b<tenTo 40) (ht:Tab w) (ht2:Tab64 w) (hS:Sm w) :
  Calls Tryz.prog 110 #[.string (strQ ((b:Nat):Rat))] w fun e W'=>e = .returned (.bool true)∧Below w.heap.size w W' :=
 isNormal_core _ w fun W h=>by
  have c:=Normal_q ((b:Nat):Rat) W (castn_nonneg b) ((bqN hl (by decide)).up (by decide)) (ht.next h) (TabQ_next ht2 h) (hS.next h)
  rwa [hb.2.1,hb.2.2,strQ_one,←strQ_nat] at c
theorem strN_ne {x y:Rat} (h:x≠y):((strQ x).toList==(strQ y).toList)=false:=by
 rw [Bool.eq_false_iff];intro k
 have h2:(strQ x).toList=(strQ y).toList:=by simpa using k
 refine h (strQ_inj ?_)
 rw [ByteArray.toList_eq,ByteArray.toList_eq] at h2
 exact bytes_ext h2
theorem sizeN {b k:Nat} (hk:1≤k):(strQ ((b:Nat):Rat)).size≤k↔b<tenTo k:=by
 rw [strQ_nat,sN_len];exact nDigits_tenTo b k hk
theorem both_one {a:Nat} (h:0<a):(a:Rat) / (a:Rat)=1:=by
 rw [Rat.div_def];exact Rat.mul_inv_cancel _ (by have:=nat_pos h;grind)
theorem bothS_1:bothS (1:Rat):=bothS_sq ⟨1,by grind⟩
theorem rootR_1:rootR 1=1:=sq_inj (rootR_nonneg bothS_1) (by decide) (by rw [rootR_sq (by decide) bothS_1];grind)
theorem ratio_yes (a b:Nat) (w:World) (ha:Nrm a) (hb:Nrm b) (la:a<tenTo 90) (lb:b<tenTo 90) (h:bothS ((a:Rat) / (b:Rat))) (ht:Tab w) (ht2:Tab64 w) :
  Calls Tryz.prog 112 #[.string (strQ (a:Rat)),.string (strQ (b:Rat))] w fun e W'=>e = .returned (.tuple #[.string (strQ (rootR ((a:Rat) / (b:Rat)))),.bool true])∧Below w.heap.size w W':=by
 by_cases e:a=b
 ·subst e
  rw [both_one ha.1,rootR_1,strQ_one]
  exact ratio_same _ w
 ·have s90:=(sizeN (b:=a) (k:=90) (by decide)).2 la
  have t90:=(sizeN (b:=b) (k:=90) (by decide)).2 lb
  refine ratio_long _ _ _ true w (strN_ne fun k=>e (Rat.natCast_inj.1 k)) ?_ (by omega) (by omega) fun W h2 => ?_
  ·rcases Nat.lt_or_ge 4 (strQ (a:Rat)).size with l | l
   ·exact .inl l
   ·rcases Nat.lt_or_ge 4 (strQ (b:Rat)).size with m | m
    ·exact .inr m
    ·exact absurd (nrm_ratio ha hb ((sizeN (by decide)).1 l) ((sizeN (by decide)).1 m) h) e
  ·exact Ratio_yes (a:Rat) (b:Rat) W (castn_nonneg a) (nat_pos hb.1) (div_nn (castn_nonneg a) (nat_pos hb.1)) (bqN la (by decide)) (bqN lb (by decide)) h (ht.next h2) (TabQ_next ht2 h2)
theorem ratio_no (a b:Nat) (w:World) (ha:Nrm a) (hb:Nrm b) (la:a<tenTo 90) (lb:b<tenTo 90) (h:¬ bothS ((a:Rat) / (b:Rat))) (ht:Tab w) (ht2:Tab64 w) :
  Calls Tryz.prog 112 #[.string (strQ (a:Rat)),.string (strQ (b:Rat))] w fun e W'=>e = .returned (.tuple #[.string ⟨#[]⟩,.bool false])∧Below w.heap.size w W':=by
 have e:a≠b:=fun e=>h (by rw [e,both_one hb.1];exact bothS_1)
 have ne:=strN_ne (x:=(a:Rat)) (y:=(b:Rat)) fun k=>e (Rat.natCast_inj.1 k)
 have s90:=(sizeN (b:=a) (k:=90) (by decide)).2 la
 have t90:=(sizeN (b:=b) (k:=90) (by decide)).2 lb
 by_cases k:4<(strQ (a:Rat)).size∨4<(strQ (b:Rat)).size
 ·exact ratio_long _ _ _ false w ne k (by omega) (by omega) fun W h2=>Ratio_no (a:Rat) (b:Rat) W (castn_nonneg a) (nat_pos hb.1) (div_nn (castn_nonneg a) (nat_pos hb.1)) (bqN la (by decide)) (bqN lb (by decide)) h (ht.next h2) (TabQ_next ht2 h2)
 ·exact ratio_short _ _ w ne (by omega) (by omega)
theorem checkTerm_ok (t:Tm) (w:World) (h:GT t) (ht:Tab w) (ht2:Tab64 w) (hS:Sm w) :
  Calls Tryz.prog 84 #[.agg #[.string (strQ t.1),.string (strQ t.2)]] w fun e W'=>e = .returned (.int .i64 0)∧Below w.heap.size w W':=by
 obtain ⟨c0,cb,b,e,nb,lb⟩:=h
 rw [e]
 have hb:=bqN lb (by decide)
 refine checkTerm_core _ _ w (nz48 c0) (fun W hw => ?_) (fun W hw=>isTooLong_no _ _ W cb hb) (fun W hw=>isNormal_yes b W nb lb (ht.next hw) (TabQ_next ht2 hw) (hS.next hw))
 refine checkNumbers_core _ _ W fun s W2 hs hw2 => ?_
 rcases hs with rfl | rfl
 ·exact Check_q t.1 W2 (cb.lim (by decide)) ((ht.next hw).next hw2) (TabQ_next (TabQ_next ht2 hw) hw2)
 ·exact Check_q (b:Rat) W2 (hb.lim (by decide)) ((ht.next hw).next hw2) (TabQ_next (TabQ_next ht2 hw) hw2)
structure Good (l:List Tm):Prop where
 len:l.length≤16
 ok:∀ t∈l,GT t
 asc:l.Pairwise fun s t=>s.2<t.2
 red:l.Pairwise fun s t=>¬ Rl s.2 t.2
theorem GT.pos {t:Tm} (h:GT t):0<t.2:=by obtain ⟨_,_,b,e,nb,_⟩:=h;rw [e];exact nat_pos nb.1
theorem Good.Red {l:List Tm} (h:Good l):Red l:=⟨fun t ht=>(h.ok t ht).pos,h.red⟩
theorem checkPlace_ok (l:List Tm) (hl:Good l) (i:Nat) (hi:i<l.length) (p:Option Addr) (c:Nat) (w:World) (hx:Rd w p l) (ht:Tab w) (ht2:Tab64 w) :
  Calls Tryz.prog 85 #[.string (strQ (tat l i).2),.slice p i c] w fun e W'=>e = .returned (.int .i64 0)∧Below w.heap.size w W':=by
 have hlen:=hl.len
 have hlt:(l.take i).length=i:=by rw [List.length_take];omega
 obtain ⟨_,_,a,ea,na,la⟩:=hl.ok _ (tat_mem hi)
 have pr:∀ j,j<(l.take i).length→∃ b:Nat,(tat (l.take i) j).2=(b:Rat)∧Nrm b∧b<tenTo 40∧b<a∧¬ bothS ((a:Rat) / (b:Rat)):=fun j hj=>by
  rw [hlt] at hj
  rw [tat_take hj]
  have hjl:j<l.length:=by omega
  obtain ⟨_,_,b,eb,nb,lb⟩:=hl.ok _ (tat_mem hjl)
  have h1:=List.pairwise_iff_getElem.1 hl.asc j i hjl hi hj
  have h2:=List.pairwise_iff_getElem.1 hl.red j i hjl hi hj
  rw [←tat_get hjl,←tat_get hi,eb,ea] at h1 h2
  refine ⟨b,eb,nb,lb,Rat.natCast_lt_natCast.1 h1,fun k=>h2 ?_⟩
  exact ((both_rl (nat_pos na.1) (nat_pos nb.1)).1 k).symm
 rw [ea]
 have up:∀ {x:Nat},x<tenTo 40→x<tenTo 90:=fun h=>Nat.lt_of_lt_of_le h (tenTo_mono (by decide))
 refine checkPlace_core _ (l.take i) p i c w hlt.symm (by omega) (hx.take i) 1 (by decide) (fun j hj W hw => ?_) (fun j hj W hw => ?_)
 ·obtain ⟨b,eb,_,lb,ab,_⟩:=pr j hj
  rw [eb,strQ_nat,strQ_nat]
  have c1:=sorder a b W (ten_lim (by decide) la) (ten_lim (by decide) lb)
  have e1:cmpZ (a:Int) (b:Int)=1:=by unfold cmpZ;rw [if_neg (by omega),if_pos (by omega)]
  rwa [e1] at c1
 ·obtain ⟨b,eb,nb,lb,_,nr⟩:=pr j hj
  rw [eb]
  exact ratio_no a b W na nb (up la) (up lb) nr (ht.next hw) (TabQ_next ht2 hw)
end Go.Proofs.YtjdfjgfdbgmbiaaGreatDoor.T
namespace Go.Proofs.YtjdfjgfdbgmbiaaGreatDoor.T
open Go.Proofs.YtjdfjgfdbgmbiaaGreatDoor Go Go.RowKit
theorem normal_core (c r nc nn pc:ByteArray) (w:World) (h90:nn.size≤90)
  (h1:∀ W,Below w.heap.size w W→Calls Tryz.prog 136 #[.string r] W fun e W'=>e = .returned (.tuple #[.string nc,.string nn,.int .i64 0])∧Below W.heap.size W W')
  (h2:∀ W,Below w.heap.size w W→Calls Tryz.prog 24 #[.string c,.string nc] W fun e W'=>e = .returned (.tuple #[.string pc,.int .i64 0])∧Below W.heap.size W W') :
  Calls Tryz.prog 113 #[.agg #[.string c,.string r]] w fun e W'=>e = .returned (.tuple #[.agg #[.string pc,.string nn],.int .i64 0])∧Below w.heap.size w W':=by
 have C:=Lib.hid (And.intro h1 h2);clear h1 h2
 have y1:¬ (90:Int)<nn.size:=by omega
 clear h90
 go_enter Tryz.func113,Tryz.ntmps113
 go_wp2_with fail
 have hbx:Bxs w w.heap.size [[.string c,.string r],[.string ⟨#[]⟩,.string ⟨#[]⟩]] ((w.alloc (.cells #[.string c,.string r] 50)).alloc (.cells #[.string ⟨#[]⟩,.string ⟨#[]⟩] 50)):=(((Bxs.nil w w (Below.refl _ _)).push rfl [.string c,.string r] 50).push (by simp) [.string ⟨#[]⟩,.string ⟨#[]⟩] 50)
 generalize ((w.alloc (.cells #[.string c,.string r] 50)).alloc (.cells #[.string ⟨#[]⟩,.string ⟨#[]⟩] 50))=W0 at *
 generalize hk:w.heap.size=k at *
 have HK:=Lib.hid hk;clear hk
 have HB:=Lib.hid hbx
 clear hbx
 have e00:=(show World.cell? _ ⟨k,0,none⟩=some (.string c) from HB.out.cells 0 _ rfl 0 _ rfl)
 have e01:=(show World.cell? _ ⟨k,1,none⟩=some (.string r) from HB.out.cells 0 _ rfl 1 _ rfl)
 have e10:=(show World.cell? _ ⟨k+1,0,none⟩=some (.string ⟨#[]⟩) from HB.out.cells 1 _ rfl 0 _ rfl)
 have f10:=(show World.frozen? _ ⟨k+1,0,none⟩=false from HB.out.frozen 1 (by simp) 0)
 have e11:=(show World.cell? _ ⟨k+1,1,none⟩=some (.string ⟨#[]⟩) from HB.out.cells 1 _ rfl 1 _ rfl)
 have f11:=(show World.frozen? _ ⟨k+1,1,none⟩=false from HB.out.frozen 1 (by simp) 1)
 refine (C.out.1 _ (by have:=HB.out.below;rwa [HK.out] at this)).mono ?_
 rintro e w1 ⟨rfl,b⟩
 have HN:=Lib.hid (HB.out.next b);clear HB b;have HB:=HN;clear HN;have e00:=(show World.cell? _ ⟨k,0,none⟩=some (.string c) from HB.out.cells 0 _ rfl 0 _ rfl);have e01:=(show World.cell? _ ⟨k,1,none⟩=some (.string r) from HB.out.cells 0 _ rfl 1 _ rfl);have e10:=(show World.cell? _ ⟨k+1,0,none⟩=some (.string ⟨#[]⟩) from HB.out.cells 1 _ rfl 0 _ rfl);have f10:=(show World.frozen? _ ⟨k+1,0,none⟩=false from HB.out.frozen 1 (by simp) 0);have e11:=(show World.cell? _ ⟨k+1,1,none⟩=some (.string ⟨#[]⟩) from HB.out.cells 1 _ rfl 1 _ rfl);have f11:=(show World.frozen? _ ⟨k+1,1,none⟩=false from HB.out.frozen 1 (by simp) 1)
 go_wp2_with fail
 refine (C.out.2 _ (by have:=HB.out.below;rwa [HK.out] at this)).mono ?_
 rintro e w2 ⟨rfl,b⟩
 have HN:=Lib.hid (HB.out.next b);clear HB b;have HB:=HN;clear HN;have e00:=(show World.cell? _ ⟨k,0,none⟩=some (.string c) from HB.out.cells 0 _ rfl 0 _ rfl);have e01:=(show World.cell? _ ⟨k,1,none⟩=some (.string r) from HB.out.cells 0 _ rfl 1 _ rfl);have e10:=(show World.cell? _ ⟨k+1,0,none⟩=some (.string ⟨#[]⟩) from HB.out.cells 1 _ rfl 0 _ rfl);have f10:=(show World.frozen? _ ⟨k+1,0,none⟩=false from HB.out.frozen 1 (by simp) 0);have e11:=(show World.cell? _ ⟨k+1,1,none⟩=some (.string ⟨#[]⟩) from HB.out.cells 1 _ rfl 1 _ rfl);have f11:=(show World.frozen? _ ⟨k+1,1,none⟩=false from HB.out.frozen 1 (by simp) 1)
 obtain ⟨g0,g1⟩:=twoB e10 e11 (.string pc) (.string nn)
 go_wp2
 refine bodyPost_ret (v := .tuple #[.agg #[.string pc,.string nn],.int .i64 0]) (by simp [results,Tryz.results113,go_sem,g0,g1]) rfl ?_
 refine ⟨rfl,?_⟩
 have hbl:=HB.out.below
 rw [HK.out] at hbl ⊢
 exact below_put2 hbl (by omega) _ _
theorem product_core (a b c d x y:ByteArray) (w:World)
  (h1:∀ W,Below w.heap.size w W→Calls Tryz.prog 24 #[.string a,.string c] W fun e W'=>e = .returned (.tuple #[.string x,.int .i64 0])∧Below W.heap.size W W')
  (h2:∀ W,Below w.heap.size w W→Calls Tryz.prog 24 #[.string b,.string d] W fun e W'=>e = .returned (.tuple #[.string y,.int .i64 0])∧Below W.heap.size W W') :
  Calls Tryz.prog 58 #[.agg #[.string a,.string b],.agg #[.string c,.string d]] w fun e W'=>e = .returned (.agg #[.string x,.string y])∧Below w.heap.size w W':=by
 have C:=Lib.hid (And.intro h1 h2);clear h1 h2
 go_enter Tryz.func58,Tryz.ntmps58
 go_wp2_with fail
 have hbx:Bxs w w.heap.size [[.string a,.string b],[.string c,.string d],[.string ⟨#[]⟩,.string ⟨#[]⟩]] (((w.alloc (.cells #[.string a,.string b] 50)).alloc (.cells #[.string c,.string d] 50)).alloc (.cells #[.string ⟨#[]⟩,.string ⟨#[]⟩] 50)):=((((Bxs.nil w w (Below.refl _ _)).push rfl [.string a,.string b] 50).push (by simp) [.string c,.string d] 50).push (by simp) [.string ⟨#[]⟩,.string ⟨#[]⟩] 50)
 generalize (((w.alloc (.cells #[.string a,.string b] 50)).alloc (.cells #[.string c,.string d] 50)).alloc (.cells #[.string ⟨#[]⟩,.string ⟨#[]⟩] 50))=W0 at *
 generalize hk:w.heap.size=k at *
 have HK:=Lib.hid hk;clear hk
 have HB:=Lib.hid hbx
 clear hbx
 have e00:=(show World.cell? _ ⟨k,0,none⟩=some (.string a) from HB.out.cells 0 _ rfl 0 _ rfl)
 have e01:=(show World.cell? _ ⟨k,1,none⟩=some (.string b) from HB.out.cells 0 _ rfl 1 _ rfl)
 have e10:=(show World.cell? _ ⟨k+1,0,none⟩=some (.string c) from HB.out.cells 1 _ rfl 0 _ rfl)
 have e11:=(show World.cell? _ ⟨k+1,1,none⟩=some (.string d) from HB.out.cells 1 _ rfl 1 _ rfl)
 have e20:=(show World.cell? _ ⟨k+1+1,0,none⟩=some (.string ⟨#[]⟩) from HB.out.cells 2 _ rfl 0 _ rfl)
 have f20:=(show World.frozen? _ ⟨k+1+1,0,none⟩=false from HB.out.frozen 2 (by simp) 0)
 have e21:=(show World.cell? _ ⟨k+1+1,1,none⟩=some (.string ⟨#[]⟩) from HB.out.cells 2 _ rfl 1 _ rfl)
 have f21:=(show World.frozen? _ ⟨k+1+1,1,none⟩=false from HB.out.frozen 2 (by simp) 1)
 refine (C.out.1 _ (by have:=HB.out.below;rwa [HK.out] at this)).mono ?_
 rintro e w1 ⟨rfl,bx⟩
 have HN:=Lib.hid (HB.out.next bx);clear HB bx;have HB:=HN;clear HN;have e00:=(show World.cell? _ ⟨k,0,none⟩=some (.string a) from HB.out.cells 0 _ rfl 0 _ rfl);have e01:=(show World.cell? _ ⟨k,1,none⟩=some (.string b) from HB.out.cells 0 _ rfl 1 _ rfl);have e10:=(show World.cell? _ ⟨k+1,0,none⟩=some (.string c) from HB.out.cells 1 _ rfl 0 _ rfl);have e11:=(show World.cell? _ ⟨k+1,1,none⟩=some (.string d) from HB.out.cells 1 _ rfl 1 _ rfl);have e20:=(show World.cell? _ ⟨k+1+1,0,none⟩=some (.string ⟨#[]⟩) from HB.out.cells 2 _ rfl 0 _ rfl);have f20:=(show World.frozen? _ ⟨k+1+1,0,none⟩=false from HB.out.frozen 2 (by simp) 0);have e21:=(show World.cell? _ ⟨k+1+1,1,none⟩=some (.string ⟨#[]⟩) from HB.out.cells 2 _ rfl 1 _ rfl);have f21:=(show World.frozen? _ ⟨k+1+1,1,none⟩=false from HB.out.frozen 2 (by simp) 1)
 go_wp2_with fail
 refine (C.out.2 _ (by have:=HB.out.below;rwa [HK.out] at this)).mono ?_
 rintro e w2 ⟨rfl,bx⟩
 have HN:=Lib.hid (HB.out.next bx);clear HB bx;have HB:=HN;clear HN;have e00:=(show World.cell? _ ⟨k,0,none⟩=some (.string a) from HB.out.cells 0 _ rfl 0 _ rfl);have e01:=(show World.cell? _ ⟨k,1,none⟩=some (.string b) from HB.out.cells 0 _ rfl 1 _ rfl);have e10:=(show World.cell? _ ⟨k+1,0,none⟩=some (.string c) from HB.out.cells 1 _ rfl 0 _ rfl);have e11:=(show World.cell? _ ⟨k+1,1,none⟩=some (.string d) from HB.out.cells 1 _ rfl 1 _ rfl);have e20:=(show World.cell? _ ⟨k+1+1,0,none⟩=some (.string ⟨#[]⟩) from HB.out.cells 2 _ rfl 0 _ rfl);have f20:=(show World.frozen? _ ⟨k+1+1,0,none⟩=false from HB.out.frozen 2 (by simp) 0);have e21:=(show World.cell? _ ⟨k+1+1,1,none⟩=some (.string ⟨#[]⟩) from HB.out.cells 2 _ rfl 1 _ rfl);have f21:=(show World.frozen? _ ⟨k+1+1,1,none⟩=false from HB.out.frozen 2 (by simp) 1)
 obtain ⟨g0,g1⟩:=twoB e20 e21 (.string x) (.string y)
 go_wp2
 refine bodyPost_ret (v := .agg #[.string x,.string y]) (by simp [results,Tryz.results58,go_sem,g0,g1]) rfl ?_
 refine ⟨rfl,?_⟩
 have hbl:=HB.out.below
 rw [HK.out] at hbl ⊢
 exact below_put2 hbl (by omega) _ _
theorem isZero_any (c r:ByteArray) (f:Bool) (w:World) (hf:(c.toList == [48])=f) :
  Calls Tryz.prog 115 #[.agg #[.string c,.string r]] w fun e W'=>e = .returned (.bool f)∧Below w.heap.size w W':=by
 go_enter Tryz.func115,Tryz.ntmps115
 go_wp2
 go_ret
 exact ⟨rfl,(Below.refl _ w).alloc (Nat.le_refl _) _⟩
end Go.Proofs.YtjdfjgfdbgmbiaaGreatDoor.T
