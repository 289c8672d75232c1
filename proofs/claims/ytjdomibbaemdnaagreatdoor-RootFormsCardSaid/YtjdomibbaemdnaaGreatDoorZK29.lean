/- Parts of the proof of the text YtjdomibbaemdnaaGreatDoorZK42. -/
import Derived.Test.YtjdomibbaemdnaaGreatDoorZK1
import Derived.Test.YtjdomibbaemdnaaGreatDoorZK12
import Derived.Test.YtjdomibbaemdnaaGreatDoorZK28
import Derived.Test.YtjdomibbaemdnaaGreatDoorZK9
set_option linter.all false
set_option maxRecDepth 100000
set_option maxHeartbeats 8000000
namespace Go.Proofs.YtjdomibbaemdnaaGreatDoor
namespace R
open Go.RowKit
theorem lU (l:List UInt8) (e:Nat) (h:6≤e) (he:e≤l.length):ae (l.take e)=ae (l.take (e - 6))*1000000+ae ((l.take e).drop (e - 6)):=by
 have h1:l.take e=l.take (e - 6)++(l.take e).drop (e - 6):=by
  conv=>lhs;rw [←List.take_append_drop (e - 6) (l.take e)]
  rw [List.take_take,Nat.min_eq_left (by omega)]
 conv=>lhs;rw [h1]
 rw [gX,List.length_drop,List.length_take,Nat.min_eq_left he,show e - (e - 6)=6 by omega]
theorem dQ (l:List UInt8) (hd:∀ c∈l,az c=true) (i e:Nat) (he:e≤i+6):ae ((l.take e).drop i)<1000000:=by
 have h1:=a7 ((l.take e).drop i) (fun c hc=>hd c (List.mem_of_mem_take (List.mem_of_mem_drop hc)))
 have h2:((l.take e).drop i).length≤6:=by rw [List.length_drop,List.length_take];omega
 exact Nat.lt_of_lt_of_le h1 (Nat.le_trans (Nat.pow_le_pow_right (by decide) h2) (by decide))
theorem nf (s:ByteArray) (i k:Nat) (hi:i≤k) (hk:k<s.size):ae ((s.data.toList.take (k+1)).drop i)=ae ((s.data.toList.take k).drop i)*10+(s[k].toNat - 48):=by
 rw [bG s k hk,List.drop_append_of_le_length (by rw [List.length_take,ac];omega),bo]
theorem me {w:World} {base:Nat} {e:TypeId} {size:Nat} {v:Value} {n:Nat} {xs:List Value} (h:w.ownsRow base e size v n xs) {p:Addr} (hp:p.block<base) (u:Value):(w.setCell p u).ownsRow base e size v n xs:=by
 obtain ⟨h1,h2⟩:=h
 refine ⟨h1,h2.imp id ?_⟩
 rintro ⟨g,cap,cur,rfl,hb,hh,r⟩
 exact ⟨g,cap,cur,rfl,hb,(Below.heap_setCell _ _ _ _ (by show g≠p.block;omega)).trans hh,r⟩
structure RS (w:World) (K:Nat) (neg:Bool) (v:Value) (o:List Nat) (wr:World):Prop where
 r0:∃ u,wr.cell? ⟨K,0,none⟩=some u
 r1:∃ u,wr.cell? ⟨K,1,none⟩=some u
 rf:∀ i,wr.frozen? ⟨K,i,none⟩=false
 c0:wr.cell? ⟨K+1,0,none⟩=some (.bool neg)
 c1:wr.cell? ⟨K+1,1,none⟩=some v
 f:∀ i,wr.frozen? ⟨K+1,i,none⟩=false
 own:wr.ownsRow (K+2) 3 1 v o.length (ag o)
 bel:Below K w wr
 sz:K+2≤wr.heap.size
theorem RS.new (w:World) (neg:Bool) (t:TypeId):RS w w.heap.size neg (.slice none 0 0) [] ((w.alloc (.cells #[.bool false,.slice none 0 0] t)).alloc (.cells #[.bool neg,.slice none 0 0] t)) :=
 ⟨⟨.bool false,by go_cell⟩,⟨.slice none 0 0,by go_cell⟩,fun i=>by simp [go_sem],by go_cell,by go_cell,fun i=>by simp [go_sem],⟨rfl,.inl ⟨rfl,rfl⟩⟩,((Below.refl _ w).alloc (Nat.le_refl _) _).alloc (by simp) _,by simp⟩
theorem RS.put {w:World} {K:Nat} {neg:Bool} {v v':Value} {o:List Nat} {wr w2:World} {x:Nat} {ob:Obj} (h:RS w K neg v o wr) (ho:w2.ownsRow (K+2) 3 1 v' (o.length+1) (ag o ++ [.int .i64 (x:Nat)])) (hg:(wr.alloc ob).grownBy w2 v.ownBlock) :
  (w2.cell? ⟨K+1,1,none⟩=some v∧w2.frozen? ⟨K+1,1,none⟩=false)∧RS w K neg v' (o ++ [x]) (w2.setCell ⟨K+1,1,none⟩ v'):=by
 have hsz:=h.sz
 have hs2:=hg.size
 rw [World.size_alloc] at hs2
 have hb:∀ k,k<K+2→w2.heap[k]? = wr.heap[k]? := fun k hk =>
  (hg.block k (by rw [World.size_alloc];omega) (fun e=>by have:=(h.own.lt k e.symm).1;omega)).trans (Below.heap_alloc _ _ _ (by omega))
 have hc:∀ k i,k<K+2→w2.cell? ⟨k,i,none⟩=wr.cell? ⟨k,i,none⟩:=fun k i hk=>World.cell?_of_block (hb k hk)
 have hf:∀ k i,k<K+2→w2.frozen? ⟨k,i,none⟩=wr.frozen? ⟨k,i,none⟩:=fun k i hk=>by unfold World.frozen?; rw [show w2.heap[(⟨k,i,none⟩:Addr).block]? = _ from hb k hk]
 have hn:∀ i,(w2.setCell ⟨K+1,1,none⟩ v').cell? ⟨K,i,none⟩=w2.cell? ⟨K,i,none⟩:=fun i=>World.cell?_of_block (Below.heap_setCell _ _ _ _ (by show K≠K+1;omega))
 have c1:w2.cell? ⟨K+1,1,none⟩=some v:=by rw [hc _ _ (by omega)];exact h.c1
 have c0:w2.cell? ⟨K+1,0,none⟩=some (.bool neg):=by rw [hc _ _ (by omega)];exact h.c0
 refine ⟨⟨c1,by rw [hf _ _ (by omega)];exact h.f 1⟩,?_,?_,?_,?_,World.cell?_setCell_same' _ _ _ (by rw [c1];rfl),?_,?_,?_,?_⟩
 ·rw [hn,hc _ _ (by omega)];exact h.r0
 ·rw [hn,hc _ _ (by omega)];exact h.r1
 ·intro i;rw [show (w2.setCell ⟨K+1,1,none⟩ v').frozen? ⟨K,i,none⟩=w2.frozen? ⟨K,i,none⟩ by simp [go_sem],hf _ _ (by omega)];exact h.rf i
 ·generalize K+1=k at *; go_cell
 ·intro i;rw [show (w2.setCell ⟨K+1,1,none⟩ v').frozen? ⟨K+1,i,none⟩=w2.frozen? ⟨K+1,i,none⟩ by simp [go_sem],hf _ _ (by omega)];exact h.f i
 ·rw [List.length_append,List.length_singleton,←bh];exact me ho (by show K+1<K+2;omega) _
 ·exact ((h.bel.alloc (by omega) ob).grown hg (by rw [World.size_alloc];omega) (fun k e=>by have:=(h.own.lt k e).1;omega)).setCell (p:=⟨K+1,1,none⟩) (by show K≤K+1;omega) _
 ·simp [World.setCell];omega
theorem bM (s:ByteArray) (w:World) (hs:s.size≤1000) (hc:chk s.data.toList=0) :
  Calls Tryz.prog 92 #[.string s] w fun e W'=>∃ v,e = .returned (.agg #[.bool (ap s.data.toList),v])∧IsNat W' v (ae (szL s.data.toList))∧Fresh w.heap.size v∧Below w.heap.size w W':=by
 have hd:=bY hc
 have hpos:0<s.size:=by
  rcases Nat.eq_zero_or_pos s.size with h | h
  ·have:s.data.toList = []:=List.eq_nil_of_length_eq_zero (by rw [ac];exact h)
   rw [this] at hc;simp [chk,szL,ap] at hc
  ·exact h
 have hb:=Ha (bF hpos)
 obtain ⟨ii,hi,hz0,hz1,hz2⟩:=info_parts gJ
 have HI:=Ha (Hb hi (Hb hz0 (Hb hz1 hz2)));clear hi hz0 hz1 hz2
 clear hc
 rw [←bU] at hd ⊢
 have htl:=fE s
 by_cases hn:ap s.data.toList=true
 ·have hz:szB s=s.extract 1 s.size:=by unfold szB;rw [if_pos hn]
  have h45:((s[0].toNat:Int)==45)=true:=by rw [hb.out];exact hn
  rw [hn]
  obtain ⟨t,ht⟩:∃ t,szB s=t:=⟨_,rfl⟩
  rw [ht] at hd htl ⊢
  rw [ht] at hz
  have HD:=Ha hd
  have HZ:=Ha hz.symm
  have HSZ:=Ha (show s.size - 1=t.size by rw [hz,ByteArray.size_extract];omega)
  have htl2:t.size≤1000:=by omega
  clear hd hz ht hn htl
  go_enter Tryz.func92,Tryz.ntmps92
  go_wp2
  rw [HZ.out,HSZ.out]
  have HS0:=Ha (RS.new w true 122)
  generalize (w.alloc (.cells #[.bool false,.slice none 0 0] 122)).alloc (.cells #[.bool true,.slice none 0 0] 122)=W0 at *
  generalize hk:w.heap.size=K at *
  have HK:=Ha hk;clear hk
  go_loopw [4] (fun x wr=>∃ (e:Nat) (z:Int) (v:Value) (o:List Nat),x = .int .i64 z∧(z=e∨(z≤0∧e=0))∧e≤t.size∧o.length≤t.size ∧ -6≤z∧Hid (z=e→e+6*o.length=t.size)∧Hid (RS w K true v o wr)∧Hid (Dig o)∧Hid (ae t.data.toList=ae (t.data.toList.take e)*B ^ o.length+toN o))
   (fun x _=>(intOf x).toNat)
  case atStart=>exact ⟨t.size,t.size,_,[],rfl,.inl rfl,Nat.le_refl _,Nat.zero_le _,by omega,fun _=>rfl,HS0.out,Dig.nil,by show _=_;rw [List.take_of_length_le (by rw [ac];exact Nat.le_refl _)];simp [toN]⟩
  case round =>
   clear HS0
   obtain ⟨e,z,v,o,rfl,hz,he,hol,hz6,hlen,hS,hdig,hval⟩:=hrel
   by_cases hpos:0<z
   ·obtain rfl:z=e:=by omega
    clear hz
    have he1:0<e:=by omega
    have HL:=Ha (hlen.out rfl)
    obtain ⟨i0,hi0⟩:∃ i0:Nat,max (0:Int) ((e:Int) - 6)=i0:=⟨e - 6,by omega⟩
    have hie:i0=e - 6:=by omega
    have hi6:e≤i0+6:=by omega
    have hi7:i0≤e:=by omega
    have HIE:=Ha hie
    have hnew:Hid (ae t.data.toList=ae (t.data.toList.take i0)*B ^ (o.length+1)+(toN o+B ^ o.length*ae ((t.data.toList.take e).drop i0))):=by
     show _=_
     rw [hval.out]
     by_cases h6:6≤e
     ·rw [lU _ e h6 (by rw [ac];exact he),←hie,Nat.pow_succ,Nat.add_mul,Nat.mul_comm (B ^ o.length) B,←Nat.mul_assoc,dH,Nat.mul_comm (ae ((t.data.toList.take e).drop i0))]
      omega
     ·obtain rfl:i0=0:=by omega
      rw [List.take_zero,List.drop_zero,show ae []=0 from rfl,Nat.zero_mul,Nat.zero_add,Nat.mul_comm];omega
    clear hie hval hlen
    have c1:=hS.out.c1
    obtain ⟨wo,hwo⟩:∃ wo:World,wo=wr:=⟨_,rfl⟩
    subst hwo
    go_wp2
    clear hi0
    go_loop [5,6] (fun x y=>∃ i:Nat,i0≤i∧i≤e∧y = .int .i64 i∧x = .int .i64 (ae ((t.data.toList.take i).drop i0):Nat)) (fun _ y=>e - (intOf y).toNat)
    case atStart=>exact ⟨i0,Nat.le_refl _,hi7,rfl,by rw [List.drop_eq_nil_of_le (by rw [List.length_take];omega)];rfl⟩
    case round =>
     obtain ⟨i,hi1,hi2,rfl,rfl⟩:=hrel
     by_cases hlt:i<e
     ·have hn:=dQ t.data.toList HD.out i0 i (by omega)
      have hts:i<t.size:=by omega
      have hc:=(aA t[i]).1 (HD.out _ (cK t i hts))
      have HSt:=Ha (nf t i0 i hi1 hts)
      generalize ae ((t.data.toList.take i).drop i0)=n at *
      clear c1
      go_wp2
      go_round
      case rel=>exact ⟨i+1,by omega,by omega,by go_num,by rw [HSt.out];go_num⟩
      case measure=>simp [intOf];omega
     ·obtain rfl:i=e:=by omega
      have hn:=dQ t.data.toList HD.out i0 i (by omega)
      generalize ae ((t.data.toList.take i).drop i0)=n at *
      have HO:=Ha hS.out.own
      have hsz:=hS.out.sz
      clear hlt
      go_wp2_with (at_builtin;refine wpList_append_own _ rfl _ _ 82 rfl (K+2) 3 ii (.int .i64 0) 1 8 Tryz.underlying82 HI.out.1 HI.out.2.1 HI.out.2.2.1 HI.out.2.2.2 rfl (by decide) _ _ _ rfl (HO.out.alloc _) ⟨wo.heap.size,0,none⟩ 1 1 [.int .i64 (n:Nat)] rfl rfl (cell_one_new _ _ _) (by simp [Value.oneCell']) (by unfold maxLen;omega) (by omega) (by simp;omega) ?_;intro v' w2 hown' hgrow _;obtain ⟨g',cp',rfl⟩:=ownsRow_succ hown';obtain ⟨⟨p1,p2⟩,p3⟩:=hS.out.put hown' hgrow;have HP:=Ha p3;clear hown' hgrow p3 c1)
      go_roundw
      case rel =>
       have h1:=HL.out
       have h2:=HIE.out
       refine ⟨i0,(i:Int) - 6,_,o ++ [n],rfl,by omega,by omega,by rw [List.length_append,List.length_singleton];omega,by omega,fun e=>by rw [List.length_append,List.length_singleton];omega,HP.out,hdig.out.append (Dig.one hn),?_⟩
       rw [List.length_append,List.length_singleton,aQ];exact hnew
      case measure=>simp [intOf];omega
   ·have hz0:e=0:=by omega
    have hpos':¬ (0<z):=hpos
    have hv:toN o=ae t.data.toList:=by have:=hval.out;rw [hz0,List.take_zero,show ae []=0 from rfl,Nat.zero_mul,Nat.zero_add] at this;exact this.symm
    have hN:=bg hS.out.own
    have ct:=cV _ _ _ hN hdig.out
    rw [hv] at ct
    have CT:=Ha ct
    have c1:=hS.out.c1
    clear hlen hval hN ct hv hz
    go_wp2_with fail
    refine CT.out.mono ?_
    clear CT c1
    rintro e' w' ⟨rfl,v',rfl,hN',ho'⟩
    obtain ⟨⟨u0,r0⟩,⟨u1,r1⟩,rf,c0,c1,f,own,bel,sz⟩:=hS.out
    have hf:Fresh (K+2) v':=fun k hk=>by rw [ho'] at hk;exact (own.lt k hk).1
    have rf0:=rf 0
    have rf1:=rf 1
    have f1:=f 1
    have HF:=Ha (Hb hN' (Hb hf bel))
    obtain ⟨p',cap',rfl⟩:=IsNat.shape hN'
    generalize hlv:(dg (ae t.data.toList)).length=lv at *
    have HLV:=Ha hlv
    clear rf f own hf bel hN' ho' hlv hS
    have d1:(wr.setCell ⟨K+1,1,none⟩ (.slice p' lv cap')).cell? ⟨K+1,1,none⟩=some (.slice p' lv cap'):=World.cell?_setCell_same' _ _ _ (by rw [c1];rfl)
    have d0:(wr.setCell ⟨K+1,1,none⟩ (.slice p' lv cap')).cell? ⟨K+1,0,none⟩=some (.bool true):=by generalize K+1=k at *; go_cell
    have s0:(wr.setCell ⟨K+1,1,none⟩ (.slice p' lv cap')).cell? ⟨K,0,none⟩=some u0:=(World.cell?_of_block (Below.heap_setCell _ _ _ _ (by show K≠K+1;omega))).trans r0
    have s1:(wr.setCell ⟨K+1,1,none⟩ (.slice p' lv cap')).cell? ⟨K,1,none⟩=some u1:=(World.cell?_of_block (Below.heap_setCell _ _ _ _ (by show K≠K+1;omega))).trans r1
    obtain ⟨b0,b1⟩:=au s0 s1 (.bool true) (.slice p' lv cap')
    clear r0 r1
    go_wp2
    refine bodyPost_ret (v := .agg #[.bool true,.slice p' lv cap']) (by simp [results,Tryz.results92,go_sem,b0,b1]) rfl ?_
    obtain ⟨hN',hf,bel⟩:=HF.out
    refine ⟨_,rfl,?_,hf.mono (by have:=HK.out;omega),?_⟩
    ·exact ((hN'.setCell hf (by show K+1<K+2;omega) _).setCell hf (by show K<K+2;omega) _).setCell hf (by show K<K+2;omega) _
    ·rw [HK.out]
     exact ((bel.setCell (p:=⟨K+1,1,none⟩) (by show K≤K+1;omega) _).setCell (p:=⟨K,0,none⟩) (Nat.le_refl _) _).setCell (p:=⟨K,1,none⟩) (Nat.le_refl _) _
 ·have hn':ap s.data.toList=false:=by simpa using hn
  have hz:szB s=s:=by unfold szB;rw [if_neg hn]
  have h45:((s[0].toNat:Int)==45)=false:=by rw [hb.out];exact hn'
  rw [hn']
  rw [hz] at hd htl ⊢
  have HD:=Ha hd
  clear hd hz hn hn' htl
  obtain ⟨t,ht⟩:∃ t,t=s:=⟨_,rfl⟩
  subst ht
  have htl2:t.size≤1000:=hs
  go_enter Tryz.func92,Tryz.ntmps92
  go_wp2
  have HS0:=Ha (RS.new w false 122)
  generalize (w.alloc (.cells #[.bool false,.slice none 0 0] 122)).alloc (.cells #[.bool false,.slice none 0 0] 122)=W0 at *
  generalize hk:w.heap.size=K at *
  have HK:=Ha hk;clear hk
  go_loopw [4] (fun x wr=>∃ (e:Nat) (z:Int) (v:Value) (o:List Nat),x = .int .i64 z∧(z=e∨(z≤0∧e=0))∧e≤t.size∧o.length≤t.size ∧ -6≤z∧Hid (z=e→e+6*o.length=t.size)∧Hid (RS w K false v o wr)∧Hid (Dig o)∧Hid (ae t.data.toList=ae (t.data.toList.take e)*B ^ o.length+toN o))
   (fun x _=>(intOf x).toNat)
  case atStart=>exact ⟨t.size,t.size,_,[],rfl,.inl rfl,Nat.le_refl _,Nat.zero_le _,by omega,fun _=>rfl,HS0.out,Dig.nil,by show _=_;rw [List.take_of_length_le (by rw [ac];exact Nat.le_refl _)];simp [toN]⟩
  case round =>
   clear HS0
   obtain ⟨e,z,v,o,rfl,hz,he,hol,hz6,hlen,hS,hdig,hval⟩:=hrel
   by_cases hpos:0<z
   ·obtain rfl:z=e:=by omega
    clear hz
    have he1:0<e:=by omega
    have HL:=Ha (hlen.out rfl)
    obtain ⟨i0,hi0⟩:∃ i0:Nat,max (0:Int) ((e:Int) - 6)=i0:=⟨e - 6,by omega⟩
    have hie:i0=e - 6:=by omega
    have hi6:e≤i0+6:=by omega
    have hi7:i0≤e:=by omega
    have HIE:=Ha hie
    have hnew:Hid (ae t.data.toList=ae (t.data.toList.take i0)*B ^ (o.length+1)+(toN o+B ^ o.length*ae ((t.data.toList.take e).drop i0))):=by
     show _=_
     rw [hval.out]
     by_cases h6:6≤e
     ·rw [lU _ e h6 (by rw [ac];exact he),←hie,Nat.pow_succ,Nat.add_mul,Nat.mul_comm (B ^ o.length) B,←Nat.mul_assoc,dH,Nat.mul_comm (ae ((t.data.toList.take e).drop i0))]
      omega
     ·obtain rfl:i0=0:=by omega
      rw [List.take_zero,List.drop_zero,show ae []=0 from rfl,Nat.zero_mul,Nat.zero_add,Nat.mul_comm];omega
    clear hie hval hlen
    have c1:=hS.out.c1
    obtain ⟨wo,hwo⟩:∃ wo:World,wo=wr:=⟨_,rfl⟩
    subst hwo
    go_wp2
    clear hi0
    go_loop [5,6] (fun x y=>∃ i:Nat,i0≤i∧i≤e∧y = .int .i64 i∧x = .int .i64 (ae ((t.data.toList.take i).drop i0):Nat)) (fun _ y=>e - (intOf y).toNat)
    case atStart=>exact ⟨i0,Nat.le_refl _,hi7,rfl,by rw [List.drop_eq_nil_of_le (by rw [List.length_take];omega)];rfl⟩
    case round =>
     obtain ⟨i,hi1,hi2,rfl,rfl⟩:=hrel
     by_cases hlt:i<e
     ·have hn:=dQ t.data.toList HD.out i0 i (by omega)
      have hts:i<t.size:=by omega
      have hc:=(aA t[i]).1 (HD.out _ (cK t i hts))
      have HSt:=Ha (nf t i0 i hi1 hts)
      generalize ae ((t.data.toList.take i).drop i0)=n at *
      clear c1
      go_wp2
      go_round
      case rel=>exact ⟨i+1,by omega,by omega,by go_num,by rw [HSt.out];go_num⟩
      case measure=>simp [intOf];omega
     ·obtain rfl:i=e:=by omega
      have hn:=dQ t.data.toList HD.out i0 i (by omega)
      generalize ae ((t.data.toList.take i).drop i0)=n at *
      have HO:=Ha hS.out.own
      have hsz:=hS.out.sz
      clear hlt
      go_wp2_with (at_builtin;refine wpList_append_own _ rfl _ _ 82 rfl (K+2) 3 ii (.int .i64 0) 1 8 Tryz.underlying82 HI.out.1 HI.out.2.1 HI.out.2.2.1 HI.out.2.2.2 rfl (by decide) _ _ _ rfl (HO.out.alloc _) ⟨wo.heap.size,0,none⟩ 1 1 [.int .i64 (n:Nat)] rfl rfl (cell_one_new _ _ _) (by simp [Value.oneCell']) (by unfold maxLen;omega) (by omega) (by simp;omega) ?_;intro v' w2 hown' hgrow _;obtain ⟨g',cp',rfl⟩:=ownsRow_succ hown';obtain ⟨⟨p1,p2⟩,p3⟩:=hS.out.put hown' hgrow;have HP:=Ha p3;clear hown' hgrow p3 c1)
      go_roundw
      case rel =>
       have h1:=HL.out
       have h2:=HIE.out
       refine ⟨i0,(i:Int) - 6,_,o ++ [n],rfl,by omega,by omega,by rw [List.length_append,List.length_singleton];omega,by omega,fun e=>by rw [List.length_append,List.length_singleton];omega,HP.out,hdig.out.append (Dig.one hn),?_⟩
       rw [List.length_append,List.length_singleton,aQ];exact hnew
      case measure=>simp [intOf];omega
   ·have hz0:e=0:=by omega
    have hpos':¬ (0<z):=hpos
    have hv:toN o=ae t.data.toList:=by have:=hval.out;rw [hz0,List.take_zero,show ae []=0 from rfl,Nat.zero_mul,Nat.zero_add] at this;exact this.symm
    have hN:=bg hS.out.own
    have ct:=cV _ _ _ hN hdig.out
    rw [hv] at ct
    have CT:=Ha ct
    have c1:=hS.out.c1
    clear hlen hval hN ct hv hz
    go_wp2_with fail
    refine CT.out.mono ?_
    clear CT c1
    rintro e' w' ⟨rfl,v',rfl,hN',ho'⟩
    obtain ⟨⟨u0,r0⟩,⟨u1,r1⟩,rf,c0,c1,f,own,bel,sz⟩:=hS.out
    have hf:Fresh (K+2) v':=fun k hk=>by rw [ho'] at hk;exact (own.lt k hk).1
    have rf0:=rf 0
    have rf1:=rf 1
    have f1:=f 1
    have HF:=Ha (Hb hN' (Hb hf bel))
    obtain ⟨p',cap',rfl⟩:=IsNat.shape hN'
    generalize hlv:(dg (ae t.data.toList)).length=lv at *
    have HLV:=Ha hlv
    clear rf f own hf bel hN' ho' hlv hS
    have d1:(wr.setCell ⟨K+1,1,none⟩ (.slice p' lv cap')).cell? ⟨K+1,1,none⟩=some (.slice p' lv cap'):=World.cell?_setCell_same' _ _ _ (by rw [c1];rfl)
    have d0:(wr.setCell ⟨K+1,1,none⟩ (.slice p' lv cap')).cell? ⟨K+1,0,none⟩=some (.bool false):=by generalize K+1=k at *; go_cell
    have s0:(wr.setCell ⟨K+1,1,none⟩ (.slice p' lv cap')).cell? ⟨K,0,none⟩=some u0:=(World.cell?_of_block (Below.heap_setCell _ _ _ _ (by show K≠K+1;omega))).trans r0
    have s1:(wr.setCell ⟨K+1,1,none⟩ (.slice p' lv cap')).cell? ⟨K,1,none⟩=some u1:=(World.cell?_of_block (Below.heap_setCell _ _ _ _ (by show K≠K+1;omega))).trans r1
    obtain ⟨b0,b1⟩:=au s0 s1 (.bool false) (.slice p' lv cap')
    clear r0 r1
    go_wp2
    refine bodyPost_ret (v := .agg #[.bool false,.slice p' lv cap']) (by simp [results,Tryz.results92,go_sem,b0,b1]) rfl ?_
    obtain ⟨hN',hf,bel⟩:=HF.out
    refine ⟨_,rfl,?_,hf.mono (by have:=HK.out;omega),?_⟩
    ·exact ((hN'.setCell hf (by show K+1<K+2;omega) _).setCell hf (by show K<K+2;omega) _).setCell hf (by show K<K+2;omega) _
    ·rw [HK.out]
     exact ((bel.setCell (p:=⟨K+1,1,none⟩) (by show K≤K+1;omega) _).setCell (p:=⟨K,0,none⟩) (Nat.le_refl _) _).setCell (p:=⟨K,1,none⟩) (Nat.le_refl _) _
end R
namespace R
open Go.RowKit
theorem yt (k:Nat):∀ n:Nat,pad k (n % 10 ^ k)=pad k n:=by
 induction k with
 | zero=>intro n;simp [pad]
 | succ k ih =>
  intro n
  rw [iQ,iQ]
  have h1:n % 10 ^ (k+1) / 10 ^ k=n / 10 ^ k % 10:=by rw [Nat.pow_succ];exact Nat.mod_mul_right_div_self _ _ _
  rw [h1,Nat.mod_mod]
  congr 1
  rw [←ih (n % 10 ^ (k+1)),←ih n,Nat.mod_mod_of_dvd _ (Nat.pow_dvd_pow 10 (Nat.le_succ k))]
theorem yu {q:Nat} (h:q<10):Lib.decDigits q = [UInt8.ofNat (48+q)]:=by
 rw [Lib.decDigits,dif_pos h]
theorem yv {c n:Nat} (h1:10 ^ c≤n) (h2:n<10 ^ (c+1)):pad (c+1) n=Lib.decDigits n:=by
 have hq:0<n / 10 ^ c:=Nat.div_pos h1 (Nat.pow_pos (by decide))
 have hq2:n / 10 ^ c<10:=by rw [Nat.div_lt_iff_lt_mul (Nat.pow_pos (by decide))];rw [Nat.pow_succ,Nat.mul_comm] at h2;exact h2
 have e:n / 10 ^ c*10 ^ c+n % 10 ^ c=n:=by rw [Nat.mul_comm];exact Nat.div_add_mod _ _
 conv=>rhs;rw [←e]
 rw [nF c _ _ hq (Nat.mod_lt _ (Nat.pow_pos (by decide))),yu hq2,iQ,yt,Nat.mod_eq_of_lt hq2]
 rfl
theorem sH (x j:Nat) (hj:j≤5):x % 1000000 / 10 ^ j % 10=x / 10 ^ j % 10:=by
 rcases show j=0∨j=1∨j=2∨j=3∨j=4∨j=5 by omega with rfl | rfl | rfl | rfl | rfl | rfl <;> omega
theorem nh (i:Nat):B ^ i=10 ^ (6*i):=by rw [Nat.pow_mul];rfl
theorem yw (k:Nat) (h:300≤k):lim≤10 ^ k:=aP h
theorem BQ (i j:Nat) (h:i≤j):B ^ i≤B ^ j:=Nat.pow_le_pow_right bP h
theorem wC (n i j:Nat) (hj:j≤5):(dg n).getD i 0 / 10 ^ j % 10=n / 10 ^ (6*i+j) % 10:=by
 rw [cY,dH,sH _ _ hj,show (1000000:Nat) ^ i=B ^ i from rfl,nh,Nat.pow_add,Nat.div_div_eq_div_mul]
def RowB (w:World) (g:Nat) (l:List Nat):Prop:=w.heap[g]? = some (.cells (fO l).toArray 5 (0,0))
theorem RowB.cell {w:World} {g:Nat} {l:List Nat} (h:RowB w g l) {i:Nat} (hi:i<l.length):w.cell? ⟨g,i,none⟩=some (.int .u8 (l.getD i 0:Nat)):=by
 rw [cell_of_row w g i _ _ (0,0) h]
 simp [fO,hi]
theorem RowB.frozen {w:World} {g:Nat} {l:List Nat} (h:RowB w g l) (i:Nat):w.frozen? ⟨g,i,none⟩=false:=by
 unfold RowB at h
 simp [World.frozen?, h]
theorem RowB.set {w:World} {g:Nat} {l:List Nat} (h:RowB w g l) (i:Nat) (x:Nat):RowB (w.setCell ⟨g,i,none⟩ (.int .u8 (x:Nat))) g (l.set i x):=by
 unfold RowB at h ⊢
 simp [World.setCell,Array.getElem?_modify,h,fO,List.map_set]
theorem RowB.lt {w:World} {g:Nat} {l:List Nat} (h:RowB w g l):g<w.heap.size:=(Array.getElem?_eq_some_iff.1 h).1
theorem q8 (n:Nat):(madeCells (Value.int .u8 0).cells (n*1)).toList=fO (List.replicate n 0):=by
 rw [Nat.mul_one]
 have h:(Value.int .u8 0).cells = #[.int .u8 0]:=by simp [Value.cells]
 rw [h,toList_madeCells_one]
 simp [fO]
theorem RowB.of_made {w:World} {base g n:Nat} (h:w.ownsRow base 5 1 (.slice (some ⟨g,0,none⟩) n n) n (madeCells (Value.int .u8 0).cells (n*1)).toList):RowB w g (List.replicate n 0):=by
 rcases h.2 with ⟨h1,_⟩ | ⟨g',cap,cur,h1,_,hh,_,_,hsz,htk⟩
 ·cases h1
 ·simp only [Value.slice.injEq,Option.some.injEq,Addr.mk.injEq,true_and,and_true] at h1
  obtain ⟨rfl,rfl⟩:=h1
  rw [q8,List.take_of_length_le (by simp [hsz])] at htk
  unfold RowB
  rw [hh,←htk]
theorem uZ {L:List Nat} {M k n:Nat} (hk:k<M) (hL:L.length=M) (h:L.drop (M - k)=nums (pad k n)) :
  (L.set (M - (k+1)) (48+n / 10 ^ k % 10)).drop (M - (k+1))=nums (pad (k+1) n):=by
 rw [rN (by omega),show M - (k+1)+1=M - k by omega,h,iQ]
 show _=(UInt8.ofNat (48+n / 10 ^ k % 10)).toNat::nums (pad k n)
 rw [toNat_ofNat _ (Nat.mod_lt _ (by decide))]
theorem ik {M n t:Nat} (h:t<M):(nums (pad M n)).getD t 0=48+n / 10 ^ (M - 1 - t) % 10:=by
 have hl:t<(nums (pad M n)).length:=by simp [nums,cJ,h]
 rw [getD_lt hl]
 simp only [nums,pad,List.getElem_map,List.getElem_range]
 exact toNat_ofNat _ (Nat.mod_lt _ (by decide))
structure WS (w:World) (k:Nat) (neg:Bool) (sv:Value) (b off m:Nat) (l:List Nat) (L:List Nat) (wr:World):Prop where
 c0:wr.cell? ⟨k,0,none⟩=some (.bool neg)
 c1:wr.cell? ⟨k,1,none⟩=some sv
 lim:∀ i,i<m→wr.cell? ⟨b,off+i,none⟩=some (.int .i64 (l.getD i 0:Nat))
 row:RowB wr (k+1) L
 bel:Below k w wr
 kb:b<k
theorem WS.set {w:World} {k:Nat} {neg:Bool} {sv:Value} {b off m:Nat} {l L:List Nat} {wr:World} (h:WS w k neg sv b off m l L wr) (i x:Nat):WS w k neg sv b off m l (L.set i x) (wr.setCell ⟨k+1,i,none⟩ (.int .u8 (x:Nat))):=by
 have hk:=h.kb
 refine ⟨(World.cell?_of_block (Below.heap_setCell _ _ _ _ (by show k≠k+1;omega))).trans h.c0,(World.cell?_of_block (Below.heap_setCell _ _ _ _ (by show k≠k+1;omega))).trans h.c1,fun j hj=>(World.cell?_of_block (Below.heap_setCell _ _ _ _ (by show b≠k+1;omega))).trans (h.lim j hj),h.row.set i x,h.bel.setCell (p:=⟨k+1,i,none⟩) (by show k≤k+1;omega) _,hk⟩
theorem u4 (neg:Bool) (v:Value) (n:Nat) (w:World) (h:IsNat w v n) (hn:(dg n).length≤10000) (h0:n≠0) :
  Calls Tryz.prog 121 #[.agg #[.bool neg,v]] w fun e W'=>e = .returned (.string (aa (am neg n)))∧Below w.heap.size w W':=by
 obtain ⟨i0,hi,hz0,hz1,hz2⟩:=info_parts eh
 have HI:=Ha (Hb hi (Hb hz0 (Hb hz1 hz2)));clear hi hz0 hz1 hz2
 have hlen:=aR h0
 have hnB:n<B ^ (dg n).length:=(ak n _).1 (Nat.le_refl _)
 rw [nh] at hnB
 have HDG:=Ha (fun i j hj=>wC n i j hj)
 have hdl:=Ha (fun i=>(aq n).getD i)
 obtain ⟨p,cap,rfl,hcp,hcp2,h3⟩:=h
 obtain ⟨b,off,rfl,hc⟩:=h3 (fun e=>h0 ((cU n).1 e))
 have HC:=Ha hc
 have HZ:=Ha (nG neg h0)
 clear h3 hc
 obtain ⟨m,hm⟩:∃ m,(dg n).length=m:=⟨_,rfl⟩
 rw [hm] at hlen hnB hn hcp HC ⊢
 obtain ⟨M,hM⟩:∃ M,6*m=M:=⟨_,rfl⟩
 rw [hM] at hnB
 have eM:(6:Int)*(m:Int)=(M:Int):=by omega
 have hne:((m:Int)==0)=false:=by rw [beq_eq_false_iff_ne];omega
 have HNB:=Ha hnB
 clear hm hnB
 have hB0:Below (w.heap.size+1) (w.alloc (.cells #[.bool neg,.slice (some ⟨b,off,none⟩) m cap] 122)) (w.alloc (.cells #[.bool neg,.slice (some ⟨b,off,none⟩) m cap] 122)):=Below.refl _ _
 have HB0:=Ha hB0
 clear hB0
 go_enter Tryz.func121,Tryz.ntmps121
 go_wp2_with (at_make;refine wpList_make_full _ rfl _ _ 115 rfl (w.heap.size+1) 5 i0 (.int .u8 0) 1 Tryz.underlying115 HI.out.1 HI.out.2.1 HI.out.2.2.1 .i64 .i64 _ _ M rfl rfl (by omega) (by omega) (by rw [HI.out.2.2.2];omega) (by unfold maxLen;omega) (by simp) ?_;intro w1 hown hgrow)
 have hrow:=RowB.of_made hown
 have hb1:=HB0.out.grown hgrow (by simp) (fun k e=>by cases e)
 obtain ⟨d0,d1⟩:=fu hb1
 have hbl:b<w.heap.size:=World.block_lt_of_cell? w _ (HC.out 0 hlen)
 simp only [World.size_alloc] at hrow
 have HW:=Ha (show WS w w.heap.size neg (.slice (some ⟨b,off,none⟩) m cap) b off m (dg n) (List.replicate M 0) w1 from
  ⟨d0,d1,fun i hi=>iR hb1 (HC.out i hi),hrow,((Below.refl _ w).alloc (Nat.le_refl _) _).trans (hb1.mono (by omega)),hbl⟩)
 clear hown hgrow hrow hb1 d0 d1 hbl HB0 HC
 generalize hk:w.heap.size=k at *
 have HK:=Ha hk;clear hk
 go_loopw [4] (fun v4 wr=>∃ (i:Nat) (L:List Nat),i≤m∧v4 = .int .i64 i∧L.length=M∧Hid (WS w k neg (.slice (some ⟨b,off,none⟩) m cap) b off m (dg n) L wr)∧Hid (L.drop (M - 6*i)=nums (pad (6*i) n)))
  (fun v4 _=>m - (intOf v4).toNat)
 case atStart=>exact ⟨0,List.replicate M 0,Nat.zero_le _,rfl,List.length_replicate,HW.out,by show _=_;rw [List.drop_eq_nil_of_le (by rw [List.length_replicate];omega)];rfl⟩
 case round =>
  clear HW
  obtain ⟨i,L,him,rfl,hL,hS,hpad⟩:=hrel
  by_cases hi:i<m
  ·have hdb:=hdl.out i
   have hcl:=hS.out.lim i hi
   have HDI:=Ha (fun j hj=>HDG.out i j hj)
   generalize (dg n).getD i 0=d at *
   have c1:=hS.out.c1
   have hi':(i:Int)<(m:Int):=by omega
   obtain ⟨wo,hwo⟩:∃ wo:World,wo=wr:=⟨_,rfl⟩
   subst hwo
   go_wp2
   clear c1 hcl
   go_loopw [5,6] (fun v5 v6 wr=>∃ (j:Nat) (L:List Nat),j≤6∧v6 = .int .i64 ((j:Int)+1)∧v5 = .int .i64 (d / 10 ^ j:Nat)∧L.length=M∧Hid (WS w k neg (.slice (some ⟨b,off,none⟩) m cap) b off m (dg n) L wr)∧Hid (L.drop (M - (6*i+j))=nums (pad (6*i+j) n)))
    (fun _ v6 _=>7 - (intOf v6).toNat)
   case atStart=>exact ⟨0,L,Nat.zero_le _,rfl,by rw [Nat.pow_zero,Nat.div_one],hL,hS,hpad⟩
   case round =>
    clear hL hS hpad L
    obtain ⟨j,L,hj6,rfl,rfl,hL,hS,hpad⟩:=hrel
    by_cases hj:j<6
    ·have hq:d / 10 ^ j≤d:=Nat.div_le_self _ _
     have HQ:=Ha (show d / 10 ^ j / 10=d / 10 ^ (j+1) by rw [Nat.pow_succ,Nat.div_div_eq_div_mul])
     have HD10:=Ha (HDI.out j (by omega))
     have hst:=uZ (L:=L) (M:=M) (k:=6*i+j) (n:=n) (by omega) hL hpad.out
     rw [←HD10.out] at hst
     generalize d / 10 ^ j=q at *
     obtain ⟨pp,hpp⟩:∃ pp,M - (6*i+j+1)=pp:=⟨_,rfl⟩
     have ep:(M:Int) - 6*(i:Int) - ((j:Int)+1)=(pp:Int):=by omega
     have epb:(pp:Int)<(M:Int):=by omega
     rw [hpp] at hst
     have ex:(48:Int)+(q:Int) % 10=((48+q % 10:Nat):Int):=by omega
     have hxb:48+q % 10≤57:=by omega
     have hj':(j:Int)+1≤6:=by omega
     have co:=hS.out.row.cell (i:=pp) (by omega)
     have fo:=hS.out.row.frozen pp
     have HS2:=Ha (Hb (hS.out.set pp (48+q % 10)) (Hb hst hpp))
     generalize 48+q % 10=x at *
     clear hpad hst hpp HD10
     go_wp2
     go_roundw
     case rel =>
      refine ⟨j+1,L.set pp x,by omega,by go_num,?_,by rw [List.length_set];exact hL,HS2.out.1,?_⟩
      ·rw [←HQ.out];go_num
      ·show _=_
       have:=HS2.out.2.1
       rw [←Nat.add_assoc,HS2.out.2.2];exact this
     case measure=>simp [intOf];omega
    ·obtain rfl:j=6:=by omega
     go_wp2
     go_roundw
     case rel=>exact ⟨i+1,L,by omega,by go_num,hL,hS.out,by rw [Nat.mul_add];exact hpad.out⟩
     case measure=>simp [intOf];omega
  ·obtain rfl:i=m:=by omega
   have hLp:L=nums (pad M n):=by have:=hpad.out;rwa [hM,Nat.sub_self,List.drop_zero] at this
   subst hLp
   have c1:=hS.out.c1
   have c0:=hS.out.c0
   clear hpad hi
   go_wp2
   go_loop [3] (fun v3=>∃ t c:Nat,t+c=M∧v3 = .slice (some ⟨k+1,t,none⟩) c c∧Hid (n<10 ^ c)) (fun v3=>lenOf v3)
   case atStart=>exact ⟨0,M,by omega,rfl,HNB.out⟩
   case round =>
    obtain ⟨t,c,htc,rfl,hnc⟩:=hrel
    have hc0:0<c:=by
     rcases Nat.eq_zero_or_pos c with h | h
     ·exfalso;have:=hnc.out;rw [h,Nat.pow_zero] at this;omega
     ·exact h
    obtain ⟨c',rfl⟩:∃ c',c=c'+1:=⟨c - 1,by omega⟩
    have hx:=ik (M:=M) (n:=n) (t:=t) (by omega)
    rw [show M - 1 - t=c' by omega] at hx
    have hq10:n / 10 ^ c'<10:=by rw [Nat.div_lt_iff_lt_mul (Nat.pow_pos (by decide))];have:=hnc.out;rwa [Nat.pow_succ,Nat.mul_comm] at this
    rw [Nat.mod_eq_of_lt hq10] at hx
    have hcell:=hS.out.row.cell (i:=t) (by rw [show (nums (pad M n)).length=M by simp [nums,cJ]];omega)
    rw [hx] at hcell
    have hc1:(0:Int)<((c'+1:Nat):Int):=by omega
    have HC1:=Ha (show ((c'+1:Nat):Int) - 1=(c':Int) by omega)
    by_cases hz:n / 10 ^ c'=0
    ·have hlt:n<10 ^ c':=by
      rcases Nat.lt_or_ge n (10 ^ c') with h | h
      ·exact h
      ·exfalso;have:=Nat.div_pos h (Nat.pow_pos (a:=10) (by decide));omega
     have hcp:0<c':=by
      rcases Nat.eq_zero_or_pos c' with h | h
      ·exfalso;rw [h,Nat.pow_zero] at hlt;omega
      ·exact h
     rw [hz] at hcell
     have hc2:(1:Int)<((c'+1:Nat):Int):=by omega
     have hcn:¬ c'+1=1:=by omega
     have HLT:=Ha hlt
     clear hx hz hq10 hnc hlt
     clear c0 c1
     go_wp2
     exact ⟨⟨t+1,c',by omega,rfl,HLT.out⟩,by simp [lenOf]⟩
    ·have hge:10 ^ c'≤n:=by
      rcases Nat.lt_or_ge n (10 ^ c') with h | h
      ·exact absurd (Nat.div_eq_of_lt h) hz
      ·exact h
     have HX:=Ha (yv hge hnc.out)
     have hconv:=run_convert_bytes_back (P:=Tryz.prog) wr 115 9 5 ⟨k+1,t,none⟩ (c'+1) (pad (c'+1) n) Tryz.underlying115 Tryz.underlying5 Tryz.underlying9 (fun j hj=>by
      rw [cJ] at hj
      rw [addr_add,hS.out.row.cell (i:=t+j) (by rw [show (nums (pad M n)).length=M by simp [nums,cJ]];omega),ik (by omega)]
      have h2:=ik (M:=c'+1) (n:=n) (t:=j) hj
      rw [getD_lt (by simp [nums,cJ];exact hj)] at h2
      simp only [nums,List.getElem_map] at h2
      rw [h2,show M - 1 - (t+j)=c'+1 - 1 - j by omega])
     rw [cJ] at hconv
     have hq48:48<48+n / 10 ^ c':=by have:=Nat.pos_of_ne_zero hz;omega
     have hq57:48+n / 10 ^ c'≤57:=by omega
     have HBEL:=Ha (show Below w.heap.size w wr by rw [HK.out];exact hS.out.bel)
     generalize 48+n / 10 ^ c'=x at *
     have hx48:((x:Int)==48)=false:=by rw [beq_eq_false_iff_ne];omega
     have hXl:(pad (c'+1) n).length≤60000:=by rw [cJ];omega
     generalize pad (c'+1) n=X at *
     clear hx hz hq10 hge hnc hq48 hS
     cases neg
     ·go_wp2
      go_ret
      refine ⟨?_,HBEL.out⟩
      show Ending.returned (.string ⟨X.toArray⟩)=_
      unfold aa
      rw [HZ.out,HX.out];rfl
     ·go_wp2
      go_ret
      refine ⟨?_,HBEL.out⟩
      show Ending.returned (.string (⟨#[45]⟩++⟨X.toArray⟩))=_
      unfold aa
      rw [HZ.out,←HX.out]
      rfl
theorem aZ (neg:Bool) (v:Value) (n:Nat) (w:World) (h:IsNat w v n) (hn:(dg n).length≤10000) :
  Calls Tryz.prog 121 #[.agg #[.bool neg,v]] w fun e W'=>e = .returned (.string (aa (am neg n)))∧Below w.heap.size w W':=by
 by_cases h0:n=0
 ·subst h0
  obtain ⟨p,cap,rfl⟩:=h.shape
  have hl:(dg 0).length=0:=by rw [av];rfl
  have hz:aa (am neg 0)=⟨#[48]⟩:=by
   have:am neg 0=0:=by unfold am;cases neg <;> rfl
   rw [this];exact qs
  rw [hl,hz]
  clear h hn hl hz
  go_enter Tryz.func121,Tryz.ntmps121
  go_wp2
  go_ret
  exact ⟨rfl,(Below.refl _ _).alloc (Nat.le_refl _) _⟩
 ·exact u4 neg v n w h hn h0
end R
end Go.Proofs.YtjdomibbaemdnaaGreatDoor
