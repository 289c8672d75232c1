/- Parts of the proof of the text YtbhbhlfkdlfimaaGreatDoorQX29. -/
import Derived.Shelf.Spec.TrailingZeros
import Derived.Lib.MinMax
import Derived.Deep.AppendSrc
import Derived.Deep.MidRow
import Derived.StillTailTactics
import Derived.Test.YtbhbhlfkdlfimaaGreatDoorQX1
import Derived.Test.YtbhbhlfkdlfimaaGreatDoorQX10
import Derived.Test.YtbhbhlfkdlfimaaGreatDoorQX2
import Derived.Test.YtbhbhlfkdlfimaaGreatDoorQX3
import Derived.Test.YtbhbhlfkdlfimaaGreatDoorQX9
set_option linter.all false
set_option maxRecDepth 100000
set_option maxHeartbeats 8000000
namespace Go.Proofs.YtbhbhlfkdlfimaaGreatDoor
open Go.RowKit
def aH (w:World):Prop:=TabAt 1 Lib.deBruijn64tab w
theorem Dc (x k idx:Nat) (w:World) (hx0:((x:Int)==0)=false)
  (key:IntKind.u64.wrap (bits BinOp.and IntKind.u64 (x:Int) (IntKind.u64.wrap (-(x:Int)))*285870213051353865) / 288230376151711744=(idx:Int))
  (hi:idx<64) (hk:k<64) (hcell:w.cell? ⟨1,idx,none⟩=some (.int .u8 k)) :
  Calls Tryz.prog 193 #[.int .u64 x] w fun e w'=>e = .returned (.int .i64 k)∧w=w':=by
 go_enter Tryz.func193,Tryz.ntmps193
 go_wp2_with (simp only [key])
 go_ret
 exact ⟨rfl,rfl⟩
theorem vJ (x:Nat) (w:World) (h0:x≠0) (hx:x<18446744073709551616) (ht:aH w) :
  Calls Tryz.prog 193 #[.int .u64 x] w fun e w'=>e = .returned (.int .i64 (Lib.ctz 64 x:Nat))∧w=w':=by
 obtain ⟨hlow,hk⟩:=Lib.lowest_bit 64 x h0 hx
 obtain ⟨hi,htab⟩:=Lib.deBruijn64_at _ hk
 have hcell:=ht _ hi
 rw [htab] at hcell
 exact Dc x _ _ w (by simp;omega) (tz64_key x _ hx h0 hlow) hi hk hcell
theorem mP (a b:Nat) (ha:a<18446744073709551616) (hb:b<18446744073709551616):bits .or .u64 (a:Int) (b:Int)=((a ||| b:Nat):Int):=by
 have hx:a ||| b<2 ^ 64:=Nat.or_lt_two_pow ha hb
 have h1:(BitVec.ofInt 64 (a:Int)).toNat=a:=by
  rw [BitVec.ofInt_natCast,BitVec.toNat_ofNat];exact Nat.mod_eq_of_lt (by omega)
 have h2:(BitVec.ofInt 64 (b:Int)).toNat=b:=by
  rw [BitVec.ofInt_natCast,BitVec.toNat_ofNat];exact Nat.mod_eq_of_lt (by omega)
 show IntKind.u64.wrap ((BitVec.ofInt 64 (a:Int) ||| BitVec.ofInt 64 (b:Int)).toNat:Int)=_
 rw [BitVec.toNat_or,h1,h2,IntKind.wrap_u64]
 omega
theorem eV (a b:Int) (w:World) (h0 : -9223372036854775808<a) (h1:a≤9223372036854775807) (h2 : -9223372036854775808<b) (h3:b≤9223372036854775807) (ht:aH w) :
  Calls Tryz.prog 129 #[.int .i64 a,.int .i64 b] w fun e W'=>e = .returned (.int .i64 (Nat.gcd a.natAbs b.natAbs:Nat))∧w=W':=by
 have ca:=fun W=>jG a W h0 h1
 have cb:=fun W=>jG b W h2 h3
 have ha:a.natAbs<9223372036854775808:=by omega
 have hb:b.natAbs<9223372036854775808:=by omega
 have C:=Ha (Hb ca cb)
 have HT:=Ha ht
 clear ca cb h0 h1 h2 h3 ht
 generalize a.natAbs=x at *
 generalize b.natAbs=y at *
 by_cases hz:x=0∨y=0
 ·have hg:((Nat.gcd x y:Nat):Int)=(x:Int)+(y:Int):=by
   rcases hz with h | h
   ·subst h;rw [Nat.gcd_zero_left];simp
   ·subst h;rw [Nat.gcd_zero_right];simp
  rw [hg]
  have hs1:(x:Int)+(y:Int)≤9223372036854775807:=by rcases hz with h | h <;> omega
  by_cases hx:x=0
  ·have hx':((x:Int)==0)=true:=by simp [hx]
   clear hg hz
   go_enter Tryz.func129,Tryz.ntmps129
   go_wp2_with fail
   refine (C.out.1 _).mono ?_
   rintro e w' ⟨rfl,rfl⟩
   go_wp2_with fail
   refine (C.out.2 _).mono ?_
   rintro e w' ⟨rfl,rfl⟩
   go_wp2
   go_ret
   exact ⟨ao (by omega),rfl⟩
  ·have hx':((x:Int)==0)=false:=by simp [hx]
   have hy':((y:Int)==0)=true:=by have:=hz.resolve_left hx;simp [this]
   clear hg hz
   go_enter Tryz.func129,Tryz.ntmps129
   go_wp2_with fail
   refine (C.out.1 _).mono ?_
   rintro e w' ⟨rfl,rfl⟩
   go_wp2_with fail
   refine (C.out.2 _).mono ?_
   rintro e w' ⟨rfl,rfl⟩
   go_wp2
   go_ret
   exact ⟨ao (by omega),rfl⟩
 ·have hx:x≠0:=fun h=>hz (.inl h)
  have hy:y≠0:=fun h=>hz (.inr h)
  have hx':((x:Int)==0)=false:=by simp [hx]
  have hy':((y:Int)==0)=false:=by simp [hy]
  have hor:bits BinOp.or IntKind.u64 (x:Int) (y:Int)=((x ||| y:Nat):Int):=mP x y (by omega) (by omega)
  have ct:=fun W (h:aH W)=>vJ (x ||| y) W (fun q=>hx (Nat.or_eq_zero_iff.1 q).1) (Nat.or_lt_two_pow (n:=64) (by omega) (by omega)) h
  have cx:=fun W (h:aH W)=>vJ x W hx (by omega) h
  have hst:=yT hx hy (by omega) (by omega)
  have hmx:∃ m,x / 2 ^ Lib.ctz 64 x=2*m+1:=by obtain ⟨m,h,_⟩:=nM hx (by omega);exact ⟨m,h⟩
  have HGL:=Ha (show Nat.gcd x y<9223372036854775808 from Nat.lt_of_le_of_lt (Nat.gcd_le_left _ (by omega)) ha)
  have hle:x / 2 ^ Lib.ctz 64 x≤x:=Nat.div_le_self _ _
  have hcx:Lib.ctz 64 x<64:=by obtain ⟨_,_,h⟩:=gp hx (by omega);exact h
  have htt:Lib.ctz 64 (x ||| y)<64:=by obtain ⟨_,_,h⟩:=gp (x:=x ||| y) (fun q=>hx (Nat.or_eq_zero_iff.1 q).1) (Nat.or_lt_two_pow (n:=64) (by omega) (by omega));exact h
  have HT2:=Ha (Hb ct cx)
  clear ct cx hz hx hy
  generalize Lib.ctz 64 (x ||| y)=t at *
  have HST:=Ha (Hb hst (Hb hmx (Hb hle (Hb hcx htt))))
  clear hst hmx hle hor hcx htt
  have HOR:=Ha (mP x y (by omega) (by omega))
  generalize x ||| y=xy at *
  go_enter Tryz.func129,Tryz.ntmps129
  go_wp2_with fail
  refine (C.out.1 _).mono ?_
  rintro e w' ⟨rfl,rfl⟩
  have HX:=Ha (Hb hx' (Hb hy' (Hb ha hb)))
  clear ha hb hx' hy'
  go_wp2_with fail
  refine (C.out.2 _).mono ?_
  rintro e w' ⟨rfl,rfl⟩
  clear C
  have hx':=HX.out.1
  have hy':=HX.out.2.1
  have hor:=HOR.out
  go_wp2_with fail
  refine (HT2.out.1 _ HT.out).mono ?_
  rintro e w' ⟨rfl,rfl⟩
  clear hor hx' hy'
  go_wp2_with fail
  refine (HT2.out.2 _ HT.out).mono ?_
  rintro e w' ⟨rfl,rfl⟩
  clear HT2
  generalize Lib.ctz 64 x=cx at *
  go_wp2_with fail
  have hst:=HST.out
  have hmin:min cx 64=cx:=by have:=hst.2.2.2.1;omega
  have e0:((x:Int) / 2 ^ cx)=((x / 2 ^ cx:Nat):Int):=by simp
  rw [hmin,e0]
  clear e0 hmin
  have HT64:=Ha hst.2.2.2.2
  clear HST
  generalize hz:x / 2 ^ cx=z at *
  have HG:=Ha hst.1
  obtain ⟨m,hm⟩:=hst.2.1
  have hzl:=hst.2.2.1
  have hx:=HX.out.2.2.1
  have hyl:=HX.out.2.2.2
  clear hst hz HX
  have HZ:=Ha (show z % 2=1∧z<9223372036854775808∧y<9223372036854775808 by omega)
  clear hx hyl hzl hm m
  go_loop [5,6] (fun u v=>∃ X Y:Nat,u = .int .u64 X∧v = .int .u64 Y∧Hid (X % 2=1∧X<9223372036854775808∧Y<9223372036854775808)∧Hid (Nat.gcd X Y=Nat.gcd z y)) (fun u v=>(intOf u+intOf v).toNat)
  case atStart=>exact ⟨z,y,rfl,rfl,HZ,rfl⟩
  case round =>
   obtain ⟨X,Y,rfl,rfl,hb,hg⟩:=hrel
   by_cases hY:Y=0
   ·have hY':((Y:Int)==0)=true:=by simp [hY]
    have hgg:=hg.out
    rw [hY,Nat.gcd_zero_right] at hgg
    have hfin:X*2 ^ t=Nat.gcd x y:=by rw [HG.out,←hgg]
    have hlt:X*2 ^ t<9223372036854775808:=by
     rw [hfin];exact HGL.out
    have HF:=Ha (Hb hfin hlt)
    clear hfin hlt hgg hY
    go_wp2
    go_ret
    refine ⟨ao ?_,rfl⟩
    have h1:=HF.out.1
    have h2:=HF.out.2
    have hm:min t 64=t:=by have:=HT64.out;omega
    rw [hm,show ((X:Int)*2 ^ t)=((X*2 ^ t:Nat):Int) by simp,←h1]
    generalize X*2 ^ t=g at *
    rw [IntKind.wrap_u64]
    unfold wrap64
    omega
   ·have hY':((Y:Int)==0)=false:=by simp [hY]
    have hr:=yU hb.out.1 hY (by have:=hb.out.2.2;omega)
    have ct:=vJ Y w hY (by have:=hb.out.2.2;omega) HT.out
    have hc64:Lib.ctz 64 Y<64:=by obtain ⟨_,_,h⟩:=gp hY (by have:=hb.out.2.2;omega);exact h
    have HR:=Ha (Hb hr (Hb ct hc64))
    clear hr ct hc64
    generalize Lib.ctz 64 Y=cy at *
    go_wp2_with fail
    refine HR.out.2.1.mono ?_
    rintro e w' ⟨rfl,rfl⟩
    obtain ⟨⟨r1,r2,r3,r4⟩,_,hc64⟩:=HR.out
    obtain ⟨Z,hZ⟩:∃ Z,Y / 2 ^ cy=Z:=⟨_,rfl⟩
    have e1:(Y:Int) / 2 ^ min cy 64=(Z:Int):=by rw [show min cy 64=cy by omega,←hZ];simp
    rw [hZ] at r1 r2 r3 r4
    have hX1:=hb.out.2.1
    have hY1:=hb.out.2.2
    have hX0:=hb.out.1
    by_cases hxz:X≤Z
    ·rw [Nat.min_eq_left hxz] at r1 r2 r3
     rw [Nat.max_eq_right hxz] at r1 r3
     have emin:min (X:Int) (Z:Int)=X:=by omega
     have emax:max (X:Int) (Z:Int)=Z:=by omega
     have HQ:=Ha (Hb (r1.trans hg.out) r3)
     have HW:=Ha (show X % 2=1∧X<9223372036854775808∧Z - X<9223372036854775808 by omega)
     have esub:IntKind.u64.wrap ((Z:Int) - (X:Int))=((Z - X:Nat):Int):=by rw [IntKind.wrap_u64];omega
     have HS:=Ha hxz
     clear r1 r2 r3 r4 hZ HR hb hg hX0 hX1 hY1 hc64 hxz
     go_wp2
     go_round
     case rel=>exact ⟨X,Z - X,rfl,by go_num,HW,HQ.out.1⟩
     case measure=>have:=HQ.out.2;have:=HS.out;simp [intOf];omega
    ·have hxz:Z≤X:=by omega
     rw [Nat.min_eq_right hxz] at r1 r2 r3
     rw [Nat.max_eq_left hxz] at r1 r3
     have emin:min (X:Int) (Z:Int)=Z:=by omega
     have emax:max (X:Int) (Z:Int)=X:=by omega
     have HQ:=Ha (Hb (r1.trans hg.out) r3)
     have HW:=Ha (show Z % 2=1∧Z<9223372036854775808∧X - Z<9223372036854775808 by omega)
     have esub:IntKind.u64.wrap ((X:Int) - (Z:Int))=((X - Z:Nat):Int):=by rw [IntKind.wrap_u64];omega
     have HS:=Ha hxz
     clear r1 r2 r3 r4 hZ HR hb hg hX0 hX1 hY1 hc64 hxz
     go_wp2
     go_round
     case rel=>exact ⟨Z,X - Z,rfl,by go_num,HW,HQ.out.1⟩
     case measure=>have:=HQ.out.2;have:=HS.out;simp [intOf];omega
structure RowR (B:Nat) (W:World) (l:List UInt8) (g cap:Nat):Prop where
 base:B≤g
 lt:g<W.heap.size
 le:l.length≤cap
 max:cap≤maxLen
 there:∀ j,j<cap→(W.cell? ⟨g,j,none⟩).isSome=true∧W.frozen? ⟨g,j,none⟩=false
 holds:∀ j u,(Lib.byteCells l)[j]? = some u→W.cell? ⟨g,j,none⟩=some u
theorem RowR.next {B:Nat} {W W':World} {l:List UInt8} {g cap:Nat} (h:RowR B W l g cap) (b:Below W.heap.size W W'):RowR B W' l g cap :=
 ⟨h.base,Nat.lt_of_lt_of_le h.lt b.size,h.le,h.max,fun j hj=>⟨by rw [b.cell (p:=⟨g,j,none⟩) h.lt];exact (h.there j hj).1,(b.frozen (p:=⟨g,j,none⟩) h.lt).trans (h.there j hj).2⟩,
  fun j u hj=>(b.cell (p:=⟨g,j,none⟩) h.lt).trans (h.holds j u hj)⟩
theorem below_setCells (B g:Nat) (hB:B≤g):∀ (vs:List Value) (o:Nat) (w:World),Below B w (w.setCells g o vs)
 | [],_,w=>Below.refl _ w
 | v::r,o,w=>((Below.refl B w).setCell (p:=⟨g,o,none⟩) hB v).trans (below_setCells B g hB r (o+1) _)
theorem gP (l:List UInt8):(Lib.byteCells l).length=l.length:=by simp [Lib.byteCells]
theorem addr_add (g j:Nat):(⟨g,0,none⟩:Addr).add j=⟨g,j,none⟩:=by unfold Addr.add;split <;> simp_all
theorem lY {W:World} {g j:Nat} {cur:Array Value} {t:TypeId} (h:W.heap[g]? = some (.cells cur t (0,0))):W.frozen? ⟨g,j,none⟩=false:=by unfold World.frozen?; simp only [h];simp
theorem iR {B:Nat} {W:World} {l:List UInt8} {g cap:Nat} (h:RowR B W l g cap) (t tx ty e:TypeId) (i:TypeInfo) (ht:Tryz.prog.underlying t=some (.slice e)) (hi:Tryz.prog.info? e=some i) (hz:i.zero=some (.int .u8 0)) (hsize:i.size=1) (hby:i.bytes=1)
  (x:Value) (m:List UInt8) (hs:Src Tryz.prog 1 tx x m.length (Lib.byteCells m) W) (hb:l.length+m.length≤140737488355328) (hB:B≤W.heap.size) :
  ∃ W' g' cap',(Builtin.append_ #[t,tx] ty #[.slice (some ⟨g,0,none⟩) l.length cap,x]).run Tryz.prog W = .ok (.slice (some ⟨g',0,none⟩) (l.length+m.length) cap') W'∧RowR B W' (l++m) g' cap'∧Below B W W':=by
 obtain ⟨hbase,hlt,hle,hmax,hth,hh⟩:=h
 rw [←hsize] at hs
 have hml:=gP m
 have hll:=gP l
 by_cases hroom:l.length+m.length≤cap
 ·have hr:=run_append_room_src (P:=Tryz.prog) W t tx ty e i ht hi g 0 l.length cap x m.length (Lib.byteCells m) hs hroom
   (fun j hj=>by rw [hsize,Nat.mul_one,Nat.zero_add];exact (hth (l.length+j) (by omega)).1) (fun j hj=>by rw [hsize,Nat.mul_one,Nat.zero_add];exact (hth (l.length+j) (by omega)).2)
  rw [hsize,Nat.mul_one,Nat.zero_add] at hr
  have hbel:=below_setCells B g hbase (Lib.byteCells m) l.length W
  refine ⟨_,g,cap,hr,⟨hbase,Nat.lt_of_lt_of_le hlt hbel.size,by rw [List.length_append];exact hroom,hmax,fun j hj=>⟨World.isSome_setCells g _ _ _ _ (hth j hj).1,(World.frozen?_setCells g _ _ _ _).trans (hth j hj).2⟩,fun j u hj => ?_⟩,hbel⟩
  rw [Lib.byteCells_append] at hj
  by_cases hjl:j<(Lib.byteCells l).length
  ·rw [List.getElem?_append_left hjl] at hj
   rw [World.cell?_setCells_out g _ _ _ _ (fun _ _ => .inl (by show j<l.length;omega))]
   exact hh j u hj
  ·rw [List.getElem?_append_right (by omega)] at hj
   obtain ⟨hj2,hj3⟩:=List.getElem?_eq_some_iff.1 hj
   have:=World.cell?_setCells_in g (Lib.byteCells m) l.length W (fun k hk=>(hth (l.length+k) (by omega)).1) (j - (Lib.byteCells l).length) hj2
   rw [show l.length+(j - (Lib.byteCells l).length)=j by omega,hj3] at this
   exact this
 ·have hold:(Builtin.firstCells i.size l.length (.slice (some ⟨g,0,none⟩) l.length cap)).run Tryz.prog W.drew = .ok (Lib.byteCells l).toArray W.drew :=
   run_firstCells_some (P:=Tryz.prog) W.drew i.size l.length ⟨g,0,none⟩ l.length cap (Lib.byteCells l) (by rw [hsize,Nat.mul_one];exact hll) (fun j u hj=>by rw [addr_add];exact hh j u hj)
  have hr:=run_append_grow_src (P:=Tryz.prog) W t tx ty e i (.int .u8 0) ht hi hz (some ⟨g,0,none⟩) l.length cap (Lib.byteCells l) hold x m.length (Lib.byteCells m) hs (by omega) (by omega) (growslice_fits (by omega) (by rw [hby];omega))
  have hge:=grownCap_ge W (l.length+m.length) cap e
  have hcm:grownCap W (l.length+m.length) cap e≤maxLen:=grownCap_le_maxLen W _ cap e (by unfold maxLen;omega)
  generalize grownCap W (l.length+m.length) cap e=cap' at *
  have hnew:(W.drew.alloc (.cells ((Lib.byteCells l++Lib.byteCells m).toArray++Builtin.zeroCells (Value.int .u8 0).cells (cap' - (l.length+m.length))) e)).heap[W.heap.size]? = some (.cells ((Lib.byteCells l++Lib.byteCells m).toArray++Builtin.zeroCells (Value.int .u8 0).cells (cap' - (l.length+m.length))) e):=heap_alloc_new W.drew _
  have hbel:Below B W (W.drew.alloc (.cells ((Lib.byteCells l++Lib.byteCells m).toArray++Builtin.zeroCells (Value.int .u8 0).cells (cap' - (l.length+m.length))) e)):=(Below.refl B W).drew.alloc hB _
  have hcs:((Lib.byteCells l++Lib.byteCells m).toArray++Builtin.zeroCells (Value.int .u8 0).cells (cap' - (l.length+m.length))).size=cap':=by
   rw [Array.size_append,size_zeroCells,List.size_toArray,List.length_append,hll,hml,show (Value.int .u8 0).cells.size=1 from rfl];omega
  refine ⟨_,W.heap.size,cap',hr,⟨hB,by simp,by rw [List.length_append];exact hge,hcm,fun j hj=>⟨?_,?_⟩,fun j u hj => ?_⟩,hbel⟩
  ·rw [cell_of_row _ _ j _ _ _ hnew,Array.getElem?_eq_getElem (by rw [hcs];exact hj)];rfl
  ·exact lY hnew
  ·rw [cell_of_row _ _ j _ _ _ hnew]
   rw [Lib.byteCells_append] at hj
   obtain ⟨hj2,hj3⟩:=List.getElem?_eq_some_iff.1 hj
   rw [Array.getElem?_append_left (by simpa using hj2)]
   simpa using hj
theorem de {W:World} {ops:Array Oper} {rest:List Oper} {o:Oper} {a:Act} {Q:Exit→Act→World→Prop} (hgd:o.guard=none) (s x:Operand) (t tx:TypeId)
  (ho:o.op = .call { callee := .builtin .append,args := #[s,x],argTypes := #[t,tx] }) (e:TypeId) (i:TypeInfo) (ht:Tryz.prog.underlying t=some (.slice e)) (hi:Tryz.prog.info? e=some i) (hz:i.zero=some (.int .u8 0)) (hsize:i.size=1) (hby:i.bytes=1)
  {B:Nat} {l:List UInt8} {g cap n:Nat} (hn:n=l.length) (hv:a.eval s = .slice (some ⟨g,0,none⟩) n cap) (h:RowR B W l g cap) (xv:Value) (m:List UInt8) (hx:a.eval x=xv) (hs:Src Tryz.prog 1 tx xv m.length (Lib.byteCells m) W) (hb:l.length+m.length≤140737488355328) (hB:B≤W.heap.size)
  (hK:∀ W' g' cap',RowR B W' (l++m) g' cap'→Below B W W'→wpList Tryz.prog ops Q rest (a.put o.dst (.slice (some ⟨g',0,none⟩) (n+m.length) cap')) W'):wpList Tryz.prog ops Q (o::rest) a W:=by
 subst hn
 refine wpList_plain hgd fun K hK' => ?_
 obtain ⟨w',g',c',hrun,h1,h2⟩:=iR h t tx o.type e i ht hi hz hsize hby xv m hs hb hB
 unfold Oper.wp
 simp [execOp,ho,resolve,invoke,builtin,hv,hx,hrun,Result.andThen]
 exact hK' _ _ (hK w' g' c' h1 h2)
theorem gX {W:World} {ops:Array Oper} {o:Oper} {a:Act} {K:Act→World→Prop} {Q:Exit→Act→World→Prop} {E:Prop} (hgd:o.guard=none) (s x:Operand) (t tx:TypeId)
  (ho:o.op = .call { callee := .builtin .append,args := #[s,x],argTypes := #[t,tx] }) (e:TypeId) (i:TypeInfo) (ht:Tryz.prog.underlying t=some (.slice e)) (hi:Tryz.prog.info? e=some i) (hz:i.zero=some (.int .u8 0)) (hsize:i.size=1) (hby:i.bytes=1)
  {B:Nat} {l:List UInt8} {g cap n:Nat} (hn:n=l.length) (hv:a.eval s = .slice (some ⟨g,0,none⟩) n cap) (h:RowR B W l g cap) (xv:Value) (m:List UInt8) (hx:a.eval x=xv) (hs:Src Tryz.prog 1 tx xv m.length (Lib.byteCells m) W) (hb:l.length+m.length≤140737488355328) (hB:B≤W.heap.size)
  (hK:∀ W' g' cap',RowR B W' (l++m) g' cap'→Below B W W'→K (a.put o.dst (.slice (some ⟨g',0,none⟩) (n+m.length) cap')) W'):if Region.wanted o (yielded ops a.tmps)=true then Oper.wp Tryz.prog o a W K Q else E:=by
 have hw:Region.wanted o (yielded ops a.tmps)=true:=by simp [Region.wanted,hgd]
 rw [if_pos hw]
 subst hn
 obtain ⟨w',g',c',hrun,h1,h2⟩:=iR h t tx o.type e i ht hi hz hsize hby xv m hs hb hB
 unfold Oper.wp execOp
 simp only [ho,resolve,invoke,builtin,Sem.run_bind,Sem.run_pure,Result.andThen_ok,List.map_toArray,List.map_cons,List.map_nil,hv,hx,hrun]
 exact hK w' g' c' h1 h2
theorem RowR.new {W:World} {cur:Array Value} {t:TypeId} {g n:Nat} (h:W.heap[g]? = some (.cells cur t (0,0))) (hn:cur.size=n) (hm:n≤maxLen):RowR g W [] g n:=by
 subst hn
 exact ⟨Nat.le_refl _,(Array.getElem?_eq_some_iff.1 h).1,Nat.zero_le _,hm,fun j hj=>⟨by rw [cell_of_row _ _ j _ _ _ h,Array.getElem?_eq_getElem hj];rfl,lY h⟩,fun j u hj=>by simp [Lib.byteCells] at hj⟩
theorem jI {W:World} {tx e':TypeId} (hk:Tryz.prog.underlying tx=some (.slice e')) (g:Nat) (c:Nat) (m:List UInt8) (n:Nat) (hn:n=m.length) (h:∀ j u,(Lib.byteCells m)[j]? = some u→W.cell? ⟨g,j,none⟩=some u):Src Tryz.prog 1 tx (.slice (some ⟨g,0,none⟩) n c) m.length (Lib.byteCells m) W:=by
 subst hn
 exact Src.ofSlice W hk ⟨g,0,none⟩ m.length c (Lib.byteCells m) (by rw [gP,Nat.mul_one]) (fun j u hj=>by rw [addr_add];exact h j u hj) (Lib.byteCells_one _)
theorem ow {W:World} {tx:TypeId} (hk:Tryz.prog.underlying tx=some .string) (s:ByteArray):Src Tryz.prog 1 tx (.string s) s.data.toList.length (Lib.byteCells s.data.toList) W:=Src.ofString W hk s
def LB:Option Int→ByteArray
 | some z=>aa z
 | none=>⟨#[]⟩
def LE:Option Int→Int
 | some _=>0
 | none=>4
def mkL (z:Int):Option Int:=if short z then some z else none
def Lwf (o:Option Int):Prop:=∀ z,o=some z→short z
def opL (f:Int→Int→Int) (o p:Option Int):Option Int:=match o,p with
 | some x,some y=>mkL (f x y)
 | _,_=>none
theorem EP (z:Int):Lwf (mkL z):=fun y h=>by
 unfold mkL at h
 split at h
 ·rw [←Option.some.inj h];assumption
 ·cases h
theorem dO (f:Int→Int→Int) (o p:Option Int):Lwf (opL f o p):=by
 unfold opL
 split
 ·exact EP _
 ·intro z h;cases h
theorem i7 (f:Int→Int→Int) (o:Option Int):opL f o none=none:=by unfold opL;split <;> first | rfl | contradiction
theorem jJ {z:Int} (h:short z):Lwf (some z):=fun y hy=>by rw [←Option.some.inj hy];exact h
theorem i8 {z:Int} (h:short z):mkL z=some z:=if_pos h
theorem rO (z:Int):iM z=LB (mkL z):=by
 unfold iM mkL
 by_cases h:short z
 ·rw [if_pos (show z.natAbs<lim from h),if_pos h];rfl
 ·rw [if_neg (show ¬ z.natAbs<lim from h),if_neg h];rfl
theorem rP (z:Int):iN z=LE (mkL z):=by
 unfold iN mkL
 by_cases h:short z
 ·rw [if_pos (show z.natAbs<lim from h),if_pos h];rfl
 ·rw [if_neg (show ¬ z.natAbs<lim from h),if_neg h];rfl
theorem Dd (x y:Int) (w:World) (hx:short x) (hy:short y) (ht:Tab w) :
  Calls Tryz.prog 288 #[.string (aa x),.string (aa y)] w fun e W'=>e = .returned (.tuple #[.string (LB (mkL (x+y))),.int .i64 (LE (mkL (x+y)))])∧Below w.heap.size w W':=by
 have c:=yz (aa x) (aa y) w (by have:=aM hx;unfold maxLen;omega) (by have:=aM hy;unfold maxLen;omega) ht
 rwa [gi hx hy,bo,bo,gN,gO,rO,rP] at c
theorem De (x y:Int) (w:World) (hx:short x) (hy:short y) (ht:Tab w) :
  Calls Tryz.prog 356 #[.string (aa x),.string (aa y)] w fun e W'=>e = .returned (.tuple #[.string (LB (mkL (x - y))),.int .i64 (LE (mkL (x - y)))])∧Below w.heap.size w W':=by
 have c:=Ek (aa x) (aa y) w (by have:=aM hx;unfold maxLen;omega) (by have:=aM hy;unfold maxLen;omega) ht
 rwa [gi hx hy,bo,bo,gN,gO,rO,rP] at c
theorem As (x y:Int) (w:World) (hx:short x) (hy:short y) (ht:Tab w) :
  Calls Tryz.prog 295 #[.string (aa x),.string (aa y)] w fun e W'=>e = .returned (.tuple #[.string (LB (mkL (x*y))),.int .i64 (LE (mkL (x*y)))])∧Below w.heap.size w W':=by
 have c:=yA (aa x) (aa y) w (by have:=aM hx;unfold maxLen;omega) (by have:=aM hy;unfold maxLen;omega) ht
 rwa [gi hx hy,bo,bo,gN,gO,rO,rP] at c
theorem kU (o p r:Option Int) (k:Nat) (w:World) (eg:∀ args W,(callFunc k args).run Tryz.prog W = .ok (.enter k args) W) (h0:o=none→r=none) (h1:p=none→r=none)
  (H:∀ x y,o=some x→p=some y→CqB w k #[.string (aa x),.string (aa y)] (.tuple #[.string (LB r),.int .i64 (LE r)])) :
  Calls Tryz.prog 191 #[.agg #[.string (LB o),.int .i64 (LE o)],.agg #[.string (LB p),.int .i64 (LE p)],.func (.func k) #[] #[]] w fun e W'=>e = .returned (.agg #[.string (LB r),.int .i64 (LE r)])∧Below w.heap.size w W':=by
 cases o with
 | none =>
  rw [h0 rfl]
  clear H
  generalize LB p=pb
  generalize LE p=pe
  simp only [LB,LE]
  go_enter Tryz.func191,Tryz.ntmps191
  go_wp2
  refine bodyPost_ret (v := .agg #[.string ⟨#[]⟩,.int .i64 4]) (by simp [results,Tryz.results191,go_sem]) rfl ?_
  exact ⟨rfl,by go_grown⟩
 | some x =>
  cases p with
  | none =>
   rw [h1 rfl]
   clear H
   simp only [LB,LE]
   generalize aa x=sx
   go_enter Tryz.func191,Tryz.ntmps191
   go_wp2
   refine bodyPost_ret (v := .agg #[.string ⟨#[]⟩,.int .i64 4]) (by simp [results,Tryz.results191,go_sem]) rfl ?_
   exact ⟨rfl,by go_grown⟩
  | some y =>
   have C:=Ha (H x y rfl rfl)
   clear H h0 h1
   generalize LB r=rb at *
   generalize LE r=re at *
   simp only [LB,LE]
   generalize aa x=sx at *
   generalize aa y=sy at *
   go_enter Tryz.func191,Tryz.ntmps191
   go_wp2_with fail
   have hbx:=cX w (.string sx) (.int .i64 0) (.string sy) (.int .i64 0) (.string ⟨#[]⟩) (.int .i64 0) 71
   generalize ((w.alloc (.cells #[.string sx,.int .i64 0] 71)).alloc (.cells #[.string sy,.int .i64 0] 71)).alloc (.cells #[.string ⟨#[]⟩,.int .i64 0] 71)=W0 at *
   have c:=C.out W0 hbx.below
   have CC:=Ha c
   clear c C
   generalize hk:w.heap.size=k at *
   have HK:=Ha hk;clear hk
   have HB:=Ha hbx
   clear hbx
   refine CC.out.mono ?_
   rintro e w1 ⟨rfl,b⟩
   have HB1:=Ha (HB.out.next b)
   clear b CC HB
   obtain ⟨_,_,_,_,c5,c6,f5,f6,_,_⟩:=HB1.out
   obtain ⟨g5,g6⟩:=aJ c5 c6 (.string rb) (.int .i64 re)
   go_wp2
   refine bodyPost_ret (v := .agg #[.string rb,.int .i64 re]) (by simp [results,Tryz.results191,go_sem,g5,g6]) rfl ?_
   refine ⟨rfl,?_⟩
   rw [HK.out]
   exact ((HB1.out.below).setCell (p:=⟨k+1+1,0,none⟩) (by show k≤k+1+1;omega) _).setCell (p:=⟨k+1+1,1,none⟩) (by show k≤k+1+1;omega) _
theorem lZ (o p:Option Int) (w:World) (ho:Lwf o) (hp:Lwf p) (ht:Tab w) :
  Calls Tryz.prog 354 #[.agg #[.string (LB o),.int .i64 (LE o)],.agg #[.string (LB p),.int .i64 (LE p)]] w fun e W'=>e = .returned (.agg #[.string (LB (opL (· + ·) o p)),.int .i64 (LE (opL (· + ·) o p))])∧Below w.heap.size w W':=by
 have c:=fun W (hW:Below w.heap.size w W)=>kU o p (opL (· + ·) o p) 288 W (enters_of Tryz.func288 (by kernel_rfl) rfl) (fun h=>by rw [h];rfl) (fun h=>by rw [h];exact i7 _ _)
  (fun x y hx hy W' hW'=>by
   have hb:=hW.trans (hW'.mono hW.size)
   subst hx;subst hy
   exact Dd x y W' (ho x rfl) (hp y rfl) (ht.next hb))
 have C:=Ha c;clear c ho hp ht
 generalize opL (· + ·) o p=r at *
 generalize LB o=ob at *
 generalize LE o=oe at *
 generalize LB p=pb at *
 generalize LE p=pe at *
 generalize LB r=rb at *
 generalize LE r=re at *
 go_enter Tryz.func354,Tryz.ntmps354
 go_wp2_with fail
 have hbx:=cX w (.string ob) (.int .i64 oe) (.string pb) (.int .i64 pe) (.string ⟨#[]⟩) (.int .i64 0) 71
 generalize ((w.alloc (.cells #[.string ob,.int .i64 oe] 71)).alloc (.cells #[.string pb,.int .i64 pe] 71)).alloc (.cells #[.string ⟨#[]⟩,.int .i64 0] 71)=W0 at *
 have CC:=Ha (C.out W0 hbx.below)
 clear C
 generalize hk:w.heap.size=k at *
 have HK:=Ha hk;clear hk
 have HB:=Ha hbx
 clear hbx
 refine CC.out.mono ?_
 rintro e w1 ⟨rfl,b⟩
 have HB1:=Ha (HB.out.next b)
 clear b CC HB
 obtain ⟨_,_,_,_,c5,c6,f5,f6,_,_⟩:=HB1.out
 obtain ⟨g5,g6⟩:=aJ c5 c6 (.string rb) (.int .i64 re)
 go_wp2
 refine bodyPost_ret (v := .agg #[.string rb,.int .i64 re]) (by simp [results,Tryz.results354,go_sem,g5,g6]) rfl ?_
 refine ⟨rfl,?_⟩
 rw [HK.out]
 exact ((HB1.out.below).setCell (p:=⟨k+1+1,0,none⟩) (by show k≤k+1+1;omega) _).setCell (p:=⟨k+1+1,1,none⟩) (by show k≤k+1+1;omega) _
theorem iD (o p:Option Int) (w:World) (ho:Lwf o) (hp:Lwf p) (ht:Tab w) :
  Calls Tryz.prog 351 #[.agg #[.string (LB o),.int .i64 (LE o)],.agg #[.string (LB p),.int .i64 (LE p)]] w fun e W'=>e = .returned (.agg #[.string (LB (opL (· - ·) o p)),.int .i64 (LE (opL (· - ·) o p))])∧Below w.heap.size w W':=by
 have c:=fun W (hW:Below w.heap.size w W)=>kU o p (opL (· - ·) o p) 356 W (enters_of Tryz.func356 (by kernel_rfl) rfl) (fun h=>by rw [h];rfl) (fun h=>by rw [h];exact i7 _ _)
  (fun x y hx hy W' hW'=>by
   have hb:=hW.trans (hW'.mono hW.size)
   subst hx;subst hy
   exact De x y W' (ho x rfl) (hp y rfl) (ht.next hb))
 have C:=Ha c;clear c ho hp ht
 generalize opL (· - ·) o p=r at *
 generalize LB o=ob at *
 generalize LE o=oe at *
 generalize LB p=pb at *
 generalize LE p=pe at *
 generalize LB r=rb at *
 generalize LE r=re at *
 go_enter Tryz.func351,Tryz.ntmps351
 go_wp2_with fail
 have hbx:=cX w (.string ob) (.int .i64 oe) (.string pb) (.int .i64 pe) (.string ⟨#[]⟩) (.int .i64 0) 71
 generalize ((w.alloc (.cells #[.string ob,.int .i64 oe] 71)).alloc (.cells #[.string pb,.int .i64 pe] 71)).alloc (.cells #[.string ⟨#[]⟩,.int .i64 0] 71)=W0 at *
 have CC:=Ha (C.out W0 hbx.below)
 clear C
 generalize hk:w.heap.size=k at *
 have HK:=Ha hk;clear hk
 have HB:=Ha hbx
 clear hbx
 refine CC.out.mono ?_
 rintro e w1 ⟨rfl,b⟩
 have HB1:=Ha (HB.out.next b)
 clear b CC HB
 obtain ⟨_,_,_,_,c5,c6,f5,f6,_,_⟩:=HB1.out
 obtain ⟨g5,g6⟩:=aJ c5 c6 (.string rb) (.int .i64 re)
 go_wp2
 refine bodyPost_ret (v := .agg #[.string rb,.int .i64 re]) (by simp [results,Tryz.results351,go_sem,g5,g6]) rfl ?_
 refine ⟨rfl,?_⟩
 rw [HK.out]
 exact ((HB1.out.below).setCell (p:=⟨k+1+1,0,none⟩) (by show k≤k+1+1;omega) _).setCell (p:=⟨k+1+1,1,none⟩) (by show k≤k+1+1;omega) _
theorem kj (o p:Option Int) (w:World) (ho:Lwf o) (hp:Lwf p) (ht:Tab w) :
  Calls Tryz.prog 355 #[.agg #[.string (LB o),.int .i64 (LE o)],.agg #[.string (LB p),.int .i64 (LE p)]] w fun e W'=>e = .returned (.agg #[.string (LB (opL (· * ·) o p)),.int .i64 (LE (opL (· * ·) o p))])∧Below w.heap.size w W':=by
 have c:=fun W (hW:Below w.heap.size w W)=>kU o p (opL (· * ·) o p) 295 W (enters_of Tryz.func295 (by kernel_rfl) rfl) (fun h=>by rw [h];rfl) (fun h=>by rw [h];exact i7 _ _)
  (fun x y hx hy W' hW'=>by
   have hb:=hW.trans (hW'.mono hW.size)
   subst hx;subst hy
   exact As x y W' (ho x rfl) (hp y rfl) (ht.next hb))
 have C:=Ha c;clear c ho hp ht
 generalize opL (· * ·) o p=r at *
 generalize LB o=ob at *
 generalize LE o=oe at *
 generalize LB p=pb at *
 generalize LE p=pe at *
 generalize LB r=rb at *
 generalize LE r=re at *
 go_enter Tryz.func355,Tryz.ntmps355
 go_wp2_with fail
 have hbx:=cX w (.string ob) (.int .i64 oe) (.string pb) (.int .i64 pe) (.string ⟨#[]⟩) (.int .i64 0) 71
 generalize ((w.alloc (.cells #[.string ob,.int .i64 oe] 71)).alloc (.cells #[.string pb,.int .i64 pe] 71)).alloc (.cells #[.string ⟨#[]⟩,.int .i64 0] 71)=W0 at *
 have CC:=Ha (C.out W0 hbx.below)
 clear C
 generalize hk:w.heap.size=k at *
 have HK:=Ha hk;clear hk
 have HB:=Ha hbx
 clear hbx
 refine CC.out.mono ?_
 rintro e w1 ⟨rfl,b⟩
 have HB1:=Ha (HB.out.next b)
 clear b CC HB
 obtain ⟨_,_,_,_,c5,c6,f5,f6,_,_⟩:=HB1.out
 obtain ⟨g5,g6⟩:=aJ c5 c6 (.string rb) (.int .i64 re)
 go_wp2
 refine bodyPost_ret (v := .agg #[.string rb,.int .i64 re]) (by simp [results,Tryz.results355,go_sem,g5,g6]) rfl ?_
 refine ⟨rfl,?_⟩
 rw [HK.out]
 exact ((HB1.out.below).setCell (p:=⟨k+1+1,0,none⟩) (by show k≤k+1+1;omega) _).setCell (p:=⟨k+1+1,1,none⟩) (by show k≤k+1+1;omega) _
def aN (x y:Int):Int:=(Nat.gcd x.natAbs y.natAbs:Nat)
theorem km {x y:Int} (hx:short x) (hy:short y):short (aN x y):=by
 show Int.natAbs _<lim
 unfold aN
 rw [Int.natAbs_natCast]
 by_cases h0:x.natAbs=0
 ·rw [h0,Nat.gcd_zero_left];exact hy
 ·exact Nat.lt_of_le_of_lt (Nat.gcd_le_left _ (by omega)) hx
theorem Au (x y:Int) (w:World) (hx:short x) (hy:short y) (ht:Tab w) :
  Calls Tryz.prog 14 #[.string (aa x),.string (aa y)] w fun e W'=>e = .returned (.tuple #[.string (LB (mkL (aN x y))),.int .i64 (LE (mkL (aN x y)))])∧Below w.heap.size w W':=by
 rw [i8 (km hx hy)]
 exact rF x y w hx hy ht
theorem rQ (o p:Option Int) (w:World) (ho:Lwf o) (hp:Lwf p) (ht:Tab w) :
  Calls Tryz.prog 124 #[.agg #[.string (LB o),.int .i64 (LE o)],.agg #[.string (LB p),.int .i64 (LE p)]] w fun e W'=>e = .returned (.agg #[.string (LB (opL (aN) o p)),.int .i64 (LE (opL (aN) o p))])∧Below w.heap.size w W':=by
 have c:=fun W (hW:Below w.heap.size w W)=>kU o p (opL (aN) o p) 14 W (enters_of Tryz.func14 (by kernel_rfl) rfl) (fun h=>by rw [h];rfl) (fun h=>by rw [h];exact i7 _ _)
  (fun x y hx hy W' hW'=>by
   have hb:=hW.trans (hW'.mono hW.size)
   subst hx;subst hy
   exact Au x y W' (ho x rfl) (hp y rfl) (ht.next hb))
 have C:=Ha c;clear c ho hp ht
 generalize opL (aN) o p=r at *
 generalize LB o=ob at *
 generalize LE o=oe at *
 generalize LB p=pb at *
 generalize LE p=pe at *
 generalize LB r=rb at *
 generalize LE r=re at *
 go_enter Tryz.func124,Tryz.ntmps124
 go_wp2_with fail
 have hbx:=cX w (.string ob) (.int .i64 oe) (.string pb) (.int .i64 pe) (.string ⟨#[]⟩) (.int .i64 0) 71
 generalize ((w.alloc (.cells #[.string ob,.int .i64 oe] 71)).alloc (.cells #[.string pb,.int .i64 pe] 71)).alloc (.cells #[.string ⟨#[]⟩,.int .i64 0] 71)=W0 at *
 have CC:=Ha (C.out W0 hbx.below)
 clear C
 generalize hk:w.heap.size=k at *
 have HK:=Ha hk;clear hk
 have HB:=Ha hbx
 clear hbx
 refine CC.out.mono ?_
 rintro e w1 ⟨rfl,b⟩
 have HB1:=Ha (HB.out.next b)
 clear b CC HB
 obtain ⟨_,_,_,_,c5,c6,f5,f6,_,_⟩:=HB1.out
 obtain ⟨g5,g6⟩:=aJ c5 c6 (.string rb) (.int .i64 re)
 go_wp2
 refine bodyPost_ret (v := .agg #[.string rb,.int .i64 re]) (by simp [results,Tryz.results124,go_sem,g5,g6]) rfl ?_
 refine ⟨rfl,?_⟩
 rw [HK.out]
 exact ((HB1.out.below).setCell (p:=⟨k+1+1,0,none⟩) (by show k≤k+1+1;omega) _).setCell (p:=⟨k+1+1,1,none⟩) (by show k≤k+1+1;omega) _
theorem Av (o:Option Int) (w:World) (ho:Lwf o) (ht:Tab w) :
  Calls Tryz.prog 352 #[.agg #[.string (LB o),.int .i64 (LE o)]] w fun e W'=>e = .returned (.agg #[.string (LB (opL (· - ·) (some 0) o)),.int .i64 (LE (opL (· - ·) (some 0) o))])∧Below w.heap.size w W':=by
 have c:=fun W (hW:Below w.heap.size w W)=>iD (some 0) o W (jJ (by show Int.natAbs 0<lim;exact yx)) ho (ht.next hW)
 rw [show LB (some 0)=⟨#[48]⟩ from vi,show LE (some 0)=0 from rfl] at c
 have C:=Ha c;clear c ho ht
 generalize opL (· - ·) (some 0) o=r at *
 generalize LB o=ob at *
 generalize LE o=oe at *
 generalize LB r=rb at *
 generalize LE r=re at *
 go_enter Tryz.func352,Tryz.ntmps352
 go_wp2_with fail
 have hb0:Below w.heap.size w ((w.alloc (.cells #[.string ob,.int .i64 oe] 71)).alloc (.cells #[.string ⟨#[]⟩,.int .i64 0] 71)):=by go_grown
 have c5:((w.alloc (.cells #[.string ob,.int .i64 oe] 71)).alloc (.cells #[.string ⟨#[]⟩,.int .i64 0] 71)).cell? ⟨w.heap.size+1,0,none⟩=some (.string ⟨#[]⟩):=by go_cell
 have c6:((w.alloc (.cells #[.string ob,.int .i64 oe] 71)).alloc (.cells #[.string ⟨#[]⟩,.int .i64 0] 71)).cell? ⟨w.heap.size+1,1,none⟩=some (.int .i64 0):=by go_cell
 have f5:((w.alloc (.cells #[.string ob,.int .i64 oe] 71)).alloc (.cells #[.string ⟨#[]⟩,.int .i64 0] 71)).frozen? ⟨w.heap.size+1,0,none⟩=false:=by simp [go_sem]
 have f6:((w.alloc (.cells #[.string ob,.int .i64 oe] 71)).alloc (.cells #[.string ⟨#[]⟩,.int .i64 0] 71)).frozen? ⟨w.heap.size+1,1,none⟩=false:=by simp [go_sem]
 have hs:w.heap.size+1<((w.alloc (.cells #[.string ob,.int .i64 oe] 71)).alloc (.cells #[.string ⟨#[]⟩,.int .i64 0] 71)).heap.size:=by simp
 generalize (w.alloc (.cells #[.string ob,.int .i64 oe] 71)).alloc (.cells #[.string ⟨#[]⟩,.int .i64 0] 71)=W0 at *
 have CC:=Ha (C.out W0 hb0)
 clear C
 generalize hk:w.heap.size=k at *
 have HK:=Ha hk;clear hk
 refine CC.out.mono ?_
 rintro e w1 ⟨rfl,b⟩
 have d5:=(b.cell (p:=⟨k+1,0,none⟩) hs).trans c5
 have d6:=(b.cell (p:=⟨k+1,1,none⟩) hs).trans c6
 have d7:=(b.frozen (p:=⟨k+1,0,none⟩) hs).trans f5
 have d8:=(b.frozen (p:=⟨k+1,1,none⟩) hs).trans f6
 have HB:=Ha (hb0.trans (b.mono (by rw [←HK.out];exact hb0.size)))
 clear b CC hb0 c5 c6 f5 f6 hs
 obtain ⟨g5,g6⟩:=aJ d5 d6 (.string rb) (.int .i64 re)
 go_wp2
 refine bodyPost_ret (v := .agg #[.string rb,.int .i64 re]) (by simp [results,Tryz.results352,go_sem,g5,g6]) rfl ?_
 refine ⟨rfl,?_⟩
 rw [HK.out]
 exact ((HB.out).setCell (p:=⟨k+1,0,none⟩) (by show k≤k+1;omega) _).setCell (p:=⟨k+1,1,none⟩) (by show k≤k+1;omega) _
theorem Aw:aa 1=⟨#[49]⟩:=iO 1 [49] bU
theorem kV (z:Int) (w:World) :
  Calls Tryz.prog 125 #[.agg #[.string (aa z),.int .i64 0]] w fun e W'=>e = .returned (.bool (decide (z=1)))∧Below w.heap.size w W':=by
 have h:((aa z).toList == [49])=decide (z=1):=by
  rw [ByteArray.toList_eq,aF]
  by_cases hz:z=1
  ·subst hz;rw [decide_eq_true rfl,bU];rfl
  ·rw [decide_eq_false hz,beq_eq_false_iff_ne]
   intro e;exact hz (eJ (e.trans bU.symm))
 have H:=Ha h;clear h
 generalize aa z=s at *
 go_enter Tryz.func125,Tryz.ntmps125
 go_wp2
 go_ret
 exact ⟨cV H.out,by go_grown⟩
theorem ox (o:Option Int) (w:World) :
  Calls Tryz.prog 349 #[.agg #[.string (LB o),.int .i64 (LE o)]] w fun e W'=>e = .returned (.int .i64 (LE o))∧Below w.heap.size w W':=by
 generalize LB o=ob
 generalize LE o=oe
 go_enter Tryz.func349,Tryz.ntmps349
 go_wp2
 go_ret
 exact ⟨rfl,by go_grown⟩
theorem tL (z:Int) (w:World) :
  Calls Tryz.prog 350 #[.agg #[.string (aa z),.int .i64 0]] w fun e W'=>e = .returned (.bool (decide (z<0)))∧Below w.heap.size w W':=by
 have h:Lib.hasPrefix (aa z).data.toList [45]=decide (z<0):=by
  rw [←iw]
  cases (aa z).data.toList with
  | nil=>rfl
  | cons a t =>
   show ((45:UInt8)==a && List.isPrefixOf [] t)=(some a==some 45)
   rw [List.isPrefixOf_nil_left,Bool.and_true]
   by_cases ha:a=45
   ·subst ha;rfl
   ·rw [show ((45:UInt8)==a)=false by rw [beq_eq_false_iff_ne];exact fun e=>ha e.symm]
    simp [ha]
 have H:=Ha h;clear h
 generalize aa z=s at *
 go_enter Tryz.func350,Tryz.ntmps350
 go_wp2_with fail
 refine (Tryz.strings_HasPrefix s ⟨#[45]⟩ _).mono ?_
 rintro e w' ⟨rfl,rfl⟩
 go_wp2
 go_ret
 exact ⟨cV H.out,by go_grown⟩
theorem Ax (x y:Int) (w:World) (hx:short x) (hy:short y) :
  Calls Tryz.prog 348 #[.agg #[.string (aa x),.int .i64 0],.agg #[.string (aa y),.int .i64 0]] w fun e W'=>e = .returned (.int .i64 (bF x y))∧Below w.heap.size w W':=by
 have C:=Ha (fun W=>nm x y W hx hy)
 clear hx hy
 generalize bF x y=c at *
 generalize aa x=sx at *
 generalize aa y=sy at *
 go_enter Tryz.func348,Tryz.ntmps348
 go_wp2_with fail
 refine (C.out _).mono ?_
 rintro e w' ⟨rfl,rfl⟩
 go_wp2
 go_ret
 exact ⟨rfl,by go_grown⟩
theorem mQ (z:Int) (l:List UInt8) (B g cap n:Nat) (hn:n=l.length) (w:World) (h:RowR B w l g cap) (hB:B≤w.heap.size) (hb:l.length+(Lib.itoa z).length≤140737488355328) :
  Calls Tryz.prog 347 #[.agg #[.string (aa z),.int .i64 0],.slice (some ⟨g,0,none⟩) n cap] w fun e W'=>∃ g' cap',e = .returned (.slice (some ⟨g',0,none⟩) (n+(Lib.itoa z).length) cap')∧RowR B W' (l++Lib.itoa z) g' cap'∧Below B w W':=by
 obtain ⟨i0,hi,hz0,hz1,hz2⟩:=info_parts fW
 have HI:=Ha (Hb hi (Hb hz0 (Hb hz1 hz2)));clear hi hz0 hz1 hz2
 have hs:=aF z
 have HH:=Ha (Hb (h.next ((Below.refl _ w).alloc (Nat.le_refl _) (.cells #[.string (aa z),.int .i64 0] 71))) (Hb hs (Hb hn hb)))
 clear h hs hn hb
 generalize Lib.itoa z=m at *
 generalize aa z=s at *
 go_enter Tryz.func347,Tryz.ntmps347
 go_wp2_with (at_builtin;refine de rfl _ _ 150 9 rfl 5 i0 Tryz.underlying150 HI.out.1 HI.out.2.1 HI.out.2.2.1 HI.out.2.2.2 HH.out.2.2.1 rfl HH.out.1 (.string s) s.data.toList rfl (ow Tryz.underlying9 s) (by rw [HH.out.2.1];exact HH.out.2.2.2) (by simp;omega) ?_;intro w1 g1 c1 h1 hb1)
 have H1:=Ha (Hb h1 hb1);clear h1 hb1
 go_wp2
 go_ret
 have h2:=HH.out.2.1
 refine ⟨g1,c1,by rw [←h2];rfl,by have:=H1.out.1;rwa [h2] at this,?_⟩
 exact (((Below.refl B w).alloc hB _)).trans H1.out.2
def MOK (x:Int):Prop:=x=aT∨x.natAbs<4611686018427387904
theorem bv (a b:Int):MOK (ay a b):=by
 unfold ay
 split
 ·exact .inr (by assumption)
 ·exact .inl rfl
theorem still {f:FuncId} {args:Array Value} {v:Value} {w:World} (h:Calls Tryz.prog f args w fun e W'=>e = .returned v∧w=W'):Calls Tryz.prog f args w fun e W'=>e = .returned v∧W'=w:=h.mono fun _ _ h=>⟨h.1,h.2.symm⟩
def gJ (x y:Int):Int:=if x=aT∨y=aT then aT else x+y
theorem vK (x y:Int) (w:World) (hx:MOK x) (hy:MOK y) :
  Calls Tryz.prog 341 #[.int .i64 x,.int .i64 y] w fun e W'=>e = .returned (.int .i64 (gJ x y))∧w=W':=by
 unfold gJ
 by_cases h1:x=aT
 ·subst h1
  rw [if_pos (.inl rfl)]
  exact ov y w
 ·by_cases h2:y=aT
  ·subst h2
   rw [if_pos (.inr rfl)]
   exact vH x w
  ·rw [if_neg (by rintro (h | h);exact h1 h;exact h2 h)]
   have h3:=hx.resolve_left h1
   have h4:=hy.resolve_left h2
   exact yS x y w (by omega) (by omega) (by omega) (by omega) (by omega) (by omega)
def B18 (x:Int):Prop:=x.natAbs<1000000000000000000
theorem B18.lo {x:Int} (h:B18 x) : -9223372036854775808<x:=by unfold B18 at h;omega
theorem B18.hi {x:Int} (h:B18 x):x≤9223372036854775807:=by unfold B18 at h;omega
theorem l5 (n:Nat) (x:Int) (W:World):(method (n+1) 66 (.int .i64 x) "kingpost/rational.times").run Tryz.prog W = .ok (342,.int .i64 x) W:=by kernel_rfl
theorem Ay (n:Nat) (x:Int) (W:World):(method (n+1) 66 (.int .i64 x) "kingpost/rational.plus").run Tryz.prog W = .ok (341,.int .i64 x) W:=by kernel_rfl
theorem qN (n:Nat) (x:Int) (W:World):(method (n+1) 66 (.int .i64 x) "kingpost/rational.minus").run Tryz.prog W = .ok (338,.int .i64 x) W:=by kernel_rfl
theorem Az (a b c d:Int) (w:World) (ha:B18 a) (hb:B18 b) (hc:B18 c) (hd:B18 d) :
  Calls Tryz.prog 31 #[.agg #[.int .i64 a,.int .i64 b],.agg #[.int .i64 c,.int .i64 d]] w fun e W'=>e = .returned (.agg #[.int .i64 (gJ (ay a d) (ay c b)),.int .i64 (ay b d)])∧Below w.heap.size w W':=by
 have c1:=fun W=>still (ee a d W ha.lo ha.hi hd.lo hd.hi)
 have c2:=fun W=>still (ee c b W hc.lo hc.hi hb.lo hb.hi)
 have c3:=fun W=>still (ee b d W hb.lo hb.hi hd.lo hd.hi)
 have c4:=fun W=>still (vK (ay a d) (ay c b) W (bv a d) (bv c b))
 generalize ay a d=t1 at *
 generalize ay c b=t2 at *
 generalize ay b d=t3 at *
 generalize gJ t1 t2=s at *
 have C:=Ha (Hb c1 (Hb c2 (Hb c3 c4)))
 clear c1 c2 c3 c4 ha hb hc hd
 go_enter Tryz.func31,Tryz.ntmps31
 go_wp2
 have hbx:=cX w (.int .i64 a) (.int .i64 b) (.int .i64 c) (.int .i64 d) (.int .i64 0) (.int .i64 0) 115
 generalize ((w.alloc (.cells #[.int .i64 a,.int .i64 b] 115)).alloc (.cells #[.int .i64 c,.int .i64 d] 115)).alloc (.cells #[.int .i64 0,.int .i64 0] 115)=W0 at *
 generalize hk:w.heap.size=k at *
 have HK:=Ha hk;clear hk
 have HBD:=Ha hbx.drew
 clear hbx
 obtain ⟨c1,c2,c3,c4,c5,c6,f5,f6,_,_⟩:=HBD.out
 have m1:=l5
 have m2:=Ay
 have en1:∀ args W,(callFunc 342 args).run Tryz.prog W = .ok (.enter 342 args) W:=enters_of Tryz.func342 (by kernel_rfl) rfl
 have en2:∀ args W,(callFunc 341 args).run Tryz.prog W = .ok (.enter 341 args) W:=enters_of Tryz.func341 (by kernel_rfl) rfl
 go_still_tail 20,(by kernel_rfl)
 still_call (C.out.1 _)
 repeat still_step
 still_call (C.out.2.1 _)
 repeat still_step
 still_call (C.out.2.2.2 _)
 repeat still_step
 still_call (C.out.2.2.1 _)
 repeat still_step
 refine wpStill_nil ?_
 change wpList _ _ _ _ _ W0.drew
 clear c1 c2 c3 c4
 generalize W0.drew=W2 at *
 obtain ⟨g5,g6⟩:=aJ c5 c6 (.int .i64 s) (.int .i64 t3)
 go_wp2
 refine bodyPost_ret (v := .agg #[.int .i64 s,.int .i64 t3]) (by simp [results,Tryz.results31,go_sem,g5,g6]) rfl ?_
 refine ⟨rfl,?_⟩
 rw [HK.out]
 exact ((HBD.out.below).setCell (p:=⟨k+1+1,0,none⟩) (by show k≤k+1+1;omega) _).setCell (p:=⟨k+1+1,1,none⟩) (by show k≤k+1+1;omega) _
theorem gY (a b:Int) (w:World) :
  Calls Tryz.prog 81 #[.agg #[.int .i64 a,.int .i64 b]] w fun e W'=>e = .returned (.int .i64 (if a=aT∨b=aT then 4 else 0))∧Below w.heap.size w W':=by
 have c1:=fun W=>tK a W
 have C:=Ha (Hb c1 (fun W=>tK b W))
 clear c1
 by_cases ha:a=aT
 ·rw [if_pos ha] at C
  rw [if_pos (.inl ha)]
  clear ha
  go_enter Tryz.func81,Tryz.ntmps81
  go_wp2_with fail
  refine (C.out.1 _).mono ?_
  rintro e w' ⟨rfl,rfl⟩
  go_wp2
  go_ret
  exact ⟨rfl,(Below.refl _ w).alloc (Nat.le_refl _) _⟩
 ·rw [if_neg ha] at C
  have hr:(if a=aT∨b=aT then (4:Int) else 0)=if b=aT then 4 else 0:=by
   by_cases hb:b=aT
   ·rw [if_pos (.inr hb),if_pos hb]
   ·rw [if_neg (by rintro (h | h);exact ha h;exact hb h),if_neg hb]
  rw [hr]
  clear ha hr
  generalize (if b=aT then (4:Int) else 0)=r at *
  go_enter Tryz.func81,Tryz.ntmps81
  go_wp2_with fail
  refine (C.out.1 _).mono ?_
  rintro e w' ⟨rfl,rfl⟩
  go_wp2_with fail
  refine (C.out.2 _).mono ?_
  rintro e w' ⟨rfl,rfl⟩
  go_wp2
  go_ret
  exact ⟨rfl,(Below.refl _ w).alloc (Nat.le_refl _) _⟩
def bN (s:ByteArray):ByteArray:=⟨(be s.data.toList).toArray⟩
def bD (s:ByteArray):ByteArray:=⟨(aK s.data.toList).toArray⟩
theorem dK (s:ByteArray):(bN s).data.toList=be s.data.toList:=by simp [bN]
theorem cI (s:ByteArray):(bD s).data.toList=aK s.data.toList:=by simp [bD]
theorem aU {s t:ByteArray} (h:s.data.toList=t.data.toList):s=t:=by
 cases s;cases t;congr 1;exact Array.ext' h
theorem kW (s:ByteArray):(bN s).size≤s.size:=by rw [←ag,dK,←ag];exact Db _
theorem rR (s:ByteArray) (h:0<s.size):(bD s).size≤s.size:=by
 rw [←ag,cI,←ag]
 rcases iY s.data.toList with ⟨_,_,h2⟩ | ⟨_,h2⟩
 ·rw [h2,ag];exact h
 ·have:=congrArg List.length h2
  simp only [List.length_append,List.length_cons] at this;omega
theorem vL {s:ByteArray} (h:bz s.data.toList=false):bN s=s∧bD s=⟨#[49]⟩:=by
 rcases iY s.data.toList with ⟨_,h2,h3⟩ | ⟨h2,_⟩
 ·exact ⟨aU (by rw [dK];exact h2.symm),aU (by rw [cI,h3])⟩
 ·rw [h] at h2;cases h2
theorem Df (l:List UInt8):(47:UInt8) ∉ be l:=by
 unfold be
 induction l with
 | nil=>simp
 | cons a t ih =>
  by_cases ha:a=47
  ·subst ha;rw [List.takeWhile_cons_of_neg (by decide)];simp
  ·rw [List.takeWhile_cons_of_pos (by simpa using ha),List.mem_cons,not_or]
   exact ⟨fun e=>ha e.symm,ih⟩
theorem Dh {s:ByteArray} (h:bz s.data.toList=true):Lib.indexByte s.data.toList 47=((bN s).size:Int)∧s.extract 0 (bN s).size=bN s∧s.extract ((bN s).size+1) s.size=bD s∧(bN s).size+1≤s.size:=by
 rcases iY s.data.toList with ⟨h2,_,_⟩ | ⟨_,h2⟩
 ·rw [h] at h2;cases h2
 ·have hns:=Df s.data.toList
  have hl:(bN s).size=(be s.data.toList).length:=by rw [←ag,dK]
  have hlen:=congrArg List.length h2
  simp only [List.length_append,List.length_cons] at hlen
  rw [ag] at hlen
  have hbn:=dK s
  have hbd:=cI s
  rw [hl]
  generalize be s.data.toList=n at *
  generalize aK s.data.toList=d at *
  refine ⟨?_,?_,?_,by omega⟩
  ·rw [h2];exact rK (c:=47) d hns
  ·apply aU
   rw [Lib.extract_data,hbn,h2]
   simp
  ·apply aU
   rw [Lib.extract_data,hbd,List.take_of_length_le (by rw [List.length_drop,ag];omega),h2,List.drop_append,List.drop_eq_nil_of_le (by omega)]
   simp
def bA (s:ByteArray):ByteArray:=if bz s.data.toList then bD s else ⟨#[]⟩
theorem AA (s:ByteArray) (w:World) (hs:s.size≤maxLen) :
  Calls Tryz.prog 130 #[.string s,.string ⟨#[47]⟩] w fun e W'=>e = .returned (.tuple #[.string (bN s),.string (bA s),.bool (bz s.data.toList)])∧Below w.heap.size w W':=by
 unfold maxLen at hs
 have ci:=fun W=>Tryz.stringslite_Index_one s 47 W
 cases h:bz s.data.toList
 ·have hn:(47:UInt8) ∉ s.data.toList:=by unfold bz at h;simpa using h
  rw [rJ hn] at ci
  obtain ⟨e1,_⟩:=vL h
  rw [e1,show bA s=⟨#[]⟩ by unfold bA;rw [h];rfl]
  have C:=Ha ci
  clear ci hn h e1
  go_enter Tryz.func130,Tryz.ntmps130
  go_wp2_with fail
  refine (C.out _).mono ?_
  rintro e w' ⟨rfl,rfl⟩
  go_wp2
  go_ret3
  exact ⟨rfl,Below.refl _ _⟩
 ·obtain ⟨e1,e2,e3,e4⟩:=Dh h
  rw [e1] at ci
  rw [show bA s=bD s by unfold bA;rw [h];rfl]
  have C:=Ha ci
  clear ci h e1
  generalize (bN s).size=k at *
  go_enter Tryz.func130,Tryz.ntmps130
  go_wp2_with fail
  refine (C.out _).mono ?_
  rintro e w' ⟨rfl,rfl⟩
  go_wp2
  go_quiet (fail)
  go_wp2
  go_ret3
  exact ⟨rfl,⟨rfl,rfl,rfl,Nat.le_refl _,fun _ _=>rfl⟩⟩
theorem kq (s:ByteArray) (w:World) (hs:s.size≤maxLen) :
  Calls Tryz.prog 83 #[.string s,.string ⟨#[47]⟩] w fun e W'=>e = .returned (.tuple #[.string (bN s),.string (bA s),.bool (bz s.data.toList)])∧Below w.heap.size w W':=by
 have C:=Ha (fun W=>AA s W hs)
 clear hs
 generalize bN s=n at *
 generalize bA s=d at *
 generalize bz s.data.toList=b at *
 go_enter Tryz.func83,Tryz.ntmps83
 go_wp2_with fail
 refine (C.out _).mono ?_
 rintro e w' ⟨rfl,hb⟩
 have B:=Ha hb;clear hb
 go_wp2
 go_ret3
 exact ⟨rfl,B.out⟩
theorem jK (s:ByteArray) (w:World) (hs:s.size≤maxLen) :
  Calls Tryz.prog 42 #[.string s] w fun e W'=>e = .returned (.tuple #[.string (bN s),.string (bD s),.bool (bz s.data.toList)])∧Below w.heap.size w W':=by
 have C:=Ha (fun W=>kq s W hs)
 clear hs
 cases h:bz s.data.toList
 ·obtain ⟨e1,e2⟩:=vL h
  rw [e1,h] at C
  rw [e1,e2]
  clear e1 e2 h
  generalize bA s=d at *
  go_enter Tryz.func42,Tryz.ntmps42
  go_wp2_with fail
  refine (C.out _).mono ?_
  rintro e w' ⟨rfl,hb⟩
  have B:=Ha hb;clear hb
  go_wp2
  go_ret3
  exact ⟨rfl,B.out⟩
 ·rw [show bA s=bD s by unfold bA;rw [h];rfl,h] at C
  clear h
  generalize bN s=n at *
  generalize bD s=d at *
  go_enter Tryz.func42,Tryz.ntmps42
  go_wp2_with fail
  refine (C.out _).mono ?_
  rintro e w' ⟨rfl,hb⟩
  have B:=Ha hb;clear hb
  go_wp2
  go_ret3
  exact ⟨rfl,B.out⟩
def mOK (l:List UInt8):Bool:=dOK (be l) && (!bz l || (dOK (aK l) && decide (1<valOf (aK l)) && decide (Nat.gcd (valOf (be l)).natAbs (valOf (aK l)).natAbs=1)))
theorem jL {l:List UInt8} (h:dOK l=true):chk l=0∧B18 (valOf l):=by
 unfold dOK at h
 simp only [Bool.and_eq_true,beq_iff_eq,decide_eq_true_eq] at h
 refine ⟨h.1,?_⟩
 unfold B18
 rw [lW]
 exact jo _ (dh h.1) h.2
theorem xC {l:List UInt8} (h:mOK l=true):bB l=0∧B18 (valOf (be l))∧B18 (valOf (aK l)):=by
 unfold mOK at h
 simp only [Bool.and_eq_true,Bool.or_eq_true,Bool.not_eq_true',decide_eq_true_eq] at h
 obtain ⟨h1,h2⟩:=h
 obtain ⟨k1,b1⟩:=jL h1
 cases hs:bz l
 ·have hd:aK l = [49]:=by unfold aK;rw [hs];rfl
  have k2:chk (aK l)=0:=by rw [hd];decide
  refine ⟨?_,b1,by rw [hd,jF];unfold B18;decide⟩
  have hf:dv l=true:=by unfold dv;rw [k1,k2,hs,hd];rfl
  unfold bB
  rw [hf,if_neg (by decide),if_neg (by rw [k1,k2];simp),if_pos (by rw [hd,lX,Nat.gcd_one_right])]
 ·rcases h2 with h2 | ⟨⟨h3,h4⟩,h5⟩
  ·rw [hs] at h2;cases h2
  ·obtain ⟨k2,b2⟩:=jL h3
   have hneg:aw (aK l)=false:=by rw [mF k2];exact decide_eq_false (by omega)
   have h48:aK l ≠ [48]:=fun e=>by rw [e] at h4;revert h4;decide
   have h49:(aK l == [49])=false:=by rw [beq_eq_false_iff_ne];intro e;rw [e,jF] at h4;omega
   refine ⟨?_,b1,b2⟩
   have hf:dv l=true:=by unfold dv;rw [k1,k2,hneg,h49,Bool.and_false];simp [h48]
   unfold bB
   rw [hf,if_neg (by decide),if_neg (by rw [k1,k2];simp),if_pos (by rw [←gV hneg,Int.natAbs_natCast] at h5;exact h5)]
end Go.Proofs.YtbhbhlfkdlfimaaGreatDoor
