/- Parts of the proof of the text YtjdfjgfdbgmbiaaGreatDoorHB39. -/
import Derived.Shelf.Spec.TrailingZeros
import Derived.Lib.MinMax
import Derived.Deep.AppendSrc
import Derived.Deep.MidRow
import Derived.Test.YtjdfjgfdbgmbiaaGreatDoorHB1
import Derived.Test.YtjdfjgfdbgmbiaaGreatDoorHB15
import Derived.Test.YtjdfjgfdbgmbiaaGreatDoorHB16
import Derived.Test.YtjdfjgfdbgmbiaaGreatDoorHB3
import Derived.Test.YtjdfjgfdbgmbiaaGreatDoorHB5
set_option linter.all false
set_option maxRecDepth 100000
set_option maxHeartbeats 8000000
namespace Go.Proofs.YtjdfjgfdbgmbiaaGreatDoor
open Go.RowKit
def Tab64 (w:World):Prop:=TabAt 1 Lib.deBruijn64tab w
theorem tz_core (x k idx:Nat) (w:World) (hx0:((x:Int)==0)=false)
  (key:IntKind.u64.wrap (bits BinOp.and IntKind.u64 (x:Int) (IntKind.u64.wrap (-(x:Int)))*285870213051353865) / 288230376151711744=(idx:Int))
  (hi:idx<64) (hk:k<64) (hcell:w.cell? ⟨1,idx,none⟩=some (.int .u8 k)) :
  Calls Tryz.prog 148 #[.int .u64 x] w fun e w'=>e = .returned (.int .i64 k)∧w=w':=by
 go_enter Tryz.func148,Tryz.ntmps148
 go_wp2_with (simp only [key])
 go_ret
 exact ⟨rfl,rfl⟩
theorem tz_any (x:Nat) (w:World) (h0:x≠0) (hx:x<18446744073709551616) (ht:Tab64 w) :
  Calls Tryz.prog 148 #[.int .u64 x] w fun e w'=>e = .returned (.int .i64 (Lib.ctz 64 x:Nat))∧w=w':=by
 obtain ⟨hlow,hk⟩:=Lib.lowest_bit 64 x h0 hx
 obtain ⟨hi,htab⟩:=Lib.deBruijn64_at _ hk
 have hcell:=ht _ hi
 rw [htab] at hcell
 exact tz_core x _ _ w (by simp;omega) (tz64_key x _ hx h0 hlow) hi hk hcell
theorem bits_or_nat (a b:Nat) (ha:a<18446744073709551616) (hb:b<18446744073709551616):bits .or .u64 (a:Int) (b:Int)=((a ||| b:Nat):Int):=by
 have hx:a ||| b<2 ^ 64:=Nat.or_lt_two_pow ha hb
 have h1:(BitVec.ofInt 64 (a:Int)).toNat=a:=by
  rw [BitVec.ofInt_natCast,BitVec.toNat_ofNat];exact Nat.mod_eq_of_lt (by omega)
 have h2:(BitVec.ofInt 64 (b:Int)).toNat=b:=by
  rw [BitVec.ofInt_natCast,BitVec.toNat_ofNat];exact Nat.mod_eq_of_lt (by omega)
 show IntKind.u64.wrap ((BitVec.ofInt 64 (a:Int) ||| BitVec.ofInt 64 (b:Int)).toNat:Int)=_
 rw [BitVec.toNat_or,h1,h2,IntKind.wrap_u64]
 omega
theorem mach_divisor (a b:Int) (w:World) (h0 : -9223372036854775808<a) (h1:a≤9223372036854775807) (h2 : -9223372036854775808<b) (h3:b≤9223372036854775807) (ht:Tab64 w) :
  Calls Tryz.prog 123 #[.int .i64 a,.int .i64 b] w fun e W'=>e = .returned (.int .i64 (Nat.gcd a.natAbs b.natAbs:Nat))∧w=W':=by
 have ca:=fun W=>mach_size a W h0 h1
 have cb:=fun W=>mach_size b W h2 h3
 have ha:a.natAbs<9223372036854775808:=by omega
 have hb:b.natAbs<9223372036854775808:=by omega
 have C:=Lib.hid (And.intro ca cb)
 have HT:=Lib.hid ht
 clear ca cb h0 h1 h2 h3 ht
 generalize a.natAbs=x at *
 generalize b.natAbs=y at *
 by_cases hz:x=0∨y=0
 ·have hg:((Nat.gcd x y:Nat):Int)=(x:Int)+(y:Int):=by
   rcases hz with h | h
   ·subst h;rw [Nat.gcd_zero_left];simp
   ·subst h;rw [Nat.gcd_zero_right];simp
  rw [hg]
  have hs1:(x:Int)+(y:Int)≤9223372036854775807:=by rcases hz with h | h <;> omega
  by_cases hx:x=0
  ·have hx':((x:Int)==0)=true:=by simp [hx]
   clear hg hz
   go_enter Tryz.func123,Tryz.ntmps123
   go_wp2_with fail
   refine (C.out.1 _).mono ?_
   rintro e w' ⟨rfl,rfl⟩
   go_wp2_with fail
   refine (C.out.2 _).mono ?_
   rintro e w' ⟨rfl,rfl⟩
   go_wp2
   go_ret
   exact ⟨ret_int (by omega),rfl⟩
  ·have hx':((x:Int)==0)=false:=by simp [hx]
   have hy':((y:Int)==0)=true:=by have:=hz.resolve_left hx;simp [this]
   clear hg hz
   go_enter Tryz.func123,Tryz.ntmps123
   go_wp2_with fail
   refine (C.out.1 _).mono ?_
   rintro e w' ⟨rfl,rfl⟩
   go_wp2_with fail
   refine (C.out.2 _).mono ?_
   rintro e w' ⟨rfl,rfl⟩
   go_wp2
   go_ret
   exact ⟨ret_int (by omega),rfl⟩
 ·have hx:x≠0:=fun h=>hz (.inl h)
  have hy:y≠0:=fun h=>hz (.inr h)
  have hx':((x:Int)==0)=false:=by simp [hx]
  have hy':((y:Int)==0)=false:=by simp [hy]
  have hor:bits BinOp.or IntKind.u64 (x:Int) (y:Int)=((x ||| y:Nat):Int):=bits_or_nat x y (by omega) (by omega)
  have ct:=fun W (h:Tab64 W)=>tz_any (x ||| y) W (fun q=>hx (Nat.or_eq_zero_iff.1 q).1) (Nat.or_lt_two_pow (n:=64) (by omega) (by omega)) h
  have cx:=fun W (h:Tab64 W)=>tz_any x W hx (by omega) h
  have hst:=bin_start hx hy (by omega) (by omega)
  have hmx:∃ m,x / 2 ^ Lib.ctz 64 x=2*m+1:=by obtain ⟨m,h,_⟩:=shr_odd hx (by omega);exact ⟨m,h⟩
  have HGL:=Lib.hid (show Nat.gcd x y<9223372036854775808 from Nat.lt_of_le_of_lt (Nat.gcd_le_left _ (by omega)) ha)
  have hle:x / 2 ^ Lib.ctz 64 x≤x:=Nat.div_le_self _ _
  have hcx:Lib.ctz 64 x<64:=by obtain ⟨_,_,h⟩:=ctz_spec hx (by omega);exact h
  have htt:Lib.ctz 64 (x ||| y)<64:=by obtain ⟨_,_,h⟩:=ctz_spec (x:=x ||| y) (fun q=>hx (Nat.or_eq_zero_iff.1 q).1) (Nat.or_lt_two_pow (n:=64) (by omega) (by omega));exact h
  have HT2:=Lib.hid (And.intro ct cx)
  clear ct cx hz hx hy
  generalize Lib.ctz 64 (x ||| y)=t at *
  have HST:=Lib.hid (And.intro hst (And.intro hmx (And.intro hle (And.intro hcx htt))))
  clear hst hmx hle hor hcx htt
  have HOR:=Lib.hid (bits_or_nat x y (by omega) (by omega))
  generalize x ||| y=xy at *
  go_enter Tryz.func123,Tryz.ntmps123
  go_wp2_with fail
  refine (C.out.1 _).mono ?_
  rintro e w' ⟨rfl,rfl⟩
  have HX:=Lib.hid (And.intro hx' (And.intro hy' (And.intro ha hb)))
  clear ha hb hx' hy'
  go_wp2_with fail
  refine (C.out.2 _).mono ?_
  rintro e w' ⟨rfl,rfl⟩
  clear C
  have hx':=HX.out.1
  have hy':=HX.out.2.1
  have hor:=HOR.out
  go_wp2_with fail
  refine (HT2.out.1 _ HT.out).mono ?_
  rintro e w' ⟨rfl,rfl⟩
  clear hor hx' hy'
  go_wp2_with fail
  refine (HT2.out.2 _ HT.out).mono ?_
  rintro e w' ⟨rfl,rfl⟩
  clear HT2
  generalize Lib.ctz 64 x=cx at *
  go_wp2_with fail
  have hst:=HST.out
  have hmin:min cx 64=cx:=by have:=hst.2.2.2.1;omega
  have e0:((x:Int) / 2 ^ cx)=((x / 2 ^ cx:Nat):Int):=by simp
  rw [hmin,e0]
  clear e0 hmin
  have HT64:=Lib.hid hst.2.2.2.2
  clear HST
  generalize hz:x / 2 ^ cx=z at *
  have HG:=Lib.hid hst.1
  obtain ⟨m,hm⟩:=hst.2.1
  have hzl:=hst.2.2.1
  have hx:=HX.out.2.2.1
  have hyl:=HX.out.2.2.2
  clear hst hz HX
  have HZ:=Lib.hid (show z % 2=1∧z<9223372036854775808∧y<9223372036854775808 by omega)
  clear hx hyl hzl hm m
  go_loop [5,6] (fun u v=>∃ X Y:Nat,u = .int .u64 X∧v = .int .u64 Y∧Hid (X % 2=1∧X<9223372036854775808∧Y<9223372036854775808)∧Hid (Nat.gcd X Y=Nat.gcd z y)) (fun u v=>(intOf u+intOf v).toNat)
  case atStart=>exact ⟨z,y,rfl,rfl,HZ,rfl⟩
  case round =>
   obtain ⟨X,Y,rfl,rfl,hb,hg⟩:=hrel
   by_cases hY:Y=0
   ·have hY':((Y:Int)==0)=true:=by simp [hY]
    have hgg:=hg.out
    rw [hY,Nat.gcd_zero_right] at hgg
    have hfin:X*2 ^ t=Nat.gcd x y:=by rw [HG.out,←hgg]
    have hlt:X*2 ^ t<9223372036854775808:=by
     rw [hfin];exact HGL.out
    have HF:=Lib.hid (And.intro hfin hlt)
    clear hfin hlt hgg hY
    go_wp2
    go_ret
    refine ⟨ret_int ?_,rfl⟩
    have h1:=HF.out.1
    have h2:=HF.out.2
    have hm:min t 64=t:=by have:=HT64.out;omega
    rw [hm,show ((X:Int)*2 ^ t)=((X*2 ^ t:Nat):Int) by simp,←h1]
    generalize X*2 ^ t=g at *
    rw [IntKind.wrap_u64]
    unfold wrap64
    omega
   ·have hY':((Y:Int)==0)=false:=by simp [hY]
    have hr:=bin_round hb.out.1 hY (by have:=hb.out.2.2;omega)
    have ct:=tz_any Y w hY (by have:=hb.out.2.2;omega) HT.out
    have hc64:Lib.ctz 64 Y<64:=by obtain ⟨_,_,h⟩:=ctz_spec hY (by have:=hb.out.2.2;omega);exact h
    have HR:=Lib.hid (And.intro hr (And.intro ct hc64))
    clear hr ct hc64
    generalize Lib.ctz 64 Y=cy at *
    go_wp2_with fail
    refine HR.out.2.1.mono ?_
    rintro e w' ⟨rfl,rfl⟩
    obtain ⟨⟨r1,r2,r3,r4⟩,_,hc64⟩:=HR.out
    obtain ⟨Z,hZ⟩:∃ Z,Y / 2 ^ cy=Z:=⟨_,rfl⟩
    have e1:(Y:Int) / 2 ^ min cy 64=(Z:Int):=by rw [show min cy 64=cy by omega,←hZ];simp
    rw [hZ] at r1 r2 r3 r4
    have hX1:=hb.out.2.1
    have hY1:=hb.out.2.2
    have hX0:=hb.out.1
    by_cases hxz:X≤Z
    ·rw [Nat.min_eq_left hxz] at r1 r2 r3
     rw [Nat.max_eq_right hxz] at r1 r3
     have emin:min (X:Int) (Z:Int)=X:=by omega
     have emax:max (X:Int) (Z:Int)=Z:=by omega
     have HQ:=Lib.hid (And.intro (r1.trans hg.out) r3)
     have HW:=Lib.hid (show X % 2=1∧X<9223372036854775808∧Z - X<9223372036854775808 by omega)
     have esub:IntKind.u64.wrap ((Z:Int) - (X:Int))=((Z - X:Nat):Int):=by rw [IntKind.wrap_u64];omega
     have HS:=Lib.hid hxz
     clear r1 r2 r3 r4 hZ HR hb hg hX0 hX1 hY1 hc64 hxz
     go_wp2
     go_round
     case rel=>exact ⟨X,Z - X,rfl,by go_num,HW,HQ.out.1⟩
     case measure=>have:=HQ.out.2;have:=HS.out;simp [intOf];omega
    ·have hxz:Z≤X:=by omega
     rw [Nat.min_eq_right hxz] at r1 r2 r3
     rw [Nat.max_eq_left hxz] at r1 r3
     have emin:min (X:Int) (Z:Int)=Z:=by omega
     have emax:max (X:Int) (Z:Int)=X:=by omega
     have HQ:=Lib.hid (And.intro (r1.trans hg.out) r3)
     have HW:=Lib.hid (show Z % 2=1∧Z<9223372036854775808∧X - Z<9223372036854775808 by omega)
     have esub:IntKind.u64.wrap ((X:Int) - (Z:Int))=((X - Z:Nat):Int):=by rw [IntKind.wrap_u64];omega
     have HS:=Lib.hid hxz
     clear r1 r2 r3 r4 hZ HR hb hg hX0 hX1 hY1 hc64 hxz
     go_wp2
     go_round
     case rel=>exact ⟨Z,X - Z,rfl,by go_num,HW,HQ.out.1⟩
     case measure=>have:=HQ.out.2;have:=HS.out;simp [intOf];omega
structure RowR (B:Nat) (W:World) (l:List UInt8) (g cap:Nat):Prop where
 base:B≤g
 lt:g<W.heap.size
 le:l.length≤cap
 max:cap≤maxLen
 there:∀ j,j<cap→(W.cell? ⟨g,j,none⟩).isSome=true∧W.frozen? ⟨g,j,none⟩=false
 holds:∀ j u,(Lib.byteCells l)[j]? = some u→W.cell? ⟨g,j,none⟩=some u
theorem RowR.next {B:Nat} {W W':World} {l:List UInt8} {g cap:Nat} (h:RowR B W l g cap) (b:Below W.heap.size W W'):RowR B W' l g cap :=
 ⟨h.base,Nat.lt_of_lt_of_le h.lt b.size,h.le,h.max,fun j hj=>⟨by rw [b.cell (p:=⟨g,j,none⟩) h.lt];exact (h.there j hj).1,(b.frozen (p:=⟨g,j,none⟩) h.lt).trans (h.there j hj).2⟩,
  fun j u hj=>(b.cell (p:=⟨g,j,none⟩) h.lt).trans (h.holds j u hj)⟩
theorem below_setCells (B g:Nat) (hB:B≤g):∀ (vs:List Value) (o:Nat) (w:World),Below B w (w.setCells g o vs)
 | [],_,w=>Below.refl _ w
 | v::r,o,w=>((Below.refl B w).setCell (p:=⟨g,o,none⟩) hB v).trans (below_setCells B g hB r (o+1) _)
theorem byteCells_len (l:List UInt8):(Lib.byteCells l).length=l.length:=by simp [Lib.byteCells]
theorem addr_add (g j:Nat):(⟨g,0,none⟩:Addr).add j=⟨g,j,none⟩:=by unfold Addr.add;split <;> simp_all
theorem frozen_no {W:World} {g j:Nat} {cur:Array Value} {t:TypeId} (h:W.heap[g]? = some (.cells cur t (0,0))):W.frozen? ⟨g,j,none⟩=false:=by unfold World.frozen?; simp only [h];simp
theorem run_append_rowR {B:Nat} {W:World} {l:List UInt8} {g cap:Nat} (h:RowR B W l g cap) (t tx ty e:TypeId) (i:TypeInfo) (ht:Tryz.prog.underlying t=some (.slice e)) (hi:Tryz.prog.info? e=some i) (hz:i.zero=some (.int .u8 0)) (hsize:i.size=1) (hby:i.bytes=1)
  (x:Value) (m:List UInt8) (hs:Src Tryz.prog 1 tx x m.length (Lib.byteCells m) W) (hb:l.length+m.length≤140737488355328) (hB:B≤W.heap.size) :
  ∃ W' g' cap',(Builtin.append_ #[t,tx] ty #[.slice (some ⟨g,0,none⟩) l.length cap,x]).run Tryz.prog W = .ok (.slice (some ⟨g',0,none⟩) (l.length+m.length) cap') W'∧RowR B W' (l++m) g' cap'∧Below B W W':=by
 obtain ⟨hbase,hlt,hle,hmax,hth,hh⟩:=h
 rw [←hsize] at hs
 have hml:=byteCells_len m
 have hll:=byteCells_len l
 by_cases hroom:l.length+m.length≤cap
 ·have hr:=run_append_room_src (P:=Tryz.prog) W t tx ty e i ht hi g 0 l.length cap x m.length (Lib.byteCells m) hs hroom
   (fun j hj=>by rw [hsize,Nat.mul_one,Nat.zero_add];exact (hth (l.length+j) (by omega)).1) (fun j hj=>by rw [hsize,Nat.mul_one,Nat.zero_add];exact (hth (l.length+j) (by omega)).2)
  rw [hsize,Nat.mul_one,Nat.zero_add] at hr
  have hbel:=below_setCells B g hbase (Lib.byteCells m) l.length W
  refine ⟨_,g,cap,hr,⟨hbase,Nat.lt_of_lt_of_le hlt hbel.size,by rw [List.length_append];exact hroom,hmax,fun j hj=>⟨World.isSome_setCells g _ _ _ _ (hth j hj).1,(World.frozen?_setCells g _ _ _ _).trans (hth j hj).2⟩,fun j u hj => ?_⟩,hbel⟩
  rw [Lib.byteCells_append] at hj
  by_cases hjl:j<(Lib.byteCells l).length
  ·rw [List.getElem?_append_left hjl] at hj
   rw [World.cell?_setCells_out g _ _ _ _ (fun _ _ => .inl (by show j<l.length;omega))]
   exact hh j u hj
  ·rw [List.getElem?_append_right (by omega)] at hj
   obtain ⟨hj2,hj3⟩:=List.getElem?_eq_some_iff.1 hj
   have:=World.cell?_setCells_in g (Lib.byteCells m) l.length W (fun k hk=>(hth (l.length+k) (by omega)).1) (j - (Lib.byteCells l).length) hj2
   rw [show l.length+(j - (Lib.byteCells l).length)=j by omega,hj3] at this
   exact this
 ·have hold:(Builtin.firstCells i.size l.length (.slice (some ⟨g,0,none⟩) l.length cap)).run Tryz.prog W.drew = .ok (Lib.byteCells l).toArray W.drew :=
   run_firstCells_some (P:=Tryz.prog) W.drew i.size l.length ⟨g,0,none⟩ l.length cap (Lib.byteCells l) (by rw [hsize,Nat.mul_one];exact hll) (fun j u hj=>by rw [addr_add];exact hh j u hj)
  have hr:=run_append_grow_src (P:=Tryz.prog) W t tx ty e i (.int .u8 0) ht hi hz (some ⟨g,0,none⟩) l.length cap (Lib.byteCells l) hold x m.length (Lib.byteCells m) hs (by omega) (by omega) (growslice_fits (by omega) (by rw [hby];omega))
  have hge:=grownCap_ge W (l.length+m.length) cap e
  have hcm:grownCap W (l.length+m.length) cap e≤maxLen:=grownCap_le_maxLen W _ cap e (by unfold maxLen;omega)
  generalize grownCap W (l.length+m.length) cap e=cap' at *
  have hnew:(W.drew.alloc (.cells ((Lib.byteCells l++Lib.byteCells m).toArray++Builtin.zeroCells (Value.int .u8 0).cells (cap' - (l.length+m.length))) e)).heap[W.heap.size]? = some (.cells ((Lib.byteCells l++Lib.byteCells m).toArray++Builtin.zeroCells (Value.int .u8 0).cells (cap' - (l.length+m.length))) e):=heap_alloc_new W.drew _
  have hbel:Below B W (W.drew.alloc (.cells ((Lib.byteCells l++Lib.byteCells m).toArray++Builtin.zeroCells (Value.int .u8 0).cells (cap' - (l.length+m.length))) e)):=(Below.refl B W).drew.alloc hB _
  have hcs:((Lib.byteCells l++Lib.byteCells m).toArray++Builtin.zeroCells (Value.int .u8 0).cells (cap' - (l.length+m.length))).size=cap':=by
   rw [Array.size_append,size_zeroCells,List.size_toArray,List.length_append,hll,hml,show (Value.int .u8 0).cells.size=1 from rfl];omega
  refine ⟨_,W.heap.size,cap',hr,⟨hB,by simp,by rw [List.length_append];exact hge,hcm,fun j hj=>⟨?_,?_⟩,fun j u hj => ?_⟩,hbel⟩
  ·rw [cell_of_row _ _ j _ _ _ hnew,Array.getElem?_eq_getElem (by rw [hcs];exact hj)];rfl
  ·exact frozen_no hnew
  ·rw [cell_of_row _ _ j _ _ _ hnew]
   rw [Lib.byteCells_append] at hj
   obtain ⟨hj2,hj3⟩:=List.getElem?_eq_some_iff.1 hj
   rw [Array.getElem?_append_left (by simpa using hj2)]
   simpa using hj
theorem wpList_append_rowR {W:World} {ops:Array Oper} {rest:List Oper} {o:Oper} {a:Act} {Q:Exit→Act→World→Prop} (hgd:o.guard=none) (s x:Operand) (t tx:TypeId)
  (ho:o.op = .call { callee := .builtin .append,args := #[s,x],argTypes := #[t,tx] }) (e:TypeId) (i:TypeInfo) (ht:Tryz.prog.underlying t=some (.slice e)) (hi:Tryz.prog.info? e=some i) (hz:i.zero=some (.int .u8 0)) (hsize:i.size=1) (hby:i.bytes=1)
  {B:Nat} {l:List UInt8} {g cap n:Nat} (hn:n=l.length) (hv:a.eval s = .slice (some ⟨g,0,none⟩) n cap) (h:RowR B W l g cap) (xv:Value) (m:List UInt8) (hx:a.eval x=xv) (hs:Src Tryz.prog 1 tx xv m.length (Lib.byteCells m) W) (hb:l.length+m.length≤140737488355328) (hB:B≤W.heap.size)
  (hK:∀ W' g' cap',RowR B W' (l++m) g' cap'→Below B W W'→wpList Tryz.prog ops Q rest (a.put o.dst (.slice (some ⟨g',0,none⟩) (n+m.length) cap')) W'):wpList Tryz.prog ops Q (o::rest) a W:=by
 subst hn
 refine wpList_plain hgd fun K hK' => ?_
 obtain ⟨w',g',c',hrun,h1,h2⟩:=run_append_rowR h t tx o.type e i ht hi hz hsize hby xv m hs hb hB
 unfold Oper.wp
 simp [execOp,ho,resolve,invoke,builtin,hv,hx,hrun,Result.andThen]
 exact hK' _ _ (hK w' g' c' h1 h2)
theorem step_append_rowR {W:World} {ops:Array Oper} {o:Oper} {a:Act} {K:Act→World→Prop} {Q:Exit→Act→World→Prop} {E:Prop} (hgd:o.guard=none) (s x:Operand) (t tx:TypeId)
  (ho:o.op = .call { callee := .builtin .append,args := #[s,x],argTypes := #[t,tx] }) (e:TypeId) (i:TypeInfo) (ht:Tryz.prog.underlying t=some (.slice e)) (hi:Tryz.prog.info? e=some i) (hz:i.zero=some (.int .u8 0)) (hsize:i.size=1) (hby:i.bytes=1)
  {B:Nat} {l:List UInt8} {g cap n:Nat} (hn:n=l.length) (hv:a.eval s = .slice (some ⟨g,0,none⟩) n cap) (h:RowR B W l g cap) (xv:Value) (m:List UInt8) (hx:a.eval x=xv) (hs:Src Tryz.prog 1 tx xv m.length (Lib.byteCells m) W) (hb:l.length+m.length≤140737488355328) (hB:B≤W.heap.size)
  (hK:∀ W' g' cap',RowR B W' (l++m) g' cap'→Below B W W'→K (a.put o.dst (.slice (some ⟨g',0,none⟩) (n+m.length) cap')) W'):if Region.wanted o (yielded ops a.tmps)=true then Oper.wp Tryz.prog o a W K Q else E:=by
 have hw:Region.wanted o (yielded ops a.tmps)=true:=by simp [Region.wanted,hgd]
 rw [if_pos hw]
 subst hn
 obtain ⟨w',g',c',hrun,h1,h2⟩:=run_append_rowR h t tx o.type e i ht hi hz hsize hby xv m hs hb hB
 unfold Oper.wp execOp
 simp only [ho,resolve,invoke,builtin,Sem.run_bind,Sem.run_pure,Result.andThen_ok,List.map_toArray,List.map_cons,List.map_nil,hv,hx,hrun]
 exact hK w' g' c' h1 h2
theorem RowR.new {W:World} {cur:Array Value} {t:TypeId} {g n:Nat} (h:W.heap[g]? = some (.cells cur t (0,0))) (hn:cur.size=n) (hm:n≤maxLen):RowR g W [] g n:=by
 subst hn
 exact ⟨Nat.le_refl _,(Array.getElem?_eq_some_iff.1 h).1,Nat.zero_le _,hm,fun j hj=>⟨by rw [cell_of_row _ _ j _ _ _ h,Array.getElem?_eq_getElem hj];rfl,frozen_no h⟩,fun j u hj=>by simp [Lib.byteCells] at hj⟩
theorem src_bytes {W:World} {tx e':TypeId} (hk:Tryz.prog.underlying tx=some (.slice e')) (g:Nat) (c:Nat) (m:List UInt8) (n:Nat) (hn:n=m.length) (h:∀ j u,(Lib.byteCells m)[j]? = some u→W.cell? ⟨g,j,none⟩=some u):Src Tryz.prog 1 tx (.slice (some ⟨g,0,none⟩) n c) m.length (Lib.byteCells m) W:=by
 subst hn
 exact Src.ofSlice W hk ⟨g,0,none⟩ m.length c (Lib.byteCells m) (by rw [byteCells_len,Nat.mul_one]) (fun j u hj=>by rw [addr_add];exact h j u hj) (Lib.byteCells_one _)
theorem src_string {W:World} {tx:TypeId} (hk:Tryz.prog.underlying tx=some .string) (s:ByteArray):Src Tryz.prog 1 tx (.string s) s.data.toList.length (Lib.byteCells s.data.toList) W:=Src.ofString W hk s
def LB:Option Int→ByteArray
 | some z=>strB z
 | none=>⟨#[]⟩
def LE:Option Int→Int
 | some _=>0
 | none=>4
def mkL (z:Int):Option Int:=if short z then some z else none
def Lwf (o:Option Int):Prop:=∀ z,o=some z→short z
def opL (f:Int→Int→Int) (o p:Option Int):Option Int:=match o,p with
 | some x,some y=>mkL (f x y)
 | _,_=>none
theorem mkL_wf (z:Int):Lwf (mkL z):=fun y h=>by
 unfold mkL at h
 split at h
 ·rw [←Option.some.inj h];assumption
 ·cases h
theorem opL_wf (f:Int→Int→Int) (o p:Option Int):Lwf (opL f o p):=by
 unfold opL
 split
 ·exact mkL_wf _
 ·intro z h;cases h
theorem opL_none (f:Int→Int→Int) (o:Option Int):opL f o none=none:=by unfold opL;split <;> first | rfl | contradiction
theorem some_wf {z:Int} (h:short z):Lwf (some z):=fun y hy=>by rw [←Option.some.inj hy];exact h
theorem mkL_some {z:Int} (h:short z):mkL z=some z:=if_pos h
theorem resB_mk (z:Int):resB z=LB (mkL z):=by
 unfold resB mkL
 by_cases h:short z
 ·rw [if_pos (show z.natAbs<lim from h),if_pos h];rfl
 ·rw [if_neg (show ¬ z.natAbs<lim from h),if_neg h];rfl
theorem resE_mk (z:Int):resE z=LE (mkL z):=by
 unfold resE mkL
 by_cases h:short z
 ·rw [if_pos (show z.natAbs<lim from h),if_pos h];rfl
 ·rw [if_neg (show ¬ z.natAbs<lim from h),if_neg h];rfl
theorem Add_res (x y:Int) (w:World) (hx:short x) (hy:short y) (ht:Tab w) :
  Calls Tryz.prog 128 #[.string (strB x),.string (strB y)] w fun e W'=>e = .returned (.tuple #[.string (LB (mkL (x+y))),.int .i64 (LE (mkL (x+y)))])∧Below w.heap.size w W':=by
 have c:=Add_any (strB x) (strB y) w (by have:=strB_size hx;unfold maxLen;omega) (by have:=strB_size hy;unfold maxLen;omega) ht
 rwa [strB_chk2 hx hy,strB_val,strB_val,outB_ok,outE_ok,resB_mk,resE_mk] at c
theorem Sub_res (x y:Int) (w:World) (hx:short x) (hy:short y) (ht:Tab w) :
  Calls Tryz.prog 314 #[.string (strB x),.string (strB y)] w fun e W'=>e = .returned (.tuple #[.string (LB (mkL (x - y))),.int .i64 (LE (mkL (x - y)))])∧Below w.heap.size w W':=by
 have c:=Sub_any (strB x) (strB y) w (by have:=strB_size hx;unfold maxLen;omega) (by have:=strB_size hy;unfold maxLen;omega) ht
 rwa [strB_chk2 hx hy,strB_val,strB_val,outB_ok,outE_ok,resB_mk,resE_mk] at c
theorem MulL_res (x y:Int) (w:World) (hx:short x) (hy:short y) (ht:Tab w) :
  Calls Tryz.prog 162 #[.string (strB x),.string (strB y)] w fun e W'=>e = .returned (.tuple #[.string (LB (mkL (x*y))),.int .i64 (LE (mkL (x*y)))])∧Below w.heap.size w W':=by
 have c:=Mul_any (strB x) (strB y) w (by have:=strB_size hx;unfold maxLen;omega) (by have:=strB_size hy;unfold maxLen;omega) ht
 rwa [strB_chk2 hx hy,strB_val,strB_val,outB_ok,outE_ok,resB_mk,resE_mk] at c
theorem with_any (o p r:Option Int) (k:Nat) (w:World) (eg:∀ args W,(callFunc k args).run Tryz.prog W = .ok (.enter k args) W) (h0:o=none→r=none) (h1:p=none→r=none)
  (H:∀ x y,o=some x→p=some y→CqB w k #[.string (strB x),.string (strB y)] (.tuple #[.string (LB r),.int .i64 (LE r)])) :
  Calls Tryz.prog 126 #[.agg #[.string (LB o),.int .i64 (LE o)],.agg #[.string (LB p),.int .i64 (LE p)],.func (.func k) #[] #[]] w fun e W'=>e = .returned (.agg #[.string (LB r),.int .i64 (LE r)])∧Below w.heap.size w W':=by
 cases o with
 | none =>
  rw [h0 rfl]
  clear H
  generalize LB p=pb
  generalize LE p=pe
  simp only [LB,LE]
  go_enter Tryz.func126,Tryz.ntmps126
  go_wp2
  refine bodyPost_ret (v := .agg #[.string ⟨#[]⟩,.int .i64 4]) (by simp [results,Tryz.results126,go_sem]) rfl ?_
  exact ⟨rfl,by go_grown⟩
 | some x =>
  cases p with
  | none =>
   rw [h1 rfl]
   clear H
   simp only [LB,LE]
   generalize strB x=sx
   go_enter Tryz.func126,Tryz.ntmps126
   go_wp2
   refine bodyPost_ret (v := .agg #[.string ⟨#[]⟩,.int .i64 4]) (by simp [results,Tryz.results126,go_sem]) rfl ?_
   exact ⟨rfl,by go_grown⟩
  | some y =>
   have C:=Lib.hid (H x y rfl rfl)
   clear H h0 h1
   generalize LB r=rb at *
   generalize LE r=re at *
   simp only [LB,LE]
   generalize strB x=sx at *
   generalize strB y=sy at *
   go_enter Tryz.func126,Tryz.ntmps126
   go_wp2_with fail
   have hbx:=boxes_new w (.string sx) (.int .i64 0) (.string sy) (.int .i64 0) (.string ⟨#[]⟩) (.int .i64 0) 66
   generalize ((w.alloc (.cells #[.string sx,.int .i64 0] 66)).alloc (.cells #[.string sy,.int .i64 0] 66)).alloc (.cells #[.string ⟨#[]⟩,.int .i64 0] 66)=W0 at *
   have c:=C.out W0 hbx.below
   have CC:=Lib.hid c
   clear c C
   generalize hk:w.heap.size=k at *
   have HK:=Lib.hid hk;clear hk
   have HB:=Lib.hid hbx
   clear hbx
   refine CC.out.mono ?_
   rintro e w1 ⟨rfl,b⟩
   have HB1:=Lib.hid (HB.out.next b)
   clear b CC HB
   obtain ⟨_,_,_,_,c5,c6,f5,f6,_,_⟩:=HB1.out
   obtain ⟨g5,g6⟩:=two_back c5 c6 (.string rb) (.int .i64 re)
   go_wp2
   refine bodyPost_ret (v := .agg #[.string rb,.int .i64 re]) (by simp [results,Tryz.results126,go_sem,g5,g6]) rfl ?_
   refine ⟨rfl,?_⟩
   rw [HK.out]
   exact ((HB1.out.below).setCell (p:=⟨k+1+1,0,none⟩) (by show k≤k+1+1;omega) _).setCell (p:=⟨k+1+1,1,none⟩) (by show k≤k+1+1;omega) _
theorem long_plus (o p:Option Int) (w:World) (ho:Lwf o) (hp:Lwf p) (ht:Tab w) :
  Calls Tryz.prog 308 #[.agg #[.string (LB o),.int .i64 (LE o)],.agg #[.string (LB p),.int .i64 (LE p)]] w fun e W'=>e = .returned (.agg #[.string (LB (opL (· + ·) o p)),.int .i64 (LE (opL (· + ·) o p))])∧Below w.heap.size w W':=by
 have c:=fun W (hW:Below w.heap.size w W)=>with_any o p (opL (· + ·) o p) 128 W (enters_of Tryz.func128 (by kernel_rfl) rfl) (fun h=>by rw [h];rfl) (fun h=>by rw [h];exact opL_none _ _)
  (fun x y hx hy W' hW'=>by
   have hb:=hW.trans (hW'.mono hW.size)
   subst hx;subst hy
   exact Add_res x y W' (ho x rfl) (hp y rfl) (ht.next hb))
 have C:=Lib.hid c;clear c ho hp ht
 generalize opL (· + ·) o p=r at *
 generalize LB o=ob at *
 generalize LE o=oe at *
 generalize LB p=pb at *
 generalize LE p=pe at *
 generalize LB r=rb at *
 generalize LE r=re at *
 go_enter Tryz.func308,Tryz.ntmps308
 go_wp2_with fail
 have hbx:=boxes_new w (.string ob) (.int .i64 oe) (.string pb) (.int .i64 pe) (.string ⟨#[]⟩) (.int .i64 0) 66
 generalize ((w.alloc (.cells #[.string ob,.int .i64 oe] 66)).alloc (.cells #[.string pb,.int .i64 pe] 66)).alloc (.cells #[.string ⟨#[]⟩,.int .i64 0] 66)=W0 at *
 have CC:=Lib.hid (C.out W0 hbx.below)
 clear C
 generalize hk:w.heap.size=k at *
 have HK:=Lib.hid hk;clear hk
 have HB:=Lib.hid hbx
 clear hbx
 refine CC.out.mono ?_
 rintro e w1 ⟨rfl,b⟩
 have HB1:=Lib.hid (HB.out.next b)
 clear b CC HB
 obtain ⟨_,_,_,_,c5,c6,f5,f6,_,_⟩:=HB1.out
 obtain ⟨g5,g6⟩:=two_back c5 c6 (.string rb) (.int .i64 re)
 go_wp2
 refine bodyPost_ret (v := .agg #[.string rb,.int .i64 re]) (by simp [results,Tryz.results308,go_sem,g5,g6]) rfl ?_
 refine ⟨rfl,?_⟩
 rw [HK.out]
 exact ((HB1.out.below).setCell (p:=⟨k+1+1,0,none⟩) (by show k≤k+1+1;omega) _).setCell (p:=⟨k+1+1,1,none⟩) (by show k≤k+1+1;omega) _
theorem long_minus (o p:Option Int) (w:World) (ho:Lwf o) (hp:Lwf p) (ht:Tab w) :
  Calls Tryz.prog 311 #[.agg #[.string (LB o),.int .i64 (LE o)],.agg #[.string (LB p),.int .i64 (LE p)]] w fun e W'=>e = .returned (.agg #[.string (LB (opL (· - ·) o p)),.int .i64 (LE (opL (· - ·) o p))])∧Below w.heap.size w W':=by
 have c:=fun W (hW:Below w.heap.size w W)=>with_any o p (opL (· - ·) o p) 314 W (enters_of Tryz.func314 (by kernel_rfl) rfl) (fun h=>by rw [h];rfl) (fun h=>by rw [h];exact opL_none _ _)
  (fun x y hx hy W' hW'=>by
   have hb:=hW.trans (hW'.mono hW.size)
   subst hx;subst hy
   exact Sub_res x y W' (ho x rfl) (hp y rfl) (ht.next hb))
 have C:=Lib.hid c;clear c ho hp ht
 generalize opL (· - ·) o p=r at *
 generalize LB o=ob at *
 generalize LE o=oe at *
 generalize LB p=pb at *
 generalize LE p=pe at *
 generalize LB r=rb at *
 generalize LE r=re at *
 go_enter Tryz.func311,Tryz.ntmps311
 go_wp2_with fail
 have hbx:=boxes_new w (.string ob) (.int .i64 oe) (.string pb) (.int .i64 pe) (.string ⟨#[]⟩) (.int .i64 0) 66
 generalize ((w.alloc (.cells #[.string ob,.int .i64 oe] 66)).alloc (.cells #[.string pb,.int .i64 pe] 66)).alloc (.cells #[.string ⟨#[]⟩,.int .i64 0] 66)=W0 at *
 have CC:=Lib.hid (C.out W0 hbx.below)
 clear C
 generalize hk:w.heap.size=k at *
 have HK:=Lib.hid hk;clear hk
 have HB:=Lib.hid hbx
 clear hbx
 refine CC.out.mono ?_
 rintro e w1 ⟨rfl,b⟩
 have HB1:=Lib.hid (HB.out.next b)
 clear b CC HB
 obtain ⟨_,_,_,_,c5,c6,f5,f6,_,_⟩:=HB1.out
 obtain ⟨g5,g6⟩:=two_back c5 c6 (.string rb) (.int .i64 re)
 go_wp2
 refine bodyPost_ret (v := .agg #[.string rb,.int .i64 re]) (by simp [results,Tryz.results311,go_sem,g5,g6]) rfl ?_
 refine ⟨rfl,?_⟩
 rw [HK.out]
 exact ((HB1.out.below).setCell (p:=⟨k+1+1,0,none⟩) (by show k≤k+1+1;omega) _).setCell (p:=⟨k+1+1,1,none⟩) (by show k≤k+1+1;omega) _
theorem long_times (o p:Option Int) (w:World) (ho:Lwf o) (hp:Lwf p) (ht:Tab w) :
  Calls Tryz.prog 309 #[.agg #[.string (LB o),.int .i64 (LE o)],.agg #[.string (LB p),.int .i64 (LE p)]] w fun e W'=>e = .returned (.agg #[.string (LB (opL (· * ·) o p)),.int .i64 (LE (opL (· * ·) o p))])∧Below w.heap.size w W':=by
 have c:=fun W (hW:Below w.heap.size w W)=>with_any o p (opL (· * ·) o p) 162 W (enters_of Tryz.func162 (by kernel_rfl) rfl) (fun h=>by rw [h];rfl) (fun h=>by rw [h];exact opL_none _ _)
  (fun x y hx hy W' hW'=>by
   have hb:=hW.trans (hW'.mono hW.size)
   subst hx;subst hy
   exact MulL_res x y W' (ho x rfl) (hp y rfl) (ht.next hb))
 have C:=Lib.hid c;clear c ho hp ht
 generalize opL (· * ·) o p=r at *
 generalize LB o=ob at *
 generalize LE o=oe at *
 generalize LB p=pb at *
 generalize LE p=pe at *
 generalize LB r=rb at *
 generalize LE r=re at *
 go_enter Tryz.func309,Tryz.ntmps309
 go_wp2_with fail
 have hbx:=boxes_new w (.string ob) (.int .i64 oe) (.string pb) (.int .i64 pe) (.string ⟨#[]⟩) (.int .i64 0) 66
 generalize ((w.alloc (.cells #[.string ob,.int .i64 oe] 66)).alloc (.cells #[.string pb,.int .i64 pe] 66)).alloc (.cells #[.string ⟨#[]⟩,.int .i64 0] 66)=W0 at *
 have CC:=Lib.hid (C.out W0 hbx.below)
 clear C
 generalize hk:w.heap.size=k at *
 have HK:=Lib.hid hk;clear hk
 have HB:=Lib.hid hbx
 clear hbx
 refine CC.out.mono ?_
 rintro e w1 ⟨rfl,b⟩
 have HB1:=Lib.hid (HB.out.next b)
 clear b CC HB
 obtain ⟨_,_,_,_,c5,c6,f5,f6,_,_⟩:=HB1.out
 obtain ⟨g5,g6⟩:=two_back c5 c6 (.string rb) (.int .i64 re)
 go_wp2
 refine bodyPost_ret (v := .agg #[.string rb,.int .i64 re]) (by simp [results,Tryz.results309,go_sem,g5,g6]) rfl ?_
 refine ⟨rfl,?_⟩
 rw [HK.out]
 exact ((HB1.out.below).setCell (p:=⟨k+1+1,0,none⟩) (by show k≤k+1+1;omega) _).setCell (p:=⟨k+1+1,1,none⟩) (by show k≤k+1+1;omega) _
def gcdZ (x y:Int):Int:=(Nat.gcd x.natAbs y.natAbs:Nat)
theorem gcdZ_short {x y:Int} (hx:short x) (hy:short y):short (gcdZ x y):=by
 show Int.natAbs _<lim
 unfold gcdZ
 rw [Int.natAbs_natCast]
 by_cases h0:x.natAbs=0
 ·rw [h0,Nat.gcd_zero_left];exact hy
 ·exact Nat.lt_of_le_of_lt (Nat.gcd_le_left _ (by omega)) hx
theorem GcdL_res (x y:Int) (w:World) (hx:short x) (hy:short y) (ht:Tab w) :
  Calls Tryz.prog 127 #[.string (strB x),.string (strB y)] w fun e W'=>e = .returned (.tuple #[.string (LB (mkL (gcdZ x y))),.int .i64 (LE (mkL (gcdZ x y)))])∧Below w.heap.size w W':=by
 rw [mkL_some (gcdZ_short hx hy)]
 exact Gcd_strs2 x y w hx hy ht
theorem fdiv_short {x y:Int} (hx:short x) (h0:y≠0):short (x.fdiv y):=Nat.lt_of_le_of_lt (fdiv_abs (x:=x) h0).1 hx
theorem quot_res (x y:Int) (w:World) (hx:short x) (hy:short y) (h0:y≠0) (ht:Tab w) :
  Calls Tryz.prog 312 #[.string (strB x),.string (strB y)] w fun e W'=>e = .returned (.tuple #[.string (LB (mkL (x.fdiv y))),.int .i64 (LE (mkL (x.fdiv y)))])∧Below w.heap.size w W':=by
 rw [mkL_some (fdiv_short hx h0)]
 have C:=Lib.hid (Divide_strs x y w hx hy h0 ht)
 clear hx hy h0 ht
 show Calls _ _ _ _ (fun e W'=>e = .returned (.tuple #[.string (strB (x.fdiv y)),.int .i64 0])∧_)
 generalize strB (x.fdiv y)=q at *
 generalize strB (x.fmod y)=r at *
 generalize strB x=sx at *
 generalize strB y=sy at *
 go_enter Tryz.func312,Tryz.ntmps312
 go_wp2_with fail
 refine C.out.mono ?_
 rintro e w' ⟨rfl,b⟩
 have B:=Lib.hid b;clear b C
 go_wp2
 go_ret2
 exact ⟨rfl,B.out⟩
theorem long_divisor (o p:Option Int) (w:World) (ho:Lwf o) (hp:Lwf p) (ht:Tab w) :
  Calls Tryz.prog 100 #[.agg #[.string (LB o),.int .i64 (LE o)],.agg #[.string (LB p),.int .i64 (LE p)]] w fun e W'=>e = .returned (.agg #[.string (LB (opL (gcdZ) o p)),.int .i64 (LE (opL (gcdZ) o p))])∧Below w.heap.size w W':=by
 have c:=fun W (hW:Below w.heap.size w W)=>with_any o p (opL (gcdZ) o p) 127 W (enters_of Tryz.func127 (by kernel_rfl) rfl) (fun h=>by rw [h];rfl) (fun h=>by rw [h];exact opL_none _ _)
  (fun x y hx hy W' hW'=>by
   have hb:=hW.trans (hW'.mono hW.size)
   subst hx;subst hy
   exact GcdL_res x y W' (ho x rfl) (hp y rfl) (ht.next hb))
 have C:=Lib.hid c;clear c ho hp ht
 generalize opL (gcdZ) o p=r at *
 generalize LB o=ob at *
 generalize LE o=oe at *
 generalize LB p=pb at *
 generalize LE p=pe at *
 generalize LB r=rb at *
 generalize LE r=re at *
 go_enter Tryz.func100,Tryz.ntmps100
 go_wp2_with fail
 have hbx:=boxes_new w (.string ob) (.int .i64 oe) (.string pb) (.int .i64 pe) (.string ⟨#[]⟩) (.int .i64 0) 66
 generalize ((w.alloc (.cells #[.string ob,.int .i64 oe] 66)).alloc (.cells #[.string pb,.int .i64 pe] 66)).alloc (.cells #[.string ⟨#[]⟩,.int .i64 0] 66)=W0 at *
 have CC:=Lib.hid (C.out W0 hbx.below)
 clear C
 generalize hk:w.heap.size=k at *
 have HK:=Lib.hid hk;clear hk
 have HB:=Lib.hid hbx
 clear hbx
 refine CC.out.mono ?_
 rintro e w1 ⟨rfl,b⟩
 have HB1:=Lib.hid (HB.out.next b)
 clear b CC HB
 obtain ⟨_,_,_,_,c5,c6,f5,f6,_,_⟩:=HB1.out
 obtain ⟨g5,g6⟩:=two_back c5 c6 (.string rb) (.int .i64 re)
 go_wp2
 refine bodyPost_ret (v := .agg #[.string rb,.int .i64 re]) (by simp [results,Tryz.results100,go_sem,g5,g6]) rfl ?_
 refine ⟨rfl,?_⟩
 rw [HK.out]
 exact ((HB1.out.below).setCell (p:=⟨k+1+1,0,none⟩) (by show k≤k+1+1;omega) _).setCell (p:=⟨k+1+1,1,none⟩) (by show k≤k+1+1;omega) _
theorem long_over (o p:Option Int) (w:World) (ho:Lwf o) (hp:Lwf p) (h0:p≠some 0) (ht:Tab w) :
  Calls Tryz.prog 307 #[.agg #[.string (LB o),.int .i64 (LE o)],.agg #[.string (LB p),.int .i64 (LE p)]] w fun e W'=>e = .returned (.agg #[.string (LB (opL (Int.fdiv) o p)),.int .i64 (LE (opL (Int.fdiv) o p))])∧Below w.heap.size w W':=by
 have c:=fun W (hW:Below w.heap.size w W)=>with_any o p (opL (Int.fdiv) o p) 312 W (enters_of Tryz.func312 (by kernel_rfl) rfl) (fun h=>by rw [h];rfl) (fun h=>by rw [h];exact opL_none _ _)
  (fun x y hx hy W' hW'=>by
   have hb:=hW.trans (hW'.mono hW.size)
   subst hx;subst hy
   exact quot_res x y W' (ho x rfl) (hp y rfl) (fun e=>h0 (by rw [e])) (ht.next hb))
 have C:=Lib.hid c;clear c ho hp ht
 generalize opL (Int.fdiv) o p=r at *
 generalize LB o=ob at *
 generalize LE o=oe at *
 generalize LB p=pb at *
 generalize LE p=pe at *
 generalize LB r=rb at *
 generalize LE r=re at *
 go_enter Tryz.func307,Tryz.ntmps307
 go_wp2_with fail
 have hbx:=boxes_new w (.string ob) (.int .i64 oe) (.string pb) (.int .i64 pe) (.string ⟨#[]⟩) (.int .i64 0) 66
 generalize ((w.alloc (.cells #[.string ob,.int .i64 oe] 66)).alloc (.cells #[.string pb,.int .i64 pe] 66)).alloc (.cells #[.string ⟨#[]⟩,.int .i64 0] 66)=W0 at *
 have CC:=Lib.hid (C.out W0 hbx.below)
 clear C
 generalize hk:w.heap.size=k at *
 have HK:=Lib.hid hk;clear hk
 have HB:=Lib.hid hbx
 clear hbx
 refine CC.out.mono ?_
 rintro e w1 ⟨rfl,b⟩
 have HB1:=Lib.hid (HB.out.next b)
 clear b CC HB
 obtain ⟨_,_,_,_,c5,c6,f5,f6,_,_⟩:=HB1.out
 obtain ⟨g5,g6⟩:=two_back c5 c6 (.string rb) (.int .i64 re)
 go_wp2
 refine bodyPost_ret (v := .agg #[.string rb,.int .i64 re]) (by simp [results,Tryz.results307,go_sem,g5,g6]) rfl ?_
 refine ⟨rfl,?_⟩
 rw [HK.out]
 exact ((HB1.out.below).setCell (p:=⟨k+1+1,0,none⟩) (by show k≤k+1+1;omega) _).setCell (p:=⟨k+1+1,1,none⟩) (by show k≤k+1+1;omega) _
theorem long_opp (o:Option Int) (w:World) (ho:Lwf o) (ht:Tab w) :
  Calls Tryz.prog 306 #[.agg #[.string (LB o),.int .i64 (LE o)]] w fun e W'=>e = .returned (.agg #[.string (LB (opL (· - ·) (some 0) o)),.int .i64 (LE (opL (· - ·) (some 0) o))])∧Below w.heap.size w W':=by
 have c:=fun W (hW:Below w.heap.size w W)=>long_minus (some 0) o W (some_wf (by show Int.natAbs 0<lim;exact lim_pos)) ho (ht.next hW)
 rw [show LB (some 0)=⟨#[48]⟩ from str_zero,show LE (some 0)=0 from rfl] at c
 have C:=Lib.hid c;clear c ho ht
 generalize opL (· - ·) (some 0) o=r at *
 generalize LB o=ob at *
 generalize LE o=oe at *
 generalize LB r=rb at *
 generalize LE r=re at *
 go_enter Tryz.func306,Tryz.ntmps306
 go_wp2_with fail
 have hb0:Below w.heap.size w ((w.alloc (.cells #[.string ob,.int .i64 oe] 66)).alloc (.cells #[.string ⟨#[]⟩,.int .i64 0] 66)):=by go_grown
 have c5:((w.alloc (.cells #[.string ob,.int .i64 oe] 66)).alloc (.cells #[.string ⟨#[]⟩,.int .i64 0] 66)).cell? ⟨w.heap.size+1,0,none⟩=some (.string ⟨#[]⟩):=by go_cell
 have c6:((w.alloc (.cells #[.string ob,.int .i64 oe] 66)).alloc (.cells #[.string ⟨#[]⟩,.int .i64 0] 66)).cell? ⟨w.heap.size+1,1,none⟩=some (.int .i64 0):=by go_cell
 have f5:((w.alloc (.cells #[.string ob,.int .i64 oe] 66)).alloc (.cells #[.string ⟨#[]⟩,.int .i64 0] 66)).frozen? ⟨w.heap.size+1,0,none⟩=false:=by simp [go_sem]
 have f6:((w.alloc (.cells #[.string ob,.int .i64 oe] 66)).alloc (.cells #[.string ⟨#[]⟩,.int .i64 0] 66)).frozen? ⟨w.heap.size+1,1,none⟩=false:=by simp [go_sem]
 have hs:w.heap.size+1<((w.alloc (.cells #[.string ob,.int .i64 oe] 66)).alloc (.cells #[.string ⟨#[]⟩,.int .i64 0] 66)).heap.size:=by simp
 generalize (w.alloc (.cells #[.string ob,.int .i64 oe] 66)).alloc (.cells #[.string ⟨#[]⟩,.int .i64 0] 66)=W0 at *
 have CC:=Lib.hid (C.out W0 hb0)
 clear C
 generalize hk:w.heap.size=k at *
 have HK:=Lib.hid hk;clear hk
 refine CC.out.mono ?_
 rintro e w1 ⟨rfl,b⟩
 have d5:=(b.cell (p:=⟨k+1,0,none⟩) hs).trans c5
 have d6:=(b.cell (p:=⟨k+1,1,none⟩) hs).trans c6
 have d7:=(b.frozen (p:=⟨k+1,0,none⟩) hs).trans f5
 have d8:=(b.frozen (p:=⟨k+1,1,none⟩) hs).trans f6
 have HB:=Lib.hid (hb0.trans (b.mono (by rw [←HK.out];exact hb0.size)))
 clear b CC hb0 c5 c6 f5 f6 hs
 obtain ⟨g5,g6⟩:=two_back d5 d6 (.string rb) (.int .i64 re)
 go_wp2
 refine bodyPost_ret (v := .agg #[.string rb,.int .i64 re]) (by simp [results,Tryz.results306,go_sem,g5,g6]) rfl ?_
 refine ⟨rfl,?_⟩
 rw [HK.out]
 exact ((HB.out).setCell (p:=⟨k+1,0,none⟩) (by show k≤k+1;omega) _).setCell (p:=⟨k+1,1,none⟩) (by show k≤k+1;omega) _
theorem strB_one:strB 1=⟨#[49]⟩:=str_of 1 [49] itoa_one
theorem long_one (z:Int) (w:World) :
  Calls Tryz.prog 101 #[.agg #[.string (strB z),.int .i64 0]] w fun e W'=>e = .returned (.bool (decide (z=1)))∧Below w.heap.size w W':=by
 have h:((strB z).toList == [49])=decide (z=1):=by
  rw [ByteArray.toList_eq,strB_data]
  by_cases hz:z=1
  ·subst hz;rw [decide_eq_true rfl,itoa_one];rfl
  ·rw [decide_eq_false hz,beq_eq_false_iff_ne]
   intro e;exact hz (itoa_inj (e.trans itoa_one.symm))
 have H:=Lib.hid h;clear h
 generalize strB z=s at *
 go_enter Tryz.func101,Tryz.ntmps101
 go_wp2
 go_ret
 exact ⟨ret_bool H.out,by go_grown⟩
theorem long_err (o:Option Int) (w:World) :
  Calls Tryz.prog 304 #[.agg #[.string (LB o),.int .i64 (LE o)]] w fun e W'=>e = .returned (.int .i64 (LE o))∧Below w.heap.size w W':=by
 generalize LB o=ob
 generalize LE o=oe
 go_enter Tryz.func304,Tryz.ntmps304
 go_wp2
 go_ret
 exact ⟨rfl,by go_grown⟩
theorem long_neg (z:Int) (w:World) :
  Calls Tryz.prog 305 #[.agg #[.string (strB z),.int .i64 0]] w fun e W'=>e = .returned (.bool (decide (z<0)))∧Below w.heap.size w W':=by
 have h:Lib.hasPrefix (strB z).data.toList [45]=decide (z<0):=by
  rw [←strB_neg]
  cases (strB z).data.toList with
  | nil=>rfl
  | cons a t =>
   show ((45:UInt8)==a && List.isPrefixOf [] t)=(some a==some 45)
   rw [List.isPrefixOf_nil_left,Bool.and_true]
   by_cases ha:a=45
   ·subst ha;rfl
   ·rw [show ((45:UInt8)==a)=false by rw [beq_eq_false_iff_ne];exact fun e=>ha e.symm]
    simp [ha]
 have H:=Lib.hid h;clear h
 generalize strB z=s at *
 go_enter Tryz.func305,Tryz.ntmps305
 go_wp2_with fail
 refine (Tryz.strings_HasPrefix s ⟨#[45]⟩ _).mono ?_
 rintro e w' ⟨rfl,rfl⟩
 go_wp2
 go_ret
 exact ⟨ret_bool H.out,by go_grown⟩
theorem long_cmp (x y:Int) (w:World) (hx:short x) (hy:short y) :
  Calls Tryz.prog 303 #[.agg #[.string (strB x),.int .i64 0],.agg #[.string (strB y),.int .i64 0]] w fun e W'=>e = .returned (.int .i64 (cmpZ x y))∧Below w.heap.size w W':=by
 have C:=Lib.hid (fun W=>Compare_str x y W hx hy)
 clear hx hy
 generalize cmpZ x y=c at *
 generalize strB x=sx at *
 generalize strB y=sy at *
 go_enter Tryz.func303,Tryz.ntmps303
 go_wp2_with fail
 refine (C.out _).mono ?_
 rintro e w' ⟨rfl,rfl⟩
 go_wp2
 go_ret
 exact ⟨rfl,by go_grown⟩
theorem long_append (z:Int) (l:List UInt8) (B g cap n:Nat) (hn:n=l.length) (w:World) (h:RowR B w l g cap) (hB:B≤w.heap.size) (hb:l.length+(Lib.itoa z).length≤140737488355328) :
  Calls Tryz.prog 302 #[.agg #[.string (strB z),.int .i64 0],.slice (some ⟨g,0,none⟩) n cap] w fun e W'=>∃ g' cap',e = .returned (.slice (some ⟨g',0,none⟩) (n+(Lib.itoa z).length) cap')∧RowR B W' (l++Lib.itoa z) g' cap'∧Below B w W':=by
 obtain ⟨i0,hi,hz0,hz1,hz2⟩:=info_parts info_u8
 have HI:=Lib.hid (And.intro hi (And.intro hz0 (And.intro hz1 hz2)));clear hi hz0 hz1 hz2
 have hs:=strB_data z
 have HH:=Lib.hid (And.intro (h.next ((Below.refl _ w).alloc (Nat.le_refl _) (.cells #[.string (strB z),.int .i64 0] 66))) (And.intro hs (And.intro hn hb)))
 clear h hs hn hb
 generalize Lib.itoa z=m at *
 generalize strB z=s at *
 go_enter Tryz.func302,Tryz.ntmps302
 go_wp2_with (at_builtin;refine wpList_append_rowR rfl _ _ 152 9 rfl 5 i0 Tryz.underlying152 HI.out.1 HI.out.2.1 HI.out.2.2.1 HI.out.2.2.2 HH.out.2.2.1 rfl HH.out.1 (.string s) s.data.toList rfl (src_string Tryz.underlying9 s) (by rw [HH.out.2.1];exact HH.out.2.2.2) (by simp;omega) ?_;intro w1 g1 c1 h1 hb1)
 have H1:=Lib.hid (And.intro h1 hb1);clear h1 hb1
 go_wp2
 go_ret
 have h2:=HH.out.2.1
 refine ⟨g1,c1,by rw [←h2];rfl,by have:=H1.out.1;rwa [h2] at this,?_⟩
 exact (((Below.refl B w).alloc hB _)).trans H1.out.2
end Go.Proofs.YtjdfjgfdbgmbiaaGreatDoor
