/- Parts of the proof of the text YteckjifdpcbaeaaGreatDoorZG38. -/
import Derived.Test.YteckjifdpcbaeaaGreatDoorZG1
import Derived.Test.YteckjifdpcbaeaaGreatDoorZG21
import Derived.Test.YteckjifdpcbaeaaGreatDoorZG22
set_option linter.all false
set_option maxRecDepth 100000
set_option maxHeartbeats 8000000
namespace Go.Proofs.YteckjifdpcbaeaaGreatDoor
open Go.RowKit
def Sq (x:Rat):Prop:=x.num.natAbs<lim∧x.den<lim
theorem Sq.n {x:Rat} (h:Sq x):short x.num:=h.1
theorem Sq.d {x:Rat} (h:Sq x):short (x.den:Int):=by show Int.natAbs _<lim;rw [Int.natAbs_natCast];exact h.2
theorem bN_strQ (x:Rat):bN (strQ x)=strB x.num:=bytes_ext (by rw [bN_data,strQ_data,strB_data,(itoaQ_cut x).1])
theorem bD_strQ (x:Rat):bD (strQ x)=strB (x.den:Int):=bytes_ext (by rw [bD_data,strQ_data,strB_data,(itoaQ_cut x).2.1])
theorem val_strQ (x:Rat):valOf (cutN (strQ x).data.toList)=x.num∧valOf (cutD (strQ x).data.toList)=x.den:=by
 rw [strQ_data,(itoaQ_cut x).1,(itoaQ_cut x).2.1,valOf_itoa,valOf_itoa];exact ⟨rfl,rfl⟩
theorem Sq.chk {x:Rat} (h:Sq x):chkQ (strQ x).data.toList=0:=strQ_chk h.1 h.2
theorem Sq.size {x:Rat} (h:Sq x):(strQ x).size≤maxLen:=by
 have h1:=strB_size h.n
 have h2:=strB_size h.d
 rw [←size_len,strB_data] at h1 h2
 rw [←size_len,strQ_data]
 unfold itoaQ maxLen
 split
 ·omega
 ·rw [List.length_append,List.length_cons];omega
theorem readLong_q (x:Rat) (w:World) (hx:Sq x) (ht:Tab w) :
  Calls Tryz.prog 112 #[.string (strQ x)] w fun e W'=>e = .returned (.tuple #[.agg #[.string (strB x.num),.int .i64 0,.string (strB (x.den:Int)),.int .i64 0],.int .i64 0])∧Below w.heap.size w W':=by
 have c:=readLong_any (strQ x) w hx.size ht
 obtain ⟨q1,q2⟩:=rl_good hx.chk
 rwa [q1,q2,bN_strQ,bD_strQ,hx.chk] at c
theorem mOK_b {x:Rat} (h:mOK (strQ x).data.toList=true):B18 x.num∧B18 (x.den:Int):=by
 have:=(mOK_chk h).2
 rwa [(val_strQ x).1,(val_strQ x).2] at this
theorem computeN_q (x y:Rat) (p q:Nat) (rM:ByteArray) (eM:Int) (B:ByteArray) (E:Int) (w:World) (hx:Sq x) (hy:Sq y) (ht:Tab w) (ht2:Tab64 w)
  (hs:B18 x.num→B18 (x.den:Int)→B18 y.num→B18 (y.den:Int)→CqB w 113 #[.agg #[.int .i64 x.num,.int .i64 (x.den:Int)],.agg #[.int .i64 y.num,.int .i64 (y.den:Int)],.pointer (some ⟨p,0,none⟩)] (.tuple #[.string rM,.int .i64 eM]))
  (hok:eM=0→rM=B∧E=0)
  (hl:CqB w 115 #[.agg #[.string (strB x.num),.int .i64 0,.string (strB (x.den:Int)),.int .i64 0],.agg #[.string (strB y.num),.int .i64 0,.string (strB (y.den:Int)),.int .i64 0],.pointer (some ⟨q,0,none⟩)] (.tuple #[.string B,.int .i64 E])) :
  Calls Tryz.prog 68 #[.string (strQ x),.string (strQ y),.func (.func 113) #[] #[.pointer (some ⟨p,0,none⟩)],.func (.func 115) #[] #[.pointer (some ⟨q,0,none⟩)]] w fun e W'=>e = .returned (.tuple #[.string B,.int .i64 E])∧Below w.heap.size w W':=by
 have el:∀ args W,(callFunc 115 args).run Tryz.prog W = .ok (.enter 115 args) W:=enters_of Tryz.func115 (by kernel_rfl) rfl
 have es:∀ args W,(callFunc 113 args).run Tryz.prog W = .ok (.enter 113 args) W:=enters_of Tryz.func113 (by kernel_rfl) rfl
 have ra:=fun W (hW:Below w.heap.size w W)=>readLong_q x W hx (ht.next hW)
 have rb:=fun W (hW:Below w.heap.size w W)=>readLong_q y W hy (ht.next hW)
 by_cases o:mOK (strQ x).data.toList=true∧mOK (strQ y).data.toList=true
 ·have hm:=fun W (hW:Below w.heap.size w W)=>readMachines_yes (strQ x) (strQ y) W hx.size hy.size o.1 o.2 (TabQ_next ht2 hW)
  simp only [(val_strQ x).1,(val_strQ x).2,(val_strQ y).1,(val_strQ y).2] at hm
  have hs:=hs (mOK_b o.1).1 (mOK_b o.1).2 (mOK_b o.2).1 (mOK_b o.2).2
  by_cases he:eM=0
  ·obtain ⟨h1,h2⟩:=hok he
   subst h1;subst h2;subst he
   exact computeN_short _ _ p q _ _ _ _ _ _ _ w hm es hs
  ·exact computeN_both _ _ p q _ _ _ _ _ _ _ _ _ _ _ _ _ _ w (bool_ne he).1 (bool_ne he).2 hm es hs ra rb el hl
 ·have hm:=fun W (hW:Below w.heap.size w W)=>readMachines_no (strQ x) (strQ y) W hx.size hy.size o (TabQ_next ht2 hW)
  exact computeN_long _ _ p q _ _ _ _ _ _ _ _ w hm ra rb el hl
theorem B18.ok {z:Int} (h:B18 z):z.natAbs<4611686018427387904:=by unfold B18 at h;omega
theorem den_wf {x:Rat} (h:Sq x):Lwf (some (x.den:Int)):=some_wf h.d
theorem num_wf {x:Rat} (h:Sq x):Lwf (some x.num):=some_wf h.n
theorem mk_den0 (x y:Rat):opL (· * ·) (some (x.den:Int)) (some (y.den:Int))≠some 0:=by
 rw [opL_some]
 unfold mkL
 intro h
 split at h
 ·have h1:=Option.some.inj h
  rcases Int.mul_eq_zero.1 h1 with q | q
  ·exact den_0 x q
  ·exact den_0 y q
 ·cases h
theorem mk_num0 {x y:Rat} (hy:y≠0):opL (· * ·) (some y.num) (some (x.den:Int))≠some 0:=by
 rw [opL_some]
 unfold mkL
 intro h
 split at h
 ·have h1:=Option.some.inj h
  rcases Int.mul_eq_zero.1 h1 with q | q
  ·exact hy (Rat.num_eq_zero.1 q)
  ·exact den_0 x q
 ·cases h
theorem addM_rule (x y:Rat) (p:Nat) (w:World) (bx:B18 x.num) (cx:B18 (x.den:Int)) (by_:B18 y.num) (cy:B18 (y.den:Int)) (hb:Blk w p #[.func (.func 92) #[] #[]]) (ht:Tab w) (ht2:Tab64 w) :
  Calls Tryz.prog 113 #[.agg #[.int .i64 x.num,.int .i64 (x.den:Int)],.agg #[.int .i64 y.num,.int .i64 (y.den:Int)],.pointer (some ⟨p,0,none⟩)] w fun e W'=>e = .returned (.tuple #[.string (lowR (plusM (timesM x.num y.den) (timesM y.num x.den)) (timesM x.den y.den)),.int .i64 (lowRE (plusM (timesM x.num y.den) (timesM y.num x.den)) (timesM x.den y.den))])∧Below w.heap.size w W' :=
 ruleM_any 92 p _ _ _ _ _ _ _ _ w (enters_of Tryz.func92 (by kernel_rfl) rfl) hb (fun W _=>sumM_any _ _ _ _ W bx cx by_ cy)
  (fun W hW=>lowestM_any _ _ W (plusM_lo (timesM_ok _ _) (timesM_ok _ _)).1 (plusM_lo (timesM_ok _ _) (timesM_ok _ _)).2 (timesM_ok _ _).lo (timesM_ok _ _).hi (timesM_0 (den_0 x) (den_0 y)) (ht.next hW) (TabQ_next ht2 hW))
theorem addL_rule (x y:Rat) (q:Nat) (w:World) (hx:Sq x) (hy:Sq y) (hb:Blk w q #[.func (.func 93) #[] #[]]) (ht:Tab w) :
  Calls Tryz.prog 115 #[.agg #[.string (strB x.num),.int .i64 0,.string (strB (x.den:Int)),.int .i64 0],.agg #[.string (strB y.num),.int .i64 0,.string (strB (y.den:Int)),.int .i64 0],.pointer (some ⟨q,0,none⟩)] w fun e W'=>e = .returned (.tuple #[.string (qaddB x y),.int .i64 (qaddE x y)])∧Below w.heap.size w W':=by
 have c:=ruleL_any 93 q (strB x.num) (strB (x.den:Int)) (strB y.num) (strB (y.den:Int)) _ _ 0 0 0 0 _ _ _ _ w (enters_of Tryz.func93 (by kernel_rfl) rfl) hb
  (fun W hW=>sumL_any (some x.num) (some (x.den:Int)) (some y.num) (some (y.den:Int)) W (num_wf hx) (den_wf hx) (num_wf hy) (den_wf hy) (ht.next hW))
  (fun W hW=>lowestL_any (opL (· + ·) (opL (· * ·) (some x.num) (some (y.den:Int))) (opL (· * ·) (some y.num) (some (x.den:Int)))) (opL (· * ·) (some (x.den:Int)) (some (y.den:Int))) W (opL_wf _ _ _) (opL_wf _ _ _) (mk_den0 x y) (ht.next hW))
 rwa [(addL_ok x y).1,(addL_ok x y).2] at c
theorem AddQ_core (a b r:ByteArray) (e0:Int) (w:World)
  (h:∀ W p q,Below w.heap.size w W→Blk W p #[.func (.func 92) #[] #[]]→Blk W q #[.func (.func 93) #[] #[]]→Calls Tryz.prog 68 #[.string a,.string b,.func (.func 113) #[] #[.pointer (some ⟨p,0,none⟩)],.func (.func 115) #[] #[.pointer (some ⟨q,0,none⟩)]] W fun e W'=>e = .returned (.tuple #[.string r,.int .i64 e0])∧Below W.heap.size W W') :
  Calls Tryz.prog 55 #[.string a,.string b] w fun e W'=>e = .returned (.tuple #[.string r,.int .i64 e0])∧Below w.heap.size w W':=by
 have C:=Lib.hid (And.intro h (And.intro (fun W=>reducedM_mk 92 W) (fun W=>reducedL_mk 93 W)));clear h
 go_enter Tryz.func55,Tryz.ntmps55
 go_wp2_with fail
 refine (C.out.2.1 _).mono ?_
 rintro e w1 ⟨rfl,k0,b⟩
 have H1:=Lib.hid (And.intro k0 b);clear k0 b
 go_wp2_with fail
 refine (C.out.2.2 _).mono ?_
 rintro e w2 ⟨rfl,k1,b⟩
 have H2:=Lib.hid (And.intro (H1.out.1.next b) (And.intro k1 (H1.out.2.trans (b.mono H1.out.2.size))));clear k1 b H1
 go_wp2_with fail
 refine (C.out.1 _ _ _ H2.out.2.2 H2.out.1 H2.out.2.1).mono ?_
 rintro e w3 ⟨rfl,b⟩
 have H3:=Lib.hid (H2.out.2.2.trans (b.mono H2.out.2.2.size));clear b
 go_wp2
 go_ret2
 exact ⟨rfl,H3.out⟩
theorem Add_q (x y:Rat) (w:World) (hx:Sq x) (hy:Sq y) (ht:Tab w) (ht2:Tab64 w) :
  Calls Tryz.prog 55 #[.string (strQ x),.string (strQ y)] w fun e W'=>e = .returned (.tuple #[.string (qaddB x y),.int .i64 (qaddE x y)])∧Below w.heap.size w W':=by
 refine AddQ_core _ _ _ _ w (fun W p q hW k0 k1 => ?_)
 exact computeN_q x y p q _ _ _ _ W hx hy (ht.next hW) (TabQ_next ht2 hW)
  (fun b1 c1 b2 c2 W' hW'=>addM_rule x y p W' b1 c1 b2 c2 (k0.next hW') ((ht.next hW).next hW') (TabQ_next (TabQ_next ht2 hW) hW'))
  (fun he=>addM_ok x y he)
  (fun W' hW'=>addL_rule x y q W' hx hy (k1.next hW') ((ht.next hW).next hW'))
theorem mulM_rule (x y:Rat) (p:Nat) (w:World) (bx:B18 x.num) (cx:B18 (x.den:Int)) (by_:B18 y.num) (cy:B18 (y.den:Int)) (hb:Blk w p #[.func (.func 84) #[] #[]]) (ht:Tab w) (ht2:Tab64 w) :
  Calls Tryz.prog 113 #[.agg #[.int .i64 x.num,.int .i64 (x.den:Int)],.agg #[.int .i64 y.num,.int .i64 (y.den:Int)],.pointer (some ⟨p,0,none⟩)] w fun e W'=>e = .returned (.tuple #[.string (lowR (timesM x.num y.num) (timesM x.den y.den)),.int .i64 (lowRE (timesM x.num y.num) (timesM x.den y.den))])∧Below w.heap.size w W' :=
 ruleM_any 84 p _ _ _ _ _ _ _ _ w (enters_of Tryz.func84 (by kernel_rfl) rfl) hb (fun W _=>productM_any _ _ _ _ W bx cx by_ cy)
  (fun W hW=>lowestM_any _ _ W (timesM_ok _ _).lo (timesM_ok _ _).hi (timesM_ok _ _).lo (timesM_ok _ _).hi (timesM_0 (den_0 x) (den_0 y)) (ht.next hW) (TabQ_next ht2 hW))
theorem mulL_rule (x y:Rat) (q:Nat) (w:World) (hx:Sq x) (hy:Sq y) (hb:Blk w q #[.func (.func 85) #[] #[]]) (ht:Tab w) :
  Calls Tryz.prog 115 #[.agg #[.string (strB x.num),.int .i64 0,.string (strB (x.den:Int)),.int .i64 0],.agg #[.string (strB y.num),.int .i64 0,.string (strB (y.den:Int)),.int .i64 0],.pointer (some ⟨q,0,none⟩)] w fun e W'=>e = .returned (.tuple #[.string (qmulB x y),.int .i64 (qmulE x y)])∧Below w.heap.size w W':=by
 have c:=ruleL_any 85 q (strB x.num) (strB (x.den:Int)) (strB y.num) (strB (y.den:Int)) _ _ 0 0 0 0 _ _ _ _ w (enters_of Tryz.func85 (by kernel_rfl) rfl) hb
  (fun W hW=>productL_any (some x.num) (some (x.den:Int)) (some y.num) (some (y.den:Int)) W (num_wf hx) (den_wf hx) (num_wf hy) (den_wf hy) (ht.next hW))
  (fun W hW=>lowestL_any (opL (· * ·) (some x.num) (some y.num)) (opL (· * ·) (some (x.den:Int)) (some (y.den:Int))) W (opL_wf _ _ _) (opL_wf _ _ _) (mk_den0 x y) (ht.next hW))
 rwa [(mulL_ok x y).1,(mulL_ok x y).2] at c
theorem MulQ_core (a b r:ByteArray) (e0:Int) (w:World)
  (h:∀ W p q,Below w.heap.size w W→Blk W p #[.func (.func 84) #[] #[]]→Blk W q #[.func (.func 85) #[] #[]]→Calls Tryz.prog 68 #[.string a,.string b,.func (.func 113) #[] #[.pointer (some ⟨p,0,none⟩)],.func (.func 115) #[] #[.pointer (some ⟨q,0,none⟩)]] W fun e W'=>e = .returned (.tuple #[.string r,.int .i64 e0])∧Below W.heap.size W W') :
  Calls Tryz.prog 45 #[.string a,.string b] w fun e W'=>e = .returned (.tuple #[.string r,.int .i64 e0])∧Below w.heap.size w W':=by
 have C:=Lib.hid (And.intro h (And.intro (fun W=>reducedM_mk 84 W) (fun W=>reducedL_mk 85 W)));clear h
 go_enter Tryz.func45,Tryz.ntmps45
 go_wp2_with fail
 refine (C.out.2.1 _).mono ?_
 rintro e w1 ⟨rfl,k0,b⟩
 have H1:=Lib.hid (And.intro k0 b);clear k0 b
 go_wp2_with fail
 refine (C.out.2.2 _).mono ?_
 rintro e w2 ⟨rfl,k1,b⟩
 have H2:=Lib.hid (And.intro (H1.out.1.next b) (And.intro k1 (H1.out.2.trans (b.mono H1.out.2.size))));clear k1 b H1
 go_wp2_with fail
 refine (C.out.1 _ _ _ H2.out.2.2 H2.out.1 H2.out.2.1).mono ?_
 rintro e w3 ⟨rfl,b⟩
 have H3:=Lib.hid (H2.out.2.2.trans (b.mono H2.out.2.2.size));clear b
 go_wp2
 go_ret2
 exact ⟨rfl,H3.out⟩
theorem Mul_q (x y:Rat) (w:World) (hx:Sq x) (hy:Sq y) (ht:Tab w) (ht2:Tab64 w) :
  Calls Tryz.prog 45 #[.string (strQ x),.string (strQ y)] w fun e W'=>e = .returned (.tuple #[.string (qmulB x y),.int .i64 (qmulE x y)])∧Below w.heap.size w W':=by
 refine MulQ_core _ _ _ _ w (fun W p q hW k0 k1 => ?_)
 exact computeN_q x y p q _ _ _ _ W hx hy (ht.next hW) (TabQ_next ht2 hW)
  (fun b1 c1 b2 c2 W' hW'=>mulM_rule x y p W' b1 c1 b2 c2 (k0.next hW') ((ht.next hW).next hW') (TabQ_next (TabQ_next ht2 hW) hW'))
  (fun he=>mulM_ok x y he)
  (fun W' hW'=>mulL_rule x y q W' hx hy (k1.next hW') ((ht.next hW).next hW'))
theorem divM_rule (x y:Rat) (p:Nat) (w:World) (bx:B18 x.num) (cx:B18 (x.den:Int)) (by_:B18 y.num) (cy:B18 (y.den:Int)) (h0:y≠0) (hb:Blk w p #[.func (.func 70) #[] #[]]) (ht:Tab w) (ht2:Tab64 w) :
  Calls Tryz.prog 113 #[.agg #[.int .i64 x.num,.int .i64 (x.den:Int)],.agg #[.int .i64 y.num,.int .i64 (y.den:Int)],.pointer (some ⟨p,0,none⟩)] w fun e W'=>e = .returned (.tuple #[.string (lowR (timesM x.num y.den) (timesM y.num x.den)),.int .i64 (lowRE (timesM x.num y.den) (timesM y.num x.den))])∧Below w.heap.size w W' :=
 ruleM_any 70 p _ _ _ _ _ _ _ _ w (enters_of Tryz.func70 (by kernel_rfl) rfl) hb (fun W _=>ratioM_any _ _ _ _ W bx cx by_ cy)
  (fun W hW=>lowestM_any _ _ W (timesM_ok _ _).lo (timesM_ok _ _).hi (timesM_ok _ _).lo (timesM_ok _ _).hi (timesM_0 (fun e=>h0 (Rat.num_eq_zero.1 e)) (den_0 x)) (ht.next hW) (TabQ_next ht2 hW))
theorem divL_rule (x y:Rat) (q:Nat) (w:World) (hx:Sq x) (hy:Sq y) (h0:y≠0) (hb:Blk w q #[.func (.func 72) #[] #[]]) (ht:Tab w) :
  Calls Tryz.prog 115 #[.agg #[.string (strB x.num),.int .i64 0,.string (strB (x.den:Int)),.int .i64 0],.agg #[.string (strB y.num),.int .i64 0,.string (strB (y.den:Int)),.int .i64 0],.pointer (some ⟨q,0,none⟩)] w fun e W'=>e = .returned (.tuple #[.string (qdivB x y),.int .i64 (qdivE x y)])∧Below w.heap.size w W':=by
 have c:=ruleL_any 72 q (strB x.num) (strB (x.den:Int)) (strB y.num) (strB (y.den:Int)) _ _ 0 0 0 0 _ _ _ _ w (enters_of Tryz.func72 (by kernel_rfl) rfl) hb
  (fun W hW=>ratioL_any (some x.num) (some (x.den:Int)) (some y.num) (some (y.den:Int)) W (num_wf hx) (den_wf hx) (num_wf hy) (den_wf hy) (ht.next hW))
  (fun W hW=>lowestL_any (opL (· * ·) (some x.num) (some (y.den:Int))) (opL (· * ·) (some y.num) (some (x.den:Int))) W (opL_wf _ _ _) (opL_wf _ _ _) (mk_num0 h0) (ht.next hW))
 rwa [(divL_ok x y).1,(divL_ok x y).2] at c
theorem DivQ_core (a b r:ByteArray) (e0:Int) (hz:(b.toList == [48])=false) (hz':(b.toList != [48])=true) (w:World)
  (h:∀ W p q,Below w.heap.size w W→Blk W p #[.func (.func 70) #[] #[]]→Blk W q #[.func (.func 72) #[] #[]]→Calls Tryz.prog 68 #[.string a,.string b,.func (.func 113) #[] #[.pointer (some ⟨p,0,none⟩)],.func (.func 115) #[] #[.pointer (some ⟨q,0,none⟩)]] W fun e W'=>e = .returned (.tuple #[.string r,.int .i64 e0])∧Below W.heap.size W W') :
  Calls Tryz.prog 33 #[.string a,.string b] w fun e W'=>e = .returned (.tuple #[.string r,.int .i64 e0])∧Below w.heap.size w W':=by
 have C:=Lib.hid (And.intro h (And.intro (fun W=>reducedM_mk 70 W) (fun W=>reducedL_mk 72 W)));clear h
 go_enter Tryz.func33,Tryz.ntmps33
 go_wp2_with fail
 refine (C.out.2.1 _).mono ?_
 rintro e w1 ⟨rfl,k0,b⟩
 have H1:=Lib.hid (And.intro k0 b);clear k0 b
 go_wp2_with fail
 refine (C.out.2.2 _).mono ?_
 rintro e w2 ⟨rfl,k1,b⟩
 have H2:=Lib.hid (And.intro (H1.out.1.next b) (And.intro k1 (H1.out.2.trans (b.mono H1.out.2.size))));clear k1 b H1
 go_wp2_with fail
 refine (C.out.1 _ _ _ H2.out.2.2 H2.out.1 H2.out.2.1).mono ?_
 rintro e w3 ⟨rfl,b⟩
 have H3:=Lib.hid (H2.out.2.2.trans (b.mono H2.out.2.2.size));clear b
 go_wp2
 go_ret2
 exact ⟨rfl,H3.out⟩
theorem Div_q (x y:Rat) (w:World) (hx:Sq x) (hy:Sq y) (h0:y≠0) (ht:Tab w) (ht2:Tab64 w) :
  Calls Tryz.prog 33 #[.string (strQ x),.string (strQ y)] w fun e W'=>e = .returned (.tuple #[.string (qdivB x y),.int .i64 (qdivE x y)])∧Below w.heap.size w W':=by
 have hz:((strQ y).toList == [48])=false:=by rw [strQ_is0];exact decide_eq_false h0
 refine DivQ_core _ _ _ _ hz (by rw [bne,hz];rfl) w (fun W p q hW k0 k1 => ?_)
 exact computeN_q x y p q _ _ _ _ W hx hy (ht.next hW) (TabQ_next ht2 hW)
  (fun b1 c1 b2 c2 W' hW'=>divM_rule x y p W' b1 c1 b2 c2 h0 (k0.next hW') ((ht.next hW).next hW') (TabQ_next (TabQ_next ht2 hW) hW'))
  (fun he=>divM_ok x y he)
  (fun W' hW'=>divL_rule x y q W' hx hy h0 (k1.next hW') ((ht.next hW).next hW'))
theorem Check_q (x:Rat) (w:World) (hx:Sq x) (ht:Tab w) (ht2:Tab64 w) :
  Calls Tryz.prog 73 #[.string (strQ x)] w fun e W'=>e = .returned (.int .i64 0)∧Below w.heap.size w W':=by
 have c:=checkQ_any (strQ x) w hx.size ht ht2
 rwa [hx.chk] at c
theorem Parts_q (x:Rat) (w:World) (hx:Sq x) (ht:Tab w) (ht2:Tab64 w) :
  Calls Tryz.prog 77 #[.string (strQ x)] w fun e W'=>e = .returned (.tuple #[.string (strB x.num),.string (strB (x.den:Int)),.int .i64 0])∧Below w.heap.size w W':=by
 have c:=partsQ_any (strQ x) w hx.size ht ht2
 unfold paN paD at c
 rwa [if_pos hx.chk,if_pos hx.chk,bN_strQ,bD_strQ,hx.chk] at c
theorem FloorQ_core (a n d q r:ByteArray) (w:World)
  (hp:CqB w 77 #[.string a] (.tuple #[.string n,.string d,.int .i64 0]))
  (hd:CqB w 78 #[.string n,.string d] (.tuple #[.string q,.string r,.int .i64 0])) :
  Calls Tryz.prog 56 #[.string a] w fun e W'=>e = .returned (.tuple #[.string q,.int .i64 0])∧Below w.heap.size w W':=by
 have C:=Lib.hid (And.intro hp hd);clear hp hd
 go_enter Tryz.func56,Tryz.ntmps56
 go_wp2_with fail
 refine (C.out.1 _ (Below.refl _ _)).mono ?_
 rintro e w1 ⟨rfl,b⟩
 have H1:=Lib.hid b;clear b
 go_wp2_with fail
 refine (C.out.2 _ H1.out).mono ?_
 rintro e w2 ⟨rfl,b⟩
 have H2:=Lib.hid (H1.out.trans (b.mono H1.out.size));clear b
 go_wp2
 go_ret2
 exact ⟨rfl,H2.out⟩
theorem Floor_q (x:Rat) (w:World) (hx:Sq x) (ht:Tab w) (ht2:Tab64 w) :
  Calls Tryz.prog 56 #[.string (strQ x)] w fun e W'=>e = .returned (.tuple #[.string (strB (x.num.fdiv x.den)),.int .i64 0])∧Below w.heap.size w W' :=
 FloorQ_core _ _ _ _ _ w (fun W hW=>Parts_q x W hx (ht.next hW) (TabQ_next ht2 hW)) (fun W hW=>Divide_strs x.num x.den W hx.n hx.d (den_0 x) (ht.next hW))
theorem Div_zero (x:Rat) (w:World) (hx:Sq x) (ht:Tab w) (ht2:Tab64 w) :
  Calls Tryz.prog 33 #[.string (strQ x),.string ⟨#[48]⟩] w fun e W'=>e = .returned (.tuple #[.string ⟨#[]⟩,.int .i64 12])∧Below w.heap.size w W':=by
 have C:=Lib.hid (Check_q x w hx ht ht2);clear hx ht ht2
 generalize strQ x=s at *
 have hz:((⟨#[48]⟩:ByteArray).toList == [48])=true:=by rw [ByteArray.toList_eq];rfl
 have hz':((⟨#[48]⟩:ByteArray).toList != [48])=false:=by rw [bne,hz];rfl
 generalize (⟨#[48]⟩:ByteArray)=z at *
 go_enter Tryz.func33,Tryz.ntmps33
 go_wp2_with fail
 refine C.out.mono ?_
 rintro e w1 ⟨rfl,b⟩
 have H1:=Lib.hid b;clear b
 go_wp2
 go_ret2
 exact ⟨rfl,H1.out⟩
end Go.Proofs.YteckjifdpcbaeaaGreatDoor
namespace Go.Proofs.YteckjifdpcbaeaaGreatDoor.T
open Go.Proofs.YteckjifdpcbaeaaGreatDoor Go Go.RowKit
def k1 (c:UInt8) (s:ByteArray):ByteArray:=bO (kA c s.data.toList)
def k2 (c:UInt8) (s:ByteArray):ByteArray:=bO (kB c s.data.toList)
theorem kcut_yes {c:UInt8} {s:ByteArray} (h:kH c s.data.toList=true):Lib.indexByte s.data.toList c=((k1 c s).size:Int)∧s.extract 0 (k1 c s).size=k1 c s∧s.extract ((k1 c s).size+1) s.size=k2 c s∧(k1 c s).size+1≤s.size:=by
 have h2:=k_split (kH_iff.1 h)
 have hns:=kA_ns c s.data.toList
 have hl:(k1 c s).size=(kA c s.data.toList).length:=bO_size _
 have hlen:=congrArg List.length h2
 simp only [List.length_append,List.length_cons] at hlen
 rw [size_len] at hlen
 have hbn:(k1 c s).data.toList=kA c s.data.toList:=bO_data _
 have hbd:(k2 c s).data.toList=kB c s.data.toList:=bO_data _
 rw [hl]
 generalize kA c s.data.toList=n at *
 generalize kB c s.data.toList=d at *
 refine ⟨?_,?_,?_,by omega⟩
 ·rw [h2];exact indexByte_at (c:=c) d hns
 ·apply bytes_ext
  rw [Lib.extract_data,hbn,h2]
  simp
 ·apply bytes_ext
  rw [Lib.extract_data,hbd,List.take_of_length_le (by rw [List.length_drop,size_len];omega),h2,List.drop_append,List.drop_eq_nil_of_le (by omega)]
  simp
theorem kcut_no {c:UInt8} {s:ByteArray} (h:kH c s.data.toList=false):k1 c s=s∧k2 c s=⟨#[]⟩∧Lib.indexByte s.data.toList c = -1:=by
 have hn:c ∉ s.data.toList:=fun e=>by rw [kH_iff.2 e] at h;cases h
 obtain ⟨e1,e2⟩:=k_no hn
 unfold k1 k2
 rw [e1,e2]
 exact ⟨bO_of s,rfl,indexByte_no hn⟩
theorem mcutS (c:UInt8) (s:ByteArray) (w:World) (hs:s.size≤1000000) :
  Calls Tryz.prog 59 #[.string s,.string ⟨#[c]⟩] w fun e W'=>e = .returned (.tuple #[.string (k1 c s),.string (k2 c s),.bool (kH c s.data.toList)])∧Below w.heap.size w W':=by
 have ci:=fun W=>Tryz.stringslite_Index_one s c W
 cases h:kH c s.data.toList
 ·obtain ⟨e1,e2,e3⟩:=kcut_no h
  rw [e3] at ci
  rw [e1,e2]
  have C:=Lib.hid ci
  clear ci h e1 e2 e3
  go_enter Tryz.func59,Tryz.ntmps59
  go_wp2_with fail
  refine (C.out _).mono ?_
  rintro e w' ⟨rfl,rfl⟩
  go_wp2
  go_ret3
  exact ⟨rfl,Below.refl _ _⟩
 ·obtain ⟨e1,e2,e3,e4⟩:=kcut_yes h
  rw [e1] at ci
  have C:=Lib.hid ci
  have hz:(⟨#[c]⟩:ByteArray).size=1:=rfl
  clear ci h e1
  generalize (k1 c s).size=k at *
  go_enter Tryz.func59,Tryz.ntmps59
  go_wp2_with fail
  refine (C.out _).mono ?_
  rintro e w' ⟨rfl,rfl⟩
  go_wp2
  go_quiet (fail)
  go_wp2
  go_ret3
  exact ⟨rfl,⟨rfl,rfl,rfl,Nat.le_refl _,fun _ _=>rfl⟩⟩
theorem mcut (c:UInt8) (s:ByteArray) (w:World) (hs:s.size≤1000000) :
  Calls Tryz.prog 29 #[.string s,.string ⟨#[c]⟩] w fun e W'=>e = .returned (.tuple #[.string (k1 c s),.string (k2 c s),.bool (kH c s.data.toList)])∧Below w.heap.size w W':=by
 have C:=Lib.hid (fun W=>mcutS c s W hs)
 clear hs
 generalize k1 c s=n at *
 generalize k2 c s=d at *
 generalize kH c s.data.toList=b at *
 go_enter Tryz.func29,Tryz.ntmps29
 go_wp2_with fail
 refine (C.out _).mono ?_
 rintro e w' ⟨rfl,hb⟩
 have B:=Lib.hid hb;clear hb
 go_wp2
 go_ret3
 exact ⟨rfl,B.out⟩
theorem mpre_neg (l:List UInt8):Lib.hasPrefix l [45]=isNeg l:=by
 unfold Lib.hasPrefix isNeg
 cases l with
 | nil=>rfl
 | cons a t=>simp [List.isPrefixOf];exact BEq.comm
def zB (s:ByteArray):ByteArray:=bO (szL s.data.toList)
theorem mprefix (s:ByteArray) (w:World) :
  Calls Tryz.prog 31 #[.string s,.string ⟨#[45]⟩] w fun e W'=>e = .returned (.tuple #[.string (zB s),.bool (isNeg s.data.toList)])∧Below w.heap.size w W':=by
 refine (Tryz.strings_CutPrefix s ⟨#[45]⟩ w).mono ?_
 rintro e w' ⟨rfl,rfl⟩
 refine ⟨?_,Below.refl _ _⟩
 have h1:Lib.hasPrefix s.data.toList (⟨#[45]⟩:ByteArray).data.toList=isNeg s.data.toList:=mpre_neg _
 have h2:Lib.trimPrefix s.data.toList (⟨#[45]⟩:ByteArray).data.toList=szL s.data.toList:=by
  unfold Lib.trimPrefix szL
  rw [h1]
  cases isNeg s.data.toList <;> simp
 rw [h1,h2];rfl
theorem mrepL (c:UInt8):∀ n,Lib.repeatL [c] n=List.replicate n c
 | 0=>rfl
 | n+1=>by
  show [c]++Lib.repeatL [c] n=_
  rw [mrepL c n,List.replicate_succ];rfl
theorem mrep (n:Nat) (w:World) (h:n≤1000) :
  Calls Tryz.prog 57 #[.string ⟨#[48]⟩,.int .i64 n] w fun e W'=>e = .returned (.string (bO (List.replicate n 48)))∧Below w.heap.size w W':=by
 match n,h with
 | 0,_=>exact (Tryz.strings_Repeat_zero ⟨#[48]⟩ w).mono fun e W' ⟨a,b⟩=>⟨a,by rw [b];exact Below.refl _ _⟩
 | 1,_=>exact (Tryz.strings_Repeat_one ⟨#[48]⟩ w).mono fun e W' ⟨a,b⟩=>⟨a,by rw [b];exact Below.refl _ _⟩
 | n+2,h =>
  have c:=Tryz.strings_Repeat_main ⟨#[48]⟩ (n+2) w (by omega) (by omega) (by show 1*(n+2)≤_;omega) (by decide)
  rwa [show (⟨#[48]⟩:ByteArray).data.toList = [48] from rfl,mrepL] at c
def sgB (b:Bool) (s:ByteArray):ByteArray:=if b && s.toList != [48] then ⟨#[45]⟩++s else s
theorem msigned (b:Bool) (s:ByteArray) (w:World) (hs:s.size≤1000) :
  Calls Tryz.prog 34 #[.string s,.bool b] w fun e W'=>e = .returned (.string (sgB b s))∧Below w.heap.size w W':=by
 cases b
 ·go_enter Tryz.func34,Tryz.ntmps34
  go_wp2
  go_ret
  exact ⟨rfl,Below.refl _ _⟩
 ·unfold sgB
  cases h:(s.toList == [48])
  ·have h':(s.toList != [48])=true:=by rw [bne,h];rfl
   have n3:¬ (9223372036854775807:Int)<1+(s.size:Int):=by omega
   rw [h',if_pos (by decide)]
   clear hs
   go_enter Tryz.func34,Tryz.ntmps34
   go_wp2
   go_ret
   exact ⟨rfl,Below.refl _ _⟩
  ·have h':(s.toList != [48])=false:=by rw [bne,h];rfl
   rw [h',if_neg (by decide)]
   clear hs
   go_enter Tryz.func34,Tryz.ntmps34
   go_wp2
   go_ret
   exact ⟨rfl,Below.refl _ _⟩
theorem mten (n:Nat) (w:World) (h:n≤1000) :
  Calls Tryz.prog 54 #[.int .i64 n] w fun e W'=>e = .returned (.string (bO (49::List.replicate n 48)))∧Below w.heap.size w W':=by
 have C:=Lib.hid (mrep n w h)
 have e0:bO (49::List.replicate n 48)=⟨#[49]⟩++bO (List.replicate n 48):=(bO_app [49] _).symm
 have n3:¬ (9223372036854775807:Int)<1+((bO (List.replicate n 48)).size:Int):=by rw [bO_size,List.length_replicate];omega
 rw [e0]
 clear h e0
 generalize bO (List.replicate n 48)=r at *
 go_enter Tryz.func54,Tryz.ntmps54
 go_wp2_with fail
 refine C.out.mono ?_
 rintro e w' ⟨rfl,b⟩
 have B:=Lib.hid b;clear b
 go_wp2
 go_ret
 exact ⟨rfl,B.out⟩
theorem mwz (s:ByteArray) (w:World) :
  Calls Tryz.prog 66 #[.string s] w fun e W'=>e = .returned (.string (bO (wz s.data.toList)))∧Below w.heap.size w W':=by
 have c:=Tryz.strings_TrimLeft_one s 48 (by decide) w
 have e1:Lib.trimLeftB s.data.toList 48=nz s.data.toList:=rfl
 rw [e1] at c
 have C:=Lib.hid c;clear c e1
 unfold wz
 by_cases h:nz s.data.toList = []
 ·rw [if_pos h]
  rw [h] at C
  go_enter Tryz.func66,Tryz.ntmps66
  go_wp2_with fail
  refine C.out.mono ?_
  rintro e w' ⟨rfl,rfl⟩
  go_wp2
  go_ret
  exact ⟨rfl,Below.refl _ _⟩
 ·rw [if_neg h]
  have h1:((bO (nz s.data.toList)).toList == [])=false:=by rw [ByteArray.toList_eq,bO_data,beq_eq_false_iff_ne];exact h
  have h2:((bO (nz s.data.toList)).toList != [])=true:=by rw [bne,h1];rfl
  have C':Hid (Calls Tryz.prog 110 #[.string s,.string ⟨#[48]⟩] w fun e W'=>e = .returned (.string (bO (nz s.data.toList)))∧W'=w):=C
  clear C h
  generalize bO (nz s.data.toList)=t at *
  go_enter Tryz.func66,Tryz.ntmps66
  go_wp2_with fail
  refine C'.out.mono ?_
  rintro e w' ⟨rfl,rfl⟩
  go_wp2
  go_ret
  exact ⟨rfl,Below.refl _ _⟩
theorem mdig (c:UInt8) (w:World):Calls Tryz.prog 67 #[.int .u8 c.toNat] w fun e W'=>e = .returned (.bool (isDig c))∧w=W':=by
 by_cases h1:(48:Int)≤c.toNat
 ·by_cases h2:(c.toNat:Int)≤57
  ·rw [show isDig c=true by rw [isDig_iff];omega]
   go_enter Tryz.func67,Tryz.ntmps67
   go_wp2
   go_ret
   exact ⟨rfl,rfl⟩
  ·rw [show isDig c=false by rw [←Bool.not_eq_true,isDig_iff];omega]
   go_enter Tryz.func67,Tryz.ntmps67
   go_wp2
   go_ret
   exact ⟨rfl,rfl⟩
 ·rw [show isDig c=false by rw [←Bool.not_eq_true,isDig_iff];omega]
  go_enter Tryz.func67,Tryz.ntmps67
  go_wp2
  go_ret
  exact ⟨rfl,rfl⟩
theorem mret {a b:Bool} (h:a=b):Ending.returned (.bool a) = .returned (.bool b):=by rw [h]
def allB (p:UInt8→Bool) (l:List UInt8):Bool := !l.isEmpty && l.all p
theorem allB_1 {p:UInt8→Bool} {s:ByteArray} (h:s.data.toList.all p=false):allB p s.data.toList=false:=by unfold allB;rw [h,Bool.and_false]
theorem allB_2 {p:UInt8→Bool} {s:ByteArray} (h:s.data.toList = []):allB p s.data.toList=false:=by rw [h];rfl
theorem allB_3 {p:UInt8→Bool} {s:ByteArray} (h:s.data.toList.isEmpty=false) (h2:s.data.toList.all p=true):allB p s.data.toList=true:=by unfold allB;rw [h,h2];rfl
theorem mcons_core (f:FuncId) (p:UInt8→Bool) (s:ByteArray) (w:World) (hs:s.size≤100000)
  (eg:∀ args W,(callFunc f args).run Tryz.prog W = .ok (.enter f args) W)
  (hp:∀ c:UInt8,Calls Tryz.prog f #[.int .u8 c.toNat] w fun e W'=>e = .returned (.bool (p c))∧w=W') :
  Calls Tryz.prog 48 #[.string s,.func (.func f) #[] #[]] w fun e W'=>e = .returned (.bool (allB p s.data.toList))∧w=W':=by
 have O:=Lib.hid hp;clear hp
 have hm:s.size≤9223372036854775807:=by omega
 clear hs
 go_enter Tryz.func48,Tryz.ntmps48
 go_wp2
 go_loop [8] (fun i=>∃ k:Nat,k≤s.size∧i = .int .i64 k∧Hid ((s.data.toList.take k).all p=true)) (fun i=>s.size - (intOf i).toNat)
 case atStart=>exact ⟨0,Nat.zero_le _,rfl,rfl⟩
 case round =>
  obtain ⟨k,hk,rfl,hd⟩:=hrel
  by_cases hlt:k<s.size
  ·have X:=Lib.hid (O.out s[k])
   cases h1:p s[k]
   ·rw [h1] at X
    have hz:allB p s.data.toList=false:=allB_1 (by
     rw [List.all_eq_false]
     exact ⟨s[k],mem_get s k hlt,by rw [h1];decide⟩)
    have HZ:=Lib.hid hz
    clear hz h1
    go_wp2_with fail
    refine X.out.mono ?_
    rintro e w' ⟨rfl,rfl⟩
    go_wp2
    go_ret
    exact ⟨mret HZ.out.symm,rfl⟩
   ·rw [h1] at X
    have hd':Hid ((s.data.toList.take (k+1)).all p=true):=by
     show (s.data.toList.take (k+1)).all p=true
     rw [take_snoc s k hlt,List.all_append,hd.out]
     simp [h1]
    clear hd h1
    go_wp2_with fail
    refine X.out.mono ?_
    rintro e w' ⟨rfl,rfl⟩
    go_wp2
    go_round
    case rel=>exact ⟨k+1,by omega,by go_num,hd'⟩
    case measure=>simp [intOf];omega
  ·have ha:s.data.toList.all p=true:=by
    have:=hd.out;rwa [List.take_of_length_le (by rw [size_len];omega)] at this
   have HA:=Lib.hid ha
   clear hd ha
   by_cases h0:s.size=0
   ·have hE:=empty_true h0
    have e0:s.data.toList = []:=data_nil h0
    have hE':(s.toList != [])=false:=by rw [bne,ByteArray.toList_eq,e0];rfl
    have HE:=Lib.hid e0
    clear e0 h0
    go_wp2
    go_ret
    exact ⟨mret (allB_2 HE.out).symm,rfl⟩
   ·have h0':0<s.size:=by omega
    have e0:s.data.toList.isEmpty=false:=by
     cases h:s.data.toList with
     | nil=>rw [←size_len,h] at h0';cases h0'
     | cons a t=>rfl
    have hE':(s.toList == [])=false:=by
     rw [ByteArray.toList_eq,beq_eq_false_iff_ne]
     intro h;rw [h] at e0;cases e0
    have hE:(s.toList != [])=true:=by rw [bne,hE'];rfl
    have HE:=Lib.hid e0
    clear e0
    go_wp2
    go_ret
    exact ⟨mret (allB_3 HE.out HA.out).symm,rfl⟩
theorem mcons (s:ByteArray) (w:World) (hs:s.size≤100000) :
  Calls Tryz.prog 48 #[.string s,.func (.func 67) #[] #[]] w fun e W'=>e = .returned (.bool (dgs s.data.toList))∧Below w.heap.size w W' :=
 (mcons_core 67 isDig s w hs (enters_of Tryz.func67 (by kernel_rfl) rfl) (fun c=>mdig c w)).mono fun e W' h=>⟨h.1,by rw [←h.2];exact Below.refl _ _⟩
end Go.Proofs.YteckjifdpcbaeaaGreatDoor.T
