/- Parts of the proof of the text YtjdomibbaemdnaaGreatDoorZK42. -/
import Derived.Deep.LoopGhost
import Derived.Test.YtjdomibbaemdnaaGreatDoorZK1
import Derived.Test.YtjdomibbaemdnaaGreatDoorZK24
import Derived.Test.YtjdomibbaemdnaaGreatDoorZK25
import Derived.Test.YtjdomibbaemdnaaGreatDoorZK26
import Derived.Test.YtjdomibbaemdnaaGreatDoorZK8
set_option linter.all false
set_option maxRecDepth 100000
set_option maxHeartbeats 8000000
namespace Go.Proofs.YtjdomibbaemdnaaGreatDoor
namespace T
open Go.RowKit
theorem Ay (s:ByteArray) (E:Int) (w:World) (e0:(E==0)=false) (e1:(E != 0)=true)
  (h0:∀ (b:Nat) W,Sl W b [s]→Below w.heap.size w W→Calls Tryz.prog 21 #[.slice (some ⟨b,0,none⟩) 1 1] W fun e W'=>e = .returned (.int .i64 E)∧Below W.heap.size W W')
  : Calls Tryz.prog 8 #[.string s] w fun e W'=>e = .returned (.tuple #[.string ⟨#[]⟩,.string ⟨#[]⟩,.int .i64 E])∧Below w.heap.size w W':=by
 have H0:=Ha h0;clear h0
 go_enter Tryz.func8,Tryz.ntmps8
 go_wp2_with fail
 have hS1:=Sl.new1 w s 22
 have BB:=Ha ((Below.refl _ w).alloc (Nat.le_refl _) (.cells #[.string s] 22))
 generalize w.alloc (.cells #[.string s] 22)=v0 at *
 generalize hk0:w.heap.size=k0 at hS1
 refine (H0.out _ _ hS1 BB.out).mono ?_
 rintro e v1 ⟨rfl,b⟩
 have HB:=Ha (BB.out.trans (b.mono BB.out.size));clear b BB hS1 hk0 H0
 go_wp2
 go_ret3
 exact ⟨rfl,HB.out⟩
theorem Az (s:ByteArray) (w:World)
  (h0:∀ (b:Nat) W,Sl W b [s]→Below w.heap.size w W→Calls Tryz.prog 21 #[.slice (some ⟨b,0,none⟩) 1 1] W fun e W'=>e = .returned (.int .i64 0)∧Below W.heap.size W W')
  (h1:∀ W,Below w.heap.size w W→Calls Tryz.prog 27 #[.string s] W fun e W'=>e = .returned (.int .i64 (-1))∧Below W.heap.size W W')
  : Calls Tryz.prog 8 #[.string s] w fun e W'=>e = .returned (.tuple #[.string ⟨#[]⟩,.string ⟨#[]⟩,.int .i64 2])∧Below w.heap.size w W':=by
 have H0:=Ha h0;clear h0
 have O:=Ha (h1);clear h1
 go_enter Tryz.func8,Tryz.ntmps8
 go_wp2_with fail
 have hS1:=Sl.new1 w s 22
 have BB:=Ha ((Below.refl _ w).alloc (Nat.le_refl _) (.cells #[.string s] 22))
 generalize w.alloc (.cells #[.string s] 22)=v0 at *
 generalize hk0:w.heap.size=k0 at hS1
 refine (H0.out _ _ hS1 BB.out).mono ?_
 rintro e v1 ⟨rfl,b⟩
 have HB:=Ha (BB.out.trans (b.mono BB.out.size));clear b BB hS1 hk0 H0
 go_wp2_with fail
 refine (O.out _ HB.out).mono ?_
 rintro e w1 ⟨rfl,b⟩
 replace HB:=Ha (HB.out.trans (b.mono HB.out.size));clear b
 go_wp2
 go_ret3
 exact ⟨rfl,HB.out⟩
theorem yX (s:ByteArray) (w:World)
  (h0:∀ (b:Nat) W,Sl W b [s]→Below w.heap.size w W→Calls Tryz.prog 21 #[.slice (some ⟨b,0,none⟩) 1 1] W fun e W'=>e = .returned (.int .i64 0)∧Below W.heap.size W W')
  (h1:∀ W,Below w.heap.size w W→Calls Tryz.prog 27 #[.string s] W fun e W'=>e = .returned (.int .i64 0)∧Below W.heap.size W W')
  (h2:∀ W,Below w.heap.size w W→Calls Tryz.prog 27 #[.string s] W fun e W'=>e = .returned (.int .i64 0)∧Below W.heap.size W W')
  : Calls Tryz.prog 8 #[.string s] w fun e W'=>e = .returned (.tuple #[.string ⟨#[48]⟩,.string ⟨#[49]⟩,.int .i64 0])∧Below w.heap.size w W':=by
 have H0:=Ha h0;clear h0
 have O:=Ha (Hb h1 (h2));clear h1 h2
 go_enter Tryz.func8,Tryz.ntmps8
 go_wp2_with fail
 have hS1:=Sl.new1 w s 22
 have BB:=Ha ((Below.refl _ w).alloc (Nat.le_refl _) (.cells #[.string s] 22))
 generalize w.alloc (.cells #[.string s] 22)=v0 at *
 generalize hk0:w.heap.size=k0 at hS1
 refine (H0.out _ _ hS1 BB.out).mono ?_
 rintro e v1 ⟨rfl,b⟩
 have HB:=Ha (BB.out.trans (b.mono BB.out.size));clear b BB hS1 hk0 H0
 go_wp2_with fail
 refine (O.out.1 _ HB.out).mono ?_
 rintro e w1 ⟨rfl,b⟩
 replace HB:=Ha (HB.out.trans (b.mono HB.out.size));clear b
 go_wp2_with fail
 refine (O.out.2 _ HB.out).mono ?_
 rintro e w2 ⟨rfl,b⟩
 replace HB:=Ha (HB.out.trans (b.mono HB.out.size));clear b
 go_wp2
 go_ret3
 exact ⟨rfl,HB.out⟩
theorem Bz (s p d u n k r c:ByteArray) (x:Int) (w:World)
  (h0:∀ (b:Nat) W,Sl W b [s]→Below w.heap.size w W→Calls Tryz.prog 21 #[.slice (some ⟨b,0,none⟩) 1 1] W fun e W'=>e = .returned (.int .i64 0)∧Below W.heap.size W W')
  (h1:∀ W,Below w.heap.size w W→Calls Tryz.prog 27 #[.string s] W fun e W'=>e = .returned (.int .i64 1)∧Below W.heap.size W W')
  (h2:∀ W,Below w.heap.size w W→Calls Tryz.prog 27 #[.string s] W fun e W'=>e = .returned (.int .i64 1)∧Below W.heap.size W W')
  (h3:∀ W,Below w.heap.size w W→Calls Tryz.prog 28 #[.string s] W fun e W'=>e = .returned (.tuple #[.string p,.string d,.int .i64 x])∧Below W.heap.size W W')
  (h4:∀ W,Below w.heap.size w W→Calls Tryz.prog 30 #[.string p,.string d] W fun e W'=>e = .returned (.string u)∧Below W.heap.size W W')
  (h5:∀ W,Below w.heap.size w W→Calls Tryz.prog 29 #[.string u] W fun e W'=>e = .returned (.tuple #[.string n,.string k])∧Below W.heap.size W W')
  (h6:∀ W,Below w.heap.size w W→Calls Tryz.prog 31 #[.string n] W fun e W'=>e = .returned (.tuple #[.string r,.bool false])∧Below W.heap.size W W')
  (h7:∀ W,Below w.heap.size w W→Calls Tryz.prog 32 #[.string k,.string d] W fun e W'=>e = .returned (.string c)∧Below W.heap.size W W')
  : Calls Tryz.prog 8 #[.string s] w fun e W'=>e = .returned (.tuple #[.string c,.string n,.int .i64 0])∧Below w.heap.size w W':=by
 have H0:=Ha h0;clear h0
 have O:=Ha (Hb h1 (Hb h2 (Hb h3 (Hb h4 (Hb h5 (Hb h6 (h7)))))));clear h1 h2 h3 h4 h5 h6 h7
 go_enter Tryz.func8,Tryz.ntmps8
 go_wp2_with fail
 have hS1:=Sl.new1 w s 22
 have BB:=Ha ((Below.refl _ w).alloc (Nat.le_refl _) (.cells #[.string s] 22))
 generalize w.alloc (.cells #[.string s] 22)=v0 at *
 generalize hk0:w.heap.size=k0 at hS1
 refine (H0.out _ _ hS1 BB.out).mono ?_
 rintro e v1 ⟨rfl,b⟩
 have HB:=Ha (BB.out.trans (b.mono BB.out.size));clear b BB hS1 hk0 H0
 go_wp2_with fail
 refine (O.out.1 _ HB.out).mono ?_
 rintro e w1 ⟨rfl,b⟩
 replace HB:=Ha (HB.out.trans (b.mono HB.out.size));clear b
 go_wp2_with fail
 refine (O.out.2.1 _ HB.out).mono ?_
 rintro e w2 ⟨rfl,b⟩
 replace HB:=Ha (HB.out.trans (b.mono HB.out.size));clear b
 go_wp2_with fail
 refine (O.out.2.2.1 _ HB.out).mono ?_
 rintro e w3 ⟨rfl,b⟩
 replace HB:=Ha (HB.out.trans (b.mono HB.out.size));clear b
 go_wp2_with fail
 refine (O.out.2.2.2.1 _ HB.out).mono ?_
 rintro e w4 ⟨rfl,b⟩
 replace HB:=Ha (HB.out.trans (b.mono HB.out.size));clear b
 go_wp2_with fail
 refine (O.out.2.2.2.2.1 _ HB.out).mono ?_
 rintro e w5 ⟨rfl,b⟩
 replace HB:=Ha (HB.out.trans (b.mono HB.out.size));clear b
 go_wp2_with fail
 refine (O.out.2.2.2.2.2.1 _ HB.out).mono ?_
 rintro e w6 ⟨rfl,b⟩
 replace HB:=Ha (HB.out.trans (b.mono HB.out.size));clear b
 go_wp2_with fail
 refine (O.out.2.2.2.2.2.2 _ HB.out).mono ?_
 rintro e w7 ⟨rfl,b⟩
 replace HB:=Ha (HB.out.trans (b.mono HB.out.size));clear b
 go_wp2
 go_ret3
 exact ⟨rfl,HB.out⟩
theorem AA (s p d u n k r c m:ByteArray) (x:Int) (w:World)
  (h0:∀ (b:Nat) W,Sl W b [s]→Below w.heap.size w W→Calls Tryz.prog 21 #[.slice (some ⟨b,0,none⟩) 1 1] W fun e W'=>e = .returned (.int .i64 0)∧Below W.heap.size W W')
  (h1:∀ W,Below w.heap.size w W→Calls Tryz.prog 27 #[.string s] W fun e W'=>e = .returned (.int .i64 1)∧Below W.heap.size W W')
  (h2:∀ W,Below w.heap.size w W→Calls Tryz.prog 27 #[.string s] W fun e W'=>e = .returned (.int .i64 1)∧Below W.heap.size W W')
  (h3:∀ W,Below w.heap.size w W→Calls Tryz.prog 28 #[.string s] W fun e W'=>e = .returned (.tuple #[.string p,.string d,.int .i64 x])∧Below W.heap.size W W')
  (h4:∀ W,Below w.heap.size w W→Calls Tryz.prog 30 #[.string p,.string d] W fun e W'=>e = .returned (.string u)∧Below W.heap.size W W')
  (h5:∀ W,Below w.heap.size w W→Calls Tryz.prog 29 #[.string u] W fun e W'=>e = .returned (.tuple #[.string n,.string k])∧Below W.heap.size W W')
  (h6:∀ W,Below w.heap.size w W→Calls Tryz.prog 31 #[.string n] W fun e W'=>e = .returned (.tuple #[.string r,.bool true])∧Below W.heap.size W W')
  (h7:∀ W,Below w.heap.size w W→Calls Tryz.prog 30 #[.string k,.string r] W fun e W'=>e = .returned (.string m)∧Below W.heap.size W W')
  (h8:∀ W,Below w.heap.size w W→Calls Tryz.prog 32 #[.string m,.string d] W fun e W'=>e = .returned (.string c)∧Below W.heap.size W W')
  : Calls Tryz.prog 8 #[.string s] w fun e W'=>e = .returned (.tuple #[.string c,.string ⟨#[49]⟩,.int .i64 0])∧Below w.heap.size w W':=by
 have H0:=Ha h0;clear h0
 have O:=Ha (Hb h1 (Hb h2 (Hb h3 (Hb h4 (Hb h5 (Hb h6 (Hb h7 (h8))))))));clear h1 h2 h3 h4 h5 h6 h7 h8
 go_enter Tryz.func8,Tryz.ntmps8
 go_wp2_with fail
 have hS1:=Sl.new1 w s 22
 have BB:=Ha ((Below.refl _ w).alloc (Nat.le_refl _) (.cells #[.string s] 22))
 generalize w.alloc (.cells #[.string s] 22)=v0 at *
 generalize hk0:w.heap.size=k0 at hS1
 refine (H0.out _ _ hS1 BB.out).mono ?_
 rintro e v1 ⟨rfl,b⟩
 have HB:=Ha (BB.out.trans (b.mono BB.out.size));clear b BB hS1 hk0 H0
 go_wp2_with fail
 refine (O.out.1 _ HB.out).mono ?_
 rintro e w1 ⟨rfl,b⟩
 replace HB:=Ha (HB.out.trans (b.mono HB.out.size));clear b
 go_wp2_with fail
 refine (O.out.2.1 _ HB.out).mono ?_
 rintro e w2 ⟨rfl,b⟩
 replace HB:=Ha (HB.out.trans (b.mono HB.out.size));clear b
 go_wp2_with fail
 refine (O.out.2.2.1 _ HB.out).mono ?_
 rintro e w3 ⟨rfl,b⟩
 replace HB:=Ha (HB.out.trans (b.mono HB.out.size));clear b
 go_wp2_with fail
 refine (O.out.2.2.2.1 _ HB.out).mono ?_
 rintro e w4 ⟨rfl,b⟩
 replace HB:=Ha (HB.out.trans (b.mono HB.out.size));clear b
 go_wp2_with fail
 refine (O.out.2.2.2.2.1 _ HB.out).mono ?_
 rintro e w5 ⟨rfl,b⟩
 replace HB:=Ha (HB.out.trans (b.mono HB.out.size));clear b
 go_wp2_with fail
 refine (O.out.2.2.2.2.2.1 _ HB.out).mono ?_
 rintro e w6 ⟨rfl,b⟩
 replace HB:=Ha (HB.out.trans (b.mono HB.out.size));clear b
 go_wp2_with fail
 refine (O.out.2.2.2.2.2.2.1 _ HB.out).mono ?_
 rintro e w7 ⟨rfl,b⟩
 replace HB:=Ha (HB.out.trans (b.mono HB.out.size));clear b
 go_wp2_with fail
 refine (O.out.2.2.2.2.2.2.2 _ HB.out).mono ?_
 rintro e w8 ⟨rfl,b⟩
 replace HB:=Ha (HB.out.trans (b.mono HB.out.size));clear b
 go_wp2
 go_ret3
 exact ⟨rfl,HB.out⟩
theorem AB (s a b:ByteArray) (E:Int) (w:World) (e0:(E==0)=false) (e1:(E != 0)=true)
  (h1:∀ W,Below w.heap.size w W→Calls Tryz.prog 8 #[.string s] W fun e W'=>e = .returned (.tuple #[.string a,.string b,.int .i64 E])∧Below W.heap.size W W')
  : Calls Tryz.prog 10 #[.string s] w fun e W'=>e = .returned (.tuple #[.string ⟨#[]⟩,.bool false,.int .i64 E])∧Below w.heap.size w W':=by
 have O:=Ha (h1);clear h1
 go_enter Tryz.func10,Tryz.ntmps10
 have HB:=Ha (Below.refl w.heap.size w)
 go_wp2_with fail
 refine (O.out _ HB.out).mono ?_
 rintro e w1 ⟨rfl,b⟩
 replace HB:=Ha (HB.out.trans (b.mono HB.out.size));clear b
 go_wp2
 go_ret3
 exact ⟨rfl,HB.out⟩
theorem BA (s a b:ByteArray) (w:World) (hb:(b.toList == [49])=false) (hb2:(b.toList != [49])=true)
  (h1:∀ W,Below w.heap.size w W→Calls Tryz.prog 8 #[.string s] W fun e W'=>e = .returned (.tuple #[.string a,.string b,.int .i64 0])∧Below W.heap.size W W')
  : Calls Tryz.prog 10 #[.string s] w fun e W'=>e = .returned (.tuple #[.string ⟨#[]⟩,.bool false,.int .i64 0])∧Below w.heap.size w W':=by
 have O:=Ha (h1);clear h1
 go_enter Tryz.func10,Tryz.ntmps10
 have HB:=Ha (Below.refl w.heap.size w)
 go_wp2_with fail
 refine (O.out _ HB.out).mono ?_
 rintro e w1 ⟨rfl,b⟩
 replace HB:=Ha (HB.out.trans (b.mono HB.out.size));clear b
 go_wp2
 go_ret3
 exact ⟨rfl,HB.out⟩
theorem AC (s a b:ByteArray) (w:World) (hb:(b.toList == [49])=true) (hb2:(b.toList != [49])=false)
  (h1:∀ W,Below w.heap.size w W→Calls Tryz.prog 8 #[.string s] W fun e W'=>e = .returned (.tuple #[.string a,.string b,.int .i64 0])∧Below W.heap.size W W')
  : Calls Tryz.prog 10 #[.string s] w fun e W'=>e = .returned (.tuple #[.string a,.bool true,.int .i64 0])∧Below w.heap.size w W':=by
 have O:=Ha (h1);clear h1
 go_enter Tryz.func10,Tryz.ntmps10
 have HB:=Ha (Below.refl w.heap.size w)
 go_wp2_with fail
 refine (O.out _ HB.out).mono ?_
 rintro e w1 ⟨rfl,b⟩
 replace HB:=Ha (HB.out.trans (b.mono HB.out.size));clear b
 go_wp2
 go_ret3
 exact ⟨rfl,HB.out⟩
theorem AD (s t:ByteArray) (E:Int) (w:World) (e0:(E==0)=false) (e1:(E != 0)=true)
  (h0:∀ (b:Nat) W,Sl W b [s,t]→Below w.heap.size w W→Calls Tryz.prog 21 #[.slice (some ⟨b,0,none⟩) 2 2] W fun e W'=>e = .returned (.int .i64 E)∧Below W.heap.size W W')
  : Calls Tryz.prog 12 #[.string s,.string t] w fun e W'=>e = .returned (.tuple #[.string ⟨#[]⟩,.bool false,.int .i64 E])∧Below w.heap.size w W':=by
 have H0:=Ha h0;clear h0
 go_enter Tryz.func12,Tryz.ntmps12
 go_wp2_with fail
 have hS1:=Sl.new2 w s t 22
 have BB:=Ha ((Below.refl _ w).alloc (Nat.le_refl _) (.cells #[.string s,.string t] 22))
 generalize w.alloc (.cells #[.string s,.string t] 22)=v0 at *
 generalize hk0:w.heap.size=k0 at hS1
 refine (H0.out _ _ hS1 BB.out).mono ?_
 rintro e v1 ⟨rfl,b⟩
 have HB:=Ha (BB.out.trans (b.mono BB.out.size));clear b BB hS1 hk0 H0
 go_wp2
 go_ret3
 exact ⟨rfl,HB.out⟩
theorem yY (s t:ByteArray) (w:World)
  (h0:∀ (b:Nat) W,Sl W b [s,t]→Below w.heap.size w W→Calls Tryz.prog 21 #[.slice (some ⟨b,0,none⟩) 2 2] W fun e W'=>e = .returned (.int .i64 0)∧Below W.heap.size W W')
  (h1:∀ W,Below w.heap.size w W→Calls Tryz.prog 27 #[.string s] W fun e W'=>e = .returned (.int .i64 (-1))∧Below W.heap.size W W')
  : Calls Tryz.prog 12 #[.string s,.string t] w fun e W'=>e = .returned (.tuple #[.string ⟨#[]⟩,.bool false,.int .i64 2])∧Below w.heap.size w W':=by
 have H0:=Ha h0;clear h0
 have O:=Ha (h1);clear h1
 go_enter Tryz.func12,Tryz.ntmps12
 go_wp2_with fail
 have hS1:=Sl.new2 w s t 22
 have BB:=Ha ((Below.refl _ w).alloc (Nat.le_refl _) (.cells #[.string s,.string t] 22))
 generalize w.alloc (.cells #[.string s,.string t] 22)=v0 at *
 generalize hk0:w.heap.size=k0 at hS1
 refine (H0.out _ _ hS1 BB.out).mono ?_
 rintro e v1 ⟨rfl,b⟩
 have HB:=Ha (BB.out.trans (b.mono BB.out.size));clear b BB hS1 hk0 H0
 go_wp2_with fail
 refine (O.out _ HB.out).mono ?_
 rintro e w1 ⟨rfl,b⟩
 replace HB:=Ha (HB.out.trans (b.mono HB.out.size));clear b
 go_wp2
 go_ret3
 exact ⟨rfl,HB.out⟩
theorem yZ (s t:ByteArray) (v:Int) (w:World) (v0:¬ v<0)
  (h0:∀ (b:Nat) W,Sl W b [s,t]→Below w.heap.size w W→Calls Tryz.prog 21 #[.slice (some ⟨b,0,none⟩) 2 2] W fun e W'=>e = .returned (.int .i64 0)∧Below W.heap.size W W')
  (h1:∀ W,Below w.heap.size w W→Calls Tryz.prog 27 #[.string s] W fun e W'=>e = .returned (.int .i64 v)∧Below W.heap.size W W')
  (h2:∀ W,Below w.heap.size w W→Calls Tryz.prog 27 #[.string t] W fun e W'=>e = .returned (.int .i64 (-1))∧Below W.heap.size W W')
  : Calls Tryz.prog 12 #[.string s,.string t] w fun e W'=>e = .returned (.tuple #[.string ⟨#[]⟩,.bool false,.int .i64 2])∧Below w.heap.size w W':=by
 have H0:=Ha h0;clear h0
 have O:=Ha (Hb h1 (h2));clear h1 h2
 go_enter Tryz.func12,Tryz.ntmps12
 go_wp2_with fail
 have hS1:=Sl.new2 w s t 22
 have BB:=Ha ((Below.refl _ w).alloc (Nat.le_refl _) (.cells #[.string s,.string t] 22))
 generalize w.alloc (.cells #[.string s,.string t] 22)=v0 at *
 generalize hk0:w.heap.size=k0 at hS1
 refine (H0.out _ _ hS1 BB.out).mono ?_
 rintro e v1 ⟨rfl,b⟩
 have HB:=Ha (BB.out.trans (b.mono BB.out.size));clear b BB hS1 hk0 H0
 go_wp2_with fail
 refine (O.out.1 _ HB.out).mono ?_
 rintro e w1 ⟨rfl,b⟩
 replace HB:=Ha (HB.out.trans (b.mono HB.out.size));clear b
 go_wp2_with fail
 refine (O.out.2 _ HB.out).mono ?_
 rintro e w2 ⟨rfl,b⟩
 replace HB:=Ha (HB.out.trans (b.mono HB.out.size));clear b
 go_wp2
 go_ret3
 exact ⟨rfl,HB.out⟩
theorem y3 (s t:ByteArray) (v:Int) (w:World) (v0:¬ v<0)
  (h0:∀ (b:Nat) W,Sl W b [s,t]→Below w.heap.size w W→Calls Tryz.prog 21 #[.slice (some ⟨b,0,none⟩) 2 2] W fun e W'=>e = .returned (.int .i64 0)∧Below W.heap.size W W')
  (h1:∀ W,Below w.heap.size w W→Calls Tryz.prog 27 #[.string s] W fun e W'=>e = .returned (.int .i64 v)∧Below W.heap.size W W')
  (h2:∀ W,Below w.heap.size w W→Calls Tryz.prog 27 #[.string t] W fun e W'=>e = .returned (.int .i64 0)∧Below W.heap.size W W')
  (h3:∀ W,Below w.heap.size w W→Calls Tryz.prog 27 #[.string t] W fun e W'=>e = .returned (.int .i64 0)∧Below W.heap.size W W')
  : Calls Tryz.prog 12 #[.string s,.string t] w fun e W'=>e = .returned (.tuple #[.string ⟨#[]⟩,.bool false,.int .i64 12])∧Below w.heap.size w W':=by
 have H0:=Ha h0;clear h0
 have O:=Ha (Hb h1 (Hb h2 (h3)));clear h1 h2 h3
 go_enter Tryz.func12,Tryz.ntmps12
 go_wp2_with fail
 have hS1:=Sl.new2 w s t 22
 have BB:=Ha ((Below.refl _ w).alloc (Nat.le_refl _) (.cells #[.string s,.string t] 22))
 generalize w.alloc (.cells #[.string s,.string t] 22)=v0 at *
 generalize hk0:w.heap.size=k0 at hS1
 refine (H0.out _ _ hS1 BB.out).mono ?_
 rintro e v1 ⟨rfl,b⟩
 have HB:=Ha (BB.out.trans (b.mono BB.out.size));clear b BB hS1 hk0 H0
 go_wp2_with fail
 refine (O.out.1 _ HB.out).mono ?_
 rintro e w1 ⟨rfl,b⟩
 replace HB:=Ha (HB.out.trans (b.mono HB.out.size));clear b
 go_wp2_with fail
 refine (O.out.2.1 _ HB.out).mono ?_
 rintro e w2 ⟨rfl,b⟩
 replace HB:=Ha (HB.out.trans (b.mono HB.out.size));clear b
 go_wp2_with fail
 refine (O.out.2.2 _ HB.out).mono ?_
 rintro e w3 ⟨rfl,b⟩
 replace HB:=Ha (HB.out.trans (b.mono HB.out.size));clear b
 go_wp2
 go_ret3
 exact ⟨rfl,HB.out⟩
theorem AE (s t z a b x y:ByteArray) (v q:Int) (h:Bool) (w:World) (v0:¬ v<0)
  (h0:∀ (b:Nat) W,Sl W b [s,t]→Below w.heap.size w W→Calls Tryz.prog 21 #[.slice (some ⟨b,0,none⟩) 2 2] W fun e W'=>e = .returned (.int .i64 0)∧Below W.heap.size W W')
  (h1:∀ W,Below w.heap.size w W→Calls Tryz.prog 27 #[.string s] W fun e W'=>e = .returned (.int .i64 v)∧Below W.heap.size W W')
  (h2:∀ W,Below w.heap.size w W→Calls Tryz.prog 27 #[.string t] W fun e W'=>e = .returned (.int .i64 1)∧Below W.heap.size W W')
  (h3:∀ W,Below w.heap.size w W→Calls Tryz.prog 27 #[.string t] W fun e W'=>e = .returned (.int .i64 1)∧Below W.heap.size W W')
  (h4:∀ W,Below w.heap.size w W→Calls Tryz.prog 32 #[.string s,.string t] W fun e W'=>e = .returned (.string z)∧Below W.heap.size W W')
  (h5:∀ W,Below w.heap.size w W→Calls Tryz.prog 28 #[.string z] W fun e W'=>e = .returned (.tuple #[.string a,.string b,.int .i64 q])∧Below W.heap.size W W')
  (h6:∀ W,Below w.heap.size w W→Calls Tryz.prog 31 #[.string a] W fun e W'=>e = .returned (.tuple #[.string x,.bool false])∧Below W.heap.size W W')
  (h7:∀ W,Below w.heap.size w W→Calls Tryz.prog 31 #[.string b] W fun e W'=>e = .returned (.tuple #[.string y,.bool h])∧Below W.heap.size W W')
  : Calls Tryz.prog 12 #[.string s,.string t] w fun e W'=>e = .returned (.tuple #[.string ⟨#[]⟩,.bool false,.int .i64 0])∧Below w.heap.size w W':=by
 have H0:=Ha h0;clear h0
 have O:=Ha (Hb h1 (Hb h2 (Hb h3 (Hb h4 (Hb h5 (Hb h6 (h7)))))));clear h1 h2 h3 h4 h5 h6 h7
 go_enter Tryz.func12,Tryz.ntmps12
 go_wp2_with fail
 have hS1:=Sl.new2 w s t 22
 have BB:=Ha ((Below.refl _ w).alloc (Nat.le_refl _) (.cells #[.string s,.string t] 22))
 generalize w.alloc (.cells #[.string s,.string t] 22)=v0 at *
 generalize hk0:w.heap.size=k0 at hS1
 refine (H0.out _ _ hS1 BB.out).mono ?_
 rintro e v1 ⟨rfl,b⟩
 have HB:=Ha (BB.out.trans (b.mono BB.out.size));clear b BB hS1 hk0 H0
 go_wp2_with fail
 refine (O.out.1 _ HB.out).mono ?_
 rintro e w1 ⟨rfl,b⟩
 replace HB:=Ha (HB.out.trans (b.mono HB.out.size));clear b
 go_wp2_with fail
 refine (O.out.2.1 _ HB.out).mono ?_
 rintro e w2 ⟨rfl,b⟩
 replace HB:=Ha (HB.out.trans (b.mono HB.out.size));clear b
 go_wp2_with fail
 refine (O.out.2.2.1 _ HB.out).mono ?_
 rintro e w3 ⟨rfl,b⟩
 replace HB:=Ha (HB.out.trans (b.mono HB.out.size));clear b
 go_wp2_with fail
 refine (O.out.2.2.2.1 _ HB.out).mono ?_
 rintro e w4 ⟨rfl,b⟩
 replace HB:=Ha (HB.out.trans (b.mono HB.out.size));clear b
 go_wp2_with fail
 refine (O.out.2.2.2.2.1 _ HB.out).mono ?_
 rintro e w5 ⟨rfl,b⟩
 replace HB:=Ha (HB.out.trans (b.mono HB.out.size));clear b
 go_wp2_with fail
 refine (O.out.2.2.2.2.2.1 _ HB.out).mono ?_
 rintro e w6 ⟨rfl,b⟩
 replace HB:=Ha (HB.out.trans (b.mono HB.out.size));clear b
 go_wp2_with fail
 refine (O.out.2.2.2.2.2.2 _ HB.out).mono ?_
 rintro e w7 ⟨rfl,b⟩
 replace HB:=Ha (HB.out.trans (b.mono HB.out.size));clear b
 go_wp2
 go_ret3
 exact ⟨rfl,HB.out⟩
theorem AF (s t z a b x y:ByteArray) (v q:Int) (w:World) (v0:¬ v<0)
  (h0:∀ (b:Nat) W,Sl W b [s,t]→Below w.heap.size w W→Calls Tryz.prog 21 #[.slice (some ⟨b,0,none⟩) 2 2] W fun e W'=>e = .returned (.int .i64 0)∧Below W.heap.size W W')
  (h1:∀ W,Below w.heap.size w W→Calls Tryz.prog 27 #[.string s] W fun e W'=>e = .returned (.int .i64 v)∧Below W.heap.size W W')
  (h2:∀ W,Below w.heap.size w W→Calls Tryz.prog 27 #[.string t] W fun e W'=>e = .returned (.int .i64 1)∧Below W.heap.size W W')
  (h3:∀ W,Below w.heap.size w W→Calls Tryz.prog 27 #[.string t] W fun e W'=>e = .returned (.int .i64 1)∧Below W.heap.size W W')
  (h4:∀ W,Below w.heap.size w W→Calls Tryz.prog 32 #[.string s,.string t] W fun e W'=>e = .returned (.string z)∧Below W.heap.size W W')
  (h5:∀ W,Below w.heap.size w W→Calls Tryz.prog 28 #[.string z] W fun e W'=>e = .returned (.tuple #[.string a,.string b,.int .i64 q])∧Below W.heap.size W W')
  (h6:∀ W,Below w.heap.size w W→Calls Tryz.prog 31 #[.string a] W fun e W'=>e = .returned (.tuple #[.string x,.bool true])∧Below W.heap.size W W')
  (h7:∀ W,Below w.heap.size w W→Calls Tryz.prog 31 #[.string b] W fun e W'=>e = .returned (.tuple #[.string y,.bool false])∧Below W.heap.size W W')
  : Calls Tryz.prog 12 #[.string s,.string t] w fun e W'=>e = .returned (.tuple #[.string ⟨#[]⟩,.bool false,.int .i64 0])∧Below w.heap.size w W':=by
 have H0:=Ha h0;clear h0
 have O:=Ha (Hb h1 (Hb h2 (Hb h3 (Hb h4 (Hb h5 (Hb h6 (h7)))))));clear h1 h2 h3 h4 h5 h6 h7
 go_enter Tryz.func12,Tryz.ntmps12
 go_wp2_with fail
 have hS1:=Sl.new2 w s t 22
 have BB:=Ha ((Below.refl _ w).alloc (Nat.le_refl _) (.cells #[.string s,.string t] 22))
 generalize w.alloc (.cells #[.string s,.string t] 22)=v0 at *
 generalize hk0:w.heap.size=k0 at hS1
 refine (H0.out _ _ hS1 BB.out).mono ?_
 rintro e v1 ⟨rfl,b⟩
 have HB:=Ha (BB.out.trans (b.mono BB.out.size));clear b BB hS1 hk0 H0
 go_wp2_with fail
 refine (O.out.1 _ HB.out).mono ?_
 rintro e w1 ⟨rfl,b⟩
 replace HB:=Ha (HB.out.trans (b.mono HB.out.size));clear b
 go_wp2_with fail
 refine (O.out.2.1 _ HB.out).mono ?_
 rintro e w2 ⟨rfl,b⟩
 replace HB:=Ha (HB.out.trans (b.mono HB.out.size));clear b
 go_wp2_with fail
 refine (O.out.2.2.1 _ HB.out).mono ?_
 rintro e w3 ⟨rfl,b⟩
 replace HB:=Ha (HB.out.trans (b.mono HB.out.size));clear b
 go_wp2_with fail
 refine (O.out.2.2.2.1 _ HB.out).mono ?_
 rintro e w4 ⟨rfl,b⟩
 replace HB:=Ha (HB.out.trans (b.mono HB.out.size));clear b
 go_wp2_with fail
 refine (O.out.2.2.2.2.1 _ HB.out).mono ?_
 rintro e w5 ⟨rfl,b⟩
 replace HB:=Ha (HB.out.trans (b.mono HB.out.size));clear b
 go_wp2_with fail
 refine (O.out.2.2.2.2.2.1 _ HB.out).mono ?_
 rintro e w6 ⟨rfl,b⟩
 replace HB:=Ha (HB.out.trans (b.mono HB.out.size));clear b
 go_wp2_with fail
 refine (O.out.2.2.2.2.2.2 _ HB.out).mono ?_
 rintro e w7 ⟨rfl,b⟩
 replace HB:=Ha (HB.out.trans (b.mono HB.out.size));clear b
 go_wp2
 go_ret3
 exact ⟨rfl,HB.out⟩
theorem AG (s t z a b x y:ByteArray) (v q:Int) (c:ByteArray) (w:World) (v0:¬ v<0)
  (h0:∀ (b:Nat) W,Sl W b [s,t]→Below w.heap.size w W→Calls Tryz.prog 21 #[.slice (some ⟨b,0,none⟩) 2 2] W fun e W'=>e = .returned (.int .i64 0)∧Below W.heap.size W W')
  (h1:∀ W,Below w.heap.size w W→Calls Tryz.prog 27 #[.string s] W fun e W'=>e = .returned (.int .i64 v)∧Below W.heap.size W W')
  (h2:∀ W,Below w.heap.size w W→Calls Tryz.prog 27 #[.string t] W fun e W'=>e = .returned (.int .i64 1)∧Below W.heap.size W W')
  (h3:∀ W,Below w.heap.size w W→Calls Tryz.prog 27 #[.string t] W fun e W'=>e = .returned (.int .i64 1)∧Below W.heap.size W W')
  (h4:∀ W,Below w.heap.size w W→Calls Tryz.prog 32 #[.string s,.string t] W fun e W'=>e = .returned (.string z)∧Below W.heap.size W W')
  (h5:∀ W,Below w.heap.size w W→Calls Tryz.prog 28 #[.string z] W fun e W'=>e = .returned (.tuple #[.string a,.string b,.int .i64 q])∧Below W.heap.size W W')
  (h6:∀ W,Below w.heap.size w W→Calls Tryz.prog 31 #[.string a] W fun e W'=>e = .returned (.tuple #[.string x,.bool true])∧Below W.heap.size W W')
  (h7:∀ W,Below w.heap.size w W→Calls Tryz.prog 31 #[.string b] W fun e W'=>e = .returned (.tuple #[.string y,.bool true])∧Below W.heap.size W W')
  (h8:∀ W,Below w.heap.size w W→Calls Tryz.prog 32 #[.string x,.string y] W fun e W'=>e = .returned (.string c)∧Below W.heap.size W W')
  : Calls Tryz.prog 12 #[.string s,.string t] w fun e W'=>e = .returned (.tuple #[.string c,.bool true,.int .i64 0])∧Below w.heap.size w W':=by
 have H0:=Ha h0;clear h0
 have O:=Ha (Hb h1 (Hb h2 (Hb h3 (Hb h4 (Hb h5 (Hb h6 (Hb h7 (h8))))))));clear h1 h2 h3 h4 h5 h6 h7 h8
 go_enter Tryz.func12,Tryz.ntmps12
 go_wp2_with fail
 have hS1:=Sl.new2 w s t 22
 have BB:=Ha ((Below.refl _ w).alloc (Nat.le_refl _) (.cells #[.string s,.string t] 22))
 generalize w.alloc (.cells #[.string s,.string t] 22)=v0 at *
 generalize hk0:w.heap.size=k0 at hS1
 refine (H0.out _ _ hS1 BB.out).mono ?_
 rintro e v1 ⟨rfl,b⟩
 have HB:=Ha (BB.out.trans (b.mono BB.out.size));clear b BB hS1 hk0 H0
 go_wp2_with fail
 refine (O.out.1 _ HB.out).mono ?_
 rintro e w1 ⟨rfl,b⟩
 replace HB:=Ha (HB.out.trans (b.mono HB.out.size));clear b
 go_wp2_with fail
 refine (O.out.2.1 _ HB.out).mono ?_
 rintro e w2 ⟨rfl,b⟩
 replace HB:=Ha (HB.out.trans (b.mono HB.out.size));clear b
 go_wp2_with fail
 refine (O.out.2.2.1 _ HB.out).mono ?_
 rintro e w3 ⟨rfl,b⟩
 replace HB:=Ha (HB.out.trans (b.mono HB.out.size));clear b
 go_wp2_with fail
 refine (O.out.2.2.2.1 _ HB.out).mono ?_
 rintro e w4 ⟨rfl,b⟩
 replace HB:=Ha (HB.out.trans (b.mono HB.out.size));clear b
 go_wp2_with fail
 refine (O.out.2.2.2.2.1 _ HB.out).mono ?_
 rintro e w5 ⟨rfl,b⟩
 replace HB:=Ha (HB.out.trans (b.mono HB.out.size));clear b
 go_wp2_with fail
 refine (O.out.2.2.2.2.2.1 _ HB.out).mono ?_
 rintro e w6 ⟨rfl,b⟩
 replace HB:=Ha (HB.out.trans (b.mono HB.out.size));clear b
 go_wp2_with fail
 refine (O.out.2.2.2.2.2.2.1 _ HB.out).mono ?_
 rintro e w7 ⟨rfl,b⟩
 replace HB:=Ha (HB.out.trans (b.mono HB.out.size));clear b
 go_wp2_with fail
 refine (O.out.2.2.2.2.2.2.2 _ HB.out).mono ?_
 rintro e w8 ⟨rfl,b⟩
 replace HB:=Ha (HB.out.trans (b.mono HB.out.size));clear b
 go_wp2
 go_ret3
 exact ⟨rfl,HB.out⟩
end T
namespace T
open Go.Proofs.YtjdomibbaemdnaaGreatDoor Go.RowKit Go.Lib
theorem oP {k:Nat} {l:List UInt8} (h:Lib.itoa (k:Int)=l):aa (k:Int)=⟨l.toArray⟩:=gp _ _ h
theorem vk (s t:ByteArray) (a b c d:Int) (w:World) (ha:short a) (hb:short b) (hc:short c) (hd:short d) (h1:short (a*d)) (h2:short (b*c)) (h3:short (a*d*d)) (h4:short (b*c*c)) (ht:Tab w)
  (p1:∀ W,Below w.heap.size w W→Calls Tryz.prog 25 #[.string s] W fun e W'=>e = .returned (.agg #[.string (aa a),.string (aa b)])∧Below W.heap.size W W')
  (p2:∀ W,Below w.heap.size w W→Calls Tryz.prog 25 #[.string t] W fun e W'=>e = .returned (.agg #[.string (aa c),.string (aa d)])∧Below W.heap.size W W') :
  Calls Tryz.prog 44 #[.string s,.string t] w fun e W'=>e = .returned (.agg #[.string (aa (a*d*d)),.string (aa (b*c*c))])∧Below w.heap.size w W':=by
 have ct:=fun x y z v W (hx:short x) (hy:short y) (hz:short z) (hv:short v) (h1:short (x*z)) (h2:short (y*v)) (hW:Below w.heap.size w W)=>zT x y z v W hx hy hz hv h1 h2 (ht.next hW)
 have ci:=fun W=>pC (aa c) (aa d) W
 have C:=Ha (Hb p1 (Hb p2 (Hb ct ci)));clear ct ci p1 p2 ht
 go_enter Tryz.func44,Tryz.ntmps44
 go_wp2_with fail
 have HB:=Ha (Hb (Blk.new w #[.string ⟨#[]⟩,.string ⟨#[]⟩] 47) ((Below.refl _ w).alloc (Nat.le_refl _) (.cells #[.string ⟨#[]⟩,.string ⟨#[]⟩] 47)))
 generalize w.alloc (.cells #[.string ⟨#[]⟩,.string ⟨#[]⟩] 47)=W0 at *
 generalize hk:w.heap.size=k at *
 have HK:=Ha hk;clear hk
 refine (C.out.2.1 _ (HB.out.2)).mono ?_
 rintro e w1 ⟨rfl,b⟩
 replace HB:=Ha (Hb (HB.out.1.next b)  (HB.out.2.trans (b.mono (by have h1:=HB.out.2.size;have h2:=HK.out;omega))));clear b;have e00:=HB.out.1.cell 0 (.string ⟨#[]⟩) rfl;have f00:=HB.out.1.free 0;have e01:=HB.out.1.cell 1 (.string ⟨#[]⟩) rfl;have f01:=HB.out.1.free 1
 go_wp2_with fail
 refine (C.out.2.2.2 _).mono ?_
 rintro e w2 ⟨rfl,b⟩
 replace HB:=Ha (Hb (HB.out.1.next b)  (HB.out.2.trans (b.mono (by have h1:=HB.out.2.size;have h2:=HK.out;omega))));clear b;have e00:=HB.out.1.cell 0 (.string ⟨#[]⟩) rfl;have f00:=HB.out.1.free 0;have e01:=HB.out.1.cell 1 (.string ⟨#[]⟩) rfl;have f01:=HB.out.1.free 1
 go_wp2
 have hlt:=HB.out.1.lt
 have hle:=HB.out.2.size
 have HN:=Ha (Hb (HB.out.1.alloc (.cells #[.string (aa d),.string (aa c)] 47)) (Hb (Blk.new w2 #[.string (aa d),.string (aa c)] 47) (HB.out.2.alloc (by have:=HB.out.2.size;rw [HK.out] at this;exact this) (.cells #[.string (aa d),.string (aa c)] 47))))
 clear HB
 have HB:=HN;clear HN
 generalize w2.alloc (.cells #[.string (aa d),.string (aa c)] 47)=W3 at *
 generalize w2.heap.size=m at *
 have HD:=Ha (Hb HB.out.1.drew (Hb HB.out.2.1.drew HB.out.2.2.drew));clear HB;have HB:=HD;clear HD
 have e00:=HB.out.1.cell 0 (.string ⟨#[]⟩) rfl;have f00:=HB.out.1.free 0;have e01:=HB.out.1.cell 1 (.string ⟨#[]⟩) rfl;have f01:=HB.out.1.free 1;have e10:=HB.out.2.1.cell 0 (.string (aa d)) rfl;have e11:=HB.out.2.1.cell 1 (.string (aa c)) rfl
 go_region_held3 (fun w'=>w'.cell? ⟨m,0,none⟩=some (.string (aa d))∧w'.cell? ⟨m,1,none⟩=some (.string (aa c))) (first | exact ⟨e10,e11⟩ | (go_keep;done) | ((try dsimp only);(refine ⟨?_,?_⟩ <;> (exact dU (by omega) (by assumption)))))
  (first | (go_at_call 25;refine (C.out.1 _ (HB.out.2.2)).mono ?_;rintro e w4 ⟨rfl,b⟩;replace HB:=Ha (Hb (HB.out.1.next b) (Hb (HB.out.2.1.next b) (HB.out.2.2.trans (b.mono (by have h1:=HB.out.2.2.size;have h2:=HK.out;omega)))));clear b;have e00:=HB.out.1.cell 0 (.string ⟨#[]⟩) rfl;have f00:=HB.out.1.free 0;have e01:=HB.out.1.cell 1 (.string ⟨#[]⟩) rfl;have f01:=HB.out.1.free 1;have e10:=HB.out.2.1.cell 0 (.string (aa d)) rfl;have e11:=HB.out.2.1.cell 1 (.string (aa c)) rfl) | (go_at_call 76;refine (C.out.2.2.1 _ _ _ _ _ (by assumption) (by assumption) (by assumption) (by assumption) (by assumption) (by assumption) (HB.out.2.2)).mono ?_;rintro e w4 ⟨rfl,b⟩;replace HB:=Ha (Hb (HB.out.1.next b) (Hb (HB.out.2.1.next b) (HB.out.2.2.trans (b.mono (by have h1:=HB.out.2.2.size;have h2:=HK.out;omega)))));clear b;have e00:=HB.out.1.cell 0 (.string ⟨#[]⟩) rfl;have f00:=HB.out.1.free 0;have e01:=HB.out.1.cell 1 (.string ⟨#[]⟩) rfl;have f01:=HB.out.1.free 1;have e10:=HB.out.2.1.cell 0 (.string (aa d)) rfl;have e11:=HB.out.2.1.cell 1 (.string (aa c)) rfl))
 all_goals
  have e00:=HB.out.1.cell 0 (.string ⟨#[]⟩) rfl;have f00:=HB.out.1.free 0;have e01:=HB.out.1.cell 1 (.string ⟨#[]⟩) rfl;have f01:=HB.out.1.free 1;have e10:=HB.out.2.1.cell 0 (.string (aa d)) rfl;have e11:=HB.out.2.1.cell 1 (.string (aa c)) rfl
  obtain ⟨g0,g1⟩:=yo e00 e01 (.string (aa (a*d*d))) (.string (aa (b*c*c)))
  go_wp2
  refine bodyPost_ret (v := .agg #[.string (aa (a*d*d)),.string (aa (b*c*c))]) (by simp [results,Tryz.results44,go_sem,g0,g1]) rfl ?_
  refine ⟨rfl,?_⟩
  rw [HK.out]
  exact cT HB.out.2.2 (by omega) _ _
theorem ov (a b r:ByteArray) (e0:Int) (w:World)
  (h:∀ W,Below w.heap.size w W→Calls Tryz.prog 90 #[.string a,.string b] W fun e W'=>e = .returned (.tuple #[.string r,.int .i64 e0])∧Below W.heap.size W W') :
  Calls Tryz.prog 46 #[.string a,.string b] w fun e W'=>e = .returned (.string r)∧Below w.heap.size w W':=by
 have C:=Ha h;clear h
 go_enter Tryz.func46,Tryz.ntmps46
 go_wp2_with fail
 refine (C.out _ (Below.refl _ _)).mono ?_
 rintro e w1 ⟨rfl,b⟩
 have B1:=Ha b;clear b
 go_wp2
 go_ret
 exact ⟨rfl,B1.out⟩
end T
namespace T
open Go.Proofs.YtjdomibbaemdnaaGreatDoor Go.RowKit Go.Lib
end T
namespace T
open Go.Proofs.YtjdomibbaemdnaaGreatDoor Go.Lib
def uN (q u:Rat):Nat:=q.num.natAbs*u.den*u.den
def uD (q u:Rat):Nat:=q.den*u.num.natAbs*u.num.natAbs
theorem t8 {u:Rat} (h:0<u):0<u.num.natAbs:=by
 have h1:=Rat.num_nonneg.2 (Rat.le_of_lt h)
 have h2:u.num≠0:=fun z=>by
  have:u=0:=Rat.num_eq_zero.1 z
  grind
 omega
theorem AH (q:Rat) {u:Rat} (h:0<u):0<uD q u:=Nat.mul_pos (Nat.mul_pos q.den_pos (t8 h)) (t8 h)
theorem AI {q u:Rat} (h:0≤q):q.num*u.den*u.den=(uN q u:Int):=by
 unfold uN;rw [Int.natCast_mul,Int.natCast_mul,iq h]
theorem AJ {q u:Rat} (h:0<u):q.den*u.num*u.num=(uD q u:Int):=by
 unfold uD;rw [Int.natCast_mul,Int.natCast_mul,iq (Rat.le_of_lt h)]
noncomputable def flN (q u:Rat):Nat:=aj (uN q u / uD q u)
theorem ua {n k:Nat} (h:n<aO (k+k)):aj n<aO k:=by
 refine jZ n _ ?_
 rwa [←jq]
end T
namespace T
open Go.Proofs.YtjdomibbaemdnaaGreatDoor Go.RowKit Go.Lib
theorem cE (q:Rat) (w:World) (hq:Sq q) :
  Calls Tryz.prog 25 #[.string (ah q)] w fun e W'=>e = .returned (.agg #[.string (aa q.num),.string (aa (q.den:Int))])∧Below w.heap.size w W':=by
 have c:=sB (ah q) w hq.size
 rwa [py,pz] at c
theorem kE {j:Nat} {z:Int} (hj:j≤300) (h:Bd j z):short z:=h.lt hj
theorem xl (q u:Rat) (j k:Nat) (w:World) (h0:0≤q) (u0:0<u) (hq:Bq j q) (hu:Bq k u) (hj:j+k+k≤300) (ht:Tab w) :
  Calls Tryz.prog 44 #[.string (ah q),.string (ah u)] w fun e W'=>e = .returned (.agg #[.string (aa (uN q u:Nat)),.string (aa (uD q u:Nat))])∧Below w.heap.size w W':=by
 have n1:=hq.num.mul hu.den
 have d1:=hq.den.mul hu.num
 have n2:=n1.mul hu.den
 have d2:=d1.mul hu.num
 have sq:Sq q:=hq.lim (by omega)
 have su:Sq u:=hu.lim (by omega)
 have c:=vk (ah q) (ah u) q.num (q.den:Int) u.num (u.den:Int) w sq.n sq.d su.n su.d (kE (by omega) n1) (kE (by omega) d1) (kE (by omega) n2) (kE (by omega) d2) ht
  (fun W _=>cE q W sq) (fun W _=>cE u W su)
 rwa [AI h0,AJ u0] at c
theorem zO {q u:Rat} {j k:Nat} (hq:Bq j q) (hu:Bq k u):uN q u<aO (j+k+k):=by
 have h:=(hq.num.mul hu.den).mul hu.den
 unfold Bd at h
 rwa [Int.natAbs_mul,Int.natAbs_mul,Int.natAbs_natCast] at h
theorem BC {q u:Rat} {j k:Nat} (hq:Bq j q) (hu:Bq k u):uD q u<aO (j+k+k):=by
 have h:=(hq.den.mul hu.num).mul hu.num
 unfold Bd at h
 rwa [Int.natAbs_mul,Int.natAbs_mul,Int.natAbs_natCast] at h
theorem ub {k:Nat} (h:k≤300) {n:Nat} (hn:n<aO k):n<lim:=Nat.lt_of_lt_of_le hn (aP h)
theorem AK {k n:Nat} (hk:1≤k) (h:n<aO k):Bq k ((n:Nat):Rat) :=
 ⟨by rw [Rat.num_natCast,Int.natAbs_natCast];exact h,by rw [Rat.den_natCast];exact Nat.one_lt_pow (by omega) (by decide)⟩
theorem xm (n:Nat):ah ((n:Nat):Rat)=aa (n:Int):=by
 rw [←fI,Rat.intCast_natCast]
theorem oQ (q:Rat) (rv:Value) (w:World) (h0:0≤q) (hq:Sq q) (ht:Tab w) (h1:cj q→rv = .tuple #[.string (ah (eE q)),.bool true]) (h2:¬ cj q→rv = .tuple #[.string ⟨#[]⟩,.bool false]) :
  Calls Tryz.prog 33 #[.agg #[.string (aa q.num),.string (aa (q.den:Int))]] w fun e W'=>e = .returned rv∧Below w.heap.size w W':=by
 have c:=yp q.num.natAbs q.den (ah (eE q)) rv w hq.1 hq.2 ht h1 h2 (fun hs W _ => ?_)
 ·rwa [iq h0] at c
 ·have e:eE q=Rat.divInt (aj q.num.natAbs:Nat) ((aj q.den:Nat):Int):=rfl
  have p:0<aj q.den:=Nat.pos_of_ne_zero fun z=>by have:=hs.2;rw [z] at this;have:=q.den_pos;omega
  rw [e]
  refine tT _ _ W (by omega) ?_ (aF.2 (Nat.lt_of_le_of_lt cz hq.1)) (aF.2 (Nat.lt_of_le_of_lt cz hq.2))
  rw [Int.natAbs_natCast,Int.natAbs_natCast]
  refine Nat.Coprime.coprime_dvd_left (k:=q.num.natAbs) ⟨_,hs.1.symm⟩ (Nat.Coprime.coprime_dvd_right (m:=q.den) ⟨_,hs.2.symm⟩ q.reduced)
end T
end Go.Proofs.YtjdomibbaemdnaaGreatDoor
