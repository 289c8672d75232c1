/- Parts of the proof. -/
import Derived.Test.YtbhbhlfkdlfimaaGreatDoorQXF2
set_option linter.all false
set_option maxRecDepth 100000
set_option maxHeartbeats 8000000
namespace Go.Proofs.YtbhbhlfkdlfimaaGreatDoor
open Go.ChangeShapes Go.WideShapes Go.ChangeAt Go.RowKit
open Go.ChangeMaps (open_string shut_string)
theorem nL (os:Os) (started:os.Started) (H:Type) (enc:TypeId × Value→H) :
  ReturnsInHanded {} Tryz.checked os 4 .any (fun w args=>(Rows.topFieldSpec.pre enc Tryz.prog Tryz.f4 [] false w args∧laidMetH Tryz.prog lK w)∧sizedMet enc Tryz.prog Tryz.f4 (OpenSpec.ofChange Rows.topFieldSpec) false w args)
   (Rows.topFieldSpec.post enc Tryz.prog Tryz.f4 false true false false):=by
 refine returnsInHanded_of_change_and (C:=Tryz.checked) (X:=fun w _=>laidMetH Tryz.prog lK w) (fun _ _ _ hh h=>h.of_heap hh) own started (by kernel_rfl) Tryz.func4
  (ChangeSpec.witness_shaped (enc:=enc) (C:=Tryz.checked) (os:=os) (X:=fun w _=>laidMetH Tryz.prog lK w) false (World.doorLaid Tryz.prog 400 os) #[.string ⟨#[]⟩,.string ⟨#[]⟩,.string ⟨#[]⟩] 8 rfl (World.shaped_of_RefB (by kernel_rfl) (by kernel_rfl)) (by kernel_rfl) (by kernel_rfl) (by kernel_rfl) (zW os _)) ?_
 intro W base args ds gs before hval0 hW _ _ hL _
 have hval:∀ (j:Nat) t v,Tryz.f4.params[j]? = some t→args[j]? = some v→Value.okWide Tryz.prog W .any base t v:=hval0
 have hW':=hW
 obtain ⟨p,q,hA0,hV,rfl,hfz,hnd⟩:=hW
 have hA:DataW.TrodAll enc Tryz.prog W 0 (fun _=>true) true Tryz.f4.params.toList args.toList ds p:=hA0
 rw [Tryz.params4] at hA hval
 obtain ⟨v0,v1,v2,d0,d1,d2,p0,p1,p2,rfl,rfl,rfl,h0,h1,h2⟩:=trodAll_three hA
 obtain ⟨rfl,rfl⟩:=trodVars_none hV
 obtain ⟨s0,rfl,rfl,rfl,z0⟩:=open_string Tryz.underlying30 (hval 0 30 v0 rfl rfl) h0
 obtain ⟨s1,rfl,rfl,rfl,z1⟩:=open_string Tryz.underlying30 (hval 1 30 v1 rfl rfl) h1
 obtain ⟨s2,rfl,rfl,rfl,z2⟩:=open_string Tryz.underlying30 (hval 2 30 v2 rfl rfl) h2
 clear hA0 hval0
 refine (T.TopField_any s0 s1 s2 W z0 z1 z2 (te hL) (pU hL) (uU hL)).mono fun e W' ⟨he,bel⟩ => ?_
 subst he
 exact ⟨_,rfl,_,_,_,[],_,[],hW',trodAll_mk1 (shut_bool Tryz.underlying4 _),trodAll_mk3 (shut_string Tryz.underlying30 z0) (shut_string Tryz.underlying30 z1) (shut_string Tryz.underlying30 z2),rfl,bel.frame _,fun h=>by cases h⟩
end Go.Proofs.YtbhbhlfkdlfimaaGreatDoor
