/- SchemaChecks, proved: for every input the statement answers true, and its arguments read afterwards as before (values whose parts lead back to themselves are not spoken of, as the row says). -/
import Derived.Test.YtmbpclknhkbbkaaGreatHsz
set_option linter.unusedSimpArgs false
set_option linter.unusedVariables false
set_option maxRecDepth 100000
namespace Go.Proofs.YtmbpclknhkbbkaaGreat
open Go.ChangeShapes Go.WideShapes Go.ChangeAt Go.RowKit Go.Joins
theorem checks_lifted (os:Os)(started:os.Started)(H:Type)(enc:TypeId × Value→H):
  ReturnsInHanded {} Tryz.checked os 4 .any (Rows.schemaChecksSpec.pre6 enc Tryz.prog Tryz.f4 Rows.schemaChecksRow.domain false) (Rows.schemaChecksSpec.post enc Tryz.prog Tryz.f4 false true false false):=by
 refine returnsInHanded_of_change_sized (C:=Tryz.checked) knob started (by kernel_rfl) Tryz.func4
  (ChangeSpec.witness6 (enc:=enc) (C:=Tryz.checked) false ⟨#[],#[.slice none 0 0],[]⟩ 8 (by kernel_rfl) (by kernel_rfl) (by kernel_rfl) (by kernel_rfl)) ?_
 intro W base args ds gs before hval0 hW _ hsz0 _
 have hsz:(DataW.weightsEach Tryz.prog (Tryz.f4.params.toList++Rows.schemaChecksSpec.plain.varTypes Tryz.prog) (ds++gs)).all (·≤reachBytes)=true:=hsz0
 have hval:∀(j:Nat) t v,Tryz.f4.params[j]?=some t→args[j]?=some v→Value.okWide Tryz.prog W .any base t v:=hval0
 have hW':=hW
 obtain⟨p,q,hA0,hV,rfl,_,_⟩:=hW
 have hA:DataW.TrodAll enc Tryz.prog W 0 (fun _=>true) true Tryz.f4.params.toList args.toList ds p:=hA0
 rw[Tryz.params4] at hA hval hsz
 obtain⟨v0,d0,rfl,rfl,h0⟩:=trodAll_one hA
 obtain⟨rfl,rfl⟩:=trodVars_none hV
 have hzz:∀(j:Nat) (t:TypeId) (d:DataW H),(#[23]:Array TypeId).toList[j]?=some t→[d0][j]?=some d→∀ n ∈ d.weights Tryz.prog t,n≤reachBytes:=fun j t d ht hd n hn=>by
  have h9:=List.all_eq_true.1 hsz n (DataW.weights_mem_each (j:=j) (t:=t) (d:=d) ?_ ?_ n hn)
  ·exact of_decide_eq_true h9
  ·have hj:=(List.getElem?_eq_some_iff.1 ht).1
   rw[List.getElem?_append_left hj];exact ht
  ·have hj:=(List.getElem?_eq_some_iff.1 hd).1
   rw[List.getElem?_append_left hj];exact hd
 have hk0:=h0
 obtain⟨f0,hf0⟩:=h0
 obtain⟨b0,len0,cap0,rfl⟩:=okWide_slice Tryz.underlying23 (hval 0 23 v0 rfl rfl)
 obtain⟨u0,s0,e0,hs0⟩:=open_schs (enc:=enc) (W:=W) (held:=true) (fuel:=f0) ⟨_,hf0,hzz 0 23 d0 rfl rfl⟩
 simp only[Value.cells,List.cons.injEq,and_true] at e0
 subst e0
 clear hA0 hval0 hsz0
 simp only[List.append_nil] at hW'
 have hlt:∀ y ∈ p,y.block<W.heap.size:=fun y hy=>by simpa using hW'.lt y hy
 refine(checks_walk _ s0 W hs0).mono fun e W' ⟨he,hb⟩=>?_
 subst he
 have r0:=Below.trod laidOut (by kernel_rfl) (of_decide_eq_true (by kernel_rfl)) hk0 hb (fun y hy=>hlt y (by simp[hy]))
 exact⟨_,rfl,_,_,_,[],p,[],hW',trodAll_mk1 (shut_bool Tryz.underlying4 true),trodAll_mk1 r0,rfl,hb.frame _,fun h=>by cases h⟩
theorem checks_holds:Rows.SchemaChecksSaid:=
 OpenClaim.holds_of_wide 4 Tryz.f4 rfl rfl rfl rfl rfl rfl rfl ⟨rfl,rfl,rfl,rfl,rfl⟩ rfl rfl rfl rfl rfl (by kernel_rfl) Tryz.func4 (by kernel_rfl)
  (of_decide_eq_true (by kernel_rfl)) (by unfold Func.isWrapper;first|(rw[if_pos (by decide +kernel)];kernel_rfl)|(rw[if_neg (by decide +kernel)];exact⟨rfl,rfl⟩))
  (fun os started H enc _=>checks_lifted os started H enc)
#print axioms checks_holds
end Go.Proofs.YtmbpclknhkbbkaaGreat
