/-
  The texts SgH.
-/
import Derived.Test.YtpabpniaekldeaaGreatDoorFase07
import Derived.Test.YtpabpniaekldeaaGreatDoorCards
import Derived.Test.YtpabpniaekldeaaGreatDoorTie
import Derived.ProofKit
import Derived.OpenShut
import Derived.ShutString
import Derived.LaidMore
import Derived.Lib.SmallJoins
import Derived.Deep.DeepHandedRow
import Derived.Lib.LaidTab
set_option maxHeartbeats 25600000
namespace Go.Proofs.YtpabpniaekldeaaGreatDoor
open Go.Proofs.Tryz
set_option maxRecDepth 20000
open Go.ChangeShapes Go.WideShapes Go.ChangeAt Go.RowKit Go.Joins
open Go.ChangeMaps (open_string shut_string)
theorem kQ (H:Type)(enc:TypeId × Value->H)(W:World)(base:Nat)(args:Array Value)(ds gs:List (DataW H))(before:List MemPlace)
  (hval:∀(j:Nat) t v,Tryz.f4.params[j]?=some t->args[j]?=some v->Value.okWide prog W .any base t v)
  (hW:DataW.Whole enc prog Tryz.f4.params.toList Rows.frontsSpec.vars false W args.toList ds gs before) (hk:Rows.uptoSmall H (ds++gs)=true) (hL:laidMetH prog Rows.frontsUptoRow.laid W) :
  Calls prog 4 args W fun e W'=>∃v,e=.returned v/\Rows.frontsSpec.post enc prog Tryz.f4 false true false false W args v W':=by
 have hW':=hW;obtain⟨p,q,hA0,hV,rfl,hfz,hnd⟩:=hW;have hA:DataW.TrodAll enc prog W 0 (fun _=>true) true Tryz.f4.params.toList args.toList ds p:=hA0;rw[params4] at hA hval;obtain⟨v0,d0,rfl,rfl,h0⟩:=trodAll_one hA;obtain⟨rfl,rfl⟩:=trodVars_none hV;clear hA0
 have hb:Rows.uptoBulk d0<=1048576:=by
  have:=of_decide_eq_true hk;simp only[List.append_nil,Rows.uptoBulkAll] at this;omega
 obtain⟨L,hs⟩:=oS (hval 0 22 v0 rfl rfl) h0 hb;refine(Fronts_any v0 L W hs (glb_of hL)).mono fun e W' ⟨he,bel⟩=>?_;subst he
 exact⟨_,rfl,law_post hW' rfl rfl (by kernel_rfl) (fun gs' e=>by subst e; rfl) bel⟩
theorem fronts_met (os:Os):laidMet prog Rows.frontsUptoRow.laid ((World.doorLaid prog 29 os).forCall (fun _ _=>0) ⟨#[],#[.slice none 0 0],[]⟩).memory:=
 laidMet_of_run' 8 (by kernel_rfl) (by kernel_rfl)
theorem pj (os:Os){H:Type}(enc:TypeId × Value->H):∃places,DataW.whole enc prog ((World.doorLaid prog 29 os).forCall (fun _ _=>0) ⟨#[],#[.slice none 0 0],[]⟩).memory Tryz.f4.params.toList Rows.frontsSpec.vars false
  #[.slice none 0 0].toList 8=some ([.nil],[],places):=
 ⟨[],by kernel_rfl⟩
set_option maxRecDepth 100000 in
theorem m9 (os:Os)(started:os.Started)(H:Type)(enc:TypeId × Value->H)(F:Stop.Interp):
  ReturnsInHanded {} Tryz.checked os 4 .any ((Rows.OpenSpec.upto Rows.frontsSpec).preRow enc prog Tryz.f4 Rows.frontsUptoRow.domain false Rows.frontsUptoRow.laid) (((Rows.OpenSpec.upto Rows.frontsSpec).at F).post enc prog Tryz.f4 false true false false):=by
 obtain⟨places,hx⟩:=pj os enc
 refine returnsInHanded_of_row (C:=Tryz.checked) (s:=Rows.OpenSpec.upto Rows.frontsSpec) Tryz.own started (by kernel_rfl) func4
  (witness_row_at (enc:=enc) (C:=Tryz.checked) false (World.doorLaid prog 29 os) #[.slice none 0 0] rfl (by kernel_rfl) (by kernel_rfl) (by kernel_rfl)
   (OpenSpec.preRow_of_cond 8 hx (by kernel_rfl) (fun k hk=>by cases hk; kernel_rfl) (by kernel_rfl) (fronts_met os))) ?_
 intro W base args ds gs before hval hW _ hcond _ hL _ _;exact kQ H enc W base args ds gs before hval hW (hcond _ rfl) hL
theorem fronts_said:Rows.FrontsUptoSaid:=
 OpenClaim.holds_of_cond 4 Tryz.f4 rfl rfl rfl rfl rfl rfl rfl ⟨rfl,rfl,rfl,rfl,rfl⟩ rfl rfl rfl rfl rfl (by kernel_rfl) func4 (by kernel_rfl)
  (of_decide_eq_true (by kernel_rfl)) (by unfold Func.isWrapper; first|(rw[if_pos (by decide +kernel)]; kernel_rfl)|(rw[if_neg (by decide +kernel)]; exact⟨rfl,rfl⟩))
  (fun os started H enc _ F=>by rw[OpenClaim.pre_eq_preRow]; exact m9 os started H enc F)
theorem fronts_plain (f : FuncId)(fn : Func)(hf : Tryz.pinned.checked.prog.funcNamed "atlas/atlaslaw.Fronts" = some f)(hfn : Tryz.pinned.checked.prog.funcs[f]? = some fn):
  false=Tryz.pinned.checked.prog.looks []/\∀(j:Nat) t,fn.params[j]?=some t->Tryz.pinned.checked.prog.wantsStandIn t=false:=by
 obtain rfl : f = 4 := Option.some.inj ((show Tryz.prog.funcNamed "atlas/atlaslaw.Fronts" = some 4 by kernel_rfl).symm.trans hf) |>.symm
 obtain rfl:fn=Tryz.f4:=(Option.some.inj (func4.symm.trans hfn)).symm
 refine⟨by kernel_rfl,fun j t ht=>?_⟩
 rw[params4] at ht
 have hm:t∈[22]:=by simpa using Array.mem_of_getElem? ht
 have hall:([22].all fun u=>!prog.wantsStandIn u)=true:=by kernel_rfl
 exact(show prog.wantsStandIn t=false by simpa using List.all_eq_true.1 hall t hm)
theorem fronts_upto_card:Rows.FrontsUptoCardSaid:=
 Claim7.holds_tied_plain_at .later [] _ _ _ _ fronts_said (fun _ h=>by cases h) (by kernel_rfl) (fun _ h=>by cases h) frontsUpto_row_tie rfl ⟨rfl,rfl⟩ (by kernel_rfl) rfl fronts_plain (by kernel_rfl)
end Go.Proofs.YtpabpniaekldeaaGreatDoor
