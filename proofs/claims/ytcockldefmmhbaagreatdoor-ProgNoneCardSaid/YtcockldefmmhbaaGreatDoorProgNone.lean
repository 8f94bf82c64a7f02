/- For every input, the law ProgNone of package mantletlaw21 returns true, and each argument reads afterwards as it read before, where the variables that its row lists hold what the program text lays in them; the card ties them to that text. No other conditions. -/
import Derived.Test.YtcockldefmmhbaaGreatDoorJ52
import Derived.Test.YtcockldefmmhbaaGreatDoorPrhV
import Derived.Test.YtcockldefmmhbaaGreatDoorComK
import Derived.Test.YtcockldefmmhbaaGreatDoorCards
import Derived.Test.YtcockldefmmhbaaGreatDoorTie
import Derived.ShutString
import Derived.ChangeOld
import Derived.LaidLaws
import Derived.LaidMore
import Derived.Lay
import Derived.SevenTiedAt
import Derived.Lib.SmallJoins
import Derived.OpenShut
import Derived.ProofKit
import Derived.MakeChecks
namespace Go.Proofs.YtcockldefmmhbaaGreatDoor.progNone
open Go.ChangeShapes Go.WideShapes Go.ChangeAt Go.RowKit Go.Mtl Go.Joins
open Go.ChangeMaps (open_string shut_string)
set_option linter.unusedVariables false
theorem own:ownKnob Tryz.prog.godebug=none:=by kernel_rfl
theorem laidOut:laidOutB Tryz.prog=true:=by kernel_rfl
abbrev L:List (String × DataW Unit):=Rows.progNoneRow.laid
set_option maxRecDepth 100000 in
theorem lifted (os:Os) (started:os.Started) (H:Type) (enc:TypeId × Value->H) :
  ReturnsInHanded {} Tryz.checked os 5 .any (fun w args=>(Rows.progNoneSpec.pre enc Tryz.prog Tryz.f5 Rows.progNoneRow.domain false w args/\laidMetH Tryz.prog L w)/\sizedMet enc Tryz.prog Tryz.f5 (OpenSpec.ofChange Rows.progNoneSpec) false w args) (Rows.progNoneSpec.post enc Tryz.prog Tryz.f5 false true false false):=by
 refine Mtl.returns_both (C:=Tryz.checked) (X:=fun w _=>laidMetH Tryz.prog L w) (fun _ _ _ hh h=>h.of_heap hh) own started (by kernel_rfl) Tryz.func5
  (ChangeSpec.witness_shaped (enc:=enc) (C:=Tryz.checked) (os:=os) (X:=fun w _=>laidMetH Tryz.prog L w) false (World.laidAll Tryz.prog os L) #[.agg #[.int .i64 0,.int .i64 0,.slice none 0 0,.string ByteArray.empty],.int .i64 0,.int .i64 0] 8 (World.laidAll_os _ _ _)
   (World.shaped_of_ZipB (by kernel_rfl) (by kernel_rfl)) (by kernel_rfl) (by kernel_rfl) (by kernel_rfl)
   (by rw [MakeChecks.laidMetH_plain _ _ _ (by kernel_rfl)];exact laidMet_laidAll _ (by kernel_rfl) (by kernel_rfl))) ?_
 intro W base args ds gs before hval0 hW hcnd _ hL hsh
 have hval:∀ (j:Nat) t v,Tryz.f5.params[j]? = some t->args[j]? = some v->Value.okWide Tryz.prog W .any base t v:=hval0
 have hW':=hW
 obtain ⟨p,q,hA0,hV,rfl,hfz,hnd⟩:=hW
 have hA:DataW.TrodAll enc Tryz.prog W 0 (fun _=>true) true Tryz.f5.params.toList args.toList ds p:=hA0
 rw [Tryz.params5] at hA hval
 obtain ⟨v0,vs0,d0,ds0,p0,q0,hargs,rfl,rfl,h0,r0⟩:=trodAll_cons hA
 obtain ⟨v1,vs1,d1,ds1,p1,q1,rfl,rfl,rfl,h1,r1⟩:=trodAll_cons r0
 obtain ⟨v2,vs2,d2,ds2,p2,q2,rfl,rfl,rfl,h2,r2⟩:=trodAll_cons r1
 obtain ⟨rfl,rfl,rfl⟩:=trodAll_nil r2
 obtain rfl:args = #[v0,v1,v2]:=by cases args;simp_all
 obtain ⟨rfl,rfl⟩:=trodVars_none hV
 have k0:=h0
 have lt0:∀ x ∈ p0,x.block < W.heap.size:=by obtain ⟨m,hm⟩:=k0;exact DataW.trod_lt m _ _ _ hm
 obtain ⟨y0_,rfl,o0,b0⟩:=Pg.open_op Pg.opTypes (hval 0 39 v0 rfl rfl) h0
 have k1:=h1
 have lt1:∀ x ∈ p1,x.block < W.heap.size:=by obtain ⟨m,hm⟩:=k1;exact DataW.trod_lt m _ _ _ hm
 obtain ⟨a1,rfl,_,_,w1⟩:=open_int Tryz.underlying3 (hval 1 3 v1 rfl rfl) h1
 have k2:=h2
 have lt2:∀ x ∈ p2,x.block < W.heap.size:=by obtain ⟨m,hm⟩:=k2;exact DataW.trod_lt m _ _ _ hm
 obtain ⟨a2,rfl,_,_,w2⟩:=open_int Tryz.underlying3 (hval 2 3 v2 rfl rfl) h2
 clear hA0 hval0
 have he:Pg.EnvL W:=Pg.env_of hL hsh
 refine (Pg.progNone_walk y0_ a1 a2 W he ⟨o0,b0⟩ (bounds_i64 w1) (bounds_i64 w2)).mono fun e W' ⟨hres,bel⟩=>?_
 subst hres
 exact ⟨_,rfl,_,_,_,[],_,[],hW',trodAll_mk1 (shut_bool Tryz.underlying4 _),(trodAll_cons_mk (Below.trod laidOut (by kernel_rfl) (of_decide_eq_true (by kernel_rfl)) k0 bel lt0) (trodAll_cons_mk (Below.trod laidOut (by kernel_rfl) (of_decide_eq_true (by kernel_rfl)) k1 bel lt1) (trodAll_cons_mk (Below.trod laidOut (by kernel_rfl) (of_decide_eq_true (by kernel_rfl)) k2 bel lt2) trodAll_mk0))),rfl,bel.frame _,fun h=>by cases h⟩
theorem at_inPlace:Tryz.prog.inPlace 5=Rows.progNoneRow.inPlace:=by kernel_rfl
theorem at_unfollowed:Tryz.prog.unfollowed 5=Rows.progNoneRow.unfollowed:=by kernel_rfl
theorem at_recurses:Tryz.prog.recurses 5=Rows.progNoneRow.recurses:=by kernel_rfl
theorem at_varsNamed:Tryz.prog.varsNamed 5=Rows.progNoneRow.named:=by kernel_rfl
theorem closed:joinedFacts Tryz.prog 5 Tryz.f5 Rows.progNoneSpec Rows.progNoneRow=true:=by
 unfold joinedFacts
 rw [at_inPlace,at_unfollowed,at_recurses,at_varsNamed]
 kernel_rfl
theorem over:Rows.ProgNoneSaid :=
 OpenClaim.holds_of_wide 5 Tryz.f5 rfl rfl rfl rfl rfl rfl rfl ⟨rfl,rfl,rfl,rfl,rfl⟩ rfl rfl rfl rfl rfl (by kernel_rfl) Tryz.func5 closed
  (of_decide_eq_true (by kernel_rfl)) (by unfold Func.isWrapper;first | (rw [if_pos (by decide +kernel)];kernel_rfl) | (rw [if_neg (by decide +kernel)];exact ⟨rfl,rfl⟩))
  (fun os started H enc _=>lifted os started H enc)
theorem named:Tryz.prog.funcNamed Rows.progNoneRow.func=some 5:=by kernel_rfl
theorem proved:Rows.ProgNoneCardSaid :=
 Claim7.holds_tied_plain_at .later [] Rows.progNoneCard.laidKinds true Rows.progNoneCard.stood.harness Rows.progNoneCard.stood.looks over (fun _ h=>by cases h) (by kernel_rfl) (fun _ h=>by cases h) progNone_row_tie rfl ⟨rfl,rfl⟩ (by kernel_rfl) rfl
  (fun f fn hf hfn=>by
   obtain rfl:f=5:=(Option.some.inj (named.symm.trans hf)).symm
   obtain rfl:fn=Tryz.f5:=(Option.some.inj (Tryz.func5.symm.trans hfn)).symm
   exact ⟨by kernel_rfl,fun j t ht=>by
    rw [Tryz.params5] at ht
    have hm:t ∈ [39,3,3]:=by simpa using Array.mem_of_getElem? ht
    have hall:([39,3,3].all fun u=>!Tryz.prog.wantsStandIn u)=true:=by kernel_rfl
    exact (show Tryz.prog.wantsStandIn t=false by simpa using List.all_eq_true.1 hall t hm)⟩)
  (by kernel_rfl)
#print axioms proved
end Go.Proofs.YtcockldefmmhbaaGreatDoor.progNone
