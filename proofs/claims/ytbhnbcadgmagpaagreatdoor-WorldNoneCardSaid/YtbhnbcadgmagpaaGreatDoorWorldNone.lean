/- For every input, the law WorldNone of package mantletlaw22 returns true, and each argument reads afterwards as it read before, where the variables that its row lists hold what the program text lays in them; the card ties them to_ that text. No other conditions. -/
import Derived.Test.YtbhnbcadgmagpaaGreatDoorBih
import Derived.Test.YtbhnbcadgmagpaaGreatDoorJ1
import Derived.Test.YtbhnbcadgmagpaaGreatDoorJ45
import Derived.Test.YtbhnbcadgmagpaaGreatDoorJ35
import Derived.Test.YtbhnbcadgmagpaaGreatDoorJ3
import Derived.Test.YtbhnbcadgmagpaaGreatDoorCards
import Derived.Test.YtbhnbcadgmagpaaGreatDoorTie
set_option linter.unusedVariables false
set_option linter.unusedSimpArgs false
set_option maxRecDepth 100000
namespace Go.Proofs.YtbhnbcadgmagpaaGreatDoor.worldNone
open Go.ChangeShapes Go.WideShapes Go.ChangeAt Go.RowKit Go.aN Go.Joins
open Go.ChangeMaps (open_string shut_string)
theorem own:ownKnob Tryz.prog.godebug=none:=zk
theorem laidOut:laidOutB Tryz.prog=true:=zk
abbrev L:List (String×DataW Unit):=Rows.worldNoneRow.laid
theorem lifted(os:Os)(started:os.Started)(H:Type)(enc:TypeId×Value->H) :
  ReturnsInHanded {} Tryz.checked os 6 .any (λw args=>(Rows.worldNoneSpec.pre enc Tryz.prog Tryz.f6 Rows.worldNoneRow.domain false w args/\laidMetH Tryz.prog L w)/\sizedMet enc Tryz.prog Tryz.f6 (OpenSpec.ofChange Rows.worldNoneSpec) false w args) (Rows.worldNoneSpec.post enc Tryz.prog Tryz.f6 false true false false):=by
 refine aN.zO (C:=Tryz.checked) (X:=λw _=>laidMetH Tryz.prog L w) (λ_ _ _ hh h=>h.of_heap hh) own started zk Tryz.func6
  (ChangeSpec.witness_shaped (enc:=enc) (C:=Tryz.checked) (os:=os) (X:=λw _=>laidMetH Tryz.prog L w) false (World.laidAll Tryz.prog os L) #[.int .i64 0,.slice none 0 0] 8 (World.laidAll_os _ _ _)
   (World.shaped_of_ZipB zk zk) zk zk zk
   (by rw[MakeChecks.laidMetH_plain _ _ _ zk];exact laidMet_laidAll _ zk zk)) ?_
 intro W base args ds gs before Qo hW hcnd _ hL hsh
 have hval:∀(j:Nat) t v,Tryz.f6.params[j]? = some t->args[j]? = some v->Value.okWide Tryz.prog W .any base t v:=Qo
 have hW':=hW
 obtain⟨p,q,Zk,hV,rfl,hfz,hnd⟩:=hW
 have hA:DataW.TrodAll enc Tryz.prog W 0 (λ_=>true) true Tryz.f6.params.toList args.toList ds p:=Zk
 rw[Tryz.params6]at hA hval
 obtain⟨v0,vs0,d0,ds0,p0,q0,hargs,rfl,rfl,h0,r0⟩:=trodAll_cons hA
 obtain⟨v1,vs1,d1,ds1,p1,q1,rfl,rfl,rfl,h1,r1⟩:=trodAll_cons r0
 obtain⟨rfl,rfl,rfl⟩:=trodAll_nil r1
 obtain rfl:args = #[v0,v1]:=by cases args;simp_all
 obtain⟨rfl,rfl⟩:=trodVars_none hV
 have k0:=h0
 have lt0:∀x∈p0,x.block<W.heap.size:=by obtain⟨m,hm⟩:=k0;exact DataW.trod_lt m _ _ _ hm
 obtain⟨a0,rfl,_,_,w0⟩:=open_int Tryz.underlying3 (hval 0 3 v0 rfl rfl) h0
 have k1:=h1
 have lt1:∀x∈p1,x.block<W.heap.size:=by obtain⟨m,hm⟩:=k1;exact DataW.trod_lt m _ _ _ hm
 obtain⟨a1,Qz,vR,rfl⟩:=okWide_slice Tryz.underlying59 (hval 1 59 v1 rfl rfl)
 obtain⟨zs1,w1,c1,m1⟩:∃zs,Ints .i64 W W.heap.size a1 Qz zs/\Qz<=vR/\vR<=maxLen:=by
  obtain⟨fuel,hf⟩:=h1
  rcases open_ints Tryz.underlying59 Tryz.underlying3 zk hf with⟨hcs,_⟩ | ⟨x,l,c,zs,hcs,_,hl,hm,hz,_,hcell,lu⟩
  ·simp[Value.cells]at hcs;obtain⟨rfl,rfl,rfl⟩:=hcs;exact⟨[],Ints.empty _ _ _ _,Nat.le_refl _,Nat.zero_le _⟩
  ·simp[Value.cells]at hcs;obtain⟨rfl,rfl,rfl⟩:=hcs;obtain⟨ys,hb⟩:=aaF (len:=Qz) (by rw[hz];simp;omega) hcell lu;exact⟨ys,hb,hl,hm⟩
 clear Zk Qo
 have he:Pg.wB W:=Pg.iO hL hsh
 refine(Pg.aaE a0 a1 Qz vR zs1 W he (bounds_i64 w0) w1 c1 m1).mono λe W' ⟨hres,az⟩=>?_
 subst hres
 exact⟨_,rfl,_,_,_,[],_,[],hW',trodAll_mk1 (shut_bool Tryz.underlying4 _),(trodAll_cons_mk (Below.trod laidOut zk (of_decide_eq_true zk) k0 az lt0) (trodAll_cons_mk (Below.trod laidOut zk (of_decide_eq_true zk) k1 az lt1) trodAll_mk0)),rfl,az.frame _,λh=>by cases h⟩
theorem Et:Tryz.prog.inPlace 6=Rows.worldNoneRow.inPlace:=zk
theorem wL:Tryz.prog.unfollowed 6=Rows.worldNoneRow.unfollowed:=zk
theorem Cz:Tryz.prog.recurses 6=Rows.worldNoneRow.recurses:=zk
theorem zP:Tryz.prog.varsNamed 6=Rows.worldNoneRow.named:=zk
theorem closed:joinedFacts Tryz.prog 6 Tryz.f6 Rows.worldNoneSpec Rows.worldNoneRow=true:=by
 unfold joinedFacts;rw[Et,wL,Cz,zP]
 kernel_rfl
theorem over:Rows.WorldNoneSaid :=
 OpenClaim.holds_of_wide 6 Tryz.f6 rfl rfl rfl rfl rfl rfl rfl ⟨rfl,rfl,rfl,rfl,rfl⟩ rfl rfl rfl rfl rfl zk Tryz.func6 closed
  (of_decide_eq_true zk) (by unfold Func.isWrapper;first | (rw[if_pos (by decide +kernel)];kernel_rfl) | (rw[if_neg (by decide +kernel)];exact⟨rfl,rfl⟩))
  (λos started H enc _=>lifted os started H enc)
theorem named:Tryz.prog.funcNamed Rows.worldNoneRow.func=some 6:=zk
theorem proved:Rows.WorldNoneCardSaid :=
 Claim7.holds_tied_plain_at .later [] Rows.worldNoneCard.laidKinds true Rows.worldNoneCard.stood.harness Rows.worldNoneCard.stood.looks over (λ_ h=>by cases h) zk (λ_ h=>by cases h) worldNone_row_tie rfl ⟨rfl,rfl⟩ zk rfl
  (λf fn hf hfn=>by
   obtain rfl:f=6:=(Option.some.inj (named.symm.trans hf)).symm
   obtain rfl:fn=Tryz.f6:=(Option.some.inj (Tryz.func6.symm.trans hfn)).symm
   exact⟨by kernel_rfl,λj t ht=>by
    rw[Tryz.params6]at ht
    have hm:t∈[3,59]:=by simpa using Array.mem_of_getElem? ht
    have hall:([3,59].all λu=>!Tryz.prog.wantsStandIn u)=true:=zk
    exact(show Tryz.prog.wantsStandIn t=false by simpa using List.all_eq_true.1 hall t hm)⟩)
  zk
#print axioms proved
end Go.Proofs.YtbhnbcadgmagpaaGreatDoor.worldNone
