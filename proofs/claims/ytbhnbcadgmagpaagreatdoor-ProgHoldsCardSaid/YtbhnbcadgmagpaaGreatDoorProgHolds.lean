/- For every input, the law ProgHolds of package mantletlaw21 returns true, and each argument reads afterwards as it read before, where the variables that its row lists hold what the program text lays in them; the card ties them to_ that text. No other conditions. -/
import Derived.Test.YtbhnbcadgmagpaaGreatDoorBii
import Derived.Test.YtbhnbcadgmagpaaGreatDoorJ1
import Derived.Test.YtbhnbcadgmagpaaGreatDoorJ44
import Derived.Test.YtbhnbcadgmagpaaGreatDoorJ35
import Derived.Test.YtbhnbcadgmagpaaGreatDoorJ3
import Derived.Test.YtbhnbcadgmagpaaGreatDoorCards
import Derived.Test.YtbhnbcadgmagpaaGreatDoorTie
set_option linter.unusedVariables false
set_option linter.unusedSimpArgs false
set_option maxRecDepth 100000
namespace Go.Proofs.YtbhnbcadgmagpaaGreatDoor.progHolds
open Go.ChangeShapes Go.WideShapes Go.ChangeAt Go.RowKit Go.aN Go.Joins
open Go.ChangeMaps (open_string shut_string)
theorem own:ownKnob Tryz.prog.godebug=none:=zk
theorem laidOut:laidOutB Tryz.prog=true:=zk
abbrev L:List (String×DataW Unit):=Rows.progHoldsRow.laid
theorem lifted(os:Os)(started:os.Started)(H:Type)(enc:TypeId×Value->H) :
  ReturnsInHanded {} Tryz.checked os 3 .any (λw args=>(Rows.progHoldsSpec.pre enc Tryz.prog Tryz.f3 Rows.progHoldsRow.domain false w args/\laidMetH Tryz.prog L w)/\sizedMet enc Tryz.prog Tryz.f3 (OpenSpec.ofChange Rows.progHoldsSpec) false w args) (Rows.progHoldsSpec.post enc Tryz.prog Tryz.f3 false true false false):=by
 refine aN.zO (C:=Tryz.checked) (X:=λw _=>laidMetH Tryz.prog L w) (λ_ _ _ hh h=>h.of_heap hh) own started zk Tryz.func3
  (ChangeSpec.witness_shaped (enc:=enc) (C:=Tryz.checked) (os:=os) (X:=λw _=>laidMetH Tryz.prog L w) false (World.laidAll Tryz.prog os L) #[.agg #[.int .i64 0,.int .i64 0,.int .i64 0,.int .i64 0,.int .i64 0,.int .i64 0,.int .i64 0,.int .i64 0,.int .i64 0,.int .i64 0,.int .i64 0,.int .i64 0,.int .i64 0,.int .i64 0,.int .i64 0,.int .i64 0,.int .i64 0,.int .i64 0],.slice none 0 0,.slice none 0 0,.slice none 0 0] 8 (World.laidAll_os _ _ _)
   (World.shaped_of_ZipB zk zk) zk zk zk
   (by rw[MakeChecks.laidMetH_plain _ _ _ zk];exact laidMet_laidAll _ zk zk)) ?_
 intro W base args ds gs before Qo hW hcnd _ hL hsh
 have hval:∀(j:Nat) t v,Tryz.f3.params[j]? = some t->args[j]? = some v->Value.okWide Tryz.prog W .any base t v:=Qo
 have hW':=hW
 obtain⟨p,q,Zk,hV,rfl,hfz,hnd⟩:=hW
 have hA:DataW.TrodAll enc Tryz.prog W 0 (λ_=>true) true Tryz.f3.params.toList args.toList ds p:=Zk
 rw[Tryz.params3]at hA hval
 obtain⟨v0,vs0,d0,ds0,p0,q0,hargs,rfl,rfl,h0,r0⟩:=trodAll_cons hA
 obtain⟨v1,vs1,d1,ds1,p1,q1,rfl,rfl,rfl,h1,r1⟩:=trodAll_cons r0
 obtain⟨v2,vs2,d2,ds2,p2,q2,rfl,rfl,rfl,h2,r2⟩:=trodAll_cons r1
 obtain⟨v3,vs3,d3,ds3,p3,q3,rfl,rfl,rfl,h3,r3⟩:=trodAll_cons r2
 obtain⟨rfl,rfl,rfl⟩:=trodAll_nil r3
 obtain rfl:args = #[v0,v1,v2,v3]:=by cases args;simp_all
 obtain⟨rfl,rfl⟩:=trodVars_none hV
 have k0:=h0
 have lt0:∀x∈p0,x.block<W.heap.size:=by obtain⟨m,hm⟩:=k0;exact DataW.trod_lt m _ _ _ hm
 obtain⟨z0_,n0_,t0_,rfl,bz0,bn0,bt0⟩:=Au.Mb Tryz.underlying24 zk zk Tryz.underlying3 Tryz.underlying22 zk zk (hval 0 24 v0 rfl rfl) h0
 have k1:=h1
 have lt1:∀x∈p1,x.block<W.heap.size:=by obtain⟨m,hm⟩:=k1;exact DataW.trod_lt m _ _ _ hm
 obtain⟨a1,Qz,vR,rfl⟩:=okWide_slice Tryz.underlying25 (hval 1 25 v1 rfl rfl)
 obtain⟨rs1,w1,o1⟩:=Dn (n:=0) Ru.IZ Tryz.underlying25 h1
 have k2:=h2
 have lt2:∀x∈p2,x.block<W.heap.size:=by obtain⟨m,hm⟩:=k2;exact DataW.trod_lt m _ _ _ hm
 obtain⟨a2,NF,cap2,rfl⟩:=okWide_slice Tryz.underlying26 (hval 2 26 v2 rfl rfl)
 obtain⟨xs2,l2_,w2,o2⟩:=Pg.Mc Pg.OU Tryz.underlying26 h2
 have k3:=h3
 have lt3:∀x∈p3,x.block<W.heap.size:=by obtain⟨m,hm⟩:=k3;exact DataW.trod_lt m _ _ _ hm
 obtain⟨a3,Pv,Se,rfl⟩:=okWide_slice Tryz.underlying27 (hval 3 27 v3 rfl rfl)
 obtain⟨bs3,w3,c3,m3⟩:∃bs,bI W W.heap.size a3 Pv bs/\Pv<=Se/\Se<=maxLen:=by
  obtain⟨fuel,hf⟩:=h3
  rcases open_ints Tryz.underlying27 Tryz.underlying5 zk hf with⟨hcs,_⟩ | ⟨x,l,c,zs,hcs,_,hl,hm,hz,_,hcell,lu⟩
  ·simp[Value.cells]at hcs;obtain⟨rfl,rfl,rfl⟩:=hcs;exact⟨[],bI.empty _ _ _,Nat.le_refl _,Nat.zero_le _⟩
  ·simp[Value.cells]at hcs;obtain⟨rfl,rfl,rfl⟩:=hcs;obtain⟨bs,hb⟩:=pR (len:=Pv) (by rw[hz];simp;omega) hcell lu;exact⟨bs,hb,hl,hm⟩
 clear Zk Qo
 have he:Pg.wB W:=Pg.iO hL hsh
 refine(Pg.aaA z0_ n0_ t0_ a1 Qz vR rs1 a2 NF cap2 xs2 a3 Pv Se bs3 W he ⟨bz0,bn0,bt0⟩ ⟨w1,o1⟩ ⟨l2_,w2,o2⟩ w3 c3 m3).mono λe W' ⟨hres,az⟩=>?_
 subst hres
 exact⟨_,rfl,_,_,_,[],_,[],hW',trodAll_mk1 (shut_bool Tryz.underlying4 _),(trodAll_cons_mk (Below.trod laidOut zk (of_decide_eq_true zk) k0 az lt0) (trodAll_cons_mk (Below.trod laidOut zk (of_decide_eq_true zk) k1 az lt1) (trodAll_cons_mk (Below.trod laidOut zk (of_decide_eq_true zk) k2 az lt2) (trodAll_cons_mk (Below.trod laidOut zk (of_decide_eq_true zk) k3 az lt3) trodAll_mk0)))),rfl,az.frame _,λh=>by cases h⟩
theorem Et:Tryz.prog.inPlace 3=Rows.progHoldsRow.inPlace:=zk
theorem wL:Tryz.prog.unfollowed 3=Rows.progHoldsRow.unfollowed:=zk
theorem Cz:Tryz.prog.recurses 3=Rows.progHoldsRow.recurses:=zk
theorem zP:Tryz.prog.varsNamed 3=Rows.progHoldsRow.named:=zk
theorem closed:joinedFacts Tryz.prog 3 Tryz.f3 Rows.progHoldsSpec Rows.progHoldsRow=true:=by
 unfold joinedFacts;rw[Et,wL,Cz,zP]
 kernel_rfl
theorem over:Rows.ProgHoldsSaid :=
 OpenClaim.holds_of_wide 3 Tryz.f3 rfl rfl rfl rfl rfl rfl rfl ⟨rfl,rfl,rfl,rfl,rfl⟩ rfl rfl rfl rfl rfl zk Tryz.func3 closed
  (of_decide_eq_true zk) (by unfold Func.isWrapper;first | (rw[if_pos (by decide +kernel)];kernel_rfl) | (rw[if_neg (by decide +kernel)];exact⟨rfl,rfl⟩))
  (λos started H enc _=>lifted os started H enc)
theorem named:Tryz.prog.funcNamed Rows.progHoldsRow.func=some 3:=zk
theorem proved:Rows.ProgHoldsCardSaid :=
 Claim7.holds_tied_plain_at .later [] Rows.progHoldsCard.laidKinds true Rows.progHoldsCard.stood.harness Rows.progHoldsCard.stood.looks over (λ_ h=>by cases h) zk (λ_ h=>by cases h) progHolds_row_tie rfl ⟨rfl,rfl⟩ zk rfl
  (λf fn hf hfn=>by
   obtain rfl:f=3:=(Option.some.inj (named.symm.trans hf)).symm
   obtain rfl:fn=Tryz.f3:=(Option.some.inj (Tryz.func3.symm.trans hfn)).symm
   exact⟨by kernel_rfl,λj t ht=>by
    rw[Tryz.params3]at ht
    have hm:t∈[24,25,26,27]:=by simpa using Array.mem_of_getElem? ht
    have hall:([24,25,26,27].all λu=>!Tryz.prog.wantsStandIn u)=true:=zk
    exact(show Tryz.prog.wantsStandIn t=false by simpa using List.all_eq_true.1 hall t hm)⟩)
  zk
#print axioms proved
end Go.Proofs.YtbhnbcadgmagpaaGreatDoor.progHolds
