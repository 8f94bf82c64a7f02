/- For every input, the law AutoCounts of package mantletlaw18 returns true, and each argument reads afterwards as it read before, where the variables that its row lists hold what the program text lays in them; the card ties them to that text. No other conditions. -/
import Derived.Test.YtcjppfggllbbeaaGreatDoorJ44
import Derived.Test.YtcjppfggllbbeaaGreatDoorAulK
import Derived.Test.YtcjppfggllbbeaaGreatDoorAulV
import Derived.Test.YtcjppfggllbbeaaGreatDoorJ46
import Derived.Test.YtcjppfggllbbeaaGreatDoorComK
import Derived.Test.YtcjppfggllbbeaaGreatDoorCards
import Derived.Test.YtcjppfggllbbeaaGreatDoorTie
import Derived.ShutString
import Derived.ChangeOld
import Derived.LaidLaws
import Derived.LaidMore
import Derived.Lay
import Derived.SevenTiedAt
import Derived.Lib.SmallJoins
import Derived.OpenShut
import Derived.ProofKit
import Derived.MakeChecks
namespace Go.Proofs.YtcjppfggllbbeaaGreatDoor.autoCounts
open Go.ChangeShapes Go.WideShapes Go.ChangeAt Go.RowKit Go.Mtl Go.Joins
open Go.ChangeMaps (open_string shut_string)
set_option linter.unusedVariables false
theorem own : ownKnob Tryz.prog.godebug = none := by kernel_rfl
theorem laidOut : laidOutB Tryz.prog = true := by kernel_rfl
abbrev L : List (String × DataW Unit) := Rows.autoCountsRow.laid
set_option maxRecDepth 100000 in
theorem lifted (os : Os) (started : os.Started) (H : Type) (enc : TypeId × Value → H) :
    ReturnsInHanded {} Tryz.checked os 4 .any (fun w args => (Rows.autoCountsSpec.pre enc Tryz.prog Tryz.f4 Rows.autoCountsRow.domain false w args ∧ laidMetH Tryz.prog L w) ∧ sizedMet enc Tryz.prog Tryz.f4 (OpenSpec.ofChange Rows.autoCountsSpec) false w args) (Rows.autoCountsSpec.post enc Tryz.prog Tryz.f4 false true false false) := by
  refine Mtl.returns_both (C := Tryz.checked) (X := fun w _ => laidMetH Tryz.prog L w) (fun _ _ _ hh h => h.of_heap hh) own started (by kernel_rfl) Tryz.func4
    (ChangeSpec.witness_shaped (enc := enc) (C := Tryz.checked) (os := os) (X := fun w _ => laidMetH Tryz.prog L w) false (World.laidAll Tryz.prog os L) #[.agg #[.int .i64 0, .int .i64 0, .int .i64 0, .int .i64 0, .int .i64 0, .int .i64 0, .int .i64 0, .int .i64 0, .int .i64 0, .int .i64 0, .int .i64 0, .int .i64 0, .int .i64 0, .int .i64 0, .int .i64 0, .int .i64 0, .int .i64 0, .int .i64 0], .slice none 0 0, .slice none 0 0, .agg #[.int .u8 0, .int .u32 0, .int .u32 0, .int .u16 0, .int .u16 0, .int .u8 0, .int .u8 0]] 8 (World.laidAll_os _ _ _)
      (World.shaped_of_ZipB (by kernel_rfl) (by kernel_rfl)) (by kernel_rfl) (by kernel_rfl) (by kernel_rfl)
      (by rw [MakeChecks.laidMetH_plain _ _ _ (by kernel_rfl)]; exact laidMet_laidAll _ (by kernel_rfl) (by kernel_rfl))) ?_
  intro W base args ds gs before hval0 hW hcnd _ hL hsh
  have hval : ∀ (j : Nat) t v, Tryz.f4.params[j]? = some t → args[j]? = some v → Value.okWide Tryz.prog W .any base t v := hval0
  have hW' := hW
  obtain ⟨p, q, hA0, hV, rfl, hfz, hnd⟩ := hW
  have hA : DataW.TrodAll enc Tryz.prog W 0 (fun _ => true) true Tryz.f4.params.toList args.toList ds p := hA0
  rw [Tryz.params4] at hA hval
  obtain ⟨v0, vs0, d0, ds0, p0, q0, hargs, rfl, rfl, h0, r0⟩ := trodAll_cons hA
  obtain ⟨v1, vs1, d1, ds1, p1, q1, rfl, rfl, rfl, h1, r1⟩ := trodAll_cons r0
  obtain ⟨v2, vs2, d2, ds2, p2, q2, rfl, rfl, rfl, h2, r2⟩ := trodAll_cons r1
  obtain ⟨v3, vs3, d3, ds3, p3, q3, rfl, rfl, rfl, h3, r3⟩ := trodAll_cons r2
  obtain ⟨rfl, rfl, rfl⟩ := trodAll_nil r3
  obtain rfl : args = #[v0, v1, v2, v3] := by cases args; simp_all
  obtain ⟨rfl, rfl⟩ := trodVars_none hV
  have k0 := h0
  have lt0 : ∀ x ∈ p0, x.block < W.heap.size := by obtain ⟨m, hm⟩ := k0; exact DataW.trod_lt m _ _ _ hm
  obtain ⟨z0_, n0_, t0_, rfl, bz0, bn0, bt0⟩ := Au.open_cfg Tryz.underlying24 (by kernel_rfl) (by kernel_rfl) Tryz.underlying3 Tryz.underlying22 (by kernel_rfl) (by kernel_rfl) (hval 0 24 v0 rfl rfl) h0
  have k1 := h1
  have lt1 : ∀ x ∈ p1, x.block < W.heap.size := by obtain ⟨m, hm⟩ := k1; exact DataW.trod_lt m _ _ _ hm
  obtain ⟨a1, len1, cap1, rfl⟩ := okWide_slice Tryz.underlying25 (hval 1 25 v1 rfl rfl)
  obtain ⟨rs1, w1, o1⟩ := open_rules (n := 0) Au.ruleTypes_ Tryz.underlying25 h1
  have k2 := h2
  have lt2 : ∀ x ∈ p2, x.block < W.heap.size := by obtain ⟨m, hm⟩ := k2; exact DataW.trod_lt m _ _ _ hm
  obtain ⟨a2, len2, cap2, rfl⟩ := okWide_slice Tryz.underlying26 (hval 2 26 v2 rfl rfl)
  obtain ⟨xs2, l2_, w2, o2⟩ := Au.open_dos Au.doTypes Tryz.underlying26 h2
  have k3 := h3
  have lt3 : ∀ x ∈ p3, x.block < W.heap.size := by obtain ⟨m, hm⟩ := k3; exact DataW.trod_lt m _ _ _ hm
  obtain ⟨vs3_, nn3, hve3, hsz3, hfl3⟩ := open_fields Tryz.underlying41 (by kernel_rfl) (by kernel_rfl) (hval 3 41 v3 rfl rfl) h3
  obtain ⟨u3_0, y3_0, e3_0, t3_0⟩ := hfl3 0 _ rfl
  obtain ⟨p3_0, x3_0, _, b3_0⟩ := DataW.trod_int Tryz.underlying5 t3_0
  obtain rfl : u3_0 = .int .u8 p3_0 := by simpa using x3_0
  obtain ⟨u3_1, y3_1, e3_1, t3_1⟩ := hfl3 1 _ rfl
  obtain ⟨p3_1, x3_1, _, b3_1⟩ := DataW.trod_int Tryz.underlying38 t3_1
  obtain rfl : u3_1 = .int .u32 p3_1 := by simpa using x3_1
  obtain ⟨u3_2, y3_2, e3_2, t3_2⟩ := hfl3 2 _ rfl
  obtain ⟨p3_2, x3_2, _, b3_2⟩ := DataW.trod_int Tryz.underlying38 t3_2
  obtain rfl : u3_2 = .int .u32 p3_2 := by simpa using x3_2
  obtain ⟨u3_3, y3_3, e3_3, t3_3⟩ := hfl3 3 _ rfl
  obtain ⟨p3_3, x3_3, _, b3_3⟩ := DataW.trod_int Tryz.underlying39 t3_3
  obtain rfl : u3_3 = .int .u16 p3_3 := by simpa using x3_3
  obtain ⟨u3_4, y3_4, e3_4, t3_4⟩ := hfl3 4 _ rfl
  obtain ⟨p3_4, x3_4, _, b3_4⟩ := DataW.trod_int Tryz.underlying39 t3_4
  obtain rfl : u3_4 = .int .u16 p3_4 := by simpa using x3_4
  obtain ⟨u3_5, y3_5, e3_5, t3_5⟩ := hfl3 5 _ rfl
  obtain ⟨p3_5, x3_5, _, b3_5⟩ := DataW.trod_int Tryz.underlying5 t3_5
  obtain rfl : u3_5 = .int .u8 p3_5 := by simpa using x3_5
  obtain ⟨u3_6, y3_6, e3_6, t3_6⟩ := hfl3 6 _ rfl
  obtain ⟨p3_6, x3_6, _, b3_6⟩ := DataW.trod_int Tryz.underlying5 t3_6
  obtain rfl : u3_6 = .int .u8 p3_6 := by simpa using x3_6
  obtain rfl := array7 hsz3 e3_0 e3_1 e3_2 e3_3 e3_4 e3_5 e3_6
  subst hve3
  clear hA0 hval0
  have he : Au.Env W := Au.env_of hL
  refine (Au.autoCounts_walk z0_ n0_ t0_ a1 len1 cap1 rs1 a2 len2 cap2 xs2 p3_0 p3_1 p3_2 p3_3 p3_4 p3_5 p3_6 W he ⟨bz0, bn0, bt0⟩ ⟨w1, o1⟩ ⟨l2_, w2, o2⟩ ⟨bounds_u8 b3_0, bounds_u32 b3_1, bounds_u32 b3_2, bounds_u16 b3_3, bounds_u16 b3_4, bounds_u8 b3_5, bounds_u8 b3_6⟩).mono fun e W' ⟨hres, bel⟩ => ?_
  subst hres
  exact ⟨_, rfl, _, _, _, [], _, [], hW', trodAll_mk1 (shut_bool Tryz.underlying4 _), (trodAll_cons_mk (Below.trod laidOut (by kernel_rfl) (of_decide_eq_true (by kernel_rfl)) k0 bel lt0) (trodAll_cons_mk (Below.trod laidOut (by kernel_rfl) (of_decide_eq_true (by kernel_rfl)) k1 bel lt1) (trodAll_cons_mk (Below.trod laidOut (by kernel_rfl) (of_decide_eq_true (by kernel_rfl)) k2 bel lt2) (trodAll_cons_mk (Below.trod laidOut (by kernel_rfl) (of_decide_eq_true (by kernel_rfl)) k3 bel lt3) trodAll_mk0)))), rfl, bel.frame _, fun h => by cases h⟩

theorem over : Rows.AutoCountsSaid :=
  OpenClaim.holds_of_wide 4 Tryz.f4 rfl rfl rfl rfl rfl rfl rfl ⟨rfl, rfl, rfl, rfl, rfl⟩ rfl rfl rfl rfl rfl (by kernel_rfl) Tryz.func4 (by kernel_rfl)
    (of_decide_eq_true (by kernel_rfl)) (by unfold Func.isWrapper; first | (rw [if_pos (by decide +kernel)]; kernel_rfl) | (rw [if_neg (by decide +kernel)]; exact ⟨rfl, rfl⟩))
    (fun os started H enc _ => lifted os started H enc)
theorem named : Tryz.prog.funcNamed Rows.autoCountsRow.func = some 4 := by kernel_rfl
theorem proved : Rows.AutoCountsCardSaid :=
  Claim7.holds_tied_plain_at .later [] Rows.autoCountsCard.laidKinds true Rows.autoCountsCard.stood.harness Rows.autoCountsCard.stood.looks over (fun _ h => by cases h) (by kernel_rfl) (fun _ h => by cases h) autoCounts_row_tie rfl ⟨rfl, rfl⟩ (by kernel_rfl) rfl
    (fun f fn hf hfn => by
      obtain rfl : f = 4 := (Option.some.inj (named.symm.trans hf)).symm
      obtain rfl : fn = Tryz.f4 := (Option.some.inj (Tryz.func4.symm.trans hfn)).symm
      exact ⟨by kernel_rfl, fun j t ht => by
        rw [Tryz.params4] at ht
        have hm : t ∈ [24, 25, 26, 41] := by simpa using Array.mem_of_getElem? ht
        have hall : ([24, 25, 26, 41].all fun u => !Tryz.prog.wantsStandIn u) = true := by kernel_rfl
        exact (show Tryz.prog.wantsStandIn t = false by simpa using List.all_eq_true.1 hall t hm)⟩)
    (by kernel_rfl)
#print axioms proved
end Go.Proofs.YtcjppfggllbbeaaGreatDoor.autoCounts
