/- For every input, the law AutoStays of package mantletlaw18 returns true, and each argument reads afterwards as it read before, where the variables that its row lists hold what the program text lays in them; the card ties them to that text. No other conditions. -/
import Derived.Test.YtcjppfggllbbeaaGreatDoorAulT
import Derived.Test.YtcjppfggllbbeaaGreatDoorAulK
import Derived.Test.YtcjppfggllbbeaaGreatDoorAulV
import Derived.Test.YtcjppfggllbbeaaGreatDoorJ47
import Derived.Test.YtcjppfggllbbeaaGreatDoorComK
import Derived.Test.YtcjppfggllbbeaaGreatDoorCards
import Derived.Test.YtcjppfggllbbeaaGreatDoorTie
import Derived.ShutString
import Derived.ChangeOld
import Derived.LaidLaws
import Derived.LaidMore
import Derived.Lay
import Derived.SevenTiedAt
import Derived.Lib.SmallJoins
import Derived.OpenShut
import Derived.ProofKit
import Derived.MakeChecks
namespace Go.Proofs.YtcjppfggllbbeaaGreatDoor.autoStays
open Go.ChangeShapes Go.WideShapes Go.ChangeAt Go.RowKit Go.Mtl Go.Joins
open Go.ChangeMaps (open_string shut_string)
set_option linter.unusedVariables false
theorem own : ownKnob Tryz.prog.godebug = none := by kernel_rfl
theorem laidOut : laidOutB Tryz.prog = true := by kernel_rfl
abbrev L : List (String × DataW Unit) := Rows.autoStaysRow.laid
set_option maxRecDepth 100000 in
theorem lifted (os : Os) (started : os.Started) (H : Type) (enc : TypeId × Value → H) :
    ReturnsInHanded {} Tryz.checked os 5 .any (fun w args => (Rows.autoStaysSpec.pre enc Tryz.prog Tryz.f5 Rows.autoStaysRow.domain false w args ∧ laidMetH Tryz.prog L w) ∧ sizedMet enc Tryz.prog Tryz.f5 (OpenSpec.ofChange Rows.autoStaysSpec) false w args) (Rows.autoStaysSpec.post enc Tryz.prog Tryz.f5 false true false false) := by
  refine Mtl.returns_both (C := Tryz.checked) (X := fun w _ => laidMetH Tryz.prog L w) (fun _ _ _ hh h => h.of_heap hh) own started (by kernel_rfl) Tryz.func5
    (ChangeSpec.witness_shaped (enc := enc) (C := Tryz.checked) (os := os) (X := fun w _ => laidMetH Tryz.prog L w) false (World.laidAll Tryz.prog os L) #[.agg #[.int .i64 0, .int .i64 0, .int .i64 0, .int .i64 0, .int .i64 0, .int .i64 0, .int .i64 0, .int .i64 0, .int .i64 0, .int .i64 0, .int .i64 0, .int .i64 0, .int .i64 0, .int .i64 0, .int .i64 0, .int .i64 0, .int .i64 0, .int .i64 0], .slice none 0 0, .slice none 0 0, .slice none 0 0, .agg #[.int .u8 0, .int .u32 0, .int .u32 0, .int .u16 0, .int .u16 0, .int .u8 0, .int .u8 0]] 8 (World.laidAll_os _ _ _)
      (World.shaped_of_ZipB (by kernel_rfl) (by kernel_rfl)) (by kernel_rfl) (by kernel_rfl) (by kernel_rfl)
      (by rw [MakeChecks.laidMetH_plain _ _ _ (by kernel_rfl)]; exact laidMet_laidAll _ (by kernel_rfl) (by kernel_rfl))) ?_
  intro W base args ds gs before hval0 hW hcnd _ hL hsh
  have hval : ∀ (j : Nat) t v, Tryz.f5.params[j]? = some t → args[j]? = some v → Value.okWide Tryz.prog W .any base t v := hval0
  have hW' := hW
  obtain ⟨p, q, hA0, hV, rfl, hfz, hnd⟩ := hW
  have hA : DataW.TrodAll enc Tryz.prog W 0 (fun _ => true) true Tryz.f5.params.toList args.toList ds p := hA0
  rw [Tryz.params5] at hA hval
  obtain ⟨v0, vs0, d0, ds0, p0, q0, hargs, rfl, rfl, h0, r0⟩ := trodAll_cons hA
  obtain ⟨v1, vs1, d1, ds1, p1, q1, rfl, rfl, rfl, h1, r1⟩ := trodAll_cons r0
  obtain ⟨v2, vs2, d2, ds2, p2, q2, rfl, rfl, rfl, h2, r2⟩ := trodAll_cons r1
  obtain ⟨v3, vs3, d3, ds3, p3, q3, rfl, rfl, rfl, h3, r3⟩ := trodAll_cons r2
  obtain ⟨v4, vs4, d4, ds4, p4, q4, rfl, rfl, rfl, h4, r4⟩ := trodAll_cons r3
  obtain ⟨rfl, rfl, rfl⟩ := trodAll_nil r4
  obtain rfl : args = #[v0, v1, v2, v3, v4] := by cases args; simp_all
  obtain ⟨rfl, rfl⟩ := trodVars_none hV
  have k0 := h0
  have lt0 : ∀ x ∈ p0, x.block < W.heap.size := by obtain ⟨m, hm⟩ := k0; exact DataW.trod_lt m _ _ _ hm
  obtain ⟨z0_, n0_, t0_, rfl, bz0, bn0, bt0⟩ := Au.open_cfg Tryz.underlying24 (by kernel_rfl) (by kernel_rfl) Tryz.underlying3 Tryz.underlying22 (by kernel_rfl) (by kernel_rfl) (hval 0 24 v0 rfl rfl) h0
  have k1 := h1
  have lt1 : ∀ x ∈ p1, x.block < W.heap.size := by obtain ⟨m, hm⟩ := k1; exact DataW.trod_lt m _ _ _ hm
  obtain ⟨a1, len1, cap1, rfl⟩ := okWide_slice Tryz.underlying25 (hval 1 25 v1 rfl rfl)
  obtain ⟨rs1, w1, o1⟩ := open_rules (n := 0) Au.ruleTypes_ Tryz.underlying25 h1
  have k2 := h2
  have lt2 : ∀ x ∈ p2, x.block < W.heap.size := by obtain ⟨m, hm⟩ := k2; exact DataW.trod_lt m _ _ _ hm
  obtain ⟨a2, len2, cap2, rfl⟩ := okWide_slice Tryz.underlying25 (hval 2 25 v2 rfl rfl)
  obtain ⟨rs2, w2, o2⟩ := open_rules (n := 0) Au.ruleTypes_ Tryz.underlying25 h2
  have k3 := h3
  have lt3 : ∀ x ∈ p3, x.block < W.heap.size := by obtain ⟨m, hm⟩ := k3; exact DataW.trod_lt m _ _ _ hm
  obtain ⟨a3, len3, cap3, rfl⟩ := okWide_slice Tryz.underlying26 (hval 3 26 v3 rfl rfl)
  obtain ⟨xs3, l3_, w3, o3⟩ := Au.open_dos Au.doTypes Tryz.underlying26 h3
  have k4 := h4
  have lt4 : ∀ x ∈ p4, x.block < W.heap.size := by obtain ⟨m, hm⟩ := k4; exact DataW.trod_lt m _ _ _ hm
  obtain ⟨vs4_, nn4, hve4, hsz4, hfl4⟩ := open_fields Tryz.underlying41 (by kernel_rfl) (by kernel_rfl) (hval 4 41 v4 rfl rfl) h4
  obtain ⟨u4_0, y4_0, e4_0, t4_0⟩ := hfl4 0 _ rfl
  obtain ⟨p4_0, x4_0, _, b4_0⟩ := DataW.trod_int Tryz.underlying5 t4_0
  obtain rfl : u4_0 = .int .u8 p4_0 := by simpa using x4_0
  obtain ⟨u4_1, y4_1, e4_1, t4_1⟩ := hfl4 1 _ rfl
  obtain ⟨p4_1, x4_1, _, b4_1⟩ := DataW.trod_int Tryz.underlying38 t4_1
  obtain rfl : u4_1 = .int .u32 p4_1 := by simpa using x4_1
  obtain ⟨u4_2, y4_2, e4_2, t4_2⟩ := hfl4 2 _ rfl
  obtain ⟨p4_2, x4_2, _, b4_2⟩ := DataW.trod_int Tryz.underlying38 t4_2
  obtain rfl : u4_2 = .int .u32 p4_2 := by simpa using x4_2
  obtain ⟨u4_3, y4_3, e4_3, t4_3⟩ := hfl4 3 _ rfl
  obtain ⟨p4_3, x4_3, _, b4_3⟩ := DataW.trod_int Tryz.underlying39 t4_3
  obtain rfl : u4_3 = .int .u16 p4_3 := by simpa using x4_3
  obtain ⟨u4_4, y4_4, e4_4, t4_4⟩ := hfl4 4 _ rfl
  obtain ⟨p4_4, x4_4, _, b4_4⟩ := DataW.trod_int Tryz.underlying39 t4_4
  obtain rfl : u4_4 = .int .u16 p4_4 := by simpa using x4_4
  obtain ⟨u4_5, y4_5, e4_5, t4_5⟩ := hfl4 5 _ rfl
  obtain ⟨p4_5, x4_5, _, b4_5⟩ := DataW.trod_int Tryz.underlying5 t4_5
  obtain rfl : u4_5 = .int .u8 p4_5 := by simpa using x4_5
  obtain ⟨u4_6, y4_6, e4_6, t4_6⟩ := hfl4 6 _ rfl
  obtain ⟨p4_6, x4_6, _, b4_6⟩ := DataW.trod_int Tryz.underlying5 t4_6
  obtain rfl : u4_6 = .int .u8 p4_6 := by simpa using x4_6
  obtain rfl := array7 hsz4 e4_0 e4_1 e4_2 e4_3 e4_4 e4_5 e4_6
  subst hve4
  clear hA0 hval0
  have he : Au.Env W := Au.env_of hL
  refine (Au.autoStays_walk z0_ n0_ t0_ a1 len1 cap1 rs1 a2 len2 cap2 rs2 a3 len3 cap3 xs3 p4_0 p4_1 p4_2 p4_3 p4_4 p4_5 p4_6 W he ⟨bz0, bn0, bt0⟩ ⟨w1, o1⟩ ⟨w2, o2⟩ ⟨l3_, w3, o3⟩ ⟨bounds_u8 b4_0, bounds_u32 b4_1, bounds_u32 b4_2, bounds_u16 b4_3, bounds_u16 b4_4, bounds_u8 b4_5, bounds_u8 b4_6⟩).mono fun e W' ⟨hres, bel⟩ => ?_
  subst hres
  exact ⟨_, rfl, _, _, _, [], _, [], hW', trodAll_mk1 (shut_bool Tryz.underlying4 _), (trodAll_cons_mk (Below.trod laidOut (by kernel_rfl) (of_decide_eq_true (by kernel_rfl)) k0 bel lt0) (trodAll_cons_mk (Below.trod laidOut (by kernel_rfl) (of_decide_eq_true (by kernel_rfl)) k1 bel lt1) (trodAll_cons_mk (Below.trod laidOut (by kernel_rfl) (of_decide_eq_true (by kernel_rfl)) k2 bel lt2) (trodAll_cons_mk (Below.trod laidOut (by kernel_rfl) (of_decide_eq_true (by kernel_rfl)) k3 bel lt3) (trodAll_cons_mk (Below.trod laidOut (by kernel_rfl) (of_decide_eq_true (by kernel_rfl)) k4 bel lt4) trodAll_mk0))))), rfl, bel.frame _, fun h => by cases h⟩

theorem over : Rows.AutoStaysSaid :=
  OpenClaim.holds_of_wide 5 Tryz.f5 rfl rfl rfl rfl rfl rfl rfl ⟨rfl, rfl, rfl, rfl, rfl⟩ rfl rfl rfl rfl rfl (by kernel_rfl) Tryz.func5 (by kernel_rfl)
    (of_decide_eq_true (by kernel_rfl)) (by unfold Func.isWrapper; first | (rw [if_pos (by decide +kernel)]; kernel_rfl) | (rw [if_neg (by decide +kernel)]; exact ⟨rfl, rfl⟩))
    (fun os started H enc _ => lifted os started H enc)
theorem named : Tryz.prog.funcNamed Rows.autoStaysRow.func = some 5 := by kernel_rfl
theorem proved : Rows.AutoStaysCardSaid :=
  Claim7.holds_tied_plain_at .later [] Rows.autoStaysCard.laidKinds true Rows.autoStaysCard.stood.harness Rows.autoStaysCard.stood.looks over (fun _ h => by cases h) (by kernel_rfl) (fun _ h => by cases h) autoStays_row_tie rfl ⟨rfl, rfl⟩ (by kernel_rfl) rfl
    (fun f fn hf hfn => by
      obtain rfl : f = 5 := (Option.some.inj (named.symm.trans hf)).symm
      obtain rfl : fn = Tryz.f5 := (Option.some.inj (Tryz.func5.symm.trans hfn)).symm
      exact ⟨by kernel_rfl, fun j t ht => by
        rw [Tryz.params5] at ht
        have hm : t ∈ [24, 25, 25, 26, 41] := by simpa using Array.mem_of_getElem? ht
        have hall : ([24, 25, 25, 26, 41].all fun u => !Tryz.prog.wantsStandIn u) = true := by kernel_rfl
        exact (show Tryz.prog.wantsStandIn t = false by simpa using List.all_eq_true.1 hall t hm)⟩)
    (by kernel_rfl)
#print axioms proved
end Go.Proofs.YtcjppfggllbbeaaGreatDoor.autoStays
