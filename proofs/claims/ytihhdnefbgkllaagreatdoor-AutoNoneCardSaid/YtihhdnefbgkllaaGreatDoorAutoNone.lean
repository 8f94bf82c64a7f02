/- For every input, the law AutoNone of package mantletlaw18 returns true, and each argument reads afterwards as it read before, where the variables that its row lists hold what the program text lays in them; the card ties them to that text. No other conditions. -/
import Derived.Test.YtihhdnefbgkllaaGreatDoorJ32
import Derived.Test.YtihhdnefbgkllaaGreatDoorAulV
import Derived.Test.YtihhdnefbgkllaaGreatDoorJ35
import Derived.Test.YtihhdnefbgkllaaGreatDoorComK
import Derived.Test.YtihhdnefbgkllaaGreatDoorCards
import Derived.Test.YtihhdnefbgkllaaGreatDoorTie
import Derived.ShutString
import Derived.ChangeOld
import Derived.LaidLaws
import Derived.LaidMore
import Derived.Lay
import Derived.SevenTiedAt
import Derived.Lib.SmallJoins
import Derived.OpenShut
import Derived.ProofKit
import Derived.MakeChecks
namespace Go.Proofs.YtihhdnefbgkllaaGreatDoor.autoNone
open Go.ChangeShapes Go.WideShapes Go.ChangeAt Go.RowKit Go.Mtl Go.Joins
open Go.ChangeMaps (open_string shut_string)
set_option linter.unusedVariables false
theorem own : ownKnob Tryz.prog.godebug = none := by kernel_rfl
theorem laidOut : laidOutB Tryz.prog = true := by kernel_rfl
abbrev L : List (String × DataW Unit) := Rows.autoNoneRow.laid
set_option maxRecDepth 100000 in
theorem lifted (os : Os) (started : os.Started) (H : Type) (enc : TypeId × Value → H) :
    ReturnsInHanded {} Tryz.checked os 7 .any (fun w args => (Rows.autoNoneSpec.pre enc Tryz.prog Tryz.f7 Rows.autoNoneRow.domain false w args ∧ laidMetH Tryz.prog L w) ∧ sizedMet enc Tryz.prog Tryz.f7 (OpenSpec.ofChange Rows.autoNoneSpec) false w args) (Rows.autoNoneSpec.post enc Tryz.prog Tryz.f7 false true false false) := by
  refine Mtl.returns_both (C := Tryz.checked) (X := fun w _ => laidMetH Tryz.prog L w) (fun _ _ _ hh h => h.of_heap hh) own started (by kernel_rfl) Tryz.func7
    (ChangeSpec.witness_shaped (enc := enc) (C := Tryz.checked) (os := os) (X := fun w _ => laidMetH Tryz.prog L w) false (World.laidAll Tryz.prog os L) #[.agg #[.int .u8 0, .int .u32 0, .int .u32 0, .int .u16 0, .int .u16 0, .int .u8 0, .int .u8 0], .agg #[.int .u32 0, .int .u32 0, .int .u16 0, .int .u16 0, .int .u8 0], .int .i64 0] 8 (World.laidAll_os _ _ _)
      (World.shaped_of_ZipB (by kernel_rfl) (by kernel_rfl)) (by kernel_rfl) (by kernel_rfl) (by kernel_rfl)
      (by rw [MakeChecks.laidMetH_plain _ _ _ (by kernel_rfl)]; exact laidMet_laidAll _ (by kernel_rfl) (by kernel_rfl))) ?_
  intro W base args ds gs before hval0 hW hcnd _ hL hsh
  have hval : ∀ (j : Nat) t v, Tryz.f7.params[j]? = some t → args[j]? = some v → Value.okWide Tryz.prog W .any base t v := hval0
  have hW' := hW
  obtain ⟨p, q, hA0, hV, rfl, hfz, hnd⟩ := hW
  have hA : DataW.TrodAll enc Tryz.prog W 0 (fun _ => true) true Tryz.f7.params.toList args.toList ds p := hA0
  rw [Tryz.params7] at hA hval
  obtain ⟨v0, vs0, d0, ds0, p0, q0, hargs, rfl, rfl, h0, r0⟩ := trodAll_cons hA
  obtain ⟨v1, vs1, d1, ds1, p1, q1, rfl, rfl, rfl, h1, r1⟩ := trodAll_cons r0
  obtain ⟨v2, vs2, d2, ds2, p2, q2, rfl, rfl, rfl, h2, r2⟩ := trodAll_cons r1
  obtain ⟨rfl, rfl, rfl⟩ := trodAll_nil r2
  obtain rfl : args = #[v0, v1, v2] := by cases args; simp_all
  obtain ⟨rfl, rfl⟩ := trodVars_none hV
  have k0 := h0
  have lt0 : ∀ x ∈ p0, x.block < W.heap.size := by obtain ⟨m, hm⟩ := k0; exact DataW.trod_lt m _ _ _ hm
  obtain ⟨vs0_, nn0, hve0, hsz0, hfl0⟩ := open_fields Tryz.underlying41 (by kernel_rfl) (by kernel_rfl) (hval 0 41 v0 rfl rfl) h0
  obtain ⟨u0_0, y0_0, e0_0, t0_0⟩ := hfl0 0 _ rfl
  obtain ⟨p0_0, x0_0, _, b0_0⟩ := DataW.trod_int Tryz.underlying5 t0_0
  obtain rfl : u0_0 = .int .u8 p0_0 := by simpa using x0_0
  obtain ⟨u0_1, y0_1, e0_1, t0_1⟩ := hfl0 1 _ rfl
  obtain ⟨p0_1, x0_1, _, b0_1⟩ := DataW.trod_int Tryz.underlying38 t0_1
  obtain rfl : u0_1 = .int .u32 p0_1 := by simpa using x0_1
  obtain ⟨u0_2, y0_2, e0_2, t0_2⟩ := hfl0 2 _ rfl
  obtain ⟨p0_2, x0_2, _, b0_2⟩ := DataW.trod_int Tryz.underlying38 t0_2
  obtain rfl : u0_2 = .int .u32 p0_2 := by simpa using x0_2
  obtain ⟨u0_3, y0_3, e0_3, t0_3⟩ := hfl0 3 _ rfl
  obtain ⟨p0_3, x0_3, _, b0_3⟩ := DataW.trod_int Tryz.underlying39 t0_3
  obtain rfl : u0_3 = .int .u16 p0_3 := by simpa using x0_3
  obtain ⟨u0_4, y0_4, e0_4, t0_4⟩ := hfl0 4 _ rfl
  obtain ⟨p0_4, x0_4, _, b0_4⟩ := DataW.trod_int Tryz.underlying39 t0_4
  obtain rfl : u0_4 = .int .u16 p0_4 := by simpa using x0_4
  obtain ⟨u0_5, y0_5, e0_5, t0_5⟩ := hfl0 5 _ rfl
  obtain ⟨p0_5, x0_5, _, b0_5⟩ := DataW.trod_int Tryz.underlying5 t0_5
  obtain rfl : u0_5 = .int .u8 p0_5 := by simpa using x0_5
  obtain ⟨u0_6, y0_6, e0_6, t0_6⟩ := hfl0 6 _ rfl
  obtain ⟨p0_6, x0_6, _, b0_6⟩ := DataW.trod_int Tryz.underlying5 t0_6
  obtain rfl : u0_6 = .int .u8 p0_6 := by simpa using x0_6
  obtain rfl := array7 hsz0 e0_0 e0_1 e0_2 e0_3 e0_4 e0_5 e0_6
  subst hve0
  have k1 := h1
  have lt1 : ∀ x ∈ p1, x.block < W.heap.size := by obtain ⟨m, hm⟩ := k1; exact DataW.trod_lt m _ _ _ hm
  obtain ⟨p1_0, p1_1, p1_2, p1_3, p1_4, rfl, b1_0, b1_1, b1_2, b1_3, b1_4⟩ := open_pairs Tryz.underlying45 (by kernel_rfl) (by kernel_rfl) Tryz.underlying42 Tryz.underlying43 Tryz.underlying38 Tryz.underlying39 Tryz.underlying5 (by kernel_rfl) (by kernel_rfl) (by kernel_rfl) (by kernel_rfl) (by kernel_rfl) (hval 1 45 v1 rfl rfl) h1
  have k2 := h2
  have lt2 : ∀ x ∈ p2, x.block < W.heap.size := by obtain ⟨m, hm⟩ := k2; exact DataW.trod_lt m _ _ _ hm
  obtain ⟨a2, rfl, _, _, w2⟩ := open_int Tryz.underlying3 (hval 2 3 v2 rfl rfl) h2
  clear hA0 hval0
  have he : Au.Env W := Au.env_of hL
  refine (Au.autoNone_walk p0_0 p0_1 p0_2 p0_3 p0_4 p0_5 p0_6 p1_0 p1_1 p1_2 p1_3 p1_4 a2 W he ⟨bounds_u8 b0_0, bounds_u32 b0_1, bounds_u32 b0_2, bounds_u16 b0_3, bounds_u16 b0_4, bounds_u8 b0_5, bounds_u8 b0_6⟩ ⟨bounds_u32 b1_0, bounds_u32 b1_1, bounds_u16 b1_2, bounds_u16 b1_3, bounds_u8 b1_4⟩ (bounds_i64 w2)).mono fun e W' ⟨hres, bel⟩ => ?_
  subst hres
  exact ⟨_, rfl, _, _, _, [], _, [], hW', trodAll_mk1 (shut_bool Tryz.underlying4 _), (trodAll_cons_mk (Below.trod laidOut (by kernel_rfl) (of_decide_eq_true (by kernel_rfl)) k0 bel lt0) (trodAll_cons_mk (Below.trod laidOut (by kernel_rfl) (of_decide_eq_true (by kernel_rfl)) k1 bel lt1) (trodAll_cons_mk (Below.trod laidOut (by kernel_rfl) (of_decide_eq_true (by kernel_rfl)) k2 bel lt2) trodAll_mk0))), rfl, bel.frame _, fun h => by cases h⟩

theorem over : Rows.AutoNoneSaid :=
  OpenClaim.holds_of_wide 7 Tryz.f7 rfl rfl rfl rfl rfl rfl rfl ⟨rfl, rfl, rfl, rfl, rfl⟩ rfl rfl rfl rfl rfl (by kernel_rfl) Tryz.func7 (by kernel_rfl)
    (of_decide_eq_true (by kernel_rfl)) (by unfold Func.isWrapper; first | (rw [if_pos (by decide +kernel)]; kernel_rfl) | (rw [if_neg (by decide +kernel)]; exact ⟨rfl, rfl⟩))
    (fun os started H enc _ => lifted os started H enc)
theorem named : Tryz.prog.funcNamed Rows.autoNoneRow.func = some 7 := by kernel_rfl
theorem proved : Rows.AutoNoneCardSaid :=
  Claim7.holds_tied_plain_at .later [] Rows.autoNoneCard.laidKinds true Rows.autoNoneCard.stood.harness Rows.autoNoneCard.stood.looks over (fun _ h => by cases h) (by kernel_rfl) (fun _ h => by cases h) autoNone_row_tie rfl ⟨rfl, rfl⟩ (by kernel_rfl) rfl
    (fun f fn hf hfn => by
      obtain rfl : f = 7 := (Option.some.inj (named.symm.trans hf)).symm
      obtain rfl : fn = Tryz.f7 := (Option.some.inj (Tryz.func7.symm.trans hfn)).symm
      exact ⟨by kernel_rfl, fun j t ht => by
        rw [Tryz.params7] at ht
        have hm : t ∈ [41, 45, 3] := by simpa using Array.mem_of_getElem? ht
        have hall : ([41, 45, 3].all fun u => !Tryz.prog.wantsStandIn u) = true := by kernel_rfl
        exact (show Tryz.prog.wantsStandIn t = false by simpa using List.all_eq_true.1 hall t hm)⟩)
    (by kernel_rfl)
#print axioms proved
end Go.Proofs.YtihhdnefbgkllaaGreatDoor.autoNone
