/- For every input, the law KeySame of package mantletlaw10 returns true, and each argument reads afterwards as it read before. No conditions. -/
import Derived.Test.YtabmdkjkdgipbaaKeyS
import Derived.Test.YtabmdkjkdgipbaaComG
import Derived.ShutString
import Derived.ChangeOld
namespace Go.Proofs.Ytabmdkjkdgipbaa.keySame
open Go.ChangeShapes Go.WideShapes Go.ChangeAt Go.RowKit Go.Mtl
open Go.ChangeMaps (open_string shut_string)
set_option linter.unusedVariables false

theorem own : ownKnob Try.prog.godebug = none := by kernel_rfl
theorem laidOut : laidOutB Try.prog = true := by kernel_rfl

set_option maxRecDepth 100000 in
theorem lifted (os : Os) (started : os.Started) (H : Type) (enc : TypeId × Value → H) :
    ReturnsInHanded {} Try.checked os 6 .any (Rows.keySameSpec.pre6 enc Try.prog Try.f6 Rows.keySameRow.domain false) (Rows.keySameSpec.post enc Try.prog Try.f6 false true false false) := by
  refine returnsInHanded_of_change (C := Try.checked) own started (by kernel_rfl) Try.func6
    (ChangeSpec.witness6 (enc := enc) (C := Try.checked) false ⟨#[], #[.agg #[.int .u8 0, .int .u32 0, .int .u32 0, .int .u16 0, .int .u16 0, .int .u8 0, .int .u8 0], .agg #[.int .u8 0, .int .u32 0, .int .u32 0, .int .u16 0, .int .u16 0, .int .u8 0, .int .u8 0]], []⟩ 8 (by kernel_rfl) (by kernel_rfl) (by kernel_rfl) (by kernel_rfl)) ?_
  intro W base args ds gs before hval0 hW hcnd _
  have hval : ∀ (j : Nat) t v, Try.f6.params[j]? = some t → args[j]? = some v → Value.okWide Try.prog W .any base t v := hval0
  have hW' := hW
  obtain ⟨p, q, hA0, hV, rfl, hfz, hnd⟩ := hW
  have hA : DataW.TrodAll enc Try.prog W 0 (fun _ => true) true Try.f6.params.toList args.toList ds p := hA0
  rw [Try.params6] at hA hval
  obtain ⟨v0, vs0, d0, ds0, p0, q0, hargs, rfl, rfl, h0, r0⟩ := trodAll_cons hA
  obtain ⟨v1, vs1, d1, ds1, p1, q1, rfl, rfl, rfl, h1, r1⟩ := trodAll_cons r0
  obtain ⟨rfl, rfl, rfl⟩ := trodAll_nil r1
  obtain rfl : args = #[v0, v1] := by cases args; simp_all
  obtain ⟨rfl, rfl⟩ := trodVars_none hV
  have k0 := h0
  have lt0 : ∀ x ∈ p0, x.block < W.heap.size := by obtain ⟨m, hm⟩ := k0; exact DataW.trod_lt m _ _ _ hm
  obtain ⟨vs0_, nn0, hve0, hsz0, hfl0⟩ := open_fields Try.underlying25 (by kernel_rfl) (by kernel_rfl) (hval 0 25 v0 rfl rfl) h0
  obtain ⟨u0_0, y0_0, e0_0, t0_0⟩ := hfl0 0 _ rfl
  obtain ⟨p0_0, x0_0, _, b0_0⟩ := DataW.trod_int Try.underlying5 t0_0
  obtain rfl : u0_0 = .int .u8 p0_0 := by simpa using x0_0
  obtain ⟨u0_1, y0_1, e0_1, t0_1⟩ := hfl0 1 _ rfl
  obtain ⟨p0_1, x0_1, _, b0_1⟩ := DataW.trod_int Try.underlying22 t0_1
  obtain rfl : u0_1 = .int .u32 p0_1 := by simpa using x0_1
  obtain ⟨u0_2, y0_2, e0_2, t0_2⟩ := hfl0 2 _ rfl
  obtain ⟨p0_2, x0_2, _, b0_2⟩ := DataW.trod_int Try.underlying22 t0_2
  obtain rfl : u0_2 = .int .u32 p0_2 := by simpa using x0_2
  obtain ⟨u0_3, y0_3, e0_3, t0_3⟩ := hfl0 3 _ rfl
  obtain ⟨p0_3, x0_3, _, b0_3⟩ := DataW.trod_int Try.underlying23 t0_3
  obtain rfl : u0_3 = .int .u16 p0_3 := by simpa using x0_3
  obtain ⟨u0_4, y0_4, e0_4, t0_4⟩ := hfl0 4 _ rfl
  obtain ⟨p0_4, x0_4, _, b0_4⟩ := DataW.trod_int Try.underlying23 t0_4
  obtain rfl : u0_4 = .int .u16 p0_4 := by simpa using x0_4
  obtain ⟨u0_5, y0_5, e0_5, t0_5⟩ := hfl0 5 _ rfl
  obtain ⟨p0_5, x0_5, _, b0_5⟩ := DataW.trod_int Try.underlying5 t0_5
  obtain rfl : u0_5 = .int .u8 p0_5 := by simpa using x0_5
  obtain ⟨u0_6, y0_6, e0_6, t0_6⟩ := hfl0 6 _ rfl
  obtain ⟨p0_6, x0_6, _, b0_6⟩ := DataW.trod_int Try.underlying5 t0_6
  obtain rfl : u0_6 = .int .u8 p0_6 := by simpa using x0_6
  obtain rfl := array7 hsz0 e0_0 e0_1 e0_2 e0_3 e0_4 e0_5 e0_6
  subst hve0
  have k1 := h1
  have lt1 : ∀ x ∈ p1, x.block < W.heap.size := by obtain ⟨m, hm⟩ := k1; exact DataW.trod_lt m _ _ _ hm
  obtain ⟨vs1_, nn1, hve1, hsz1, hfl1⟩ := open_fields Try.underlying25 (by kernel_rfl) (by kernel_rfl) (hval 1 25 v1 rfl rfl) h1
  obtain ⟨u1_0, y1_0, e1_0, t1_0⟩ := hfl1 0 _ rfl
  obtain ⟨p1_0, x1_0, _, b1_0⟩ := DataW.trod_int Try.underlying5 t1_0
  obtain rfl : u1_0 = .int .u8 p1_0 := by simpa using x1_0
  obtain ⟨u1_1, y1_1, e1_1, t1_1⟩ := hfl1 1 _ rfl
  obtain ⟨p1_1, x1_1, _, b1_1⟩ := DataW.trod_int Try.underlying22 t1_1
  obtain rfl : u1_1 = .int .u32 p1_1 := by simpa using x1_1
  obtain ⟨u1_2, y1_2, e1_2, t1_2⟩ := hfl1 2 _ rfl
  obtain ⟨p1_2, x1_2, _, b1_2⟩ := DataW.trod_int Try.underlying22 t1_2
  obtain rfl : u1_2 = .int .u32 p1_2 := by simpa using x1_2
  obtain ⟨u1_3, y1_3, e1_3, t1_3⟩ := hfl1 3 _ rfl
  obtain ⟨p1_3, x1_3, _, b1_3⟩ := DataW.trod_int Try.underlying23 t1_3
  obtain rfl : u1_3 = .int .u16 p1_3 := by simpa using x1_3
  obtain ⟨u1_4, y1_4, e1_4, t1_4⟩ := hfl1 4 _ rfl
  obtain ⟨p1_4, x1_4, _, b1_4⟩ := DataW.trod_int Try.underlying23 t1_4
  obtain rfl : u1_4 = .int .u16 p1_4 := by simpa using x1_4
  obtain ⟨u1_5, y1_5, e1_5, t1_5⟩ := hfl1 5 _ rfl
  obtain ⟨p1_5, x1_5, _, b1_5⟩ := DataW.trod_int Try.underlying5 t1_5
  obtain rfl : u1_5 = .int .u8 p1_5 := by simpa using x1_5
  obtain ⟨u1_6, y1_6, e1_6, t1_6⟩ := hfl1 6 _ rfl
  obtain ⟨p1_6, x1_6, _, b1_6⟩ := DataW.trod_int Try.underlying5 t1_6
  obtain rfl : u1_6 = .int .u8 p1_6 := by simpa using x1_6
  obtain rfl := array7 hsz1 e1_0 e1_1 e1_2 e1_3 e1_4 e1_5 e1_6
  subst hve1
  clear hA0 hval0
  refine (Ky.keySame_walk p0_0 p0_1 p0_2 p0_3 p0_4 p0_5 p0_6 p1_0 p1_1 p1_2 p1_3 p1_4 p1_5 p1_6 W ⟨bounds_u8 b0_0, bounds_u32 b0_1, bounds_u32 b0_2, bounds_u16 b0_3, bounds_u16 b0_4, bounds_u8 b0_5, bounds_u8 b0_6⟩ ⟨bounds_u8 b1_0, bounds_u32 b1_1, bounds_u32 b1_2, bounds_u16 b1_3, bounds_u16 b1_4, bounds_u8 b1_5, bounds_u8 b1_6⟩).mono fun e W' ⟨he, bel⟩ => ?_
  subst he
  exact ⟨_, rfl, _, _, _, [], _, [], hW', trodAll_mk1 (shut_bool Try.underlying4 _), (trodAll_cons_mk (Below.trod laidOut (by kernel_rfl) (of_decide_eq_true (by kernel_rfl)) k0 bel lt0) (trodAll_cons_mk (Below.trod laidOut (by kernel_rfl) (of_decide_eq_true (by kernel_rfl)) k1 bel lt1) trodAll_mk0)), rfl, bel.frame _, fun h => by cases h⟩

theorem over : Rows.keySameRow.holds Try.pinned (OpenSpec.ofChange Rows.keySameSpec) :=
  OpenClaim.holds_of_wide 6 Try.f6 rfl rfl rfl rfl rfl rfl rfl ⟨rfl, rfl, rfl, rfl, rfl⟩ rfl rfl rfl rfl rfl (by kernel_rfl) Try.func6 (by kernel_rfl)
    (of_decide_eq_true (by kernel_rfl)) (by unfold Func.isWrapper; first | (rw [if_pos (by decide +kernel)]; kernel_rfl) | (rw [if_neg (by decide +kernel)]; exact ⟨rfl, rfl⟩))
    (fun os started H enc _ => lifted os started H enc)

theorem proved : Rows.KeySameSaid := over
#print axioms proved
end Go.Proofs.Ytabmdkjkdgipbaa.keySame
