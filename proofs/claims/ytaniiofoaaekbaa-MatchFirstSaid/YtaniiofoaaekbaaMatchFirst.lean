/- For every input, the law MatchFirst of package mantletlaw13 returns true, and each argument reads afterwards as it read before. No conditions. -/
import Derived.Test.YtaniiofoaaekbaaMatP
import Derived.Test.YtaniiofoaaekbaaComG
import Derived.ShutString
import Derived.ChangeOld
namespace Go.Proofs.Ytaniiofoaaekbaa.matchFirst
open Go.ChangeShapes Go.WideShapes Go.ChangeAt Go.RowKit Go.Mtl
open Go.ChangeMaps (open_string shut_string)
set_option linter.unusedVariables false

theorem own : ownKnob Try.prog.godebug = none := by kernel_rfl
theorem laidOut : laidOutB Try.prog = true := by kernel_rfl

set_option maxRecDepth 100000 in
theorem lifted (os : Os) (started : os.Started) (H : Type) (enc : TypeId × Value → H) :
    ReturnsInHanded {} Try.checked os 3 .any (Rows.matchFirstSpec.pre6 enc Try.prog Try.f3 Rows.matchFirstRow.domain false) (Rows.matchFirstSpec.post enc Try.prog Try.f3 false true false false) := by
  refine returnsInHanded_of_change (C := Try.checked) own started (by kernel_rfl) Try.func3
    (ChangeSpec.witness6 (enc := enc) (C := Try.checked) false ⟨#[], #[.slice none 0 0, .agg #[.int .u8 0, .int .u32 0, .int .u32 0, .int .u16 0, .int .u16 0, .int .u8 0, .int .u8 0], .agg #[.bool false, .int .u8 0, .int .u32 0, .int .i64 0, .int .u32 0, .int .i64 0, .int .u16 0, .int .u16 0, .int .u16 0, .int .u16 0]], []⟩ 8 (by kernel_rfl) (by kernel_rfl) (by kernel_rfl) (by kernel_rfl)) ?_
  intro W base args ds gs before hval0 hW hcnd _
  have hval : ∀ (j : Nat) t v, Try.f3.params[j]? = some t → args[j]? = some v → Value.okWide Try.prog W .any base t v := hval0
  have hW' := hW
  obtain ⟨p, q, hA0, hV, rfl, hfz, hnd⟩ := hW
  have hA : DataW.TrodAll enc Try.prog W 0 (fun _ => true) true Try.f3.params.toList args.toList ds p := hA0
  rw [Try.params3] at hA hval
  obtain ⟨v0, vs0, d0, ds0, p0, q0, hargs, rfl, rfl, h0, r0⟩ := trodAll_cons hA
  obtain ⟨v1, vs1, d1, ds1, p1, q1, rfl, rfl, rfl, h1, r1⟩ := trodAll_cons r0
  obtain ⟨v2, vs2, d2, ds2, p2, q2, rfl, rfl, rfl, h2, r2⟩ := trodAll_cons r1
  obtain ⟨rfl, rfl, rfl⟩ := trodAll_nil r2
  obtain rfl : args = #[v0, v1, v2] := by cases args; simp_all
  obtain ⟨rfl, rfl⟩ := trodVars_none hV
  have k0 := h0
  have lt0 : ∀ x ∈ p0, x.block < W.heap.size := by obtain ⟨m, hm⟩ := k0; exact DataW.trod_lt m _ _ _ hm
  obtain ⟨a0, len0, cap0, rfl⟩ := okWide_slice Try.underlying22 (hval 0 22 v0 rfl rfl)
  obtain ⟨rs0, w0, o0⟩ := open_rules (n := 0) Ma.ruleTypes Try.underlying22 h0
  have k1 := h1
  have lt1 : ∀ x ∈ p1, x.block < W.heap.size := by obtain ⟨m, hm⟩ := k1; exact DataW.trod_lt m _ _ _ hm
  obtain ⟨vs1_, nn1, hve1, hsz1, hfl1⟩ := open_fields Try.underlying26 (by kernel_rfl) (by kernel_rfl) (hval 1 26 v1 rfl rfl) h1
  obtain ⟨u1_0, y1_0, e1_0, t1_0⟩ := hfl1 0 _ rfl
  obtain ⟨p1_0, x1_0, _, b1_0⟩ := DataW.trod_int Try.underlying5 t1_0
  obtain rfl : u1_0 = .int .u8 p1_0 := by simpa using x1_0
  obtain ⟨u1_1, y1_1, e1_1, t1_1⟩ := hfl1 1 _ rfl
  obtain ⟨p1_1, x1_1, _, b1_1⟩ := DataW.trod_int Try.underlying23 t1_1
  obtain rfl : u1_1 = .int .u32 p1_1 := by simpa using x1_1
  obtain ⟨u1_2, y1_2, e1_2, t1_2⟩ := hfl1 2 _ rfl
  obtain ⟨p1_2, x1_2, _, b1_2⟩ := DataW.trod_int Try.underlying23 t1_2
  obtain rfl : u1_2 = .int .u32 p1_2 := by simpa using x1_2
  obtain ⟨u1_3, y1_3, e1_3, t1_3⟩ := hfl1 3 _ rfl
  obtain ⟨p1_3, x1_3, _, b1_3⟩ := DataW.trod_int Try.underlying24 t1_3
  obtain rfl : u1_3 = .int .u16 p1_3 := by simpa using x1_3
  obtain ⟨u1_4, y1_4, e1_4, t1_4⟩ := hfl1 4 _ rfl
  obtain ⟨p1_4, x1_4, _, b1_4⟩ := DataW.trod_int Try.underlying24 t1_4
  obtain rfl : u1_4 = .int .u16 p1_4 := by simpa using x1_4
  obtain ⟨u1_5, y1_5, e1_5, t1_5⟩ := hfl1 5 _ rfl
  obtain ⟨p1_5, x1_5, _, b1_5⟩ := DataW.trod_int Try.underlying5 t1_5
  obtain rfl : u1_5 = .int .u8 p1_5 := by simpa using x1_5
  obtain ⟨u1_6, y1_6, e1_6, t1_6⟩ := hfl1 6 _ rfl
  obtain ⟨p1_6, x1_6, _, b1_6⟩ := DataW.trod_int Try.underlying5 t1_6
  obtain rfl : u1_6 = .int .u8 p1_6 := by simpa using x1_6
  obtain rfl := array7 hsz1 e1_0 e1_1 e1_2 e1_3 e1_4 e1_5 e1_6
  subst hve1
  have k2 := h2
  have lt2 : ∀ x ∈ p2, x.block < W.heap.size := by obtain ⟨m, hm⟩ := k2; exact DataW.trod_lt m _ _ _ hm
  obtain ⟨r2_, rfl, o2⟩ := open_rule Ma.ruleTypes (hval 2 32 v2 rfl rfl) h2
  clear hA0 hval0
  refine (Ma.matchFirst_walk a0 len0 cap0 rs0 p1_0 p1_1 p1_2 p1_3 p1_4 p1_5 p1_6 r2_ W ⟨w0, o0⟩ ⟨bounds_u8 b1_0, bounds_u32 b1_1, bounds_u32 b1_2, bounds_u16 b1_3, bounds_u16 b1_4, bounds_u8 b1_5, bounds_u8 b1_6⟩ o2).mono fun e W' ⟨he, bel⟩ => ?_
  subst he
  exact ⟨_, rfl, _, _, _, [], _, [], hW', trodAll_mk1 (shut_bool Try.underlying4 _), (trodAll_cons_mk (Below.trod laidOut (by kernel_rfl) (of_decide_eq_true (by kernel_rfl)) k0 bel lt0) (trodAll_cons_mk (Below.trod laidOut (by kernel_rfl) (of_decide_eq_true (by kernel_rfl)) k1 bel lt1) (trodAll_cons_mk (Below.trod laidOut (by kernel_rfl) (of_decide_eq_true (by kernel_rfl)) k2 bel lt2) trodAll_mk0))), rfl, bel.frame _, fun h => by cases h⟩

theorem over : Rows.matchFirstRow.holds Try.pinned (OpenSpec.ofChange Rows.matchFirstSpec) :=
  OpenClaim.holds_of_wide 3 Try.f3 rfl rfl rfl rfl rfl rfl rfl ⟨rfl, rfl, rfl, rfl, rfl⟩ rfl rfl rfl rfl rfl (by kernel_rfl) Try.func3 (by kernel_rfl)
    (of_decide_eq_true (by kernel_rfl)) (by unfold Func.isWrapper; first | (rw [if_pos (by decide +kernel)]; kernel_rfl) | (rw [if_neg (by decide +kernel)]; exact ⟨rfl, rfl⟩))
    (fun os started H enc _ => lifted os started H enc)

theorem proved : Rows.MatchFirstSaid := over
#print axioms proved
end Go.Proofs.Ytaniiofoaaekbaa.matchFirst
