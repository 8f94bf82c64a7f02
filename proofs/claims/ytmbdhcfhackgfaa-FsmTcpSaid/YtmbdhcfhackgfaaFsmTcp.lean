/- For every input, the law FsmTcp of package mantletlaw17 returns true, and each argument reads afterwards as it read before. No conditions. -/
import Derived.Test.YtmbdhcfhackgfaaFsmQ
import Derived.Test.YtmbdhcfhackgfaaComG
import Derived.ShutString
import Derived.ChangeOld
namespace Go.Proofs.Ytmbdhcfhackgfaa.fsmTcp
open Go.ChangeShapes Go.WideShapes Go.ChangeAt Go.RowKit Go.Mtl
open Go.ChangeMaps (open_string shut_string)
set_option linter.unusedVariables false

theorem own : ownKnob Try.prog.godebug = none := by kernel_rfl
theorem laidOut : laidOutB Try.prog = true := by kernel_rfl

set_option maxRecDepth 100000 in
theorem lifted (os : Os) (started : os.Started) (H : Type) (enc : TypeId × Value → H) :
    ReturnsInHanded {} Try.checked os 4 .any (Rows.fsmTcpSpec.pre6 enc Try.prog Try.f4 Rows.fsmTcpRow.domain false) (Rows.fsmTcpSpec.post enc Try.prog Try.f4 false true false false) := by
  refine returnsInHanded_of_change (C := Try.checked) own started (by kernel_rfl) Try.func4
    (ChangeSpec.witness6 (enc := enc) (C := Try.checked) false ⟨#[], #[.int .i64 0, .bool false, .agg #[.int .u8 0, .int .u32 0, .int .u32 0, .int .u16 0, .int .u16 0, .int .u8 0, .int .u8 0]], []⟩ 8 (by kernel_rfl) (by kernel_rfl) (by kernel_rfl) (by kernel_rfl)) ?_
  intro W base args ds gs before hval0 hW hcnd _
  have hval : ∀ (j : Nat) t v, Try.f4.params[j]? = some t → args[j]? = some v → Value.okWide Try.prog W .any base t v := hval0
  have hW' := hW
  obtain ⟨p, q, hA0, hV, rfl, hfz, hnd⟩ := hW
  have hA : DataW.TrodAll enc Try.prog W 0 (fun _ => true) true Try.f4.params.toList args.toList ds p := hA0
  rw [Try.params4] at hA hval
  obtain ⟨v0, vs0, d0, ds0, p0, q0, hargs, rfl, rfl, h0, r0⟩ := trodAll_cons hA
  obtain ⟨v1, vs1, d1, ds1, p1, q1, rfl, rfl, rfl, h1, r1⟩ := trodAll_cons r0
  obtain ⟨v2, vs2, d2, ds2, p2, q2, rfl, rfl, rfl, h2, r2⟩ := trodAll_cons r1
  obtain ⟨rfl, rfl, rfl⟩ := trodAll_nil r2
  obtain rfl : args = #[v0, v1, v2] := by cases args; simp_all
  obtain ⟨rfl, rfl⟩ := trodVars_none hV
  have k0 := h0
  have lt0 : ∀ x ∈ p0, x.block < W.heap.size := by obtain ⟨m, hm⟩ := k0; exact DataW.trod_lt m _ _ _ hm
  obtain ⟨a0, rfl, _, _, w0⟩ := open_int Try.underlying3 (hval 0 3 v0 rfl rfl) h0
  have k1 := h1
  have lt1 : ∀ x ∈ p1, x.block < W.heap.size := by obtain ⟨m, hm⟩ := k1; exact DataW.trod_lt m _ _ _ hm
  obtain ⟨a1, rfl, _, _⟩ := open_bool Try.underlying4 (hval 1 4 v1 rfl rfl) h1
  have k2 := h2
  have lt2 : ∀ x ∈ p2, x.block < W.heap.size := by obtain ⟨m, hm⟩ := k2; exact DataW.trod_lt m _ _ _ hm
  obtain ⟨vs2_, nn2, hve2, hsz2, hfl2⟩ := open_fields Try.underlying25 (by kernel_rfl) (by kernel_rfl) (hval 2 25 v2 rfl rfl) h2
  obtain ⟨u2_0, y2_0, e2_0, t2_0⟩ := hfl2 0 _ rfl
  obtain ⟨p2_0, x2_0, _, b2_0⟩ := DataW.trod_int Try.underlying5 t2_0
  obtain rfl : u2_0 = .int .u8 p2_0 := by simpa using x2_0
  obtain ⟨u2_1, y2_1, e2_1, t2_1⟩ := hfl2 1 _ rfl
  obtain ⟨p2_1, x2_1, _, b2_1⟩ := DataW.trod_int Try.underlying22 t2_1
  obtain rfl : u2_1 = .int .u32 p2_1 := by simpa using x2_1
  obtain ⟨u2_2, y2_2, e2_2, t2_2⟩ := hfl2 2 _ rfl
  obtain ⟨p2_2, x2_2, _, b2_2⟩ := DataW.trod_int Try.underlying22 t2_2
  obtain rfl : u2_2 = .int .u32 p2_2 := by simpa using x2_2
  obtain ⟨u2_3, y2_3, e2_3, t2_3⟩ := hfl2 3 _ rfl
  obtain ⟨p2_3, x2_3, _, b2_3⟩ := DataW.trod_int Try.underlying23 t2_3
  obtain rfl : u2_3 = .int .u16 p2_3 := by simpa using x2_3
  obtain ⟨u2_4, y2_4, e2_4, t2_4⟩ := hfl2 4 _ rfl
  obtain ⟨p2_4, x2_4, _, b2_4⟩ := DataW.trod_int Try.underlying23 t2_4
  obtain rfl : u2_4 = .int .u16 p2_4 := by simpa using x2_4
  obtain ⟨u2_5, y2_5, e2_5, t2_5⟩ := hfl2 5 _ rfl
  obtain ⟨p2_5, x2_5, _, b2_5⟩ := DataW.trod_int Try.underlying5 t2_5
  obtain rfl : u2_5 = .int .u8 p2_5 := by simpa using x2_5
  obtain ⟨u2_6, y2_6, e2_6, t2_6⟩ := hfl2 6 _ rfl
  obtain ⟨p2_6, x2_6, _, b2_6⟩ := DataW.trod_int Try.underlying5 t2_6
  obtain rfl : u2_6 = .int .u8 p2_6 := by simpa using x2_6
  obtain rfl := array7 hsz2 e2_0 e2_1 e2_2 e2_3 e2_4 e2_5 e2_6
  subst hve2
  clear hA0 hval0
  refine (Fs.fsmTcp_walk a0 a1 p2_0 p2_1 p2_2 p2_3 p2_4 p2_5 p2_6 W (bounds_i64 w0) ⟨bounds_u8 b2_0, bounds_u32 b2_1, bounds_u32 b2_2, bounds_u16 b2_3, bounds_u16 b2_4, bounds_u8 b2_5, bounds_u8 b2_6⟩).mono fun e W' ⟨he, bel⟩ => ?_
  subst he
  exact ⟨_, rfl, _, _, _, [], _, [], hW', trodAll_mk1 (shut_bool Try.underlying4 _), (trodAll_cons_mk (Below.trod laidOut (by kernel_rfl) (of_decide_eq_true (by kernel_rfl)) k0 bel lt0) (trodAll_cons_mk (Below.trod laidOut (by kernel_rfl) (of_decide_eq_true (by kernel_rfl)) k1 bel lt1) (trodAll_cons_mk (Below.trod laidOut (by kernel_rfl) (of_decide_eq_true (by kernel_rfl)) k2 bel lt2) trodAll_mk0))), rfl, bel.frame _, fun h => by cases h⟩

theorem over : Rows.fsmTcpRow.holds Try.pinned (OpenSpec.ofChange Rows.fsmTcpSpec) :=
  OpenClaim.holds_of_wide 4 Try.f4 rfl rfl rfl rfl rfl rfl rfl ⟨rfl, rfl, rfl, rfl, rfl⟩ rfl rfl rfl rfl rfl (by kernel_rfl) Try.func4 (by kernel_rfl)
    (of_decide_eq_true (by kernel_rfl)) (by unfold Func.isWrapper; first | (rw [if_pos (by decide +kernel)]; kernel_rfl) | (rw [if_neg (by decide +kernel)]; exact ⟨rfl, rfl⟩))
    (fun os started H enc _ => lifted os started H enc)

theorem proved : Rows.FsmTcpSaid := over
#print axioms proved
end Go.Proofs.Ytmbdhcfhackgfaa.fsmTcp
