/- For every input, the law PackBack of package mantletlaw09 returns true, and each argument reads afterwards as it read before, where the variables that its row lists hold what the program text lays in them; the card ties them to that text. No other conditions. -/
import Derived.Test.YtapcjjhbdhkhhaaDoorPacR
import Derived.Test.YtapcjjhbdhkhhaaDoorTcpV
import Derived.Test.YtapcjjhbdhkhhaaDoorComG
import Derived.Test.YtapcjjhbdhkhhaaDoorComK
import Derived.Test.YtapcjjhbdhkhhaaDoorCards
import Derived.Test.YtapcjjhbdhkhhaaDoorTie
import Derived.ShutString
import Derived.ChangeOld
import Derived.LaidLaws
import Derived.LaidMore
import Derived.Lay
import Derived.SevenTiedAt
import Derived.Lib.SmallJoins
import Derived.OpenShut
import Derived.ProofKit
import Derived.MakeChecks
namespace Go.Proofs.YtapcjjhbdhkhhaaDoor.packBack
open Go.ChangeShapes Go.WideShapes Go.ChangeAt Go.RowKit Go.Mtl Go.Joins
open Go.ChangeMaps (open_string shut_string)
set_option linter.unusedVariables false
theorem own : ownKnob Tryd.prog.godebug = none := by kernel_rfl
theorem laidOut : laidOutB Tryd.prog = true := by kernel_rfl
abbrev L : List (String × DataW Unit) := Rows.packBackRow.laid
set_option maxRecDepth 100000 in
theorem lifted (os : Os) (started : os.Started) (H : Type) (enc : TypeId × Value → H) :
    ReturnsInHanded {} Tryd.checked os 4 .any (fun w args => (Rows.packBackSpec.pre enc Tryd.prog Tryd.f4 Rows.packBackRow.domain false w args ∧ laidMetH Tryd.prog L w) ∧ sizedMet enc Tryd.prog Tryd.f4 (OpenSpec.ofChange Rows.packBackSpec) false w args) (Rows.packBackSpec.post enc Tryd.prog Tryd.f4 false true false false) := by
  refine Mtl.returns_both (C := Tryd.checked) (X := fun w _ => laidMetH Tryd.prog L w) (fun _ _ _ hh h => h.of_heap hh) own started (by kernel_rfl) Tryd.func4
    (ChangeSpec.witness_shaped (enc := enc) (C := Tryd.checked) (os := os) (X := fun w _ => laidMetH Tryd.prog L w) false (World.laidAll Tryd.prog os L) #[.agg #[.int .u8 0, .int .u32 0, .int .u32 0, .int .u16 0, .int .u16 0, .int .u8 0, .int .u8 0], .slice none 0 0, .slice none 0 0] 8 (World.laidAll_os _ _ _)
      (World.shaped_of_ZipB (by kernel_rfl) (by kernel_rfl)) (by kernel_rfl) (by kernel_rfl) (by kernel_rfl)
      (by rw [MakeChecks.laidMetH_plain _ _ _ (by kernel_rfl)]; exact laidMet_laidAll _ (by kernel_rfl) (by kernel_rfl))) ?_
  intro W base args ds gs before hval0 hW hcnd _ hL hsh
  have hval : ∀ (j : Nat) t v, Tryd.f4.params[j]? = some t → args[j]? = some v → Value.okWide Tryd.prog W .any base t v := hval0
  have hW' := hW
  obtain ⟨p, q, hA0, hV, rfl, hfz, hnd⟩ := hW
  have hA : DataW.TrodAll enc Tryd.prog W 0 (fun _ => true) true Tryd.f4.params.toList args.toList ds p := hA0
  rw [Tryd.params4] at hA hval
  obtain ⟨v0, vs0, d0, ds0, p0, q0, hargs, rfl, rfl, h0, r0⟩ := trodAll_cons hA
  obtain ⟨v1, vs1, d1, ds1, p1, q1, rfl, rfl, rfl, h1, r1⟩ := trodAll_cons r0
  obtain ⟨v2, vs2, d2, ds2, p2, q2, rfl, rfl, rfl, h2, r2⟩ := trodAll_cons r1
  obtain ⟨rfl, rfl, rfl⟩ := trodAll_nil r2
  obtain rfl : args = #[v0, v1, v2] := by cases args; simp_all
  obtain ⟨rfl, rfl⟩ := trodVars_none hV
  have k0 := h0
  have lt0 : ∀ x ∈ p0, x.block < W.heap.size := by obtain ⟨m, hm⟩ := k0; exact DataW.trod_lt m _ _ _ hm
  obtain ⟨vs0_, nn0, hve0, hsz0, hfl0⟩ := open_fields Tryd.underlying25 (by kernel_rfl) (by kernel_rfl) (hval 0 25 v0 rfl rfl) h0
  obtain ⟨u0_0, y0_0, e0_0, t0_0⟩ := hfl0 0 _ rfl
  obtain ⟨p0_0, x0_0, _, b0_0⟩ := DataW.trod_int Tryd.underlying5 t0_0
  obtain rfl : u0_0 = .int .u8 p0_0 := by simpa using x0_0
  obtain ⟨u0_1, y0_1, e0_1, t0_1⟩ := hfl0 1 _ rfl
  obtain ⟨p0_1, x0_1, _, b0_1⟩ := DataW.trod_int Tryd.underlying22 t0_1
  obtain rfl : u0_1 = .int .u32 p0_1 := by simpa using x0_1
  obtain ⟨u0_2, y0_2, e0_2, t0_2⟩ := hfl0 2 _ rfl
  obtain ⟨p0_2, x0_2, _, b0_2⟩ := DataW.trod_int Tryd.underlying22 t0_2
  obtain rfl : u0_2 = .int .u32 p0_2 := by simpa using x0_2
  obtain ⟨u0_3, y0_3, e0_3, t0_3⟩ := hfl0 3 _ rfl
  obtain ⟨p0_3, x0_3, _, b0_3⟩ := DataW.trod_int Tryd.underlying23 t0_3
  obtain rfl : u0_3 = .int .u16 p0_3 := by simpa using x0_3
  obtain ⟨u0_4, y0_4, e0_4, t0_4⟩ := hfl0 4 _ rfl
  obtain ⟨p0_4, x0_4, _, b0_4⟩ := DataW.trod_int Tryd.underlying23 t0_4
  obtain rfl : u0_4 = .int .u16 p0_4 := by simpa using x0_4
  obtain ⟨u0_5, y0_5, e0_5, t0_5⟩ := hfl0 5 _ rfl
  obtain ⟨p0_5, x0_5, _, b0_5⟩ := DataW.trod_int Tryd.underlying5 t0_5
  obtain rfl : u0_5 = .int .u8 p0_5 := by simpa using x0_5
  obtain ⟨u0_6, y0_6, e0_6, t0_6⟩ := hfl0 6 _ rfl
  obtain ⟨p0_6, x0_6, _, b0_6⟩ := DataW.trod_int Tryd.underlying5 t0_6
  obtain rfl : u0_6 = .int .u8 p0_6 := by simpa using x0_6
  obtain rfl := array7 hsz0 e0_0 e0_1 e0_2 e0_3 e0_4 e0_5 e0_6
  subst hve0
  have k1 := h1
  have lt1 : ∀ x ∈ p1, x.block < W.heap.size := by obtain ⟨m, hm⟩ := k1; exact DataW.trod_lt m _ _ _ hm
  obtain ⟨a1, len1, cap1, rfl⟩ := okWide_slice Tryd.underlying26 (hval 1 26 v1 rfl rfl)
  obtain ⟨bs1, w1, c1, m1⟩ : ∃ bs, Bts W W.heap.size a1 len1 bs ∧ len1 ≤ cap1 ∧ cap1 ≤ maxLen := by
    obtain ⟨fuel, hf⟩ := h1
    rcases open_ints Tryd.underlying26 Tryd.underlying5 (by kernel_rfl) hf with ⟨hcs, _⟩ | ⟨x, l, c, zs, hcs, _, hl, hm, hz, _, hcell, hwz⟩
    · simp [Value.cells] at hcs
      obtain ⟨rfl, rfl, rfl⟩ := hcs
      exact ⟨[], Bts.empty _ _ _, Nat.le_refl _, Nat.zero_le _⟩
    · simp [Value.cells] at hcs
      obtain ⟨rfl, rfl, rfl⟩ := hcs
      obtain ⟨bs, hb⟩ := bts_of_cells (len := len1) (by rw [hz]; simp; omega) hcell hwz
      exact ⟨bs, hb, hl, hm⟩
  have k2 := h2
  have lt2 : ∀ x ∈ p2, x.block < W.heap.size := by obtain ⟨m, hm⟩ := k2; exact DataW.trod_lt m _ _ _ hm
  obtain ⟨a2, len2, cap2, rfl⟩ := okWide_slice Tryd.underlying26 (hval 2 26 v2 rfl rfl)
  obtain ⟨bs2, w2, c2, m2⟩ : ∃ bs, Bts W W.heap.size a2 len2 bs ∧ len2 ≤ cap2 ∧ cap2 ≤ maxLen := by
    obtain ⟨fuel, hf⟩ := h2
    rcases open_ints Tryd.underlying26 Tryd.underlying5 (by kernel_rfl) hf with ⟨hcs, _⟩ | ⟨x, l, c, zs, hcs, _, hl, hm, hz, _, hcell, hwz⟩
    · simp [Value.cells] at hcs
      obtain ⟨rfl, rfl, rfl⟩ := hcs
      exact ⟨[], Bts.empty _ _ _, Nat.le_refl _, Nat.zero_le _⟩
    · simp [Value.cells] at hcs
      obtain ⟨rfl, rfl, rfl⟩ := hcs
      obtain ⟨bs, hb⟩ := bts_of_cells (len := len2) (by rw [hz]; simp; omega) hcell hwz
      exact ⟨bs, hb, hl, hm⟩
  clear hA0 hval0
  have he : Tc.Env W := Tc.env_of hL
  refine (Pa.packBack_walk p0_0 p0_1 p0_2 p0_3 p0_4 p0_5 p0_6 a1 len1 cap1 bs1 a2 len2 cap2 bs2 W he ⟨bounds_u8 b0_0, bounds_u32 b0_1, bounds_u32 b0_2, bounds_u16 b0_3, bounds_u16 b0_4, bounds_u8 b0_5, bounds_u8 b0_6⟩ w1 c1 m1 w2 c2 m2).mono fun e W' ⟨hres, bel⟩ => ?_
  subst hres
  exact ⟨_, rfl, _, _, _, [], _, [], hW', trodAll_mk1 (shut_bool Tryd.underlying4 _), (trodAll_cons_mk (Below.trod laidOut (by kernel_rfl) (of_decide_eq_true (by kernel_rfl)) k0 bel lt0) (trodAll_cons_mk (Below.trod laidOut (by kernel_rfl) (of_decide_eq_true (by kernel_rfl)) k1 bel lt1) (trodAll_cons_mk (Below.trod laidOut (by kernel_rfl) (of_decide_eq_true (by kernel_rfl)) k2 bel lt2) trodAll_mk0))), rfl, bel.frame _, fun h => by cases h⟩

theorem over : Rows.PackBackSaid :=
  OpenClaim.holds_of_wide 4 Tryd.f4 rfl rfl rfl rfl rfl rfl rfl ⟨rfl, rfl, rfl, rfl, rfl⟩ rfl rfl rfl rfl rfl (by kernel_rfl) Tryd.func4 (by kernel_rfl)
    (of_decide_eq_true (by kernel_rfl)) (by unfold Func.isWrapper; first | (rw [if_pos (by decide +kernel)]; kernel_rfl) | (rw [if_neg (by decide +kernel)]; exact ⟨rfl, rfl⟩))
    (fun os started H enc _ => lifted os started H enc)
theorem named : Tryd.prog.funcNamed Rows.packBackRow.func = some 4 := by kernel_rfl
theorem proved : Rows.PackBackCardSaid :=
  Claim7.holds_tied_plain_at .later [] Rows.packBackCard.laidKinds true Rows.packBackCard.stood.harness Rows.packBackCard.stood.looks over (fun _ h => by cases h) (by kernel_rfl) (fun _ h => by cases h) packBack_row_tie rfl ⟨rfl, rfl⟩ (by kernel_rfl) rfl
    (fun f fn hf hfn => by
      obtain rfl : f = 4 := (Option.some.inj (named.symm.trans hf)).symm
      obtain rfl : fn = Tryd.f4 := (Option.some.inj (Tryd.func4.symm.trans hfn)).symm
      exact ⟨by kernel_rfl, fun j t ht => by
        rw [Tryd.params4] at ht
        have hm : t ∈ [25, 26, 26] := by simpa using Array.mem_of_getElem? ht
        have hall : ([25, 26, 26].all fun u => !Tryd.prog.wantsStandIn u) = true := by kernel_rfl
        exact (show Tryd.prog.wantsStandIn t = false by simpa using List.all_eq_true.1 hall t hm)⟩)
    (by kernel_rfl)
#print axioms proved
end Go.Proofs.YtapcjjhbdhkhhaaDoor.packBack
