/- Layer 12: the walk of RulesBack. (Written by wip/tools/mkRulT.py.) -/
import Derived.Test.YtfbbkbjiaopnkaaDoorRulR
set_option linter.unusedVariables false
set_option linter.unusedSimpArgs false
namespace Go.Proofs.YtfbbkbjiaopnkaaDoor
open Go.ChangeShapes Go.WideShapes Go.ChangeAt Go.RowKit Go.Mtl Go.Shelf Go.Lib
namespace Ru
open RulM (R compile printE printT goodR textR)

theorem compile_list (t : List UInt8) (ht : t.length ≤ 1000000) (w : World) (he : Env w) : Calls Tryd.prog 5 #[.string ⟨t.toArray⟩] w (AnsR t w) := by
  have h := compile_any ⟨t.toArray⟩ w (by unfold maxLen; simp [ByteArray.size]; omega) he
  have e0 : (⟨t.toArray⟩ : ByteArray).data.toList = t := by simp
  rw [e0] at h
  exact h
theorem printT_len {rs : List R} (ho : ∀ r ∈ rs, r.Ok) : (printT rs).length ≤ 10000 := by
  unfold RulM.printT
  split
  · rename_i h
    obtain ⟨h1, h2⟩ := RulM.printE_zero h
    have := RulM.text_len ho h2
    omega
  · simp
/-- What the second half of RulesBack asks, from the compiling of s on: the same for all that comes ahead. -/
structure Back (s : ByteArray) : Prop where
  ok : (compile s.data.toList).2.2 = 0 → printE (compile s.data.toList).1 = 0 ∧ (∀ r ∈ (compile s.data.toList).1, r.Ok) ∧
    (((printT (compile s.data.toList).1).length ≤ 4096 ∧ compile (printT (compile s.data.toList).1) = ((compile s.data.toList).1, 0, 0)) ∨ (4096 < (printT (compile s.data.toList).1).length ∧ compile (printT (compile s.data.toList).1) = ([], 0, 2)))
  no : (compile s.data.toList).2.2 ≠ 0 → (compile s.data.toList).1 = []
theorem back_of (s : ByteArray) : Back s := by
  refine ⟨fun h => ?_, fun h => RulM.compile_err h⟩
  obtain ⟨h1, h2, h3, _⟩ := RulM.compile_ok h
  obtain ⟨e1, e2⟩ := RulM.print_ok h1 h2
  refine ⟨e1, h3, ?_⟩
  rw [e2]
  by_cases hl : (textR (compile s.data.toList).1).length ≤ 4096
  · exact .inl ⟨hl, RulM.compile_text e1 h3 hl⟩
  · exact .inr ⟨by omega, RulM.compile_long (by omega)⟩
set_option maxRecDepth 100000 in
set_option maxHeartbeats 4000000 in
theorem back_long (A : Option Addr) (n cap : Nat) (rs : List R) (s : ByteArray) (w : World) (he : Env w) (hn : rs.length = n) (hr : Rds w w.heap.size (.slice A n cap) rs) (ho : ∀ r ∈ rs, r.Ok) (hs : s.size ≤ maxLen) (hcn : n ≤ cap) (hcm : cap ≤ maxLen) (h80 : 80 < n) :
    Calls Tryd.prog 3 #[.slice A n cap, .string s] w fun e w' => e = .returned (.bool true) ∧ Below w.heap.size w w' := by
  unfold maxLen at hcm
  have hr2 : Rds w w.heap.size (.slice A 80 cap) (rs.take 80) := hr.front 80 (by omega)
  have ho2 : ∀ r ∈ rs.take 80, r.Ok := fun r hr => ho r (List.mem_of_mem_take hr)
  have hl2 : (rs.take 80).length = 80 := by rw [List.length_take]; omega
  have HP := Lib.hid (print_any _ (rs.take 80) w he hr2 ho2)
  obtain ⟨e1, e2⟩ := RulM.print_many (rs := rs.take 80) (by omega)
  rw [e1, e2] at HP
  have HE := Lib.hid he
  have HS := Lib.hid hs
  clear hr ho hr2 ho2 hl2 e1 e2 hn he hs
  go_enter Tryd.func3, Tryd.ntmps3
  go_wp2_with fail
  go_at_call 4
  refine HP.out.mono ?_
  rintro e w1 ⟨rfl, hb1⟩
  have HB1 := Lib.hid hb1
  clear hb1 HP
  have HC2 := Lib.hid (compile_any s w1 HS.out (HE.out.below HB1.out))
  unfold AnsR at HC2
  obtain ⟨⟨cs, nn, er⟩, hC⟩ : ∃ C, compile s.data.toList = C := ⟨_, rfl⟩
  obtain ⟨hok, hno⟩ := back_of s
  rw [hC] at HC2 hok hno
  clear hC
  by_cases her : er = 0
  · subst her
    obtain ⟨k1, k2, k3⟩ := hok rfl
    clear hok hno
    have K1 := Lib.hid k1
    have K2 := Lib.hid k2
    have hpl := printT_len k2
    rcases k3 with ⟨hl, hc⟩ | ⟨hl, hc⟩
    · have HP3 := Lib.hid (fun v W h h2 => print_any v cs W h h2 K2.out)
      rw [k1] at HP3
      obtain ⟨u, hu⟩ : ∃ u, printT cs = u := ⟨_, rfl⟩
      rw [hu] at HP3 hl hc hpl
      have HC3 := Lib.hid (fun W h => compile_list u (by omega) W h)
      unfold AnsR at HC3
      rw [hc] at HC3
      clear k1 k2 hc hu hpl
      go_wp2_with fail
      go_at_call 5
      refine HC2.out.mono ?_
      rintro e x1 ⟨v1, rfl, hv1, hb⟩
      have HX1 := Lib.hid (below_then HB1.out hb)
      have HV1 := Lib.hid hv1
      clear hb hv1 HC2
      go_wp2_with fail
      go_at_call 4
      refine (HP3.out v1 x1 (HE.out.below HX1.out) HV1.out).mono ?_
      rintro e x2 ⟨rfl, hb⟩
      have HX2 := Lib.hid (below_then HX1.out hb)
      have HV2 := Lib.hid (HV1.out.below hb)
      clear hb HP3
      go_wp2_with fail
      go_at_call 5
      refine (HC3.out x2 (HE.out.below HX2.out)).mono ?_
      rintro e x3 ⟨v2, rfl, hv2, hb⟩
      have HX3 := Lib.hid (below_then HX2.out hb)
      have HV3 := Lib.hid (HV2.out.below hb)
      have HU3 := Lib.hid hv2
      clear hb hv2 HC3
      have HA := Lib.hid (awake_any x3 (HE.out.below HX3.out))
      go_wp2_with fail
      go_at_call 7
      refine HA.out.mono ?_
      rintro e x4 ⟨rfl, hb⟩
      have HX4 := Lib.hid (below_then HX3.out hb)
      have HSM := Lib.hid (same_true v1 v2 cs x4 (HV3.out.below hb) (HU3.out.below hb))
      clear hb HA
      go_wp2_with fail
      go_at_call 6
      refine HSM.out.mono ?_
      rintro e x5 ⟨rfl, q, rfl⟩
      go_wp2_with fail
      go_ret
      exact ⟨rfl, HX4.out.drews q⟩
    · have HP3 := Lib.hid (fun v W h h2 => print_any v cs W h h2 K2.out)
      rw [k1] at HP3
      obtain ⟨u, hu⟩ : ∃ u, printT cs = u := ⟨_, rfl⟩
      rw [hu] at HP3 hl hc hpl
      have HC3 := Lib.hid (fun W h => compile_list u (by omega) W h)
      unfold AnsR at HC3
      rw [hc] at HC3
      clear k1 k2 hc hu hpl
      go_wp2_with fail
      go_at_call 5
      refine HC2.out.mono ?_
      rintro e x1 ⟨v1, rfl, hv1, hb⟩
      have HX1 := Lib.hid (below_then HB1.out hb)
      have HV1 := Lib.hid hv1
      clear hb hv1 HC2
      go_wp2_with fail
      go_at_call 4
      refine (HP3.out v1 x1 (HE.out.below HX1.out) HV1.out).mono ?_
      rintro e x2 ⟨rfl, hb⟩
      have HX2 := Lib.hid (below_then HX1.out hb)
      clear hb HP3
      go_wp2_with fail
      go_at_call 5
      refine (HC3.out x2 (HE.out.below HX2.out)).mono ?_
      rintro e x3 ⟨v2, rfl, -, hb⟩
      have HX3 := Lib.hid (below_then HX2.out hb)
      clear hb HC3
      have HA := Lib.hid (awake_any x3 (HE.out.below HX3.out))
      go_wp2_with fail
      go_at_call 7
      refine HA.out.mono ?_
      rintro e x4 ⟨rfl, hb⟩
      have HX4 := Lib.hid (below_then HX3.out hb)
      clear hb HA
      go_wp2_with fail
      go_ret
      exact ⟨ret_bool (decide_eq_true (by omega)), HX4.out⟩
  · have hcs := hno her
    subst hcs
    clear hok hno
    have hd : ((er : Int) != 0) = true := by rw [bne_iff_ne]; omega
    clear her
    go_wp2_with fail
    go_at_call 5
    refine HC2.out.mono ?_
    rintro e x1 ⟨v1, rfl, hv1, hb⟩
    have HX1 := Lib.hid (below_then HB1.out hb)
    obtain ⟨A1, c1, rfl, -, -⟩ := hv1.len
    clear hb hv1 HC2
    have HA := Lib.hid (awake_any x1 (HE.out.below HX1.out))
    go_wp2_with fail
    go_at_call 7
    refine HA.out.mono ?_
    rintro e x2 ⟨rfl, hb⟩
    have HX2 := Lib.hid (below_then HX1.out hb)
    clear hb HA
    go_wp2_with fail
    go_ret
    exact ⟨rfl, HX2.out⟩
set_option maxRecDepth 100000 in
set_option maxHeartbeats 4000000 in
theorem back_bad (A : Option Addr) (n cap : Nat) (rs : List R) (s : ByteArray) (w : World) (he : Env w) (hn : rs.length = n) (hr : Rds w w.heap.size (.slice A n cap) rs) (ho : ∀ r ∈ rs, r.Ok) (hs : s.size ≤ maxLen) (hcn : n ≤ cap) (hcm : cap ≤ maxLen) (h80 : ¬ 80 < n) (hbad : printE rs ≠ 0) :
    Calls Tryd.prog 3 #[.slice A n cap, .string s] w fun e w' => e = .returned (.bool true) ∧ Below w.heap.size w w' := by
  unfold maxLen at hcm
  have HP := Lib.hid (print_any _ rs w he hr ho)
  have HE := Lib.hid he
  have HS := Lib.hid hs
  have hd : ((printE rs : Int) == 0) = false := by rw [beq_eq_false_iff_ne]; omega
  generalize printE rs = pe at *
  generalize printT rs = pt at *
  clear hr ho hn he hs hbad
  go_enter Tryd.func3, Tryd.ntmps3
  go_wp2_with fail
  go_at_call 4
  refine HP.out.mono ?_
  rintro e w1 ⟨rfl, hb1⟩
  have HB1 := Lib.hid hb1
  clear hb1 HP
  have HC2 := Lib.hid (compile_any s w1 HS.out (HE.out.below HB1.out))
  unfold AnsR at HC2
  obtain ⟨⟨cs, nn, er⟩, hC⟩ : ∃ C, compile s.data.toList = C := ⟨_, rfl⟩
  obtain ⟨hok, hno⟩ := back_of s
  rw [hC] at HC2 hok hno
  clear hC
  by_cases her : er = 0
  · subst her
    obtain ⟨k1, k2, k3⟩ := hok rfl
    clear hok hno
    have K1 := Lib.hid k1
    have K2 := Lib.hid k2
    have hpl := printT_len k2
    rcases k3 with ⟨hl, hc⟩ | ⟨hl, hc⟩
    · have HP3 := Lib.hid (fun v W h h2 => print_any v cs W h h2 K2.out)
      rw [k1] at HP3
      obtain ⟨u, hu⟩ : ∃ u, printT cs = u := ⟨_, rfl⟩
      rw [hu] at HP3 hl hc hpl
      have HC3 := Lib.hid (fun W h => compile_list u (by omega) W h)
      unfold AnsR at HC3
      rw [hc] at HC3
      clear k1 k2 hc hu hpl
      go_wp2_with fail
      go_at_call 5
      refine HC2.out.mono ?_
      rintro e x1 ⟨v1, rfl, hv1, hb⟩
      have HX1 := Lib.hid (below_then HB1.out hb)
      have HV1 := Lib.hid hv1
      clear hb hv1 HC2
      go_wp2_with fail
      go_at_call 4
      refine (HP3.out v1 x1 (HE.out.below HX1.out) HV1.out).mono ?_
      rintro e x2 ⟨rfl, hb⟩
      have HX2 := Lib.hid (below_then HX1.out hb)
      have HV2 := Lib.hid (HV1.out.below hb)
      clear hb HP3
      go_wp2_with fail
      go_at_call 5
      refine (HC3.out x2 (HE.out.below HX2.out)).mono ?_
      rintro e x3 ⟨v2, rfl, hv2, hb⟩
      have HX3 := Lib.hid (below_then HX2.out hb)
      have HV3 := Lib.hid (HV2.out.below hb)
      have HU3 := Lib.hid hv2
      clear hb hv2 HC3
      have HA := Lib.hid (awake_any x3 (HE.out.below HX3.out))
      go_wp2_with fail
      go_at_call 7
      refine HA.out.mono ?_
      rintro e x4 ⟨rfl, hb⟩
      have HX4 := Lib.hid (below_then HX3.out hb)
      have HSM := Lib.hid (same_true v1 v2 cs x4 (HV3.out.below hb) (HU3.out.below hb))
      clear hb HA
      go_wp2_with fail
      go_at_call 6
      refine HSM.out.mono ?_
      rintro e x5 ⟨rfl, q, rfl⟩
      go_wp2_with fail
      go_ret
      exact ⟨rfl, HX4.out.drews q⟩
    · have HP3 := Lib.hid (fun v W h h2 => print_any v cs W h h2 K2.out)
      rw [k1] at HP3
      obtain ⟨u, hu⟩ : ∃ u, printT cs = u := ⟨_, rfl⟩
      rw [hu] at HP3 hl hc hpl
      have HC3 := Lib.hid (fun W h => compile_list u (by omega) W h)
      unfold AnsR at HC3
      rw [hc] at HC3
      clear k1 k2 hc hu hpl
      go_wp2_with fail
      go_at_call 5
      refine HC2.out.mono ?_
      rintro e x1 ⟨v1, rfl, hv1, hb⟩
      have HX1 := Lib.hid (below_then HB1.out hb)
      have HV1 := Lib.hid hv1
      clear hb hv1 HC2
      go_wp2_with fail
      go_at_call 4
      refine (HP3.out v1 x1 (HE.out.below HX1.out) HV1.out).mono ?_
      rintro e x2 ⟨rfl, hb⟩
      have HX2 := Lib.hid (below_then HX1.out hb)
      clear hb HP3
      go_wp2_with fail
      go_at_call 5
      refine (HC3.out x2 (HE.out.below HX2.out)).mono ?_
      rintro e x3 ⟨v2, rfl, -, hb⟩
      have HX3 := Lib.hid (below_then HX2.out hb)
      clear hb HC3
      have HA := Lib.hid (awake_any x3 (HE.out.below HX3.out))
      go_wp2_with fail
      go_at_call 7
      refine HA.out.mono ?_
      rintro e x4 ⟨rfl, hb⟩
      have HX4 := Lib.hid (below_then HX3.out hb)
      clear hb HA
      go_wp2_with fail
      go_ret
      exact ⟨ret_bool (decide_eq_true (by omega)), HX4.out⟩
  · have hcs := hno her
    subst hcs
    clear hok hno
    have hd2 : ((er : Int) != 0) = true := by rw [bne_iff_ne]; omega
    clear her
    go_wp2_with fail
    go_at_call 5
    refine HC2.out.mono ?_
    rintro e x1 ⟨v1, rfl, hv1, hb⟩
    have HX1 := Lib.hid (below_then HB1.out hb)
    obtain ⟨A1, c1, rfl, -, -⟩ := hv1.len
    clear hb hv1 HC2
    have HA := Lib.hid (awake_any x1 (HE.out.below HX1.out))
    go_wp2_with fail
    go_at_call 7
    refine HA.out.mono ?_
    rintro e x2 ⟨rfl, hb⟩
    have HX2 := Lib.hid (below_then HX1.out hb)
    clear hb HA
    go_wp2_with fail
    go_ret
    exact ⟨rfl, HX2.out⟩
set_option maxRecDepth 100000 in
set_option maxHeartbeats 4000000 in
theorem back_short (A : Option Addr) (n cap : Nat) (rs : List R) (s : ByteArray) (w : World) (he : Env w) (hn : rs.length = n) (hr : Rds w w.heap.size (.slice A n cap) rs) (ho : ∀ r ∈ rs, r.Ok) (hs : s.size ≤ maxLen) (hcn : n ≤ cap) (hcm : cap ≤ maxLen) (h80 : ¬ 80 < n) (hgood : printE rs = 0) (hl : (printT rs).length ≤ 4096) :
    Calls Tryd.prog 3 #[.slice A n cap, .string s] w fun e w' => e = .returned (.bool true) ∧ Below w.heap.size w w' := by
  unfold maxLen at hcm
  have HP := Lib.hid (print_any _ rs w he hr ho)
  rw [hgood] at HP
  have HE := Lib.hid he
  have HS := Lib.hid hs
  have HR := Lib.hid hr
  have hpl := printT_len ho
  have hcc : compile (printT rs) = (rs, 0, 0) := by
    obtain ⟨g1, g2⟩ := RulM.printE_zero hgood
    have g3 := (RulM.print_ok g1 g2).2
    rw [g3] at hl ⊢
    exact RulM.compile_text hgood ho hl
  obtain ⟨pt, hpt⟩ : ∃ u, printT rs = u := ⟨_, rfl⟩
  rw [hpt] at HP hl hpl hcc
  have HC1 := Lib.hid (fun W h => compile_list pt (by omega) W h)
  unfold AnsR at HC1
  rw [hcc] at HC1
  clear hr ho hn he hs hgood hcc hpt hpl
  go_enter Tryd.func3, Tryd.ntmps3
  go_wp2_with fail
  go_at_call 4
  refine HP.out.mono ?_
  rintro e w1 ⟨rfl, hb1⟩
  have HB1 := Lib.hid hb1
  have HR1 := Lib.hid (HR.out.below hb1)
  clear hb1 HP HR
  go_wp2_with fail
  go_at_call 5
  refine (HC1.out w1 (HE.out.below HB1.out)).mono ?_
  rintro e w2 ⟨v0, rfl, hv0, hb2⟩
  have HB2 := Lib.hid (below_then HB1.out hb2)
  have HSM0 := Lib.hid (same_true v0 (.slice A n cap) rs w2 hv0 (HR1.out.below hb2))
  clear hb2 hv0 HC1 HR1
  go_wp2_with fail
  go_at_call 6
  refine HSM0.out.mono ?_
  rintro e w3 ⟨rfl, q0, rfl⟩
  have HB3 := Lib.hid (HB2.out.drews q0)
  obtain ⟨w3, hw3⟩ : ∃ u, u = w2.drewN q0 := ⟨_, rfl⟩
  rw [← hw3] at HB3 ⊢
  clear hw3
  have HC2 := Lib.hid (compile_any s w3 HS.out (HE.out.below HB3.out))
  unfold AnsR at HC2
  obtain ⟨⟨cs, nn, er⟩, hC⟩ : ∃ C, compile s.data.toList = C := ⟨_, rfl⟩
  obtain ⟨hok, hno⟩ := back_of s
  rw [hC] at HC2 hok hno
  clear hC
  by_cases her : er = 0
  · subst her
    obtain ⟨k1, k2, k3⟩ := hok rfl
    clear hok hno
    have K1 := Lib.hid k1
    have K2 := Lib.hid k2
    have hpl := printT_len k2
    clear hl
    rcases k3 with ⟨hl, hc⟩ | ⟨hl, hc⟩
    · have HP3 := Lib.hid (fun v W h h2 => print_any v cs W h h2 K2.out)
      rw [k1] at HP3
      obtain ⟨u, hu⟩ : ∃ u, printT cs = u := ⟨_, rfl⟩
      rw [hu] at HP3 hl hc hpl
      have HC3 := Lib.hid (fun W h => compile_list u (by omega) W h)
      unfold AnsR at HC3
      rw [hc] at HC3
      clear k1 k2 hc hu hpl
      go_wp2_with fail
      go_at_call 5
      refine HC2.out.mono ?_
      rintro e x1 ⟨v1, rfl, hv1, hb⟩
      have HX1 := Lib.hid (below_then HB3.out hb)
      have HV1 := Lib.hid hv1
      clear hb hv1 HC2
      go_wp2_with fail
      go_at_call 4
      refine (HP3.out v1 x1 (HE.out.below HX1.out) HV1.out).mono ?_
      rintro e x2 ⟨rfl, hb⟩
      have HX2 := Lib.hid (below_then HX1.out hb)
      have HV2 := Lib.hid (HV1.out.below hb)
      clear hb HP3
      go_wp2_with fail
      go_at_call 5
      refine (HC3.out x2 (HE.out.below HX2.out)).mono ?_
      rintro e x3 ⟨v2, rfl, hv2, hb⟩
      have HX3 := Lib.hid (below_then HX2.out hb)
      have HV3 := Lib.hid (HV2.out.below hb)
      have HU3 := Lib.hid hv2
      clear hb hv2 HC3
      have HA := Lib.hid (awake_any x3 (HE.out.below HX3.out))
      go_wp2_with fail
      go_at_call 7
      refine HA.out.mono ?_
      rintro e x4 ⟨rfl, hb⟩
      have HX4 := Lib.hid (below_then HX3.out hb)
      have HSM := Lib.hid (same_true v1 v2 cs x4 (HV3.out.below hb) (HU3.out.below hb))
      clear hb HA
      go_wp2_with fail
      go_at_call 6
      refine HSM.out.mono ?_
      rintro e x5 ⟨rfl, q, rfl⟩
      go_wp2_with fail
      go_ret
      exact ⟨rfl, HX4.out.drews q⟩
    · have HP3 := Lib.hid (fun v W h h2 => print_any v cs W h h2 K2.out)
      rw [k1] at HP3
      obtain ⟨u, hu⟩ : ∃ u, printT cs = u := ⟨_, rfl⟩
      rw [hu] at HP3 hl hc hpl
      have HC3 := Lib.hid (fun W h => compile_list u (by omega) W h)
      unfold AnsR at HC3
      rw [hc] at HC3
      clear k1 k2 hc hu hpl
      go_wp2_with fail
      go_at_call 5
      refine HC2.out.mono ?_
      rintro e x1 ⟨v1, rfl, hv1, hb⟩
      have HX1 := Lib.hid (below_then HB3.out hb)
      have HV1 := Lib.hid hv1
      clear hb hv1 HC2
      go_wp2_with fail
      go_at_call 4
      refine (HP3.out v1 x1 (HE.out.below HX1.out) HV1.out).mono ?_
      rintro e x2 ⟨rfl, hb⟩
      have HX2 := Lib.hid (below_then HX1.out hb)
      clear hb HP3
      go_wp2_with fail
      go_at_call 5
      refine (HC3.out x2 (HE.out.below HX2.out)).mono ?_
      rintro e x3 ⟨v2, rfl, -, hb⟩
      have HX3 := Lib.hid (below_then HX2.out hb)
      clear hb HC3
      have HA := Lib.hid (awake_any x3 (HE.out.below HX3.out))
      go_wp2_with fail
      go_at_call 7
      refine HA.out.mono ?_
      rintro e x4 ⟨rfl, hb⟩
      have HX4 := Lib.hid (below_then HX3.out hb)
      clear hb HA
      go_wp2_with fail
      go_ret
      exact ⟨ret_bool (decide_eq_true (by omega)), HX4.out⟩
  · have hcs := hno her
    subst hcs
    clear hok hno
    have hd : ((er : Int) != 0) = true := by rw [bne_iff_ne]; omega
    clear her
    go_wp2_with fail
    go_at_call 5
    refine HC2.out.mono ?_
    rintro e x1 ⟨v1, rfl, hv1, hb⟩
    have HX1 := Lib.hid (below_then HB3.out hb)
    obtain ⟨A1, c1, rfl, -, -⟩ := hv1.len
    clear hb hv1 HC2
    have HA := Lib.hid (awake_any x1 (HE.out.below HX1.out))
    go_wp2_with fail
    go_at_call 7
    refine HA.out.mono ?_
    rintro e x2 ⟨rfl, hb⟩
    have HX2 := Lib.hid (below_then HX1.out hb)
    clear hb HA
    go_wp2_with fail
    go_ret
    exact ⟨rfl, HX2.out⟩
set_option maxRecDepth 100000 in
set_option maxHeartbeats 4000000 in
theorem back_over (A : Option Addr) (n cap : Nat) (rs : List R) (s : ByteArray) (w : World) (he : Env w) (hn : rs.length = n) (hr : Rds w w.heap.size (.slice A n cap) rs) (ho : ∀ r ∈ rs, r.Ok) (hs : s.size ≤ maxLen) (hcn : n ≤ cap) (hcm : cap ≤ maxLen) (h80 : ¬ 80 < n) (hgood : printE rs = 0) (hl : 4096 < (printT rs).length) :
    Calls Tryd.prog 3 #[.slice A n cap, .string s] w fun e w' => e = .returned (.bool true) ∧ Below w.heap.size w w' := by
  unfold maxLen at hcm
  have HP := Lib.hid (print_any _ rs w he hr ho)
  rw [hgood] at HP
  have HE := Lib.hid he
  have HS := Lib.hid hs
  have HR := Lib.hid hr
  have hpl := printT_len ho
  have hcc : compile (printT rs) = ([], 0, 2) := by
    obtain ⟨g1, g2⟩ := RulM.printE_zero hgood
    have g3 := (RulM.print_ok g1 g2).2
    rw [g3] at hl ⊢
    exact RulM.compile_long hl
  obtain ⟨pt, hpt⟩ : ∃ u, printT rs = u := ⟨_, rfl⟩
  rw [hpt] at HP hl hpl hcc
  have HC1 := Lib.hid (fun W h => compile_list pt (by omega) W h)
  unfold AnsR at HC1
  rw [hcc] at HC1
  clear hr ho hn he hs hgood hcc hpt hpl
  go_enter Tryd.func3, Tryd.ntmps3
  go_wp2_with fail
  go_at_call 4
  refine HP.out.mono ?_
  rintro e w1 ⟨rfl, hb1⟩
  have HB1 := Lib.hid hb1
  have HR1 := Lib.hid (HR.out.below hb1)
  clear hb1 HP HR
  go_wp2_with fail
  go_at_call 5
  refine (HC1.out w1 (HE.out.below HB1.out)).mono ?_
  rintro e w2 ⟨v0, rfl, hv0, hb2⟩
  have HB2 := Lib.hid (below_then HB1.out hb2)
  clear hb2 hv0 HC1 HR1
  have HC2 := Lib.hid (compile_any s w2 HS.out (HE.out.below HB2.out))
  unfold AnsR at HC2
  obtain ⟨⟨cs, nn, er⟩, hC⟩ : ∃ C, compile s.data.toList = C := ⟨_, rfl⟩
  obtain ⟨hok, hno⟩ := back_of s
  rw [hC] at HC2 hok hno
  clear hC
  by_cases her : er = 0
  · subst her
    obtain ⟨k1, k2, k3⟩ := hok rfl
    clear hok hno
    have K1 := Lib.hid k1
    have K2 := Lib.hid k2
    have hpl := printT_len k2
    rcases k3 with ⟨hl2, hc⟩ | ⟨hl2, hc⟩
    · have HP3 := Lib.hid (fun v W h h2 => print_any v cs W h h2 K2.out)
      rw [k1] at HP3
      obtain ⟨u, hu⟩ : ∃ u, printT cs = u := ⟨_, rfl⟩
      rw [hu] at HP3 hl2 hc hpl
      have HC3 := Lib.hid (fun W h => compile_list u (by omega) W h)
      unfold AnsR at HC3
      rw [hc] at HC3
      clear k1 k2 hc hu hpl
      go_wp2_with fail
      go_at_call 5
      refine HC2.out.mono ?_
      rintro e x1 ⟨v1, rfl, hv1, hb⟩
      have HX1 := Lib.hid (below_then HB2.out hb)
      have HV1 := Lib.hid hv1
      clear hb hv1 HC2
      go_wp2_with fail
      go_at_call 4
      refine (HP3.out v1 x1 (HE.out.below HX1.out) HV1.out).mono ?_
      rintro e x2 ⟨rfl, hb⟩
      have HX2 := Lib.hid (below_then HX1.out hb)
      have HV2 := Lib.hid (HV1.out.below hb)
      clear hb HP3
      go_wp2_with fail
      go_at_call 5
      refine (HC3.out x2 (HE.out.below HX2.out)).mono ?_
      rintro e x3 ⟨v2, rfl, hv2, hb⟩
      have HX3 := Lib.hid (below_then HX2.out hb)
      have HV3 := Lib.hid (HV2.out.below hb)
      have HU3 := Lib.hid hv2
      clear hb hv2 HC3
      have HA := Lib.hid (awake_any x3 (HE.out.below HX3.out))
      go_wp2_with fail
      go_at_call 7
      refine HA.out.mono ?_
      rintro e x4 ⟨rfl, hb⟩
      have HX4 := Lib.hid (below_then HX3.out hb)
      have HSM := Lib.hid (same_true v1 v2 cs x4 (HV3.out.below hb) (HU3.out.below hb))
      clear hb HA
      go_wp2_with fail
      go_at_call 6
      refine HSM.out.mono ?_
      rintro e x5 ⟨rfl, q, rfl⟩
      go_wp2_with fail
      go_ret
      exact ⟨rfl, HX4.out.drews q⟩
    · have HP3 := Lib.hid (fun v W h h2 => print_any v cs W h h2 K2.out)
      rw [k1] at HP3
      obtain ⟨u, hu⟩ : ∃ u, printT cs = u := ⟨_, rfl⟩
      rw [hu] at HP3 hl2 hc hpl
      have HC3 := Lib.hid (fun W h => compile_list u (by omega) W h)
      unfold AnsR at HC3
      rw [hc] at HC3
      clear k1 k2 hc hu hpl
      go_wp2_with fail
      go_at_call 5
      refine HC2.out.mono ?_
      rintro e x1 ⟨v1, rfl, hv1, hb⟩
      have HX1 := Lib.hid (below_then HB2.out hb)
      have HV1 := Lib.hid hv1
      clear hb hv1 HC2
      go_wp2_with fail
      go_at_call 4
      refine (HP3.out v1 x1 (HE.out.below HX1.out) HV1.out).mono ?_
      rintro e x2 ⟨rfl, hb⟩
      have HX2 := Lib.hid (below_then HX1.out hb)
      clear hb HP3
      go_wp2_with fail
      go_at_call 5
      refine (HC3.out x2 (HE.out.below HX2.out)).mono ?_
      rintro e x3 ⟨v2, rfl, -, hb⟩
      have HX3 := Lib.hid (below_then HX2.out hb)
      clear hb HC3
      have HA := Lib.hid (awake_any x3 (HE.out.below HX3.out))
      go_wp2_with fail
      go_at_call 7
      refine HA.out.mono ?_
      rintro e x4 ⟨rfl, hb⟩
      have HX4 := Lib.hid (below_then HX3.out hb)
      clear hb HA
      go_wp2_with fail
      go_ret
      exact ⟨ret_bool (decide_eq_true (by omega)), HX4.out⟩
  · have hcs := hno her
    subst hcs
    clear hok hno
    have hd : ((er : Int) != 0) = true := by rw [bne_iff_ne]; omega
    clear her
    go_wp2_with fail
    go_at_call 5
    refine HC2.out.mono ?_
    rintro e x1 ⟨v1, rfl, hv1, hb⟩
    have HX1 := Lib.hid (below_then HB2.out hb)
    obtain ⟨A1, c1, rfl, -, -⟩ := hv1.len
    clear hb hv1 HC2
    have HA := Lib.hid (awake_any x1 (HE.out.below HX1.out))
    go_wp2_with fail
    go_at_call 7
    refine HA.out.mono ?_
    rintro e x2 ⟨rfl, hb⟩
    have HX2 := Lib.hid (below_then HX1.out hb)
    clear hb HA
    go_wp2_with fail
    go_ret
    exact ⟨rfl, HX2.out⟩
theorem rulesBack_walk (A : Option Addr) (n cap : Nat) (rs : List R) (s : ByteArray) (w : World) (he : Env w) (h1 : Rds w w.heap.size (.slice A n cap) rs ∧ ∀ r ∈ rs, r.Ok) (h2 : s.size ≤ maxLen) :
    Calls Tryd.prog 3 #[.slice A n cap, .string s] w fun e w' => e = .returned (.bool true) ∧ Below w.heap.size w w' := by
  obtain ⟨A', c', hv, hc1, hc2⟩ := h1.1.len
  injection hv with e1 e2 e3
  subst e1 e3
  by_cases h80 : 80 < n
  · exact back_long A n cap rs s w he e2.symm h1.1 h1.2 h2 (by omega) hc2 h80
  · by_cases hg : printE rs = 0
    · by_cases hl : (printT rs).length ≤ 4096
      · exact back_short A n cap rs s w he e2.symm h1.1 h1.2 h2 (by omega) hc2 h80 hg hl
      · exact back_over A n cap rs s w he e2.symm h1.1 h1.2 h2 (by omega) hc2 h80 hg (by omega)
    · exact back_bad A n cap rs s w he e2.symm h1.1 h1.2 h2 (by omega) hc2 h80 hg
end Ru
end Go.Proofs.YtfbbkbjiaopnkaaDoor
