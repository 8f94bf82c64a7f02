/- Layer 15: the walk of FlowLater. -/
import Derived.Test.YtdjbiaifblmckaaDoorFloP
import Derived.Test.YtdjbiaifblmckaaDoorComI
set_option linter.unusedVariables false
set_option linter.unusedSimpArgs false
namespace Go.Proofs.YtdjbiaifblmckaaDoor
open Go.ChangeShapes Go.WideShapes Go.ChangeAt Go.RowKit Go.Mtl
namespace Fl
open FloM (gI Fit)

/-- The words met so far: none has a Seq above k. -/
def Met (ws : List Int) (k : Int) : Prop := ∀ z ∈ ws, ∃ a b d, Fit a b d ∧ z = gI a b d ∧ b ≤ k
theorem Met.one {c k v : Int} (h : Fit c k v) : Met [gI c k v] k := by
  intro z hz
  simp at hz
  exact ⟨c, k, v, h, hz, Int.le_refl _⟩
theorem Met.snoc {ws : List Int} {k c' k' v' : Int} (h : Met ws k) (hk : k < k') (hf : Fit c' k' v') : Met (ws ++ [gI c' k' v']) k' := by
  intro z hz
  rcases List.mem_append.1 hz with hz | hz
  · obtain ⟨a, b, d, h1, h2, h3⟩ := h z hz
    exact ⟨a, b, d, h1, h2, by omega⟩
  · simp at hz
    exact ⟨c', k', v', hf, hz, Int.le_refl _⟩
theorem Met.new {ws : List Int} {k c' k' v' : Int} (h : Met ws k) (hk : k < k') (hf : Fit c' k' v') {j : Nat} (hj : j < ws.length) : (ws.getD j 0 == gI c' k' v') = false := by
  rw [beq_eq_false_iff_ne]
  intro e
  have hm : ws.getD j 0 ∈ ws := by
    simp only [List.getD, List.getElem?_eq_getElem hj, Option.getD_some]
    exact List.getElem_mem hj
  obtain ⟨a, b, d, h1, h2, h3⟩ := h _ hm
  rw [h2] at e
  have := (FloM.gI_inj h1 hf e).2.1
  omega
theorem over_later (c k v t m : Int) (hm : 0 ≤ m) (h : overB c k v t = true) : overB c k v (t + m) = true := by
  unfold overB at h ⊢
  simp only [decide_eq_true_eq] at h ⊢
  omega
theorem info64 : (Tryd.prog.info? 24).map (fun i => (i.zero, i.size, i.bytes)) = some (some (.int .u64 0), 1, 8) := by kernel_rfl

set_option maxHeartbeats 8000000 in
theorem flowLater_walk (w t m : Int) (a3 : Option Addr) (n3 c3 : Nat) (bs : List UInt8) (a4 : Option Addr) (n4 c4 : Nat) (zs : List Int) (W : World) (he : Env W) (hw : 0 ≤ w ∧ w ≤ 18446744073709551615) (ht : -9223372036854775808 ≤ t ∧ t ≤ 9223372036854775807) (hm : 0 ≤ m ∧ m ≤ 65535)
    (h3 : Bts W W.heap.size a3 n3 bs) (l3 : n3 ≤ c3) (m3 : c3 ≤ maxLen) (h4 : Ints .u32 W W.heap.size a4 n4 zs) (l4 : n4 ≤ c4) (m4 : c4 ≤ maxLen) :
    Calls Tryd.prog 6 #[.int .u64 w, .int .i64 t, .int .u16 m, .slice a3 n3 c3, .slice a4 n4 c4] W fun e w' => e = .returned (.bool true) ∧ Below W.heap.size W w' := by
  obtain ⟨c, k, v, hf, rfl⟩ := FloM.word_is w hw.1 (by omega)
  unfold maxLen at m3 m4
  have H3 := Lib.hid h3
  have H4 := Lib.hid h4
  have HF := Lib.hid hf
  have HE0 := Lib.hid he
  have HB0 := Lib.hid (Below.refl W.heap.size W)
  clear h3 h4 hf he hw
  by_cases hcl : 1125899906842624 < t
  · have d0 : decide (t > 1125899906842624) = true := by simpa using hcl
    clear hcl
    go_enter Tryd.func6, Tryd.ntmps6
    go_wp2_with fail
    go_at_call 9
    refine (awake_any _ HE0.out).mono ?_
    rintro e w1 ⟨rfl, hb⟩
    have HB1 := Lib.hid (HB0.out.trans (hb.mono HB0.out.size))
    clear hb
    go_wp2_with fail
    go_ret
    exact ⟨rfl, HB1.out⟩
  have d0 : decide (t > 1125899906842624) = false := by simpa using hcl
  have hwm : wrap64 m = m := IntWalk.wrap64_in _ (by omega)
  have hwt : wrap64 (t + m) = t + m := IntWalk.wrap64_in _ (by omega)
  obtain ⟨b, hob⟩ : ∃ b, overB c k v t = b := ⟨_, rfl⟩
  have HO := Lib.hid (over_any HF.out t)
  have HO2 := Lib.hid (over_any HF.out (t + m))
  rw [hob] at HO
  have hlt := over_later c k v t m hm.1
  clear hcl
  cases b
  · have HX : Hid (overB c k v t = false) := hob
    clear hlt hob HO2
    go_enter Tryd.func6, Tryd.ntmps6
    go_wp2_with fail
    go_at_call 12
    refine (HO.out _ HE0.out).mono ?_
    rintro e w1 ⟨rfl, hb⟩
    have HB1 := Lib.hid (HB0.out.trans (hb.mono HB0.out.size))
    have HE1 := Lib.hid (HE0.out.below hb (Nat.le_refl _))
    clear hb
    have HL0 := Lib.hid (own_one 24 .u64 (gI c k v) HB1.out)
    have HB9 := Lib.hid (HB1.out.alloc HB1.out.size (.cells #[.int .u64 (gI c k v)] 24))
    have HM0 := Lib.hid (Met.one HF.out)
    go_wp2_with fail
    go_loopw [0, 11, 12] (fun x l i wr => ∃ (j : Nat) (c k v : Int) (A : Option Addr) (cp : Nat) (ws : List Int), Hid (Fit c k v) ∧ x = .int .u64 (gI c k v) ∧ l = .slice A (j + 1) cp ∧ i = .int .i64 (j : Int) ∧ j ≤ 40 ∧ Hid (Met ws k) ∧ Hid (wr.ownsRow W.heap.size 24 1 (.slice A (j + 1) cp) (j + 1) (ivs .u64 ws)) ∧ Hid (Below W.heap.size W wr)) (fun _ _ i _ => 40 - (RowKit.intOf i).toNat)
    case atStart => exact ⟨0, c, k, v, _, _, [gI c k v], HF, rfl, rfl, rfl, by omega, HM0, HL0, HB9⟩
    case round =>
      clear HL0 HB9 HM0
      obtain ⟨j, c, k, v, A, cp, ws, HF, rfl, rfl, rfl, hj, HM, HL, HB⟩ := hrel
      have HE := Lib.hid (HE0.out.below HB.out (Nat.le_refl _))
      by_cases h1 : j < n3
      · by_cases h2 : j < n4
        · by_cases h5 : j < 40
          · have d9 := field1
            go_wp2_with fail
            go_at_call 10
            refine (unpack_lit HF.out _ HE.out).mono ?_
            rintro e w5 ⟨rfl, hb⟩
            have HB5 := Lib.hid (HB.out.trans (hb.mono HB.out.size))
            have HE5 := Lib.hid (HE.out.below hb (Nat.le_refl _))
            have HL5 := Lib.hid (own_below HL.out hb)
            clear hb HL HB HE
            by_cases hk : k = 1048575
            · have d1 : (k == (1048575 : Int)) = true := by simpa using hk
              clear hk
              go_wp2_with fail
              go_at_call 9
              refine (awake_any _ HE5.out).mono ?_
              rintro e w6 ⟨rfl, hb⟩
              have HB6 := Lib.hid (HB5.out.trans (hb.mono HB5.out.size))
              clear hb
              go_wp2_with fail
              go_ret
              exact ⟨rfl, HB6.out⟩
            · have d1 : (k == (1048575 : Int)) = false := by simpa using hk
              have hup : k < up k := by have := HF.out.k1; unfold up; split <;> omega
              obtain ⟨b1, o1, rfl, q1, z1⟩ := (H3.out.below HB5.out).at_ (by omega)
              obtain ⟨b2, o2, rfl, q2, z2⟩ := (H4.out.below HB5.out).at_ (by omega)
              have x1 := z1 j h1
              have x2 := z2 j h2
              clear z1 z2
              have y1 := byt_lt bs j
              have y2 := bounds_u32 (H4.out.get h2)
              generalize byt bs j = s at x1 y1
              generalize zs.getD j 0 = u at x2 y2
              have e1 : wrap64 (s : Int) = (s : Int) := IntWalk.wrap64_in _ (by omega)
              have e2 : wrap64 u = u := IntWalk.wrap64_in _ (by omega)
              have HN := Lib.hid (next_fit HF.out (s : Int) u)
              have HU := Lib.hid hup
              have HX := Lib.hid (next_below HF.out (s : Int) u)
              clear hk hup y1 y2
              go_wp2_with fail
              refine region_still_tail 11 (by kernel_rfl) (by kernel_rfl) w5.drew rfl ?_
              simp only [List.take_succ_cons, List.take_zero, List.drop_succ_cons, List.drop_zero]
              repeat still_step
              refine wpStill_nil ?_
              go_wp2_with (go_at_call 14; rw [e1, e2]; refine (HX.out _ (HE5.out.drewN 1)).mono ?_; rintro e w6 ⟨rfl, hb⟩)
              have HB6 := Lib.hid (HB5.out.drew.trans (hb.mono HB5.out.size))
              have HL6 := Lib.hid (own_below HL5.out.drew hb)
              clear hb HB5 HL5 HE5
              generalize clip u = c' at HN ⊢
              generalize (s : Int) % 16 = v' at HN ⊢
              generalize up k = k' at HN HU ⊢
              go_loopw [13] (fun q wr => ∃ i : Nat, i ≤ j + 1 ∧ q = .int .i64 (i : Int) ∧ wr = w6) (fun q _ => j + 1 - (RowKit.intOf q).toNat)
              case atStart => exact ⟨0, by omega, rfl, rfl⟩
              case round =>
                obtain ⟨i, hi, rfl, rfl⟩ := hrel
                by_cases hij : i < j + 1
                · obtain ⟨g, rfl, g1, g2, g3⟩ := own_int HL6.out hij
                  have hd := HM.out.new HU.out HN.out (j := i) (by have := HL6.out.1; rw [ivs_len] at this; omega)
                  generalize ws.getD i 0 = z at g3 hd
                  go_wp2_with fail
                  go_roundw
                  case rel => exact ⟨i + 1, by omega, by go_num, by trivial⟩
                  case measure => simp [RowKit.intOf]; omega
                · obtain rfl : i = j + 1 := by omega
                  have HM2 := Lib.hid (HM.out.snoc HU.out HN.out)
                  go_wp2_with (at_builtin; refine wpList_append_int (j + 2) rfl (.tmp 76) (.tmp 78) 40 24 .u64 8 rfl Tryd.underlying40 info64 (by omega) _ _ ws rfl HL6.out HB6.out (gI c' k' v') rfl rfl (by omega) ?_; intro A7 c7 w7 HL7 HB7)
                  go_roundw
                  case rel => exact ⟨j + 1, c', k', v', A7, c7, _, HN, rfl, rfl, by go_num, by omega, HM2, HL7, HB7⟩
                  case measure => simp [RowKit.intOf]; omega
          · go_wp2_with fail
            go_at_call 9
            refine (awake_any _ HE.out).mono ?_
            rintro e w5 ⟨rfl, hb⟩
            have HB5 := Lib.hid (HB.out.trans (hb.mono HB.out.size))
            clear hb
            go_wp2_with fail
            go_ret
            exact ⟨rfl, HB5.out⟩
        · go_wp2_with fail
          go_at_call 9
          refine (awake_any _ HE.out).mono ?_
          rintro e w5 ⟨rfl, hb⟩
          have HB5 := Lib.hid (HB.out.trans (hb.mono HB.out.size))
          clear hb
          go_wp2_with fail
          go_ret
          exact ⟨rfl, HB5.out⟩
      · go_wp2_with fail
        go_at_call 9
        refine (awake_any _ HE.out).mono ?_
        rintro e w5 ⟨rfl, hb⟩
        have HB5 := Lib.hid (HB.out.trans (hb.mono HB.out.size))
        clear hb
        go_wp2_with fail
        go_ret
        exact ⟨rfl, HB5.out⟩
  · rw [hlt hob] at HO2
    clear hlt hob
    go_enter Tryd.func6, Tryd.ntmps6
    go_wp2_with fail
    go_at_call 12
    refine (HO.out _ HE0.out).mono ?_
    rintro e w1 ⟨rfl, hb⟩
    have HB1 := Lib.hid (HB0.out.trans (hb.mono HB0.out.size))
    have HE1 := Lib.hid (HE0.out.below hb (Nat.le_refl _))
    clear hb
    go_wp2_with fail
    go_at_call 12
    refine (HO2.out _ HE1.out).mono ?_
    rintro e w2 ⟨rfl, hb⟩
    have HB2 := Lib.hid (HB1.out.trans (hb.mono HB1.out.size))
    have HE2 := Lib.hid (HE1.out.below hb (Nat.le_refl _))
    clear hb
    have HL0 := Lib.hid (own_one 24 .u64 (gI c k v) HB2.out)
    have HB9 := Lib.hid (HB2.out.alloc HB2.out.size (.cells #[.int .u64 (gI c k v)] 24))
    have HM0 := Lib.hid (Met.one HF.out)
    go_wp2_with fail
    go_loopw [0, 11, 12] (fun x l i wr => ∃ (j : Nat) (c k v : Int) (A : Option Addr) (cp : Nat) (ws : List Int), Hid (Fit c k v) ∧ x = .int .u64 (gI c k v) ∧ l = .slice A (j + 1) cp ∧ i = .int .i64 (j : Int) ∧ j ≤ 40 ∧ Hid (Met ws k) ∧ Hid (wr.ownsRow W.heap.size 24 1 (.slice A (j + 1) cp) (j + 1) (ivs .u64 ws)) ∧ Hid (Below W.heap.size W wr)) (fun _ _ i _ => 40 - (RowKit.intOf i).toNat)
    case atStart => exact ⟨0, c, k, v, _, _, [gI c k v], HF, rfl, rfl, rfl, by omega, HM0, HL0, HB9⟩
    case round =>
      clear HL0 HB9 HM0
      obtain ⟨j, c, k, v, A, cp, ws, HF, rfl, rfl, rfl, hj, HM, HL, HB⟩ := hrel
      have HE := Lib.hid (HE0.out.below HB.out (Nat.le_refl _))
      by_cases h1 : j < n3
      · by_cases h2 : j < n4
        · by_cases h5 : j < 40
          · have d9 := field1
            go_wp2_with fail
            go_at_call 10
            refine (unpack_lit HF.out _ HE.out).mono ?_
            rintro e w5 ⟨rfl, hb⟩
            have HB5 := Lib.hid (HB.out.trans (hb.mono HB.out.size))
            have HE5 := Lib.hid (HE.out.below hb (Nat.le_refl _))
            have HL5 := Lib.hid (own_below HL.out hb)
            clear hb HL HB HE
            by_cases hk : k = 1048575
            · have d1 : (k == (1048575 : Int)) = true := by simpa using hk
              clear hk
              go_wp2_with fail
              go_at_call 9
              refine (awake_any _ HE5.out).mono ?_
              rintro e w6 ⟨rfl, hb⟩
              have HB6 := Lib.hid (HB5.out.trans (hb.mono HB5.out.size))
              clear hb
              go_wp2_with fail
              go_ret
              exact ⟨rfl, HB6.out⟩
            · have d1 : (k == (1048575 : Int)) = false := by simpa using hk
              have hup : k < up k := by have := HF.out.k1; unfold up; split <;> omega
              obtain ⟨b1, o1, rfl, q1, z1⟩ := (H3.out.below HB5.out).at_ (by omega)
              obtain ⟨b2, o2, rfl, q2, z2⟩ := (H4.out.below HB5.out).at_ (by omega)
              have x1 := z1 j h1
              have x2 := z2 j h2
              clear z1 z2
              have y1 := byt_lt bs j
              have y2 := bounds_u32 (H4.out.get h2)
              generalize byt bs j = s at x1 y1
              generalize zs.getD j 0 = u at x2 y2
              have e1 : wrap64 (s : Int) = (s : Int) := IntWalk.wrap64_in _ (by omega)
              have e2 : wrap64 u = u := IntWalk.wrap64_in _ (by omega)
              have HN := Lib.hid (next_fit HF.out (s : Int) u)
              have HU := Lib.hid hup
              have HX := Lib.hid (next_below HF.out (s : Int) u)
              clear hk hup y1 y2
              go_wp2_with fail
              refine region_still_tail 11 (by kernel_rfl) (by kernel_rfl) w5.drew rfl ?_
              simp only [List.take_succ_cons, List.take_zero, List.drop_succ_cons, List.drop_zero]
              repeat still_step
              refine wpStill_nil ?_
              go_wp2_with (go_at_call 14; rw [e1, e2]; refine (HX.out _ (HE5.out.drewN 1)).mono ?_; rintro e w6 ⟨rfl, hb⟩)
              have HB6 := Lib.hid (HB5.out.drew.trans (hb.mono HB5.out.size))
              have HL6 := Lib.hid (own_below HL5.out.drew hb)
              clear hb HB5 HL5 HE5
              generalize clip u = c' at HN ⊢
              generalize (s : Int) % 16 = v' at HN ⊢
              generalize up k = k' at HN HU ⊢
              go_loopw [13] (fun q wr => ∃ i : Nat, i ≤ j + 1 ∧ q = .int .i64 (i : Int) ∧ wr = w6) (fun q _ => j + 1 - (RowKit.intOf q).toNat)
              case atStart => exact ⟨0, by omega, rfl, rfl⟩
              case round =>
                obtain ⟨i, hi, rfl, rfl⟩ := hrel
                by_cases hij : i < j + 1
                · obtain ⟨g, rfl, g1, g2, g3⟩ := own_int HL6.out hij
                  have hd := HM.out.new HU.out HN.out (j := i) (by have := HL6.out.1; rw [ivs_len] at this; omega)
                  generalize ws.getD i 0 = z at g3 hd
                  go_wp2_with fail
                  go_roundw
                  case rel => exact ⟨i + 1, by omega, by go_num, by trivial⟩
                  case measure => simp [RowKit.intOf]; omega
                · obtain rfl : i = j + 1 := by omega
                  have HM2 := Lib.hid (HM.out.snoc HU.out HN.out)
                  go_wp2_with (at_builtin; refine wpList_append_int (j + 2) rfl (.tmp 76) (.tmp 78) 40 24 .u64 8 rfl Tryd.underlying40 info64 (by omega) _ _ ws rfl HL6.out HB6.out (gI c' k' v') rfl rfl (by omega) ?_; intro A7 c7 w7 HL7 HB7)
                  go_roundw
                  case rel => exact ⟨j + 1, c', k', v', A7, c7, _, HN, rfl, rfl, by go_num, by omega, HM2, HL7, HB7⟩
                  case measure => simp [RowKit.intOf]; omega
          · go_wp2_with fail
            go_at_call 9
            refine (awake_any _ HE.out).mono ?_
            rintro e w5 ⟨rfl, hb⟩
            have HB5 := Lib.hid (HB.out.trans (hb.mono HB.out.size))
            clear hb
            go_wp2_with fail
            go_ret
            exact ⟨rfl, HB5.out⟩
        · go_wp2_with fail
          go_at_call 9
          refine (awake_any _ HE.out).mono ?_
          rintro e w5 ⟨rfl, hb⟩
          have HB5 := Lib.hid (HB.out.trans (hb.mono HB.out.size))
          clear hb
          go_wp2_with fail
          go_ret
          exact ⟨rfl, HB5.out⟩
      · go_wp2_with fail
        go_at_call 9
        refine (awake_any _ HE.out).mono ?_
        rintro e w5 ⟨rfl, hb⟩
        have HB5 := Lib.hid (HB.out.trans (hb.mono HB.out.size))
        clear hb
        go_wp2_with fail
        go_ret
        exact ⟨rfl, HB5.out⟩
end Fl
end Go.Proofs.YtdjbiaifblmckaaDoor
