/- Layer 19: the walk of MemOne. -/
import Derived.Test.YtbikbccmnmbkfaaMemP
import Derived.Test.YtbikbccmnmbkfaaMemN
set_option linter.unusedVariables false
set_option linter.unusedSimpArgs false
set_option maxRecDepth 100000
namespace Go.Proofs.Ytbikbccmnmbkfaa
open Go.ChangeShapes Go.WideShapes Go.ChangeAt Go.RowKit Go.Mtl Go.Lib
namespace Me
open MemM
abbrev dk : List IntKind := [.u8, .i64, .i64, .u64, .u64]
/-- One of the acts. -/
theorem do_at {w : World} {B len : Nat} {v : Value} {rs : List (List Int)} (h : Sts w B dk v rs) (ho : ∀ r ∈ rs, Fits dk r) (hl : rs.length = len) {i : Nat} (hi : i < len) :
    ∃ (k t a o n : Int) (b off c : Nat), ((0 ≤ k ∧ k ≤ 255) ∧ (-9223372036854775808 ≤ t ∧ t ≤ 9223372036854775807) ∧ (-9223372036854775808 ≤ a ∧ a ≤ 9223372036854775807) ∧ (0 ≤ o ∧ o ≤ 18446744073709551615) ∧ (0 ≤ n ∧ n ≤ 18446744073709551615)) ∧
      v = .slice (some ⟨b, off, none⟩) len c ∧ len ≤ c ∧ c ≤ 9223372036854775807 ∧ b < B ∧
      w.cell? ⟨b, off + i * 5, none⟩ = some (.int .u8 k) ∧ w.cell? ⟨b, off + i * 5 + 1, none⟩ = some (.int .i64 t) ∧ w.cell? ⟨b, off + i * 5 + 2, none⟩ = some (.int .i64 a) ∧ w.cell? ⟨b, off + i * 5 + 3, none⟩ = some (.int .u64 o) ∧ w.cell? ⟨b, off + i * 5 + 4, none⟩ = some (.int .u64 n) := by
  subst hl
  obtain ⟨r, hr⟩ : ∃ r, rs[i]? = some r := ⟨_, List.getElem?_eq_getElem hi⟩
  obtain ⟨b, off, c, rfl, h1, h2, hb, hc⟩ := h.at_ hr
  obtain ⟨hl, hf⟩ := ho r (List.mem_of_getElem? hr)
  match r, hl with
  | [k, t, a, o, n], _ =>
    have c0 := hc 0 _ _ rfl rfl
    have c1 := hc 1 _ _ rfl rfl
    have c2 := hc 2 _ _ rfl rfl
    have c3 := hc 3 _ _ rfl rfl
    have c4 := hc 4 _ _ rfl rfl
    have f0 := bounds_u8 (hf 0 _ _ rfl rfl)
    have f1 := bounds_i64 (hf 1 _ _ rfl rfl)
    have f2 := bounds_i64 (hf 2 _ _ rfl rfl)
    have f3 := bounds_u64 (hf 3 _ _ rfl rfl)
    have f4 := bounds_u64 (hf 4 _ _ rfl rfl)
    exact ⟨k, t, a, o, n, b, off, c, ⟨f0, f1, f2, f3, f4⟩, rfl, h1, h2, hb, c0, c1, c2, c3, c4⟩
set_option maxHeartbeats 8000000 in
theorem memOne_walk (q : Int) (A : Option Addr) (len cap : Nat) (rs : List (List Int)) (W : World) (hq : 0 ≤ q ∧ q ≤ 255) (hd : rs.length = len ∧ Sts W W.heap.size dk (.slice A len cap) rs ∧ ∀ r ∈ rs, Fits dk r) :
    Calls Try.prog 4 #[.int .u8 q, .slice A len cap] W fun e w' => e = .returned (.bool true) ∧ Below W.heap.size W w' := by
  obtain ⟨hl, hst, hft⟩ := hd
  obtain ⟨A', c', ee, hcl, hcc⟩ := hst.len
  injection ee with ea el ec
  subst ea ec
  rw [hl] at hcl
  obtain ⟨q0, q1⟩ := hq
  obtain ⟨m, hm⟩ : ∃ m : Nat, 1 + q % 5 = (m : Int) := ⟨(1 + q % 5).toNat, by omega⟩
  have hm1 : m ≤ 5 := by omega
  have HNL : Hid ((newS 1 (m : Int)).hs.length = m) := by show _ = _; simp only [newS, List.length_replicate, clampN]; split <;> (try split) <;> omega
  have HST := Lib.hid hst
  have HFT := Lib.hid hft
  have HL := Lib.hid hl
  clear hst hft hl el
  go_enter Try.func4, Try.ntmps4
  go_wp2_with fail
  go_at_call 7
  refine (new_any 1 (m : Int) _).mono ?_
  rintro e w0 ⟨O, B, rfl, hmm, hb, hO⟩
  have H0 : Hid (Hm W O B (newS 1 (m : Int)) w0) := ⟨hmm, hb, hO⟩
  have HI0 : Hid (Holds (newS 1 (m : Int)) ∧ (newS 1 (m : Int)).hs.length = m ∧ (newS 1 (m : Int)).ls.length ≤ 0) := ⟨Holds.new _ _, HNL.out, Nat.le_refl _⟩
  clear hmm hb hO HNL
  go_wp2_with fail
  go_loopw [7] (fun vi wr => ∃ (i : Nat) (O : Nat → Prop) (s : Ms), vi = .int .i64 (i : Int) ∧ i ≤ len ∧ i ≤ 120 ∧ Hid (Hm W O B s wr) ∧ Hid (Holds s ∧ s.hs.length = m ∧ s.ls.length ≤ i)) (fun vi _ => 120 - (RowKit.intOf vi).toNat)
  case atStart => exact ⟨0, O, _, rfl, by omega, by omega, H0, HI0⟩
  case round =>
    obtain ⟨i, Oi, s, rfl, hi1, hi2, HM, HI⟩ := hrel
    clear H0 HI0
    by_cases h1 : i < len
    · by_cases h2 : i < 120
      · obtain ⟨k, t, a, o, n, b, off, c, ⟨k0, t0, a0, o0, n0⟩, ev, -, -, hb, x0, x1, x2, x3, x4⟩ := do_at (HST.out.below HM.out.bel) HFT.out HL.out h1
        injection ev with ev _ ec
        subst ev ec
        have HT := Lib.hid t0
        have HLL : Hid (s.ls.length ≤ 1000000000000) := Lib.hid (by have := HI.out.2.2; omega)
        obtain ⟨k0, k1⟩ := k0
        clear hb t0 a0 o0 n0
        by_cases hk : k % 2 = 0
        · have d1 : (k % 2 == 0) = true := by simpa using hk
          have HN := Lib.hid (HI.out.1.lock t a)
          have HZ := Lib.hid (lock_len s t a)
          clear hk
          go_wp2_with fail
          go_at_call 15
          have HM2 := Lib.hid (HM.out.next (below_box wr (.cells #[.int .u8 k, .int .i64 t, .int .i64 a, .int .u64 o, .int .u64 n] 29)))
          refine (lock_any HM2.out.mem t a HT.out.2 HLL.out).mono ?_
          intro e w2 hd
          obtain ⟨O2, rfl, hh⟩ := HM2.out.does hd
          have HH := Lib.hid hh
          clear hd hh x0 x1 x2 x3 x4 d1
          go_wp2_with fail
          go_roundw
          case rel => exact ⟨i + 1, O2, lockS s t a, by go_num, by omega, by omega, HH, ⟨HN.out, HZ.out.1.trans HI.out.2.1, Nat.le_trans HZ.out.2 (by have := HI.out.2.2; omega)⟩⟩
          case measure => simp [RowKit.intOf]; omega
        · have d1 : (k % 2 == 0) = false := by simpa using hk
          have HN := Lib.hid (HI.out.1.unlock t a)
          have HZ := Lib.hid (unlock_len s t a)
          clear hk
          go_wp2_with fail
          go_at_call 17
          have HM2 := Lib.hid (HM.out.next (below_box wr (.cells #[.int .u8 k, .int .i64 t, .int .i64 a, .int .u64 o, .int .u64 n] 29)))
          refine (unlock_any HM2.out.mem t a HLL.out).mono ?_
          intro e w2 hd
          obtain ⟨O2, rfl, hh⟩ := HM2.out.does hd
          have HH := Lib.hid hh
          clear hd hh x0 x1 x2 x3 x4 d1
          go_wp2_with fail
          go_roundw
          case rel => exact ⟨i + 1, O2, unlockS s t a, by go_num, by omega, by omega, HH, ⟨HN.out, HZ.out.1.trans HI.out.2.1, Nat.le_trans HZ.out.2 (by have := HI.out.2.2; omega)⟩⟩
          case measure => simp [RowKit.intOf]; omega
      · go_wp2_with fail
        go_at_call 28
        refine (log_any HM.out.mem (by have := HI.out.2.2; omega)).mono ?_
        rintro e w3 ⟨v, rfl, hv1, -, hb⟩
        obtain ⟨A3, c3, rfl, hc3, hc4⟩ := hv1.len
        have HM3 := Lib.hid (HM.out.next hb)
        have HV := Lib.hid hv1
        clear hv1 hb HM
        obtain ⟨Ls, hLs⟩ : ∃ Ls, s.ls.length = Ls := ⟨_, rfl⟩
        rw [hLs] at hc3 ⊢
        have HLS := Lib.hid hLs
        have hls1 : Ls ≤ 120 := by have := HI.out.2.2; omega
        clear hLs
        go_wp2_with fail
        go_loop [10] (fun vk => ∃ k : Nat, vk = .int .i64 (k : Int) ∧ k ≤ m) (fun vk => m - (RowKit.intOf vk).toNat)
        case atStart => exact ⟨0, rfl, by omega⟩
        case round =>
          obtain ⟨k, rfl, hk⟩ := hrel
          by_cases hkm : k < m
          · have HHK : Hid (hrun (k : Int) s.ls = some (s.hs.getD k 0)) := HI.out.1 k (by rw [HI.out.2.1]; exact hkm)
            go_wp2_with fail
            go_loop [11, 12] (fun vh vi => ∃ (h : Int) (j : Nat), vh = .int .i64 h ∧ vi = .int .i64 (j : Int) ∧ j ≤ Ls ∧ Hid (hrun (k : Int) (s.ls.take j) = some h)) (fun _ vi => Ls - (RowKit.intOf vi).toNat)
            case atStart => exact ⟨-1, 0, rfl, rfl, by omega, rfl⟩
            case round =>
              obtain ⟨h, j, rfl, rfl, hj, HJ⟩ := hrel
              by_cases hjl : j < Ls
              · obtain ⟨ac, hx⟩ : ∃ r, s.ls[j]? = some r := ⟨_, List.getElem?_eq_getElem (by rw [HLS.out]; exact hjl)⟩
                obtain ⟨y, hy, hy2⟩ := hrun_next (k : Int) s.ls _ HHK.out (i := j) (by rw [HLS.out]; exact hjl) HJ.out
                have hac : s.ls[j]'(by rw [HLS.out]; exact hjl) = ac := (List.getElem?_eq_some_iff.1 hx).2
                rw [hac] at hy
                obtain ⟨x0, x1, x2⟩ := avs_at s.ls j ac hx
                obtain ⟨g1, of1, cap1, hv1, -, -, -, hc1⟩ := HV.out.at_ (by rw [HLS.out]; omega)
                cases hv1
                have z0 := hc1 _ _ x0
                have z1 := hc1 _ _ x1
                have z2 := hc1 _ _ x2
                rw [← Nat.add_assoc] at z1 z2
                have HY := Lib.hid hy2
                obtain ⟨tt, kk, pp⟩ := ac
                simp only at z0 z1 z2
                clear hc1 hx x0 x1 x2 hac hy2 HJ
                unfold hstep at hy
                simp only at hy
                by_cases hp : pp = 3 * (k : Int) + 1
                · rw [if_neg (by simpa using hp)] at hy
                  have d1 : (pp != 3 * (k : Int) + 1) = false := by simpa using hp
                  by_cases hk1 : kk = 1
                  · by_cases hh : 0 ≤ h
                    · rw [if_pos (.inl ⟨hk1, hh⟩)] at hy; cases hy
                    · rw [if_neg (by omega), if_pos hk1] at hy
                      injection hy with hy
                      subst hy
                      subst hk1
                      have d2 : decide (h ≥ 0) = false := by simpa using hh
                      clear hp hh
                      go_wp2_with fail
                      go_round
                      case rel => exact ⟨tt, j + 1, rfl, by go_num, by omega, HY⟩
                      case measure => simp [RowKit.intOf]; omega
                  · have d2 : (kk == 1) = false := by simpa using hk1
                    by_cases hk2 : kk = 2
                    · by_cases hh : h = tt
                      · rw [if_neg (by omega), if_neg hk1] at hy
                        injection hy with hy
                        subst hy
                        subst hk2
                        subst hh
                        have d3 : (h != h) = false := by simp
                        clear hp hk1
                        go_wp2_with fail
                        go_round
                        case rel => exact ⟨-1, j + 1, rfl, by go_num, by omega, HY⟩
                        case measure => simp [RowKit.intOf]; omega
                      · rw [if_pos (.inr ⟨hk2, hh⟩)] at hy; cases hy
                    · rw [if_neg (by omega), if_neg hk1] at hy
                      injection hy with hy
                      subst hy
                      have d3 : (kk == 2) = false := by simpa using hk2
                      clear hp hk1 hk2
                      go_wp2_with fail
                      go_round
                      case rel => exact ⟨-1, j + 1, rfl, by go_num, by omega, HY⟩
                      case measure => simp [RowKit.intOf]; omega
                · rw [if_pos hp] at hy
                  injection hy with hy
                  subst hy
                  have d1 : (pp != 3 * (k : Int) + 1) = true := by simpa using hp
                  clear hp
                  go_wp2_with fail
                  go_round
                  case rel => exact ⟨h, j + 1, rfl, by go_num, by omega, HY⟩
                  case measure => simp [RowKit.intOf]; omega
              · obtain rfl : j = Ls := by omega
                have he : h = holdV s (k : Int) := by
                  have h2 := HJ.out
                  rw [List.take_of_length_le (by rw [HLS.out]; exact Nat.le_refl _), HHK.out] at h2
                  injection h2 with h2
                  unfold holdV
                  rw [has_nat (by rw [HI.out.2.1]; exact hkm), if_pos rfl, at_nat, h2]
                have HHO := Lib.hid (holder_any HM3.out.mem (k : Int))
                rw [← he] at HHO
                have d1 : (h != h) = false := by simp
                clear he HJ
                go_wp2_with fail
                go_at_call 22
                refine HHO.out.mono ?_
                rintro e w4 ⟨rfl, rfl⟩
                go_wp2_with fail
                go_round
                case rel => exact ⟨k + 1, by go_num, by omega⟩
                case measure => simp [RowKit.intOf]; omega
          · go_wp2_with fail
            go_at_call 26
            refine (awake_any _).mono ?_
            rintro e w5 ⟨rfl, hb⟩
            have HB5 := Lib.hid (HM3.out.next hb).bel
            clear hb
            go_wp2_with fail
            go_ret
            exact ⟨rfl, HB5.out⟩
    · go_wp2_with fail
      go_at_call 28
      refine (log_any HM.out.mem (by have := HI.out.2.2; omega)).mono ?_
      rintro e w3 ⟨v, rfl, hv1, -, hb⟩
      obtain ⟨A3, c3, rfl, hc3, hc4⟩ := hv1.len
      have HM3 := Lib.hid (HM.out.next hb)
      have HV := Lib.hid hv1
      clear hv1 hb HM
      obtain ⟨Ls, hLs⟩ : ∃ Ls, s.ls.length = Ls := ⟨_, rfl⟩
      rw [hLs] at hc3 ⊢
      have HLS := Lib.hid hLs
      have hls1 : Ls ≤ 120 := by have := HI.out.2.2; omega
      clear hLs
      go_wp2_with fail
      go_loop [10] (fun vk => ∃ k : Nat, vk = .int .i64 (k : Int) ∧ k ≤ m) (fun vk => m - (RowKit.intOf vk).toNat)
      case atStart => exact ⟨0, rfl, by omega⟩
      case round =>
        obtain ⟨k, rfl, hk⟩ := hrel
        by_cases hkm : k < m
        · have HHK : Hid (hrun (k : Int) s.ls = some (s.hs.getD k 0)) := HI.out.1 k (by rw [HI.out.2.1]; exact hkm)
          go_wp2_with fail
          go_loop [11, 12] (fun vh vi => ∃ (h : Int) (j : Nat), vh = .int .i64 h ∧ vi = .int .i64 (j : Int) ∧ j ≤ Ls ∧ Hid (hrun (k : Int) (s.ls.take j) = some h)) (fun _ vi => Ls - (RowKit.intOf vi).toNat)
          case atStart => exact ⟨-1, 0, rfl, rfl, by omega, rfl⟩
          case round =>
            obtain ⟨h, j, rfl, rfl, hj, HJ⟩ := hrel
            by_cases hjl : j < Ls
            · obtain ⟨ac, hx⟩ : ∃ r, s.ls[j]? = some r := ⟨_, List.getElem?_eq_getElem (by rw [HLS.out]; exact hjl)⟩
              obtain ⟨y, hy, hy2⟩ := hrun_next (k : Int) s.ls _ HHK.out (i := j) (by rw [HLS.out]; exact hjl) HJ.out
              have hac : s.ls[j]'(by rw [HLS.out]; exact hjl) = ac := (List.getElem?_eq_some_iff.1 hx).2
              rw [hac] at hy
              obtain ⟨x0, x1, x2⟩ := avs_at s.ls j ac hx
              obtain ⟨g1, of1, cap1, hv1, -, -, -, hc1⟩ := HV.out.at_ (by rw [HLS.out]; omega)
              cases hv1
              have z0 := hc1 _ _ x0
              have z1 := hc1 _ _ x1
              have z2 := hc1 _ _ x2
              rw [← Nat.add_assoc] at z1 z2
              have HY := Lib.hid hy2
              obtain ⟨tt, kk, pp⟩ := ac
              simp only at z0 z1 z2
              clear hc1 hx x0 x1 x2 hac hy2 HJ
              unfold hstep at hy
              simp only at hy
              by_cases hp : pp = 3 * (k : Int) + 1
              · rw [if_neg (by simpa using hp)] at hy
                have d1 : (pp != 3 * (k : Int) + 1) = false := by simpa using hp
                by_cases hk1 : kk = 1
                · by_cases hh : 0 ≤ h
                  · rw [if_pos (.inl ⟨hk1, hh⟩)] at hy; cases hy
                  · rw [if_neg (by omega), if_pos hk1] at hy
                    injection hy with hy
                    subst hy
                    subst hk1
                    have d2 : decide (h ≥ 0) = false := by simpa using hh
                    clear hp hh
                    go_wp2_with fail
                    go_round
                    case rel => exact ⟨tt, j + 1, rfl, by go_num, by omega, HY⟩
                    case measure => simp [RowKit.intOf]; omega
                · have d2 : (kk == 1) = false := by simpa using hk1
                  by_cases hk2 : kk = 2
                  · by_cases hh : h = tt
                    · rw [if_neg (by omega), if_neg hk1] at hy
                      injection hy with hy
                      subst hy
                      subst hk2
                      subst hh
                      have d3 : (h != h) = false := by simp
                      clear hp hk1
                      go_wp2_with fail
                      go_round
                      case rel => exact ⟨-1, j + 1, rfl, by go_num, by omega, HY⟩
                      case measure => simp [RowKit.intOf]; omega
                    · rw [if_pos (.inr ⟨hk2, hh⟩)] at hy; cases hy
                  · rw [if_neg (by omega), if_neg hk1] at hy
                    injection hy with hy
                    subst hy
                    have d3 : (kk == 2) = false := by simpa using hk2
                    clear hp hk1 hk2
                    go_wp2_with fail
                    go_round
                    case rel => exact ⟨-1, j + 1, rfl, by go_num, by omega, HY⟩
                    case measure => simp [RowKit.intOf]; omega
              · rw [if_pos hp] at hy
                injection hy with hy
                subst hy
                have d1 : (pp != 3 * (k : Int) + 1) = true := by simpa using hp
                clear hp
                go_wp2_with fail
                go_round
                case rel => exact ⟨h, j + 1, rfl, by go_num, by omega, HY⟩
                case measure => simp [RowKit.intOf]; omega
            · obtain rfl : j = Ls := by omega
              have he : h = holdV s (k : Int) := by
                have h2 := HJ.out
                rw [List.take_of_length_le (by rw [HLS.out]; exact Nat.le_refl _), HHK.out] at h2
                injection h2 with h2
                unfold holdV
                rw [has_nat (by rw [HI.out.2.1]; exact hkm), if_pos rfl, at_nat, h2]
              have HHO := Lib.hid (holder_any HM3.out.mem (k : Int))
              rw [← he] at HHO
              have d1 : (h != h) = false := by simp
              clear he HJ
              go_wp2_with fail
              go_at_call 22
              refine HHO.out.mono ?_
              rintro e w4 ⟨rfl, rfl⟩
              go_wp2_with fail
              go_round
              case rel => exact ⟨k + 1, by go_num, by omega⟩
              case measure => simp [RowKit.intOf]; omega
        · go_wp2_with fail
          go_at_call 26
          refine (awake_any _).mono ?_
          rintro e w5 ⟨rfl, hb⟩
          have HB5 := Lib.hid (HM3.out.next hb).bel
          clear hb
          go_wp2_with fail
          go_ret
          exact ⟨rfl, HB5.out⟩
end Me
end Go.Proofs.Ytbikbccmnmbkfaa
