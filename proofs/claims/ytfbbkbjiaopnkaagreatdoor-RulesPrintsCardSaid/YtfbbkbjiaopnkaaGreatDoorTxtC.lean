/- Layer 11: the contracts of the reference's Num and Number. -/
import Derived.Test.YtfbbkbjiaopnkaaGreatDoorTxtB
set_option linter.unusedVariables false
set_option linter.unusedSimpArgs false
namespace Go.Proofs.YtfbbkbjiaopnkaaGreatDoor
open Go.ChangeShapes Go.WideShapes Go.ChangeAt Go.RowKit Go.Mtl Go.Shelf Go.Lib
namespace Tx
open TxtM (Line okb invR errOf lineOf linesOf lex okN valN top)
open AdrM (dval isDig)

theorem add_text {P : Program} (x y : List UInt8) (hx : x.length ≤ 1000000) (hy : y.length ≤ 1000000) (W : World) :
    (Op.stringOp .add ⟨x.toArray⟩ ⟨y.toArray⟩).run P W = .ok (.string ⟨(x ++ y).toArray⟩) W := run_string_add_lists W x y (by omega) (by omega)
/-- 'string([]byte{x})' of a byte x, in the world behind the literal. -/
theorem conv_byte (c : UInt8) (x : Int) (hx : x = (c.toNat : Int)) (W : World) :
    (convert 61 9 (.slice (some ⟨W.heap.size, 0, none⟩) 1 1)).run Tryz.prog (W.alloc (.cells #[.int .u8 x] 5)) = .ok (.string ⟨[c].toArray⟩) (W.alloc (.cells #[.int .u8 x] 5)) := by
  subst hx
  exact run_text (P := Tryz.prog) 61 9 5 Tryz.underlying61 Tryz.underlying5 Tryz.underlying9 (c := 1) (bts_row (W.alloc (.cells #[.int .u8 (c.toNat : Int)] 5)) W.heap.size _ _ [c] (heap_alloc_new _ _) rfl)
theorem digit_is (u : Nat) : (48 + (u : Int) % 10) = ((UInt8.ofNat (48 + u % 10)).toNat : Int) := by
  rw [AdrM.dig_toNat _ (by omega)]; omega
theorem digit_is0 (u : Nat) (h : u < 10) : (48 + (u : Int)) = ((UInt8.ofNat (48 + u)).toNat : Int) := by
  rw [AdrM.dig_toNat _ (by omega)]; omega

set_option maxRecDepth 100000 in
set_option maxHeartbeats 1000000 in
theorem num_any (n : Nat) (hn : n ≤ 4611686018427387904) (w : World) :
    Calls Tryz.prog 55 #[.int .i64 (n : Int)] w fun e w' => e = .returned (.string ⟨(decDigits n).toArray⟩) ∧ Below w.heap.size w w' := by
  have HL := Lib.hid (AdrM.decDigits_len_le 18 n (by have : (10 : Nat) ^ (18 + 1) = 10000000000000000000 := by decide
                                                     omega))
  go_enter Tryz.func55, Tryz.ntmps55
  go_wp2_with fail
  go_loopw [3, 4] (fun u s wr => ∃ (k : Nat) (t : List UInt8), u = .int .u64 (k : Int) ∧ s = .string ⟨t.toArray⟩ ∧ k ≤ n ∧ Hid (decDigits n = decDigits k ++ t) ∧ Below w.heap.size w wr) (fun u _ _ => (RowKit.intOf u).toNat)
  case atStart => exact ⟨n, [], rfl, rfl, Nat.le_refl _, by show _ = _; simp, Below.refl _ _⟩
  case round =>
    obtain ⟨k, t, rfl, rfl, hk, hd, hb⟩ := hrel
    have htl : t.length ≤ 19 := by have := congrArg List.length hd.out; rw [List.length_append] at this; have := HL.out; omega
    by_cases h9 : 9 < k
    · have HS := Lib.hid (show decDigits k = decDigits (k / 10) ++ [UInt8.ofNat (48 + k % 10)] by rw [decDigits, dif_neg (by omega)])
      have hcv := conv_byte _ _ (digit_is k) wr
      have hA := fun W => add_text (P := Tryz.prog) [UInt8.ofNat (48 + k % 10)] t (by simp) (by omega) W
      generalize UInt8.ofNat (48 + k % 10) = c at HS hcv hA
      clear htl
      go_wp2_with fail
      go_roundw
      case rel => exact ⟨k / 10, c :: t, by go_num, rfl, by omega, by show _ = _; rw [hd.out, HS.out]; simp, (hb.alloc hb.size _)⟩
      case measure => simp [RowKit.intOf]; omega
    · have HS := Lib.hid (show decDigits k = [UInt8.ofNat (48 + k)] by rw [decDigits, dif_pos (by omega)])
      have hcv := conv_byte _ _ (digit_is0 k (by omega)) wr
      have hA := fun W => add_text (P := Tryz.prog) [UInt8.ofNat (48 + k)] t (by simp) (by omega) W
      generalize UInt8.ofNat (48 + k) = c at HS hcv hA
      clear htl
      go_wp2_with fail
      go_ret
      exact ⟨by rw [hd.out, HS.out]; rfl, (hb.alloc hb.size _)⟩

set_option maxRecDepth 100000 in
set_option maxHeartbeats 1000000 in
theorem refNumber_any (s : ByteArray) (w : World) (hs : s.size ≤ maxLen) :
    Calls Tryz.prog 35 #[.string s] w fun e w' => e = .returned (.tuple #[.int .i64 (valN s.data.toList : Int), .bool (okN s.data.toList)]) ∧ Below w.heap.size w w' := by
  unfold maxLen at hs
  have hz := Lib.hid (Lib.size_eq s)
  go_enter Tryz.func35, Tryz.ntmps35
  go_wp2_with fail
  go_loop [4, 5] (fun n i => ∃ k x : Nat, k ≤ s.size ∧ k ≤ 19 ∧ i = .int .i64 (k : Int) ∧ n = .int .u64 (x : Int) ∧ Hid (x = dval 0 (s.data.toList.take k)) ∧ Hid ((s.data.toList.take k).all isDig = true)) (fun _ i => s.size - (RowKit.intOf i).toNat)
  case atStart => exact ⟨0, 0, by omega, by omega, rfl, rfl, rfl, rfl⟩
  case round =>
    obtain ⟨k, x, hk, hk9, rfl, rfl, hx, hd⟩ := hrel
    by_cases hlt : k < s.size
    · have HAT := Lib.hid (data_getElem? s k hlt)
      have hby := s[k].toNat_lt
      have HV := Lib.hid (TxtM.dval_at HAT.out)
      by_cases hc1 : s[k].toNat < 48
      · have HN := Lib.hid (TxtM.no_digit HAT.out (by omega))
        go_wp2_with fail
        go_ret2
        exact ⟨ret_no HN.out, Below.refl _ _⟩
      · by_cases hc2 : 57 < s[k].toNat
        · have HN := Lib.hid (TxtM.no_digit HAT.out (by omega))
          go_wp2_with fail
          go_ret2
          exact ⟨ret_no HN.out, Below.refl _ _⟩
        · by_cases hc3 : 18 < k
          · have HN := Lib.hid (TxtM.no_long (l := s.data.toList) (by rw [← hz.out]; omega))
            go_wp2_with fail
            go_ret2
            exact ⟨ret_no HN.out, Below.refl _ _⟩
          · have HD := Lib.hid (TxtM.all_at HAT.out hd.out ⟨by omega, by omega⟩)
            have hx18 : x < 1000000000000000000 := by rw [hx.out]; exact TxtM.dval_lt19 hd.out (by rw [List.length_take]; omega)
            have HST : Hid (((10 * x + (s[k].toNat - 48) : Nat) : Int) = 10 * (x : Int) + ((s[k].toNat : Int) - 48)) := by show _ = _; omega
            have HST2 : Hid (10 * x + (s[k].toNat - 48) = dval 0 (s.data.toList.take (k + 1))) := by show _ = _; rw [HV.out, ← hx.out]
            clear HV HAT
            go_wp2_with fail
            go_round
            case rel => exact ⟨k + 1, 10 * x + (s[k].toNat - 48), by omega, by omega, by go_num, by rw [HST.out], HST2, HD⟩
            case measure => simp [RowKit.intOf]; omega
    · obtain rfl : k = s.size := by omega
      have ha : s.data.toList.take s.size = s.data.toList := List.take_of_length_le (by rw [← hz.out]; exact Nat.le_refl _)
      rw [ha] at hx hd
      by_cases h0 : s.size = 0
      · have HN : Hid (okN s.data.toList = false) := by
          have e : s.data.toList = [] := List.eq_nil_of_length_eq_zero (by rw [← hz.out]; exact h0)
          show okN s.data.toList = false
          rw [e]; exact TxtM.no_none
        have hn0 : ((s.size : Int) == 0) = true := by rw [beq_iff_eq]; omega
        clear ha h0
        go_wp2_with fail
        go_ret2
        exact ⟨ret_no HN.out, Below.refl _ _⟩
      · have hn0 : ((s.size : Int) == 0) = false := by rw [beq_eq_false_iff_ne]; omega
        by_cases ht : 4611686018427387904 < x
        · have HN := Lib.hid (TxtM.okN_no (l := s.data.toList) fun ⟨_, _, h⟩ => by rw [← hx.out] at h; unfold top at h; omega)
          clear ha h0
          go_wp2_with fail
          go_ret2
          exact ⟨ret_no HN.out, Below.refl _ _⟩
        · have HC := Lib.hid (num_any x (by omega))
          by_cases he : decDigits x = s.data.toList
          · have HT : Hid (okN s.data.toList = true) := (TxtM.okN_iff _).2 ⟨hd.out, by rw [← hx.out]; exact he, by rw [← hx.out]; unfold top; omega⟩
            have hvv : Hid (valN s.data.toList = x) := by show _ = _; rw [TxtM.valN_yes HT.out, hx.out]
            have hq : (decDigits x == s.toList) = true := by rw [toList_is, beq_iff_eq]; exact he
            clear ha h0 he
            go_wp2_with fail
            go_at_call 55
            refine (HC.out _).mono ?_
            rintro e w1 ⟨rfl, hb⟩
            go_wp2_with fail
            go_ret2
            exact ⟨ret_num (by rw [hvv.out]) HT.out.symm, hb⟩
          · have HN := Lib.hid (TxtM.okN_no (l := s.data.toList) fun ⟨_, h, _⟩ => he (by rw [← hx.out] at h; exact h))
            have hq : (decDigits x == s.toList) = false := by rw [toList_is, beq_eq_false_iff_ne]; exact he
            clear ha h0 he
            go_wp2_with fail
            go_at_call 55
            refine (HC.out _).mono ?_
            rintro e w1 ⟨rfl, hb⟩
            go_wp2_with fail
            go_ret2
            exact ⟨ret_no HN.out, hb⟩
end Tx
end Go.Proofs.YtfbbkbjiaopnkaaGreatDoor
