/- Layer 3: the contracts of the reference's Print, top, May, Has, Show, Net. -/
import Derived.Test.YtfbbkbjiaopnkaaGreatDoorAdrR
import Derived.Test.YtfbbkbjiaopnkaaGreatDoorAdrN
set_option linter.unusedVariables false
set_option linter.unusedSimpArgs false
namespace Go.Proofs.YtfbbkbjiaopnkaaGreatDoor
open Go.ChangeShapes Go.WideShapes Go.ChangeAt Go.RowKit Go.Mtl Go.Shelf Go.Sort Go.Lib
namespace Ad
open AdrM (byteS byteS_some byteS_le numS parseS printS validS showS hasS netS netP left right anyL pieces fold dval isDig refNum b3 b2 b1 b0)

theorem add_textE {P : Program} (x y z : List UInt8) (h : x ++ y = z) (hx : x.length ≤ 1000000) (hy : y.length ≤ 1000000) (W : World) :
    (Op.stringOp .add ⟨x.toArray⟩ ⟨y.toArray⟩).run P W = .ok (.string ⟨z.toArray⟩) W := by subst h; exact add_text x y hx hy W
theorem numI_any (x : Int) (n : Nat) (hx : x = (n : Int)) (hn : n < 4294967296) (w : World) :
    Calls Tryz.prog 55 #[.int .i64 x] w fun e w' => e = .returned (.string ⟨(decDigits n).toArray⟩) ∧ Below w.heap.size w w' := by
  subst hx; exact num_any n hn w

set_option maxRecDepth 100000 in
set_option maxHeartbeats 1000000 in
theorem refPrint_any (a : Nat) (ha : a < 4294967296) (w : World) :
    Calls Tryz.prog 56 #[.int .u32 (a : Int)] w fun e w' => e = .returned (.string ⟨(printS a).toArray⟩) ∧ Below w.heap.size w w' := by
  have l3 := AdrM.decDigits_len_le 2 (b3 a) (by unfold b3; omega)
  have l2 := AdrM.decDigits_len_le 2 (b2 a) (by unfold b2; omega)
  have l1 := AdrM.decDigits_len_le 2 (b1 a) (by unfold b1; omega)
  have l0 := AdrM.decDigits_len_le 2 (b0 a) (by unfold b0; omega)
  have h3 : b3 a < 256 := by unfold b3; omega
  have h2 : b2 a < 256 := by unfold b2; omega
  have h1 : b1 a < 256 := by unfold b1; omega
  have h0 : b0 a < 256 := by unfold b0; omega
  have e3 : (a : Int) / 16777216 = (b3 a : Int) := by unfold b3; omega
  have e2 : (a : Int) / 65536 % 256 = (b2 a : Int) := by unfold b2; omega
  have e1 : (a : Int) / 256 % 256 = (b1 a : Int) := by unfold b1; omega
  have e0 : (a : Int) % 256 = (b0 a : Int) := by unfold b0; omega
  have HPR : Hid (printS a = decDigits (b3 a) ++ 46 :: (decDigits (b2 a) ++ 46 :: (decDigits (b1 a) ++ 46 :: decDigits (b0 a)))) := rfl
  generalize b3 a = x3 at *
  generalize b2 a = x2 at *
  generalize b1 a = x1 at *
  generalize b0 a = x0 at *
  have N3 := Lib.hid (fun W => numI_any _ x3 e3 (by omega) W)
  have N2 := Lib.hid (fun W => numI_any _ x2 e2 (by omega) W)
  have N1 := Lib.hid (fun W => numI_any _ x1 e1 (by omega) W)
  have N0 := Lib.hid (fun W => numI_any _ x0 e0 (by omega) W)
  clear e3 e2 e1 e0
  generalize decDigits x3 = d3 at *
  generalize decDigits x2 = d2 at *
  generalize decDigits x1 = d1 at *
  generalize decDigits x0 = d0 at *
  have A1 := fun W => add_textE (P := Tryz.prog) d3 [46] (d3 ++ [46]) rfl (by omega) (by simp) W
  have A2 := fun W => add_textE (P := Tryz.prog) (d3 ++ [46]) d2 (d3 ++ 46 :: d2) (by simp) (by simp; omega) (by omega) W
  have A3 := fun W => add_textE (P := Tryz.prog) (d3 ++ 46 :: d2) [46] (d3 ++ 46 :: (d2 ++ [46])) (by simp) (by simp; omega) (by simp) W
  have A4 := fun W => add_textE (P := Tryz.prog) (d3 ++ 46 :: (d2 ++ [46])) d1 (d3 ++ 46 :: (d2 ++ 46 :: d1)) (by simp) (by simp; omega) (by omega) W
  have A5 := fun W => add_textE (P := Tryz.prog) (d3 ++ 46 :: (d2 ++ 46 :: d1)) [46] (d3 ++ 46 :: (d2 ++ 46 :: (d1 ++ [46]))) (by simp) (by simp; omega) (by simp) W
  have A6 := fun W => add_textE (P := Tryz.prog) (d3 ++ 46 :: (d2 ++ 46 :: (d1 ++ [46]))) d0 (d3 ++ 46 :: (d2 ++ 46 :: (d1 ++ 46 :: d0))) (by simp) (by simp; omega) (by omega) W
  clear l3 l2 l1 l0
  go_enter Tryz.func56, Tryz.ntmps56
  go_wp2_with fail
  go_at_call 55
  refine (N3.out _).mono ?_
  rintro e w1 ⟨rfl, hb1⟩
  have HB1 := Lib.hid hb1
  clear hb1
  go_wp2_with fail
  go_at_call 55
  refine (N2.out _).mono ?_
  rintro e w2 ⟨rfl, hb2⟩
  have HB2 := Lib.hid (HB1.out.trans (hb2.mono HB1.out.size))
  clear hb2
  go_wp2_with fail
  go_at_call 55
  refine (N1.out _).mono ?_
  rintro e w3 ⟨rfl, hb3⟩
  have HB3 := Lib.hid (HB2.out.trans (hb3.mono HB2.out.size))
  clear hb3
  go_wp2_with fail
  go_at_call 55
  refine (N0.out _).mono ?_
  rintro e w4 ⟨rfl, hb4⟩
  have HB4 := Lib.hid (HB3.out.trans (hb4.mono HB3.out.size))
  clear hb4
  go_wp2_with fail
  go_ret
  refine ⟨?_, HB4.out⟩
  rw [HPR.out]; rfl

theorem top_is (a : Nat) (n : Int) (ha : a < 4294967296) (h0 : n = 0) : a / 2 ^ (32 - n.toNat) = 0 := by
  subst h0; exact Nat.div_eq_of_lt ha
theorem low_step (a k : Nat) (h : a % 2 ^ k = 0) : a % 2 ^ (k + 1) = 0 ↔ a / 2 ^ k % 2 = 0 := by
  rw [Nat.pow_succ, Nat.mod_mul, h]
  have : 0 < 2 ^ k := Nat.pow_pos (by omega)
  constructor
  · intro e
    have : 2 ^ k * (a / 2 ^ k % 2) = 0 := by omega
    rcases Nat.mul_eq_zero.1 this with h1 | h1 <;> omega
  · intro e; rw [e]; simp
theorem low_up (a k m : Nat) (hk : k < m) (h : a % 2 ^ m = 0) : a / 2 ^ k % 2 = 0 := by
  have h1 : a % 2 ^ k = 0 := by
    have := Nat.mod_mod_of_dvd a (Nat.pow_dvd_pow 2 (Nat.le_of_lt hk))
    rw [h] at this; simpa using this.symm
  have h2 : a % 2 ^ (k + 1) = 0 := by
    have := Nat.mod_mod_of_dvd a (Nat.pow_dvd_pow 2 hk)
    rw [h] at this; simpa using this.symm
  exact (low_step a k h1).1 h2
theorem may_bit (a k : Nat) (ha : a < 4294967296) : (bits .and .u32 ((a : Int) / 2 ^ k) 1 == 1) = (a / 2 ^ k % 2 == 1) := by
  have e : (a : Int) / 2 ^ k = ((a / 2 ^ k : Nat) : Int) := by simp
  rw [e, show (1 : Int) = ((1 : Nat) : Int) by rfl, u32_and_nat _ _ (Nat.lt_of_le_of_lt (Nat.div_le_self _ _) ha) (by omega), nat_mask1, Bool.eq_iff_iff, beq_iff_eq, beq_iff_eq]
  omega
set_option maxHeartbeats 1000000 in
theorem may_in (a : Nat) (n : Int) (ha : a < 4294967296) (h0 : 0 ≤ n) (h1 : n ≤ 32) (w : World) :
    Calls Tryz.prog 26 #[.agg #[.int .u32 (a : Int), .int .i64 n]] w fun e w' => e = .returned (.bool (validS a n)) ∧ Below w.heap.size w w' := by
  have HV : Hid (validS a n = (a % 2 ^ (32 - n.toNat) == 0)) := by show _ = _; unfold validS; rw [decide_eq_true ⟨h0, h1⟩, Bool.true_and]
  have HN := Lib.hid (netAt_box w a n)
  go_enter Tryz.func26, Tryz.ntmps26
  go_wp2
  go_loop [3] (fun i => ∃ k : Nat, (k : Int) ≤ 32 - n ∧ i = .int .i64 (k : Int) ∧ Hid (a % 2 ^ k = 0)) (fun i => 32 - (RowKit.intOf i).toNat)
  case atStart => exact ⟨0, by omega, rfl, Nat.mod_one a⟩
  case round =>
    obtain ⟨k, hk, rfl, hm⟩ := hrel
    by_cases hlt : (k : Int) < 32 - n
    · have HB := Lib.hid (may_bit a k ha)
      cases hb : (a / 2 ^ k % 2 == 1) with
      | true =>
        have HVF : Hid (validS a n = false) := by
          show _ = _
          rw [HV.out]
          cases hz : (a % 2 ^ (32 - n.toNat) == 0) with
          | false => rfl
          | true =>
            have := low_up a k (32 - n.toNat) (by omega) (by simpa using hz)
            rw [this] at hb; simp at hb
        rw [hb] at HB
        have hbit := HB.out
        clear hb
        go_wp2_with fail
        go_ret
        exact ⟨by rw [HVF.out]; rfl, HN.out.2.2.1⟩
      | false =>
        have HM : Hid (a % 2 ^ (k + 1) = 0) := (low_step a k hm.out).2 (by simp at hb; omega)
        rw [hb] at HB
        have hbit := HB.out
        clear hb
        go_wp2_with fail
        go_round
        case rel => exact ⟨k + 1, by omega, by go_num, HM.out⟩
        case measure => simp [RowKit.intOf]; omega
    · have hk32 : k = 32 - n.toNat := by omega
      have HVT : Hid (validS a n = true) := by
        show _ = _
        rw [HV.out, ← hk32, hm.out]; rfl
      clear hk32
      go_wp2_with fail
      go_ret
      exact ⟨by rw [HVT.out]; rfl, HN.out.2.2.1⟩
theorem may_any (a : Nat) (n : Int) (ha : a < 4294967296) (w : World) :
    Calls Tryz.prog 26 #[.agg #[.int .u32 (a : Int), .int .i64 n]] w fun e w' => e = .returned (.bool (validS a n)) ∧ Below w.heap.size w w' := by
  by_cases h0 : 0 ≤ n
  · by_cases h1 : n ≤ 32
    · exact may_in a n ha h0 h1 w
    · have HV := Lib.hid (valid_no a n (by omega))
      have h1' : 32 < n := by omega
      have HN := Lib.hid (netAt_box w a n)
      clear h1
      go_enter Tryz.func26, Tryz.ntmps26
      go_wp2
      go_ret
      exact ⟨by rw [HV.out]; rfl, HN.out.2.2.1⟩
  · have HV := Lib.hid (valid_no a n (by omega))
    have h0' : n < 0 := by omega
    have HN := Lib.hid (netAt_box w a n)
    clear h0
    go_enter Tryz.func26, Tryz.ntmps26
    go_wp2
    go_ret
    exact ⟨by rw [HV.out]; rfl, HN.out.2.2.1⟩

theorem NetAt.fin {w w1 : World} {a n : Int} (h : w1.cell? ⟨w.heap.size, 0, none⟩ = some (.int .u32 a) ∧ w1.cell? ⟨w.heap.size, 1, none⟩ = some (.int .i64 n) ∧ Hid (NetAt w a n w1)) : Below w.heap.size w w1 := h.2.2.out.2.2.1
theorem refHas_is (a x : Nat) (n : Int) (hv : validS a n = true) : (((a / 2 ^ (32 - n.toNat) : Nat) : Int) == ((x / 2 ^ (32 - n.toNat) : Nat) : Int)) = hasS a n x := by
  unfold hasS
  rw [hv, Bool.true_and, Bool.eq_iff_iff, beq_iff_eq, beq_iff_eq]
  omega
set_option maxHeartbeats 2000000 in
theorem refShow_any (a : Nat) (n : Int) (ha : a < 4294967296) (w : World) :
    Calls Tryz.prog 38 #[.agg #[.int .u32 (a : Int), .int .i64 n]] w fun e w' => e = .returned (showRes a n) ∧ Below w.heap.size w w' := by
  have HV := Lib.hid (fun W => may_any a n ha W)
  have HN := Lib.hid (netAt_box w a n)
  cases hv : validS a n with
  | false =>
    rw [hv] at HV
    have HR := Lib.hid (showRes_bad hv)
    clear hv
    go_enter Tryz.func38, Tryz.ntmps38
    go_wp2_with fail
    go_at_call 26
    refine (HV.out _).mono ?_
    rintro e w1 ⟨rfl, hb1⟩
    have HB := Lib.hid (HN.out.next hb1)
    clear hb1
    go_wp2_with fail
    go_ret2
    exact ⟨by rw [HR.out]; rfl, HB.out.2.2.1⟩
  | true =>
    rw [hv] at HV
    by_cases h0 : n = 0
    · subst h0
      have HR := Lib.hid (showRes_any hv)
      clear hv
      go_enter Tryz.func38, Tryz.ntmps38
      go_wp2_with fail
      go_at_call 26
      refine (HV.out _).mono ?_
      rintro e w1 ⟨rfl, hb1⟩
      obtain ⟨hc0, hc1, HB⟩ := NetAt.go HN hb1
      clear hb1
      go_wp2_with fail
      go_ret2
      exact ⟨by rw [HR.out]; rfl, HB.out.2.2.1⟩
    · have HR := Lib.hid (showRes_net hv h0)
      have hn := (AdrM.validS_mk.1 hv).1
      have HP := Lib.hid (fun w1 (h : w1.cell? ⟨w.heap.size, 0, none⟩ = some (.int .u32 (a : Int)) ∧ w1.cell? ⟨w.heap.size, 1, none⟩ = some (.int .i64 n) ∧ Hid (NetAt w a n w1)) => refPrint_any a ha w1)
      have HI := Lib.hid (fun w1 => numI_any n n.toNat (by omega) (by omega) w1)
      have hd : (n == 0) = false := by simpa using h0
      have hl1 := AdrM.print_len a ha
      have hl2 := AdrM.decDigits_len_le 1 n.toNat (by omega)
      have hA1 := fun W => add_text (P := Tryz.prog) (printS a) [47] (by omega) (by simp) W
      have hA2 := fun W => add_text (P := Tryz.prog) (printS a ++ [47]) (decDigits n.toNat) (by simp; omega) (by omega) W
      have HR2 : Hid (printS a ++ (47 :: decDigits n.toNat) = printS a ++ [47] ++ decDigits n.toNat) := by show _ = _; simp
      clear hv h0 hn hl1 hl2
      go_enter Tryz.func38, Tryz.ntmps38
      go_wp2_with fail
      go_at_call 26
      refine (HV.out _).mono ?_
      rintro e w1 ⟨rfl, hb1⟩
      obtain ⟨hc0, hc1, HB⟩ := NetAt.go HN hb1
      clear hb1
      go_wp2_with fail
      go_region_held3 (fun w' => w'.cell? ⟨w.heap.size, 0, none⟩ = some (.int .u32 a) ∧ w'.cell? ⟨w.heap.size, 1, none⟩ = some (.int .i64 n) ∧ Hid (NetAt w a n w')) (first | exact NetAt.god (by assumption) | exact NetAt.goh (by assumption) (by assumption) | go_keep)
        (first
          | (go_at_call 56; refine (HP.out _ (by assumption)).mono ?_; rintro e w2 ⟨rfl, hbp⟩)
          | (go_at_call 55; refine (HI.out _).mono ?_; rintro e w2 ⟨rfl, hbp⟩))
      all_goals
        go_wp2_with fail
        go_ret2
        exact ⟨by rw [HR.out]; rfl, NetAt.fin (by assumption)⟩

end Ad
end Go.Proofs.YtfbbkbjiaopnkaaGreatDoor
