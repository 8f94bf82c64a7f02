/- Layer 3: the contracts of highest, valid, Has, Show, Net. -/
import Derived.Test.YtfbbkbjiaopnkaaDoorAdrB
import Derived.Deep.RegionHeld3
import Derived.Deep.RegionHeldLaw
set_option linter.unusedVariables false
set_option linter.unusedSimpArgs false
namespace Go.Proofs.YtfbbkbjiaopnkaaDoor
open Go.ChangeShapes Go.WideShapes Go.ChangeAt Go.RowKit Go.Mtl Go.Shelf Go.Sort Go.Lib
namespace Ad
open AdrM (byteS byteS_some byteS_le parseS printS validS showS hasS netS)

theorem quiet_is {P : Program} {f : FuncId} {args : Array Value} {w : World} {v : Value} (h : Calls P f args w fun e w' => e = .returned v ∧ w = w') : Calls P f args w fun e w' => e = .returned v ∧ w' = w :=
  h.mono fun _ _ ⟨he, hw⟩ => ⟨he, hw.symm⟩
theorem mask_fin : ∀ k : Fin 33, 4294967295 * 2 ^ k.val % 4294967296 = 4294967296 - 2 ^ k.val := by decide +kernel
theorem and_mask (a k : Nat) (ha : a < 4294967296) (hk : k ≤ 32) : a &&& (4294967296 - 2 ^ k) = a - a % 2 ^ k := by
  have e1 : 4294967296 - 2 ^ k = 2 ^ k * (2 ^ (32 - k) - 1) := by
    rw [Nat.mul_sub, ← Nat.pow_add, show k + (32 - k) = 32 by omega, Nat.mul_one]
  have e2 : a - a % 2 ^ k = 2 ^ k * (a / 2 ^ k) := by have := Nat.div_add_mod a (2 ^ k); omega
  rw [e1, e2]
  apply Nat.eq_of_testBit_eq
  intro i
  rw [Nat.testBit_and, Nat.testBit_two_pow_mul, Nat.testBit_two_pow_sub_one, Nat.testBit_two_pow_mul, Nat.testBit_div_two_pow]
  by_cases hi : k ≤ i
  · rw [show i - k + k = i by omega]
    by_cases h32 : i < 32
    · simp [hi, show i - k < 32 - k by omega]
    · have : a.testBit i = false := Nat.testBit_lt_two_pow (Nat.lt_of_lt_of_le ha (Nat.pow_le_pow_right (show 0 < 2 by omega) (show 32 ≤ i by omega)))
      simp [this]
  · simp [hi]
theorem ret_int {k : IntKind} {a b : Int} (h : a = b) : Ending.returned (.int k a) = .returned (.int k b) := by rw [h]
theorem ret_bool {a b : Bool} (h : a = b) : Ending.returned (.bool a) = .returned (.bool b) := by rw [h]
theorem valid_is (a : Nat) (n : Int) (h0 : 0 ≤ n) (h1 : n ≤ 32) : ((a : Int) == ((a - a % 2 ^ (32 - n.toNat) : Nat) : Int)) = validS a n := by
  unfold validS
  rw [decide_eq_true ⟨h0, h1⟩, Bool.true_and, Bool.eq_iff_iff, beq_iff_eq, beq_iff_eq]
  have := Nat.mod_le a (2 ^ (32 - n.toNat))
  omega
theorem valid_no (a : Nat) (n : Int) (h : ¬ (0 ≤ n ∧ n ≤ 32)) : validS a n = false := by
  unfold validS
  rw [decide_eq_false h, Bool.false_and]
/-- In the world's first own block lies a network. -/
abbrev boxed (w : World) (a n : Int) : World := w.alloc (.cells #[.int .u32 a, .int .i64 n] 37)
theorem boxed_below (w : World) (a n : Int) (k : Nat) : Below w.heap.size w ((boxed w a n).drewN k) := (((Below.refl _ _).alloc (Nat.le_refl _) _).trans ((below_drewN _ k).mono (by simp)))
theorem highest_is (a : Nat) (n : Int) (ha : a < 4294967296) (h0 : 0 ≤ n) (h1 : n ≤ 32) :
    bits .and .u32 (a : Int) (4294967295 * 2 ^ (32 - n).toNat % 4294967296) = ((a - a % 2 ^ (32 - n.toNat) : Nat) : Int) := by
  have e : (32 - n).toNat = 32 - n.toNat := by omega
  have hm := mask_fin ⟨32 - n.toNat, by omega⟩
  have hp : 2 ^ (32 - n.toNat) ≤ 2 ^ 32 := Nat.pow_le_pow_right (by omega) (by omega)
  simp only [] at hm
  have hz : (4294967295 * 2 ^ (32 - n).toNat % 4294967296 : Int) = ((4294967296 - 2 ^ (32 - n.toNat) : Nat) : Int) := by
    rw [e, ← hm]; simp
  rw [hz, u32_and_nat _ _ ha (by have := Nat.pow_pos (n := 32 - n.toNat) (show 0 < 2 by omega); omega), and_mask a _ ha (by omega)]
theorem highest_any (a : Nat) (n : Int) (ha : a < 4294967296) (h0 : 0 ≤ n) (h1 : n ≤ 32) (w : World) :
    Calls Tryd.prog 44 #[.int .u32 (a : Int), .int .i64 n] w fun e w' => e = .returned (.int .u32 ((a - a % 2 ^ (32 - n.toNat) : Nat) : Int)) ∧ w = w' := by
  go_enter Tryd.func44, Tryd.ntmps44
  go_wp2
  go_ret
  exact ⟨ret_int (highest_is a n ha h0 h1), rfl⟩

theorem valid_any (a : Nat) (n : Int) (ha : a < 4294967296) (w : World) :
    Calls Tryd.prog 30 #[.agg #[.int .u32 (a : Int), .int .i64 n]] w fun e w' => e = .returned (.bool (validS a n)) ∧ Below w.heap.size w w' := by
  by_cases h0 : 0 ≤ n
  · by_cases h1 : n ≤ 32
    · have HV := Lib.hid (valid_is a n h0 h1)
      go_enter Tryd.func30, Tryd.ntmps30
      go_wp2
      go_quiet ((go_at_call 44; exact Calls.quiet_of_same (quiet_is (highest_any a n ha h0 h1 _))))
      go_wp2
      go_ret
      exact ⟨ret_bool HV.out, boxed_below _ _ _ _⟩
    · have HV := Lib.hid (valid_no a n (by omega))
      have hd : decide (n ≤ 32) = false := by simpa using h1
      clear h1
      go_enter Tryd.func30, Tryd.ntmps30
      go_wp2
      go_quiet (fail)
      go_wp2
      go_ret
      exact ⟨ret_bool HV.out.symm, boxed_below _ _ _ _⟩
  · have HV := Lib.hid (valid_no a n (by omega))
    have hd : decide (0 ≤ n) = false := by simpa using h0
    clear h0
    go_enter Tryd.func30, Tryd.ntmps30
    go_wp2
    go_quiet (fail)
    go_wp2
    go_ret
    exact ⟨ret_bool HV.out.symm, boxed_below _ _ _ _⟩

/-- In block w.heap.size lies the network (a, n); what was there before is as it was. -/
def NetAt (w : World) (a n : Int) (w1 : World) : Prop :=
  w1.cell? ⟨w.heap.size, 0, none⟩ = some (.int .u32 a) ∧ w1.cell? ⟨w.heap.size, 1, none⟩ = some (.int .i64 n) ∧ Below w.heap.size w w1 ∧ w.heap.size < w1.heap.size
theorem netAt_box (w : World) (a n : Int) : NetAt w a n (boxed w a n) :=
  ⟨by rw [cell_of_row _ _ _ _ _ _ (row_of _ _)]; rfl, by rw [cell_of_row _ _ _ _ _ _ (row_of _ _)]; rfl, (Below.refl _ _).alloc (Nat.le_refl _) _, by simp⟩
theorem NetAt.next {w w1 w2 : World} {a n : Int} (h : NetAt w a n w1) (hb : Below w1.heap.size w1 w2) : NetAt w a n w2 :=
  ⟨(hb.cell h.2.2.2).trans h.1, (hb.cell h.2.2.2).trans h.2.1, h.2.2.1.trans (hb.mono (by have := h.2.2.2; omega)), by have := h.2.2.2; have := hb.size; omega⟩
theorem NetAt.go {w w1 w2 : World} {a n : Int} (h : Hid (NetAt w a n w1)) (hb : Below w1.heap.size w1 w2) :
    w2.cell? ⟨w.heap.size, 0, none⟩ = some (.int .u32 a) ∧ w2.cell? ⟨w.heap.size, 1, none⟩ = some (.int .i64 n) ∧ Hid (NetAt w a n w2) :=
  ⟨(h.out.next hb).1, (h.out.next hb).2.1, h.out.next hb⟩
theorem NetAt.goh {w w1 w2 : World} {a n : Int} (h : w1.cell? ⟨w.heap.size, 0, none⟩ = some (.int .u32 a) ∧ w1.cell? ⟨w.heap.size, 1, none⟩ = some (.int .i64 n) ∧ Hid (NetAt w a n w1)) (hb : Below w1.heap.size w1 w2) :
    w2.cell? ⟨w.heap.size, 0, none⟩ = some (.int .u32 a) ∧ w2.cell? ⟨w.heap.size, 1, none⟩ = some (.int .i64 n) ∧ Hid (NetAt w a n w2) := NetAt.go h.2.2 hb
theorem NetAt.god {w w1 : World} {a n : Int} (h : Hid (NetAt w a n w1)) :
    w1.drew.cell? ⟨w.heap.size, 0, none⟩ = some (.int .u32 a) ∧ w1.drew.cell? ⟨w.heap.size, 1, none⟩ = some (.int .i64 n) ∧ Hid (NetAt w a n w1.drew) :=
  ⟨h.out.1, h.out.2.1, h.out.1, h.out.2.1, h.out.2.2.1.drew, h.out.2.2.2⟩
theorem itoa_any (n : Int) (h0 : 0 ≤ n) (h1 : n ≤ 99) (w : World) : Calls Tryd.prog 32 #[.int .i64 n] w fun e w' => e = .returned (.string ⟨(decDigits n.toNat).toArray⟩) ∧ w = w' := by
  obtain ⟨i, rfl⟩ := Int.eq_ofNat_of_zero_le h0
  exact (Tryd.strconv_Itoa_small i (by omega) w).mono fun _ _ ⟨he, hw⟩ => ⟨he, hw.symm⟩

theorem add_text {P : Program} (x y : List UInt8) (hx : x.length ≤ 1000000) (hy : y.length ≤ 1000000) (W : World) :
    (Op.stringOp .add ⟨x.toArray⟩ ⟨y.toArray⟩).run P W = .ok (.string ⟨(x ++ y).toArray⟩) W := run_string_add_lists W x y (by omega) (by omega)
/-- What Show answers. -/
def showRes (a : Nat) (n : Int) : Value := match showS a n with
  | some t => .tuple #[.string ⟨t.toArray⟩, .int .i64 0]
  | none => .tuple #[.string ⟨#[]⟩, .int .i64 1]
theorem showRes_bad {a : Nat} {n : Int} (h : validS a n = false) : showRes a n = .tuple #[.string ⟨#[]⟩, .int .i64 1] := by
  unfold showRes showS; rw [if_neg (by rw [h]; simp)]
theorem showRes_any {a : Nat} (h : validS a 0 = true) : showRes a 0 = .tuple #[.string ⟨AdrM.anyL.toArray⟩, .int .i64 0] := by
  unfold showRes showS; rw [if_pos h]; rfl
theorem showRes_net {a : Nat} {n : Int} (h : validS a n = true) (h0 : n ≠ 0) : showRes a n = .tuple #[.string ⟨(printS a ++ (47 :: decDigits n.toNat)).toArray⟩, .int .i64 0] := by
  unfold showRes showS; rw [if_pos h, if_neg h0]

set_option maxHeartbeats 2000000 in
theorem show_any (a : Nat) (n : Int) (ha : a < 4294967296) (w : World) (he : Env w) :
    Calls Tryd.prog 18 #[.agg #[.int .u32 (a : Int), .int .i64 n]] w fun e w' => e = .returned (showRes a n) ∧ Below w.heap.size w w' := by
  have HV := Lib.hid (fun W => valid_any a n ha W)
  have HN := Lib.hid (netAt_box w a n)
  cases hv : validS a n with
  | false =>
    rw [hv] at HV
    have HR := Lib.hid (showRes_bad hv)
    clear hv
    go_enter Tryd.func18, Tryd.ntmps18
    go_wp2_with fail
    go_at_call 30
    refine (HV.out _).mono ?_
    rintro e w1 ⟨rfl, hb1⟩
    have HB := Lib.hid (HN.out.next hb1)
    clear hb1
    go_wp2_with fail
    go_ret2
    exact ⟨by rw [HR.out]; rfl, HB.out.2.2.1⟩
  | true =>
    rw [hv] at HV
    by_cases h0 : n = 0
    · subst h0
      have HR := Lib.hid (showRes_any hv)
      clear hv
      go_enter Tryd.func18, Tryd.ntmps18
      go_wp2_with fail
      go_at_call 30
      refine (HV.out _).mono ?_
      rintro e w1 ⟨rfl, hb1⟩
      obtain ⟨hc0, hc1, HB⟩ := NetAt.go HN hb1
      clear hb1
      go_wp2_with fail
      go_ret2
      exact ⟨by rw [HR.out]; rfl, HB.out.2.2.1⟩
    · have HR := Lib.hid (showRes_net hv h0)
      have hn := (AdrM.validS_mk.1 hv).1
      have HP := Lib.hid (fun w1 (h : w1.cell? ⟨w.heap.size, 0, none⟩ = some (.int .u32 (a : Int)) ∧ w1.cell? ⟨w.heap.size, 1, none⟩ = some (.int .i64 n) ∧ Hid (NetAt w a n w1)) => print_any a ha w1 (he.below h.2.2.out.2.2.1))
      have HI := Lib.hid (fun w1 => itoa_any n hn.1 (by omega) w1)
      have hd : (n == 0) = false := by simpa using h0
      have hl1 := AdrM.print_len a ha
      have hl2 := AdrM.decDigits_len_le 1 n.toNat (by omega)
      have hA1 := fun W => add_text (P := Tryd.prog) (printS a) [47] (by omega) (by simp) W
      have hA2 := fun W => add_text (P := Tryd.prog) (printS a ++ [47]) (decDigits n.toNat) (by simp; omega) (by omega) W
      have HR2 : Hid (printS a ++ (47 :: decDigits n.toNat) = printS a ++ [47] ++ decDigits n.toNat) := by show _ = _; simp
      clear hv he h0 hn hl1 hl2
      go_enter Tryd.func18, Tryd.ntmps18
      go_wp2_with fail
      go_at_call 30
      refine (HV.out _).mono ?_
      rintro e w1 ⟨rfl, hb1⟩
      obtain ⟨hc0, hc1, HB⟩ := NetAt.go HN hb1
      clear hb1
      go_wp2_with fail
      go_region_held3 (fun w' => w'.cell? ⟨w.heap.size, 0, none⟩ = some (.int .u32 a) ∧ w'.cell? ⟨w.heap.size, 1, none⟩ = some (.int .i64 n) ∧ Hid (NetAt w a n w')) (first | exact NetAt.god (by assumption) | exact NetAt.goh (by assumption) (by assumption) | go_keep)
        (first
          | (go_at_call 31; refine (HP.out _ (by assumption)).mono ?_; rintro e w2 ⟨rfl, hbp⟩)
          | (go_at_call 32; refine (HI.out _).mono ?_; rintro e w' ⟨rfl, rfl⟩))
      go_wp2_with fail
      go_ret2
      have hh : w2.cell? ⟨w.heap.size, 0, none⟩ = some (.int .u32 (a : Int)) ∧ w2.cell? ⟨w.heap.size, 1, none⟩ = some (.int .i64 n) ∧ Hid (NetAt w a n w2) := by assumption
      exact ⟨by rw [HR.out]; rfl, hh.2.2.out.2.2.1⟩


theorem has_is (a x : Nat) (n : Int) (h : 0 ≤ n ∧ n ≤ 32) (hv : validS a n = true) : (((x - x % 2 ^ (32 - n.toNat) : Nat) : Int) == (a : Int)) = hasS a n x := by
  unfold hasS
  rw [hv, Bool.true_and, Bool.eq_iff_iff, beq_iff_eq, beq_iff_eq]
  have h1 := (AdrM.validS_mk.1 hv).2
  have h2 := Nat.div_add_mod x (2 ^ (32 - n.toNat))
  have h3 := Nat.div_add_mod a (2 ^ (32 - n.toNat))
  have h4 : 0 < 2 ^ (32 - n.toNat) := Nat.pow_pos (by omega)
  constructor
  · intro e
    have : 2 ^ (32 - n.toNat) * (x / 2 ^ (32 - n.toNat)) = 2 ^ (32 - n.toNat) * (a / 2 ^ (32 - n.toNat)) := by omega
    exact Nat.eq_of_mul_eq_mul_left h4 this
  · intro e
    rw [e] at h2
    omega
end Ad
end Go.Proofs.YtfbbkbjiaopnkaaDoor
