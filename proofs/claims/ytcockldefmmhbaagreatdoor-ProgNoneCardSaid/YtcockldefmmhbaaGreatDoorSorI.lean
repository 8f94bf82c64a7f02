/- sort.pdqsort_func. (Written by wip/tools/mkSorI.py.) -/
import Derived.Test.YtcockldefmmhbaaGreatDoorSorB
import Derived.Test.YtcockldefmmhbaaGreatDoorSorD
import Derived.Test.YtcockldefmmhbaaGreatDoorSorE
import Derived.Test.YtcockldefmmhbaaGreatDoorSorF
import Derived.Test.YtcockldefmmhbaaGreatDoorJ19
import Derived.Sort.Walk13a
import Derived.Sort.Walk13
import Derived.Deep.Cut
set_option linter.unusedVariables false
set_option linter.unusedSimpArgs false
set_option maxRecDepth 100000
namespace Go.Proofs.YtcockldefmmhbaaGreatDoor
open Go.ChangeShapes Go.WideShapes Go.ChangeAt Go.RowKit Go.Mtl Go.Lib
namespace So
open Go.Sort (SWO Hint pdq hintCode insertionSort heapSort breakPatterns reverseRange partialInsertionSort choosePivot partition partitionEqual)
section
variable {α : Type} [Inhabited α] {A : World → Array α → Prop} {b m n : Nat} {lt : α → α → Bool} {g : Nat} {lb : Array Value} {sf : Nat} {sb : Array Value} {W : World} {d : Array α}
/-- The two callees that compare nothing. -/
structure Blind (A : World → Array α → Prop) (b n : Nat) (lb sb : Array Value) (g sf : Nat) : Prop where
  brk : ∀ {W d} (lo hi : Nat), A W d → lo ≤ hi → hi ≤ n → Calls Tryz.prog 237 #[.agg #[.func (.func g) #[] lb, .func (.func sf) #[] sb], .int .i64 lo, .int .i64 hi] W fun e w' => e = .returned (.tuple #[]) ∧ A w' (breakPatterns d lo hi) ∧ Bar b W w'
  rev : ∀ {W d} (lo hi : Nat), A W d → lo ≤ hi → hi ≤ n → Calls Tryz.prog 239 #[.agg #[.func (.func g) #[] lb, .func (.func sf) #[] sb], .int .i64 lo, .int .i64 hi] W fun e w' => e = .returned (.tuple #[]) ∧ A w' (reverseRange d lo hi) ∧ Bar b W w'
theorem code_two {h : Hint} (e : hintCode h = 2) : h = .decreasing := by cases h <;> simp [hintCode] at e ⊢
theorem part8 {x y p q : Nat} (h1 : q ≤ p) (h2 : y ≤ x) : decide (((x : Int) - (y : Int)) / 8 ≤ (p : Int) - (q : Int)) = decide (p - q ≥ (x - y) / 8) := by
  refine decide_eq_decide.2 ?_
  omega
set_option maxHeartbeats 16000000 in
theorem pdq_any (S : SWO lt) (K : SortK Tryz.prog A b m n lt g lb sf sb) (BL : Blind A b n lb sb g sf) : ∀ (N : Nat) (W : World) (d : Array α) (lo hi limit : Nat), hi - lo < N → A W d → lo ≤ hi → hi ≤ n → limit < 4611686018427387904 → Sort.Below lt lo hi d →
    Calls Tryz.prog 180 #[.agg #[.func (.func g) #[] lb, .func (.func sf) #[] sb], .int .i64 lo, .int .i64 hi, .int .i64 limit] W fun e w' => e = .returned (.tuple #[]) ∧ A w' (pdq lt d lo hi limit true true) ∧ Bar b W w' := by
  intro N
  induction N with
  | zero => intro _ _ _ _ _ h; exact absurd h (Nat.not_lt_zero _)
  | succ N ih =>
    intro W d lo hi limit hN h hlh hhi hlim hBel
    have HB := Lib.hid (SortB.start K h 242)
    have hsm := K.small
    have eg := K.enters
    have IH := Lib.hid ih
    have HB0 := Lib.hid hBel
    clear h ih hBel
    go_enter Tryz.func180, Tryz.ntmps180
    go_wp2
    go_loopg [1, 2, 3, 8, 9] (hi - lo) (fun k s1 s2 s3 s8 s9 wr => ∃ (a e lim : Nat) (wb wp : Bool) (dk : Array α), s1 = .int .i64 a ∧ s2 = .int .i64 e ∧ s3 = .int .i64 lim ∧ s8 = .bool wb ∧ s9 = .bool wp ∧
      a ≤ e ∧ e ≤ n ∧ e - a ≤ k ∧ k ≤ hi - lo ∧ lim ≤ limit ∧ Sort.Below lt a e dk ∧ SortB A b lb sb g sf 242 W W.heap.size wr dk ∧ pdq lt dk a e lim wb wp = pdq lt d lo hi limit true true)
    case atStart => exact ⟨lo, hi, limit, true, true, d, rfl, rfl, rfl, rfl, rfl, hlh, hhi, Nat.le_refl _, Nat.le_refl _, Nat.le_refl _, HB0.out, HB.out, rfl⟩
    case round =>
      obtain ⟨a, e, lim, wb, wp, dk, rfl, rfl, rfl, rfl, rfl, hae, hen, hk, hkN, hll, hBl, hBk, heq⟩ := hrel
      have HK := Lib.hid hBk
      have HEQ := Lib.hid heq
      have HBL := Lib.hid hBl
      have hds : dk.size = n := K.size hBk.row
      have c0 := hBk.c0
      have c1 := hBk.c1
      clear HB HB0 hBk heq hBl
      by_cases h12 : e - a ≤ 12
      · have h12z : (e : Int) - (a : Int) ≤ 12 := by omega
        have hc := insertion_any K HK.out.row a e hae hen
        go_wp2_with (go_at_call 235; refine hc.mono ?_; rintro e1 w1 ⟨rfl, ha, hbar⟩)
        (try simp only [Exit.inBlock, Exit.then]); refine bodyPost_ret (results_none rfl _ _ _) rfl ?_
        exact ⟨rfl, by rw [← HEQ.out, Sort.pdq_small h12]; exact ha, HK.out.bar.trans hbar⟩
      · have h12z : ¬ ((e : Int) - (a : Int) ≤ 12) := by omega
        by_cases hl0 : lim = 0
        · subst hl0
          have hc := heapSort_any K HK.out.row a e hae hen
          go_wp2_with (go_at_call 236; refine hc.mono ?_; rintro e1 w1 ⟨rfl, ha, hbar⟩)
          (try simp only [Exit.inBlock, Exit.then]); refine bodyPost_ret (results_none rfl _ _ _) rfl ?_
          exact ⟨rfl, by rw [← HEQ.out, Sort.pdq_heap h12 rfl]; exact ha, HK.out.bar.trans hbar⟩
        · have hl0z : ¬ ((lim : Int) = 0) := by omega
          obtain ⟨s1, B1, hc1, s2, B2, hpv, s3, B3⟩ := Sort.rd_facts (limit := lim) (wb := wb) (wp := wp) S Sort.partialInsertionSort_holds Sort.reverseRange_holds (show a < e by omega) (show e ≤ dk.size by omega) HBL.out
          have HB3 := Lib.hid B3
          clear B1 B2 B3 s1 s2
          go_upto_if 35 with fail
          go_cut [3] (fun s3 wc => s3 = .int .i64 ((Sort.rd lt dk a e lim wb wp).lim : Nat) ∧ SortB A b lb sb g sf 242 W W.heap.size wc (Sort.rd lt dk a e lim wb wp).d1)
          case first =>
            cases wb
            · have hc := BL.brk a e HK.out.row hae hen
              go_wp2_with (go_at_call 237; refine hc.mono ?_; rintro e1 w1 ⟨rfl, ha, hbar⟩)
              go_meet
              case rel =>
                refine ⟨?_, HK.out.turn ha hbar⟩
                show Value.int .i64 ((lim : Int) - 1) = Value.int .i64 ((lim - 1 : Nat) : Int)
                congr 1
                omega
            · go_wp2_with fail
              go_meet
              case rel => exact ⟨rfl, HK.out⟩
          case rest =>
            obtain ⟨rfl, hB1⟩ := hcut
            have HK1 := Lib.hid hB1
            clear hB1 c0 c1
            have c0 := HK1.out.c0
            have c1 := HK1.out.c1
            have hc17 := choosePivot_any K HK1.out.row a e (Sort.rd lt dk a e lim wb wp).c.1 (Sort.rd lt dk a e lim wb wp).c.2 (by omega) hen rfl
            go_upto_if 50 with (go_at_call 238; refine hc17.mono ?_; rintro e2 w2 ⟨rfl, hb2⟩)
            have HK2 := Lib.hid (HK1.out.next K hb2)
            clear hb2 c0 c1 hc17
            have c0 := HK2.out.c0
            have c1 := HK2.out.c1
            go_cut [11, 12] (fun s11 s12 wc => s11 = .int .i64 ((Sort.rd lt dk a e lim wb wp).pivot : Nat) ∧ s12 = .int .i64 (hintCode (Sort.rd lt dk a e lim wb wp).hint) ∧ SortB A b lb sb g sf 242 W W.heap.size wc (Sort.rd lt dk a e lim wb wp).d2)
            case first =>
              by_cases hh : (Sort.rd lt dk a e lim wb wp).c.2 = .decreasing
              · have hcode : hintCode (Sort.rd lt dk a e lim wb wp).c.2 = 2 := by rw [hh]; rfl
                obtain ⟨e2, epv, eht⟩ := Sort.rd_dec hh
                have hc18 := BL.rev a e HK2.out.row hae hen
                go_wp2_with (go_at_call 239; refine hc18.mono ?_; rintro e3 w3 ⟨rfl, ha, hbar⟩)
                go_meet
                case rel =>
                  refine ⟨?_, by rw [eht]; rfl, by rw [e2]; exact HK2.out.turn ha hbar⟩
                  rw [epv]
                  congr 1
                  omega
              · have hcode : ¬ (hintCode (Sort.rd lt dk a e lim wb wp).c.2 = 2) := fun h => hh (code_two h)
                obtain ⟨e2, epv, eht⟩ := Sort.rd_not hh
                go_wp2_with fail
                go_meet
                case rel => exact ⟨by rw [epv], by rw [eht], by rw [e2]; exact HK2.out⟩
            case rest =>
              obtain ⟨rfl, rfl, hB3⟩ := hcut
              have HK3 := Lib.hid hB3
              clear hB3 c0 c1
              have c0 := HK3.out.c0
              have c1 := HK3.out.c1
              go_upto_region 16 with fail
              go_cut [12, 68] (fun s12 s68 wx => s12 = .int .i64 (hintCode (Sort.rd lt dk a e lim wb wp).hint) ∧ s68 = .bool (wb && wp && decide ((Sort.rd lt dk a e lim wb wp).hint = .increasing)) ∧ wx = wc)
              case first =>
                cases wb <;> cases wp <;> cases hh3 : (Sort.rd lt dk a e lim _ _).hint <;>
                  (have hcode3 := congrArg hintCode hh3
                   simp only [hintCode] at hcode3
                   go_wp2_with fail
                   go_meet
                   exact ⟨by simp [hh3, hintCode], by simp [hh3, hintCode], rfl⟩)
              case rest =>
                obtain ⟨rfl, rfl, rfl⟩ := hcut
                go_upto_if 68 with fail
                go_cut [] (fun wx => (Sort.rd lt dk a e lim wb wp).pi.2 = false ∧ SortB A b lb sb g sf 242 W W.heap.size wx (Sort.rd lt dk a e lim wb wp).pi.1)
                case first =>
                  cases h68 : (wb && wp && decide ((Sort.rd lt dk a e lim wb wp).hint = .increasing))
                  · have epi := Sort.rd_pi_no h68
                    go_wp2_with fail
                    go_meet
                    case rel => exact ⟨by rw [epi], by rw [epi]; exact HK3.out⟩
                  · have epi := Sort.rd_pi_yes h68
                    have hc19 := partialIns_any K HK3.out.row a e (by omega) hen
                    rw [← epi] at hc19
                    cases hp2 : (Sort.rd lt dk a e lim wb wp).pi.2 with
                    | false =>
                      rw [hp2] at hc19
                      go_wp2_with (go_at_call 240; refine hc19.mono ?_; rintro e4 w4 ⟨rfl, ha, hbar⟩)
                      go_meet
                      exact ⟨hp2, HK3.out.turn ha hbar⟩
                    | true =>
                      rw [hp2] at hc19
                      go_wp2_with (go_at_call 240; refine hc19.mono ?_; rintro e4 w4 ⟨rfl, ha, hbar⟩)
                      (try simp only [Exit.inBlock, Exit.then]); refine bodyPost_ret (results_none rfl _ _ _) rfl ?_
                      exact ⟨rfl, by rw [← HEQ.out, Sort.pdq_done h12 hl0 hp2]; exact ha, HK3.out.bar.trans hbar⟩
                case rest =>
                  obtain ⟨hp2, hB5⟩ := hcut
                  have HK5 := Lib.hid hB5
                  clear hB5 c0 c1
                  have c0 := HK5.out.c0
                  have c1 := HK5.out.c1
                  go_upto_region 18 with fail
                  go_cut [83] (fun s83 wx => s83 = .bool (decide (a > 0) && !lt (Sort.rd lt dk a e lim wb wp).pi.1[a - 1]! (Sort.rd lt dk a e lim wb wp).pi.1[(Sort.rd lt dk a e lim wb wp).pivot]!) ∧ SortB A b lb sb g sf 242 W W.heap.size wx (Sort.rd lt dk a e lim wb wp).pi.1)
                  case first =>
                    rcases Nat.eq_zero_or_pos a with ha0 | ha0
                    · have ha0z : decide ((a : Int) > 0) = false := decide_eq_false (by omega)
                      go_wp2_with fail
                      go_meet
                      case rel => exact ⟨by simp [ha0], HK5.out⟩
                    · have ha0z : (a : Int) > 0 := by omega
                      have hl := K.less (a - 1) (Sort.rd lt dk a e lim wb wp).pivot HK5.out.row (by omega) (by omega)
                      rw [show ((a - 1 : Nat) : Int) = (a : Int) - 1 by omega] at hl
                      go_wp2_with (go_at_fn g; refine hl.mono ?_; rintro e6 w6 ⟨rfl, hb6⟩)
                      go_meet
                      case rel => exact ⟨by simp [ha0], HK5.out.next K hb6⟩
                  case rest =>
                    obtain ⟨rfl, hB6⟩ := hcut
                    have HK6 := Lib.hid hB6
                    clear hB6 c0 c1
                    have c0 := HK6.out.c0
                    have c1 := HK6.out.c1
                    cases h87 : (decide (a > 0) && !lt (Sort.rd lt dk a e lim wb wp).pi.1[a - 1]! (Sort.rd lt dk a e lim wb wp).pi.1[(Sort.rd lt dk a e lim wb wp).pivot]!)
                    · obtain ⟨mid, ap, d4, hx⟩ : ∃ mid ap d4, partition lt (Sort.rd lt dk a e lim wb wp).pi.1 a e (Sort.rd lt dk a e lim wb wp).pivot = (mid, ap, d4) := ⟨(partition lt (Sort.rd lt dk a e lim wb wp).pi.1 a e (Sort.rd lt dk a e lim wb wp).pivot).1, (partition lt (Sort.rd lt dk a e lim wb wp).pi.1 a e (Sort.rd lt dk a e lim wb wp).pivot).2.1, (partition lt (Sort.rd lt dk a e lim wb wp).pi.1 a e (Sort.rd lt dk a e lim wb wp).pivot).2.2, rfl⟩
                      obtain ⟨r1, r2, r3, r4, r5, r6, r7⟩ := Sort.round_part S (Sort.partition_holds lt) hpv.1 hpv.2 (show e ≤ (Sort.rd lt dk a e lim wb wp).pi.1.size by omega) HB3.out hx
                      have hc22 := partition_any K HK6.out.row a e (Sort.rd lt dk a e lim wb wp).pivot hpv.1 hpv.2 hen
                      rw [hx] at hc22
                      have X := Lib.hid hx
                      clear hx
                      go_upto_if 109 with (go_at_call 242; refine hc22.mono ?_; rintro e7 w7 ⟨rfl, ha, hbar⟩)
                      have hx := X.out
                      have HK7 := Lib.hid (HK6.out.turn ha hbar)
                      clear ha hbar c0 c1 hc22
                      have c0 := HK7.out.c0
                      have c1 := HK7.out.c1
                      by_cases h4 : mid - a < e - mid
                      · have h4z : (mid : Int) - (a : Int) < (e : Int) - (mid : Int) := by omega
                        have hih := IH.out w7 d4 a mid (Sort.rd lt dk a e lim wb wp).lim (by omega) HK7.out.row (by omega) (by omega) (Nat.lt_of_le_of_lt (Nat.le_trans Sort.rd_lim_le hll) hlim) r4
                        obtain ⟨pL, sL⟩ := Sort.pdq_holds Sort.insertionSort_holds Sort.heapSort_holds Sort.partialInsertionSort_holds (Sort.partition_holds lt) (Sort.partitionEqual_holds lt) Sort.reverseRange_holds S d4 a mid (Sort.rd lt dk a e lim wb wp).lim true true (by omega) (by omega) r4
                        go_wp2_with (go_at_call 180; refine hih.mono ?_; rintro e8 w8 ⟨rfl, ha, hbar⟩)
                        go_roundg (e - (mid + 1))
                        case measure => omega
                        case rel =>
                          refine ⟨mid + 1, e, (Sort.rd lt dk a e lim wb wp).lim, decide (mid - a ≥ (e - a) / 8), ap, pdq lt d4 a mid (Sort.rd lt dk a e lim wb wp).lim true true, by simp, rfl, rfl, ?_, rfl, by omega, by omega, Nat.le_refl _, by omega, Nat.le_trans Sort.rd_lim_le hll, (r6 _ pL sL).1, HK7.out.turn ha hbar, ?_⟩
                          · exact congrArg Value.bool (part8 (by omega) (by omega))
                          · rw [← HEQ.out, Sort.pdq_left h12 hl0 hp2 h87 (by rw [hx]; exact ⟨r1, r2⟩) (by rw [hx]; exact h4), hx]
                      · have h4z : ¬ ((mid : Int) - (a : Int) < (e : Int) - (mid : Int)) := by omega
                        have hih := IH.out w7 d4 (mid + 1) e (Sort.rd lt dk a e lim wb wp).lim (by omega) HK7.out.row (by omega) (by omega) (Nat.lt_of_le_of_lt (Nat.le_trans Sort.rd_lim_le hll) hlim) r5
                        obtain ⟨pL, sL⟩ := Sort.pdq_holds Sort.insertionSort_holds Sort.heapSort_holds Sort.partialInsertionSort_holds (Sort.partition_holds lt) (Sort.partitionEqual_holds lt) Sort.reverseRange_holds S d4 (mid + 1) e (Sort.rd lt dk a e lim wb wp).lim true true (by omega) (by omega) r5
                        go_wp2_with (go_at_call 180; refine hih.mono ?_; rintro e8 w8 ⟨rfl, ha, hbar⟩)
                        go_roundg (mid - a)
                        case measure => omega
                        case rel =>
                          refine ⟨a, mid, (Sort.rd lt dk a e lim wb wp).lim, decide (e - mid ≥ (e - a) / 8), ap, pdq lt d4 (mid + 1) e (Sort.rd lt dk a e lim wb wp).lim true true, rfl, rfl, rfl, ?_, rfl, by omega, by omega, Nat.le_refl _, by omega, Nat.le_trans Sort.rd_lim_le hll, (r7 _ pL sL).1, HK7.out.turn ha hbar, ?_⟩
                          · exact congrArg Value.bool (part8 (by omega) (by omega))
                          · rw [← HEQ.out, Sort.pdq_right h12 hl0 hp2 h87 (by rw [hx]; exact ⟨r1, r2⟩) (by rw [hx]; exact h4), hx]
                    · have h87' := h87
                      simp only [Bool.and_eq_true, decide_eq_true_eq, Bool.not_eq_true'] at h87'
                      obtain ⟨mid, d4, hx⟩ : ∃ mid d4, partitionEqual lt (Sort.rd lt dk a e lim wb wp).pi.1 a e (Sort.rd lt dk a e lim wb wp).pivot = (mid, d4) := ⟨(partitionEqual lt (Sort.rd lt dk a e lim wb wp).pi.1 a e (Sort.rd lt dk a e lim wb wp).pivot).1, (partitionEqual lt (Sort.rd lt dk a e lim wb wp).pi.1 a e (Sort.rd lt dk a e lim wb wp).pivot).2, rfl⟩
                      obtain ⟨r1, r2, r3, r4, _⟩ := Sort.round_eq S (Sort.partitionEqual_holds lt) h87'.1 hpv.1 hpv.2 (show e ≤ (Sort.rd lt dk a e lim wb wp).pi.1.size by omega) HB3.out h87'.2 hx
                      have hc21 := partitionEqual_any K HK6.out.row a e (Sort.rd lt dk a e lim wb wp).pivot hpv.1 hpv.2 hen
                      rw [hx] at hc21
                      have X := Lib.hid hx
                      clear hx
                      go_wp2_with (go_at_call 241; refine hc21.mono ?_; rintro e7 w7 ⟨rfl, ha, hbar⟩)
                      go_roundg (e - mid)
                      case measure => omega
                      case rel =>
                        have hx := X.out
                        exact ⟨mid, e, (Sort.rd lt dk a e lim wb wp).lim, wb, wp, d4, rfl, rfl, rfl, rfl, rfl, r2, hen, Nat.le_refl _, by omega, Nat.le_trans Sort.rd_lim_le hll, r4, HK6.out.turn ha hbar, by rw [← HEQ.out, Sort.pdq_eq h12 hl0 hp2 h87 (by rw [hx]; exact ⟨r1, r2⟩), hx]⟩
end
end So
end Go.Proofs.YtcockldefmmhbaaGreatDoor
