/- sort.partialInsertionSort_func. (Written by wip/tools/mkSorF.py.) -/
import Derived.Test.YtcockldefmmhbaaGreatDoorSorA
import Derived.Test.YtcockldefmmhbaaGreatDoorJ3
import Derived.Test.YtcockldefmmhbaaGreatDoorProg
import Derived.Sort.LotA
import Derived.Sort.WalkA6
import Derived.Deep.CutBlock
import Derived.Deep.DeepCutAuto
import Derived.Deep.LoopGhost
set_option linter.unusedVariables false
set_option linter.unusedSimpArgs false
set_option maxRecDepth 100000
namespace Go.Proofs.YtcockldefmmhbaaGreatDoor
open Go.ChangeShapes Go.WideShapes Go.ChangeAt Go.RowKit Go.Mtl Go.Lib
namespace So
open Go.Sort (swp scanSorted shiftDown shiftUp partialIns partialInsertionSort partialIns_succ fixDown fixUp)
section
variable {α : Type} [Inhabited α] {A : World → Array α → Prop} {b m n : Nat} {lt : α → α → Bool} {g : Nat} {lb : Array Value} {sf : Nat} {sb : Array Value} {W : World} {d : Array α}
theorem shiftDown_go {j : Nat} {d : Array α} (h : lt d[j + 1]! d[j]! = true) : shiftDown lt (j + 1) d = shiftDown lt j (swp d (j + 1) j) := by
  rw [shiftDown, h]; rfl
theorem shiftDown_stop {j : Nat} {d : Array α} (h : lt d[j + 1]! d[j]! = false) : shiftDown lt (j + 1) d = d := by
  rw [shiftDown, h]; rfl
theorem shiftUp_go {b j : Nat} {d : Array α} (hj : j < b) (h : lt d[j]! d[j - 1]! = true) : shiftUp lt b j d = shiftUp lt b (j + 1) (swp d j (j - 1)) := by
  rw [shiftUp, if_pos hj, h]; rfl
theorem shiftUp_stop {b j : Nat} {d : Array α} (h : ¬ j < b ∨ lt d[j]! d[j - 1]! = false) : shiftUp lt b j d = d := by
  rw [shiftUp]
  by_cases hj : j < b
  · rw [if_pos hj, h.resolve_left (fun e => e hj)]; rfl
  · rw [if_neg hj]
set_option maxHeartbeats 8000000 in
theorem partialIns_any (K : SortK Tryz.prog A b m n lt g lb sf sb) (h : A W d) (lo hi : Nat) (hlh : lo < hi) (hhi : hi ≤ n) :
    Calls Tryz.prog 240 #[.agg #[.func (.func g) #[] lb, .func (.func sf) #[] sb], .int .i64 lo, .int .i64 hi] W fun e w' => e = .returned (.bool (partialInsertionSort lt d lo hi).2) ∧ A w' (partialInsertionSort lt d lo hi).1 ∧ Bar b W w' := by
  have HB := Lib.hid (SortB.start K h 242)
  have hsm := K.small
  have eg := K.enters
  clear h
  go_enter Tryz.func240, Tryz.ntmps240
  go_wp2
  go_loopg [7, 8] 5 (fun gg v7 v8 wr => ∃ (i jj : Nat) (dk : Array α), jj ≤ 5 ∧ gg = 5 - jj ∧ v7 = .int .i64 i ∧ v8 = .int .i64 jj ∧ lo < i ∧ i ≤ hi ∧ SortB A b lb sb g sf 242 W W.heap.size wr dk ∧ partialIns lt lo hi (5 - jj) i dk = partialInsertionSort lt d lo hi)
  case atStart => exact ⟨lo + 1, 0, d, by omega, rfl, by go_num, rfl, by omega, by omega, HB.out, rfl⟩
  case round =>
    obtain ⟨i, jj, dk, hj5, hgg, rfl, rfl, hli, hih, hBk, hE⟩ := hrel
    have HK := Lib.hid hBk
    have HEQ := Lib.hid hE
    clear HB hBk hE
    by_cases hj : jj < 5
    · have hjd : decide ((jj : Int) < 5) = true := decide_eq_true (by omega)
      go_upto_block 2 with fail
      try simp only [hjd]
      go_cut [7] (fun vv wx => ∃ i2 : Nat, vv = .int .i64 i2 ∧ i ≤ i2 ∧ i2 ≤ hi ∧ SortB A b lb sb g sf 242 W W.heap.size wx dk ∧ scanSorted lt dk hi i = i2)
      case first =>
        go_wp2_with fail
        go_loopw [7] (fun vv wx => ∃ i2 : Nat, vv = .int .i64 i2 ∧ i ≤ i2 ∧ i2 ≤ hi ∧ SortB A b lb sb g sf 242 W W.heap.size wx dk ∧ scanSorted lt dk hi i2 = scanSorted lt dk hi i) (fun vv _ => hi - (intOf vv).toNat)
        case atStart => exact ⟨i, rfl, Nat.le_refl _, hih, HK.out, rfl⟩
        case round =>
          obtain ⟨i2, rfl, h1, h2, hBx, hsc⟩ := hrel
          have HX := Lib.hid hBx
          have HS := Lib.hid hsc
          have c0 := hBx.c0
          clear hBx hsc HK
          by_cases hle : i2 < hi
          · have hl := K.less i2 (i2 - 1) HX.out.row (by omega) (by omega)
            rw [show ((i2 - 1 : Nat) : Int) = (i2 : Int) - 1 by omega] at hl
            cases hlv : lt dk[i2]! dk[i2 - 1]! with
            | false =>
              rw [hlv] at hl
              go_wp2_with (go_at_fn g; refine hl.mono ?_; rintro e w' ⟨rfl, hb⟩; have HY := Lib.hid (HX.out.next K hb); clear hb c0)
              go_roundw
              case rel => exact ⟨i2 + 1, by go_num, by omega, by omega, HY.out, (scanSorted_go lt dk hi i2 hle hlv).symm.trans HS.out⟩
              case measure => simp [intOf]; omega
            | true =>
              rw [hlv] at hl
              go_wp2_with (go_at_fn g; refine hl.mono ?_; rintro e w' ⟨rfl, hb⟩; have HY := Lib.hid (HX.out.next K hb); clear hb c0)
              go_meet
              exact ⟨i2, rfl, h1, h2, HY.out, HS.out.symm.trans (scanSorted_stop lt dk hi i2 (.inr hlv))⟩
          · go_wp2
            go_meet
            exact ⟨i2, rfl, h1, h2, HX.out, HS.out.symm.trans (scanSorted_stop lt dk hi i2 (.inl hle))⟩
      case rest =>
        obtain ⟨i2, rfl, hi2, h2h, hBx, hsc⟩ := hcut
        have HX := Lib.hid hBx
        have HR0 : Hid (partialInsertionSort lt d lo hi = if i2 = hi then (dk, true) else if hi - lo < 50 then (dk, false) else partialIns lt lo hi (5 - (jj + 1)) i2 (fixUp lt hi i2 (fixDown lt lo i2 (swp dk i2 (i2 - 1))))) := by
          show _ = _
          rw [← HEQ.out, show 5 - jj = (5 - (jj + 1)) + 1 by omega, partialIns_succ, hsc]
        clear hBx hsc HK HEQ
        by_cases he : i2 = hi
        · have hq := HR0.out
          rw [if_pos he] at hq
          have HQ := Lib.hid hq
          clear hq HR0
          have hez : (i2 : Int) = (hi : Int) := by omega
          go_wp2
          go_ret
          rw [HQ.out]
          exact ⟨rfl, HX.out.row, HX.out.bar⟩
        · by_cases h50 : hi - lo < 50
          · have hq := HR0.out
            rw [if_neg he, if_pos h50] at hq
            have HQ := Lib.hid hq
            clear hq
            go_wp2
            go_ret
            rw [HQ.out]
            exact ⟨rfl, HX.out.row, HX.out.bar⟩
          · have hed : ((i2 : Int) == (hi : Int)) = false := by rw [beq_eq_false_iff_ne]; omega
            have h50d : decide ((hi : Int) - (lo : Int) < 50) = false := decide_eq_false (by omega)
            have hq := HR0.out
            rw [if_neg he, if_neg h50] at hq
            have HR1 := Lib.hid hq.symm
            clear hq HR0
            have c1 := HX.out.c1
            obtain ⟨W1, hs, ha, hbar⟩ := K.swap i2 (i2 - 1) HX.out.row (by omega) (by omega)
            rw [show ((i2 - 1 : Nat) : Int) = (i2 : Int) - 1 by omega] at hs
            have HZ0 := Lib.hid (HX.out.turn ha hbar)
            obtain ⟨d1, hd1⟩ : ∃ d1, d1 = swp dk i2 (i2 - 1) := ⟨_, rfl⟩
            rw [← hd1] at HZ0 HR1
            have HR := HR1
            clear ha hbar HR1
            by_cases hd : 2 ≤ i2 - lo
            · have HDN : Hid (fixDown lt lo i2 d1 = shiftDown lt (i2 - 1) d1) := by show _ = _; unfold fixDown; rw [if_pos hd]
              have hdd : decide (2 ≤ (i2 : Int) - (lo : Int)) = true := decide_eq_true (by omega)
              go_upto_block 4 with fail
              try simp only [h50d, hdd, hed]
              go_cut [] (fun wx => SortB A b lb sb g sf 242 W W.heap.size wx (shiftDown lt (i2 - 1) d1))
              case first =>
                clear hs c1
                go_wp2_with fail
                go_loopw [9] (fun vv wx => ∃ (j : Nat) (dj : Array α), vv = .int .i64 j ∧ j < i2 ∧ SortB A b lb sb g sf 242 W W.heap.size wx dj ∧ shiftDown lt j dj = shiftDown lt (i2 - 1) d1) (fun vv _ => (intOf vv).toNat)
                case atStart => exact ⟨i2 - 1, d1, by congr 1; omega, by omega, HZ0.out, rfl⟩
                case round =>
                  obtain ⟨j, dj, rfl, h1, hBx, hsc⟩ := hrel
                  have HX2 := Lib.hid hBx
                  have HS := Lib.hid hsc
                  have c0 := hBx.c0
                  clear hBx hsc HZ0
                  cases j with
                  | zero =>
                    go_wp2
                    go_meet
                    have he2 : dj = shiftDown lt (i2 - 1) d1 := HS.out
                    rw [← he2]
                    exact HX2.out
                  | succ j =>
                    generalize hz : ((j + 1 : Nat) : Int) = z
                    have hl := K.less (j + 1) j HX2.out.row (by omega) (by omega)
                    rw [hz, show ((j : Nat) : Int) = z - 1 by omega] at hl
                    cases hlv : lt dj[j + 1]! dj[j]! with
                    | true =>
                      rw [hlv] at hl
                      go_wp2_with (go_at_fn g; refine hl.mono ?_; rintro e w' ⟨rfl, hb⟩; have HY := Lib.hid (HX2.out.next K hb); have c1 := HY.out.c1; clear hb c0)
                      obtain ⟨W', hs, ha, hbar⟩ := K.swap (j + 1) j HY.out.row (by omega) (by omega)
                      rw [hz, show ((j : Nat) : Int) = z - 1 by omega] at hs
                      rw [hs, Oper.upon_value]
                      have HZ := Lib.hid (HY.out.turn ha hbar)
                      clear hl hs ha hbar c1
                      go_wp2
                      go_roundw
                      case rel => exact ⟨j, swp dj (j + 1) j, by congr 1; omega, by omega, HZ.out, (shiftDown_go hlv).symm.trans HS.out⟩
                      case measure => simp [intOf]; omega
                    | false =>
                      rw [hlv] at hl
                      go_wp2_with (go_at_fn g; refine hl.mono ?_; rintro e w' ⟨rfl, hb⟩; have HY := Lib.hid (HX2.out.next K hb); clear hb c0)
                      go_meet
                      have he2 : dj = shiftDown lt (i2 - 1) d1 := (shiftDown_stop hlv).symm.trans HS.out
                      rw [← he2]
                      exact HY.out
              case rest =>
                have HQ0 := Lib.hid hcut
                obtain ⟨d2, hd2⟩ : ∃ d2, d2 = shiftDown lt (i2 - 1) d1 := ⟨_, rfl⟩
                rw [← hd2] at HQ0 HDN
                clear hcut HZ0 hs c1
                by_cases hu : 2 ≤ hi - i2
                · have hud : decide (2 ≤ (hi : Int) - (i2 : Int)) = true := decide_eq_true (by omega)
                  have HFU : Hid (fixUp lt hi i2 d2 = shiftUp lt hi (i2 + 1) d2) := by show _ = _; unfold fixUp; rw [if_pos hu]
                  go_upto_block 6 with fail
                  try simp only [h50d, hud, hed]
                  go_wp2_with fail
                  go_loopw [10] (fun vv wx => ∃ (j : Nat) (dj : Array α), vv = .int .i64 j ∧ i2 < j ∧ j ≤ hi ∧ SortB A b lb sb g sf 242 W W.heap.size wx dj ∧ shiftUp lt hi j dj = shiftUp lt hi (i2 + 1) d2) (fun vv _ => hi - (intOf vv).toNat)
                  case atStart => exact ⟨i2 + 1, d2, by go_num, by omega, by omega, HQ0.out, rfl⟩
                  case round =>
                    obtain ⟨j, dj, rfl, h1, h2, hBx, hsc⟩ := hrel
                    have HX := Lib.hid hBx
                    have HS := Lib.hid hsc
                    have c0 := hBx.c0
                    clear hBx hsc HQ0
                    by_cases hle : j < hi
                    · have hl := K.less j (j - 1) HX.out.row (by omega) (by omega)
                      rw [show ((j - 1 : Nat) : Int) = (j : Int) - 1 by omega] at hl
                      cases hlv : lt dj[j]! dj[j - 1]! with
                      | true =>
                        rw [hlv] at hl
                        go_wp2_with (go_at_fn g; refine hl.mono ?_; rintro e w' ⟨rfl, hb⟩; have HY := Lib.hid (HX.out.next K hb); have c1 := HY.out.c1; clear hb c0)
                        obtain ⟨W', hs, ha, hbar⟩ := K.swap j (j - 1) HY.out.row (by omega) (by omega)
                        rw [show ((j - 1 : Nat) : Int) = (j : Int) - 1 by omega] at hs
                        rw [hs, Oper.upon_value]
                        have HZ := Lib.hid (HY.out.turn ha hbar)
                        clear hl hs ha hbar c1
                        go_wp2
                        go_roundw
                        case rel => exact ⟨j + 1, swp dj j (j - 1), by go_num, by omega, by omega, HZ.out, (shiftUp_go hle hlv).symm.trans HS.out⟩
                        case measure => simp [intOf]; omega
                      | false =>
                        rw [hlv] at hl
                        have HE : Hid (dj = fixUp lt hi i2 d2) := ((shiftUp_stop (.inr hlv)).symm.trans HS.out).trans HFU.out.symm
                        go_wp2_with (go_at_fn g; refine hl.mono ?_; rintro e w' ⟨rfl, hb⟩; have HY := Lib.hid (HX.out.next K hb); clear hb c0)
                        go_roundg (5 - (jj + 1))
                        case measure => omega
                        case rel => exact ⟨i2, jj + 1, dj, by omega, rfl, rfl, by go_num, by omega, by omega, HY.out, by rw [HE.out, ← HR.out, HDN.out]⟩
                    · have HE : Hid (dj = fixUp lt hi i2 d2) := ((shiftUp_stop (.inl hle)).symm.trans HS.out).trans HFU.out.symm
                      go_wp2
                      go_roundg (5 - (jj + 1))
                      case measure => omega
                      case rel => exact ⟨i2, jj + 1, dj, by omega, rfl, rfl, by go_num, by omega, by omega, HX.out, by rw [HE.out, ← HR.out, HDN.out]⟩
                · have HE : Hid (d2 = fixUp lt hi i2 d2) := by show _ = _; unfold fixUp; rw [if_neg hu]
                  go_wp2
                  go_roundg (5 - (jj + 1))
                  case measure => omega
                  case rel => exact ⟨i2, jj + 1, fixUp lt hi i2 d2, by omega, rfl, rfl, by go_num, by omega, by omega, HE.out ▸ HQ0.out, by rw [← HR.out, HDN.out]⟩
            · have HDN : Hid (fixDown lt lo i2 d1 = d1) := by show _ = _; unfold fixDown; rw [if_neg hd]
              by_cases hu : 2 ≤ hi - i2
              · have hud : decide (2 ≤ (hi : Int) - (i2 : Int)) = true := decide_eq_true (by omega)
                have HFU : Hid (fixUp lt hi i2 d1 = shiftUp lt hi (i2 + 1) d1) := by show _ = _; unfold fixUp; rw [if_pos hu]
                go_upto_block 6 with fail
                try simp only [h50d, hud, hed]
                go_wp2_with fail
                go_loopw [10] (fun vv wx => ∃ (j : Nat) (dj : Array α), vv = .int .i64 j ∧ i2 < j ∧ j ≤ hi ∧ SortB A b lb sb g sf 242 W W.heap.size wx dj ∧ shiftUp lt hi j dj = shiftUp lt hi (i2 + 1) d1) (fun vv _ => hi - (intOf vv).toNat)
                case atStart => exact ⟨i2 + 1, d1, by go_num, by omega, by omega, HZ0.out, rfl⟩
                case round =>
                  obtain ⟨j, dj, rfl, h1, h2, hBx, hsc⟩ := hrel
                  have HX := Lib.hid hBx
                  have HS := Lib.hid hsc
                  have c0 := hBx.c0
                  clear hBx hsc HZ0
                  by_cases hle : j < hi
                  · have hl := K.less j (j - 1) HX.out.row (by omega) (by omega)
                    rw [show ((j - 1 : Nat) : Int) = (j : Int) - 1 by omega] at hl
                    cases hlv : lt dj[j]! dj[j - 1]! with
                    | true =>
                      rw [hlv] at hl
                      go_wp2_with (go_at_fn g; refine hl.mono ?_; rintro e w' ⟨rfl, hb⟩; have HY := Lib.hid (HX.out.next K hb); have c1 := HY.out.c1; clear hb c0)
                      obtain ⟨W', hs, ha, hbar⟩ := K.swap j (j - 1) HY.out.row (by omega) (by omega)
                      rw [show ((j - 1 : Nat) : Int) = (j : Int) - 1 by omega] at hs
                      rw [hs, Oper.upon_value]
                      have HZ := Lib.hid (HY.out.turn ha hbar)
                      clear hl hs ha hbar c1
                      go_wp2
                      go_roundw
                      case rel => exact ⟨j + 1, swp dj j (j - 1), by go_num, by omega, by omega, HZ.out, (shiftUp_go hle hlv).symm.trans HS.out⟩
                      case measure => simp [intOf]; omega
                    | false =>
                      rw [hlv] at hl
                      have HE : Hid (dj = fixUp lt hi i2 d1) := ((shiftUp_stop (.inr hlv)).symm.trans HS.out).trans HFU.out.symm
                      go_wp2_with (go_at_fn g; refine hl.mono ?_; rintro e w' ⟨rfl, hb⟩; have HY := Lib.hid (HX.out.next K hb); clear hb c0)
                      go_roundg (5 - (jj + 1))
                      case measure => omega
                      case rel => exact ⟨i2, jj + 1, dj, by omega, rfl, rfl, by go_num, by omega, by omega, HY.out, by rw [HE.out, ← HR.out, HDN.out]⟩
                  · have HE : Hid (dj = fixUp lt hi i2 d1) := ((shiftUp_stop (.inl hle)).symm.trans HS.out).trans HFU.out.symm
                    go_wp2
                    go_roundg (5 - (jj + 1))
                    case measure => omega
                    case rel => exact ⟨i2, jj + 1, dj, by omega, rfl, rfl, by go_num, by omega, by omega, HX.out, by rw [HE.out, ← HR.out, HDN.out]⟩
              · omega
    · obtain rfl : jj = 5 := by omega
      have hq := HEQ.out
      go_wp2
      go_ret
      rw [← hq]
      exact ⟨rfl, HK.out.row, HK.out.bar⟩
end
end So
end Go.Proofs.YtcockldefmmhbaaGreatDoor
