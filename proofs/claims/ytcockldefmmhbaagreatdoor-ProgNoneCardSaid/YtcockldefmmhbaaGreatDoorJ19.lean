/- Several texts of this proof in one file, each in its own namespace. -/
import Derived.Test.YtcockldefmmhbaaGreatDoorSorA
import Derived.Test.YtcockldefmmhbaaGreatDoorJ3
import Derived.Test.YtcockldefmmhbaaGreatDoorProg
import Derived.Sort.LotC
import Derived.Sort.WalkC
import Derived.Deep.CutBlock
import Derived.Deep.DeepCutAuto
import Derived.Deep.LoopGhost
/- sort.partition_func. (Written by wip/tools/mkSorG.py.) -/
set_option linter.unusedVariables false
set_option linter.unusedSimpArgs false
set_option maxRecDepth 100000
namespace Go.Proofs.YtcockldefmmhbaaGreatDoor
open Go.ChangeShapes Go.WideShapes Go.ChangeAt Go.RowKit Go.Mtl Go.Lib
namespace So
open Go.Sort (swp scanUp scanDown partLoop partEqLoop partition partitionEqual partLoop_eq partEqLoop_eq)
section
variable {α : Type} [Inhabited α] {A : World → Array α → Prop} {b m n : Nat} {lt : α → α → Bool} {g : Nat} {lb : Array Value} {sf : Nat} {sb : Array Value} {W : World} {d : Array α}
set_option maxHeartbeats 16000000 in
theorem partition_any (K : SortK Tryz.prog A b m n lt g lb sf sb) (h : A W d) (lo hi pivot : Nat) (hlp : lo ≤ pivot) (hph : pivot < hi) (hhi : hi ≤ n) :
    Calls Tryz.prog 242 #[.agg #[.func (.func g) #[] lb, .func (.func sf) #[] sb], .int .i64 lo, .int .i64 hi, .int .i64 pivot] W fun e w' => e = .returned (.tuple #[.int .i64 ((partition lt d lo hi pivot).1 : Nat), .bool (partition lt d lo hi pivot).2.1]) ∧ A w' (partition lt d lo hi pivot).2.2 ∧ Bar b W w' := by
  have HB0 := SortB.start K h 242
  have hsm := K.small
  have eg := K.enters
  have c1 := HB0.c1
  obtain ⟨W1, hs, ha, hbar⟩ := K.swap lo pivot HB0.row (by omega) (by omega)
  have HB := Lib.hid (HB0.turn ha hbar)
  clear h HB0 ha hbar
  obtain ⟨d0, hd0⟩ : ∃ d0, d0 = swp d lo pivot := ⟨_, rfl⟩
  rw [← hd0] at HB
  have hI0 : lo + 1 ≤ hi - 1 + 1 := by omega
  go_enter Tryz.func242, Tryz.ntmps242
  go_upto_block 0 with fail
  go_cut [10] (fun vv wx => ∃ i2 : Nat, vv = .int .i64 i2 ∧ (lo + 1) ≤ i2 ∧ i2 ≤ (hi - 1) + 1 ∧ SortB A b lb sb g sf 242 W W.heap.size wx d0 ∧ scanUp (fun x => lt x d0[lo]!) d0 (hi - 1) (lo + 1) = i2 ∧ (i2 ≤ (hi - 1) → lt d0[i2]! d0[lo]! = false))
  case first =>
    go_wp2_with fail
    go_loopw [10] (fun vv wx => ∃ i2 : Nat, vv = .int .i64 i2 ∧ (lo + 1) ≤ i2 ∧ i2 ≤ (hi - 1) + 1 ∧ SortB A b lb sb g sf 242 W W.heap.size wx d0 ∧ scanUp (fun x => lt x d0[lo]!) d0 (hi - 1) i2 = scanUp (fun x => lt x d0[lo]!) d0 (hi - 1) (lo + 1)) (fun vv _ => (hi - 1) + 1 - (intOf vv).toNat)
    case atStart => exact ⟨(lo + 1), by go_num, by omega, by omega, HB.out, rfl⟩
    case round =>
      obtain ⟨i2, rfl, h1, h2, hBx, hsc⟩ := hrel
      have HX := Lib.hid hBx
      have HS := Lib.hid hsc
      have c0 := hBx.c0
      clear hBx hsc HB
      by_cases hle : i2 ≤ (hi - 1)
      · have hl := K.less i2 lo HX.out.row (by omega) (by omega)
        cases hlv : lt d0[i2]! d0[lo]! with
        | true =>
          rw [hlv] at hl
          go_wp2_with (go_at_fn g; refine hl.mono ?_; rintro e w' ⟨rfl, hb⟩; have HY := Lib.hid (HX.out.next K hb); clear hb c0)
          go_roundw
          case rel => exact ⟨i2 + 1, by go_num, by omega, by omega, HY.out, (scanUp_go (fun x => lt x d0[lo]!) d0 (hi - 1) i2 hle (by simp [hlv])).symm.trans HS.out⟩
          case measure => simp [intOf]; omega
        | false =>
          rw [hlv] at hl
          go_wp2_with (go_at_fn g; refine hl.mono ?_; rintro e w' ⟨rfl, hb⟩; have HY := Lib.hid (HX.out.next K hb); clear hb c0)
          go_meet
          exact ⟨i2, rfl, by omega, by omega, HY.out, HS.out.symm.trans (scanUp_end (fun x => lt x d0[lo]!) d0 (hi - 1) i2 (Or.inr (by simp [hlv]))), fun _ => hlv⟩
      · go_wp2
        go_meet
        exact ⟨i2, rfl, by omega, by omega, HX.out, HS.out.symm.trans (scanUp_end (fun x => lt x d0[lo]!) d0 (hi - 1) i2 (Or.inl hle)), fun h => absurd h hle⟩
  case rest =>
    obtain ⟨i2, rfl, h1U, h2U, hBx, hsc, hvv⟩ := hcut
    have HIU := Lib.hid hsc
    have HVU : Hid (i2 ≤ (hi - 1) → lt d0[i2]! d0[lo]! = false) := hvv
    have HYU := Lib.hid hBx
    clear hBx hsc hvv HB
    go_upto_block 2 with fail
    go_cut [11] (fun vv wx => ∃ j2 : Nat, vv = .int .i64 j2 ∧ j2 ≤ (hi - 1) ∧ i2 ≤ j2 + 1 ∧ SortB A b lb sb g sf 242 W W.heap.size wx d0 ∧ scanDown (fun x => !lt x d0[lo]!) d0 i2 (hi - 1) = j2 ∧ (i2 ≤ j2 → lt d0[j2]! d0[lo]! = true))
    case first =>
      go_wp2_with fail
      go_loopw [11] (fun vv wx => ∃ j2 : Nat, vv = .int .i64 j2 ∧ j2 ≤ (hi - 1) ∧ i2 ≤ j2 + 1 ∧ SortB A b lb sb g sf 242 W W.heap.size wx d0 ∧ scanDown (fun x => !lt x d0[lo]!) d0 i2 j2 = scanDown (fun x => !lt x d0[lo]!) d0 i2 (hi - 1)) (fun vv _ => (intOf vv).toNat)
      case atStart => exact ⟨(hi - 1), by go_num, by omega, by omega, HYU.out, rfl⟩
      case round =>
        obtain ⟨j2, rfl, h1, h2, hBx, hsc⟩ := hrel
        have HX := Lib.hid hBx
        have HS := Lib.hid hsc
        have c0 := hBx.c0
        clear hBx hsc HYU
        by_cases hle : i2 ≤ j2
        · have hl := K.less j2 lo HX.out.row (by omega) (by omega)
          cases hlv : lt d0[j2]! d0[lo]! with
          | false =>
            rw [hlv] at hl
            go_wp2_with (go_at_fn g; refine hl.mono ?_; rintro e w' ⟨rfl, hb⟩; have HY := Lib.hid (HX.out.next K hb); clear hb c0)
            go_roundw
            case rel => exact ⟨j2 - 1, by congr 1; omega, by omega, by omega, HY.out, (scanDown_go (fun x => !lt x d0[lo]!) d0 i2 j2 hle (by omega) (by simp [hlv])).symm.trans HS.out⟩
            case measure => simp [intOf]; omega
          | true =>
            rw [hlv] at hl
            go_wp2_with (go_at_fn g; refine hl.mono ?_; rintro e w' ⟨rfl, hb⟩; have HY := Lib.hid (HX.out.next K hb); clear hb c0)
            go_meet
            exact ⟨j2, rfl, by omega, by omega, HY.out, HS.out.symm.trans (scanDown_end (fun x => !lt x d0[lo]!) d0 i2 j2 (Or.inr (by simp [hlv]))), fun _ => hlv⟩
        · go_wp2
          go_meet
          exact ⟨j2, rfl, by omega, by omega, HX.out, HS.out.symm.trans (scanDown_end (fun x => !lt x d0[lo]!) d0 i2 j2 (Or.inl hle)), fun h => absurd h hle⟩
    case rest =>
      obtain ⟨j2, rfl, h1D, h2D, hBx, hsc, hvv⟩ := hcut
      have HID := Lib.hid hsc
      have HVD : Hid (i2 ≤ j2 → lt d0[j2]! d0[lo]! = true) := hvv
      have HYD := Lib.hid hBx
      clear hBx hsc hvv HYU
      by_cases hgt : i2 > j2
      · have c1 := HYD.out.c1
        obtain ⟨W9, hs, ha, hbar⟩ := K.swap j2 lo HYD.out.row (by omega) (by omega)
        have HZ := Lib.hid (HYD.out.turn ha hbar)
        clear ha hbar
        go_wp2
        go_ret2
        have he : partition lt d lo hi pivot = (j2, true, swp d0 j2 lo) := by
          unfold partition
          simp only [← hd0, HIU.out, HID.out, if_pos hgt]
        rw [he]
        exact ⟨rfl, HZ.out.row, HZ.out.bar⟩
      · have hne : i2 ≤ j2 → i2 ≠ j2 := fun hle e => by
          subst e
          have h1 := HVU.out (by omega)
          have h2 := HVD.out (Nat.le_refl _)
          rw [h1] at h2; cases h2
        have hle : i2 < j2 := by have := hne (by omega); omega
        have c1 := HYD.out.c1
        obtain ⟨W2, hs, ha, hbar⟩ := K.swap i2 j2 HYD.out.row (by omega) (by omega)
        have HZ := Lib.hid (HYD.out.turn ha hbar)
        clear ha hbar hne HVU HVD
        go_wp2
        clear hs c1
        go_loopg [10, 11] (hi - lo) (fun gg vi vj wr => ∃ (ii jj : Nat) (dk : Array α), jj + 1 - ii ≤ gg ∧ vi = .int .i64 ii ∧ vj = .int .i64 jj ∧ lo < ii ∧ ii ≤ jj + 1 ∧ jj < hi ∧ SortB A b lb sb g sf 242 W W.heap.size wr dk ∧ partLoop lt lo ii jj dk = partLoop lt lo (i2 + 1) (j2 - 1) (swp d0 i2 j2))
        case atStart => exact ⟨i2 + 1, j2 - 1, swp d0 i2 j2, by omega, by go_num, by congr 1; omega, by omega, by omega, by omega, HZ.out, rfl⟩
        case round =>
          obtain ⟨ii, jj, dk, hgg, rfl, rfl, hli2, hij2, hjh2, hBk, hE⟩ := hrel
          have HK := Lib.hid hBk
          have HEQ := Lib.hid hE
          clear HZ hBk hE
          go_upto_block 6 with fail
          go_cut [10] (fun vv wx => ∃ ix2 : Nat, vv = .int .i64 ix2 ∧ ii ≤ ix2 ∧ ix2 ≤ jj + 1 ∧ SortB A b lb sb g sf 242 W W.heap.size wx dk ∧ scanUp (fun x => lt x dk[lo]!) dk jj ii = ix2 ∧ (ix2 ≤ jj → lt dk[ix2]! dk[lo]! = false))
          case first =>
            go_wp2_with fail
            go_loopw [10] (fun vv wx => ∃ ix2 : Nat, vv = .int .i64 ix2 ∧ ii ≤ ix2 ∧ ix2 ≤ jj + 1 ∧ SortB A b lb sb g sf 242 W W.heap.size wx dk ∧ scanUp (fun x => lt x dk[lo]!) dk jj ix2 = scanUp (fun x => lt x dk[lo]!) dk jj ii) (fun vv _ => jj + 1 - (intOf vv).toNat)
            case atStart => exact ⟨ii, by go_num, by omega, by omega, HK.out, rfl⟩
            case round =>
              obtain ⟨ix2, rfl, h1, h2, hBx, hsc⟩ := hrel
              have HX := Lib.hid hBx
              have HS := Lib.hid hsc
              have c0 := hBx.c0
              clear hBx hsc HK
              by_cases hle : ix2 ≤ jj
              · have hl := K.less ix2 lo HX.out.row (by omega) (by omega)
                cases hlv : lt dk[ix2]! dk[lo]! with
                | true =>
                  rw [hlv] at hl
                  go_wp2_with (go_at_fn g; refine hl.mono ?_; rintro e w' ⟨rfl, hb⟩; have HY := Lib.hid (HX.out.next K hb); clear hb c0)
                  go_roundw
                  case rel => exact ⟨ix2 + 1, by go_num, by omega, by omega, HY.out, (scanUp_go (fun x => lt x dk[lo]!) dk jj ix2 hle (by simp [hlv])).symm.trans HS.out⟩
                  case measure => simp [intOf]; omega
                | false =>
                  rw [hlv] at hl
                  go_wp2_with (go_at_fn g; refine hl.mono ?_; rintro e w' ⟨rfl, hb⟩; have HY := Lib.hid (HX.out.next K hb); clear hb c0)
                  go_meet
                  exact ⟨ix2, rfl, by omega, by omega, HY.out, HS.out.symm.trans (scanUp_end (fun x => lt x dk[lo]!) dk jj ix2 (Or.inr (by simp [hlv]))), fun _ => hlv⟩
              · go_wp2
                go_meet
                exact ⟨ix2, rfl, by omega, by omega, HX.out, HS.out.symm.trans (scanUp_end (fun x => lt x dk[lo]!) dk jj ix2 (Or.inl hle)), fun h => absurd h hle⟩
          case rest =>
            obtain ⟨ix2, rfl, h1Ux, h2Ux, hBx, hsc, hvv⟩ := hcut
            have HIUx := Lib.hid hsc
            have HVUx : Hid (ix2 ≤ jj → lt dk[ix2]! dk[lo]! = false) := hvv
            have HYUx := Lib.hid hBx
            clear hBx hsc hvv HK
            go_upto_block 8 with fail
            go_cut [11] (fun vv wx => ∃ jx2 : Nat, vv = .int .i64 jx2 ∧ jx2 ≤ jj ∧ ix2 ≤ jx2 + 1 ∧ SortB A b lb sb g sf 242 W W.heap.size wx dk ∧ scanDown (fun x => !lt x dk[lo]!) dk ix2 jj = jx2 ∧ (ix2 ≤ jx2 → lt dk[jx2]! dk[lo]! = true))
            case first =>
              go_wp2_with fail
              go_loopw [11] (fun vv wx => ∃ jx2 : Nat, vv = .int .i64 jx2 ∧ jx2 ≤ jj ∧ ix2 ≤ jx2 + 1 ∧ SortB A b lb sb g sf 242 W W.heap.size wx dk ∧ scanDown (fun x => !lt x dk[lo]!) dk ix2 jx2 = scanDown (fun x => !lt x dk[lo]!) dk ix2 jj) (fun vv _ => (intOf vv).toNat)
              case atStart => exact ⟨jj, by go_num, by omega, by omega, HYUx.out, rfl⟩
              case round =>
                obtain ⟨jx2, rfl, h1, h2, hBx, hsc⟩ := hrel
                have HX := Lib.hid hBx
                have HS := Lib.hid hsc
                have c0 := hBx.c0
                clear hBx hsc HYUx
                by_cases hle : ix2 ≤ jx2
                · have hl := K.less jx2 lo HX.out.row (by omega) (by omega)
                  cases hlv : lt dk[jx2]! dk[lo]! with
                  | false =>
                    rw [hlv] at hl
                    go_wp2_with (go_at_fn g; refine hl.mono ?_; rintro e w' ⟨rfl, hb⟩; have HY := Lib.hid (HX.out.next K hb); clear hb c0)
                    go_roundw
                    case rel => exact ⟨jx2 - 1, by congr 1; omega, by omega, by omega, HY.out, (scanDown_go (fun x => !lt x dk[lo]!) dk ix2 jx2 hle (by omega) (by simp [hlv])).symm.trans HS.out⟩
                    case measure => simp [intOf]; omega
                  | true =>
                    rw [hlv] at hl
                    go_wp2_with (go_at_fn g; refine hl.mono ?_; rintro e w' ⟨rfl, hb⟩; have HY := Lib.hid (HX.out.next K hb); clear hb c0)
                    go_meet
                    exact ⟨jx2, rfl, by omega, by omega, HY.out, HS.out.symm.trans (scanDown_end (fun x => !lt x dk[lo]!) dk ix2 jx2 (Or.inr (by simp [hlv]))), fun _ => hlv⟩
                · go_wp2
                  go_meet
                  exact ⟨jx2, rfl, by omega, by omega, HX.out, HS.out.symm.trans (scanDown_end (fun x => !lt x dk[lo]!) dk ix2 jx2 (Or.inl hle)), fun h => absurd h hle⟩
            case rest =>
              obtain ⟨jx2, rfl, h1Dx, h2Dx, hBx, hsc, hvv⟩ := hcut
              have HIDx := Lib.hid hsc
              have HVDx : Hid (ix2 ≤ jx2 → lt dk[jx2]! dk[lo]! = true) := hvv
              have HYDx := Lib.hid hBx
              clear hBx hsc hvv HYUx
              by_cases hgt2 : ix2 > jx2
              · have c1 := HYDx.out.c1
                obtain ⟨W9, hs, ha, hbar⟩ := K.swap jx2 lo HYDx.out.row (by omega) (by omega)
                have HZ := Lib.hid (HYDx.out.turn ha hbar)
                clear ha hbar
                go_wp2
                go_ret2
                have he : partition lt d lo hi pivot = (jx2, false, swp dk jx2 lo) := by
                  have hp := partLoop_eq lt lo ii jj dk
                  rw [HIUx.out, HIDx.out, if_pos hgt2] at hp
                  have hq := HEQ.out
                  rw [hp] at hq
                  unfold partition
                  simp only [← hd0, HIU.out, HID.out, if_neg hgt]
                  rw [← hq]
                rw [he]
                exact ⟨rfl, HZ.out.row, HZ.out.bar⟩
              · have hne : ix2 ≤ jx2 → ix2 ≠ jx2 := fun hle e => by
                  subst e
                  have h1 := HVUx.out (by omega)
                  have h2 := HVDx.out (Nat.le_refl _)
                  rw [h1] at h2; cases h2
                have hle : ix2 < jx2 := by have := hne (by omega); omega
                have c1 := HYDx.out.c1
                obtain ⟨W2, hs, ha, hbar⟩ := K.swap ix2 jx2 HYDx.out.row (by omega) (by omega)
                have HZ := Lib.hid (HYDx.out.turn ha hbar)
                have HEN : Hid (partLoop lt lo (ix2 + 1) (jx2 - 1) (swp dk ix2 jx2) = partLoop lt lo (i2 + 1) (j2 - 1) (swp d0 i2 j2)) := by
                  show _ = _
                  have hp := partLoop_eq lt lo ii jj dk
                  rw [HIUx.out, HIDx.out, if_neg hgt2] at hp
                  rw [← HEQ.out, hp]
                clear ha hbar
                go_wp2
                go_roundg (jx2 - 1 + 1 - (ix2 + 1))
                case rel => exact ⟨ix2 + 1, jx2 - 1, swp dk ix2 jx2, Nat.le_refl _, by go_num, by congr 1; omega, by omega, by omega, by omega, HZ.out, HEN.out⟩
                case measure => omega
end
end So
end Go.Proofs.YtcockldefmmhbaaGreatDoor
/- sort.partitionEqual_func, sort.partition_func. (Written by wip/tools/mkSorG.py.) -/
set_option linter.unusedVariables false
set_option linter.unusedSimpArgs false
set_option maxRecDepth 100000
namespace Go.Proofs.YtcockldefmmhbaaGreatDoor
open Go.ChangeShapes Go.WideShapes Go.ChangeAt Go.RowKit Go.Mtl Go.Lib
namespace So
open Go.Sort (swp scanUp scanDown partLoop partEqLoop partition partitionEqual partLoop_eq partEqLoop_eq)
section
variable {α : Type} [Inhabited α] {A : World → Array α → Prop} {b m n : Nat} {lt : α → α → Bool} {g : Nat} {lb : Array Value} {sf : Nat} {sb : Array Value} {W : World} {d : Array α}
set_option maxHeartbeats 8000000 in
theorem partitionEqual_any (K : SortK Tryz.prog A b m n lt g lb sf sb) (h : A W d) (lo hi pivot : Nat) (hlp : lo ≤ pivot) (hph : pivot < hi) (hhi : hi ≤ n) :
    Calls Tryz.prog 241 #[.agg #[.func (.func g) #[] lb, .func (.func sf) #[] sb], .int .i64 lo, .int .i64 hi, .int .i64 pivot] W fun e w' => e = .returned (.int .i64 ((partitionEqual lt d lo hi pivot).1 : Nat)) ∧ A w' (partitionEqual lt d lo hi pivot).2 ∧ Bar b W w' := by
  have HB0 := SortB.start K h 242
  have hsm := K.small
  have eg := K.enters
  have c1 := HB0.c1
  obtain ⟨W1, hs, ha, hbar⟩ := K.swap lo pivot HB0.row (by omega) (by omega)
  have HB := Lib.hid (HB0.turn ha hbar)
  clear h HB0 ha hbar
  obtain ⟨d0, hd0⟩ : ∃ d0, d0 = swp d lo pivot := ⟨_, rfl⟩
  rw [← hd0] at HB
  go_enter Tryz.func241, Tryz.ntmps241
  go_wp2
  clear hs c1
  go_loopg [9, 10] (hi - lo) (fun gg vi vj wr => ∃ (i j : Nat) (dk : Array α), j + 1 - i ≤ gg ∧ vi = .int .i64 i ∧ vj = .int .i64 j ∧ lo < i ∧ i ≤ j + 1 ∧ j < hi ∧ SortB A b lb sb g sf 242 W W.heap.size wr dk ∧ partEqLoop lt lo i j dk = partEqLoop lt lo (lo + 1) (hi - 1) d0) 
  case atStart => exact ⟨lo + 1, hi - 1, d0, by omega, by go_num, by congr 1; omega, by omega, by omega, by omega, HB.out, rfl⟩
  case round =>
    obtain ⟨i, j, dk, hgg, rfl, rfl, hli, hij, hjh, hBk, hE⟩ := hrel
    have HK := Lib.hid hBk
    have HEQ := Lib.hid hE
    clear HB hBk hE
    go_upto_block 2 with fail
    go_cut [9] (fun vv wx => ∃ i2 : Nat, vv = .int .i64 i2 ∧ i ≤ i2 ∧ i2 ≤ j + 1 ∧ SortB A b lb sb g sf 242 W W.heap.size wx dk ∧ scanUp (fun x => !lt dk[lo]! x) dk j i = i2 ∧ (i2 ≤ j → lt dk[lo]! dk[i2]! = true))
    case first =>
      go_wp2_with fail
      go_loopw [9] (fun vv wx => ∃ i2 : Nat, vv = .int .i64 i2 ∧ i ≤ i2 ∧ i2 ≤ j + 1 ∧ SortB A b lb sb g sf 242 W W.heap.size wx dk ∧ scanUp (fun x => !lt dk[lo]! x) dk j i2 = scanUp (fun x => !lt dk[lo]! x) dk j i) (fun vv _ => j + 1 - (intOf vv).toNat)
      case atStart => exact ⟨i, by go_num, by omega, by omega, HK.out, rfl⟩
      case round =>
        obtain ⟨i2, rfl, h1, h2, hBx, hsc⟩ := hrel
        have HX := Lib.hid hBx
        have HS := Lib.hid hsc
        have c0 := hBx.c0
        clear hBx hsc HK
        by_cases hle : i2 ≤ j
        · have hl := K.less lo i2 HX.out.row (by omega) (by omega)
          cases hlv : lt dk[lo]! dk[i2]! with
          | false =>
            rw [hlv] at hl
            go_wp2_with (go_at_fn g; refine hl.mono ?_; rintro e w' ⟨rfl, hb⟩; have HY := Lib.hid (HX.out.next K hb); clear hb c0)
            go_roundw
            case rel => exact ⟨i2 + 1, by go_num, by omega, by omega, HY.out, (scanUp_go (fun x => !lt dk[lo]! x) dk j i2 hle (by simp [hlv])).symm.trans HS.out⟩
            case measure => simp [intOf]; omega
          | true =>
            rw [hlv] at hl
            go_wp2_with (go_at_fn g; refine hl.mono ?_; rintro e w' ⟨rfl, hb⟩; have HY := Lib.hid (HX.out.next K hb); clear hb c0)
            go_meet
            exact ⟨i2, rfl, by omega, by omega, HY.out, HS.out.symm.trans (scanUp_end (fun x => !lt dk[lo]! x) dk j i2 (Or.inr (by simp [hlv]))), fun _ => hlv⟩
        · go_wp2
          go_meet
          exact ⟨i2, rfl, by omega, by omega, HX.out, HS.out.symm.trans (scanUp_end (fun x => !lt dk[lo]! x) dk j i2 (Or.inl hle)), fun h => absurd h hle⟩
    case rest =>
      obtain ⟨i2, rfl, h1U, h2U, hBx, hsc, hvv⟩ := hcut
      have HIU := Lib.hid hsc
      have HVU : Hid (i2 ≤ j → lt dk[lo]! dk[i2]! = true) := hvv
      have HYU := Lib.hid hBx
      clear hBx hsc hvv HK
      go_upto_block 4 with fail
      go_cut [10] (fun vv wx => ∃ j2 : Nat, vv = .int .i64 j2 ∧ j2 ≤ j ∧ i2 ≤ j2 + 1 ∧ SortB A b lb sb g sf 242 W W.heap.size wx dk ∧ scanDown (fun x => lt dk[lo]! x) dk i2 j = j2 ∧ (i2 ≤ j2 → lt dk[lo]! dk[j2]! = false))
      case first =>
        go_wp2_with fail
        go_loopw [10] (fun vv wx => ∃ j2 : Nat, vv = .int .i64 j2 ∧ j2 ≤ j ∧ i2 ≤ j2 + 1 ∧ SortB A b lb sb g sf 242 W W.heap.size wx dk ∧ scanDown (fun x => lt dk[lo]! x) dk i2 j2 = scanDown (fun x => lt dk[lo]! x) dk i2 j) (fun vv _ => (intOf vv).toNat)
        case atStart => exact ⟨j, by go_num, by omega, by omega, HYU.out, rfl⟩
        case round =>
          obtain ⟨j2, rfl, h1, h2, hBx, hsc⟩ := hrel
          have HX := Lib.hid hBx
          have HS := Lib.hid hsc
          have c0 := hBx.c0
          clear hBx hsc HYU
          by_cases hle : i2 ≤ j2
          · have hl := K.less lo j2 HX.out.row (by omega) (by omega)
            cases hlv : lt dk[lo]! dk[j2]! with
            | true =>
              rw [hlv] at hl
              go_wp2_with (go_at_fn g; refine hl.mono ?_; rintro e w' ⟨rfl, hb⟩; have HY := Lib.hid (HX.out.next K hb); clear hb c0)
              go_roundw
              case rel => exact ⟨j2 - 1, by congr 1; omega, by omega, by omega, HY.out, (scanDown_go (fun x => lt dk[lo]! x) dk i2 j2 hle (by omega) (by simp [hlv])).symm.trans HS.out⟩
              case measure => simp [intOf]; omega
            | false =>
              rw [hlv] at hl
              go_wp2_with (go_at_fn g; refine hl.mono ?_; rintro e w' ⟨rfl, hb⟩; have HY := Lib.hid (HX.out.next K hb); clear hb c0)
              go_meet
              exact ⟨j2, rfl, by omega, by omega, HY.out, HS.out.symm.trans (scanDown_end (fun x => lt dk[lo]! x) dk i2 j2 (Or.inr (by simp [hlv]))), fun _ => hlv⟩
          · go_wp2
            go_meet
            exact ⟨j2, rfl, by omega, by omega, HX.out, HS.out.symm.trans (scanDown_end (fun x => lt dk[lo]! x) dk i2 j2 (Or.inl hle)), fun h => absurd h hle⟩
      case rest =>
        obtain ⟨j2, rfl, h1D, h2D, hBx, hsc, hvv⟩ := hcut
        have HID := Lib.hid hsc
        have HVD : Hid (i2 ≤ j2 → lt dk[lo]! dk[j2]! = false) := hvv
        have HYD := Lib.hid hBx
        clear hBx hsc hvv HYU
        by_cases hgt : i2 > j2
        · go_wp2
          go_ret
          have hp := partEqLoop_eq lt lo i j dk
          rw [HIU.out, HID.out, if_pos hgt] at hp
          have he := HEQ.out
          rw [hp] at he
          unfold partitionEqual
          rw [← hd0, ← he]
          exact ⟨rfl, HYD.out.row, HYD.out.bar⟩
        · have hne : i2 ≤ j2 → i2 ≠ j2 := fun hle e => by
            subst e
            have h1 := HVU.out (by omega)
            have h2 := HVD.out (Nat.le_refl _)
            rw [h1] at h2; cases h2
          have hle : i2 < j2 := by have := hne (by omega); omega
          have c1 := HYD.out.c1
          obtain ⟨W2, hs, ha, hbar⟩ := K.swap i2 j2 HYD.out.row (by omega) (by omega)
          have HZ := Lib.hid (HYD.out.turn ha hbar)
          have HEN : Hid (partEqLoop lt lo (i2 + 1) (j2 - 1) (swp dk i2 j2) = partEqLoop lt lo (lo + 1) (hi - 1) d0) := by
            show _ = _
            have hp := partEqLoop_eq lt lo i j dk
            rw [HIU.out, HID.out, if_neg hgt] at hp
            rw [← HEQ.out, hp]
          clear ha hbar
          go_wp2
          go_roundg (j2 - 1 + 1 - (i2 + 1))
          case rel => exact ⟨i2 + 1, j2 - 1, swp dk i2 j2, Nat.le_refl _, by go_num, by congr 1; omega, by omega, by omega, by omega, HZ.out, HEN.out⟩
          case measure => omega
end
end So
end Go.Proofs.YtcockldefmmhbaaGreatDoor
