/- Layer 11: Same of two slices that read as the same lines. -/
import Derived.Test.YtdppaijofpbdeaaDoorTxtB
import Derived.Test.YtdppaijofpbdeaaDoorComT
import Derived.BigQuiet
import Derived.Deep.QuietTactic
set_option linter.unusedVariables false
set_option linter.unusedSimpArgs false
namespace Go.Proofs.YtdppaijofpbdeaaDoor
open Go.ChangeShapes Go.WideShapes Go.ChangeAt Go.RowKit Go.Mtl Go.Shelf Go.Lib
namespace Tx
open TxtM (Line)

theorem Row.le {w : World} {T B n : Nat} {v : Value} {xs : List Value} (h : Row w T B v n xs) : n ≤ maxLen := by
  rcases h with ⟨_, h, _⟩ | ⟨g, cap, cur, h1, h2, h3, h4, h5, h6⟩
  · rw [h]; exact Nat.zero_le _
  · exact Nat.le_trans h5 h6
theorem Lines.le {w : World} {v : Value} {ls : List Line} (h : Lines w v ls) : ls.length ≤ maxLen := h.choose_spec.1.le
theorem strV_is (l : List UInt8) : strV l = .string ⟨l.toArray⟩ := rfl
set_option maxRecDepth 100000 in
set_option maxHeartbeats 1000000 in
theorem same_true (a b : Value) (ls : List Line) (w : World) (ha : Lines w a ls) (hb : Lines w b ls) :
    Calls Tryd.prog 9 #[a, b] w fun e w' => e = .returned (.bool true) ∧ ∃ q, w' = w.drewN q := by
  obtain ⟨A, ca, rfl⟩ := ha.len
  obtain ⟨C, cb, rfl⟩ := hb.len
  have HA := Lib.hid ha
  have HB := Lib.hid hb
  clear ha hb
  obtain ⟨L, hL⟩ : ∃ L, ls.length = L := ⟨_, rfl⟩
  have HL := Lib.hid hL
  have hLb := HA.out.le
  unfold maxLen at hLb
  rw [hL] at HA HB hLb ⊢
  clear hL
  go_enter Tryd.func9, Tryd.ntmps9
  go_wp2_with fail
  go_loopw [5] (fun i wr => ∃ k q : Nat, k ≤ L ∧ i = .int .i64 (k : Int) ∧ wr = w.drewN q) (fun i _ => L - (RowKit.intOf i).toNat)
  case atStart => exact ⟨0, 0, by omega, rfl, rfl⟩
  case round =>
    obtain ⟨k, q, hk, rfl, rfl⟩ := hrel
    by_cases hlt : k < L
    · obtain ⟨⟨n, ws⟩, hx⟩ : ∃ x, ls[k]? = some x := ⟨_, List.getElem?_eq_getElem (by rw [HL.out]; exact hlt)⟩
      obtain ⟨g1, cap1, b1, hv1, hg1, ha0, ha1, hr1⟩ := HA.out.at_ hx
      obtain ⟨g2, cap2, b2, hv2, hg2, hb0, hb1, hr2⟩ := HB.out.at_ hx
      cases hv1
      cases hv2
      obtain ⟨A1, c1, rfl⟩ := hr1.len
      obtain ⟨A2, c2, rfl⟩ := hr2.len
      have HR1 := Lib.hid hr1
      have HR2 := Lib.hid hr2
      clear hr1 hr2 hx
      obtain ⟨m, hm⟩ : ∃ m, ws.length = m := ⟨_, rfl⟩
      have HM := Lib.hid hm
      have hmb := HR1.out.le
      unfold maxLen at hmb
      rw [hm] at HR1 HR2 ha1 hb1 hmb
      clear hm
      go_wp2_with fail
      go_quiet (fail)
      go_wp2_with fail
      go_loopw [6] (fun i wr => ∃ j q : Nat, j ≤ m ∧ i = .int .i64 (j : Int) ∧ wr = w.drewN q) (fun i _ => m - (RowKit.intOf i).toNat)
      case atStart => exact ⟨0, _, by omega, rfl, World.drewN_drewN ..⟩
      case round =>
        obtain ⟨j, q2, hj, rfl, rfl⟩ := hrel
        by_cases hlj : j < m
        · obtain ⟨g3, cap3, hv3, hg3, -, -, hc3⟩ := HR1.out.at_ (by omega)
          obtain ⟨g4, cap4, hv4, hg4, -, -, hc4⟩ := HR2.out.at_ (by omega)
          cases hv3
          cases hv4
          obtain ⟨x, hx⟩ : ∃ x, ws[j]? = some x := ⟨_, List.getElem?_eq_getElem (by rw [HM.out]; exact hlj)⟩
          have hxm : (ws.map strV)[j]? = some (.string ⟨x.toArray⟩) := by rw [List.getElem?_map, hx]; rfl
          have hx3 := hc3 j _ hxm
          have hx4 := hc4 j _ hxm
          have hxx : (x == x) = true := beq_self_eq_true x
          clear hc3 hc4 hx hxm
          go_wp2_with fail
          go_quiet (fail)
          go_wp2_with fail
          go_roundw
          case rel => exact ⟨j + 1, _, by omega, by go_num, rfl⟩
          case measure => simp [RowKit.intOf]; omega
        · obtain rfl : j = m := by omega
          go_wp2_with fail
          go_roundw
          case rel => exact ⟨k + 1, q2, by omega, by go_num, rfl⟩
          case measure => simp [RowKit.intOf]; omega
    · obtain rfl : k = L := by omega
      go_wp2_with fail
      go_ret
      exact ⟨rfl, q, rfl⟩
end Tx
end Go.Proofs.YtdppaijofpbdeaaDoor
