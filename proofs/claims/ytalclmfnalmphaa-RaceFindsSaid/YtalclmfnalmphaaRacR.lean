/- Layer 24: the reference: plain, right, ahead, Before. (Written by wip/tools/mkRacR.py.) -/
import Derived.Test.YtalclmfnalmphaaRacK
import Derived.Deep.OwnRows
set_option linter.unusedVariables false
set_option linter.unusedSimpArgs false
set_option maxRecDepth 100000
namespace Go.Proofs.Ytalclmfnalmphaa
open Go.ChangeShapes Go.WideShapes Go.ChangeAt Go.RowKit Go.Mtl Go.Lib
namespace Rc
open RcM
def plB (x : A) : Bool := x.k == 5 || x.k == 6
theorem plain_any (x : A) (w : World) : Calls Try.prog 15 #[.agg (acc x)] w fun e w' => e = .returned (.bool (plB x)) ∧ Below w.heap.size w w' := by
  obtain ⟨t, k, p⟩ := x
  have HB := Lib.hid (below_box w (.cells (acc ⟨t, k, p⟩) 32))
  by_cases k5 : k = 5
  · subst k5
    have HF : Hid (plB ⟨t, 5, p⟩ = true) := rfl
    go_in
    go_wp2_with fail
    go_ret
    exact ⟨by rw [HF.out]; rfl, HB.out⟩
  by_cases k6 : k = 6
  · subst k6
    have HF : Hid (plB ⟨t, 6, p⟩ = true) := rfl
    go_in
    go_wp2_with fail
    go_ret
    exact ⟨by rw [HF.out]; rfl, HB.out⟩
  · have HF : Hid (plB ⟨t, k, p⟩ = false) := by show _ = _; unfold plB; simp [k5, k6]
    have d5 : (k == 5) = false := by simpa using k5
    have d6 : (k == 6) = false := by simpa using k6
    clear k5 k6
    go_in
    go_wp2_with fail
    go_ret
    exact ⟨by rw [HF.out]; rfl, HB.out⟩
open Classical in
theorem rtB_iff {a b : A} : rtB a b = true ↔ Rt a b := by unfold rtB; exact decide_eq_true_iff
open Classical in
theorem rtB_no {a b : A} (h : ¬ Rt a b) : rtB a b = false := by unfold rtB; exact decide_eq_false h
set_option maxHeartbeats 2000000 in
theorem right_any (a b : A) (w : World) : Calls Try.prog 22 #[.agg (acc a), .agg (acc b)] w fun e w' => e = .returned (.bool (rtB a b)) ∧ Below w.heap.size w w' := by
  obtain ⟨t, k, p⟩ := a
  obtain ⟨u, j, q⟩ := b
  have HB : Hid (Below w.heap.size w ((w.alloc (.cells (acc ⟨t, k, p⟩) 32)).alloc (.cells (acc ⟨u, j, q⟩) 32))) := ((Below.refl _ w).alloc (Nat.le_refl _) _).alloc (by simp) _
  by_cases ht : t = u
  · have HF := Lib.hid (rtB_iff.2 (show Rt ⟨t, k, p⟩ ⟨u, j, q⟩ from .inl ht))
    have d0 : (t == u) = true := by simpa using ht
    clear ht
    go_in
    go_wp2_with fail
    go_ret
    exact ⟨by rw [HF.out]; rfl, HB.out⟩
  have d0 : (t == u) = false := by simpa using ht
  by_cases hp : p = q
  · have dp : (p != q) = false := by simpa using hp
    by_cases k2 : k = 2
    · subst k2
      by_cases j1 : j = 1
      · subst j1
        have HF := Lib.hid (rtB_iff.2 (show Rt ⟨t, 2, p⟩ ⟨u, 1, q⟩ from .inr ⟨hp, .inl ⟨rfl, rfl⟩⟩))
        clear ht hp
        go_in
        go_wp2_with fail
        go_ret
        exact ⟨by rw [HF.out]; rfl, HB.out⟩
      · have HF := Lib.hid (rtB_no (a := ⟨t, 2, p⟩) (b := ⟨u, j, q⟩) (by rintro (h | ⟨_, ⟨_, h⟩ | ⟨h, _⟩⟩); exact ht h; exact j1 h; exact absurd h (show ¬ (2 : Int) = 4 by decide)))
        have d1 : (j == 1) = false := by simpa using j1
        clear ht hp j1
        go_in
        go_wp2_with fail
        go_ret
        exact ⟨by rw [HF.out]; rfl, HB.out⟩
    by_cases k4 : k = 4
    · subst k4
      by_cases j4 : j = 4
      · subst j4
        have HF := Lib.hid (rtB_iff.2 (show Rt ⟨t, 4, p⟩ ⟨u, 4, q⟩ from .inr ⟨hp, .inr ⟨rfl, .inl rfl⟩⟩))
        clear ht hp k2
        go_in
        go_wp2_with fail
        go_ret
        exact ⟨by rw [HF.out]; rfl, HB.out⟩
      by_cases j3 : j = 3
      · subst j3
        have HF := Lib.hid (rtB_iff.2 (show Rt ⟨t, 4, p⟩ ⟨u, 3, q⟩ from .inr ⟨hp, .inr ⟨rfl, .inr rfl⟩⟩))
        clear ht hp k2 j4
        go_in
        go_wp2_with fail
        go_ret
        exact ⟨by rw [HF.out]; rfl, HB.out⟩
      · have HF := Lib.hid (rtB_no (a := ⟨t, 4, p⟩) (b := ⟨u, j, q⟩) (by rintro (h | ⟨_, ⟨h, _⟩ | ⟨_, h | h⟩⟩); exact ht h; exact absurd h (show ¬ (4 : Int) = 2 by decide); exact j4 h; exact j3 h))
        have d4 : (j == 4) = false := by simpa using j4
        have d3 : (j == 3) = false := by simpa using j3
        clear ht hp k2 j4 j3
        go_in
        go_wp2_with fail
        go_ret
        exact ⟨by rw [HF.out]; rfl, HB.out⟩
    · have HF := Lib.hid (rtB_no (a := ⟨t, k, p⟩) (b := ⟨u, j, q⟩) (by rintro (h | ⟨_, ⟨h, _⟩ | ⟨h, _⟩⟩); exact ht h; exact k2 h; exact k4 h))
      have d2 : (k == 2) = false := by simpa using k2
      have d4 : (k == 4) = false := by simpa using k4
      clear ht hp k2 k4
      go_in
      go_wp2_with fail
      go_ret
      exact ⟨by rw [HF.out]; rfl, HB.out⟩
  · have HF := Lib.hid (rtB_no (a := ⟨t, k, p⟩) (b := ⟨u, j, q⟩) (by rintro (h | ⟨h, _⟩); exact ht h; exact hp h))
    have dp : (p != q) = true := by simpa using hp
    clear ht hp
    go_in
    go_wp2_with fail
    go_ret
    exact ⟨by rw [HF.out]; rfl, HB.out⟩
/-! A row of bools. -/
def blL (n : Nat) (q : Nat → Bool) : List Value := (List.range n).map fun j => .bool (q j)
def blA (n : Nat) (q : Nat → Bool) : Array Value := (blL n q).toArray
section
variable {n j : Nat} {q z : Nat → Bool}
theorem blA_size (n : Nat) (q : Nat → Bool) : (blA n q).size = n := by unfold blA blL; simp
theorem blA_get (h : j < n) : (blA n q)[j]? = some (.bool (q j)) := by unfold blA blL; simp [h]
theorem blA_ext (h : ∀ j, j < n → q j = z j) : blA n q = blA n z := by
  unfold blA blL
  congr 1
  exact List.map_congr_left fun u hu => by rw [h u (List.mem_range.1 hu)]
theorem blA_set (h : j < n) (b : Bool) : (blA n q).setIfInBounds j (.bool b) = blA n fun i => if i = j then b else q i := by
  apply Array.ext_getElem?
  intro i
  rw [Array.getElem?_setIfInBounds]
  by_cases hi : i < n
  · rw [blA_get hi, blA_get hi, blA_size]
    by_cases e : j = i
    · subst e; rw [if_pos rfl, if_pos h, if_pos rfl]
    · rw [if_neg e, if_neg (fun h => e h.symm)]
  · rw [Array.getElem?_eq_none (by rw [blA_size]; omega), Array.getElem?_eq_none (by rw [blA_size]; omega), if_neg (by omega)]
theorem blA_new (n : Nat) : madeCells #[.bool false] n = blA n fun _ => false := by
  apply Array.ext_getElem?
  intro i
  by_cases hi : i < n
  · rw [blA_get hi]; unfold madeCells; simp [hi, Nat.mod_one]
  · rw [Array.getElem?_eq_none (by rw [size_madeCells]; omega), Array.getElem?_eq_none (by rw [blA_size]; omega)]
end
theorem bool_info : (Try.prog.info? 4).map (fun i => (i.zero, i.size, i.bytes)) = some (some (.bool false), 1, 1) := by kernel_rfl
open Classical in
set_option maxHeartbeats 4000000 in
theorem ahead_any (v : Value) (l : List A) (w : World) (h : Lg w w.heap.size v l) (bn : Nat) (hb : bn < l.length) (h60 : l.length ≤ 60) : Calls Try.prog 16 #[v, .int .i64 (bn : Int)] w fun e w' => e = .returned (.slice (some ⟨w.heap.size, 0, none⟩) (bn + 1) (bn + 1)) ∧ Blk w' w.heap.size (blA (bn + 1) (ahB (fn l) bn)) 4 ∧ Below w.heap.size w w' := by
  obtain ⟨A0, c, rfl, hc1, hc2⟩ := h.len
  obtain ⟨n, hn⟩ : ∃ n, l.length = n := ⟨_, rfl⟩
  have h : Rd w w.heap.size 3 l.length (.slice A0 l.length c) (avs l) := h
  rw [hn] at h hc1 hb h60 ⊢
  have HN := Lib.hid hn
  have HL := Lib.hid h
  have hmk : ∀ w : World, (Instr.makeSlice 47 (.int .i64 ((bn : Int) + 1)) (.int .i64 ((bn : Int) + 1))).run Try.prog w = .ok (.slice (some ⟨w.heap.size, 0, none⟩) (bn + 1) (bn + 1)) (w.alloc (.cells (blA (bn + 1) fun _ => false) 4)) := fun w => by
    have := run_make_row' (P := Try.prog) 47 4 (.bool false) 1 Try.underlying47 bool_info rfl .i64 .i64 (bn + 1) (by omega) (by omega) w
    rw [blA_new] at this
    exact this
  have HX0 := Lib.hid (Blk.box w (blA (bn + 1) fun _ => false) 4)
  have HX1 : Hid (Blk (w.alloc (.cells ((blA (bn + 1) fun _ => false).setIfInBounds bn (.bool true)) 4)) w.heap.size (blA (bn + 1) fun j => if bn ≤ j then ahB (fn l) bn j else false) 4) := by
    have e : (blA (bn + 1) fun _ => false).setIfInBounds bn (.bool true) = blA (bn + 1) fun j => if bn ≤ j then ahB (fn l) bn j else false := (blA_set (by omega) _).trans (blA_ext fun j hj => by
      by_cases e : j = bn
      · rw [if_pos e, if_pos (by omega), e]; exact (decide_eq_true (.inl rfl)).symm
      · rw [if_neg e, if_neg (by omega)])
    rw [e]
    exact Blk.box w _ _
  have HB1 : Hid (Below w.heap.size w (w.alloc (.cells ((blA (bn + 1) fun _ => false).setIfInBounds bn (.bool true)) 4))) := below_box w _
  have c0 := HX0.out.cell bn _ (blA_get (by omega))
  have f0 := HX0.out.frozen bn
  clear h hn
  go_in
  go_wp2_with fail
  clear c0 f0 HX0
  generalize w.alloc (.cells ((blA (bn + 1) fun _ => false).setIfInBounds bn (.bool true)) 4) = ws at *
  go_loopw [6, 7] (fun vz _ wr => ∃ (z : Int) (nn : Nat), vz = .int .i64 z ∧ z = (nn : Int) - 1 ∧ nn ≤ bn ∧ Hid (Below w.heap.size w wr ∧ Blk wr w.heap.size (blA (bn + 1) fun j => if nn ≤ j then ahB (fn l) bn j else false) 4)) (fun vz _ _ => (RowKit.intOf vz + 1).toNat)
  case atStart => exact ⟨_, bn, rfl, rfl, Nat.le_refl _, (show Hid _ from ⟨HB1.out, HX1.out⟩)⟩
  case round =>
    obtain ⟨z, nn, rfl, hz, hnn, HW⟩ := hrel
    clear HB1 HX1
    by_cases h0 : z < 0
    · have d0 : decide (z ≥ 0) = false := by simp; omega
      have HF : Hid (Blk wr w.heap.size (blA (bn + 1) (ahB (fn l) bn)) 4) := by
        show Blk _ _ _ _
        rw [show blA (bn + 1) (ahB (fn l) bn) = blA (bn + 1) fun j => if nn ≤ j then ahB (fn l) bn j else false from blA_ext fun j _ => by rw [if_pos (by omega)]]
        exact HW.out.2
      clear hz h0
      go_wp2_with fail
      go_ret
      exact ⟨rfl, HF.out, HW.out.1⟩
    · obtain ⟨m, rfl⟩ : ∃ m : Nat, z = (m : Int) := ⟨z.toNat, by omega⟩
      obtain rfl : nn = m + 1 := by omega
      have d0 : decide ((m : Int) ≥ 0) = true := by simp
      have HI : Hid (Blk wr w.heap.size (blA (bn + 1) (fun j => if m < j then ahB (fn l) bn j else if j = m then anB (fn l) bn m (m + 1) else false)) 4) := by
        show Blk _ _ _ _
        rw [show blA (bn + 1) (fun j => if m < j then ahB (fn l) bn j else if j = m then anB (fn l) bn m (m + 1) else false) = blA (bn + 1) fun j => if m + 1 ≤ j then ahB (fn l) bn j else false from blA_ext fun j _ => by
          by_cases hl : m < j
          · rw [if_pos hl, if_pos (show m + 1 ≤ j by omega)]
          · rw [if_neg hl, if_neg (show ¬ m + 1 ≤ j by omega), anB_start]; split <;> rfl]
        exact HW.out.2
      obtain ⟨⟨t1, k1, p1⟩, lb, off, hx1, rfl, hlb, -, -, -⟩ := Lg.at_ HL.out HN.out (show m < n by omega)
      have HX1 := Lib.hid (fn_at hx1)
      have HLB := Lib.hid hlb
      have HB1 := Lib.hid HW.out.1
      clear hz h0 hx1 hlb HW
      go_wp2_with fail
      go_loopw [7] (fun vm wrq => ∃ mm : Nat, vm = .int .i64 (mm : Int) ∧ m < mm ∧ mm ≤ bn + 1 ∧ Hid (Below w.heap.size w wrq ∧ Blk wrq w.heap.size (blA (bn + 1) (fun j => if m < j then ahB (fn l) bn j else if j = m then anB (fn l) bn m mm else false)) 4)) (fun vm _ => bn + 1 - (RowKit.intOf vm).toNat)
      case atStart => exact ⟨m + 1, by go_num, by omega, by omega, (show Hid _ from ⟨HB1.out, HI.out⟩)⟩
      case round =>
        obtain ⟨mm, rfl, hm1, hm2, HW2⟩ := hrel
        clear HB1 HI
        have x5 := HW2.out.2.cell m _ (blA_get (show m < bn + 1 by omega))
        rw [if_neg (Nat.lt_irrefl m), if_pos rfl] at x5
        by_cases hle : mm ≤ bn
        · have d1 : decide ((mm : Int) ≤ (bn : Int)) = true := by simpa using hle
          cases hA : anB (fn l) bn m mm with
          | true =>
            have HF : Hid (Blk wr w.heap.size (blA (bn + 1) fun j => if m ≤ j then ahB (fn l) bn j else false) 4) := by
              show Blk _ _ _ _
              have e : blA (bn + 1) (fun j => if m < j then ahB (fn l) bn j else if j = m then anB (fn l) bn m mm else false) = blA (bn + 1) fun j => if m ≤ j then ahB (fn l) bn j else false := blA_ext fun j _ => by
                by_cases e : m < j
                · rw [if_pos e, if_pos (show m ≤ j by omega)]
                · rw [if_neg e]
                  by_cases e2 : j = m
                  · rw [if_pos e2, if_pos (show m ≤ j by omega), e2, hA]; exact (anB_hit (by omega) hA hm2).symm
                  · rw [if_neg e2, if_neg (show ¬ m ≤ j by omega)]
              have h := HW2.out.2
              rw [e] at h
              exact h
            rw [hA] at x5
            have HBF := Lib.hid HW2.out.1
            clear hA
            go_wp2_with fail
            go_roundw
            case rel => exact ⟨(m : Int) - 1, m, by go_num, rfl, by omega, (show Hid _ from ⟨HBF.out, HF.out⟩)⟩
            case measure => simp [RowKit.intOf]
          | false =>
            obtain ⟨⟨t2, k2, p2⟩, lb', off', hx2, ea, -, z0, z1, z2⟩ := Lg.at_ (HL.out.below HW2.out.1) HN.out (show mm < n by omega)
            injection ea with ea
            injection ea with ea1 ea2
            subst ea1 ea2
            obtain ⟨⟨t1', k1', p1'⟩, lb', off', hx1, ea, -, y0, y1, y2⟩ := Lg.at_ (HL.out.below HW2.out.1) HN.out (show m < n by omega)
            injection ea with ea
            injection ea with ea1 ea2
            subst ea1 ea2
            have e1 := fn_at hx1
            rw [HX1.out] at e1
            injection e1 with e1 e2 e3
            subst e1 e2 e3
            dsimp only at y0 y1 y2 z0 z1 z2
            have HX2 := Lib.hid (fn_at hx2)
            have HLB2 : Hid (lb < wr.heap.size) := Nat.lt_of_lt_of_le HLB.out HW2.out.1.size
            have HGL := Lib.hid HW2.out.2.lt
            have hst := anB_step (f := fn l) (b := bn) hm1
            rw [hA, Bool.false_or, HX1.out, HX2.out] at hst
            have x0 := HW2.out.2.cell mm _ (blA_get (show mm < bn + 1 by omega))
            rw [if_pos hm1] at x0
            rw [hA] at x5
            clear hx1 hx2 hA
            cases hB : ahB (fn l) bn mm with
            | true =>
              rw [hB, Bool.true_and] at hst
              rw [hB] at x0
              have HAN := Lib.hid hst.symm
              clear hst hB
              go_wp2_with fail
              refine region_e (S := (fun w' => w'.cell? ⟨w.heap.size, mm, none⟩ = some (.bool true) ∧ w'.cell? ⟨lb, off + m * 3, none⟩ = some (.int .i64 t1) ∧ w'.cell? ⟨lb, off + m * 3 + 1, none⟩ = some (.int .i64 k1) ∧ w'.cell? ⟨lb, off + m * 3 + 2, none⟩ = some (.int .i64 p1) ∧ w'.cell? ⟨lb, off + mm * 3, none⟩ = some (.int .i64 t2) ∧ w'.cell? ⟨lb, off + mm * 3 + 1, none⟩ = some (.int .i64 k2) ∧ w'.cell? ⟨lb, off + mm * 3 + 2, none⟩ = some (.int .i64 p2) ∧ Hid (Blk w' w.heap.size (blA (bn + 1) (fun j => if m < j then ahB (fn l) bn j else if j = m then anB (fn l) bn m (mm) else false)) 4) ∧ Hid (Below w.heap.size w w'))) 18 (by kernel_rfl) (⟨x0, y0, y1, y2, z0, z1, z2, (show Hid _ from HW2.out.2.drew), (show Hid _ from HW2.out.1.drew)⟩) (fun hH => ?_)
              refine anyE_take (i := 0) (oi := ⟨some 34, _, _, _, _, _⟩) (v := ?v1001) rfl (by kernel_rfl) (by kernel_rfl) (by kernel_rfl) (by kernel_rfl) (fun _ _ _ h => h) (Or.inl ⟨rfl, ?c1001⟩) hH ?r1001
              case c1001 => (intro w' _; go_simp; (try with_reducible rfl))
              try simp only [Act.put, List.setIfInBounds_toArray, List.set_cons_zero, List.set_cons_succ]
              refine anyE_take (i := 1) (oi := ⟨some 35, _, _, _, _, _⟩) (v := ?v1002) rfl (by kernel_rfl) (by kernel_rfl) (by kernel_rfl) (by kernel_rfl) (fun _ _ _ h => h) (Or.inl ⟨rfl, ?c1002⟩) hH ?r1002
              case c1002 => (intro w' _; go_simp; (try with_reducible rfl))
              try simp only [Act.put, List.setIfInBounds_toArray, List.set_cons_zero, List.set_cons_succ]
              refine anyE_take (i := 2) (oi := ⟨some 36, _, _, _, _, _⟩) (v := ?v1003) rfl (by kernel_rfl) (by kernel_rfl) (by kernel_rfl) (by kernel_rfl) (fun _ _ _ h => h) (Or.inl ⟨rfl, ?c1003⟩) hH ?r1003
              case c1003 => (intro w' _; go_simp; (try with_reducible rfl))
              try simp only [Act.put, List.setIfInBounds_toArray, List.set_cons_zero, List.set_cons_succ]
              refine anyE_take (i := 3) (oi := ⟨some 37, _, _, _, _, _⟩) (v := ?v1004) rfl (by kernel_rfl) (by kernel_rfl) (by kernel_rfl) (by kernel_rfl) (fun _ _ _ h => h) (Or.inl ⟨rfl, ?c1004⟩) hH ?r1004
              case c1004 => (intro w' _; go_simp; (try with_reducible rfl))
              try simp only [Act.put, List.setIfInBounds_toArray, List.set_cons_zero, List.set_cons_succ]
              refine anyE_take (i := 4) (oi := ⟨some 38, _, _, _, _, _⟩) (v := ?v1005) rfl (by kernel_rfl) (by kernel_rfl) (by kernel_rfl) (by kernel_rfl) (fun _ _ _ h => h) (Or.inl ⟨rfl, ?c1005⟩) hH ?r1005
              case c1005 => (intro w' _; go_simp; first | (with_reducible rfl) | (rw [if_pos (by omega)]))
              try simp only [Act.put, List.setIfInBounds_toArray, List.set_cons_zero, List.set_cons_succ]
              refine anyE_take (i := 5) (oi := ⟨some 39, _, _, _, _, _⟩) (v := ?v1006) rfl (by kernel_rfl) (by kernel_rfl) (by kernel_rfl) (by kernel_rfl) (fun _ _ _ h => h) (Or.inl ⟨rfl, ?c1006⟩) hH ?r1006
              case c1006 => (intro w' hS; (try dsimp only at hS); go_simp; (try with_reducible rfl))
              try simp only [Act.put, List.setIfInBounds_toArray, List.set_cons_zero, List.set_cons_succ]
              refine anyE_take (i := 6) (oi := ⟨some 40, _, _, _, _, _⟩) (v := ?v1007) rfl (by kernel_rfl) (by kernel_rfl) (by kernel_rfl) (by kernel_rfl) (fun _ _ _ h => h) (Or.inl ⟨rfl, ?c1007⟩) hH ?r1007
              case c1007 => (intro w' _; go_simp; (try with_reducible rfl))
              try simp only [Act.put, List.setIfInBounds_toArray, List.set_cons_zero, List.set_cons_succ]
              refine anyE_take (i := 7) (oi := ⟨some 41, _, _, _, _, _⟩) (v := ?v1008) rfl (by kernel_rfl) (by kernel_rfl) (by kernel_rfl) (by kernel_rfl) (fun _ _ _ h => h) (Or.inl ⟨rfl, ?c1008⟩) hH ?r1008
              case c1008 => (intro w' _; go_simp; (try with_reducible rfl))
              try simp only [Act.put, List.setIfInBounds_toArray, List.set_cons_zero, List.set_cons_succ]
              refine anyE_take (i := 8) (oi := ⟨some 42, _, _, _, _, _⟩) (v := ?v1009) rfl (by kernel_rfl) (by kernel_rfl) (by kernel_rfl) (by kernel_rfl) (fun _ _ _ h => h) (Or.inl ⟨rfl, ?c1009⟩) hH ?r1009
              case c1009 => (intro w' _; go_simp; (try with_reducible rfl))
              try simp only [Act.put, List.setIfInBounds_toArray, List.set_cons_zero, List.set_cons_succ]
              refine anyE_take (i := 9) (oi := ⟨some 43, _, _, _, _, _⟩) (v := ?v1010) rfl (by kernel_rfl) (by kernel_rfl) (by kernel_rfl) (by kernel_rfl) (fun _ _ _ h => h) (Or.inl ⟨rfl, ?c1010⟩) hH ?r1010
              case c1010 => (intro w' _; go_simp; first | (with_reducible rfl) | (rw [if_pos (by omega)]))
              try simp only [Act.put, List.setIfInBounds_toArray, List.set_cons_zero, List.set_cons_succ]
              refine anyE_take (i := 10) (oi := ⟨some 44, _, _, _, _, _⟩) (v := ?v1011) rfl (by kernel_rfl) (by kernel_rfl) (by kernel_rfl) (by kernel_rfl) (fun _ _ _ h => h) (Or.inl ⟨rfl, ?c1011⟩) hH ?r1011
              case c1011 => (intro w' hS; (try dsimp only at hS); go_simp; (try with_reducible rfl))
              try simp only [Act.put, List.setIfInBounds_toArray, List.set_cons_zero, List.set_cons_succ]
              refine anyE_take (i := 11) (oi := ⟨some 45, _, _, _, _, _⟩) (v := ?v1012) rfl (by kernel_rfl) (by kernel_rfl) (by kernel_rfl) (by kernel_rfl) (fun _ _ _ h => h) (Or.inl ⟨rfl, ?c1012⟩) hH ?r1012
              case c1012 => (intro w' _; go_simp; (try with_reducible rfl))
              try simp only [Act.put, List.setIfInBounds_toArray, List.set_cons_zero, List.set_cons_succ]
              refine anyE_take (i := 12) (oi := ⟨some 46, _, _, _, _, _⟩) (v := ?v1013) rfl (by kernel_rfl) (by kernel_rfl) (by kernel_rfl) (by kernel_rfl) (fun _ _ _ h => h) (Or.inl ⟨rfl, ?c1013⟩) hH ?r1013
              case c1013 => (intro w' _; go_simp; (try with_reducible rfl))
              try simp only [Act.put, List.setIfInBounds_toArray, List.set_cons_zero, List.set_cons_succ]
              refine anyE_take (i := 13) (oi := ⟨some 47, _, _, _, _, _⟩) (v := ?v1014) rfl (by kernel_rfl) (by kernel_rfl) (by kernel_rfl) (by kernel_rfl) (fun _ _ _ h => h) (Or.inl ⟨rfl, ?c1014⟩) hH ?r1014
              case c1014 => (intro w' _; go_simp; first | (with_reducible rfl) | (rw [if_pos (by omega)]))
              try simp only [Act.put, List.setIfInBounds_toArray, List.set_cons_zero, List.set_cons_succ]
              refine anyE_take (i := 14) (oi := ⟨some 48, _, _, _, _, _⟩) (v := ?v1015) rfl (by kernel_rfl) (by kernel_rfl) (by kernel_rfl) (by kernel_rfl) (fun _ _ _ h => h) (Or.inl ⟨rfl, ?c1015⟩) hH ?r1015
              case c1015 => (intro w' hS; (try dsimp only at hS); go_simp; (try with_reducible rfl))
              try simp only [Act.put, List.setIfInBounds_toArray, List.set_cons_zero, List.set_cons_succ]
              refine anyE_ready (rs := [15]) (by kernel_rfl) (by simp) (AllE.cons rfl (fun K hK => ?_) (AllE.nil))
              go_simp
              go_at_call 22
              refine (right_any ⟨t1, k1, p1⟩ ⟨t2, k2, p2⟩ _).mono ?_
              rintro e w9 ⟨rfl, hb9⟩
              refine hK.out _ _ (⟨(hb9.cell (p := ⟨w.heap.size, mm, none⟩) HGL.out).trans hH.1, ((hb9.cell (p := ⟨lb, off + m * 3, none⟩) HLB2.out)).trans hH.2.1, ((hb9.cell (p := ⟨lb, off + m * 3 + 1, none⟩) HLB2.out)).trans hH.2.2.1, ((hb9.cell (p := ⟨lb, off + m * 3 + 2, none⟩) HLB2.out)).trans hH.2.2.2.1, ((hb9.cell (p := ⟨lb, off + mm * 3, none⟩) HLB2.out)).trans hH.2.2.2.2.1, ((hb9.cell (p := ⟨lb, off + mm * 3 + 1, none⟩) HLB2.out)).trans hH.2.2.2.2.2.1, ((hb9.cell (p := ⟨lb, off + mm * 3 + 2, none⟩) HLB2.out)).trans hH.2.2.2.2.2.2.1, (show Hid _ from hH.2.2.2.2.2.2.2.1.out.next hb9), (show Hid _ from hH.2.2.2.2.2.2.2.2.out.trans (hb9.mono hH.2.2.2.2.2.2.2.2.out.size))⟩) (fun hH => ?_)
              clear hK K
              clear hb9
              try simp only [Act.put, List.setIfInBounds_toArray, List.set_cons_zero, List.set_cons_succ]
              refine anyE_take (i := 16) (oi := ⟨some 50, _, _, _, _, _⟩) (v := ?v1016) rfl (by kernel_rfl) (by kernel_rfl) (by kernel_rfl) (by kernel_rfl) (fun _ _ _ h => h) (Or.inl ⟨rfl, ?c1016⟩) hH ?r1016
              case c1016 => (intro w' _; go_simp; (try with_reducible rfl))
              try simp only [Act.put, List.setIfInBounds_toArray, List.set_cons_zero, List.set_cons_succ]
              refine anyE_take (i := 17) (oi := ⟨some 51, _, _, _, _, _⟩) (v := ?v1017) rfl (by kernel_rfl) (by kernel_rfl) (by kernel_rfl) (by kernel_rfl) (fun _ _ _ h => h) (Or.inl ⟨rfl, ?c1017⟩) hH ?r1017
              case c1017 => (intro w' _; go_simp; first | (with_reducible rfl) | (rw [if_pos (by omega)]))
              try simp only [Act.put, List.setIfInBounds_toArray, List.set_cons_zero, List.set_cons_succ]
              refine anyE_ready (rs := [18]) (by kernel_rfl) (by simp) (AllE.end_ rfl (fun K hK => ?_))
              have hbk := hH.2.2.2.2.2.2.2.1.out
              have hbe := hH.2.2.2.2.2.2.2.2.out
              have f5 := hbk.frozen m
              have x5 := hbk.cell m _ (blA_get (show m < bn + 1 by omega))
              have HBK := Lib.hid hbk
              have HBE := Lib.hid hbe
              clear hbk hbe
              go_simp
              refine hK.out _ _ ?_
              clear hK K
              clear hH f5 x5
              try simp only [Act.put, List.setIfInBounds_toArray, List.set_cons_zero, List.set_cons_succ]
              refine anyE_done (by kernel_rfl) ?_ _
              have HNX : Hid (∀ w5, Blk w5 w.heap.size (blA (bn + 1) (fun j => if m < j then ahB (fn l) bn j else if j = m then anB (fn l) bn m (mm) else false)) 4 → Blk (w5.setCell ⟨w.heap.size, m, none⟩ (.bool (rtB ⟨t1, k1, p1⟩ ⟨t2, k2, p2⟩))) w.heap.size (blA (bn + 1) (fun j => if m < j then ahB (fn l) bn j else if j = m then anB (fn l) bn m (mm + 1) else false)) 4) := fun w5 h5 => h5.set' m _ ((blA_set (by omega) _).trans (blA_ext fun j _ => by
                by_cases e : j = m
                · subst e
                  rw [if_pos rfl, if_neg (Nat.lt_irrefl _), if_pos rfl]
                  exact HAN.out
                · rw [if_neg e]
                  by_cases hl : m < j
                  · rw [if_pos hl, if_pos hl]
                  · rw [if_neg hl, if_neg hl, if_neg e, if_neg e]))
              have HFX := Lib.hid (HNX.out _ HBK.out)
              have HFB := Lib.hid (HBE.out.setCell (p := ⟨w.heap.size, m, none⟩) (Nat.le_refl _) (.bool (rtB ⟨t1, k1, p1⟩ ⟨t2, k2, p2⟩)))
              clear HBK HBE HNX
              go_wp2_with fail
              go_roundw
              case rel => exact ⟨mm + 1, by go_num, by omega, by omega, (show Hid _ from ⟨HFB.out, HFX.out⟩)⟩
              case measure => simp [RowKit.intOf]; omega
            | false =>
              rw [hB, Bool.false_and] at hst
              rw [hB] at x0
              have HAN := Lib.hid hst.symm
              clear hst hB
              go_wp2_with fail
              refine region_e (S := (fun w' => w'.cell? ⟨w.heap.size, mm, none⟩ = some (.bool false) ∧ w'.cell? ⟨lb, off + m * 3, none⟩ = some (.int .i64 t1) ∧ w'.cell? ⟨lb, off + m * 3 + 1, none⟩ = some (.int .i64 k1) ∧ w'.cell? ⟨lb, off + m * 3 + 2, none⟩ = some (.int .i64 p1) ∧ w'.cell? ⟨lb, off + mm * 3, none⟩ = some (.int .i64 t2) ∧ w'.cell? ⟨lb, off + mm * 3 + 1, none⟩ = some (.int .i64 k2) ∧ w'.cell? ⟨lb, off + mm * 3 + 2, none⟩ = some (.int .i64 p2) ∧ Hid (Blk w' w.heap.size (blA (bn + 1) (fun j => if m < j then ahB (fn l) bn j else if j = m then anB (fn l) bn m (mm) else false)) 4) ∧ Hid (Below w.heap.size w w'))) 18 (by kernel_rfl) (⟨x0, y0, y1, y2, z0, z1, z2, (show Hid _ from HW2.out.2.drew), (show Hid _ from HW2.out.1.drew)⟩) (fun hH => ?_)
              refine anyE_take (i := 0) (oi := ⟨some 34, _, _, _, _, _⟩) (v := ?v2001) rfl (by kernel_rfl) (by kernel_rfl) (by kernel_rfl) (by kernel_rfl) (fun _ _ _ h => h) (Or.inl ⟨rfl, ?c2001⟩) hH ?r2001
              case c2001 => (intro w' _; go_simp; (try with_reducible rfl))
              try simp only [Act.put, List.setIfInBounds_toArray, List.set_cons_zero, List.set_cons_succ]
              refine anyE_take (i := 1) (oi := ⟨some 35, _, _, _, _, _⟩) (v := ?v2002) rfl (by kernel_rfl) (by kernel_rfl) (by kernel_rfl) (by kernel_rfl) (fun _ _ _ h => h) (Or.inl ⟨rfl, ?c2002⟩) hH ?r2002
              case c2002 => (intro w' _; go_simp; (try with_reducible rfl))
              try simp only [Act.put, List.setIfInBounds_toArray, List.set_cons_zero, List.set_cons_succ]
              refine anyE_take (i := 2) (oi := ⟨some 36, _, _, _, _, _⟩) (v := ?v2003) rfl (by kernel_rfl) (by kernel_rfl) (by kernel_rfl) (by kernel_rfl) (fun _ _ _ h => h) (Or.inl ⟨rfl, ?c2003⟩) hH ?r2003
              case c2003 => (intro w' _; go_simp; (try with_reducible rfl))
              try simp only [Act.put, List.setIfInBounds_toArray, List.set_cons_zero, List.set_cons_succ]
              refine anyE_take (i := 3) (oi := ⟨some 37, _, _, _, _, _⟩) (v := ?v2004) rfl (by kernel_rfl) (by kernel_rfl) (by kernel_rfl) (by kernel_rfl) (fun _ _ _ h => h) (Or.inl ⟨rfl, ?c2004⟩) hH ?r2004
              case c2004 => (intro w' _; go_simp; (try with_reducible rfl))
              try simp only [Act.put, List.setIfInBounds_toArray, List.set_cons_zero, List.set_cons_succ]
              refine anyE_take (i := 4) (oi := ⟨some 38, _, _, _, _, _⟩) (v := ?v2005) rfl (by kernel_rfl) (by kernel_rfl) (by kernel_rfl) (by kernel_rfl) (fun _ _ _ h => h) (Or.inl ⟨rfl, ?c2005⟩) hH ?r2005
              case c2005 => (intro w' _; go_simp; first | (with_reducible rfl) | (rw [if_pos (by omega)]))
              try simp only [Act.put, List.setIfInBounds_toArray, List.set_cons_zero, List.set_cons_succ]
              refine anyE_take (i := 5) (oi := ⟨some 39, _, _, _, _, _⟩) (v := ?v2006) rfl (by kernel_rfl) (by kernel_rfl) (by kernel_rfl) (by kernel_rfl) (fun _ _ _ h => h) (Or.inl ⟨rfl, ?c2006⟩) hH ?r2006
              case c2006 => (intro w' hS; (try dsimp only at hS); go_simp; (try with_reducible rfl))
              try simp only [Act.put, List.setIfInBounds_toArray, List.set_cons_zero, List.set_cons_succ]
              refine anyE_take (i := 6) (oi := ⟨some 40, _, _, _, _, _⟩) (v := ?v2007) rfl (by kernel_rfl) (by kernel_rfl) (by kernel_rfl) (by kernel_rfl) (fun _ _ _ h => h) (Or.inl ⟨rfl, ?c2007⟩) hH ?r2007
              case c2007 => (intro w' _; go_simp; (try with_reducible rfl))
              try simp only [Act.put, List.setIfInBounds_toArray, List.set_cons_zero, List.set_cons_succ]
              refine anyE_take (i := 7) (oi := ⟨some 41, _, _, _, _, _⟩) (v := undef) rfl (by kernel_rfl) (by kernel_rfl) (by kernel_rfl) (by kernel_rfl) (fun _ _ _ h => h) (Or.inr ⟨rfl, rfl⟩) hH ?_
              try simp only [Act.put, List.setIfInBounds_toArray, List.set_cons_zero, List.set_cons_succ]
              refine anyE_take (i := 8) (oi := ⟨some 42, _, _, _, _, _⟩) (v := undef) rfl (by kernel_rfl) (by kernel_rfl) (by kernel_rfl) (by kernel_rfl) (fun _ _ _ h => h) (Or.inr ⟨rfl, rfl⟩) hH ?_
              try simp only [Act.put, List.setIfInBounds_toArray, List.set_cons_zero, List.set_cons_succ]
              refine anyE_take (i := 9) (oi := ⟨some 43, _, _, _, _, _⟩) (v := undef) rfl (by kernel_rfl) (by kernel_rfl) (by kernel_rfl) (by kernel_rfl) (fun _ _ _ h => h) (Or.inr ⟨rfl, rfl⟩) hH ?_
              try simp only [Act.put, List.setIfInBounds_toArray, List.set_cons_zero, List.set_cons_succ]
              refine anyE_take (i := 10) (oi := ⟨some 44, _, _, _, _, _⟩) (v := undef) rfl (by kernel_rfl) (by kernel_rfl) (by kernel_rfl) (by kernel_rfl) (fun _ _ _ h => h) (Or.inr ⟨rfl, rfl⟩) hH ?_
              try simp only [Act.put, List.setIfInBounds_toArray, List.set_cons_zero, List.set_cons_succ]
              refine anyE_take (i := 11) (oi := ⟨some 45, _, _, _, _, _⟩) (v := undef) rfl (by kernel_rfl) (by kernel_rfl) (by kernel_rfl) (by kernel_rfl) (fun _ _ _ h => h) (Or.inr ⟨rfl, rfl⟩) hH ?_
              try simp only [Act.put, List.setIfInBounds_toArray, List.set_cons_zero, List.set_cons_succ]
              refine anyE_take (i := 12) (oi := ⟨some 46, _, _, _, _, _⟩) (v := undef) rfl (by kernel_rfl) (by kernel_rfl) (by kernel_rfl) (by kernel_rfl) (fun _ _ _ h => h) (Or.inr ⟨rfl, rfl⟩) hH ?_
              try simp only [Act.put, List.setIfInBounds_toArray, List.set_cons_zero, List.set_cons_succ]
              refine anyE_take (i := 13) (oi := ⟨some 47, _, _, _, _, _⟩) (v := undef) rfl (by kernel_rfl) (by kernel_rfl) (by kernel_rfl) (by kernel_rfl) (fun _ _ _ h => h) (Or.inr ⟨rfl, rfl⟩) hH ?_
              try simp only [Act.put, List.setIfInBounds_toArray, List.set_cons_zero, List.set_cons_succ]
              refine anyE_take (i := 14) (oi := ⟨some 48, _, _, _, _, _⟩) (v := undef) rfl (by kernel_rfl) (by kernel_rfl) (by kernel_rfl) (by kernel_rfl) (fun _ _ _ h => h) (Or.inr ⟨rfl, rfl⟩) hH ?_
              try simp only [Act.put, List.setIfInBounds_toArray, List.set_cons_zero, List.set_cons_succ]
              refine anyE_take (i := 15) (oi := ⟨some 49, _, _, _, _, _⟩) (v := undef) rfl (by kernel_rfl) (by kernel_rfl) (by kernel_rfl) (by kernel_rfl) (fun _ _ _ h => h) (Or.inr ⟨rfl, rfl⟩) hH ?_
              try simp only [Act.put, List.setIfInBounds_toArray, List.set_cons_zero, List.set_cons_succ]
              refine anyE_take (i := 16) (oi := ⟨some 50, _, _, _, _, _⟩) (v := ?v2017) rfl (by kernel_rfl) (by kernel_rfl) (by kernel_rfl) (by kernel_rfl) (fun _ _ _ h => h) (Or.inl ⟨rfl, ?c2017⟩) hH ?r2017
              case c2017 => (intro w' _; go_simp; (try with_reducible rfl))
              try simp only [Act.put, List.setIfInBounds_toArray, List.set_cons_zero, List.set_cons_succ]
              refine anyE_take (i := 17) (oi := ⟨some 51, _, _, _, _, _⟩) (v := ?v2018) rfl (by kernel_rfl) (by kernel_rfl) (by kernel_rfl) (by kernel_rfl) (fun _ _ _ h => h) (Or.inl ⟨rfl, ?c2018⟩) hH ?r2018
              case c2018 => (intro w' _; go_simp; first | (with_reducible rfl) | (rw [if_pos (by omega)]))
              try simp only [Act.put, List.setIfInBounds_toArray, List.set_cons_zero, List.set_cons_succ]
              refine anyE_ready (rs := [18]) (by kernel_rfl) (by simp) (AllE.end_ rfl (fun K hK => ?_))
              have hbk := hH.2.2.2.2.2.2.2.1.out
              have hbe := hH.2.2.2.2.2.2.2.2.out
              have f5 := hbk.frozen m
              have x5 := hbk.cell m _ (blA_get (show m < bn + 1 by omega))
              have HBK := Lib.hid hbk
              have HBE := Lib.hid hbe
              clear hbk hbe
              go_simp
              refine hK.out _ _ ?_
              clear hK K
              clear hH f5 x5
              try simp only [Act.put, List.setIfInBounds_toArray, List.set_cons_zero, List.set_cons_succ]
              refine anyE_done (by kernel_rfl) ?_ _
              have HNX : Hid (∀ w5, Blk w5 w.heap.size (blA (bn + 1) (fun j => if m < j then ahB (fn l) bn j else if j = m then anB (fn l) bn m (mm) else false)) 4 → Blk (w5.setCell ⟨w.heap.size, m, none⟩ (.bool (false))) w.heap.size (blA (bn + 1) (fun j => if m < j then ahB (fn l) bn j else if j = m then anB (fn l) bn m (mm + 1) else false)) 4) := fun w5 h5 => h5.set' m _ ((blA_set (by omega) _).trans (blA_ext fun j _ => by
                by_cases e : j = m
                · subst e
                  rw [if_pos rfl, if_neg (Nat.lt_irrefl _), if_pos rfl]
                  exact HAN.out
                · rw [if_neg e]
                  by_cases hl : m < j
                  · rw [if_pos hl, if_pos hl]
                  · rw [if_neg hl, if_neg hl, if_neg e, if_neg e]))
              have HFX := Lib.hid (HNX.out _ HBK.out)
              have HFB := Lib.hid (HBE.out.setCell (p := ⟨w.heap.size, m, none⟩) (Nat.le_refl _) (.bool (false)))
              clear HBK HBE HNX
              go_wp2_with fail
              go_roundw
              case rel => exact ⟨mm + 1, by go_num, by omega, by omega, (show Hid _ from ⟨HFB.out, HFX.out⟩)⟩
              case measure => simp [RowKit.intOf]; omega
        · have d1 : decide ((mm : Int) ≤ (bn : Int)) = false := by simpa using hle
          obtain rfl : mm = bn + 1 := by omega
          have HF : Hid (Blk wr w.heap.size (blA (bn + 1) fun j => if m ≤ j then ahB (fn l) bn j else false) 4) := by
            show Blk _ _ _ _
            have e : blA (bn + 1) (fun j => if m < j then ahB (fn l) bn j else if j = m then anB (fn l) bn m (bn + 1) else false) = blA (bn + 1) fun j => if m ≤ j then ahB (fn l) bn j else false := blA_ext fun j _ => by
              by_cases e : m < j
              · rw [if_pos e, if_pos (show m ≤ j by omega)]
              · rw [if_neg e]
                by_cases e2 : j = m
                · rw [if_pos e2, if_pos (show m ≤ j by omega), e2, anB_end (by omega)]
                · rw [if_neg e2, if_neg (show ¬ m ≤ j by omega)]
            have h := HW2.out.2
            rw [e] at h
            exact h
          have HBF := Lib.hid HW2.out.1
          go_wp2_with fail
          go_roundw
          case rel => exact ⟨(m : Int) - 1, m, by go_num, rfl, by omega, (show Hid _ from ⟨HBF.out, HF.out⟩)⟩
          case measure => simp [RowKit.intOf]
end Rc
end Go.Proofs.Ytalclmfnalmphaa
