/- Layer 24: the reference: Before, Find. (Written by wip/tools/mkRacS.py.) -/
import Derived.Test.YtalclmfnalmphaaRacR
set_option linter.unusedVariables false
set_option linter.unusedSimpArgs false
set_option maxRecDepth 100000
namespace Go.Proofs.Ytalclmfnalmphaa
open Go.ChangeShapes Go.WideShapes Go.ChangeAt Go.RowKit Go.Mtl Go.Lib
namespace Rc
open RcM
open Classical in
theorem ahB_is {f : Nat → A} {n a b : Nat} (h : a < b) (hb : b < n) : ahB f b a = beB f n (a : Int) (b : Int) := by
  unfold ahB beB
  rw [Bool.eq_iff_iff, decide_eq_true_iff, decide_eq_true_iff]
  constructor
  · rintro (e | e)
    · omega
    · exact ⟨by omega, by omega, by omega, e⟩
  · rintro ⟨_, _, _, e⟩; exact .inr e
open Classical in
theorem ahB_yes {f : Nat → A} {a b : Nat} (h : a < b) (e : ahB f b a = true) : Hb f a b := by
  unfold ahB at e
  rcases of_decide_eq_true e with h1 | h1
  · omega
  · exact h1
open Classical in
theorem ahB_not {f : Nat → A} {a b : Nat} (e : ahB f b a = false) : ¬ Hb f a b := by
  unfold ahB at e
  exact fun h => of_decide_eq_false e (.inr h)
set_option maxHeartbeats 2000000 in
theorem refBefore_any (v : Value) (l : List A) (w : World) (h : Lg w w.heap.size v l) (h60 : l.length ≤ 60) (a b : Int) : Calls Try.prog 11 #[v, .int .i64 a, .int .i64 b] w fun e w' => e = .returned (.bool (beB (fn l) l.length a b)) ∧ Below w.heap.size w w' := by
  obtain ⟨A0, c, rfl, hc1, hc2⟩ := h.len
  have HA := fun (bn : Nat) (hb : bn < l.length) => Lib.hid (ahead_any _ l w h bn hb h60)
  have HH := Lib.hid HA
  obtain ⟨n, hn⟩ : ∃ n, l.length = n := ⟨_, rfl⟩
  rw [hn] at HH ⊢
  clear h HA hc1 h60 hn
  by_cases ha : a < 0
  · have HF := Lib.hid (beB_out (f := fn l) (n := n) (a := a) (b := b) (.inl ha))
    have d0 : decide (a < 0) = true := decide_eq_true ha
    clear ha
    go_in
    go_wp2_with fail
    go_ret
    exact ⟨by rw [HF.out]; rfl, Below.refl _ _⟩
  have d0 : decide (a < 0) = false := decide_eq_false ha
  by_cases hbn : (n : Int) ≤ b
  · have HF := Lib.hid (beB_out (f := fn l) (n := n) (a := a) (b := b) (.inr (.inr hbn)))
    have d2 : decide (b ≥ (n : Int)) = true := decide_eq_true hbn
    clear ha hbn
    go_in
    go_wp2_with fail
    go_ret
    exact ⟨by rw [HF.out]; rfl, Below.refl _ _⟩
  have d2 : decide (b ≥ (n : Int)) = false := decide_eq_false hbn
  by_cases hab : b ≤ a
  · have HF := Lib.hid (beB_out (f := fn l) (n := n) (a := a) (b := b) (.inr (.inl hab)))
    have d1 : decide (a ≥ b) = true := decide_eq_true hab
    clear ha hab hbn
    go_in
    go_wp2_with fail
    go_ret
    exact ⟨by rw [HF.out]; rfl, Below.refl _ _⟩
  have d1 : decide (a ≥ b) = false := decide_eq_false hab
  obtain ⟨an, rfl⟩ : ∃ q : Nat, a = (q : Int) := ⟨a.toNat, by omega⟩
  obtain ⟨bn, rfl⟩ : ∃ q : Nat, b = (q : Int) := ⟨b.toNat, by omega⟩
  have l1 : an < bn := by omega
  have l2 : bn < n := by omega
  have HF := Lib.hid (ahB_is (f := fn l) l1 l2)
  clear ha hab hbn
  go_in
  go_wp2_with fail
  go_at_call 16
  refine (HH.out bn l2).out.mono ?_
  rintro e w2 ⟨rfl, hk, hb2⟩
  have HB2 := Lib.hid hb2
  have y0 := hk.cell an _ (blA_get (by omega))
  clear hk hb2
  go_wp2_with fail
  go_ret
  exact ⟨by rw [← HF.out]; rfl, HB2.out⟩
theorem no_kind {f : Nat → A} {j : Nat} (h : plB (f j) = false) (q : Nat) : ¬ Ra f q j := fun hr => by
  unfold plB at h
  rcases hr.2.2.2.1 with e | e <;> (rw [e] at h; cases h)
theorem no_kind' {f : Nat → A} {j q : Nat} (h : plB (f q) = false) : ¬ Ra f q j := fun hr => by
  unfold plB at h
  rcases hr.2.2.1 with e | e <;> (rw [e] at h; cases h)
theorem plB_kinds {x : A} (h : plB x = true) : x.k = 5 ∨ x.k = 6 := by
  unfold plB at h
  simpa using h
set_option maxHeartbeats 8000000 in
theorem refFind_any (v : Value) (l : List A) (w : World) (h : Lg w w.heap.size v l) (h60 : l.length ≤ 60) : Calls Try.prog 8 #[v] w (Found l w) := by
  obtain ⟨A0, c, rfl, hc1, hc2⟩ := h.len
  obtain ⟨n, hn⟩ : ∃ n, l.length = n := ⟨_, rfl⟩
  have h : Rd w w.heap.size 3 l.length (.slice A0 l.length c) (avs l) := h
  rw [hn] at h hc1 h60 ⊢
  have HN := Lib.hid hn
  have HL := Lib.hid h
  clear h hn
  go_in
  go_wp2_with fail
  go_loop [4] (fun vk => ∃ k : Nat, vk = .int .i64 (k : Int) ∧ k ≤ n ∧ Hid (∀ j, j < k → 0 ≤ (fn l j).t ∧ (fn l j).t ≤ 63)) (fun vk => n - (RowKit.intOf vk).toNat)
  case atStart => exact ⟨0, rfl, by omega, (show Hid _ from fun j hj => absurd hj (Nat.not_lt_zero j))⟩
  case round =>
    obtain ⟨k, rfl, hk, HR⟩ := hrel
    by_cases hlt : k < n
    · obtain ⟨⟨t, kd, pl⟩, b, off, hx, rfl, hb, y0, y1, y2⟩ := Lg.at_ HL.out HN.out hlt
      have HX := Lib.hid hx
      dsimp only at y0 y1 y2
      clear hx hb
      by_cases h0 : t < 0
      · have d0 : decide (t < 0) = true := by simpa using h0
        have HT : Hid (Tells (fn l) l.length 0 14) := by
          refine .inl ⟨⟨k, by rw [HN.out]; exact hlt, .inl ?_⟩, rfl, rfl⟩
          rw [fn_at HX.out]; exact h0
        clear h0
        go_wp2_with fail
        go_ret2
        exact ⟨0, 14, rfl, HT.out, Below.refl _ _⟩
      · by_cases h1 : 63 < t
        · have d0 : decide (t < 0) = false := by simpa using h0
          have d1 : decide (t > 63) = true := by simpa using h1
          have HT : Hid (Tells (fn l) l.length 0 14) := by
            refine .inl ⟨⟨k, by rw [HN.out]; exact hlt, .inr ?_⟩, rfl, rfl⟩
            rw [fn_at HX.out]; exact h1
          clear h0 h1
          go_wp2_with fail
          go_ret2
          exact ⟨0, 14, rfl, HT.out, Below.refl _ _⟩
        · have d0 : decide (t < 0) = false := by simpa using h0
          have d1 : decide (t > 63) = false := by simpa using h1
          have HR2 : Hid (∀ j, j < k + 1 → 0 ≤ (fn l j).t ∧ (fn l j).t ≤ 63) := fun j hj => by
            by_cases e : j = k
            · subst e; rw [fn_at HX.out]; show 0 ≤ t ∧ t ≤ 63; omega
            · exact HR.out j (by omega)
          clear h0 h1
          go_wp2_with fail
          go_round
          case rel => exact ⟨k + 1, by go_num, by omega, HR2⟩
          case measure => simp [RowKit.intOf]; omega
    · obtain rfl : k = n := by omega
      have HBAD' : Hid (∀ j, j < l.length → 0 ≤ (fn l j).t ∧ (fn l j).t ≤ 63) := fun j hj => HR.out j (by rw [← HN.out]; exact hj)
      clear HR
      go_wp2_with fail
      go_loopw [5, 6, 7] (fun vj _ _ wr => ∃ j : Nat, vj = .int .i64 (j : Int) ∧ j ≤ k ∧ Hid (Below w.heap.size w wr ∧ ∀ q, q < j → ∀ m, ¬ Ra (fn l) m q)) (fun vj _ _ _ => k - (RowKit.intOf vj).toNat)
      case atStart => exact ⟨0, rfl, by omega, (show Hid _ from ⟨Below.refl _ _, fun q hq => absurd hq (Nat.not_lt_zero q)⟩)⟩
      case round =>
        obtain ⟨j, rfl, hj, HR⟩ := hrel
        by_cases hjl : j < k
        · obtain ⟨⟨t2, k2, p2⟩, lb, off, hx2, rfl, hlb, z0, z1, z2⟩ := Lg.at_ (HL.out.below HR.out.1) HN.out hjl
          have HX2 := Lib.hid (fn_at hx2)
          have HLB := Lib.hid hlb
          dsimp only at z0 z1 z2
          clear hx2 hlb
          go_wp2_with fail
          go_at_call 15
          refine (plain_any ⟨t2, k2, p2⟩ wr).mono ?_
          rintro e w3 ⟨rfl, hb3⟩
          have HB3 := Lib.hid (HR.out.1.trans (hb3.mono HR.out.1.size))
          clear hb3 z0 z1 z2
          cases hPJ : plB ⟨t2, k2, p2⟩ with
          | false =>
            have HNX : Hid (∀ q, q < j + 1 → ∀ m, ¬ Ra (fn l) m q) := fun q hq m hm => by
              by_cases e : q = j
              · subst e; exact no_kind (by rw [HX2.out]; exact hPJ) m hm
              · exact HR.out.2 q (by omega) m hm
            clear hPJ
            go_wp2_with fail
            go_roundw
            case rel => exact ⟨j + 1, by go_num, by omega, (show Hid _ from ⟨HB3.out, HNX.out⟩)⟩
            case measure => simp [RowKit.intOf]; omega
          | true =>
            have HPJ : Hid (plB (fn l j) = true) := by show _ = _; rw [HX2.out]; exact hPJ
            have hlg : Lg w3 w3.heap.size (.slice (some ⟨lb, off, none⟩) k c) l := by
              show Rd _ _ _ l.length _ _
              rw [HN.out]
              exact (HL.out.below HB3.out).more HB3.out.size
            have HAH := Lib.hid (ahead_any _ l w3 hlg j (by rw [HN.out]; exact hjl) (by rw [HN.out]; exact h60))
            clear hPJ hlg
            go_wp2_with fail
            go_at_call 16
            refine HAH.out.mono ?_
            rintro e w4 ⟨rfl, hk4, hb4⟩
            have HB4 := Lib.hid (HB3.out.trans (hb4.mono HB3.out.size))
            have HK4 := Lib.hid hk4
            clear hk4 hb4 HAH
            go_wp2_with fail
            generalize w3.heap.size = g at *
            go_loopw [7] (fun vm wrq => ∃ m : Nat, vm = .int .i64 (m : Int) ∧ m ≤ j ∧ Hid (Below w.heap.size w wrq ∧ Blk wrq g (blA (j + 1) (ahB (fn l) j)) 4 ∧ ∀ q, q < m → ¬ Ra (fn l) q j)) (fun vm _ => j - (RowKit.intOf vm).toNat)
            case atStart => exact ⟨0, rfl, by omega, (show Hid _ from ⟨HB4.out, HK4.out, fun q hq => absurd hq (Nat.not_lt_zero q)⟩)⟩
            case round =>
              obtain ⟨m, rfl, hm, HW2⟩ := hrel
              by_cases hjm : m < j
              · obtain ⟨⟨t1, k1, p1⟩, lb', off', hx1, ea, -, y0, y1, y2⟩ := Lg.at_ (HL.out.below HW2.out.1) HN.out (show m < k by omega)
                injection ea with ea
                injection ea with ea1 ea2
                subst ea1 ea2
                obtain ⟨⟨t2', k2', p2'⟩, lb', off', hx2, ea, -, z0, z1, z2⟩ := Lg.at_ (HL.out.below HW2.out.1) HN.out hjl
                injection ea with ea
                injection ea with ea1 ea2
                subst ea1 ea2
                have e1 := fn_at hx2
                rw [HX2.out] at e1
                injection e1 with e1 e2 e3
                subst e1 e2 e3
                dsimp only at y0 y1 y2 z0 z1 z2
                have HX1 := Lib.hid (fn_at hx1)
                have HLB2 : Hid (lb < wr.heap.size) := Nat.lt_of_lt_of_le HLB.out HW2.out.1.size
                have HGL := Lib.hid HW2.out.2.1.lt
                have x0 := HW2.out.2.1.cell m _ (blA_get (show m < j + 1 by omega))
                clear hx1 hx2 HB3 HB4 HK4
                cases hPL : plB ⟨t1, k1, p1⟩ with
                | false =>
                  have HPL := Lib.hid hPL
                  have HNR : Hid (∀ q, q < m + 1 → ¬ Ra (fn l) q j) := fun q hq hr => by
                    by_cases e : q = m
                    · subst e
                      exact no_kind' (by rw [HX1.out]; exact HPL.out) hr
                    · exact HW2.out.2.2 q (by omega) hr
                  clear hPL
                  go_wp2_with fail
                  refine wp_region_held_drew (S := (fun w' => w'.cell? ⟨g, m, none⟩ = some (.bool (ahB (fn l) j m)) ∧ w'.cell? ⟨lb, off + m * 3, none⟩ = some (.int .i64 t1) ∧ w'.cell? ⟨lb, off + m * 3 + 1, none⟩ = some (.int .i64 k1) ∧ w'.cell? ⟨lb, off + m * 3 + 2, none⟩ = some (.int .i64 p1) ∧ w'.cell? ⟨lb, off + j * 3, none⟩ = some (.int .i64 t2) ∧ w'.cell? ⟨lb, off + j * 3 + 1, none⟩ = some (.int .i64 k2) ∧ w'.cell? ⟨lb, off + j * 3 + 2, none⟩ = some (.int .i64 p2) ∧ Hid (Blk w' g (blA (j + 1) (ahB (fn l) j)) 4) ∧ Hid (Below w.heap.size w w'))) (by kernel_rfl) (⟨x0, y0, y1, y2, z0, z1, z2, (show Hid _ from HW2.out.2.1.drew), (show Hid _ from HW2.out.1.drew)⟩) (fun hH => ?_)
                  refine wpAnyH_take (i := 0) (oi := ⟨some 48, _, _, _, _, _⟩) (v := ?v2001) rfl (by kernel_rfl) (by kernel_rfl) (by kernel_rfl) (fun _ _ _ h => h) (Or.inl ⟨rfl, ?c2001⟩) hH ?r2001
                  case c2001 => (intro w' _; go_simp; (try with_reducible rfl))
                  try simp only [Act.put, List.setIfInBounds_toArray, List.set_cons_zero, List.set_cons_succ]
                  refine wpAnyH_take (i := 1) (oi := ⟨some 49, _, _, _, _, _⟩) (v := ?v2002) rfl (by kernel_rfl) (by kernel_rfl) (by kernel_rfl) (fun _ _ _ h => h) (Or.inl ⟨rfl, ?c2002⟩) hH ?r2002
                  case c2002 => (intro w' _; go_simp; (try with_reducible rfl))
                  try simp only [Act.put, List.setIfInBounds_toArray, List.set_cons_zero, List.set_cons_succ]
                  refine wpAnyH_take (i := 2) (oi := ⟨some 50, _, _, _, _, _⟩) (v := ?v2003) rfl (by kernel_rfl) (by kernel_rfl) (by kernel_rfl) (fun _ _ _ h => h) (Or.inl ⟨rfl, ?c2003⟩) hH ?r2003
                  case c2003 => (intro w' _; go_simp; first | (with_reducible rfl) | (rw [if_pos (by omega)]))
                  try simp only [Act.put, List.setIfInBounds_toArray, List.set_cons_zero, List.set_cons_succ]
                  refine wpAnyH_take (i := 3) (oi := ⟨some 51, _, _, _, _, _⟩) (v := ?v2004) rfl (by kernel_rfl) (by kernel_rfl) (by kernel_rfl) (fun _ _ _ h => h) (Or.inl ⟨rfl, ?c2004⟩) hH ?r2004
                  case c2004 => (intro w' hS; (try dsimp only at hS); go_simp; (try with_reducible rfl))
                  try simp only [Act.put, List.setIfInBounds_toArray, List.set_cons_zero, List.set_cons_succ]
                  refine wpAnyH_ready (rs := [4]) (by kernel_rfl) (by simp) (AllReadyH.cons rfl (fun K hK => ?_) (AllReadyH.nil))
                  go_simp
                  go_at_call 15
                  refine (plain_any ⟨t1, k1, p1⟩ _).mono ?_
                  rintro e w9 ⟨rfl, hb9⟩
                  rw [HPL.out]
                  refine hK.out _ _ (⟨(hb9.cell (p := ⟨g, m, none⟩) HGL.out).trans hH.1, ((hb9.cell (p := ⟨lb, off + m * 3, none⟩) HLB2.out)).trans hH.2.1, ((hb9.cell (p := ⟨lb, off + m * 3 + 1, none⟩) HLB2.out)).trans hH.2.2.1, ((hb9.cell (p := ⟨lb, off + m * 3 + 2, none⟩) HLB2.out)).trans hH.2.2.2.1, ((hb9.cell (p := ⟨lb, off + j * 3, none⟩) HLB2.out)).trans hH.2.2.2.2.1, ((hb9.cell (p := ⟨lb, off + j * 3 + 1, none⟩) HLB2.out)).trans hH.2.2.2.2.2.1, ((hb9.cell (p := ⟨lb, off + j * 3 + 2, none⟩) HLB2.out)).trans hH.2.2.2.2.2.2.1, (show Hid _ from hH.2.2.2.2.2.2.2.1.out.next hb9), (show Hid _ from hH.2.2.2.2.2.2.2.2.out.trans (hb9.mono hH.2.2.2.2.2.2.2.2.out.size))⟩) (fun hH => ?_)
                  clear hK K
                  clear hb9
                  try simp only [Act.put, List.setIfInBounds_toArray, List.set_cons_zero, List.set_cons_succ]
                  refine wpAnyH_take (i := 5) (oi := ⟨some 53, _, _, _, _, _⟩) (v := ?v2005) rfl (by kernel_rfl) (by kernel_rfl) (by kernel_rfl) (fun _ _ _ h => h) (Or.inl ⟨rfl, ?c2005⟩) hH ?r2005
                  case c2005 => (intro w' _; go_simp; (try with_reducible rfl))
                  try simp only [Act.put, List.setIfInBounds_toArray, List.set_cons_zero, List.set_cons_succ]
                  refine wpAnyH_take (i := 6) (oi := ⟨some 54, _, _, _, _, _⟩) (v := undef) rfl (by kernel_rfl) (by kernel_rfl) (by kernel_rfl) (fun _ _ _ h => h) (Or.inr ⟨rfl, rfl⟩) hH ?_
                  try simp only [Act.put, List.setIfInBounds_toArray, List.set_cons_zero, List.set_cons_succ]
                  refine wpAnyH_take (i := 7) (oi := ⟨some 55, _, _, _, _, _⟩) (v := undef) rfl (by kernel_rfl) (by kernel_rfl) (by kernel_rfl) (fun _ _ _ h => h) (Or.inr ⟨rfl, rfl⟩) hH ?_
                  try simp only [Act.put, List.setIfInBounds_toArray, List.set_cons_zero, List.set_cons_succ]
                  refine wpAnyH_take (i := 8) (oi := ⟨some 56, _, _, _, _, _⟩) (v := undef) rfl (by kernel_rfl) (by kernel_rfl) (by kernel_rfl) (fun _ _ _ h => h) (Or.inr ⟨rfl, rfl⟩) hH ?_
                  try simp only [Act.put, List.setIfInBounds_toArray, List.set_cons_zero, List.set_cons_succ]
                  refine wpAnyH_take (i := 9) (oi := ⟨some 57, _, _, _, _, _⟩) (v := undef) rfl (by kernel_rfl) (by kernel_rfl) (by kernel_rfl) (fun _ _ _ h => h) (Or.inr ⟨rfl, rfl⟩) hH ?_
                  try simp only [Act.put, List.setIfInBounds_toArray, List.set_cons_zero, List.set_cons_succ]
                  refine wpAnyH_take (i := 10) (oi := ⟨some 58, _, _, _, _, _⟩) (v := undef) rfl (by kernel_rfl) (by kernel_rfl) (by kernel_rfl) (fun _ _ _ h => h) (Or.inr ⟨rfl, rfl⟩) hH ?_
                  try simp only [Act.put, List.setIfInBounds_toArray, List.set_cons_zero, List.set_cons_succ]
                  refine wpAnyH_take (i := 11) (oi := ⟨some 59, _, _, _, _, _⟩) (v := undef) rfl (by kernel_rfl) (by kernel_rfl) (by kernel_rfl) (fun _ _ _ h => h) (Or.inr ⟨rfl, rfl⟩) hH ?_
                  try simp only [Act.put, List.setIfInBounds_toArray, List.set_cons_zero, List.set_cons_succ]
                  refine wpAnyH_take (i := 12) (oi := ⟨some 60, _, _, _, _, _⟩) (v := undef) rfl (by kernel_rfl) (by kernel_rfl) (by kernel_rfl) (fun _ _ _ h => h) (Or.inr ⟨rfl, rfl⟩) hH ?_
                  try simp only [Act.put, List.setIfInBounds_toArray, List.set_cons_zero, List.set_cons_succ]
                  refine wpAnyH_take (i := 13) (oi := ⟨some 61, _, _, _, _, _⟩) (v := undef) rfl (by kernel_rfl) (by kernel_rfl) (by kernel_rfl) (fun _ _ _ h => h) (Or.inr ⟨rfl, rfl⟩) hH ?_
                  try simp only [Act.put, List.setIfInBounds_toArray, List.set_cons_zero, List.set_cons_succ]
                  refine wpAnyH_take (i := 14) (oi := ⟨some 62, _, _, _, _, _⟩) (v := undef) rfl (by kernel_rfl) (by kernel_rfl) (by kernel_rfl) (fun _ _ _ h => h) (Or.inr ⟨rfl, rfl⟩) hH ?_
                  try simp only [Act.put, List.setIfInBounds_toArray, List.set_cons_zero, List.set_cons_succ]
                  refine wpAnyH_take (i := 15) (oi := ⟨some 63, _, _, _, _, _⟩) (v := undef) rfl (by kernel_rfl) (by kernel_rfl) (by kernel_rfl) (fun _ _ _ h => h) (Or.inr ⟨rfl, rfl⟩) hH ?_
                  try simp only [Act.put, List.setIfInBounds_toArray, List.set_cons_zero, List.set_cons_succ]
                  refine wpAnyH_take (i := 16) (oi := ⟨some 64, _, _, _, _, _⟩) (v := undef) rfl (by kernel_rfl) (by kernel_rfl) (by kernel_rfl) (fun _ _ _ h => h) (Or.inr ⟨rfl, rfl⟩) hH ?_
                  try simp only [Act.put, List.setIfInBounds_toArray, List.set_cons_zero, List.set_cons_succ]
                  refine wpAnyH_take (i := 17) (oi := ⟨some 65, _, _, _, _, _⟩) (v := ?v2017) rfl (by kernel_rfl) (by kernel_rfl) (by kernel_rfl) (fun _ _ _ h => h) (Or.inl ⟨rfl, ?c2017⟩) hH ?r2017
                  case c2017 => (intro w' _; go_simp; (try with_reducible rfl))
                  try simp only [Act.put, List.setIfInBounds_toArray, List.set_cons_zero, List.set_cons_succ]
                  refine wpAnyH_take (i := 18) (oi := ⟨some 66, _, _, _, _, _⟩) (v := ?v2018) rfl (by kernel_rfl) (by kernel_rfl) (by kernel_rfl) (fun _ _ _ h => h) (Or.inl ⟨rfl, ?c2018⟩) hH ?r2018
                  case c2018 => (intro w' _; go_simp; (try with_reducible rfl))
                  try simp only [Act.put, List.setIfInBounds_toArray, List.set_cons_zero, List.set_cons_succ]
                  refine wpAnyH_take (i := 19) (oi := ⟨some 67, _, _, _, _, _⟩) (v := undef) rfl (by kernel_rfl) (by kernel_rfl) (by kernel_rfl) (fun _ _ _ h => h) (Or.inr ⟨rfl, rfl⟩) hH ?_
                  try simp only [Act.put, List.setIfInBounds_toArray, List.set_cons_zero, List.set_cons_succ]
                  refine wpAnyH_take (i := 20) (oi := ⟨some 68, _, _, _, _, _⟩) (v := undef) rfl (by kernel_rfl) (by kernel_rfl) (by kernel_rfl) (fun _ _ _ h => h) (Or.inr ⟨rfl, rfl⟩) hH ?_
                  try simp only [Act.put, List.setIfInBounds_toArray, List.set_cons_zero, List.set_cons_succ]
                  refine wpAnyH_take (i := 21) (oi := ⟨some 69, _, _, _, _, _⟩) (v := undef) rfl (by kernel_rfl) (by kernel_rfl) (by kernel_rfl) (fun _ _ _ h => h) (Or.inr ⟨rfl, rfl⟩) hH ?_
                  try simp only [Act.put, List.setIfInBounds_toArray, List.set_cons_zero, List.set_cons_succ]
                  refine wpAnyH_take (i := 22) (oi := ⟨some 70, _, _, _, _, _⟩) (v := undef) rfl (by kernel_rfl) (by kernel_rfl) (by kernel_rfl) (fun _ _ _ h => h) (Or.inr ⟨rfl, rfl⟩) hH ?_
                  try simp only [Act.put, List.setIfInBounds_toArray, List.set_cons_zero, List.set_cons_succ]
                  refine wpAnyH_take (i := 23) (oi := ⟨some 71, _, _, _, _, _⟩) (v := undef) rfl (by kernel_rfl) (by kernel_rfl) (by kernel_rfl) (fun _ _ _ h => h) (Or.inr ⟨rfl, rfl⟩) hH ?_
                  try simp only [Act.put, List.setIfInBounds_toArray, List.set_cons_zero, List.set_cons_succ]
                  refine wpAnyH_take (i := 24) (oi := ⟨some 72, _, _, _, _, _⟩) (v := undef) rfl (by kernel_rfl) (by kernel_rfl) (by kernel_rfl) (fun _ _ _ h => h) (Or.inr ⟨rfl, rfl⟩) hH ?_
                  try simp only [Act.put, List.setIfInBounds_toArray, List.set_cons_zero, List.set_cons_succ]
                  refine wpAnyH_take (i := 25) (oi := ⟨some 73, _, _, _, _, _⟩) (v := undef) rfl (by kernel_rfl) (by kernel_rfl) (by kernel_rfl) (fun _ _ _ h => h) (Or.inr ⟨rfl, rfl⟩) hH ?_
                  try simp only [Act.put, List.setIfInBounds_toArray, List.set_cons_zero, List.set_cons_succ]
                  refine wpAnyH_take (i := 26) (oi := ⟨some 74, _, _, _, _, _⟩) (v := undef) rfl (by kernel_rfl) (by kernel_rfl) (by kernel_rfl) (fun _ _ _ h => h) (Or.inr ⟨rfl, rfl⟩) hH ?_
                  try simp only [Act.put, List.setIfInBounds_toArray, List.set_cons_zero, List.set_cons_succ]
                  refine wpAnyH_take (i := 27) (oi := ⟨some 75, _, _, _, _, _⟩) (v := undef) rfl (by kernel_rfl) (by kernel_rfl) (by kernel_rfl) (fun _ _ _ h => h) (Or.inr ⟨rfl, rfl⟩) hH ?_
                  try simp only [Act.put, List.setIfInBounds_toArray, List.set_cons_zero, List.set_cons_succ]
                  refine wpAnyH_take (i := 28) (oi := ⟨some 76, _, _, _, _, _⟩) (v := undef) rfl (by kernel_rfl) (by kernel_rfl) (by kernel_rfl) (fun _ _ _ h => h) (Or.inr ⟨rfl, rfl⟩) hH ?_
                  try simp only [Act.put, List.setIfInBounds_toArray, List.set_cons_zero, List.set_cons_succ]
                  refine wpAnyH_take (i := 29) (oi := ⟨some 77, _, _, _, _, _⟩) (v := undef) rfl (by kernel_rfl) (by kernel_rfl) (by kernel_rfl) (fun _ _ _ h => h) (Or.inr ⟨rfl, rfl⟩) hH ?_
                  try simp only [Act.put, List.setIfInBounds_toArray, List.set_cons_zero, List.set_cons_succ]
                  refine wpAnyH_take (i := 30) (oi := ⟨some 78, _, _, _, _, _⟩) (v := undef) rfl (by kernel_rfl) (by kernel_rfl) (by kernel_rfl) (fun _ _ _ h => h) (Or.inr ⟨rfl, rfl⟩) hH ?_
                  try simp only [Act.put, List.setIfInBounds_toArray, List.set_cons_zero, List.set_cons_succ]
                  refine wpAnyH_take (i := 31) (oi := ⟨some 79, _, _, _, _, _⟩) (v := undef) rfl (by kernel_rfl) (by kernel_rfl) (by kernel_rfl) (fun _ _ _ h => h) (Or.inr ⟨rfl, rfl⟩) hH ?_
                  try simp only [Act.put, List.setIfInBounds_toArray, List.set_cons_zero, List.set_cons_succ]
                  refine wpAnyH_take (i := 32) (oi := ⟨some 80, _, _, _, _, _⟩) (v := undef) rfl (by kernel_rfl) (by kernel_rfl) (by kernel_rfl) (fun _ _ _ h => h) (Or.inr ⟨rfl, rfl⟩) hH ?_
                  try simp only [Act.put, List.setIfInBounds_toArray, List.set_cons_zero, List.set_cons_succ]
                  refine wpAnyH_take (i := 33) (oi := ⟨some 81, _, _, _, _, _⟩) (v := ?v2033) rfl (by kernel_rfl) (by kernel_rfl) (by kernel_rfl) (fun _ _ _ h => h) (Or.inl ⟨rfl, ?c2033⟩) hH ?r2033
                  case c2033 => (intro w' _; go_simp; (try with_reducible rfl))
                  try simp only [Act.put, List.setIfInBounds_toArray, List.set_cons_zero, List.set_cons_succ]
                  refine wpAnyH_take (i := 34) (oi := ⟨some 82, _, _, _, _, _⟩) (v := ?v2034) rfl (by kernel_rfl) (by kernel_rfl) (by kernel_rfl) (fun _ _ _ h => h) (Or.inl ⟨rfl, ?c2034⟩) hH ?r2034
                  case c2034 => (intro w' _; go_simp; (try with_reducible rfl))
                  try simp only [Act.put, List.setIfInBounds_toArray, List.set_cons_zero, List.set_cons_succ]
                  refine wpAnyH_take (i := 35) (oi := ⟨some 83, _, _, _, _, _⟩) (v := undef) rfl (by kernel_rfl) (by kernel_rfl) (by kernel_rfl) (fun _ _ _ h => h) (Or.inr ⟨rfl, rfl⟩) hH ?_
                  try simp only [Act.put, List.setIfInBounds_toArray, List.set_cons_zero, List.set_cons_succ]
                  refine wpAnyH_take (i := 36) (oi := ⟨some 84, _, _, _, _, _⟩) (v := undef) rfl (by kernel_rfl) (by kernel_rfl) (by kernel_rfl) (fun _ _ _ h => h) (Or.inr ⟨rfl, rfl⟩) hH ?_
                  try simp only [Act.put, List.setIfInBounds_toArray, List.set_cons_zero, List.set_cons_succ]
                  refine wpAnyH_take (i := 37) (oi := ⟨some 85, _, _, _, _, _⟩) (v := undef) rfl (by kernel_rfl) (by kernel_rfl) (by kernel_rfl) (fun _ _ _ h => h) (Or.inr ⟨rfl, rfl⟩) hH ?_
                  try simp only [Act.put, List.setIfInBounds_toArray, List.set_cons_zero, List.set_cons_succ]
                  refine wpAnyH_take (i := 38) (oi := ⟨some 86, _, _, _, _, _⟩) (v := undef) rfl (by kernel_rfl) (by kernel_rfl) (by kernel_rfl) (fun _ _ _ h => h) (Or.inr ⟨rfl, rfl⟩) hH ?_
                  try simp only [Act.put, List.setIfInBounds_toArray, List.set_cons_zero, List.set_cons_succ]
                  refine wpAnyH_take (i := 39) (oi := ⟨some 87, _, _, _, _, _⟩) (v := undef) rfl (by kernel_rfl) (by kernel_rfl) (by kernel_rfl) (fun _ _ _ h => h) (Or.inr ⟨rfl, rfl⟩) hH ?_
                  try simp only [Act.put, List.setIfInBounds_toArray, List.set_cons_zero, List.set_cons_succ]
                  refine wpAnyH_take (i := 40) (oi := ⟨some 88, _, _, _, _, _⟩) (v := ?v2040) rfl (by kernel_rfl) (by kernel_rfl) (by kernel_rfl) (fun _ _ _ h => h) (Or.inl ⟨rfl, ?c2040⟩) hH ?r2040
                  case c2040 => (intro w' _; go_simp; (try with_reducible rfl))
                  try simp only [Act.put, List.setIfInBounds_toArray, List.set_cons_zero, List.set_cons_succ]
                  refine wpAnyH_done (by kernel_rfl) ?_ _
                  have HFB := Lib.hid hH.2.2.2.2.2.2.2.2.out
                  have HFK := Lib.hid hH.2.2.2.2.2.2.2.1.out
                  clear hH
                  go_wp2_with fail
                  go_roundw
                  case rel => exact ⟨m + 1, by go_num, by omega, (show Hid _ from ⟨HFB.out, HFK.out, HNR.out⟩)⟩
                  case measure => simp [RowKit.intOf]; omega
                | true =>
                  have HPL := Lib.hid hPL
                  clear hPL
                  by_cases hp : p1 = p2
                  · have dp : (p1 == p2) = true := by simpa using hp
                    have HPQ := Lib.hid hp
                    clear hp
                    by_cases hk1 : k1 = 6
                    · have dk : (k1 == 6) = true := by simpa using hk1
                      have HK1 := Lib.hid hk1
                      clear hk1
                      cases hB : ahB (fn l) j m with
                      | true =>
                        have HNR : Hid (∀ q, q < m + 1 → ¬ Ra (fn l) q j) := fun q hq hr => by
                          by_cases e : q = m
                          · subst e
                            exact hr.2.2.2.2.2 (ahB_yes hjm hB)
                          · exact HW2.out.2.2 q (by omega) hr
                        rw [hB] at x0
                        clear hB
                        go_wp2_with fail
                        refine wp_region_held_drew (S := (fun w' => w'.cell? ⟨g, m, none⟩ = some (.bool true) ∧ w'.cell? ⟨lb, off + m * 3, none⟩ = some (.int .i64 t1) ∧ w'.cell? ⟨lb, off + m * 3 + 1, none⟩ = some (.int .i64 k1) ∧ w'.cell? ⟨lb, off + m * 3 + 2, none⟩ = some (.int .i64 p1) ∧ w'.cell? ⟨lb, off + j * 3, none⟩ = some (.int .i64 t2) ∧ w'.cell? ⟨lb, off + j * 3 + 1, none⟩ = some (.int .i64 k2) ∧ w'.cell? ⟨lb, off + j * 3 + 2, none⟩ = some (.int .i64 p2) ∧ Hid (Blk w' g (blA (j + 1) (ahB (fn l) j)) 4) ∧ Hid (Below w.heap.size w w'))) (by kernel_rfl) (⟨x0, y0, y1, y2, z0, z1, z2, (show Hid _ from HW2.out.2.1.drew), (show Hid _ from HW2.out.1.drew)⟩) (fun hH => ?_)
                        refine wpAnyH_take (i := 0) (oi := ⟨some 48, _, _, _, _, _⟩) (v := ?v3001) rfl (by kernel_rfl) (by kernel_rfl) (by kernel_rfl) (fun _ _ _ h => h) (Or.inl ⟨rfl, ?c3001⟩) hH ?r3001
                        case c3001 => (intro w' _; go_simp; (try with_reducible rfl))
                        try simp only [Act.put, List.setIfInBounds_toArray, List.set_cons_zero, List.set_cons_succ]
                        refine wpAnyH_take (i := 1) (oi := ⟨some 49, _, _, _, _, _⟩) (v := ?v3002) rfl (by kernel_rfl) (by kernel_rfl) (by kernel_rfl) (fun _ _ _ h => h) (Or.inl ⟨rfl, ?c3002⟩) hH ?r3002
                        case c3002 => (intro w' _; go_simp; (try with_reducible rfl))
                        try simp only [Act.put, List.setIfInBounds_toArray, List.set_cons_zero, List.set_cons_succ]
                        refine wpAnyH_take (i := 2) (oi := ⟨some 50, _, _, _, _, _⟩) (v := ?v3003) rfl (by kernel_rfl) (by kernel_rfl) (by kernel_rfl) (fun _ _ _ h => h) (Or.inl ⟨rfl, ?c3003⟩) hH ?r3003
                        case c3003 => (intro w' _; go_simp; first | (with_reducible rfl) | (rw [if_pos (by omega)]))
                        try simp only [Act.put, List.setIfInBounds_toArray, List.set_cons_zero, List.set_cons_succ]
                        refine wpAnyH_take (i := 3) (oi := ⟨some 51, _, _, _, _, _⟩) (v := ?v3004) rfl (by kernel_rfl) (by kernel_rfl) (by kernel_rfl) (fun _ _ _ h => h) (Or.inl ⟨rfl, ?c3004⟩) hH ?r3004
                        case c3004 => (intro w' hS; (try dsimp only at hS); go_simp; (try with_reducible rfl))
                        try simp only [Act.put, List.setIfInBounds_toArray, List.set_cons_zero, List.set_cons_succ]
                        refine wpAnyH_ready (rs := [4]) (by kernel_rfl) (by simp) (AllReadyH.cons rfl (fun K hK => ?_) (AllReadyH.nil))
                        go_simp
                        go_at_call 15
                        refine (plain_any ⟨t1, k1, p1⟩ _).mono ?_
                        rintro e w9 ⟨rfl, hb9⟩
                        rw [HPL.out]
                        refine hK.out _ _ (⟨(hb9.cell (p := ⟨g, m, none⟩) HGL.out).trans hH.1, ((hb9.cell (p := ⟨lb, off + m * 3, none⟩) HLB2.out)).trans hH.2.1, ((hb9.cell (p := ⟨lb, off + m * 3 + 1, none⟩) HLB2.out)).trans hH.2.2.1, ((hb9.cell (p := ⟨lb, off + m * 3 + 2, none⟩) HLB2.out)).trans hH.2.2.2.1, ((hb9.cell (p := ⟨lb, off + j * 3, none⟩) HLB2.out)).trans hH.2.2.2.2.1, ((hb9.cell (p := ⟨lb, off + j * 3 + 1, none⟩) HLB2.out)).trans hH.2.2.2.2.2.1, ((hb9.cell (p := ⟨lb, off + j * 3 + 2, none⟩) HLB2.out)).trans hH.2.2.2.2.2.2.1, (show Hid _ from hH.2.2.2.2.2.2.2.1.out.next hb9), (show Hid _ from hH.2.2.2.2.2.2.2.2.out.trans (hb9.mono hH.2.2.2.2.2.2.2.2.out.size))⟩) (fun hH => ?_)
                        clear hK K
                        clear hb9
                        try simp only [Act.put, List.setIfInBounds_toArray, List.set_cons_zero, List.set_cons_succ]
                        refine wpAnyH_take (i := 5) (oi := ⟨some 53, _, _, _, _, _⟩) (v := ?v3005) rfl (by kernel_rfl) (by kernel_rfl) (by kernel_rfl) (fun _ _ _ h => h) (Or.inl ⟨rfl, ?c3005⟩) hH ?r3005
                        case c3005 => (intro w' _; go_simp; (try with_reducible rfl))
                        try simp only [Act.put, List.setIfInBounds_toArray, List.set_cons_zero, List.set_cons_succ]
                        refine wpAnyH_take (i := 6) (oi := ⟨some 54, _, _, _, _, _⟩) (v := ?v3006) rfl (by kernel_rfl) (by kernel_rfl) (by kernel_rfl) (fun _ _ _ h => h) (Or.inl ⟨rfl, ?c3006⟩) hH ?r3006
                        case c3006 => (intro w' _; go_simp; (try with_reducible rfl))
                        try simp only [Act.put, List.setIfInBounds_toArray, List.set_cons_zero, List.set_cons_succ]
                        refine wpAnyH_take (i := 7) (oi := ⟨some 55, _, _, _, _, _⟩) (v := ?v3007) rfl (by kernel_rfl) (by kernel_rfl) (by kernel_rfl) (fun _ _ _ h => h) (Or.inl ⟨rfl, ?c3007⟩) hH ?r3007
                        case c3007 => (intro w' _; go_simp; (try with_reducible rfl))
                        try simp only [Act.put, List.setIfInBounds_toArray, List.set_cons_zero, List.set_cons_succ]
                        refine wpAnyH_take (i := 8) (oi := ⟨some 56, _, _, _, _, _⟩) (v := ?v3008) rfl (by kernel_rfl) (by kernel_rfl) (by kernel_rfl) (fun _ _ _ h => h) (Or.inl ⟨rfl, ?c3008⟩) hH ?r3008
                        case c3008 => (intro w' _; go_simp; first | (with_reducible rfl) | (rw [if_pos (by omega)]))
                        try simp only [Act.put, List.setIfInBounds_toArray, List.set_cons_zero, List.set_cons_succ]
                        refine wpAnyH_take (i := 9) (oi := ⟨some 57, _, _, _, _, _⟩) (v := ?v3009) rfl (by kernel_rfl) (by kernel_rfl) (by kernel_rfl) (fun _ _ _ h => h) (Or.inl ⟨rfl, ?c3009⟩) hH ?r3009
                        case c3009 => (intro w' _; go_simp; (try with_reducible rfl))
                        try simp only [Act.put, List.setIfInBounds_toArray, List.set_cons_zero, List.set_cons_succ]
                        refine wpAnyH_take (i := 10) (oi := ⟨some 58, _, _, _, _, _⟩) (v := ?v3010) rfl (by kernel_rfl) (by kernel_rfl) (by kernel_rfl) (fun _ _ _ h => h) (Or.inl ⟨rfl, ?c3010⟩) hH ?r3010
                        case c3010 => (intro w' hS; (try dsimp only at hS); go_simp; (try with_reducible rfl))
                        try simp only [Act.put, List.setIfInBounds_toArray, List.set_cons_zero, List.set_cons_succ]
                        refine wpAnyH_take (i := 11) (oi := ⟨some 59, _, _, _, _, _⟩) (v := ?v3011) rfl (by kernel_rfl) (by kernel_rfl) (by kernel_rfl) (fun _ _ _ h => h) (Or.inl ⟨rfl, ?c3011⟩) hH ?r3011
                        case c3011 => (intro w' _; go_simp; (try with_reducible rfl))
                        try simp only [Act.put, List.setIfInBounds_toArray, List.set_cons_zero, List.set_cons_succ]
                        refine wpAnyH_take (i := 12) (oi := ⟨some 60, _, _, _, _, _⟩) (v := ?v3012) rfl (by kernel_rfl) (by kernel_rfl) (by kernel_rfl) (fun _ _ _ h => h) (Or.inl ⟨rfl, ?c3012⟩) hH ?r3012
                        case c3012 => (intro w' _; go_simp; (try with_reducible rfl))
                        try simp only [Act.put, List.setIfInBounds_toArray, List.set_cons_zero, List.set_cons_succ]
                        refine wpAnyH_take (i := 13) (oi := ⟨some 61, _, _, _, _, _⟩) (v := ?v3013) rfl (by kernel_rfl) (by kernel_rfl) (by kernel_rfl) (fun _ _ _ h => h) (Or.inl ⟨rfl, ?c3013⟩) hH ?r3013
                        case c3013 => (intro w' _; go_simp; first | (with_reducible rfl) | (rw [if_pos (by omega)]))
                        try simp only [Act.put, List.setIfInBounds_toArray, List.set_cons_zero, List.set_cons_succ]
                        refine wpAnyH_take (i := 14) (oi := ⟨some 62, _, _, _, _, _⟩) (v := ?v3014) rfl (by kernel_rfl) (by kernel_rfl) (by kernel_rfl) (fun _ _ _ h => h) (Or.inl ⟨rfl, ?c3014⟩) hH ?r3014
                        case c3014 => (intro w' _; go_simp; (try with_reducible rfl))
                        try simp only [Act.put, List.setIfInBounds_toArray, List.set_cons_zero, List.set_cons_succ]
                        refine wpAnyH_take (i := 15) (oi := ⟨some 63, _, _, _, _, _⟩) (v := ?v3015) rfl (by kernel_rfl) (by kernel_rfl) (by kernel_rfl) (fun _ _ _ h => h) (Or.inl ⟨rfl, ?c3015⟩) hH ?r3015
                        case c3015 => (intro w' hS; (try dsimp only at hS); go_simp; (try with_reducible rfl))
                        try simp only [Act.put, List.setIfInBounds_toArray, List.set_cons_zero, List.set_cons_succ]
                        refine wpAnyH_take (i := 16) (oi := ⟨some 64, _, _, _, _, _⟩) (v := ?v3016) rfl (by kernel_rfl) (by kernel_rfl) (by kernel_rfl) (fun _ _ _ h => h) (Or.inl ⟨rfl, ?c3016⟩) hH ?r3016
                        case c3016 => (intro w' _; go_simp; (try with_reducible rfl))
                        try simp only [Act.put, List.setIfInBounds_toArray, List.set_cons_zero, List.set_cons_succ]
                        refine wpAnyH_take (i := 17) (oi := ⟨some 65, _, _, _, _, _⟩) (v := ?v3017) rfl (by kernel_rfl) (by kernel_rfl) (by kernel_rfl) (fun _ _ _ h => h) (Or.inl ⟨rfl, ?c3017⟩) hH ?r3017
                        case c3017 => (intro w' _; go_simp; (try with_reducible rfl))
                        try simp only [Act.put, List.setIfInBounds_toArray, List.set_cons_zero, List.set_cons_succ]
                        refine wpAnyH_take (i := 18) (oi := ⟨some 66, _, _, _, _, _⟩) (v := ?v3018) rfl (by kernel_rfl) (by kernel_rfl) (by kernel_rfl) (fun _ _ _ h => h) (Or.inl ⟨rfl, ?c3018⟩) hH ?r3018
                        case c3018 => (intro w' _; go_simp; (try with_reducible rfl))
                        try simp only [Act.put, List.setIfInBounds_toArray, List.set_cons_zero, List.set_cons_succ]
                        refine wpAnyH_take (i := 19) (oi := ⟨some 67, _, _, _, _, _⟩) (v := ?v3019) rfl (by kernel_rfl) (by kernel_rfl) (by kernel_rfl) (fun _ _ _ h => h) (Or.inl ⟨rfl, ?c3019⟩) hH ?r3019
                        case c3019 => (intro w' _; go_simp; (try with_reducible rfl))
                        try simp only [Act.put, List.setIfInBounds_toArray, List.set_cons_zero, List.set_cons_succ]
                        refine wpAnyH_take (i := 20) (oi := ⟨some 68, _, _, _, _, _⟩) (v := ?v3020) rfl (by kernel_rfl) (by kernel_rfl) (by kernel_rfl) (fun _ _ _ h => h) (Or.inl ⟨rfl, ?c3020⟩) hH ?r3020
                        case c3020 => (intro w' _; go_simp; (try with_reducible rfl))
                        try simp only [Act.put, List.setIfInBounds_toArray, List.set_cons_zero, List.set_cons_succ]
                        refine wpAnyH_take (i := 21) (oi := ⟨some 69, _, _, _, _, _⟩) (v := ?v3021) rfl (by kernel_rfl) (by kernel_rfl) (by kernel_rfl) (fun _ _ _ h => h) (Or.inl ⟨rfl, ?c3021⟩) hH ?r3021
                        case c3021 => (intro w' _; go_simp; first | (with_reducible rfl) | (rw [if_pos (by omega)]))
                        try simp only [Act.put, List.setIfInBounds_toArray, List.set_cons_zero, List.set_cons_succ]
                        refine wpAnyH_take (i := 22) (oi := ⟨some 70, _, _, _, _, _⟩) (v := ?v3022) rfl (by kernel_rfl) (by kernel_rfl) (by kernel_rfl) (fun _ _ _ h => h) (Or.inl ⟨rfl, ?c3022⟩) hH ?r3022
                        case c3022 => (intro w' _; go_simp; (try with_reducible rfl))
                        try simp only [Act.put, List.setIfInBounds_toArray, List.set_cons_zero, List.set_cons_succ]
                        refine wpAnyH_take (i := 23) (oi := ⟨some 71, _, _, _, _, _⟩) (v := ?v3023) rfl (by kernel_rfl) (by kernel_rfl) (by kernel_rfl) (fun _ _ _ h => h) (Or.inl ⟨rfl, ?c3023⟩) hH ?r3023
                        case c3023 => (intro w' hS; (try dsimp only at hS); go_simp; (try with_reducible rfl))
                        try simp only [Act.put, List.setIfInBounds_toArray, List.set_cons_zero, List.set_cons_succ]
                        refine wpAnyH_take (i := 24) (oi := ⟨some 72, _, _, _, _, _⟩) (v := ?v3024) rfl (by kernel_rfl) (by kernel_rfl) (by kernel_rfl) (fun _ _ _ h => h) (Or.inl ⟨rfl, ?c3024⟩) hH ?r3024
                        case c3024 => (intro w' _; go_simp; (try with_reducible rfl))
                        try simp only [Act.put, List.setIfInBounds_toArray, List.set_cons_zero, List.set_cons_succ]
                        refine wpAnyH_take (i := 25) (oi := ⟨some 73, _, _, _, _, _⟩) (v := ?v3025) rfl (by kernel_rfl) (by kernel_rfl) (by kernel_rfl) (fun _ _ _ h => h) (Or.inl ⟨rfl, ?c3025⟩) hH ?r3025
                        case c3025 => (intro w' _; go_simp; (try with_reducible rfl))
                        try simp only [Act.put, List.setIfInBounds_toArray, List.set_cons_zero, List.set_cons_succ]
                        refine wpAnyH_take (i := 26) (oi := ⟨some 74, _, _, _, _, _⟩) (v := undef) rfl (by kernel_rfl) (by kernel_rfl) (by kernel_rfl) (fun _ _ _ h => h) (Or.inr ⟨rfl, rfl⟩) hH ?_
                        try simp only [Act.put, List.setIfInBounds_toArray, List.set_cons_zero, List.set_cons_succ]
                        refine wpAnyH_take (i := 27) (oi := ⟨some 75, _, _, _, _, _⟩) (v := undef) rfl (by kernel_rfl) (by kernel_rfl) (by kernel_rfl) (fun _ _ _ h => h) (Or.inr ⟨rfl, rfl⟩) hH ?_
                        try simp only [Act.put, List.setIfInBounds_toArray, List.set_cons_zero, List.set_cons_succ]
                        refine wpAnyH_take (i := 28) (oi := ⟨some 76, _, _, _, _, _⟩) (v := undef) rfl (by kernel_rfl) (by kernel_rfl) (by kernel_rfl) (fun _ _ _ h => h) (Or.inr ⟨rfl, rfl⟩) hH ?_
                        try simp only [Act.put, List.setIfInBounds_toArray, List.set_cons_zero, List.set_cons_succ]
                        refine wpAnyH_take (i := 29) (oi := ⟨some 77, _, _, _, _, _⟩) (v := undef) rfl (by kernel_rfl) (by kernel_rfl) (by kernel_rfl) (fun _ _ _ h => h) (Or.inr ⟨rfl, rfl⟩) hH ?_
                        try simp only [Act.put, List.setIfInBounds_toArray, List.set_cons_zero, List.set_cons_succ]
                        refine wpAnyH_take (i := 30) (oi := ⟨some 78, _, _, _, _, _⟩) (v := undef) rfl (by kernel_rfl) (by kernel_rfl) (by kernel_rfl) (fun _ _ _ h => h) (Or.inr ⟨rfl, rfl⟩) hH ?_
                        try simp only [Act.put, List.setIfInBounds_toArray, List.set_cons_zero, List.set_cons_succ]
                        refine wpAnyH_take (i := 31) (oi := ⟨some 79, _, _, _, _, _⟩) (v := undef) rfl (by kernel_rfl) (by kernel_rfl) (by kernel_rfl) (fun _ _ _ h => h) (Or.inr ⟨rfl, rfl⟩) hH ?_
                        try simp only [Act.put, List.setIfInBounds_toArray, List.set_cons_zero, List.set_cons_succ]
                        refine wpAnyH_take (i := 32) (oi := ⟨some 80, _, _, _, _, _⟩) (v := ?v3032) rfl (by kernel_rfl) (by kernel_rfl) (by kernel_rfl) (fun _ _ _ h => h) (Or.inl ⟨rfl, ?c3032⟩) hH ?r3032
                        case c3032 => (intro w' _; go_simp; (try with_reducible rfl))
                        try simp only [Act.put, List.setIfInBounds_toArray, List.set_cons_zero, List.set_cons_succ]
                        refine wpAnyH_take (i := 33) (oi := ⟨some 81, _, _, _, _, _⟩) (v := ?v3033) rfl (by kernel_rfl) (by kernel_rfl) (by kernel_rfl) (fun _ _ _ h => h) (Or.inl ⟨rfl, ?c3033⟩) hH ?r3033
                        case c3033 => (intro w' _; go_simp; (try with_reducible rfl))
                        try simp only [Act.put, List.setIfInBounds_toArray, List.set_cons_zero, List.set_cons_succ]
                        refine wpAnyH_take (i := 34) (oi := ⟨some 82, _, _, _, _, _⟩) (v := ?v3034) rfl (by kernel_rfl) (by kernel_rfl) (by kernel_rfl) (fun _ _ _ h => h) (Or.inl ⟨rfl, ?c3034⟩) hH ?r3034
                        case c3034 => (intro w' _; go_simp; (try with_reducible rfl))
                        try simp only [Act.put, List.setIfInBounds_toArray, List.set_cons_zero, List.set_cons_succ]
                        refine wpAnyH_take (i := 35) (oi := ⟨some 83, _, _, _, _, _⟩) (v := ?v3035) rfl (by kernel_rfl) (by kernel_rfl) (by kernel_rfl) (fun _ _ _ h => h) (Or.inl ⟨rfl, ?c3035⟩) hH ?r3035
                        case c3035 => (intro w' _; go_simp; (try with_reducible rfl))
                        try simp only [Act.put, List.setIfInBounds_toArray, List.set_cons_zero, List.set_cons_succ]
                        refine wpAnyH_take (i := 36) (oi := ⟨some 84, _, _, _, _, _⟩) (v := ?v3036) rfl (by kernel_rfl) (by kernel_rfl) (by kernel_rfl) (fun _ _ _ h => h) (Or.inl ⟨rfl, ?c3036⟩) hH ?r3036
                        case c3036 => (intro w' _; go_simp; (try with_reducible rfl))
                        try simp only [Act.put, List.setIfInBounds_toArray, List.set_cons_zero, List.set_cons_succ]
                        refine wpAnyH_take (i := 37) (oi := ⟨some 85, _, _, _, _, _⟩) (v := ?v3037) rfl (by kernel_rfl) (by kernel_rfl) (by kernel_rfl) (fun _ _ _ h => h) (Or.inl ⟨rfl, ?c3037⟩) hH ?r3037
                        case c3037 => (intro w' _; go_simp; first | (with_reducible rfl) | (rw [if_pos (by omega)]))
                        try simp only [Act.put, List.setIfInBounds_toArray, List.set_cons_zero, List.set_cons_succ]
                        refine wpAnyH_take (i := 38) (oi := ⟨some 86, _, _, _, _, _⟩) (v := ?v3038) rfl (by kernel_rfl) (by kernel_rfl) (by kernel_rfl) (fun _ _ _ h => h) (Or.inl ⟨rfl, ?c3038⟩) hH ?r3038
                        case c3038 => (intro w' hS; (try dsimp only at hS); go_simp; (try with_reducible rfl))
                        try simp only [Act.put, List.setIfInBounds_toArray, List.set_cons_zero, List.set_cons_succ]
                        refine wpAnyH_take (i := 39) (oi := ⟨some 87, _, _, _, _, _⟩) (v := ?v3039) rfl (by kernel_rfl) (by kernel_rfl) (by kernel_rfl) (fun _ _ _ h => h) (Or.inl ⟨rfl, ?c3039⟩) hH ?r3039
                        case c3039 => (intro w' _; go_simp; (try with_reducible rfl))
                        try simp only [Act.put, List.setIfInBounds_toArray, List.set_cons_zero, List.set_cons_succ]
                        refine wpAnyH_take (i := 40) (oi := ⟨some 88, _, _, _, _, _⟩) (v := ?v3040) rfl (by kernel_rfl) (by kernel_rfl) (by kernel_rfl) (fun _ _ _ h => h) (Or.inl ⟨rfl, ?c3040⟩) hH ?r3040
                        case c3040 => (intro w' _; go_simp; (try with_reducible rfl))
                        try simp only [Act.put, List.setIfInBounds_toArray, List.set_cons_zero, List.set_cons_succ]
                        refine wpAnyH_done (by kernel_rfl) ?_ _
                        have HFB := Lib.hid hH.2.2.2.2.2.2.2.2.out
                        have HFK := Lib.hid hH.2.2.2.2.2.2.2.1.out
                        clear hH
                        go_wp2_with fail
                        go_roundw
                        case rel => exact ⟨m + 1, by go_num, by omega, (show Hid _ from ⟨HFB.out, HFK.out, HNR.out⟩)⟩
                        case measure => simp [RowKit.intOf]; omega
                      | false =>
                        have HT : Hid (Tells (fn l) l.length (j : Int) 17) := .inr (.inl ⟨no_bad HBAD'.out, ⟨j, by rw [HN.out]; exact hjl, rfl, ⟨m, hjm, by rw [HX1.out, HX2.out]; exact HPQ.out, plB_kinds (by rw [HX1.out]; exact HPL.out), plB_kinds HPJ.out, by rw [HX1.out, HX2.out]; exact .inl HK1.out, ahB_not hB⟩, HR.out.2⟩, rfl⟩)
                        rw [hB] at x0
                        clear hB
                        go_wp2_with fail
                        refine wp_region_held_drew (S := (fun w' => w'.cell? ⟨g, m, none⟩ = some (.bool false) ∧ w'.cell? ⟨lb, off + m * 3, none⟩ = some (.int .i64 t1) ∧ w'.cell? ⟨lb, off + m * 3 + 1, none⟩ = some (.int .i64 k1) ∧ w'.cell? ⟨lb, off + m * 3 + 2, none⟩ = some (.int .i64 p1) ∧ w'.cell? ⟨lb, off + j * 3, none⟩ = some (.int .i64 t2) ∧ w'.cell? ⟨lb, off + j * 3 + 1, none⟩ = some (.int .i64 k2) ∧ w'.cell? ⟨lb, off + j * 3 + 2, none⟩ = some (.int .i64 p2) ∧ Hid (Blk w' g (blA (j + 1) (ahB (fn l) j)) 4) ∧ Hid (Below w.heap.size w w'))) (by kernel_rfl) (⟨x0, y0, y1, y2, z0, z1, z2, (show Hid _ from HW2.out.2.1.drew), (show Hid _ from HW2.out.1.drew)⟩) (fun hH => ?_)
                        refine wpAnyH_take (i := 0) (oi := ⟨some 48, _, _, _, _, _⟩) (v := ?v4001) rfl (by kernel_rfl) (by kernel_rfl) (by kernel_rfl) (fun _ _ _ h => h) (Or.inl ⟨rfl, ?c4001⟩) hH ?r4001
                        case c4001 => (intro w' _; go_simp; (try with_reducible rfl))
                        try simp only [Act.put, List.setIfInBounds_toArray, List.set_cons_zero, List.set_cons_succ]
                        refine wpAnyH_take (i := 1) (oi := ⟨some 49, _, _, _, _, _⟩) (v := ?v4002) rfl (by kernel_rfl) (by kernel_rfl) (by kernel_rfl) (fun _ _ _ h => h) (Or.inl ⟨rfl, ?c4002⟩) hH ?r4002
                        case c4002 => (intro w' _; go_simp; (try with_reducible rfl))
                        try simp only [Act.put, List.setIfInBounds_toArray, List.set_cons_zero, List.set_cons_succ]
                        refine wpAnyH_take (i := 2) (oi := ⟨some 50, _, _, _, _, _⟩) (v := ?v4003) rfl (by kernel_rfl) (by kernel_rfl) (by kernel_rfl) (fun _ _ _ h => h) (Or.inl ⟨rfl, ?c4003⟩) hH ?r4003
                        case c4003 => (intro w' _; go_simp; first | (with_reducible rfl) | (rw [if_pos (by omega)]))
                        try simp only [Act.put, List.setIfInBounds_toArray, List.set_cons_zero, List.set_cons_succ]
                        refine wpAnyH_take (i := 3) (oi := ⟨some 51, _, _, _, _, _⟩) (v := ?v4004) rfl (by kernel_rfl) (by kernel_rfl) (by kernel_rfl) (fun _ _ _ h => h) (Or.inl ⟨rfl, ?c4004⟩) hH ?r4004
                        case c4004 => (intro w' hS; (try dsimp only at hS); go_simp; (try with_reducible rfl))
                        try simp only [Act.put, List.setIfInBounds_toArray, List.set_cons_zero, List.set_cons_succ]
                        refine wpAnyH_ready (rs := [4]) (by kernel_rfl) (by simp) (AllReadyH.cons rfl (fun K hK => ?_) (AllReadyH.nil))
                        go_simp
                        go_at_call 15
                        refine (plain_any ⟨t1, k1, p1⟩ _).mono ?_
                        rintro e w9 ⟨rfl, hb9⟩
                        rw [HPL.out]
                        refine hK.out _ _ (⟨(hb9.cell (p := ⟨g, m, none⟩) HGL.out).trans hH.1, ((hb9.cell (p := ⟨lb, off + m * 3, none⟩) HLB2.out)).trans hH.2.1, ((hb9.cell (p := ⟨lb, off + m * 3 + 1, none⟩) HLB2.out)).trans hH.2.2.1, ((hb9.cell (p := ⟨lb, off + m * 3 + 2, none⟩) HLB2.out)).trans hH.2.2.2.1, ((hb9.cell (p := ⟨lb, off + j * 3, none⟩) HLB2.out)).trans hH.2.2.2.2.1, ((hb9.cell (p := ⟨lb, off + j * 3 + 1, none⟩) HLB2.out)).trans hH.2.2.2.2.2.1, ((hb9.cell (p := ⟨lb, off + j * 3 + 2, none⟩) HLB2.out)).trans hH.2.2.2.2.2.2.1, (show Hid _ from hH.2.2.2.2.2.2.2.1.out.next hb9), (show Hid _ from hH.2.2.2.2.2.2.2.2.out.trans (hb9.mono hH.2.2.2.2.2.2.2.2.out.size))⟩) (fun hH => ?_)
                        clear hK K
                        clear hb9
                        try simp only [Act.put, List.setIfInBounds_toArray, List.set_cons_zero, List.set_cons_succ]
                        refine wpAnyH_take (i := 5) (oi := ⟨some 53, _, _, _, _, _⟩) (v := ?v4005) rfl (by kernel_rfl) (by kernel_rfl) (by kernel_rfl) (fun _ _ _ h => h) (Or.inl ⟨rfl, ?c4005⟩) hH ?r4005
                        case c4005 => (intro w' _; go_simp; (try with_reducible rfl))
                        try simp only [Act.put, List.setIfInBounds_toArray, List.set_cons_zero, List.set_cons_succ]
                        refine wpAnyH_take (i := 6) (oi := ⟨some 54, _, _, _, _, _⟩) (v := ?v4006) rfl (by kernel_rfl) (by kernel_rfl) (by kernel_rfl) (fun _ _ _ h => h) (Or.inl ⟨rfl, ?c4006⟩) hH ?r4006
                        case c4006 => (intro w' _; go_simp; (try with_reducible rfl))
                        try simp only [Act.put, List.setIfInBounds_toArray, List.set_cons_zero, List.set_cons_succ]
                        refine wpAnyH_take (i := 7) (oi := ⟨some 55, _, _, _, _, _⟩) (v := ?v4007) rfl (by kernel_rfl) (by kernel_rfl) (by kernel_rfl) (fun _ _ _ h => h) (Or.inl ⟨rfl, ?c4007⟩) hH ?r4007
                        case c4007 => (intro w' _; go_simp; (try with_reducible rfl))
                        try simp only [Act.put, List.setIfInBounds_toArray, List.set_cons_zero, List.set_cons_succ]
                        refine wpAnyH_take (i := 8) (oi := ⟨some 56, _, _, _, _, _⟩) (v := ?v4008) rfl (by kernel_rfl) (by kernel_rfl) (by kernel_rfl) (fun _ _ _ h => h) (Or.inl ⟨rfl, ?c4008⟩) hH ?r4008
                        case c4008 => (intro w' _; go_simp; first | (with_reducible rfl) | (rw [if_pos (by omega)]))
                        try simp only [Act.put, List.setIfInBounds_toArray, List.set_cons_zero, List.set_cons_succ]
                        refine wpAnyH_take (i := 9) (oi := ⟨some 57, _, _, _, _, _⟩) (v := ?v4009) rfl (by kernel_rfl) (by kernel_rfl) (by kernel_rfl) (fun _ _ _ h => h) (Or.inl ⟨rfl, ?c4009⟩) hH ?r4009
                        case c4009 => (intro w' _; go_simp; (try with_reducible rfl))
                        try simp only [Act.put, List.setIfInBounds_toArray, List.set_cons_zero, List.set_cons_succ]
                        refine wpAnyH_take (i := 10) (oi := ⟨some 58, _, _, _, _, _⟩) (v := ?v4010) rfl (by kernel_rfl) (by kernel_rfl) (by kernel_rfl) (fun _ _ _ h => h) (Or.inl ⟨rfl, ?c4010⟩) hH ?r4010
                        case c4010 => (intro w' hS; (try dsimp only at hS); go_simp; (try with_reducible rfl))
                        try simp only [Act.put, List.setIfInBounds_toArray, List.set_cons_zero, List.set_cons_succ]
                        refine wpAnyH_take (i := 11) (oi := ⟨some 59, _, _, _, _, _⟩) (v := ?v4011) rfl (by kernel_rfl) (by kernel_rfl) (by kernel_rfl) (fun _ _ _ h => h) (Or.inl ⟨rfl, ?c4011⟩) hH ?r4011
                        case c4011 => (intro w' _; go_simp; (try with_reducible rfl))
                        try simp only [Act.put, List.setIfInBounds_toArray, List.set_cons_zero, List.set_cons_succ]
                        refine wpAnyH_take (i := 12) (oi := ⟨some 60, _, _, _, _, _⟩) (v := ?v4012) rfl (by kernel_rfl) (by kernel_rfl) (by kernel_rfl) (fun _ _ _ h => h) (Or.inl ⟨rfl, ?c4012⟩) hH ?r4012
                        case c4012 => (intro w' _; go_simp; (try with_reducible rfl))
                        try simp only [Act.put, List.setIfInBounds_toArray, List.set_cons_zero, List.set_cons_succ]
                        refine wpAnyH_take (i := 13) (oi := ⟨some 61, _, _, _, _, _⟩) (v := ?v4013) rfl (by kernel_rfl) (by kernel_rfl) (by kernel_rfl) (fun _ _ _ h => h) (Or.inl ⟨rfl, ?c4013⟩) hH ?r4013
                        case c4013 => (intro w' _; go_simp; first | (with_reducible rfl) | (rw [if_pos (by omega)]))
                        try simp only [Act.put, List.setIfInBounds_toArray, List.set_cons_zero, List.set_cons_succ]
                        refine wpAnyH_take (i := 14) (oi := ⟨some 62, _, _, _, _, _⟩) (v := ?v4014) rfl (by kernel_rfl) (by kernel_rfl) (by kernel_rfl) (fun _ _ _ h => h) (Or.inl ⟨rfl, ?c4014⟩) hH ?r4014
                        case c4014 => (intro w' _; go_simp; (try with_reducible rfl))
                        try simp only [Act.put, List.setIfInBounds_toArray, List.set_cons_zero, List.set_cons_succ]
                        refine wpAnyH_take (i := 15) (oi := ⟨some 63, _, _, _, _, _⟩) (v := ?v4015) rfl (by kernel_rfl) (by kernel_rfl) (by kernel_rfl) (fun _ _ _ h => h) (Or.inl ⟨rfl, ?c4015⟩) hH ?r4015
                        case c4015 => (intro w' hS; (try dsimp only at hS); go_simp; (try with_reducible rfl))
                        try simp only [Act.put, List.setIfInBounds_toArray, List.set_cons_zero, List.set_cons_succ]
                        refine wpAnyH_take (i := 16) (oi := ⟨some 64, _, _, _, _, _⟩) (v := ?v4016) rfl (by kernel_rfl) (by kernel_rfl) (by kernel_rfl) (fun _ _ _ h => h) (Or.inl ⟨rfl, ?c4016⟩) hH ?r4016
                        case c4016 => (intro w' _; go_simp; (try with_reducible rfl))
                        try simp only [Act.put, List.setIfInBounds_toArray, List.set_cons_zero, List.set_cons_succ]
                        refine wpAnyH_take (i := 17) (oi := ⟨some 65, _, _, _, _, _⟩) (v := ?v4017) rfl (by kernel_rfl) (by kernel_rfl) (by kernel_rfl) (fun _ _ _ h => h) (Or.inl ⟨rfl, ?c4017⟩) hH ?r4017
                        case c4017 => (intro w' _; go_simp; (try with_reducible rfl))
                        try simp only [Act.put, List.setIfInBounds_toArray, List.set_cons_zero, List.set_cons_succ]
                        refine wpAnyH_take (i := 18) (oi := ⟨some 66, _, _, _, _, _⟩) (v := ?v4018) rfl (by kernel_rfl) (by kernel_rfl) (by kernel_rfl) (fun _ _ _ h => h) (Or.inl ⟨rfl, ?c4018⟩) hH ?r4018
                        case c4018 => (intro w' _; go_simp; (try with_reducible rfl))
                        try simp only [Act.put, List.setIfInBounds_toArray, List.set_cons_zero, List.set_cons_succ]
                        refine wpAnyH_take (i := 19) (oi := ⟨some 67, _, _, _, _, _⟩) (v := ?v4019) rfl (by kernel_rfl) (by kernel_rfl) (by kernel_rfl) (fun _ _ _ h => h) (Or.inl ⟨rfl, ?c4019⟩) hH ?r4019
                        case c4019 => (intro w' _; go_simp; (try with_reducible rfl))
                        try simp only [Act.put, List.setIfInBounds_toArray, List.set_cons_zero, List.set_cons_succ]
                        refine wpAnyH_take (i := 20) (oi := ⟨some 68, _, _, _, _, _⟩) (v := ?v4020) rfl (by kernel_rfl) (by kernel_rfl) (by kernel_rfl) (fun _ _ _ h => h) (Or.inl ⟨rfl, ?c4020⟩) hH ?r4020
                        case c4020 => (intro w' _; go_simp; (try with_reducible rfl))
                        try simp only [Act.put, List.setIfInBounds_toArray, List.set_cons_zero, List.set_cons_succ]
                        refine wpAnyH_take (i := 21) (oi := ⟨some 69, _, _, _, _, _⟩) (v := ?v4021) rfl (by kernel_rfl) (by kernel_rfl) (by kernel_rfl) (fun _ _ _ h => h) (Or.inl ⟨rfl, ?c4021⟩) hH ?r4021
                        case c4021 => (intro w' _; go_simp; first | (with_reducible rfl) | (rw [if_pos (by omega)]))
                        try simp only [Act.put, List.setIfInBounds_toArray, List.set_cons_zero, List.set_cons_succ]
                        refine wpAnyH_take (i := 22) (oi := ⟨some 70, _, _, _, _, _⟩) (v := ?v4022) rfl (by kernel_rfl) (by kernel_rfl) (by kernel_rfl) (fun _ _ _ h => h) (Or.inl ⟨rfl, ?c4022⟩) hH ?r4022
                        case c4022 => (intro w' _; go_simp; (try with_reducible rfl))
                        try simp only [Act.put, List.setIfInBounds_toArray, List.set_cons_zero, List.set_cons_succ]
                        refine wpAnyH_take (i := 23) (oi := ⟨some 71, _, _, _, _, _⟩) (v := ?v4023) rfl (by kernel_rfl) (by kernel_rfl) (by kernel_rfl) (fun _ _ _ h => h) (Or.inl ⟨rfl, ?c4023⟩) hH ?r4023
                        case c4023 => (intro w' hS; (try dsimp only at hS); go_simp; (try with_reducible rfl))
                        try simp only [Act.put, List.setIfInBounds_toArray, List.set_cons_zero, List.set_cons_succ]
                        refine wpAnyH_take (i := 24) (oi := ⟨some 72, _, _, _, _, _⟩) (v := ?v4024) rfl (by kernel_rfl) (by kernel_rfl) (by kernel_rfl) (fun _ _ _ h => h) (Or.inl ⟨rfl, ?c4024⟩) hH ?r4024
                        case c4024 => (intro w' _; go_simp; (try with_reducible rfl))
                        try simp only [Act.put, List.setIfInBounds_toArray, List.set_cons_zero, List.set_cons_succ]
                        refine wpAnyH_take (i := 25) (oi := ⟨some 73, _, _, _, _, _⟩) (v := ?v4025) rfl (by kernel_rfl) (by kernel_rfl) (by kernel_rfl) (fun _ _ _ h => h) (Or.inl ⟨rfl, ?c4025⟩) hH ?r4025
                        case c4025 => (intro w' _; go_simp; (try with_reducible rfl))
                        try simp only [Act.put, List.setIfInBounds_toArray, List.set_cons_zero, List.set_cons_succ]
                        refine wpAnyH_take (i := 26) (oi := ⟨some 74, _, _, _, _, _⟩) (v := undef) rfl (by kernel_rfl) (by kernel_rfl) (by kernel_rfl) (fun _ _ _ h => h) (Or.inr ⟨rfl, rfl⟩) hH ?_
                        try simp only [Act.put, List.setIfInBounds_toArray, List.set_cons_zero, List.set_cons_succ]
                        refine wpAnyH_take (i := 27) (oi := ⟨some 75, _, _, _, _, _⟩) (v := undef) rfl (by kernel_rfl) (by kernel_rfl) (by kernel_rfl) (fun _ _ _ h => h) (Or.inr ⟨rfl, rfl⟩) hH ?_
                        try simp only [Act.put, List.setIfInBounds_toArray, List.set_cons_zero, List.set_cons_succ]
                        refine wpAnyH_take (i := 28) (oi := ⟨some 76, _, _, _, _, _⟩) (v := undef) rfl (by kernel_rfl) (by kernel_rfl) (by kernel_rfl) (fun _ _ _ h => h) (Or.inr ⟨rfl, rfl⟩) hH ?_
                        try simp only [Act.put, List.setIfInBounds_toArray, List.set_cons_zero, List.set_cons_succ]
                        refine wpAnyH_take (i := 29) (oi := ⟨some 77, _, _, _, _, _⟩) (v := undef) rfl (by kernel_rfl) (by kernel_rfl) (by kernel_rfl) (fun _ _ _ h => h) (Or.inr ⟨rfl, rfl⟩) hH ?_
                        try simp only [Act.put, List.setIfInBounds_toArray, List.set_cons_zero, List.set_cons_succ]
                        refine wpAnyH_take (i := 30) (oi := ⟨some 78, _, _, _, _, _⟩) (v := undef) rfl (by kernel_rfl) (by kernel_rfl) (by kernel_rfl) (fun _ _ _ h => h) (Or.inr ⟨rfl, rfl⟩) hH ?_
                        try simp only [Act.put, List.setIfInBounds_toArray, List.set_cons_zero, List.set_cons_succ]
                        refine wpAnyH_take (i := 31) (oi := ⟨some 79, _, _, _, _, _⟩) (v := undef) rfl (by kernel_rfl) (by kernel_rfl) (by kernel_rfl) (fun _ _ _ h => h) (Or.inr ⟨rfl, rfl⟩) hH ?_
                        try simp only [Act.put, List.setIfInBounds_toArray, List.set_cons_zero, List.set_cons_succ]
                        refine wpAnyH_take (i := 32) (oi := ⟨some 80, _, _, _, _, _⟩) (v := ?v4032) rfl (by kernel_rfl) (by kernel_rfl) (by kernel_rfl) (fun _ _ _ h => h) (Or.inl ⟨rfl, ?c4032⟩) hH ?r4032
                        case c4032 => (intro w' _; go_simp; (try with_reducible rfl))
                        try simp only [Act.put, List.setIfInBounds_toArray, List.set_cons_zero, List.set_cons_succ]
                        refine wpAnyH_take (i := 33) (oi := ⟨some 81, _, _, _, _, _⟩) (v := ?v4033) rfl (by kernel_rfl) (by kernel_rfl) (by kernel_rfl) (fun _ _ _ h => h) (Or.inl ⟨rfl, ?c4033⟩) hH ?r4033
                        case c4033 => (intro w' _; go_simp; (try with_reducible rfl))
                        try simp only [Act.put, List.setIfInBounds_toArray, List.set_cons_zero, List.set_cons_succ]
                        refine wpAnyH_take (i := 34) (oi := ⟨some 82, _, _, _, _, _⟩) (v := ?v4034) rfl (by kernel_rfl) (by kernel_rfl) (by kernel_rfl) (fun _ _ _ h => h) (Or.inl ⟨rfl, ?c4034⟩) hH ?r4034
                        case c4034 => (intro w' _; go_simp; (try with_reducible rfl))
                        try simp only [Act.put, List.setIfInBounds_toArray, List.set_cons_zero, List.set_cons_succ]
                        refine wpAnyH_take (i := 35) (oi := ⟨some 83, _, _, _, _, _⟩) (v := ?v4035) rfl (by kernel_rfl) (by kernel_rfl) (by kernel_rfl) (fun _ _ _ h => h) (Or.inl ⟨rfl, ?c4035⟩) hH ?r4035
                        case c4035 => (intro w' _; go_simp; (try with_reducible rfl))
                        try simp only [Act.put, List.setIfInBounds_toArray, List.set_cons_zero, List.set_cons_succ]
                        refine wpAnyH_take (i := 36) (oi := ⟨some 84, _, _, _, _, _⟩) (v := ?v4036) rfl (by kernel_rfl) (by kernel_rfl) (by kernel_rfl) (fun _ _ _ h => h) (Or.inl ⟨rfl, ?c4036⟩) hH ?r4036
                        case c4036 => (intro w' _; go_simp; (try with_reducible rfl))
                        try simp only [Act.put, List.setIfInBounds_toArray, List.set_cons_zero, List.set_cons_succ]
                        refine wpAnyH_take (i := 37) (oi := ⟨some 85, _, _, _, _, _⟩) (v := ?v4037) rfl (by kernel_rfl) (by kernel_rfl) (by kernel_rfl) (fun _ _ _ h => h) (Or.inl ⟨rfl, ?c4037⟩) hH ?r4037
                        case c4037 => (intro w' _; go_simp; first | (with_reducible rfl) | (rw [if_pos (by omega)]))
                        try simp only [Act.put, List.setIfInBounds_toArray, List.set_cons_zero, List.set_cons_succ]
                        refine wpAnyH_take (i := 38) (oi := ⟨some 86, _, _, _, _, _⟩) (v := ?v4038) rfl (by kernel_rfl) (by kernel_rfl) (by kernel_rfl) (fun _ _ _ h => h) (Or.inl ⟨rfl, ?c4038⟩) hH ?r4038
                        case c4038 => (intro w' hS; (try dsimp only at hS); go_simp; (try with_reducible rfl))
                        try simp only [Act.put, List.setIfInBounds_toArray, List.set_cons_zero, List.set_cons_succ]
                        refine wpAnyH_take (i := 39) (oi := ⟨some 87, _, _, _, _, _⟩) (v := ?v4039) rfl (by kernel_rfl) (by kernel_rfl) (by kernel_rfl) (fun _ _ _ h => h) (Or.inl ⟨rfl, ?c4039⟩) hH ?r4039
                        case c4039 => (intro w' _; go_simp; (try with_reducible rfl))
                        try simp only [Act.put, List.setIfInBounds_toArray, List.set_cons_zero, List.set_cons_succ]
                        refine wpAnyH_take (i := 40) (oi := ⟨some 88, _, _, _, _, _⟩) (v := ?v4040) rfl (by kernel_rfl) (by kernel_rfl) (by kernel_rfl) (fun _ _ _ h => h) (Or.inl ⟨rfl, ?c4040⟩) hH ?r4040
                        case c4040 => (intro w' _; go_simp; (try with_reducible rfl))
                        try simp only [Act.put, List.setIfInBounds_toArray, List.set_cons_zero, List.set_cons_succ]
                        refine wpAnyH_done (by kernel_rfl) ?_ _
                        have HFB := Lib.hid hH.2.2.2.2.2.2.2.2.out
                        have HFK := Lib.hid hH.2.2.2.2.2.2.2.1.out
                        clear hH
                        go_wp2_with fail
                        go_ret2
                        exact ⟨j, 17, rfl, HT.out, HFB.out⟩
                    · have dk : (k1 == 6) = false := by simpa using hk1
                      have HK1 := Lib.hid hk1
                      clear hk1
                      by_cases hk2 : k2 = 6
                      · have dk2 : (k2 == 6) = true := by simpa using hk2
                        have HK2 := Lib.hid hk2
                        clear hk2
                        cases hB : ahB (fn l) j m with
                        | true =>
                          have HNR : Hid (∀ q, q < m + 1 → ¬ Ra (fn l) q j) := fun q hq hr => by
                            by_cases e : q = m
                            · subst e
                              exact hr.2.2.2.2.2 (ahB_yes hjm hB)
                            · exact HW2.out.2.2 q (by omega) hr
                          rw [hB] at x0
                          clear hB
                          go_wp2_with fail
                          refine wp_region_held_drew (S := (fun w' => w'.cell? ⟨g, m, none⟩ = some (.bool true) ∧ w'.cell? ⟨lb, off + m * 3, none⟩ = some (.int .i64 t1) ∧ w'.cell? ⟨lb, off + m * 3 + 1, none⟩ = some (.int .i64 k1) ∧ w'.cell? ⟨lb, off + m * 3 + 2, none⟩ = some (.int .i64 p1) ∧ w'.cell? ⟨lb, off + j * 3, none⟩ = some (.int .i64 t2) ∧ w'.cell? ⟨lb, off + j * 3 + 1, none⟩ = some (.int .i64 k2) ∧ w'.cell? ⟨lb, off + j * 3 + 2, none⟩ = some (.int .i64 p2) ∧ Hid (Blk w' g (blA (j + 1) (ahB (fn l) j)) 4) ∧ Hid (Below w.heap.size w w'))) (by kernel_rfl) (⟨x0, y0, y1, y2, z0, z1, z2, (show Hid _ from HW2.out.2.1.drew), (show Hid _ from HW2.out.1.drew)⟩) (fun hH => ?_)
                          refine wpAnyH_take (i := 0) (oi := ⟨some 48, _, _, _, _, _⟩) (v := ?v5001) rfl (by kernel_rfl) (by kernel_rfl) (by kernel_rfl) (fun _ _ _ h => h) (Or.inl ⟨rfl, ?c5001⟩) hH ?r5001
                          case c5001 => (intro w' _; go_simp; (try with_reducible rfl))
                          try simp only [Act.put, List.setIfInBounds_toArray, List.set_cons_zero, List.set_cons_succ]
                          refine wpAnyH_take (i := 1) (oi := ⟨some 49, _, _, _, _, _⟩) (v := ?v5002) rfl (by kernel_rfl) (by kernel_rfl) (by kernel_rfl) (fun _ _ _ h => h) (Or.inl ⟨rfl, ?c5002⟩) hH ?r5002
                          case c5002 => (intro w' _; go_simp; (try with_reducible rfl))
                          try simp only [Act.put, List.setIfInBounds_toArray, List.set_cons_zero, List.set_cons_succ]
                          refine wpAnyH_take (i := 2) (oi := ⟨some 50, _, _, _, _, _⟩) (v := ?v5003) rfl (by kernel_rfl) (by kernel_rfl) (by kernel_rfl) (fun _ _ _ h => h) (Or.inl ⟨rfl, ?c5003⟩) hH ?r5003
                          case c5003 => (intro w' _; go_simp; first | (with_reducible rfl) | (rw [if_pos (by omega)]))
                          try simp only [Act.put, List.setIfInBounds_toArray, List.set_cons_zero, List.set_cons_succ]
                          refine wpAnyH_take (i := 3) (oi := ⟨some 51, _, _, _, _, _⟩) (v := ?v5004) rfl (by kernel_rfl) (by kernel_rfl) (by kernel_rfl) (fun _ _ _ h => h) (Or.inl ⟨rfl, ?c5004⟩) hH ?r5004
                          case c5004 => (intro w' hS; (try dsimp only at hS); go_simp; (try with_reducible rfl))
                          try simp only [Act.put, List.setIfInBounds_toArray, List.set_cons_zero, List.set_cons_succ]
                          refine wpAnyH_ready (rs := [4]) (by kernel_rfl) (by simp) (AllReadyH.cons rfl (fun K hK => ?_) (AllReadyH.nil))
                          go_simp
                          go_at_call 15
                          refine (plain_any ⟨t1, k1, p1⟩ _).mono ?_
                          rintro e w9 ⟨rfl, hb9⟩
                          rw [HPL.out]
                          refine hK.out _ _ (⟨(hb9.cell (p := ⟨g, m, none⟩) HGL.out).trans hH.1, ((hb9.cell (p := ⟨lb, off + m * 3, none⟩) HLB2.out)).trans hH.2.1, ((hb9.cell (p := ⟨lb, off + m * 3 + 1, none⟩) HLB2.out)).trans hH.2.2.1, ((hb9.cell (p := ⟨lb, off + m * 3 + 2, none⟩) HLB2.out)).trans hH.2.2.2.1, ((hb9.cell (p := ⟨lb, off + j * 3, none⟩) HLB2.out)).trans hH.2.2.2.2.1, ((hb9.cell (p := ⟨lb, off + j * 3 + 1, none⟩) HLB2.out)).trans hH.2.2.2.2.2.1, ((hb9.cell (p := ⟨lb, off + j * 3 + 2, none⟩) HLB2.out)).trans hH.2.2.2.2.2.2.1, (show Hid _ from hH.2.2.2.2.2.2.2.1.out.next hb9), (show Hid _ from hH.2.2.2.2.2.2.2.2.out.trans (hb9.mono hH.2.2.2.2.2.2.2.2.out.size))⟩) (fun hH => ?_)
                          clear hK K
                          clear hb9
                          try simp only [Act.put, List.setIfInBounds_toArray, List.set_cons_zero, List.set_cons_succ]
                          refine wpAnyH_take (i := 5) (oi := ⟨some 53, _, _, _, _, _⟩) (v := ?v5005) rfl (by kernel_rfl) (by kernel_rfl) (by kernel_rfl) (fun _ _ _ h => h) (Or.inl ⟨rfl, ?c5005⟩) hH ?r5005
                          case c5005 => (intro w' _; go_simp; (try with_reducible rfl))
                          try simp only [Act.put, List.setIfInBounds_toArray, List.set_cons_zero, List.set_cons_succ]
                          refine wpAnyH_take (i := 6) (oi := ⟨some 54, _, _, _, _, _⟩) (v := ?v5006) rfl (by kernel_rfl) (by kernel_rfl) (by kernel_rfl) (fun _ _ _ h => h) (Or.inl ⟨rfl, ?c5006⟩) hH ?r5006
                          case c5006 => (intro w' _; go_simp; (try with_reducible rfl))
                          try simp only [Act.put, List.setIfInBounds_toArray, List.set_cons_zero, List.set_cons_succ]
                          refine wpAnyH_take (i := 7) (oi := ⟨some 55, _, _, _, _, _⟩) (v := ?v5007) rfl (by kernel_rfl) (by kernel_rfl) (by kernel_rfl) (fun _ _ _ h => h) (Or.inl ⟨rfl, ?c5007⟩) hH ?r5007
                          case c5007 => (intro w' _; go_simp; (try with_reducible rfl))
                          try simp only [Act.put, List.setIfInBounds_toArray, List.set_cons_zero, List.set_cons_succ]
                          refine wpAnyH_take (i := 8) (oi := ⟨some 56, _, _, _, _, _⟩) (v := ?v5008) rfl (by kernel_rfl) (by kernel_rfl) (by kernel_rfl) (fun _ _ _ h => h) (Or.inl ⟨rfl, ?c5008⟩) hH ?r5008
                          case c5008 => (intro w' _; go_simp; first | (with_reducible rfl) | (rw [if_pos (by omega)]))
                          try simp only [Act.put, List.setIfInBounds_toArray, List.set_cons_zero, List.set_cons_succ]
                          refine wpAnyH_take (i := 9) (oi := ⟨some 57, _, _, _, _, _⟩) (v := ?v5009) rfl (by kernel_rfl) (by kernel_rfl) (by kernel_rfl) (fun _ _ _ h => h) (Or.inl ⟨rfl, ?c5009⟩) hH ?r5009
                          case c5009 => (intro w' _; go_simp; (try with_reducible rfl))
                          try simp only [Act.put, List.setIfInBounds_toArray, List.set_cons_zero, List.set_cons_succ]
                          refine wpAnyH_take (i := 10) (oi := ⟨some 58, _, _, _, _, _⟩) (v := ?v5010) rfl (by kernel_rfl) (by kernel_rfl) (by kernel_rfl) (fun _ _ _ h => h) (Or.inl ⟨rfl, ?c5010⟩) hH ?r5010
                          case c5010 => (intro w' hS; (try dsimp only at hS); go_simp; (try with_reducible rfl))
                          try simp only [Act.put, List.setIfInBounds_toArray, List.set_cons_zero, List.set_cons_succ]
                          refine wpAnyH_take (i := 11) (oi := ⟨some 59, _, _, _, _, _⟩) (v := ?v5011) rfl (by kernel_rfl) (by kernel_rfl) (by kernel_rfl) (fun _ _ _ h => h) (Or.inl ⟨rfl, ?c5011⟩) hH ?r5011
                          case c5011 => (intro w' _; go_simp; (try with_reducible rfl))
                          try simp only [Act.put, List.setIfInBounds_toArray, List.set_cons_zero, List.set_cons_succ]
                          refine wpAnyH_take (i := 12) (oi := ⟨some 60, _, _, _, _, _⟩) (v := ?v5012) rfl (by kernel_rfl) (by kernel_rfl) (by kernel_rfl) (fun _ _ _ h => h) (Or.inl ⟨rfl, ?c5012⟩) hH ?r5012
                          case c5012 => (intro w' _; go_simp; (try with_reducible rfl))
                          try simp only [Act.put, List.setIfInBounds_toArray, List.set_cons_zero, List.set_cons_succ]
                          refine wpAnyH_take (i := 13) (oi := ⟨some 61, _, _, _, _, _⟩) (v := ?v5013) rfl (by kernel_rfl) (by kernel_rfl) (by kernel_rfl) (fun _ _ _ h => h) (Or.inl ⟨rfl, ?c5013⟩) hH ?r5013
                          case c5013 => (intro w' _; go_simp; first | (with_reducible rfl) | (rw [if_pos (by omega)]))
                          try simp only [Act.put, List.setIfInBounds_toArray, List.set_cons_zero, List.set_cons_succ]
                          refine wpAnyH_take (i := 14) (oi := ⟨some 62, _, _, _, _, _⟩) (v := ?v5014) rfl (by kernel_rfl) (by kernel_rfl) (by kernel_rfl) (fun _ _ _ h => h) (Or.inl ⟨rfl, ?c5014⟩) hH ?r5014
                          case c5014 => (intro w' _; go_simp; (try with_reducible rfl))
                          try simp only [Act.put, List.setIfInBounds_toArray, List.set_cons_zero, List.set_cons_succ]
                          refine wpAnyH_take (i := 15) (oi := ⟨some 63, _, _, _, _, _⟩) (v := ?v5015) rfl (by kernel_rfl) (by kernel_rfl) (by kernel_rfl) (fun _ _ _ h => h) (Or.inl ⟨rfl, ?c5015⟩) hH ?r5015
                          case c5015 => (intro w' hS; (try dsimp only at hS); go_simp; (try with_reducible rfl))
                          try simp only [Act.put, List.setIfInBounds_toArray, List.set_cons_zero, List.set_cons_succ]
                          refine wpAnyH_take (i := 16) (oi := ⟨some 64, _, _, _, _, _⟩) (v := ?v5016) rfl (by kernel_rfl) (by kernel_rfl) (by kernel_rfl) (fun _ _ _ h => h) (Or.inl ⟨rfl, ?c5016⟩) hH ?r5016
                          case c5016 => (intro w' _; go_simp; (try with_reducible rfl))
                          try simp only [Act.put, List.setIfInBounds_toArray, List.set_cons_zero, List.set_cons_succ]
                          refine wpAnyH_take (i := 17) (oi := ⟨some 65, _, _, _, _, _⟩) (v := ?v5017) rfl (by kernel_rfl) (by kernel_rfl) (by kernel_rfl) (fun _ _ _ h => h) (Or.inl ⟨rfl, ?c5017⟩) hH ?r5017
                          case c5017 => (intro w' _; go_simp; (try with_reducible rfl))
                          try simp only [Act.put, List.setIfInBounds_toArray, List.set_cons_zero, List.set_cons_succ]
                          refine wpAnyH_take (i := 18) (oi := ⟨some 66, _, _, _, _, _⟩) (v := ?v5018) rfl (by kernel_rfl) (by kernel_rfl) (by kernel_rfl) (fun _ _ _ h => h) (Or.inl ⟨rfl, ?c5018⟩) hH ?r5018
                          case c5018 => (intro w' _; go_simp; (try with_reducible rfl))
                          try simp only [Act.put, List.setIfInBounds_toArray, List.set_cons_zero, List.set_cons_succ]
                          refine wpAnyH_take (i := 19) (oi := ⟨some 67, _, _, _, _, _⟩) (v := ?v5019) rfl (by kernel_rfl) (by kernel_rfl) (by kernel_rfl) (fun _ _ _ h => h) (Or.inl ⟨rfl, ?c5019⟩) hH ?r5019
                          case c5019 => (intro w' _; go_simp; (try with_reducible rfl))
                          try simp only [Act.put, List.setIfInBounds_toArray, List.set_cons_zero, List.set_cons_succ]
                          refine wpAnyH_take (i := 20) (oi := ⟨some 68, _, _, _, _, _⟩) (v := ?v5020) rfl (by kernel_rfl) (by kernel_rfl) (by kernel_rfl) (fun _ _ _ h => h) (Or.inl ⟨rfl, ?c5020⟩) hH ?r5020
                          case c5020 => (intro w' _; go_simp; (try with_reducible rfl))
                          try simp only [Act.put, List.setIfInBounds_toArray, List.set_cons_zero, List.set_cons_succ]
                          refine wpAnyH_take (i := 21) (oi := ⟨some 69, _, _, _, _, _⟩) (v := ?v5021) rfl (by kernel_rfl) (by kernel_rfl) (by kernel_rfl) (fun _ _ _ h => h) (Or.inl ⟨rfl, ?c5021⟩) hH ?r5021
                          case c5021 => (intro w' _; go_simp; first | (with_reducible rfl) | (rw [if_pos (by omega)]))
                          try simp only [Act.put, List.setIfInBounds_toArray, List.set_cons_zero, List.set_cons_succ]
                          refine wpAnyH_take (i := 22) (oi := ⟨some 70, _, _, _, _, _⟩) (v := ?v5022) rfl (by kernel_rfl) (by kernel_rfl) (by kernel_rfl) (fun _ _ _ h => h) (Or.inl ⟨rfl, ?c5022⟩) hH ?r5022
                          case c5022 => (intro w' _; go_simp; (try with_reducible rfl))
                          try simp only [Act.put, List.setIfInBounds_toArray, List.set_cons_zero, List.set_cons_succ]
                          refine wpAnyH_take (i := 23) (oi := ⟨some 71, _, _, _, _, _⟩) (v := ?v5023) rfl (by kernel_rfl) (by kernel_rfl) (by kernel_rfl) (fun _ _ _ h => h) (Or.inl ⟨rfl, ?c5023⟩) hH ?r5023
                          case c5023 => (intro w' hS; (try dsimp only at hS); go_simp; (try with_reducible rfl))
                          try simp only [Act.put, List.setIfInBounds_toArray, List.set_cons_zero, List.set_cons_succ]
                          refine wpAnyH_take (i := 24) (oi := ⟨some 72, _, _, _, _, _⟩) (v := ?v5024) rfl (by kernel_rfl) (by kernel_rfl) (by kernel_rfl) (fun _ _ _ h => h) (Or.inl ⟨rfl, ?c5024⟩) hH ?r5024
                          case c5024 => (intro w' _; go_simp; (try with_reducible rfl))
                          try simp only [Act.put, List.setIfInBounds_toArray, List.set_cons_zero, List.set_cons_succ]
                          refine wpAnyH_take (i := 25) (oi := ⟨some 73, _, _, _, _, _⟩) (v := ?v5025) rfl (by kernel_rfl) (by kernel_rfl) (by kernel_rfl) (fun _ _ _ h => h) (Or.inl ⟨rfl, ?c5025⟩) hH ?r5025
                          case c5025 => (intro w' _; go_simp; (try with_reducible rfl))
                          try simp only [Act.put, List.setIfInBounds_toArray, List.set_cons_zero, List.set_cons_succ]
                          refine wpAnyH_take (i := 26) (oi := ⟨some 74, _, _, _, _, _⟩) (v := ?v5026) rfl (by kernel_rfl) (by kernel_rfl) (by kernel_rfl) (fun _ _ _ h => h) (Or.inl ⟨rfl, ?c5026⟩) hH ?r5026
                          case c5026 => (intro w' _; go_simp; (try with_reducible rfl))
                          try simp only [Act.put, List.setIfInBounds_toArray, List.set_cons_zero, List.set_cons_succ]
                          refine wpAnyH_take (i := 27) (oi := ⟨some 75, _, _, _, _, _⟩) (v := ?v5027) rfl (by kernel_rfl) (by kernel_rfl) (by kernel_rfl) (fun _ _ _ h => h) (Or.inl ⟨rfl, ?c5027⟩) hH ?r5027
                          case c5027 => (intro w' _; go_simp; (try with_reducible rfl))
                          try simp only [Act.put, List.setIfInBounds_toArray, List.set_cons_zero, List.set_cons_succ]
                          refine wpAnyH_take (i := 28) (oi := ⟨some 76, _, _, _, _, _⟩) (v := ?v5028) rfl (by kernel_rfl) (by kernel_rfl) (by kernel_rfl) (fun _ _ _ h => h) (Or.inl ⟨rfl, ?c5028⟩) hH ?r5028
                          case c5028 => (intro w' _; go_simp; first | (with_reducible rfl) | (rw [if_pos (by omega)]))
                          try simp only [Act.put, List.setIfInBounds_toArray, List.set_cons_zero, List.set_cons_succ]
                          refine wpAnyH_take (i := 29) (oi := ⟨some 77, _, _, _, _, _⟩) (v := ?v5029) rfl (by kernel_rfl) (by kernel_rfl) (by kernel_rfl) (fun _ _ _ h => h) (Or.inl ⟨rfl, ?c5029⟩) hH ?r5029
                          case c5029 => (intro w' _; go_simp; (try with_reducible rfl))
                          try simp only [Act.put, List.setIfInBounds_toArray, List.set_cons_zero, List.set_cons_succ]
                          refine wpAnyH_take (i := 30) (oi := ⟨some 78, _, _, _, _, _⟩) (v := ?v5030) rfl (by kernel_rfl) (by kernel_rfl) (by kernel_rfl) (fun _ _ _ h => h) (Or.inl ⟨rfl, ?c5030⟩) hH ?r5030
                          case c5030 => (intro w' hS; (try dsimp only at hS); go_simp; (try with_reducible rfl))
                          try simp only [Act.put, List.setIfInBounds_toArray, List.set_cons_zero, List.set_cons_succ]
                          refine wpAnyH_take (i := 31) (oi := ⟨some 79, _, _, _, _, _⟩) (v := ?v5031) rfl (by kernel_rfl) (by kernel_rfl) (by kernel_rfl) (fun _ _ _ h => h) (Or.inl ⟨rfl, ?c5031⟩) hH ?r5031
                          case c5031 => (intro w' _; go_simp; (try with_reducible rfl))
                          try simp only [Act.put, List.setIfInBounds_toArray, List.set_cons_zero, List.set_cons_succ]
                          refine wpAnyH_take (i := 32) (oi := ⟨some 80, _, _, _, _, _⟩) (v := ?v5032) rfl (by kernel_rfl) (by kernel_rfl) (by kernel_rfl) (fun _ _ _ h => h) (Or.inl ⟨rfl, ?c5032⟩) hH ?r5032
                          case c5032 => (intro w' _; go_simp; (try with_reducible rfl))
                          try simp only [Act.put, List.setIfInBounds_toArray, List.set_cons_zero, List.set_cons_succ]
                          refine wpAnyH_take (i := 33) (oi := ⟨some 81, _, _, _, _, _⟩) (v := ?v5033) rfl (by kernel_rfl) (by kernel_rfl) (by kernel_rfl) (fun _ _ _ h => h) (Or.inl ⟨rfl, ?c5033⟩) hH ?r5033
                          case c5033 => (intro w' _; go_simp; (try with_reducible rfl))
                          try simp only [Act.put, List.setIfInBounds_toArray, List.set_cons_zero, List.set_cons_succ]
                          refine wpAnyH_take (i := 34) (oi := ⟨some 82, _, _, _, _, _⟩) (v := ?v5034) rfl (by kernel_rfl) (by kernel_rfl) (by kernel_rfl) (fun _ _ _ h => h) (Or.inl ⟨rfl, ?c5034⟩) hH ?r5034
                          case c5034 => (intro w' _; go_simp; (try with_reducible rfl))
                          try simp only [Act.put, List.setIfInBounds_toArray, List.set_cons_zero, List.set_cons_succ]
                          refine wpAnyH_take (i := 35) (oi := ⟨some 83, _, _, _, _, _⟩) (v := ?v5035) rfl (by kernel_rfl) (by kernel_rfl) (by kernel_rfl) (fun _ _ _ h => h) (Or.inl ⟨rfl, ?c5035⟩) hH ?r5035
                          case c5035 => (intro w' _; go_simp; (try with_reducible rfl))
                          try simp only [Act.put, List.setIfInBounds_toArray, List.set_cons_zero, List.set_cons_succ]
                          refine wpAnyH_take (i := 36) (oi := ⟨some 84, _, _, _, _, _⟩) (v := ?v5036) rfl (by kernel_rfl) (by kernel_rfl) (by kernel_rfl) (fun _ _ _ h => h) (Or.inl ⟨rfl, ?c5036⟩) hH ?r5036
                          case c5036 => (intro w' _; go_simp; (try with_reducible rfl))
                          try simp only [Act.put, List.setIfInBounds_toArray, List.set_cons_zero, List.set_cons_succ]
                          refine wpAnyH_take (i := 37) (oi := ⟨some 85, _, _, _, _, _⟩) (v := ?v5037) rfl (by kernel_rfl) (by kernel_rfl) (by kernel_rfl) (fun _ _ _ h => h) (Or.inl ⟨rfl, ?c5037⟩) hH ?r5037
                          case c5037 => (intro w' _; go_simp; first | (with_reducible rfl) | (rw [if_pos (by omega)]))
                          try simp only [Act.put, List.setIfInBounds_toArray, List.set_cons_zero, List.set_cons_succ]
                          refine wpAnyH_take (i := 38) (oi := ⟨some 86, _, _, _, _, _⟩) (v := ?v5038) rfl (by kernel_rfl) (by kernel_rfl) (by kernel_rfl) (fun _ _ _ h => h) (Or.inl ⟨rfl, ?c5038⟩) hH ?r5038
                          case c5038 => (intro w' hS; (try dsimp only at hS); go_simp; (try with_reducible rfl))
                          try simp only [Act.put, List.setIfInBounds_toArray, List.set_cons_zero, List.set_cons_succ]
                          refine wpAnyH_take (i := 39) (oi := ⟨some 87, _, _, _, _, _⟩) (v := ?v5039) rfl (by kernel_rfl) (by kernel_rfl) (by kernel_rfl) (fun _ _ _ h => h) (Or.inl ⟨rfl, ?c5039⟩) hH ?r5039
                          case c5039 => (intro w' _; go_simp; (try with_reducible rfl))
                          try simp only [Act.put, List.setIfInBounds_toArray, List.set_cons_zero, List.set_cons_succ]
                          refine wpAnyH_take (i := 40) (oi := ⟨some 88, _, _, _, _, _⟩) (v := ?v5040) rfl (by kernel_rfl) (by kernel_rfl) (by kernel_rfl) (fun _ _ _ h => h) (Or.inl ⟨rfl, ?c5040⟩) hH ?r5040
                          case c5040 => (intro w' _; go_simp; (try with_reducible rfl))
                          try simp only [Act.put, List.setIfInBounds_toArray, List.set_cons_zero, List.set_cons_succ]
                          refine wpAnyH_done (by kernel_rfl) ?_ _
                          have HFB := Lib.hid hH.2.2.2.2.2.2.2.2.out
                          have HFK := Lib.hid hH.2.2.2.2.2.2.2.1.out
                          clear hH
                          go_wp2_with fail
                          go_roundw
                          case rel => exact ⟨m + 1, by go_num, by omega, (show Hid _ from ⟨HFB.out, HFK.out, HNR.out⟩)⟩
                          case measure => simp [RowKit.intOf]; omega
                        | false =>
                          have HT : Hid (Tells (fn l) l.length (j : Int) 17) := .inr (.inl ⟨no_bad HBAD'.out, ⟨j, by rw [HN.out]; exact hjl, rfl, ⟨m, hjm, by rw [HX1.out, HX2.out]; exact HPQ.out, plB_kinds (by rw [HX1.out]; exact HPL.out), plB_kinds HPJ.out, by rw [HX1.out, HX2.out]; exact .inr HK2.out, ahB_not hB⟩, HR.out.2⟩, rfl⟩)
                          rw [hB] at x0
                          clear hB
                          go_wp2_with fail
                          refine wp_region_held_drew (S := (fun w' => w'.cell? ⟨g, m, none⟩ = some (.bool false) ∧ w'.cell? ⟨lb, off + m * 3, none⟩ = some (.int .i64 t1) ∧ w'.cell? ⟨lb, off + m * 3 + 1, none⟩ = some (.int .i64 k1) ∧ w'.cell? ⟨lb, off + m * 3 + 2, none⟩ = some (.int .i64 p1) ∧ w'.cell? ⟨lb, off + j * 3, none⟩ = some (.int .i64 t2) ∧ w'.cell? ⟨lb, off + j * 3 + 1, none⟩ = some (.int .i64 k2) ∧ w'.cell? ⟨lb, off + j * 3 + 2, none⟩ = some (.int .i64 p2) ∧ Hid (Blk w' g (blA (j + 1) (ahB (fn l) j)) 4) ∧ Hid (Below w.heap.size w w'))) (by kernel_rfl) (⟨x0, y0, y1, y2, z0, z1, z2, (show Hid _ from HW2.out.2.1.drew), (show Hid _ from HW2.out.1.drew)⟩) (fun hH => ?_)
                          refine wpAnyH_take (i := 0) (oi := ⟨some 48, _, _, _, _, _⟩) (v := ?v6001) rfl (by kernel_rfl) (by kernel_rfl) (by kernel_rfl) (fun _ _ _ h => h) (Or.inl ⟨rfl, ?c6001⟩) hH ?r6001
                          case c6001 => (intro w' _; go_simp; (try with_reducible rfl))
                          try simp only [Act.put, List.setIfInBounds_toArray, List.set_cons_zero, List.set_cons_succ]
                          refine wpAnyH_take (i := 1) (oi := ⟨some 49, _, _, _, _, _⟩) (v := ?v6002) rfl (by kernel_rfl) (by kernel_rfl) (by kernel_rfl) (fun _ _ _ h => h) (Or.inl ⟨rfl, ?c6002⟩) hH ?r6002
                          case c6002 => (intro w' _; go_simp; (try with_reducible rfl))
                          try simp only [Act.put, List.setIfInBounds_toArray, List.set_cons_zero, List.set_cons_succ]
                          refine wpAnyH_take (i := 2) (oi := ⟨some 50, _, _, _, _, _⟩) (v := ?v6003) rfl (by kernel_rfl) (by kernel_rfl) (by kernel_rfl) (fun _ _ _ h => h) (Or.inl ⟨rfl, ?c6003⟩) hH ?r6003
                          case c6003 => (intro w' _; go_simp; first | (with_reducible rfl) | (rw [if_pos (by omega)]))
                          try simp only [Act.put, List.setIfInBounds_toArray, List.set_cons_zero, List.set_cons_succ]
                          refine wpAnyH_take (i := 3) (oi := ⟨some 51, _, _, _, _, _⟩) (v := ?v6004) rfl (by kernel_rfl) (by kernel_rfl) (by kernel_rfl) (fun _ _ _ h => h) (Or.inl ⟨rfl, ?c6004⟩) hH ?r6004
                          case c6004 => (intro w' hS; (try dsimp only at hS); go_simp; (try with_reducible rfl))
                          try simp only [Act.put, List.setIfInBounds_toArray, List.set_cons_zero, List.set_cons_succ]
                          refine wpAnyH_ready (rs := [4]) (by kernel_rfl) (by simp) (AllReadyH.cons rfl (fun K hK => ?_) (AllReadyH.nil))
                          go_simp
                          go_at_call 15
                          refine (plain_any ⟨t1, k1, p1⟩ _).mono ?_
                          rintro e w9 ⟨rfl, hb9⟩
                          rw [HPL.out]
                          refine hK.out _ _ (⟨(hb9.cell (p := ⟨g, m, none⟩) HGL.out).trans hH.1, ((hb9.cell (p := ⟨lb, off + m * 3, none⟩) HLB2.out)).trans hH.2.1, ((hb9.cell (p := ⟨lb, off + m * 3 + 1, none⟩) HLB2.out)).trans hH.2.2.1, ((hb9.cell (p := ⟨lb, off + m * 3 + 2, none⟩) HLB2.out)).trans hH.2.2.2.1, ((hb9.cell (p := ⟨lb, off + j * 3, none⟩) HLB2.out)).trans hH.2.2.2.2.1, ((hb9.cell (p := ⟨lb, off + j * 3 + 1, none⟩) HLB2.out)).trans hH.2.2.2.2.2.1, ((hb9.cell (p := ⟨lb, off + j * 3 + 2, none⟩) HLB2.out)).trans hH.2.2.2.2.2.2.1, (show Hid _ from hH.2.2.2.2.2.2.2.1.out.next hb9), (show Hid _ from hH.2.2.2.2.2.2.2.2.out.trans (hb9.mono hH.2.2.2.2.2.2.2.2.out.size))⟩) (fun hH => ?_)
                          clear hK K
                          clear hb9
                          try simp only [Act.put, List.setIfInBounds_toArray, List.set_cons_zero, List.set_cons_succ]
                          refine wpAnyH_take (i := 5) (oi := ⟨some 53, _, _, _, _, _⟩) (v := ?v6005) rfl (by kernel_rfl) (by kernel_rfl) (by kernel_rfl) (fun _ _ _ h => h) (Or.inl ⟨rfl, ?c6005⟩) hH ?r6005
                          case c6005 => (intro w' _; go_simp; (try with_reducible rfl))
                          try simp only [Act.put, List.setIfInBounds_toArray, List.set_cons_zero, List.set_cons_succ]
                          refine wpAnyH_take (i := 6) (oi := ⟨some 54, _, _, _, _, _⟩) (v := ?v6006) rfl (by kernel_rfl) (by kernel_rfl) (by kernel_rfl) (fun _ _ _ h => h) (Or.inl ⟨rfl, ?c6006⟩) hH ?r6006
                          case c6006 => (intro w' _; go_simp; (try with_reducible rfl))
                          try simp only [Act.put, List.setIfInBounds_toArray, List.set_cons_zero, List.set_cons_succ]
                          refine wpAnyH_take (i := 7) (oi := ⟨some 55, _, _, _, _, _⟩) (v := ?v6007) rfl (by kernel_rfl) (by kernel_rfl) (by kernel_rfl) (fun _ _ _ h => h) (Or.inl ⟨rfl, ?c6007⟩) hH ?r6007
                          case c6007 => (intro w' _; go_simp; (try with_reducible rfl))
                          try simp only [Act.put, List.setIfInBounds_toArray, List.set_cons_zero, List.set_cons_succ]
                          refine wpAnyH_take (i := 8) (oi := ⟨some 56, _, _, _, _, _⟩) (v := ?v6008) rfl (by kernel_rfl) (by kernel_rfl) (by kernel_rfl) (fun _ _ _ h => h) (Or.inl ⟨rfl, ?c6008⟩) hH ?r6008
                          case c6008 => (intro w' _; go_simp; first | (with_reducible rfl) | (rw [if_pos (by omega)]))
                          try simp only [Act.put, List.setIfInBounds_toArray, List.set_cons_zero, List.set_cons_succ]
                          refine wpAnyH_take (i := 9) (oi := ⟨some 57, _, _, _, _, _⟩) (v := ?v6009) rfl (by kernel_rfl) (by kernel_rfl) (by kernel_rfl) (fun _ _ _ h => h) (Or.inl ⟨rfl, ?c6009⟩) hH ?r6009
                          case c6009 => (intro w' _; go_simp; (try with_reducible rfl))
                          try simp only [Act.put, List.setIfInBounds_toArray, List.set_cons_zero, List.set_cons_succ]
                          refine wpAnyH_take (i := 10) (oi := ⟨some 58, _, _, _, _, _⟩) (v := ?v6010) rfl (by kernel_rfl) (by kernel_rfl) (by kernel_rfl) (fun _ _ _ h => h) (Or.inl ⟨rfl, ?c6010⟩) hH ?r6010
                          case c6010 => (intro w' hS; (try dsimp only at hS); go_simp; (try with_reducible rfl))
                          try simp only [Act.put, List.setIfInBounds_toArray, List.set_cons_zero, List.set_cons_succ]
                          refine wpAnyH_take (i := 11) (oi := ⟨some 59, _, _, _, _, _⟩) (v := ?v6011) rfl (by kernel_rfl) (by kernel_rfl) (by kernel_rfl) (fun _ _ _ h => h) (Or.inl ⟨rfl, ?c6011⟩) hH ?r6011
                          case c6011 => (intro w' _; go_simp; (try with_reducible rfl))
                          try simp only [Act.put, List.setIfInBounds_toArray, List.set_cons_zero, List.set_cons_succ]
                          refine wpAnyH_take (i := 12) (oi := ⟨some 60, _, _, _, _, _⟩) (v := ?v6012) rfl (by kernel_rfl) (by kernel_rfl) (by kernel_rfl) (fun _ _ _ h => h) (Or.inl ⟨rfl, ?c6012⟩) hH ?r6012
                          case c6012 => (intro w' _; go_simp; (try with_reducible rfl))
                          try simp only [Act.put, List.setIfInBounds_toArray, List.set_cons_zero, List.set_cons_succ]
                          refine wpAnyH_take (i := 13) (oi := ⟨some 61, _, _, _, _, _⟩) (v := ?v6013) rfl (by kernel_rfl) (by kernel_rfl) (by kernel_rfl) (fun _ _ _ h => h) (Or.inl ⟨rfl, ?c6013⟩) hH ?r6013
                          case c6013 => (intro w' _; go_simp; first | (with_reducible rfl) | (rw [if_pos (by omega)]))
                          try simp only [Act.put, List.setIfInBounds_toArray, List.set_cons_zero, List.set_cons_succ]
                          refine wpAnyH_take (i := 14) (oi := ⟨some 62, _, _, _, _, _⟩) (v := ?v6014) rfl (by kernel_rfl) (by kernel_rfl) (by kernel_rfl) (fun _ _ _ h => h) (Or.inl ⟨rfl, ?c6014⟩) hH ?r6014
                          case c6014 => (intro w' _; go_simp; (try with_reducible rfl))
                          try simp only [Act.put, List.setIfInBounds_toArray, List.set_cons_zero, List.set_cons_succ]
                          refine wpAnyH_take (i := 15) (oi := ⟨some 63, _, _, _, _, _⟩) (v := ?v6015) rfl (by kernel_rfl) (by kernel_rfl) (by kernel_rfl) (fun _ _ _ h => h) (Or.inl ⟨rfl, ?c6015⟩) hH ?r6015
                          case c6015 => (intro w' hS; (try dsimp only at hS); go_simp; (try with_reducible rfl))
                          try simp only [Act.put, List.setIfInBounds_toArray, List.set_cons_zero, List.set_cons_succ]
                          refine wpAnyH_take (i := 16) (oi := ⟨some 64, _, _, _, _, _⟩) (v := ?v6016) rfl (by kernel_rfl) (by kernel_rfl) (by kernel_rfl) (fun _ _ _ h => h) (Or.inl ⟨rfl, ?c6016⟩) hH ?r6016
                          case c6016 => (intro w' _; go_simp; (try with_reducible rfl))
                          try simp only [Act.put, List.setIfInBounds_toArray, List.set_cons_zero, List.set_cons_succ]
                          refine wpAnyH_take (i := 17) (oi := ⟨some 65, _, _, _, _, _⟩) (v := ?v6017) rfl (by kernel_rfl) (by kernel_rfl) (by kernel_rfl) (fun _ _ _ h => h) (Or.inl ⟨rfl, ?c6017⟩) hH ?r6017
                          case c6017 => (intro w' _; go_simp; (try with_reducible rfl))
                          try simp only [Act.put, List.setIfInBounds_toArray, List.set_cons_zero, List.set_cons_succ]
                          refine wpAnyH_take (i := 18) (oi := ⟨some 66, _, _, _, _, _⟩) (v := ?v6018) rfl (by kernel_rfl) (by kernel_rfl) (by kernel_rfl) (fun _ _ _ h => h) (Or.inl ⟨rfl, ?c6018⟩) hH ?r6018
                          case c6018 => (intro w' _; go_simp; (try with_reducible rfl))
                          try simp only [Act.put, List.setIfInBounds_toArray, List.set_cons_zero, List.set_cons_succ]
                          refine wpAnyH_take (i := 19) (oi := ⟨some 67, _, _, _, _, _⟩) (v := ?v6019) rfl (by kernel_rfl) (by kernel_rfl) (by kernel_rfl) (fun _ _ _ h => h) (Or.inl ⟨rfl, ?c6019⟩) hH ?r6019
                          case c6019 => (intro w' _; go_simp; (try with_reducible rfl))
                          try simp only [Act.put, List.setIfInBounds_toArray, List.set_cons_zero, List.set_cons_succ]
                          refine wpAnyH_take (i := 20) (oi := ⟨some 68, _, _, _, _, _⟩) (v := ?v6020) rfl (by kernel_rfl) (by kernel_rfl) (by kernel_rfl) (fun _ _ _ h => h) (Or.inl ⟨rfl, ?c6020⟩) hH ?r6020
                          case c6020 => (intro w' _; go_simp; (try with_reducible rfl))
                          try simp only [Act.put, List.setIfInBounds_toArray, List.set_cons_zero, List.set_cons_succ]
                          refine wpAnyH_take (i := 21) (oi := ⟨some 69, _, _, _, _, _⟩) (v := ?v6021) rfl (by kernel_rfl) (by kernel_rfl) (by kernel_rfl) (fun _ _ _ h => h) (Or.inl ⟨rfl, ?c6021⟩) hH ?r6021
                          case c6021 => (intro w' _; go_simp; first | (with_reducible rfl) | (rw [if_pos (by omega)]))
                          try simp only [Act.put, List.setIfInBounds_toArray, List.set_cons_zero, List.set_cons_succ]
                          refine wpAnyH_take (i := 22) (oi := ⟨some 70, _, _, _, _, _⟩) (v := ?v6022) rfl (by kernel_rfl) (by kernel_rfl) (by kernel_rfl) (fun _ _ _ h => h) (Or.inl ⟨rfl, ?c6022⟩) hH ?r6022
                          case c6022 => (intro w' _; go_simp; (try with_reducible rfl))
                          try simp only [Act.put, List.setIfInBounds_toArray, List.set_cons_zero, List.set_cons_succ]
                          refine wpAnyH_take (i := 23) (oi := ⟨some 71, _, _, _, _, _⟩) (v := ?v6023) rfl (by kernel_rfl) (by kernel_rfl) (by kernel_rfl) (fun _ _ _ h => h) (Or.inl ⟨rfl, ?c6023⟩) hH ?r6023
                          case c6023 => (intro w' hS; (try dsimp only at hS); go_simp; (try with_reducible rfl))
                          try simp only [Act.put, List.setIfInBounds_toArray, List.set_cons_zero, List.set_cons_succ]
                          refine wpAnyH_take (i := 24) (oi := ⟨some 72, _, _, _, _, _⟩) (v := ?v6024) rfl (by kernel_rfl) (by kernel_rfl) (by kernel_rfl) (fun _ _ _ h => h) (Or.inl ⟨rfl, ?c6024⟩) hH ?r6024
                          case c6024 => (intro w' _; go_simp; (try with_reducible rfl))
                          try simp only [Act.put, List.setIfInBounds_toArray, List.set_cons_zero, List.set_cons_succ]
                          refine wpAnyH_take (i := 25) (oi := ⟨some 73, _, _, _, _, _⟩) (v := ?v6025) rfl (by kernel_rfl) (by kernel_rfl) (by kernel_rfl) (fun _ _ _ h => h) (Or.inl ⟨rfl, ?c6025⟩) hH ?r6025
                          case c6025 => (intro w' _; go_simp; (try with_reducible rfl))
                          try simp only [Act.put, List.setIfInBounds_toArray, List.set_cons_zero, List.set_cons_succ]
                          refine wpAnyH_take (i := 26) (oi := ⟨some 74, _, _, _, _, _⟩) (v := ?v6026) rfl (by kernel_rfl) (by kernel_rfl) (by kernel_rfl) (fun _ _ _ h => h) (Or.inl ⟨rfl, ?c6026⟩) hH ?r6026
                          case c6026 => (intro w' _; go_simp; (try with_reducible rfl))
                          try simp only [Act.put, List.setIfInBounds_toArray, List.set_cons_zero, List.set_cons_succ]
                          refine wpAnyH_take (i := 27) (oi := ⟨some 75, _, _, _, _, _⟩) (v := ?v6027) rfl (by kernel_rfl) (by kernel_rfl) (by kernel_rfl) (fun _ _ _ h => h) (Or.inl ⟨rfl, ?c6027⟩) hH ?r6027
                          case c6027 => (intro w' _; go_simp; (try with_reducible rfl))
                          try simp only [Act.put, List.setIfInBounds_toArray, List.set_cons_zero, List.set_cons_succ]
                          refine wpAnyH_take (i := 28) (oi := ⟨some 76, _, _, _, _, _⟩) (v := ?v6028) rfl (by kernel_rfl) (by kernel_rfl) (by kernel_rfl) (fun _ _ _ h => h) (Or.inl ⟨rfl, ?c6028⟩) hH ?r6028
                          case c6028 => (intro w' _; go_simp; first | (with_reducible rfl) | (rw [if_pos (by omega)]))
                          try simp only [Act.put, List.setIfInBounds_toArray, List.set_cons_zero, List.set_cons_succ]
                          refine wpAnyH_take (i := 29) (oi := ⟨some 77, _, _, _, _, _⟩) (v := ?v6029) rfl (by kernel_rfl) (by kernel_rfl) (by kernel_rfl) (fun _ _ _ h => h) (Or.inl ⟨rfl, ?c6029⟩) hH ?r6029
                          case c6029 => (intro w' _; go_simp; (try with_reducible rfl))
                          try simp only [Act.put, List.setIfInBounds_toArray, List.set_cons_zero, List.set_cons_succ]
                          refine wpAnyH_take (i := 30) (oi := ⟨some 78, _, _, _, _, _⟩) (v := ?v6030) rfl (by kernel_rfl) (by kernel_rfl) (by kernel_rfl) (fun _ _ _ h => h) (Or.inl ⟨rfl, ?c6030⟩) hH ?r6030
                          case c6030 => (intro w' hS; (try dsimp only at hS); go_simp; (try with_reducible rfl))
                          try simp only [Act.put, List.setIfInBounds_toArray, List.set_cons_zero, List.set_cons_succ]
                          refine wpAnyH_take (i := 31) (oi := ⟨some 79, _, _, _, _, _⟩) (v := ?v6031) rfl (by kernel_rfl) (by kernel_rfl) (by kernel_rfl) (fun _ _ _ h => h) (Or.inl ⟨rfl, ?c6031⟩) hH ?r6031
                          case c6031 => (intro w' _; go_simp; (try with_reducible rfl))
                          try simp only [Act.put, List.setIfInBounds_toArray, List.set_cons_zero, List.set_cons_succ]
                          refine wpAnyH_take (i := 32) (oi := ⟨some 80, _, _, _, _, _⟩) (v := ?v6032) rfl (by kernel_rfl) (by kernel_rfl) (by kernel_rfl) (fun _ _ _ h => h) (Or.inl ⟨rfl, ?c6032⟩) hH ?r6032
                          case c6032 => (intro w' _; go_simp; (try with_reducible rfl))
                          try simp only [Act.put, List.setIfInBounds_toArray, List.set_cons_zero, List.set_cons_succ]
                          refine wpAnyH_take (i := 33) (oi := ⟨some 81, _, _, _, _, _⟩) (v := ?v6033) rfl (by kernel_rfl) (by kernel_rfl) (by kernel_rfl) (fun _ _ _ h => h) (Or.inl ⟨rfl, ?c6033⟩) hH ?r6033
                          case c6033 => (intro w' _; go_simp; (try with_reducible rfl))
                          try simp only [Act.put, List.setIfInBounds_toArray, List.set_cons_zero, List.set_cons_succ]
                          refine wpAnyH_take (i := 34) (oi := ⟨some 82, _, _, _, _, _⟩) (v := ?v6034) rfl (by kernel_rfl) (by kernel_rfl) (by kernel_rfl) (fun _ _ _ h => h) (Or.inl ⟨rfl, ?c6034⟩) hH ?r6034
                          case c6034 => (intro w' _; go_simp; (try with_reducible rfl))
                          try simp only [Act.put, List.setIfInBounds_toArray, List.set_cons_zero, List.set_cons_succ]
                          refine wpAnyH_take (i := 35) (oi := ⟨some 83, _, _, _, _, _⟩) (v := ?v6035) rfl (by kernel_rfl) (by kernel_rfl) (by kernel_rfl) (fun _ _ _ h => h) (Or.inl ⟨rfl, ?c6035⟩) hH ?r6035
                          case c6035 => (intro w' _; go_simp; (try with_reducible rfl))
                          try simp only [Act.put, List.setIfInBounds_toArray, List.set_cons_zero, List.set_cons_succ]
                          refine wpAnyH_take (i := 36) (oi := ⟨some 84, _, _, _, _, _⟩) (v := ?v6036) rfl (by kernel_rfl) (by kernel_rfl) (by kernel_rfl) (fun _ _ _ h => h) (Or.inl ⟨rfl, ?c6036⟩) hH ?r6036
                          case c6036 => (intro w' _; go_simp; (try with_reducible rfl))
                          try simp only [Act.put, List.setIfInBounds_toArray, List.set_cons_zero, List.set_cons_succ]
                          refine wpAnyH_take (i := 37) (oi := ⟨some 85, _, _, _, _, _⟩) (v := ?v6037) rfl (by kernel_rfl) (by kernel_rfl) (by kernel_rfl) (fun _ _ _ h => h) (Or.inl ⟨rfl, ?c6037⟩) hH ?r6037
                          case c6037 => (intro w' _; go_simp; first | (with_reducible rfl) | (rw [if_pos (by omega)]))
                          try simp only [Act.put, List.setIfInBounds_toArray, List.set_cons_zero, List.set_cons_succ]
                          refine wpAnyH_take (i := 38) (oi := ⟨some 86, _, _, _, _, _⟩) (v := ?v6038) rfl (by kernel_rfl) (by kernel_rfl) (by kernel_rfl) (fun _ _ _ h => h) (Or.inl ⟨rfl, ?c6038⟩) hH ?r6038
                          case c6038 => (intro w' hS; (try dsimp only at hS); go_simp; (try with_reducible rfl))
                          try simp only [Act.put, List.setIfInBounds_toArray, List.set_cons_zero, List.set_cons_succ]
                          refine wpAnyH_take (i := 39) (oi := ⟨some 87, _, _, _, _, _⟩) (v := ?v6039) rfl (by kernel_rfl) (by kernel_rfl) (by kernel_rfl) (fun _ _ _ h => h) (Or.inl ⟨rfl, ?c6039⟩) hH ?r6039
                          case c6039 => (intro w' _; go_simp; (try with_reducible rfl))
                          try simp only [Act.put, List.setIfInBounds_toArray, List.set_cons_zero, List.set_cons_succ]
                          refine wpAnyH_take (i := 40) (oi := ⟨some 88, _, _, _, _, _⟩) (v := ?v6040) rfl (by kernel_rfl) (by kernel_rfl) (by kernel_rfl) (fun _ _ _ h => h) (Or.inl ⟨rfl, ?c6040⟩) hH ?r6040
                          case c6040 => (intro w' _; go_simp; (try with_reducible rfl))
                          try simp only [Act.put, List.setIfInBounds_toArray, List.set_cons_zero, List.set_cons_succ]
                          refine wpAnyH_done (by kernel_rfl) ?_ _
                          have HFB := Lib.hid hH.2.2.2.2.2.2.2.2.out
                          have HFK := Lib.hid hH.2.2.2.2.2.2.2.1.out
                          clear hH
                          go_wp2_with fail
                          go_ret2
                          exact ⟨j, 17, rfl, HT.out, HFB.out⟩
                      · have dk2 : (k2 == 6) = false := by simpa using hk2
                        have HK2 := Lib.hid hk2
                        clear hk2
                        have HNR : Hid (∀ q, q < m + 1 → ¬ Ra (fn l) q j) := fun q hq hr => by
                          by_cases e : q = m
                          · subst e
                            rcases hr.2.2.2.2.1 with h | h
                            · rw [HX1.out] at h; exact HK1.out h
                            · rw [HX2.out] at h; exact HK2.out h
                          · exact HW2.out.2.2 q (by omega) hr
                        go_wp2_with fail
                        refine wp_region_held_drew (S := (fun w' => w'.cell? ⟨g, m, none⟩ = some (.bool (ahB (fn l) j m)) ∧ w'.cell? ⟨lb, off + m * 3, none⟩ = some (.int .i64 t1) ∧ w'.cell? ⟨lb, off + m * 3 + 1, none⟩ = some (.int .i64 k1) ∧ w'.cell? ⟨lb, off + m * 3 + 2, none⟩ = some (.int .i64 p1) ∧ w'.cell? ⟨lb, off + j * 3, none⟩ = some (.int .i64 t2) ∧ w'.cell? ⟨lb, off + j * 3 + 1, none⟩ = some (.int .i64 k2) ∧ w'.cell? ⟨lb, off + j * 3 + 2, none⟩ = some (.int .i64 p2) ∧ Hid (Blk w' g (blA (j + 1) (ahB (fn l) j)) 4) ∧ Hid (Below w.heap.size w w'))) (by kernel_rfl) (⟨x0, y0, y1, y2, z0, z1, z2, (show Hid _ from HW2.out.2.1.drew), (show Hid _ from HW2.out.1.drew)⟩) (fun hH => ?_)
                        refine wpAnyH_take (i := 0) (oi := ⟨some 48, _, _, _, _, _⟩) (v := ?v7001) rfl (by kernel_rfl) (by kernel_rfl) (by kernel_rfl) (fun _ _ _ h => h) (Or.inl ⟨rfl, ?c7001⟩) hH ?r7001
                        case c7001 => (intro w' _; go_simp; (try with_reducible rfl))
                        try simp only [Act.put, List.setIfInBounds_toArray, List.set_cons_zero, List.set_cons_succ]
                        refine wpAnyH_take (i := 1) (oi := ⟨some 49, _, _, _, _, _⟩) (v := ?v7002) rfl (by kernel_rfl) (by kernel_rfl) (by kernel_rfl) (fun _ _ _ h => h) (Or.inl ⟨rfl, ?c7002⟩) hH ?r7002
                        case c7002 => (intro w' _; go_simp; (try with_reducible rfl))
                        try simp only [Act.put, List.setIfInBounds_toArray, List.set_cons_zero, List.set_cons_succ]
                        refine wpAnyH_take (i := 2) (oi := ⟨some 50, _, _, _, _, _⟩) (v := ?v7003) rfl (by kernel_rfl) (by kernel_rfl) (by kernel_rfl) (fun _ _ _ h => h) (Or.inl ⟨rfl, ?c7003⟩) hH ?r7003
                        case c7003 => (intro w' _; go_simp; first | (with_reducible rfl) | (rw [if_pos (by omega)]))
                        try simp only [Act.put, List.setIfInBounds_toArray, List.set_cons_zero, List.set_cons_succ]
                        refine wpAnyH_take (i := 3) (oi := ⟨some 51, _, _, _, _, _⟩) (v := ?v7004) rfl (by kernel_rfl) (by kernel_rfl) (by kernel_rfl) (fun _ _ _ h => h) (Or.inl ⟨rfl, ?c7004⟩) hH ?r7004
                        case c7004 => (intro w' hS; (try dsimp only at hS); go_simp; (try with_reducible rfl))
                        try simp only [Act.put, List.setIfInBounds_toArray, List.set_cons_zero, List.set_cons_succ]
                        refine wpAnyH_ready (rs := [4]) (by kernel_rfl) (by simp) (AllReadyH.cons rfl (fun K hK => ?_) (AllReadyH.nil))
                        go_simp
                        go_at_call 15
                        refine (plain_any ⟨t1, k1, p1⟩ _).mono ?_
                        rintro e w9 ⟨rfl, hb9⟩
                        rw [HPL.out]
                        refine hK.out _ _ (⟨(hb9.cell (p := ⟨g, m, none⟩) HGL.out).trans hH.1, ((hb9.cell (p := ⟨lb, off + m * 3, none⟩) HLB2.out)).trans hH.2.1, ((hb9.cell (p := ⟨lb, off + m * 3 + 1, none⟩) HLB2.out)).trans hH.2.2.1, ((hb9.cell (p := ⟨lb, off + m * 3 + 2, none⟩) HLB2.out)).trans hH.2.2.2.1, ((hb9.cell (p := ⟨lb, off + j * 3, none⟩) HLB2.out)).trans hH.2.2.2.2.1, ((hb9.cell (p := ⟨lb, off + j * 3 + 1, none⟩) HLB2.out)).trans hH.2.2.2.2.2.1, ((hb9.cell (p := ⟨lb, off + j * 3 + 2, none⟩) HLB2.out)).trans hH.2.2.2.2.2.2.1, (show Hid _ from hH.2.2.2.2.2.2.2.1.out.next hb9), (show Hid _ from hH.2.2.2.2.2.2.2.2.out.trans (hb9.mono hH.2.2.2.2.2.2.2.2.out.size))⟩) (fun hH => ?_)
                        clear hK K
                        clear hb9
                        try simp only [Act.put, List.setIfInBounds_toArray, List.set_cons_zero, List.set_cons_succ]
                        refine wpAnyH_take (i := 5) (oi := ⟨some 53, _, _, _, _, _⟩) (v := ?v7005) rfl (by kernel_rfl) (by kernel_rfl) (by kernel_rfl) (fun _ _ _ h => h) (Or.inl ⟨rfl, ?c7005⟩) hH ?r7005
                        case c7005 => (intro w' _; go_simp; (try with_reducible rfl))
                        try simp only [Act.put, List.setIfInBounds_toArray, List.set_cons_zero, List.set_cons_succ]
                        refine wpAnyH_take (i := 6) (oi := ⟨some 54, _, _, _, _, _⟩) (v := ?v7006) rfl (by kernel_rfl) (by kernel_rfl) (by kernel_rfl) (fun _ _ _ h => h) (Or.inl ⟨rfl, ?c7006⟩) hH ?r7006
                        case c7006 => (intro w' _; go_simp; (try with_reducible rfl))
                        try simp only [Act.put, List.setIfInBounds_toArray, List.set_cons_zero, List.set_cons_succ]
                        refine wpAnyH_take (i := 7) (oi := ⟨some 55, _, _, _, _, _⟩) (v := ?v7007) rfl (by kernel_rfl) (by kernel_rfl) (by kernel_rfl) (fun _ _ _ h => h) (Or.inl ⟨rfl, ?c7007⟩) hH ?r7007
                        case c7007 => (intro w' _; go_simp; (try with_reducible rfl))
                        try simp only [Act.put, List.setIfInBounds_toArray, List.set_cons_zero, List.set_cons_succ]
                        refine wpAnyH_take (i := 8) (oi := ⟨some 56, _, _, _, _, _⟩) (v := ?v7008) rfl (by kernel_rfl) (by kernel_rfl) (by kernel_rfl) (fun _ _ _ h => h) (Or.inl ⟨rfl, ?c7008⟩) hH ?r7008
                        case c7008 => (intro w' _; go_simp; first | (with_reducible rfl) | (rw [if_pos (by omega)]))
                        try simp only [Act.put, List.setIfInBounds_toArray, List.set_cons_zero, List.set_cons_succ]
                        refine wpAnyH_take (i := 9) (oi := ⟨some 57, _, _, _, _, _⟩) (v := ?v7009) rfl (by kernel_rfl) (by kernel_rfl) (by kernel_rfl) (fun _ _ _ h => h) (Or.inl ⟨rfl, ?c7009⟩) hH ?r7009
                        case c7009 => (intro w' _; go_simp; (try with_reducible rfl))
                        try simp only [Act.put, List.setIfInBounds_toArray, List.set_cons_zero, List.set_cons_succ]
                        refine wpAnyH_take (i := 10) (oi := ⟨some 58, _, _, _, _, _⟩) (v := ?v7010) rfl (by kernel_rfl) (by kernel_rfl) (by kernel_rfl) (fun _ _ _ h => h) (Or.inl ⟨rfl, ?c7010⟩) hH ?r7010
                        case c7010 => (intro w' hS; (try dsimp only at hS); go_simp; (try with_reducible rfl))
                        try simp only [Act.put, List.setIfInBounds_toArray, List.set_cons_zero, List.set_cons_succ]
                        refine wpAnyH_take (i := 11) (oi := ⟨some 59, _, _, _, _, _⟩) (v := ?v7011) rfl (by kernel_rfl) (by kernel_rfl) (by kernel_rfl) (fun _ _ _ h => h) (Or.inl ⟨rfl, ?c7011⟩) hH ?r7011
                        case c7011 => (intro w' _; go_simp; (try with_reducible rfl))
                        try simp only [Act.put, List.setIfInBounds_toArray, List.set_cons_zero, List.set_cons_succ]
                        refine wpAnyH_take (i := 12) (oi := ⟨some 60, _, _, _, _, _⟩) (v := ?v7012) rfl (by kernel_rfl) (by kernel_rfl) (by kernel_rfl) (fun _ _ _ h => h) (Or.inl ⟨rfl, ?c7012⟩) hH ?r7012
                        case c7012 => (intro w' _; go_simp; (try with_reducible rfl))
                        try simp only [Act.put, List.setIfInBounds_toArray, List.set_cons_zero, List.set_cons_succ]
                        refine wpAnyH_take (i := 13) (oi := ⟨some 61, _, _, _, _, _⟩) (v := ?v7013) rfl (by kernel_rfl) (by kernel_rfl) (by kernel_rfl) (fun _ _ _ h => h) (Or.inl ⟨rfl, ?c7013⟩) hH ?r7013
                        case c7013 => (intro w' _; go_simp; first | (with_reducible rfl) | (rw [if_pos (by omega)]))
                        try simp only [Act.put, List.setIfInBounds_toArray, List.set_cons_zero, List.set_cons_succ]
                        refine wpAnyH_take (i := 14) (oi := ⟨some 62, _, _, _, _, _⟩) (v := ?v7014) rfl (by kernel_rfl) (by kernel_rfl) (by kernel_rfl) (fun _ _ _ h => h) (Or.inl ⟨rfl, ?c7014⟩) hH ?r7014
                        case c7014 => (intro w' _; go_simp; (try with_reducible rfl))
                        try simp only [Act.put, List.setIfInBounds_toArray, List.set_cons_zero, List.set_cons_succ]
                        refine wpAnyH_take (i := 15) (oi := ⟨some 63, _, _, _, _, _⟩) (v := ?v7015) rfl (by kernel_rfl) (by kernel_rfl) (by kernel_rfl) (fun _ _ _ h => h) (Or.inl ⟨rfl, ?c7015⟩) hH ?r7015
                        case c7015 => (intro w' hS; (try dsimp only at hS); go_simp; (try with_reducible rfl))
                        try simp only [Act.put, List.setIfInBounds_toArray, List.set_cons_zero, List.set_cons_succ]
                        refine wpAnyH_take (i := 16) (oi := ⟨some 64, _, _, _, _, _⟩) (v := ?v7016) rfl (by kernel_rfl) (by kernel_rfl) (by kernel_rfl) (fun _ _ _ h => h) (Or.inl ⟨rfl, ?c7016⟩) hH ?r7016
                        case c7016 => (intro w' _; go_simp; (try with_reducible rfl))
                        try simp only [Act.put, List.setIfInBounds_toArray, List.set_cons_zero, List.set_cons_succ]
                        refine wpAnyH_take (i := 17) (oi := ⟨some 65, _, _, _, _, _⟩) (v := ?v7017) rfl (by kernel_rfl) (by kernel_rfl) (by kernel_rfl) (fun _ _ _ h => h) (Or.inl ⟨rfl, ?c7017⟩) hH ?r7017
                        case c7017 => (intro w' _; go_simp; (try with_reducible rfl))
                        try simp only [Act.put, List.setIfInBounds_toArray, List.set_cons_zero, List.set_cons_succ]
                        refine wpAnyH_take (i := 18) (oi := ⟨some 66, _, _, _, _, _⟩) (v := ?v7018) rfl (by kernel_rfl) (by kernel_rfl) (by kernel_rfl) (fun _ _ _ h => h) (Or.inl ⟨rfl, ?c7018⟩) hH ?r7018
                        case c7018 => (intro w' _; go_simp; (try with_reducible rfl))
                        try simp only [Act.put, List.setIfInBounds_toArray, List.set_cons_zero, List.set_cons_succ]
                        refine wpAnyH_take (i := 19) (oi := ⟨some 67, _, _, _, _, _⟩) (v := ?v7019) rfl (by kernel_rfl) (by kernel_rfl) (by kernel_rfl) (fun _ _ _ h => h) (Or.inl ⟨rfl, ?c7019⟩) hH ?r7019
                        case c7019 => (intro w' _; go_simp; (try with_reducible rfl))
                        try simp only [Act.put, List.setIfInBounds_toArray, List.set_cons_zero, List.set_cons_succ]
                        refine wpAnyH_take (i := 20) (oi := ⟨some 68, _, _, _, _, _⟩) (v := ?v7020) rfl (by kernel_rfl) (by kernel_rfl) (by kernel_rfl) (fun _ _ _ h => h) (Or.inl ⟨rfl, ?c7020⟩) hH ?r7020
                        case c7020 => (intro w' _; go_simp; (try with_reducible rfl))
                        try simp only [Act.put, List.setIfInBounds_toArray, List.set_cons_zero, List.set_cons_succ]
                        refine wpAnyH_take (i := 21) (oi := ⟨some 69, _, _, _, _, _⟩) (v := ?v7021) rfl (by kernel_rfl) (by kernel_rfl) (by kernel_rfl) (fun _ _ _ h => h) (Or.inl ⟨rfl, ?c7021⟩) hH ?r7021
                        case c7021 => (intro w' _; go_simp; first | (with_reducible rfl) | (rw [if_pos (by omega)]))
                        try simp only [Act.put, List.setIfInBounds_toArray, List.set_cons_zero, List.set_cons_succ]
                        refine wpAnyH_take (i := 22) (oi := ⟨some 70, _, _, _, _, _⟩) (v := ?v7022) rfl (by kernel_rfl) (by kernel_rfl) (by kernel_rfl) (fun _ _ _ h => h) (Or.inl ⟨rfl, ?c7022⟩) hH ?r7022
                        case c7022 => (intro w' _; go_simp; (try with_reducible rfl))
                        try simp only [Act.put, List.setIfInBounds_toArray, List.set_cons_zero, List.set_cons_succ]
                        refine wpAnyH_take (i := 23) (oi := ⟨some 71, _, _, _, _, _⟩) (v := ?v7023) rfl (by kernel_rfl) (by kernel_rfl) (by kernel_rfl) (fun _ _ _ h => h) (Or.inl ⟨rfl, ?c7023⟩) hH ?r7023
                        case c7023 => (intro w' hS; (try dsimp only at hS); go_simp; (try with_reducible rfl))
                        try simp only [Act.put, List.setIfInBounds_toArray, List.set_cons_zero, List.set_cons_succ]
                        refine wpAnyH_take (i := 24) (oi := ⟨some 72, _, _, _, _, _⟩) (v := ?v7024) rfl (by kernel_rfl) (by kernel_rfl) (by kernel_rfl) (fun _ _ _ h => h) (Or.inl ⟨rfl, ?c7024⟩) hH ?r7024
                        case c7024 => (intro w' _; go_simp; (try with_reducible rfl))
                        try simp only [Act.put, List.setIfInBounds_toArray, List.set_cons_zero, List.set_cons_succ]
                        refine wpAnyH_take (i := 25) (oi := ⟨some 73, _, _, _, _, _⟩) (v := ?v7025) rfl (by kernel_rfl) (by kernel_rfl) (by kernel_rfl) (fun _ _ _ h => h) (Or.inl ⟨rfl, ?c7025⟩) hH ?r7025
                        case c7025 => (intro w' _; go_simp; (try with_reducible rfl))
                        try simp only [Act.put, List.setIfInBounds_toArray, List.set_cons_zero, List.set_cons_succ]
                        refine wpAnyH_take (i := 26) (oi := ⟨some 74, _, _, _, _, _⟩) (v := ?v7026) rfl (by kernel_rfl) (by kernel_rfl) (by kernel_rfl) (fun _ _ _ h => h) (Or.inl ⟨rfl, ?c7026⟩) hH ?r7026
                        case c7026 => (intro w' _; go_simp; (try with_reducible rfl))
                        try simp only [Act.put, List.setIfInBounds_toArray, List.set_cons_zero, List.set_cons_succ]
                        refine wpAnyH_take (i := 27) (oi := ⟨some 75, _, _, _, _, _⟩) (v := ?v7027) rfl (by kernel_rfl) (by kernel_rfl) (by kernel_rfl) (fun _ _ _ h => h) (Or.inl ⟨rfl, ?c7027⟩) hH ?r7027
                        case c7027 => (intro w' _; go_simp; (try with_reducible rfl))
                        try simp only [Act.put, List.setIfInBounds_toArray, List.set_cons_zero, List.set_cons_succ]
                        refine wpAnyH_take (i := 28) (oi := ⟨some 76, _, _, _, _, _⟩) (v := ?v7028) rfl (by kernel_rfl) (by kernel_rfl) (by kernel_rfl) (fun _ _ _ h => h) (Or.inl ⟨rfl, ?c7028⟩) hH ?r7028
                        case c7028 => (intro w' _; go_simp; first | (with_reducible rfl) | (rw [if_pos (by omega)]))
                        try simp only [Act.put, List.setIfInBounds_toArray, List.set_cons_zero, List.set_cons_succ]
                        refine wpAnyH_take (i := 29) (oi := ⟨some 77, _, _, _, _, _⟩) (v := ?v7029) rfl (by kernel_rfl) (by kernel_rfl) (by kernel_rfl) (fun _ _ _ h => h) (Or.inl ⟨rfl, ?c7029⟩) hH ?r7029
                        case c7029 => (intro w' _; go_simp; (try with_reducible rfl))
                        try simp only [Act.put, List.setIfInBounds_toArray, List.set_cons_zero, List.set_cons_succ]
                        refine wpAnyH_take (i := 30) (oi := ⟨some 78, _, _, _, _, _⟩) (v := ?v7030) rfl (by kernel_rfl) (by kernel_rfl) (by kernel_rfl) (fun _ _ _ h => h) (Or.inl ⟨rfl, ?c7030⟩) hH ?r7030
                        case c7030 => (intro w' hS; (try dsimp only at hS); go_simp; (try with_reducible rfl))
                        try simp only [Act.put, List.setIfInBounds_toArray, List.set_cons_zero, List.set_cons_succ]
                        refine wpAnyH_take (i := 31) (oi := ⟨some 79, _, _, _, _, _⟩) (v := ?v7031) rfl (by kernel_rfl) (by kernel_rfl) (by kernel_rfl) (fun _ _ _ h => h) (Or.inl ⟨rfl, ?c7031⟩) hH ?r7031
                        case c7031 => (intro w' _; go_simp; (try with_reducible rfl))
                        try simp only [Act.put, List.setIfInBounds_toArray, List.set_cons_zero, List.set_cons_succ]
                        refine wpAnyH_take (i := 32) (oi := ⟨some 80, _, _, _, _, _⟩) (v := ?v7032) rfl (by kernel_rfl) (by kernel_rfl) (by kernel_rfl) (fun _ _ _ h => h) (Or.inl ⟨rfl, ?c7032⟩) hH ?r7032
                        case c7032 => (intro w' _; go_simp; (try with_reducible rfl))
                        try simp only [Act.put, List.setIfInBounds_toArray, List.set_cons_zero, List.set_cons_succ]
                        refine wpAnyH_take (i := 33) (oi := ⟨some 81, _, _, _, _, _⟩) (v := ?v7033) rfl (by kernel_rfl) (by kernel_rfl) (by kernel_rfl) (fun _ _ _ h => h) (Or.inl ⟨rfl, ?c7033⟩) hH ?r7033
                        case c7033 => (intro w' _; go_simp; (try with_reducible rfl))
                        try simp only [Act.put, List.setIfInBounds_toArray, List.set_cons_zero, List.set_cons_succ]
                        refine wpAnyH_take (i := 34) (oi := ⟨some 82, _, _, _, _, _⟩) (v := ?v7034) rfl (by kernel_rfl) (by kernel_rfl) (by kernel_rfl) (fun _ _ _ h => h) (Or.inl ⟨rfl, ?c7034⟩) hH ?r7034
                        case c7034 => (intro w' _; go_simp; (try with_reducible rfl))
                        try simp only [Act.put, List.setIfInBounds_toArray, List.set_cons_zero, List.set_cons_succ]
                        refine wpAnyH_take (i := 35) (oi := ⟨some 83, _, _, _, _, _⟩) (v := undef) rfl (by kernel_rfl) (by kernel_rfl) (by kernel_rfl) (fun _ _ _ h => h) (Or.inr ⟨rfl, rfl⟩) hH ?_
                        try simp only [Act.put, List.setIfInBounds_toArray, List.set_cons_zero, List.set_cons_succ]
                        refine wpAnyH_take (i := 36) (oi := ⟨some 84, _, _, _, _, _⟩) (v := undef) rfl (by kernel_rfl) (by kernel_rfl) (by kernel_rfl) (fun _ _ _ h => h) (Or.inr ⟨rfl, rfl⟩) hH ?_
                        try simp only [Act.put, List.setIfInBounds_toArray, List.set_cons_zero, List.set_cons_succ]
                        refine wpAnyH_take (i := 37) (oi := ⟨some 85, _, _, _, _, _⟩) (v := undef) rfl (by kernel_rfl) (by kernel_rfl) (by kernel_rfl) (fun _ _ _ h => h) (Or.inr ⟨rfl, rfl⟩) hH ?_
                        try simp only [Act.put, List.setIfInBounds_toArray, List.set_cons_zero, List.set_cons_succ]
                        refine wpAnyH_take (i := 38) (oi := ⟨some 86, _, _, _, _, _⟩) (v := undef) rfl (by kernel_rfl) (by kernel_rfl) (by kernel_rfl) (fun _ _ _ h => h) (Or.inr ⟨rfl, rfl⟩) hH ?_
                        try simp only [Act.put, List.setIfInBounds_toArray, List.set_cons_zero, List.set_cons_succ]
                        refine wpAnyH_take (i := 39) (oi := ⟨some 87, _, _, _, _, _⟩) (v := undef) rfl (by kernel_rfl) (by kernel_rfl) (by kernel_rfl) (fun _ _ _ h => h) (Or.inr ⟨rfl, rfl⟩) hH ?_
                        try simp only [Act.put, List.setIfInBounds_toArray, List.set_cons_zero, List.set_cons_succ]
                        refine wpAnyH_take (i := 40) (oi := ⟨some 88, _, _, _, _, _⟩) (v := ?v7040) rfl (by kernel_rfl) (by kernel_rfl) (by kernel_rfl) (fun _ _ _ h => h) (Or.inl ⟨rfl, ?c7040⟩) hH ?r7040
                        case c7040 => (intro w' _; go_simp; (try with_reducible rfl))
                        try simp only [Act.put, List.setIfInBounds_toArray, List.set_cons_zero, List.set_cons_succ]
                        refine wpAnyH_done (by kernel_rfl) ?_ _
                        have HFB := Lib.hid hH.2.2.2.2.2.2.2.2.out
                        have HFK := Lib.hid hH.2.2.2.2.2.2.2.1.out
                        clear hH
                        go_wp2_with fail
                        go_roundw
                        case rel => exact ⟨m + 1, by go_num, by omega, (show Hid _ from ⟨HFB.out, HFK.out, HNR.out⟩)⟩
                        case measure => simp [RowKit.intOf]; omega
                  · have dp : (p1 == p2) = false := by simpa using hp
                    have HPQ := Lib.hid hp
                    clear hp
                    have HNR : Hid (∀ q, q < m + 1 → ¬ Ra (fn l) q j) := fun q hq hr => by
                      by_cases e : q = m
                      · subst e
                        have h := hr.2.1
                        rw [HX1.out, HX2.out] at h
                        exact HPQ.out h
                      · exact HW2.out.2.2 q (by omega) hr
                    go_wp2_with fail
                    refine wp_region_held_drew (S := (fun w' => w'.cell? ⟨g, m, none⟩ = some (.bool (ahB (fn l) j m)) ∧ w'.cell? ⟨lb, off + m * 3, none⟩ = some (.int .i64 t1) ∧ w'.cell? ⟨lb, off + m * 3 + 1, none⟩ = some (.int .i64 k1) ∧ w'.cell? ⟨lb, off + m * 3 + 2, none⟩ = some (.int .i64 p1) ∧ w'.cell? ⟨lb, off + j * 3, none⟩ = some (.int .i64 t2) ∧ w'.cell? ⟨lb, off + j * 3 + 1, none⟩ = some (.int .i64 k2) ∧ w'.cell? ⟨lb, off + j * 3 + 2, none⟩ = some (.int .i64 p2) ∧ Hid (Blk w' g (blA (j + 1) (ahB (fn l) j)) 4) ∧ Hid (Below w.heap.size w w'))) (by kernel_rfl) (⟨x0, y0, y1, y2, z0, z1, z2, (show Hid _ from HW2.out.2.1.drew), (show Hid _ from HW2.out.1.drew)⟩) (fun hH => ?_)
                    refine wpAnyH_take (i := 0) (oi := ⟨some 48, _, _, _, _, _⟩) (v := ?v8001) rfl (by kernel_rfl) (by kernel_rfl) (by kernel_rfl) (fun _ _ _ h => h) (Or.inl ⟨rfl, ?c8001⟩) hH ?r8001
                    case c8001 => (intro w' _; go_simp; (try with_reducible rfl))
                    try simp only [Act.put, List.setIfInBounds_toArray, List.set_cons_zero, List.set_cons_succ]
                    refine wpAnyH_take (i := 1) (oi := ⟨some 49, _, _, _, _, _⟩) (v := ?v8002) rfl (by kernel_rfl) (by kernel_rfl) (by kernel_rfl) (fun _ _ _ h => h) (Or.inl ⟨rfl, ?c8002⟩) hH ?r8002
                    case c8002 => (intro w' _; go_simp; (try with_reducible rfl))
                    try simp only [Act.put, List.setIfInBounds_toArray, List.set_cons_zero, List.set_cons_succ]
                    refine wpAnyH_take (i := 2) (oi := ⟨some 50, _, _, _, _, _⟩) (v := ?v8003) rfl (by kernel_rfl) (by kernel_rfl) (by kernel_rfl) (fun _ _ _ h => h) (Or.inl ⟨rfl, ?c8003⟩) hH ?r8003
                    case c8003 => (intro w' _; go_simp; first | (with_reducible rfl) | (rw [if_pos (by omega)]))
                    try simp only [Act.put, List.setIfInBounds_toArray, List.set_cons_zero, List.set_cons_succ]
                    refine wpAnyH_take (i := 3) (oi := ⟨some 51, _, _, _, _, _⟩) (v := ?v8004) rfl (by kernel_rfl) (by kernel_rfl) (by kernel_rfl) (fun _ _ _ h => h) (Or.inl ⟨rfl, ?c8004⟩) hH ?r8004
                    case c8004 => (intro w' hS; (try dsimp only at hS); go_simp; (try with_reducible rfl))
                    try simp only [Act.put, List.setIfInBounds_toArray, List.set_cons_zero, List.set_cons_succ]
                    refine wpAnyH_ready (rs := [4]) (by kernel_rfl) (by simp) (AllReadyH.cons rfl (fun K hK => ?_) (AllReadyH.nil))
                    go_simp
                    go_at_call 15
                    refine (plain_any ⟨t1, k1, p1⟩ _).mono ?_
                    rintro e w9 ⟨rfl, hb9⟩
                    rw [HPL.out]
                    refine hK.out _ _ (⟨(hb9.cell (p := ⟨g, m, none⟩) HGL.out).trans hH.1, ((hb9.cell (p := ⟨lb, off + m * 3, none⟩) HLB2.out)).trans hH.2.1, ((hb9.cell (p := ⟨lb, off + m * 3 + 1, none⟩) HLB2.out)).trans hH.2.2.1, ((hb9.cell (p := ⟨lb, off + m * 3 + 2, none⟩) HLB2.out)).trans hH.2.2.2.1, ((hb9.cell (p := ⟨lb, off + j * 3, none⟩) HLB2.out)).trans hH.2.2.2.2.1, ((hb9.cell (p := ⟨lb, off + j * 3 + 1, none⟩) HLB2.out)).trans hH.2.2.2.2.2.1, ((hb9.cell (p := ⟨lb, off + j * 3 + 2, none⟩) HLB2.out)).trans hH.2.2.2.2.2.2.1, (show Hid _ from hH.2.2.2.2.2.2.2.1.out.next hb9), (show Hid _ from hH.2.2.2.2.2.2.2.2.out.trans (hb9.mono hH.2.2.2.2.2.2.2.2.out.size))⟩) (fun hH => ?_)
                    clear hK K
                    clear hb9
                    try simp only [Act.put, List.setIfInBounds_toArray, List.set_cons_zero, List.set_cons_succ]
                    refine wpAnyH_take (i := 5) (oi := ⟨some 53, _, _, _, _, _⟩) (v := ?v8005) rfl (by kernel_rfl) (by kernel_rfl) (by kernel_rfl) (fun _ _ _ h => h) (Or.inl ⟨rfl, ?c8005⟩) hH ?r8005
                    case c8005 => (intro w' _; go_simp; (try with_reducible rfl))
                    try simp only [Act.put, List.setIfInBounds_toArray, List.set_cons_zero, List.set_cons_succ]
                    refine wpAnyH_take (i := 6) (oi := ⟨some 54, _, _, _, _, _⟩) (v := ?v8006) rfl (by kernel_rfl) (by kernel_rfl) (by kernel_rfl) (fun _ _ _ h => h) (Or.inl ⟨rfl, ?c8006⟩) hH ?r8006
                    case c8006 => (intro w' _; go_simp; (try with_reducible rfl))
                    try simp only [Act.put, List.setIfInBounds_toArray, List.set_cons_zero, List.set_cons_succ]
                    refine wpAnyH_take (i := 7) (oi := ⟨some 55, _, _, _, _, _⟩) (v := ?v8007) rfl (by kernel_rfl) (by kernel_rfl) (by kernel_rfl) (fun _ _ _ h => h) (Or.inl ⟨rfl, ?c8007⟩) hH ?r8007
                    case c8007 => (intro w' _; go_simp; (try with_reducible rfl))
                    try simp only [Act.put, List.setIfInBounds_toArray, List.set_cons_zero, List.set_cons_succ]
                    refine wpAnyH_take (i := 8) (oi := ⟨some 56, _, _, _, _, _⟩) (v := ?v8008) rfl (by kernel_rfl) (by kernel_rfl) (by kernel_rfl) (fun _ _ _ h => h) (Or.inl ⟨rfl, ?c8008⟩) hH ?r8008
                    case c8008 => (intro w' _; go_simp; first | (with_reducible rfl) | (rw [if_pos (by omega)]))
                    try simp only [Act.put, List.setIfInBounds_toArray, List.set_cons_zero, List.set_cons_succ]
                    refine wpAnyH_take (i := 9) (oi := ⟨some 57, _, _, _, _, _⟩) (v := ?v8009) rfl (by kernel_rfl) (by kernel_rfl) (by kernel_rfl) (fun _ _ _ h => h) (Or.inl ⟨rfl, ?c8009⟩) hH ?r8009
                    case c8009 => (intro w' _; go_simp; (try with_reducible rfl))
                    try simp only [Act.put, List.setIfInBounds_toArray, List.set_cons_zero, List.set_cons_succ]
                    refine wpAnyH_take (i := 10) (oi := ⟨some 58, _, _, _, _, _⟩) (v := ?v8010) rfl (by kernel_rfl) (by kernel_rfl) (by kernel_rfl) (fun _ _ _ h => h) (Or.inl ⟨rfl, ?c8010⟩) hH ?r8010
                    case c8010 => (intro w' hS; (try dsimp only at hS); go_simp; (try with_reducible rfl))
                    try simp only [Act.put, List.setIfInBounds_toArray, List.set_cons_zero, List.set_cons_succ]
                    refine wpAnyH_take (i := 11) (oi := ⟨some 59, _, _, _, _, _⟩) (v := ?v8011) rfl (by kernel_rfl) (by kernel_rfl) (by kernel_rfl) (fun _ _ _ h => h) (Or.inl ⟨rfl, ?c8011⟩) hH ?r8011
                    case c8011 => (intro w' _; go_simp; (try with_reducible rfl))
                    try simp only [Act.put, List.setIfInBounds_toArray, List.set_cons_zero, List.set_cons_succ]
                    refine wpAnyH_take (i := 12) (oi := ⟨some 60, _, _, _, _, _⟩) (v := ?v8012) rfl (by kernel_rfl) (by kernel_rfl) (by kernel_rfl) (fun _ _ _ h => h) (Or.inl ⟨rfl, ?c8012⟩) hH ?r8012
                    case c8012 => (intro w' _; go_simp; (try with_reducible rfl))
                    try simp only [Act.put, List.setIfInBounds_toArray, List.set_cons_zero, List.set_cons_succ]
                    refine wpAnyH_take (i := 13) (oi := ⟨some 61, _, _, _, _, _⟩) (v := ?v8013) rfl (by kernel_rfl) (by kernel_rfl) (by kernel_rfl) (fun _ _ _ h => h) (Or.inl ⟨rfl, ?c8013⟩) hH ?r8013
                    case c8013 => (intro w' _; go_simp; first | (with_reducible rfl) | (rw [if_pos (by omega)]))
                    try simp only [Act.put, List.setIfInBounds_toArray, List.set_cons_zero, List.set_cons_succ]
                    refine wpAnyH_take (i := 14) (oi := ⟨some 62, _, _, _, _, _⟩) (v := ?v8014) rfl (by kernel_rfl) (by kernel_rfl) (by kernel_rfl) (fun _ _ _ h => h) (Or.inl ⟨rfl, ?c8014⟩) hH ?r8014
                    case c8014 => (intro w' _; go_simp; (try with_reducible rfl))
                    try simp only [Act.put, List.setIfInBounds_toArray, List.set_cons_zero, List.set_cons_succ]
                    refine wpAnyH_take (i := 15) (oi := ⟨some 63, _, _, _, _, _⟩) (v := ?v8015) rfl (by kernel_rfl) (by kernel_rfl) (by kernel_rfl) (fun _ _ _ h => h) (Or.inl ⟨rfl, ?c8015⟩) hH ?r8015
                    case c8015 => (intro w' hS; (try dsimp only at hS); go_simp; (try with_reducible rfl))
                    try simp only [Act.put, List.setIfInBounds_toArray, List.set_cons_zero, List.set_cons_succ]
                    refine wpAnyH_take (i := 16) (oi := ⟨some 64, _, _, _, _, _⟩) (v := ?v8016) rfl (by kernel_rfl) (by kernel_rfl) (by kernel_rfl) (fun _ _ _ h => h) (Or.inl ⟨rfl, ?c8016⟩) hH ?r8016
                    case c8016 => (intro w' _; go_simp; (try with_reducible rfl))
                    try simp only [Act.put, List.setIfInBounds_toArray, List.set_cons_zero, List.set_cons_succ]
                    refine wpAnyH_take (i := 17) (oi := ⟨some 65, _, _, _, _, _⟩) (v := ?v8017) rfl (by kernel_rfl) (by kernel_rfl) (by kernel_rfl) (fun _ _ _ h => h) (Or.inl ⟨rfl, ?c8017⟩) hH ?r8017
                    case c8017 => (intro w' _; go_simp; (try with_reducible rfl))
                    try simp only [Act.put, List.setIfInBounds_toArray, List.set_cons_zero, List.set_cons_succ]
                    refine wpAnyH_take (i := 18) (oi := ⟨some 66, _, _, _, _, _⟩) (v := ?v8018) rfl (by kernel_rfl) (by kernel_rfl) (by kernel_rfl) (fun _ _ _ h => h) (Or.inl ⟨rfl, ?c8018⟩) hH ?r8018
                    case c8018 => (intro w' _; go_simp; (try with_reducible rfl))
                    try simp only [Act.put, List.setIfInBounds_toArray, List.set_cons_zero, List.set_cons_succ]
                    refine wpAnyH_take (i := 19) (oi := ⟨some 67, _, _, _, _, _⟩) (v := undef) rfl (by kernel_rfl) (by kernel_rfl) (by kernel_rfl) (fun _ _ _ h => h) (Or.inr ⟨rfl, rfl⟩) hH ?_
                    try simp only [Act.put, List.setIfInBounds_toArray, List.set_cons_zero, List.set_cons_succ]
                    refine wpAnyH_take (i := 20) (oi := ⟨some 68, _, _, _, _, _⟩) (v := undef) rfl (by kernel_rfl) (by kernel_rfl) (by kernel_rfl) (fun _ _ _ h => h) (Or.inr ⟨rfl, rfl⟩) hH ?_
                    try simp only [Act.put, List.setIfInBounds_toArray, List.set_cons_zero, List.set_cons_succ]
                    refine wpAnyH_take (i := 21) (oi := ⟨some 69, _, _, _, _, _⟩) (v := undef) rfl (by kernel_rfl) (by kernel_rfl) (by kernel_rfl) (fun _ _ _ h => h) (Or.inr ⟨rfl, rfl⟩) hH ?_
                    try simp only [Act.put, List.setIfInBounds_toArray, List.set_cons_zero, List.set_cons_succ]
                    refine wpAnyH_take (i := 22) (oi := ⟨some 70, _, _, _, _, _⟩) (v := undef) rfl (by kernel_rfl) (by kernel_rfl) (by kernel_rfl) (fun _ _ _ h => h) (Or.inr ⟨rfl, rfl⟩) hH ?_
                    try simp only [Act.put, List.setIfInBounds_toArray, List.set_cons_zero, List.set_cons_succ]
                    refine wpAnyH_take (i := 23) (oi := ⟨some 71, _, _, _, _, _⟩) (v := undef) rfl (by kernel_rfl) (by kernel_rfl) (by kernel_rfl) (fun _ _ _ h => h) (Or.inr ⟨rfl, rfl⟩) hH ?_
                    try simp only [Act.put, List.setIfInBounds_toArray, List.set_cons_zero, List.set_cons_succ]
                    refine wpAnyH_take (i := 24) (oi := ⟨some 72, _, _, _, _, _⟩) (v := undef) rfl (by kernel_rfl) (by kernel_rfl) (by kernel_rfl) (fun _ _ _ h => h) (Or.inr ⟨rfl, rfl⟩) hH ?_
                    try simp only [Act.put, List.setIfInBounds_toArray, List.set_cons_zero, List.set_cons_succ]
                    refine wpAnyH_take (i := 25) (oi := ⟨some 73, _, _, _, _, _⟩) (v := undef) rfl (by kernel_rfl) (by kernel_rfl) (by kernel_rfl) (fun _ _ _ h => h) (Or.inr ⟨rfl, rfl⟩) hH ?_
                    try simp only [Act.put, List.setIfInBounds_toArray, List.set_cons_zero, List.set_cons_succ]
                    refine wpAnyH_take (i := 26) (oi := ⟨some 74, _, _, _, _, _⟩) (v := undef) rfl (by kernel_rfl) (by kernel_rfl) (by kernel_rfl) (fun _ _ _ h => h) (Or.inr ⟨rfl, rfl⟩) hH ?_
                    try simp only [Act.put, List.setIfInBounds_toArray, List.set_cons_zero, List.set_cons_succ]
                    refine wpAnyH_take (i := 27) (oi := ⟨some 75, _, _, _, _, _⟩) (v := undef) rfl (by kernel_rfl) (by kernel_rfl) (by kernel_rfl) (fun _ _ _ h => h) (Or.inr ⟨rfl, rfl⟩) hH ?_
                    try simp only [Act.put, List.setIfInBounds_toArray, List.set_cons_zero, List.set_cons_succ]
                    refine wpAnyH_take (i := 28) (oi := ⟨some 76, _, _, _, _, _⟩) (v := undef) rfl (by kernel_rfl) (by kernel_rfl) (by kernel_rfl) (fun _ _ _ h => h) (Or.inr ⟨rfl, rfl⟩) hH ?_
                    try simp only [Act.put, List.setIfInBounds_toArray, List.set_cons_zero, List.set_cons_succ]
                    refine wpAnyH_take (i := 29) (oi := ⟨some 77, _, _, _, _, _⟩) (v := undef) rfl (by kernel_rfl) (by kernel_rfl) (by kernel_rfl) (fun _ _ _ h => h) (Or.inr ⟨rfl, rfl⟩) hH ?_
                    try simp only [Act.put, List.setIfInBounds_toArray, List.set_cons_zero, List.set_cons_succ]
                    refine wpAnyH_take (i := 30) (oi := ⟨some 78, _, _, _, _, _⟩) (v := undef) rfl (by kernel_rfl) (by kernel_rfl) (by kernel_rfl) (fun _ _ _ h => h) (Or.inr ⟨rfl, rfl⟩) hH ?_
                    try simp only [Act.put, List.setIfInBounds_toArray, List.set_cons_zero, List.set_cons_succ]
                    refine wpAnyH_take (i := 31) (oi := ⟨some 79, _, _, _, _, _⟩) (v := undef) rfl (by kernel_rfl) (by kernel_rfl) (by kernel_rfl) (fun _ _ _ h => h) (Or.inr ⟨rfl, rfl⟩) hH ?_
                    try simp only [Act.put, List.setIfInBounds_toArray, List.set_cons_zero, List.set_cons_succ]
                    refine wpAnyH_take (i := 32) (oi := ⟨some 80, _, _, _, _, _⟩) (v := undef) rfl (by kernel_rfl) (by kernel_rfl) (by kernel_rfl) (fun _ _ _ h => h) (Or.inr ⟨rfl, rfl⟩) hH ?_
                    try simp only [Act.put, List.setIfInBounds_toArray, List.set_cons_zero, List.set_cons_succ]
                    refine wpAnyH_take (i := 33) (oi := ⟨some 81, _, _, _, _, _⟩) (v := ?v8033) rfl (by kernel_rfl) (by kernel_rfl) (by kernel_rfl) (fun _ _ _ h => h) (Or.inl ⟨rfl, ?c8033⟩) hH ?r8033
                    case c8033 => (intro w' _; go_simp; (try with_reducible rfl))
                    try simp only [Act.put, List.setIfInBounds_toArray, List.set_cons_zero, List.set_cons_succ]
                    refine wpAnyH_take (i := 34) (oi := ⟨some 82, _, _, _, _, _⟩) (v := ?v8034) rfl (by kernel_rfl) (by kernel_rfl) (by kernel_rfl) (fun _ _ _ h => h) (Or.inl ⟨rfl, ?c8034⟩) hH ?r8034
                    case c8034 => (intro w' _; go_simp; (try with_reducible rfl))
                    try simp only [Act.put, List.setIfInBounds_toArray, List.set_cons_zero, List.set_cons_succ]
                    refine wpAnyH_take (i := 35) (oi := ⟨some 83, _, _, _, _, _⟩) (v := undef) rfl (by kernel_rfl) (by kernel_rfl) (by kernel_rfl) (fun _ _ _ h => h) (Or.inr ⟨rfl, rfl⟩) hH ?_
                    try simp only [Act.put, List.setIfInBounds_toArray, List.set_cons_zero, List.set_cons_succ]
                    refine wpAnyH_take (i := 36) (oi := ⟨some 84, _, _, _, _, _⟩) (v := undef) rfl (by kernel_rfl) (by kernel_rfl) (by kernel_rfl) (fun _ _ _ h => h) (Or.inr ⟨rfl, rfl⟩) hH ?_
                    try simp only [Act.put, List.setIfInBounds_toArray, List.set_cons_zero, List.set_cons_succ]
                    refine wpAnyH_take (i := 37) (oi := ⟨some 85, _, _, _, _, _⟩) (v := undef) rfl (by kernel_rfl) (by kernel_rfl) (by kernel_rfl) (fun _ _ _ h => h) (Or.inr ⟨rfl, rfl⟩) hH ?_
                    try simp only [Act.put, List.setIfInBounds_toArray, List.set_cons_zero, List.set_cons_succ]
                    refine wpAnyH_take (i := 38) (oi := ⟨some 86, _, _, _, _, _⟩) (v := undef) rfl (by kernel_rfl) (by kernel_rfl) (by kernel_rfl) (fun _ _ _ h => h) (Or.inr ⟨rfl, rfl⟩) hH ?_
                    try simp only [Act.put, List.setIfInBounds_toArray, List.set_cons_zero, List.set_cons_succ]
                    refine wpAnyH_take (i := 39) (oi := ⟨some 87, _, _, _, _, _⟩) (v := undef) rfl (by kernel_rfl) (by kernel_rfl) (by kernel_rfl) (fun _ _ _ h => h) (Or.inr ⟨rfl, rfl⟩) hH ?_
                    try simp only [Act.put, List.setIfInBounds_toArray, List.set_cons_zero, List.set_cons_succ]
                    refine wpAnyH_take (i := 40) (oi := ⟨some 88, _, _, _, _, _⟩) (v := ?v8040) rfl (by kernel_rfl) (by kernel_rfl) (by kernel_rfl) (fun _ _ _ h => h) (Or.inl ⟨rfl, ?c8040⟩) hH ?r8040
                    case c8040 => (intro w' _; go_simp; (try with_reducible rfl))
                    try simp only [Act.put, List.setIfInBounds_toArray, List.set_cons_zero, List.set_cons_succ]
                    refine wpAnyH_done (by kernel_rfl) ?_ _
                    have HFB := Lib.hid hH.2.2.2.2.2.2.2.2.out
                    have HFK := Lib.hid hH.2.2.2.2.2.2.2.1.out
                    clear hH
                    go_wp2_with fail
                    go_roundw
                    case rel => exact ⟨m + 1, by go_num, by omega, (show Hid _ from ⟨HFB.out, HFK.out, HNR.out⟩)⟩
                    case measure => simp [RowKit.intOf]; omega
              · obtain rfl : m = j := by omega
                have HNX : Hid (∀ q, q < m + 1 → ∀ z, ¬ Ra (fn l) z q) := fun q hq z hz => by
                  by_cases e : q = m
                  · subst e; exact HW2.out.2.2 z hz.1 hz
                  · exact HR.out.2 q (by omega) z hz
                have HBF := Lib.hid HW2.out.1
                go_wp2_with fail
                go_roundw
                case rel => exact ⟨m + 1, by go_num, by omega, (show Hid _ from ⟨HBF.out, HNX.out⟩)⟩
                case measure => simp [RowKit.intOf]; omega
        · obtain rfl : j = k := by omega
          have HT : Hid (Tells (fn l) l.length (-1) 0) := .inr (.inr ⟨no_bad HBAD'.out, fun q hq => HR.out.2 q (by rw [← HN.out]; exact hq), rfl, rfl⟩)
          go_wp2_with fail
          go_ret2
          exact ⟨-1, 0, rfl, HT.out, HR.out.1⟩
end Rc
end Go.Proofs.Ytalclmfnalmphaa
