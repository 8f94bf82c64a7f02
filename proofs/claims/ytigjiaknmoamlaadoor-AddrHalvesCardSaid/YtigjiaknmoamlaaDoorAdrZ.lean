/- Layer 3: the walk of AddrHalves. -/
import Derived.Test.YtigjiaknmoamlaaDoorAdrX
set_option linter.unusedVariables false
set_option linter.unusedSimpArgs false
namespace Go.Proofs.YtigjiaknmoamlaaDoor
open Go.ChangeShapes Go.WideShapes Go.ChangeAt Go.RowKit Go.Mtl Go.Shelf Go.Sort Go.Lib
namespace Ad
open AdrM (validS hasS validS_mk pow_step)

/-- The two halves: what contains x. -/
theorem half_base {a : Nat} {n : Int} (hv : validS a n = true) (h0 : 0 ≤ n) (h1 : n ≤ 31) :
    validS a (n + 1) = true ∧ validS (a + 2 ^ (31 - n.toNat)) (n + 1) = true := by
  have h := (validS_mk.1 hv).2
  have e : (n + 1).toNat = n.toNat + 1 := by omega
  have e2 : 32 - (n.toNat + 1) = 31 - n.toNat := by omega
  rw [pow_step n.toNat (by omega)] at h
  have hp : 0 < 2 ^ (31 - n.toNat) := Nat.pow_pos (by omega)
  have hm : a % 2 ^ (31 - n.toNat) = 0 := by
    have := Nat.mod_mod_of_dvd a (show 2 ^ (31 - n.toNat) ∣ 2 * 2 ^ (31 - n.toNat) from ⟨2, Nat.mul_comm _ _⟩)
    rw [h] at this; simpa using this.symm
  constructor
  · rw [validS_mk, e, e2]; exact ⟨by omega, hm⟩
  · rw [validS_mk, e, e2]; exact ⟨by omega, by rw [Nat.add_mod_right]; exact hm⟩
theorem half_parts {a x : Nat} {n : Int} (hv : validS a n = true) (h0 : 0 ≤ n) (h1 : n ≤ 31) :
    hasS a n x = (hasS a (n + 1) x || hasS (a + 2 ^ (31 - n.toNat)) (n + 1) x) ∧ (hasS a (n + 1) x && hasS (a + 2 ^ (31 - n.toNat)) (n + 1) x) = false := by
  obtain ⟨v1, v2⟩ := half_base hv h0 h1
  have h := (validS_mk.1 hv).2
  have e : (n + 1).toNat = n.toNat + 1 := by omega
  have e2 : 32 - (n.toNat + 1) = 31 - n.toNat := by omega
  unfold hasS
  rw [hv, v1, v2, e, e2]
  simp only [Bool.true_and]
  rw [pow_step n.toNat (by omega)] at h ⊢
  have hp : 0 < 2 ^ (31 - n.toNat) := Nat.pow_pos (by omega)
  generalize 2 ^ (31 - n.toNat) = d at *
  have q1 : a / (2 * d) = a / d / 2 := by rw [Nat.mul_comm, Nat.div_div_eq_div_mul]
  have q2 : x / (2 * d) = x / d / 2 := by rw [Nat.mul_comm, Nat.div_div_eq_div_mul]
  have q3 : (a + d) / d = a / d + 1 := Nat.add_div_right a hp
  have q4 : a / d % 2 = 0 := by
    have := Nat.mod_mul_right_div_self a d 2
    rw [Nat.mul_comm d 2, h] at this
    simpa using this.symm
  rw [q1, q2, q3]
  generalize a / d = p at *
  generalize x / d = q at *
  constructor
  · rw [Bool.eq_iff_iff]; simp; omega
  · rw [Bool.and_eq_false_iff]; simp; omega
theorem half_own {a : Nat} {n : Int} (hv : validS a n = true) : hasS a n a = true := by unfold hasS; rw [hv]; simp
/-- 'a | 1<<k' where the bits below 2^(k+1) are 0. -/
theorem or_bit (a : Nat) (n : Int) (ha : a < 4294967296) (hv : validS a n = true) (h0 : 0 ≤ n) (h1 : n ≤ 31) :
    ∃ b : Nat, b = a + 2 ^ (31 - n.toNat) ∧ bits .or .u32 (a : Int) (2 ^ (31 - n).toNat % 4294967296) = (b : Int) ∧ b < 4294967296 := by
  have h := (validS_mk.1 hv).2
  have e : (31 - n).toNat = 31 - n.toNat := by omega
  have e2 : 32 - n.toNat = (31 - n.toNat) + 1 := by omega
  rw [e2] at h
  rw [e]
  generalize hk : 31 - n.toNat = k at *
  have hk31 : k ≤ 31 := by omega
  have hp : 0 < 2 ^ k := Nat.pow_pos (by omega)
  have hp2 : 2 ^ (k + 1) = 2 * 2 ^ k := by rw [Nat.pow_succ]; omega
  have hpm : 2 ^ k ≤ 2 ^ 31 := Nat.pow_le_pow_right (by omega) hk31
  have hprod : 2 ^ (k + 1) * 2 ^ (31 - k) = 4294967296 := by rw [← Nat.pow_add, show k + 1 + (31 - k) = 32 by omega]
  have hq : a = 2 ^ (k + 1) * (a / 2 ^ (k + 1)) := by have := Nat.div_add_mod a (2 ^ (k + 1)); omega
  have hlt : a / 2 ^ (k + 1) < 2 ^ (31 - k) := by
    rw [Nat.div_lt_iff_lt_mul (Nat.pow_pos (by omega)), Nat.mul_comm]
    omega
  have hb : a + 2 ^ (k + 1) ≤ 4294967296 := by
    have h3 : 2 ^ (k + 1) * (a / 2 ^ (k + 1) + 1) ≤ 2 ^ (k + 1) * 2 ^ (31 - k) := Nat.mul_le_mul_left _ hlt
    rw [hprod, Nat.mul_add, Nat.mul_one, ← hq] at h3
    exact h3
  refine ⟨a + 2 ^ k, rfl, ?_, by omega⟩
  have ez : (2 ^ k % 4294967296 : Int) = ((2 ^ k : Nat) : Int) := by
    have : ((2 ^ k : Nat) : Int) = 2 ^ k := by simp
    rw [← this]; omega
  rw [ez, u32_or_nat _ _ ha (by omega), nat_join (k + 1) a (2 ^ k) h (by omega)]

/-- Three networks in blocks of the call's own: (a, n) behind world w; (a, n + 1) and (b, n + 1) behind world v. -/
structure Tri (w v : World) (a n b : Int) (W : World) : Prop where
  one : NetAt w a n W
  two : NetAt v a (n + 1) W
  c0 : W.cell? ⟨v.heap.size + 1, 0, none⟩ = some (.int .u32 b)
  c1 : W.cell? ⟨v.heap.size + 1, 1, none⟩ = some (.int .i64 (n + 1))
  lt : v.heap.size + 1 < W.heap.size
theorem Tri.cells {w v W : World} {a n b : Int} (h : Tri w v a n b W) : W.cell? ⟨w.heap.size, 0, none⟩ = some (.int .u32 a) ∧ W.cell? ⟨w.heap.size, 1, none⟩ = some (.int .i64 n) ∧ W.cell? ⟨v.heap.size, 0, none⟩ = some (.int .u32 a) ∧ W.cell? ⟨v.heap.size, 1, none⟩ = some (.int .i64 (n + 1)) ∧ W.cell? ⟨v.heap.size + 1, 0, none⟩ = some (.int .u32 b) ∧ W.cell? ⟨v.heap.size + 1, 1, none⟩ = some (.int .i64 (n + 1)) := ⟨h.one.1, h.one.2.1, h.two.1, h.two.2.1, h.c0, h.c1⟩
theorem Tri.next {w v W V : World} {a n b : Int} (h : Tri w v a n b W) (hb : Below W.heap.size W V) : Tri w v a n b V :=
  ⟨h.one.next hb, h.two.next hb, (hb.cell h.lt).trans h.c0, (hb.cell h.lt).trans h.c1, by have := h.lt; have := hb.size; omega⟩
theorem Tri.mk' {w v W : World} {a n b : Int} (h : Tri w v a n b W) : W.cell? ⟨w.heap.size, 0, none⟩ = some (.int .u32 a) ∧ W.cell? ⟨w.heap.size, 1, none⟩ = some (.int .i64 n) ∧ W.cell? ⟨v.heap.size, 0, none⟩ = some (.int .u32 a) ∧ W.cell? ⟨v.heap.size, 1, none⟩ = some (.int .i64 (n + 1)) ∧ W.cell? ⟨v.heap.size + 1, 0, none⟩ = some (.int .u32 b) ∧ W.cell? ⟨v.heap.size + 1, 1, none⟩ = some (.int .i64 (n + 1)) ∧ Hid (Tri w v a n b W) := ⟨h.one.1, h.one.2.1, h.two.1, h.two.2.1, h.c0, h.c1, h⟩
theorem Tri.go {w v W V : World} {a n b : Int} (h : W.cell? ⟨w.heap.size, 0, none⟩ = some (.int .u32 a) ∧ W.cell? ⟨w.heap.size, 1, none⟩ = some (.int .i64 n) ∧ W.cell? ⟨v.heap.size, 0, none⟩ = some (.int .u32 a) ∧ W.cell? ⟨v.heap.size, 1, none⟩ = some (.int .i64 (n + 1)) ∧ W.cell? ⟨v.heap.size + 1, 0, none⟩ = some (.int .u32 b) ∧ W.cell? ⟨v.heap.size + 1, 1, none⟩ = some (.int .i64 (n + 1)) ∧ Hid (Tri w v a n b W)) (hb : Below W.heap.size W V) : V.cell? ⟨w.heap.size, 0, none⟩ = some (.int .u32 a) ∧ V.cell? ⟨w.heap.size, 1, none⟩ = some (.int .i64 n) ∧ V.cell? ⟨v.heap.size, 0, none⟩ = some (.int .u32 a) ∧ V.cell? ⟨v.heap.size, 1, none⟩ = some (.int .i64 (n + 1)) ∧ V.cell? ⟨v.heap.size + 1, 0, none⟩ = some (.int .u32 b) ∧ V.cell? ⟨v.heap.size + 1, 1, none⟩ = some (.int .i64 (n + 1)) ∧ Hid (Tri w v a n b V) := (h.2.2.2.2.2.2.out.next hb).mk'
theorem Tri.god {w v W : World} {a n b : Int} (h : Hid (Tri w v a n b W)) : W.drew.cell? ⟨w.heap.size, 0, none⟩ = some (.int .u32 a) ∧ W.drew.cell? ⟨w.heap.size, 1, none⟩ = some (.int .i64 n) ∧ W.drew.cell? ⟨v.heap.size, 0, none⟩ = some (.int .u32 a) ∧ W.drew.cell? ⟨v.heap.size, 1, none⟩ = some (.int .i64 (n + 1)) ∧ W.drew.cell? ⟨v.heap.size + 1, 0, none⟩ = some (.int .u32 b) ∧ W.drew.cell? ⟨v.heap.size + 1, 1, none⟩ = some (.int .i64 (n + 1)) ∧ Hid (Tri w v a n b W.drew) := (h.out.next ((Below.refl _ _).drew)).mk'
theorem Tri.net {w v W : World} {a n b : Int} (h : W.cell? ⟨w.heap.size, 0, none⟩ = some (.int .u32 a) ∧ W.cell? ⟨w.heap.size, 1, none⟩ = some (.int .i64 n) ∧ W.cell? ⟨v.heap.size, 0, none⟩ = some (.int .u32 a) ∧ W.cell? ⟨v.heap.size, 1, none⟩ = some (.int .i64 (n + 1)) ∧ W.cell? ⟨v.heap.size + 1, 0, none⟩ = some (.int .u32 b) ∧ W.cell? ⟨v.heap.size + 1, 1, none⟩ = some (.int .i64 (n + 1)) ∧ Hid (Tri w v a n b W)) : NetAt w a n W := h.2.2.2.2.2.2.out.one
theorem Tri.fin {w v W : World} {a n b : Int} (h : W.cell? ⟨w.heap.size, 0, none⟩ = some (.int .u32 a) ∧ W.cell? ⟨w.heap.size, 1, none⟩ = some (.int .i64 n) ∧ W.cell? ⟨v.heap.size, 0, none⟩ = some (.int .u32 a) ∧ W.cell? ⟨v.heap.size, 1, none⟩ = some (.int .i64 (n + 1)) ∧ W.cell? ⟨v.heap.size + 1, 0, none⟩ = some (.int .u32 b) ∧ W.cell? ⟨v.heap.size + 1, 1, none⟩ = some (.int .i64 (n + 1)) ∧ Hid (Tri w v a n b W)) : Below w.heap.size w W := h.2.2.2.2.2.2.out.one.2.2.1
theorem tri_start {w v : World} {a n b : Int} (h : NetAt w a n v) : Tri w v a n b ((v.alloc (.cells #[.int .u32 a, .int .i64 (n + 1)] 30)).alloc (.cells #[.int .u32 b, .int .i64 (n + 1)] 30)) := by
  have b1 := (Below.refl v.heap.size v).alloc (Nat.le_refl _) (.cells #[.int .u32 a, .int .i64 (n + 1)] 30)
  have b2 := (Below.refl (boxed v a (n + 1)).heap.size (boxed v a (n + 1))).alloc (Nat.le_refl _) (.cells #[.int .u32 b, .int .i64 (n + 1)] 30)
  have h3 := netAt_box (boxed v a (n + 1)) b (n + 1)
  have e : (boxed v a (n + 1)).heap.size = v.heap.size + 1 := by simp
  have h30 := h3.1
  have h31 := h3.2.1
  have h3l := h3.2.2.2
  rw [e] at h30 h31 h3l
  exact ⟨(h.next b1).next b2, (netAt_box v a (n + 1)).next b2, h30, h31, h3l⟩
theorem hasS_no {a x : Nat} {n : Int} (hv : validS a n = false) : hasS a n x = false := by unfold hasS; rw [hv]; rfl
set_option maxRecDepth 100000 in
set_option maxHeartbeats 8000000 in
theorem addrHalves_walk (a : Nat) (n : Int) (x : Nat) (w : World) (he : Env w) (ha : a < 4294967296) (hx : x < 4294967296) :
    Calls Tryd.prog 6 #[.agg #[.int .u32 (a : Int), .int .i64 n], .int .u32 (x : Int)] w fun e w' => e = .returned (.bool true) ∧ Below w.heap.size w w' := by
  have HE := Lib.hid he
  have HN := Lib.hid (netAt_box w a n)
  have HA := Lib.hid (fun W (h : NetAt w a n W) => awake_any W (he.below h.2.2.1))
  clear he
  by_cases h0 : 0 ≤ n
  · by_cases h1 : n ≤ 31
    · have C1 := Lib.hid (fun W => has_any a a n ha ha W)
      cases hv : validS a n with
      | false =>
        rw [hasS_no hv] at C1
        clear hv
        go_enter Tryd.func6, Tryd.ntmps6
        go_wp2_with fail
        go_at_call 17
        refine (C1.out _).mono ?_
        rintro e w1 ⟨rfl, hb1⟩
        have HN1 := Lib.hid (HN.out.next hb1)
        clear hb1
        go_wp2_with fail
        go_at_call 12
        refine (HA.out _ HN1.out).mono ?_
        rintro e w2 ⟨rfl, hb2⟩
        have HN2 := Lib.hid (HN1.out.next hb2)
        clear hb2
        go_wp2_with fail
        go_ret
        exact ⟨rfl, HN2.out.2.2.1⟩
      | true =>
        rw [half_own hv] at C1
        obtain ⟨b, hbb, ho1, ho2⟩ := or_bit a n ha hv h0 h1
        obtain ⟨hv1, hv2⟩ := half_base hv h0 h1
        have hparts := half_parts (x := x) hv h0 h1
        rw [← hbb] at hv2 hparts
        have D1 := Lib.hid (fun W => has_any a x n ha hx W)
        have D2 := Lib.hid (fun W => has_any a x (n + 1) ha hx W)
        have D3 := Lib.hid (fun W => has_any b x (n + 1) ho2 hx W)
        have D4 := Lib.hid (fun W => has_any a a (n + 1) ha ha W)
        have D5 := Lib.hid (fun W => has_any b b (n + 1) ho2 ho2 W)
        rw [half_own hv1] at D4
        rw [half_own hv2] at D5
        rw [hparts.1] at D1
        have hp2 := hparts.2
        clear hparts hv1 hv2 hbb hv
        generalize hasS a (n + 1) x = p at D1 D2 hp2
        generalize hasS b (n + 1) x = q at D1 D3 hp2
        go_enter Tryd.func6, Tryd.ntmps6
        go_wp2_with fail
        go_at_call 17
        refine (C1.out _).mono ?_
        rintro e w1 ⟨rfl, hb1⟩
        obtain ⟨hc0, hc1, HN1⟩ := NetAt.go HN hb1
        obtain ⟨hc0', hc1', HN2⟩ := NetAt.go HN1 ((Below.refl _ _).alloc (Nat.le_refl _) (.cells #[.int .u32 (a : Int), .int .i64 (n + 1)] 30))
        have hd1 : decide (n < 0) = false := by simpa using h0
        have hd2 : decide (31 < n) = false := by simpa using h1
        clear hb1
        go_wp2_with fail
        clear ho1 hc0 hc1 hc0' hc1' hd1 hd2
        have HT := Lib.hid (tri_start (b := (b : Int)) HN1.out)
        obtain ⟨k0, k1, k2, k3, k4, k5⟩ := HT.out.cells
        cases p with
        | true =>
          cases q with
          | true => cases hp2
          | false =>
            clear hp2
            simp only [Bool.or_false, Bool.true_or] at D1
            refine wp_region_held_drew (S := (fun w' => w'.cell? ⟨w.heap.size, 0, none⟩ = some (.int .u32 a) ∧ w'.cell? ⟨w.heap.size, 1, none⟩ = some (.int .i64 n) ∧ w'.cell? ⟨w1.heap.size, 0, none⟩ = some (.int .u32 a) ∧ w'.cell? ⟨w1.heap.size, 1, none⟩ = some (.int .i64 (n + 1)) ∧ w'.cell? ⟨w1.heap.size + 1, 0, none⟩ = some (.int .u32 b) ∧ w'.cell? ⟨w1.heap.size + 1, 1, none⟩ = some (.int .i64 (n + 1)) ∧ Hid (Tri w w1 a n b w'))) (by kernel_rfl) (Tri.god HT) (fun hH => ?_)
            refine wpAnyH_ready (rs := [0]) (by kernel_rfl) (by simp) (AllReadyH.cons rfl (fun K hK => ?_) (AllReadyH.nil))
            go_simp
            go_at_call 12
            refine (HA.out _ (Tri.net hH)).mono ?_
            rintro e w3 ⟨rfl, hbp⟩
            refine hK.out _ _ (Tri.go hH hbp) (fun hH => ?_)
            clear hK K
            clear hbp
            refine wpAnyH_take (i := 1) (oi := ⟨some 42, _, _, _, _, _⟩) (v := ?v1) rfl (by kernel_rfl) (by kernel_rfl) (by kernel_rfl) (fun _ _ _ h => h) (Or.inl ⟨rfl, ?c1⟩) hH ?r1
            case c1 => (intro w' _; go_simp; (try with_reducible rfl))
            try simp only [Act.put, List.setIfInBounds_toArray, List.set_cons_zero, List.set_cons_succ]
            refine wpAnyH_take (i := 2) (oi := ⟨some 43, _, _, _, _, _⟩) (v := ?v2) rfl (by kernel_rfl) (by kernel_rfl) (by kernel_rfl) (fun _ _ _ h => h) (Or.inl ⟨rfl, ?c2⟩) hH ?r2
            case c2 => (intro w' hS; (try dsimp only at hS); go_simp; (try with_reducible rfl))
            try simp only [Act.put, List.setIfInBounds_toArray, List.set_cons_zero, List.set_cons_succ]
            refine wpAnyH_take (i := 3) (oi := ⟨some 44, _, _, _, _, _⟩) (v := ?v3) rfl (by kernel_rfl) (by kernel_rfl) (by kernel_rfl) (fun _ _ _ h => h) (Or.inl ⟨rfl, ?c3⟩) hH ?r3
            case c3 => (intro w' _; go_simp; (try with_reducible rfl))
            try simp only [Act.put, List.setIfInBounds_toArray, List.set_cons_zero, List.set_cons_succ]
            refine wpAnyH_take (i := 5) (oi := ⟨some 46, _, _, _, _, _⟩) (v := ?v4) rfl (by kernel_rfl) (by kernel_rfl) (by kernel_rfl) (fun _ _ _ h => h) (Or.inl ⟨rfl, ?c4⟩) hH ?r4
            case c4 => (intro w' hS; (try dsimp only at hS); go_simp; (try with_reducible rfl))
            try simp only [Act.put, List.setIfInBounds_toArray, List.set_cons_zero, List.set_cons_succ]
            refine wpAnyH_take (i := 6) (oi := ⟨some 47, _, _, _, _, _⟩) (v := ?v5) rfl (by kernel_rfl) (by kernel_rfl) (by kernel_rfl) (fun _ _ _ h => h) (Or.inl ⟨rfl, ?c5⟩) hH ?r5
            case c5 => (intro w' _; go_simp; (try with_reducible rfl))
            try simp only [Act.put, List.setIfInBounds_toArray, List.set_cons_zero, List.set_cons_succ]
            refine wpAnyH_ready (rs := [4]) (by kernel_rfl) (by simp) (AllReadyH.cons rfl (fun K hK => ?_) (AllReadyH.nil))
            go_simp
            go_at_call 17
            refine (D1.out _).mono ?_
            rintro e w3 ⟨rfl, hbp⟩
            refine hK.out _ _ (Tri.go hH hbp) (fun hH => ?_)
            clear hK K
            clear hbp
            refine wpAnyH_ready (rs := [7]) (by kernel_rfl) (by simp) (AllReadyH.cons rfl (fun K hK => ?_) (AllReadyH.nil))
            go_simp
            go_at_call 17
            refine (D2.out _).mono ?_
            rintro e w3 ⟨rfl, hbp⟩
            refine hK.out _ _ (Tri.go hH hbp) (fun hH => ?_)
            clear hK K
            clear hbp
            refine wpAnyH_take (i := 8) (oi := ⟨some 49, _, _, _, _, _⟩) (v := ?v6) rfl (by kernel_rfl) (by kernel_rfl) (by kernel_rfl) (fun _ _ _ h => h) (Or.inl ⟨rfl, ?c6⟩) hH ?r6
            case c6 => (intro w' _; go_simp; (try with_reducible rfl))
            try simp only [Act.put, List.setIfInBounds_toArray, List.set_cons_zero, List.set_cons_succ]
            refine wpAnyH_take (i := 9) (oi := ⟨some 50, _, _, _, _, _⟩) (v := undef) rfl (by kernel_rfl) (by kernel_rfl) (by kernel_rfl) (fun _ _ _ h => h) (Or.inr ⟨rfl, rfl⟩) hH ?_
            try simp only [Act.put, List.setIfInBounds_toArray, List.set_cons_zero, List.set_cons_succ]
            refine wpAnyH_take (i := 10) (oi := ⟨some 51, _, _, _, _, _⟩) (v := undef) rfl (by kernel_rfl) (by kernel_rfl) (by kernel_rfl) (fun _ _ _ h => h) (Or.inr ⟨rfl, rfl⟩) hH ?_
            try simp only [Act.put, List.setIfInBounds_toArray, List.set_cons_zero, List.set_cons_succ]
            refine wpAnyH_take (i := 11) (oi := ⟨some 52, _, _, _, _, _⟩) (v := undef) rfl (by kernel_rfl) (by kernel_rfl) (by kernel_rfl) (fun _ _ _ h => h) (Or.inr ⟨rfl, rfl⟩) hH ?_
            try simp only [Act.put, List.setIfInBounds_toArray, List.set_cons_zero, List.set_cons_succ]
            refine wpAnyH_take (i := 12) (oi := ⟨some 53, _, _, _, _, _⟩) (v := ?v10) rfl (by kernel_rfl) (by kernel_rfl) (by kernel_rfl) (fun _ _ _ h => h) (Or.inl ⟨rfl, ?c10⟩) hH ?r10
            case c10 => (intro w' _; go_simp; (try with_reducible rfl))
            try simp only [Act.put, List.setIfInBounds_toArray, List.set_cons_zero, List.set_cons_succ]
            refine wpAnyH_take (i := 13) (oi := ⟨some 54, _, _, _, _, _⟩) (v := ?v11) rfl (by kernel_rfl) (by kernel_rfl) (by kernel_rfl) (fun _ _ _ h => h) (Or.inl ⟨rfl, ?c11⟩) hH ?r11
            case c11 => (intro w' _; go_simp; (try with_reducible rfl))
            try simp only [Act.put, List.setIfInBounds_toArray, List.set_cons_zero, List.set_cons_succ]
            refine wpAnyH_take (i := 14) (oi := ⟨some 55, _, _, _, _, _⟩) (v := ?v12) rfl (by kernel_rfl) (by kernel_rfl) (by kernel_rfl) (fun _ _ _ h => h) (Or.inl ⟨rfl, ?c12⟩) hH ?r12
            case c12 => (intro w' _; go_simp; (try with_reducible rfl))
            try simp only [Act.put, List.setIfInBounds_toArray, List.set_cons_zero, List.set_cons_succ]
            refine wpAnyH_take (i := 15) (oi := ⟨some 56, _, _, _, _, _⟩) (v := ?v13) rfl (by kernel_rfl) (by kernel_rfl) (by kernel_rfl) (fun _ _ _ h => h) (Or.inl ⟨rfl, ?c13⟩) hH ?r13
            case c13 => (intro w' _; go_simp; (try with_reducible rfl))
            try simp only [Act.put, List.setIfInBounds_toArray, List.set_cons_zero, List.set_cons_succ]
            refine wpAnyH_take (i := 16) (oi := ⟨some 57, _, _, _, _, _⟩) (v := ?v14) rfl (by kernel_rfl) (by kernel_rfl) (by kernel_rfl) (fun _ _ _ h => h) (Or.inl ⟨rfl, ?c14⟩) hH ?r14
            case c14 => (intro w' hS; (try dsimp only at hS); go_simp; (try with_reducible rfl))
            try simp only [Act.put, List.setIfInBounds_toArray, List.set_cons_zero, List.set_cons_succ]
            refine wpAnyH_take (i := 17) (oi := ⟨some 58, _, _, _, _, _⟩) (v := ?v15) rfl (by kernel_rfl) (by kernel_rfl) (by kernel_rfl) (fun _ _ _ h => h) (Or.inl ⟨rfl, ?c15⟩) hH ?r15
            case c15 => (intro w' _; go_simp; (try with_reducible rfl))
            try simp only [Act.put, List.setIfInBounds_toArray, List.set_cons_zero, List.set_cons_succ]
            refine wpAnyH_ready (rs := [18]) (by kernel_rfl) (by simp) (AllReadyH.cons rfl (fun K hK => ?_) (AllReadyH.nil))
            go_simp
            go_at_call 17
            refine (D2.out _).mono ?_
            rintro e w3 ⟨rfl, hbp⟩
            refine hK.out _ _ (Tri.go hH hbp) (fun hH => ?_)
            clear hK K
            clear hbp
            refine wpAnyH_take (i := 19) (oi := ⟨some 60, _, _, _, _, _⟩) (v := ?v16) rfl (by kernel_rfl) (by kernel_rfl) (by kernel_rfl) (fun _ _ _ h => h) (Or.inl ⟨rfl, ?c16⟩) hH ?r16
            case c16 => (intro w' _; go_simp; (try with_reducible rfl))
            try simp only [Act.put, List.setIfInBounds_toArray, List.set_cons_zero, List.set_cons_succ]
            refine wpAnyH_take (i := 20) (oi := ⟨some 61, _, _, _, _, _⟩) (v := ?v17) rfl (by kernel_rfl) (by kernel_rfl) (by kernel_rfl) (fun _ _ _ h => h) (Or.inl ⟨rfl, ?c17⟩) hH ?r17
            case c17 => (intro w' hS; (try dsimp only at hS); go_simp; (try with_reducible rfl))
            try simp only [Act.put, List.setIfInBounds_toArray, List.set_cons_zero, List.set_cons_succ]
            refine wpAnyH_take (i := 21) (oi := ⟨some 62, _, _, _, _, _⟩) (v := ?v18) rfl (by kernel_rfl) (by kernel_rfl) (by kernel_rfl) (fun _ _ _ h => h) (Or.inl ⟨rfl, ?c18⟩) hH ?r18
            case c18 => (intro w' _; go_simp; (try with_reducible rfl))
            try simp only [Act.put, List.setIfInBounds_toArray, List.set_cons_zero, List.set_cons_succ]
            refine wpAnyH_ready (rs := [22]) (by kernel_rfl) (by simp) (AllReadyH.cons rfl (fun K hK => ?_) (AllReadyH.nil))
            go_simp
            go_at_call 17
            refine (D3.out _).mono ?_
            rintro e w3 ⟨rfl, hbp⟩
            refine hK.out _ _ (Tri.go hH hbp) (fun hH => ?_)
            clear hK K
            clear hbp
            refine wpAnyH_take (i := 23) (oi := ⟨some 64, _, _, _, _, _⟩) (v := ?v19) rfl (by kernel_rfl) (by kernel_rfl) (by kernel_rfl) (fun _ _ _ h => h) (Or.inl ⟨rfl, ?c19⟩) hH ?r19
            case c19 => (intro w' _; go_simp; (try with_reducible rfl))
            try simp only [Act.put, List.setIfInBounds_toArray, List.set_cons_zero, List.set_cons_succ]
            refine wpAnyH_take (i := 24) (oi := ⟨some 65, _, _, _, _, _⟩) (v := ?v20) rfl (by kernel_rfl) (by kernel_rfl) (by kernel_rfl) (fun _ _ _ h => h) (Or.inl ⟨rfl, ?c20⟩) hH ?r20
            case c20 => (intro w' _; go_simp; (try with_reducible rfl))
            try simp only [Act.put, List.setIfInBounds_toArray, List.set_cons_zero, List.set_cons_succ]
            refine wpAnyH_take (i := 25) (oi := ⟨some 66, _, _, _, _, _⟩) (v := ?v21) rfl (by kernel_rfl) (by kernel_rfl) (by kernel_rfl) (fun _ _ _ h => h) (Or.inl ⟨rfl, ?c21⟩) hH ?r21
            case c21 => (intro w' _; go_simp; (try with_reducible rfl))
            try simp only [Act.put, List.setIfInBounds_toArray, List.set_cons_zero, List.set_cons_succ]
            refine wpAnyH_take (i := 26) (oi := ⟨some 67, _, _, _, _, _⟩) (v := ?v22) rfl (by kernel_rfl) (by kernel_rfl) (by kernel_rfl) (fun _ _ _ h => h) (Or.inl ⟨rfl, ?c22⟩) hH ?r22
            case c22 => (intro w' _; go_simp; (try with_reducible rfl))
            try simp only [Act.put, List.setIfInBounds_toArray, List.set_cons_zero, List.set_cons_succ]
            refine wpAnyH_take (i := 27) (oi := ⟨some 68, _, _, _, _, _⟩) (v := ?v23) rfl (by kernel_rfl) (by kernel_rfl) (by kernel_rfl) (fun _ _ _ h => h) (Or.inl ⟨rfl, ?c23⟩) hH ?r23
            case c23 => (intro w' hS; (try dsimp only at hS); go_simp; (try with_reducible rfl))
            try simp only [Act.put, List.setIfInBounds_toArray, List.set_cons_zero, List.set_cons_succ]
            refine wpAnyH_take (i := 28) (oi := ⟨some 69, _, _, _, _, _⟩) (v := ?v24) rfl (by kernel_rfl) (by kernel_rfl) (by kernel_rfl) (fun _ _ _ h => h) (Or.inl ⟨rfl, ?c24⟩) hH ?r24
            case c24 => (intro w' _; go_simp; (try with_reducible rfl))
            try simp only [Act.put, List.setIfInBounds_toArray, List.set_cons_zero, List.set_cons_succ]
            refine wpAnyH_take (i := 29) (oi := ⟨some 70, _, _, _, _, _⟩) (v := ?v25) rfl (by kernel_rfl) (by kernel_rfl) (by kernel_rfl) (fun _ _ _ h => h) (Or.inl ⟨rfl, ?c25⟩) hH ?r25
            case c25 => (intro w' hS; (try dsimp only at hS); go_simp; (try with_reducible rfl))
            try simp only [Act.put, List.setIfInBounds_toArray, List.set_cons_zero, List.set_cons_succ]
            refine wpAnyH_ready (rs := [30]) (by kernel_rfl) (by simp) (AllReadyH.cons rfl (fun K hK => ?_) (AllReadyH.nil))
            go_simp
            go_at_call 17
            refine (D4.out _).mono ?_
            rintro e w3 ⟨rfl, hbp⟩
            refine hK.out _ _ (Tri.go hH hbp) (fun hH => ?_)
            clear hK K
            clear hbp
            refine wpAnyH_take (i := 31) (oi := ⟨some 72, _, _, _, _, _⟩) (v := ?v26) rfl (by kernel_rfl) (by kernel_rfl) (by kernel_rfl) (fun _ _ _ h => h) (Or.inl ⟨rfl, ?c26⟩) hH ?r26
            case c26 => (intro w' _; go_simp; (try with_reducible rfl))
            try simp only [Act.put, List.setIfInBounds_toArray, List.set_cons_zero, List.set_cons_succ]
            refine wpAnyH_take (i := 32) (oi := ⟨some 73, _, _, _, _, _⟩) (v := ?v27) rfl (by kernel_rfl) (by kernel_rfl) (by kernel_rfl) (fun _ _ _ h => h) (Or.inl ⟨rfl, ?c27⟩) hH ?r27
            case c27 => (intro w' _; go_simp; (try with_reducible rfl))
            try simp only [Act.put, List.setIfInBounds_toArray, List.set_cons_zero, List.set_cons_succ]
            refine wpAnyH_take (i := 33) (oi := ⟨some 74, _, _, _, _, _⟩) (v := ?v28) rfl (by kernel_rfl) (by kernel_rfl) (by kernel_rfl) (fun _ _ _ h => h) (Or.inl ⟨rfl, ?c28⟩) hH ?r28
            case c28 => (intro w' hS; (try dsimp only at hS); go_simp; (try with_reducible rfl))
            try simp only [Act.put, List.setIfInBounds_toArray, List.set_cons_zero, List.set_cons_succ]
            refine wpAnyH_take (i := 34) (oi := ⟨some 75, _, _, _, _, _⟩) (v := ?v29) rfl (by kernel_rfl) (by kernel_rfl) (by kernel_rfl) (fun _ _ _ h => h) (Or.inl ⟨rfl, ?c29⟩) hH ?r29
            case c29 => (intro w' _; go_simp; (try with_reducible rfl))
            try simp only [Act.put, List.setIfInBounds_toArray, List.set_cons_zero, List.set_cons_succ]
            refine wpAnyH_take (i := 35) (oi := ⟨some 76, _, _, _, _, _⟩) (v := ?v30) rfl (by kernel_rfl) (by kernel_rfl) (by kernel_rfl) (fun _ _ _ h => h) (Or.inl ⟨rfl, ?c30⟩) hH ?r30
            case c30 => (intro w' hS; (try dsimp only at hS); go_simp; (try with_reducible rfl))
            try simp only [Act.put, List.setIfInBounds_toArray, List.set_cons_zero, List.set_cons_succ]
            refine wpAnyH_ready (rs := [36]) (by kernel_rfl) (by simp) (AllReadyH.cons rfl (fun K hK => ?_) (AllReadyH.nil))
            go_simp
            go_at_call 17
            refine (D5.out _).mono ?_
            rintro e w3 ⟨rfl, hbp⟩
            refine hK.out _ _ (Tri.go hH hbp) (fun hH => ?_)
            clear hK K
            clear hbp
            refine wpAnyH_take (i := 37) (oi := ⟨some 78, _, _, _, _, _⟩) (v := ?v31) rfl (by kernel_rfl) (by kernel_rfl) (by kernel_rfl) (fun _ _ _ h => h) (Or.inl ⟨rfl, ?c31⟩) hH ?r31
            case c31 => (intro w' _; go_simp; (try with_reducible rfl))
            try simp only [Act.put, List.setIfInBounds_toArray, List.set_cons_zero, List.set_cons_succ]
            refine wpAnyH_take (i := 38) (oi := ⟨some 4, _, _, _, _, _⟩) (v := ?v32) rfl (by kernel_rfl) (by kernel_rfl) (by kernel_rfl) (fun _ _ _ h => h) (Or.inl ⟨rfl, ?c32⟩) hH ?r32
            case c32 => (intro w' _; go_simp; (try with_reducible rfl))
            try simp only [Act.put, List.setIfInBounds_toArray, List.set_cons_zero, List.set_cons_succ]
            refine wpAnyH_done (by kernel_rfl) ?_ _
            go_wp2_with fail
            go_ret
            exact ⟨rfl, Tri.fin hH⟩
        | false =>
          cases q with
          | true =>
            clear hp2
            simp only [Bool.or_true, Bool.false_or] at D1
            refine wp_region_held_drew (S := (fun w' => w'.cell? ⟨w.heap.size, 0, none⟩ = some (.int .u32 a) ∧ w'.cell? ⟨w.heap.size, 1, none⟩ = some (.int .i64 n) ∧ w'.cell? ⟨w1.heap.size, 0, none⟩ = some (.int .u32 a) ∧ w'.cell? ⟨w1.heap.size, 1, none⟩ = some (.int .i64 (n + 1)) ∧ w'.cell? ⟨w1.heap.size + 1, 0, none⟩ = some (.int .u32 b) ∧ w'.cell? ⟨w1.heap.size + 1, 1, none⟩ = some (.int .i64 (n + 1)) ∧ Hid (Tri w w1 a n b w'))) (by kernel_rfl) (Tri.god HT) (fun hH => ?_)
            refine wpAnyH_ready (rs := [0]) (by kernel_rfl) (by simp) (AllReadyH.cons rfl (fun K hK => ?_) (AllReadyH.nil))
            go_simp
            go_at_call 12
            refine (HA.out _ (Tri.net hH)).mono ?_
            rintro e w3 ⟨rfl, hbp⟩
            refine hK.out _ _ (Tri.go hH hbp) (fun hH => ?_)
            clear hK K
            clear hbp
            refine wpAnyH_take (i := 1) (oi := ⟨some 42, _, _, _, _, _⟩) (v := ?v33) rfl (by kernel_rfl) (by kernel_rfl) (by kernel_rfl) (fun _ _ _ h => h) (Or.inl ⟨rfl, ?c33⟩) hH ?r33
            case c33 => (intro w' _; go_simp; (try with_reducible rfl))
            try simp only [Act.put, List.setIfInBounds_toArray, List.set_cons_zero, List.set_cons_succ]
            refine wpAnyH_take (i := 2) (oi := ⟨some 43, _, _, _, _, _⟩) (v := ?v34) rfl (by kernel_rfl) (by kernel_rfl) (by kernel_rfl) (fun _ _ _ h => h) (Or.inl ⟨rfl, ?c34⟩) hH ?r34
            case c34 => (intro w' hS; (try dsimp only at hS); go_simp; (try with_reducible rfl))
            try simp only [Act.put, List.setIfInBounds_toArray, List.set_cons_zero, List.set_cons_succ]
            refine wpAnyH_take (i := 3) (oi := ⟨some 44, _, _, _, _, _⟩) (v := ?v35) rfl (by kernel_rfl) (by kernel_rfl) (by kernel_rfl) (fun _ _ _ h => h) (Or.inl ⟨rfl, ?c35⟩) hH ?r35
            case c35 => (intro w' _; go_simp; (try with_reducible rfl))
            try simp only [Act.put, List.setIfInBounds_toArray, List.set_cons_zero, List.set_cons_succ]
            refine wpAnyH_take (i := 5) (oi := ⟨some 46, _, _, _, _, _⟩) (v := ?v36) rfl (by kernel_rfl) (by kernel_rfl) (by kernel_rfl) (fun _ _ _ h => h) (Or.inl ⟨rfl, ?c36⟩) hH ?r36
            case c36 => (intro w' hS; (try dsimp only at hS); go_simp; (try with_reducible rfl))
            try simp only [Act.put, List.setIfInBounds_toArray, List.set_cons_zero, List.set_cons_succ]
            refine wpAnyH_take (i := 6) (oi := ⟨some 47, _, _, _, _, _⟩) (v := ?v37) rfl (by kernel_rfl) (by kernel_rfl) (by kernel_rfl) (fun _ _ _ h => h) (Or.inl ⟨rfl, ?c37⟩) hH ?r37
            case c37 => (intro w' _; go_simp; (try with_reducible rfl))
            try simp only [Act.put, List.setIfInBounds_toArray, List.set_cons_zero, List.set_cons_succ]
            refine wpAnyH_ready (rs := [4]) (by kernel_rfl) (by simp) (AllReadyH.cons rfl (fun K hK => ?_) (AllReadyH.nil))
            go_simp
            go_at_call 17
            refine (D1.out _).mono ?_
            rintro e w3 ⟨rfl, hbp⟩
            refine hK.out _ _ (Tri.go hH hbp) (fun hH => ?_)
            clear hK K
            clear hbp
            refine wpAnyH_ready (rs := [7]) (by kernel_rfl) (by simp) (AllReadyH.cons rfl (fun K hK => ?_) (AllReadyH.nil))
            go_simp
            go_at_call 17
            refine (D2.out _).mono ?_
            rintro e w3 ⟨rfl, hbp⟩
            refine hK.out _ _ (Tri.go hH hbp) (fun hH => ?_)
            clear hK K
            clear hbp
            refine wpAnyH_take (i := 8) (oi := ⟨some 49, _, _, _, _, _⟩) (v := ?v38) rfl (by kernel_rfl) (by kernel_rfl) (by kernel_rfl) (fun _ _ _ h => h) (Or.inl ⟨rfl, ?c38⟩) hH ?r38
            case c38 => (intro w' _; go_simp; (try with_reducible rfl))
            try simp only [Act.put, List.setIfInBounds_toArray, List.set_cons_zero, List.set_cons_succ]
            refine wpAnyH_take (i := 9) (oi := ⟨some 50, _, _, _, _, _⟩) (v := ?v39) rfl (by kernel_rfl) (by kernel_rfl) (by kernel_rfl) (fun _ _ _ h => h) (Or.inl ⟨rfl, ?c39⟩) hH ?r39
            case c39 => (intro w' hS; (try dsimp only at hS); go_simp; (try with_reducible rfl))
            try simp only [Act.put, List.setIfInBounds_toArray, List.set_cons_zero, List.set_cons_succ]
            refine wpAnyH_take (i := 10) (oi := ⟨some 51, _, _, _, _, _⟩) (v := ?v40) rfl (by kernel_rfl) (by kernel_rfl) (by kernel_rfl) (fun _ _ _ h => h) (Or.inl ⟨rfl, ?c40⟩) hH ?r40
            case c40 => (intro w' _; go_simp; (try with_reducible rfl))
            try simp only [Act.put, List.setIfInBounds_toArray, List.set_cons_zero, List.set_cons_succ]
            refine wpAnyH_ready (rs := [11]) (by kernel_rfl) (by simp) (AllReadyH.cons rfl (fun K hK => ?_) (AllReadyH.nil))
            go_simp
            go_at_call 17
            refine (D3.out _).mono ?_
            rintro e w3 ⟨rfl, hbp⟩
            refine hK.out _ _ (Tri.go hH hbp) (fun hH => ?_)
            clear hK K
            clear hbp
            refine wpAnyH_take (i := 12) (oi := ⟨some 53, _, _, _, _, _⟩) (v := ?v41) rfl (by kernel_rfl) (by kernel_rfl) (by kernel_rfl) (fun _ _ _ h => h) (Or.inl ⟨rfl, ?c41⟩) hH ?r41
            case c41 => (intro w' _; go_simp; (try with_reducible rfl))
            try simp only [Act.put, List.setIfInBounds_toArray, List.set_cons_zero, List.set_cons_succ]
            refine wpAnyH_take (i := 13) (oi := ⟨some 54, _, _, _, _, _⟩) (v := ?v42) rfl (by kernel_rfl) (by kernel_rfl) (by kernel_rfl) (fun _ _ _ h => h) (Or.inl ⟨rfl, ?c42⟩) hH ?r42
            case c42 => (intro w' _; go_simp; (try with_reducible rfl))
            try simp only [Act.put, List.setIfInBounds_toArray, List.set_cons_zero, List.set_cons_succ]
            refine wpAnyH_take (i := 14) (oi := ⟨some 55, _, _, _, _, _⟩) (v := ?v43) rfl (by kernel_rfl) (by kernel_rfl) (by kernel_rfl) (fun _ _ _ h => h) (Or.inl ⟨rfl, ?c43⟩) hH ?r43
            case c43 => (intro w' _; go_simp; (try with_reducible rfl))
            try simp only [Act.put, List.setIfInBounds_toArray, List.set_cons_zero, List.set_cons_succ]
            refine wpAnyH_take (i := 15) (oi := ⟨some 56, _, _, _, _, _⟩) (v := ?v44) rfl (by kernel_rfl) (by kernel_rfl) (by kernel_rfl) (fun _ _ _ h => h) (Or.inl ⟨rfl, ?c44⟩) hH ?r44
            case c44 => (intro w' _; go_simp; (try with_reducible rfl))
            try simp only [Act.put, List.setIfInBounds_toArray, List.set_cons_zero, List.set_cons_succ]
            refine wpAnyH_take (i := 16) (oi := ⟨some 57, _, _, _, _, _⟩) (v := ?v45) rfl (by kernel_rfl) (by kernel_rfl) (by kernel_rfl) (fun _ _ _ h => h) (Or.inl ⟨rfl, ?c45⟩) hH ?r45
            case c45 => (intro w' hS; (try dsimp only at hS); go_simp; (try with_reducible rfl))
            try simp only [Act.put, List.setIfInBounds_toArray, List.set_cons_zero, List.set_cons_succ]
            refine wpAnyH_take (i := 17) (oi := ⟨some 58, _, _, _, _, _⟩) (v := ?v46) rfl (by kernel_rfl) (by kernel_rfl) (by kernel_rfl) (fun _ _ _ h => h) (Or.inl ⟨rfl, ?c46⟩) hH ?r46
            case c46 => (intro w' _; go_simp; (try with_reducible rfl))
            try simp only [Act.put, List.setIfInBounds_toArray, List.set_cons_zero, List.set_cons_succ]
            refine wpAnyH_ready (rs := [18]) (by kernel_rfl) (by simp) (AllReadyH.cons rfl (fun K hK => ?_) (AllReadyH.nil))
            go_simp
            go_at_call 17
            refine (D2.out _).mono ?_
            rintro e w3 ⟨rfl, hbp⟩
            refine hK.out _ _ (Tri.go hH hbp) (fun hH => ?_)
            clear hK K
            clear hbp
            refine wpAnyH_take (i := 19) (oi := ⟨some 60, _, _, _, _, _⟩) (v := ?v47) rfl (by kernel_rfl) (by kernel_rfl) (by kernel_rfl) (fun _ _ _ h => h) (Or.inl ⟨rfl, ?c47⟩) hH ?r47
            case c47 => (intro w' _; go_simp; (try with_reducible rfl))
            try simp only [Act.put, List.setIfInBounds_toArray, List.set_cons_zero, List.set_cons_succ]
            refine wpAnyH_take (i := 20) (oi := ⟨some 61, _, _, _, _, _⟩) (v := undef) rfl (by kernel_rfl) (by kernel_rfl) (by kernel_rfl) (fun _ _ _ h => h) (Or.inr ⟨rfl, rfl⟩) hH ?_
            try simp only [Act.put, List.setIfInBounds_toArray, List.set_cons_zero, List.set_cons_succ]
            refine wpAnyH_take (i := 21) (oi := ⟨some 62, _, _, _, _, _⟩) (v := undef) rfl (by kernel_rfl) (by kernel_rfl) (by kernel_rfl) (fun _ _ _ h => h) (Or.inr ⟨rfl, rfl⟩) hH ?_
            try simp only [Act.put, List.setIfInBounds_toArray, List.set_cons_zero, List.set_cons_succ]
            refine wpAnyH_take (i := 22) (oi := ⟨some 63, _, _, _, _, _⟩) (v := undef) rfl (by kernel_rfl) (by kernel_rfl) (by kernel_rfl) (fun _ _ _ h => h) (Or.inr ⟨rfl, rfl⟩) hH ?_
            try simp only [Act.put, List.setIfInBounds_toArray, List.set_cons_zero, List.set_cons_succ]
            refine wpAnyH_take (i := 23) (oi := ⟨some 64, _, _, _, _, _⟩) (v := ?v51) rfl (by kernel_rfl) (by kernel_rfl) (by kernel_rfl) (fun _ _ _ h => h) (Or.inl ⟨rfl, ?c51⟩) hH ?r51
            case c51 => (intro w' _; go_simp; (try with_reducible rfl))
            try simp only [Act.put, List.setIfInBounds_toArray, List.set_cons_zero, List.set_cons_succ]
            refine wpAnyH_take (i := 24) (oi := ⟨some 65, _, _, _, _, _⟩) (v := ?v52) rfl (by kernel_rfl) (by kernel_rfl) (by kernel_rfl) (fun _ _ _ h => h) (Or.inl ⟨rfl, ?c52⟩) hH ?r52
            case c52 => (intro w' _; go_simp; (try with_reducible rfl))
            try simp only [Act.put, List.setIfInBounds_toArray, List.set_cons_zero, List.set_cons_succ]
            refine wpAnyH_take (i := 25) (oi := ⟨some 66, _, _, _, _, _⟩) (v := ?v53) rfl (by kernel_rfl) (by kernel_rfl) (by kernel_rfl) (fun _ _ _ h => h) (Or.inl ⟨rfl, ?c53⟩) hH ?r53
            case c53 => (intro w' _; go_simp; (try with_reducible rfl))
            try simp only [Act.put, List.setIfInBounds_toArray, List.set_cons_zero, List.set_cons_succ]
            refine wpAnyH_take (i := 26) (oi := ⟨some 67, _, _, _, _, _⟩) (v := ?v54) rfl (by kernel_rfl) (by kernel_rfl) (by kernel_rfl) (fun _ _ _ h => h) (Or.inl ⟨rfl, ?c54⟩) hH ?r54
            case c54 => (intro w' _; go_simp; (try with_reducible rfl))
            try simp only [Act.put, List.setIfInBounds_toArray, List.set_cons_zero, List.set_cons_succ]
            refine wpAnyH_take (i := 27) (oi := ⟨some 68, _, _, _, _, _⟩) (v := ?v55) rfl (by kernel_rfl) (by kernel_rfl) (by kernel_rfl) (fun _ _ _ h => h) (Or.inl ⟨rfl, ?c55⟩) hH ?r55
            case c55 => (intro w' hS; (try dsimp only at hS); go_simp; (try with_reducible rfl))
            try simp only [Act.put, List.setIfInBounds_toArray, List.set_cons_zero, List.set_cons_succ]
            refine wpAnyH_take (i := 28) (oi := ⟨some 69, _, _, _, _, _⟩) (v := ?v56) rfl (by kernel_rfl) (by kernel_rfl) (by kernel_rfl) (fun _ _ _ h => h) (Or.inl ⟨rfl, ?c56⟩) hH ?r56
            case c56 => (intro w' _; go_simp; (try with_reducible rfl))
            try simp only [Act.put, List.setIfInBounds_toArray, List.set_cons_zero, List.set_cons_succ]
            refine wpAnyH_take (i := 29) (oi := ⟨some 70, _, _, _, _, _⟩) (v := ?v57) rfl (by kernel_rfl) (by kernel_rfl) (by kernel_rfl) (fun _ _ _ h => h) (Or.inl ⟨rfl, ?c57⟩) hH ?r57
            case c57 => (intro w' hS; (try dsimp only at hS); go_simp; (try with_reducible rfl))
            try simp only [Act.put, List.setIfInBounds_toArray, List.set_cons_zero, List.set_cons_succ]
            refine wpAnyH_ready (rs := [30]) (by kernel_rfl) (by simp) (AllReadyH.cons rfl (fun K hK => ?_) (AllReadyH.nil))
            go_simp
            go_at_call 17
            refine (D4.out _).mono ?_
            rintro e w3 ⟨rfl, hbp⟩
            refine hK.out _ _ (Tri.go hH hbp) (fun hH => ?_)
            clear hK K
            clear hbp
            refine wpAnyH_take (i := 31) (oi := ⟨some 72, _, _, _, _, _⟩) (v := ?v58) rfl (by kernel_rfl) (by kernel_rfl) (by kernel_rfl) (fun _ _ _ h => h) (Or.inl ⟨rfl, ?c58⟩) hH ?r58
            case c58 => (intro w' _; go_simp; (try with_reducible rfl))
            try simp only [Act.put, List.setIfInBounds_toArray, List.set_cons_zero, List.set_cons_succ]
            refine wpAnyH_take (i := 32) (oi := ⟨some 73, _, _, _, _, _⟩) (v := ?v59) rfl (by kernel_rfl) (by kernel_rfl) (by kernel_rfl) (fun _ _ _ h => h) (Or.inl ⟨rfl, ?c59⟩) hH ?r59
            case c59 => (intro w' _; go_simp; (try with_reducible rfl))
            try simp only [Act.put, List.setIfInBounds_toArray, List.set_cons_zero, List.set_cons_succ]
            refine wpAnyH_take (i := 33) (oi := ⟨some 74, _, _, _, _, _⟩) (v := ?v60) rfl (by kernel_rfl) (by kernel_rfl) (by kernel_rfl) (fun _ _ _ h => h) (Or.inl ⟨rfl, ?c60⟩) hH ?r60
            case c60 => (intro w' hS; (try dsimp only at hS); go_simp; (try with_reducible rfl))
            try simp only [Act.put, List.setIfInBounds_toArray, List.set_cons_zero, List.set_cons_succ]
            refine wpAnyH_take (i := 34) (oi := ⟨some 75, _, _, _, _, _⟩) (v := ?v61) rfl (by kernel_rfl) (by kernel_rfl) (by kernel_rfl) (fun _ _ _ h => h) (Or.inl ⟨rfl, ?c61⟩) hH ?r61
            case c61 => (intro w' _; go_simp; (try with_reducible rfl))
            try simp only [Act.put, List.setIfInBounds_toArray, List.set_cons_zero, List.set_cons_succ]
            refine wpAnyH_take (i := 35) (oi := ⟨some 76, _, _, _, _, _⟩) (v := ?v62) rfl (by kernel_rfl) (by kernel_rfl) (by kernel_rfl) (fun _ _ _ h => h) (Or.inl ⟨rfl, ?c62⟩) hH ?r62
            case c62 => (intro w' hS; (try dsimp only at hS); go_simp; (try with_reducible rfl))
            try simp only [Act.put, List.setIfInBounds_toArray, List.set_cons_zero, List.set_cons_succ]
            refine wpAnyH_ready (rs := [36]) (by kernel_rfl) (by simp) (AllReadyH.cons rfl (fun K hK => ?_) (AllReadyH.nil))
            go_simp
            go_at_call 17
            refine (D5.out _).mono ?_
            rintro e w3 ⟨rfl, hbp⟩
            refine hK.out _ _ (Tri.go hH hbp) (fun hH => ?_)
            clear hK K
            clear hbp
            refine wpAnyH_take (i := 37) (oi := ⟨some 78, _, _, _, _, _⟩) (v := ?v63) rfl (by kernel_rfl) (by kernel_rfl) (by kernel_rfl) (fun _ _ _ h => h) (Or.inl ⟨rfl, ?c63⟩) hH ?r63
            case c63 => (intro w' _; go_simp; (try with_reducible rfl))
            try simp only [Act.put, List.setIfInBounds_toArray, List.set_cons_zero, List.set_cons_succ]
            refine wpAnyH_take (i := 38) (oi := ⟨some 4, _, _, _, _, _⟩) (v := ?v64) rfl (by kernel_rfl) (by kernel_rfl) (by kernel_rfl) (fun _ _ _ h => h) (Or.inl ⟨rfl, ?c64⟩) hH ?r64
            case c64 => (intro w' _; go_simp; (try with_reducible rfl))
            try simp only [Act.put, List.setIfInBounds_toArray, List.set_cons_zero, List.set_cons_succ]
            refine wpAnyH_done (by kernel_rfl) ?_ _
            go_wp2_with fail
            go_ret
            exact ⟨rfl, Tri.fin hH⟩
          | false =>
            clear hp2
            simp only [Bool.or_false] at D1
            refine wp_region_held_drew (S := (fun w' => w'.cell? ⟨w.heap.size, 0, none⟩ = some (.int .u32 a) ∧ w'.cell? ⟨w.heap.size, 1, none⟩ = some (.int .i64 n) ∧ w'.cell? ⟨w1.heap.size, 0, none⟩ = some (.int .u32 a) ∧ w'.cell? ⟨w1.heap.size, 1, none⟩ = some (.int .i64 (n + 1)) ∧ w'.cell? ⟨w1.heap.size + 1, 0, none⟩ = some (.int .u32 b) ∧ w'.cell? ⟨w1.heap.size + 1, 1, none⟩ = some (.int .i64 (n + 1)) ∧ Hid (Tri w w1 a n b w'))) (by kernel_rfl) (Tri.god HT) (fun hH => ?_)
            refine wpAnyH_ready (rs := [0]) (by kernel_rfl) (by simp) (AllReadyH.cons rfl (fun K hK => ?_) (AllReadyH.nil))
            go_simp
            go_at_call 12
            refine (HA.out _ (Tri.net hH)).mono ?_
            rintro e w3 ⟨rfl, hbp⟩
            refine hK.out _ _ (Tri.go hH hbp) (fun hH => ?_)
            clear hK K
            clear hbp
            refine wpAnyH_take (i := 1) (oi := ⟨some 42, _, _, _, _, _⟩) (v := ?v65) rfl (by kernel_rfl) (by kernel_rfl) (by kernel_rfl) (fun _ _ _ h => h) (Or.inl ⟨rfl, ?c65⟩) hH ?r65
            case c65 => (intro w' _; go_simp; (try with_reducible rfl))
            try simp only [Act.put, List.setIfInBounds_toArray, List.set_cons_zero, List.set_cons_succ]
            refine wpAnyH_take (i := 2) (oi := ⟨some 43, _, _, _, _, _⟩) (v := ?v66) rfl (by kernel_rfl) (by kernel_rfl) (by kernel_rfl) (fun _ _ _ h => h) (Or.inl ⟨rfl, ?c66⟩) hH ?r66
            case c66 => (intro w' hS; (try dsimp only at hS); go_simp; (try with_reducible rfl))
            try simp only [Act.put, List.setIfInBounds_toArray, List.set_cons_zero, List.set_cons_succ]
            refine wpAnyH_take (i := 3) (oi := ⟨some 44, _, _, _, _, _⟩) (v := ?v67) rfl (by kernel_rfl) (by kernel_rfl) (by kernel_rfl) (fun _ _ _ h => h) (Or.inl ⟨rfl, ?c67⟩) hH ?r67
            case c67 => (intro w' _; go_simp; (try with_reducible rfl))
            try simp only [Act.put, List.setIfInBounds_toArray, List.set_cons_zero, List.set_cons_succ]
            refine wpAnyH_take (i := 5) (oi := ⟨some 46, _, _, _, _, _⟩) (v := ?v68) rfl (by kernel_rfl) (by kernel_rfl) (by kernel_rfl) (fun _ _ _ h => h) (Or.inl ⟨rfl, ?c68⟩) hH ?r68
            case c68 => (intro w' hS; (try dsimp only at hS); go_simp; (try with_reducible rfl))
            try simp only [Act.put, List.setIfInBounds_toArray, List.set_cons_zero, List.set_cons_succ]
            refine wpAnyH_take (i := 6) (oi := ⟨some 47, _, _, _, _, _⟩) (v := ?v69) rfl (by kernel_rfl) (by kernel_rfl) (by kernel_rfl) (fun _ _ _ h => h) (Or.inl ⟨rfl, ?c69⟩) hH ?r69
            case c69 => (intro w' _; go_simp; (try with_reducible rfl))
            try simp only [Act.put, List.setIfInBounds_toArray, List.set_cons_zero, List.set_cons_succ]
            refine wpAnyH_ready (rs := [4]) (by kernel_rfl) (by simp) (AllReadyH.cons rfl (fun K hK => ?_) (AllReadyH.nil))
            go_simp
            go_at_call 17
            refine (D1.out _).mono ?_
            rintro e w3 ⟨rfl, hbp⟩
            refine hK.out _ _ (Tri.go hH hbp) (fun hH => ?_)
            clear hK K
            clear hbp
            refine wpAnyH_ready (rs := [7]) (by kernel_rfl) (by simp) (AllReadyH.cons rfl (fun K hK => ?_) (AllReadyH.nil))
            go_simp
            go_at_call 17
            refine (D2.out _).mono ?_
            rintro e w3 ⟨rfl, hbp⟩
            refine hK.out _ _ (Tri.go hH hbp) (fun hH => ?_)
            clear hK K
            clear hbp
            refine wpAnyH_take (i := 8) (oi := ⟨some 49, _, _, _, _, _⟩) (v := ?v70) rfl (by kernel_rfl) (by kernel_rfl) (by kernel_rfl) (fun _ _ _ h => h) (Or.inl ⟨rfl, ?c70⟩) hH ?r70
            case c70 => (intro w' _; go_simp; (try with_reducible rfl))
            try simp only [Act.put, List.setIfInBounds_toArray, List.set_cons_zero, List.set_cons_succ]
            refine wpAnyH_take (i := 9) (oi := ⟨some 50, _, _, _, _, _⟩) (v := ?v71) rfl (by kernel_rfl) (by kernel_rfl) (by kernel_rfl) (fun _ _ _ h => h) (Or.inl ⟨rfl, ?c71⟩) hH ?r71
            case c71 => (intro w' hS; (try dsimp only at hS); go_simp; (try with_reducible rfl))
            try simp only [Act.put, List.setIfInBounds_toArray, List.set_cons_zero, List.set_cons_succ]
            refine wpAnyH_take (i := 10) (oi := ⟨some 51, _, _, _, _, _⟩) (v := ?v72) rfl (by kernel_rfl) (by kernel_rfl) (by kernel_rfl) (fun _ _ _ h => h) (Or.inl ⟨rfl, ?c72⟩) hH ?r72
            case c72 => (intro w' _; go_simp; (try with_reducible rfl))
            try simp only [Act.put, List.setIfInBounds_toArray, List.set_cons_zero, List.set_cons_succ]
            refine wpAnyH_ready (rs := [11]) (by kernel_rfl) (by simp) (AllReadyH.cons rfl (fun K hK => ?_) (AllReadyH.nil))
            go_simp
            go_at_call 17
            refine (D3.out _).mono ?_
            rintro e w3 ⟨rfl, hbp⟩
            refine hK.out _ _ (Tri.go hH hbp) (fun hH => ?_)
            clear hK K
            clear hbp
            refine wpAnyH_take (i := 12) (oi := ⟨some 53, _, _, _, _, _⟩) (v := ?v73) rfl (by kernel_rfl) (by kernel_rfl) (by kernel_rfl) (fun _ _ _ h => h) (Or.inl ⟨rfl, ?c73⟩) hH ?r73
            case c73 => (intro w' _; go_simp; (try with_reducible rfl))
            try simp only [Act.put, List.setIfInBounds_toArray, List.set_cons_zero, List.set_cons_succ]
            refine wpAnyH_take (i := 13) (oi := ⟨some 54, _, _, _, _, _⟩) (v := ?v74) rfl (by kernel_rfl) (by kernel_rfl) (by kernel_rfl) (fun _ _ _ h => h) (Or.inl ⟨rfl, ?c74⟩) hH ?r74
            case c74 => (intro w' _; go_simp; (try with_reducible rfl))
            try simp only [Act.put, List.setIfInBounds_toArray, List.set_cons_zero, List.set_cons_succ]
            refine wpAnyH_take (i := 14) (oi := ⟨some 55, _, _, _, _, _⟩) (v := ?v75) rfl (by kernel_rfl) (by kernel_rfl) (by kernel_rfl) (fun _ _ _ h => h) (Or.inl ⟨rfl, ?c75⟩) hH ?r75
            case c75 => (intro w' _; go_simp; (try with_reducible rfl))
            try simp only [Act.put, List.setIfInBounds_toArray, List.set_cons_zero, List.set_cons_succ]
            refine wpAnyH_take (i := 15) (oi := ⟨some 56, _, _, _, _, _⟩) (v := ?v76) rfl (by kernel_rfl) (by kernel_rfl) (by kernel_rfl) (fun _ _ _ h => h) (Or.inl ⟨rfl, ?c76⟩) hH ?r76
            case c76 => (intro w' _; go_simp; (try with_reducible rfl))
            try simp only [Act.put, List.setIfInBounds_toArray, List.set_cons_zero, List.set_cons_succ]
            refine wpAnyH_take (i := 16) (oi := ⟨some 57, _, _, _, _, _⟩) (v := ?v77) rfl (by kernel_rfl) (by kernel_rfl) (by kernel_rfl) (fun _ _ _ h => h) (Or.inl ⟨rfl, ?c77⟩) hH ?r77
            case c77 => (intro w' hS; (try dsimp only at hS); go_simp; (try with_reducible rfl))
            try simp only [Act.put, List.setIfInBounds_toArray, List.set_cons_zero, List.set_cons_succ]
            refine wpAnyH_take (i := 17) (oi := ⟨some 58, _, _, _, _, _⟩) (v := ?v78) rfl (by kernel_rfl) (by kernel_rfl) (by kernel_rfl) (fun _ _ _ h => h) (Or.inl ⟨rfl, ?c78⟩) hH ?r78
            case c78 => (intro w' _; go_simp; (try with_reducible rfl))
            try simp only [Act.put, List.setIfInBounds_toArray, List.set_cons_zero, List.set_cons_succ]
            refine wpAnyH_ready (rs := [18]) (by kernel_rfl) (by simp) (AllReadyH.cons rfl (fun K hK => ?_) (AllReadyH.nil))
            go_simp
            go_at_call 17
            refine (D2.out _).mono ?_
            rintro e w3 ⟨rfl, hbp⟩
            refine hK.out _ _ (Tri.go hH hbp) (fun hH => ?_)
            clear hK K
            clear hbp
            refine wpAnyH_take (i := 19) (oi := ⟨some 60, _, _, _, _, _⟩) (v := ?v79) rfl (by kernel_rfl) (by kernel_rfl) (by kernel_rfl) (fun _ _ _ h => h) (Or.inl ⟨rfl, ?c79⟩) hH ?r79
            case c79 => (intro w' _; go_simp; (try with_reducible rfl))
            try simp only [Act.put, List.setIfInBounds_toArray, List.set_cons_zero, List.set_cons_succ]
            refine wpAnyH_take (i := 20) (oi := ⟨some 61, _, _, _, _, _⟩) (v := undef) rfl (by kernel_rfl) (by kernel_rfl) (by kernel_rfl) (fun _ _ _ h => h) (Or.inr ⟨rfl, rfl⟩) hH ?_
            try simp only [Act.put, List.setIfInBounds_toArray, List.set_cons_zero, List.set_cons_succ]
            refine wpAnyH_take (i := 21) (oi := ⟨some 62, _, _, _, _, _⟩) (v := undef) rfl (by kernel_rfl) (by kernel_rfl) (by kernel_rfl) (fun _ _ _ h => h) (Or.inr ⟨rfl, rfl⟩) hH ?_
            try simp only [Act.put, List.setIfInBounds_toArray, List.set_cons_zero, List.set_cons_succ]
            refine wpAnyH_take (i := 22) (oi := ⟨some 63, _, _, _, _, _⟩) (v := undef) rfl (by kernel_rfl) (by kernel_rfl) (by kernel_rfl) (fun _ _ _ h => h) (Or.inr ⟨rfl, rfl⟩) hH ?_
            try simp only [Act.put, List.setIfInBounds_toArray, List.set_cons_zero, List.set_cons_succ]
            refine wpAnyH_take (i := 23) (oi := ⟨some 64, _, _, _, _, _⟩) (v := ?v83) rfl (by kernel_rfl) (by kernel_rfl) (by kernel_rfl) (fun _ _ _ h => h) (Or.inl ⟨rfl, ?c83⟩) hH ?r83
            case c83 => (intro w' _; go_simp; (try with_reducible rfl))
            try simp only [Act.put, List.setIfInBounds_toArray, List.set_cons_zero, List.set_cons_succ]
            refine wpAnyH_take (i := 24) (oi := ⟨some 65, _, _, _, _, _⟩) (v := ?v84) rfl (by kernel_rfl) (by kernel_rfl) (by kernel_rfl) (fun _ _ _ h => h) (Or.inl ⟨rfl, ?c84⟩) hH ?r84
            case c84 => (intro w' _; go_simp; (try with_reducible rfl))
            try simp only [Act.put, List.setIfInBounds_toArray, List.set_cons_zero, List.set_cons_succ]
            refine wpAnyH_take (i := 25) (oi := ⟨some 66, _, _, _, _, _⟩) (v := ?v85) rfl (by kernel_rfl) (by kernel_rfl) (by kernel_rfl) (fun _ _ _ h => h) (Or.inl ⟨rfl, ?c85⟩) hH ?r85
            case c85 => (intro w' _; go_simp; (try with_reducible rfl))
            try simp only [Act.put, List.setIfInBounds_toArray, List.set_cons_zero, List.set_cons_succ]
            refine wpAnyH_take (i := 26) (oi := ⟨some 67, _, _, _, _, _⟩) (v := ?v86) rfl (by kernel_rfl) (by kernel_rfl) (by kernel_rfl) (fun _ _ _ h => h) (Or.inl ⟨rfl, ?c86⟩) hH ?r86
            case c86 => (intro w' _; go_simp; (try with_reducible rfl))
            try simp only [Act.put, List.setIfInBounds_toArray, List.set_cons_zero, List.set_cons_succ]
            refine wpAnyH_take (i := 27) (oi := ⟨some 68, _, _, _, _, _⟩) (v := ?v87) rfl (by kernel_rfl) (by kernel_rfl) (by kernel_rfl) (fun _ _ _ h => h) (Or.inl ⟨rfl, ?c87⟩) hH ?r87
            case c87 => (intro w' hS; (try dsimp only at hS); go_simp; (try with_reducible rfl))
            try simp only [Act.put, List.setIfInBounds_toArray, List.set_cons_zero, List.set_cons_succ]
            refine wpAnyH_take (i := 28) (oi := ⟨some 69, _, _, _, _, _⟩) (v := ?v88) rfl (by kernel_rfl) (by kernel_rfl) (by kernel_rfl) (fun _ _ _ h => h) (Or.inl ⟨rfl, ?c88⟩) hH ?r88
            case c88 => (intro w' _; go_simp; (try with_reducible rfl))
            try simp only [Act.put, List.setIfInBounds_toArray, List.set_cons_zero, List.set_cons_succ]
            refine wpAnyH_take (i := 29) (oi := ⟨some 70, _, _, _, _, _⟩) (v := ?v89) rfl (by kernel_rfl) (by kernel_rfl) (by kernel_rfl) (fun _ _ _ h => h) (Or.inl ⟨rfl, ?c89⟩) hH ?r89
            case c89 => (intro w' hS; (try dsimp only at hS); go_simp; (try with_reducible rfl))
            try simp only [Act.put, List.setIfInBounds_toArray, List.set_cons_zero, List.set_cons_succ]
            refine wpAnyH_ready (rs := [30]) (by kernel_rfl) (by simp) (AllReadyH.cons rfl (fun K hK => ?_) (AllReadyH.nil))
            go_simp
            go_at_call 17
            refine (D4.out _).mono ?_
            rintro e w3 ⟨rfl, hbp⟩
            refine hK.out _ _ (Tri.go hH hbp) (fun hH => ?_)
            clear hK K
            clear hbp
            refine wpAnyH_take (i := 31) (oi := ⟨some 72, _, _, _, _, _⟩) (v := ?v90) rfl (by kernel_rfl) (by kernel_rfl) (by kernel_rfl) (fun _ _ _ h => h) (Or.inl ⟨rfl, ?c90⟩) hH ?r90
            case c90 => (intro w' _; go_simp; (try with_reducible rfl))
            try simp only [Act.put, List.setIfInBounds_toArray, List.set_cons_zero, List.set_cons_succ]
            refine wpAnyH_take (i := 32) (oi := ⟨some 73, _, _, _, _, _⟩) (v := ?v91) rfl (by kernel_rfl) (by kernel_rfl) (by kernel_rfl) (fun _ _ _ h => h) (Or.inl ⟨rfl, ?c91⟩) hH ?r91
            case c91 => (intro w' _; go_simp; (try with_reducible rfl))
            try simp only [Act.put, List.setIfInBounds_toArray, List.set_cons_zero, List.set_cons_succ]
            refine wpAnyH_take (i := 33) (oi := ⟨some 74, _, _, _, _, _⟩) (v := ?v92) rfl (by kernel_rfl) (by kernel_rfl) (by kernel_rfl) (fun _ _ _ h => h) (Or.inl ⟨rfl, ?c92⟩) hH ?r92
            case c92 => (intro w' hS; (try dsimp only at hS); go_simp; (try with_reducible rfl))
            try simp only [Act.put, List.setIfInBounds_toArray, List.set_cons_zero, List.set_cons_succ]
            refine wpAnyH_take (i := 34) (oi := ⟨some 75, _, _, _, _, _⟩) (v := ?v93) rfl (by kernel_rfl) (by kernel_rfl) (by kernel_rfl) (fun _ _ _ h => h) (Or.inl ⟨rfl, ?c93⟩) hH ?r93
            case c93 => (intro w' _; go_simp; (try with_reducible rfl))
            try simp only [Act.put, List.setIfInBounds_toArray, List.set_cons_zero, List.set_cons_succ]
            refine wpAnyH_take (i := 35) (oi := ⟨some 76, _, _, _, _, _⟩) (v := ?v94) rfl (by kernel_rfl) (by kernel_rfl) (by kernel_rfl) (fun _ _ _ h => h) (Or.inl ⟨rfl, ?c94⟩) hH ?r94
            case c94 => (intro w' hS; (try dsimp only at hS); go_simp; (try with_reducible rfl))
            try simp only [Act.put, List.setIfInBounds_toArray, List.set_cons_zero, List.set_cons_succ]
            refine wpAnyH_ready (rs := [36]) (by kernel_rfl) (by simp) (AllReadyH.cons rfl (fun K hK => ?_) (AllReadyH.nil))
            go_simp
            go_at_call 17
            refine (D5.out _).mono ?_
            rintro e w3 ⟨rfl, hbp⟩
            refine hK.out _ _ (Tri.go hH hbp) (fun hH => ?_)
            clear hK K
            clear hbp
            refine wpAnyH_take (i := 37) (oi := ⟨some 78, _, _, _, _, _⟩) (v := ?v95) rfl (by kernel_rfl) (by kernel_rfl) (by kernel_rfl) (fun _ _ _ h => h) (Or.inl ⟨rfl, ?c95⟩) hH ?r95
            case c95 => (intro w' _; go_simp; (try with_reducible rfl))
            try simp only [Act.put, List.setIfInBounds_toArray, List.set_cons_zero, List.set_cons_succ]
            refine wpAnyH_take (i := 38) (oi := ⟨some 4, _, _, _, _, _⟩) (v := ?v96) rfl (by kernel_rfl) (by kernel_rfl) (by kernel_rfl) (fun _ _ _ h => h) (Or.inl ⟨rfl, ?c96⟩) hH ?r96
            case c96 => (intro w' _; go_simp; (try with_reducible rfl))
            try simp only [Act.put, List.setIfInBounds_toArray, List.set_cons_zero, List.set_cons_succ]
            refine wpAnyH_done (by kernel_rfl) ?_ _
            go_wp2_with fail
            go_ret
            exact ⟨rfl, Tri.fin hH⟩
    · have h1' : 31 < n := by omega
      clear h1
      go_enter Tryd.func6, Tryd.ntmps6
      go_wp2_with fail
      go_at_call 12
      refine (HA.out _ HN.out).mono ?_
      rintro e w2 ⟨rfl, hb2⟩
      have HN2 := Lib.hid (HN.out.next hb2)
      clear hb2
      go_wp2_with fail
      go_ret
      exact ⟨rfl, HN2.out.2.2.1⟩
  · have h0' : n < 0 := by omega
    clear h0
    go_enter Tryd.func6, Tryd.ntmps6
    go_wp2_with fail
    go_at_call 12
    refine (HA.out _ HN.out).mono ?_
    rintro e w2 ⟨rfl, hb2⟩
    have HN2 := Lib.hid (HN.out.next hb2)
    clear hb2
    go_wp2_with fail
    go_ret
    exact ⟨rfl, HN2.out.2.2.1⟩

end Ad
end Go.Proofs.YtigjiaknmoamlaaDoor
