/- Layer 19: the contracts of clamp, of the reference's near, of bits.Mul by 1, of slices.Repeat of one integer. -/
import Derived.Test.YtbikbccmnmbkfaaMemE
import Derived.OwnWalk
import Derived.StillTailTactics
import Derived.Laws.CopyOwn
import Derived.Deep.RegionLaw
import Derived.Deep.RegionHeld3
import Derived.Test.YtbikbccmnmbkfaaComT
set_option linter.unusedVariables false
set_option linter.unusedSimpArgs false
set_option maxRecDepth 100000
namespace Go.Proofs.Ytbikbccmnmbkfaa
open Go.ChangeShapes Go.WideShapes Go.ChangeAt Go.RowKit Go.Mtl Go.Lib
namespace Me
open MemM
theorem clamp_any (n : Int) (w : World) : Calls Try.prog 29 #[.int .i64 n] w fun e w' => e = .returned (.int .i64 (clampN n : Int)) ∧ w = w' := by
  by_cases h1 : n < 0
  · have e : clampN n = 0 := by unfold clampN; rw [if_pos h1]
    rw [e]
    clear e
    go_enter Try.func29, Try.ntmps29
    go_wp2_with fail
    go_ret
    exact ⟨rfl, rfl⟩
  · by_cases h2 : 8192 < n
    · have e : clampN n = 8192 := by unfold clampN; rw [if_neg h1, if_pos h2]
      rw [e]
      clear e
      go_enter Try.func29, Try.ntmps29
      go_wp2_with fail
      go_ret
      exact ⟨rfl, rfl⟩
    · have e : (clampN n : Int) = n := by unfold clampN; rw [if_neg h1, if_neg h2]; omega
      rw [e]
      have h0 : 0 ≤ n := by omega
      have h3 : n ≤ 8192 := by omega
      clear e h1 h2
      go_enter Try.func29, Try.ntmps29
      go_wp2_with fail
      go_ret
      exact ⟨rfl, rfl⟩
theorem near_any (n : Int) (w : World) : Calls Try.prog 31 #[.int .i64 n] w fun e w' => e = .returned (.int .i64 (clampN n : Int)) ∧ w = w' := by
  by_cases h1 : n < 0
  · have e : clampN n = 0 := by unfold clampN; rw [if_pos h1]
    rw [e]
    clear e
    go_enter Try.func31, Try.ntmps31
    go_wp2_with fail
    go_ret
    exact ⟨rfl, rfl⟩
  · by_cases h2 : 8192 < n
    · have e : clampN n = 8192 := by unfold clampN; rw [if_neg h1, if_pos h2]
      rw [e]
      clear e
      go_enter Try.func31, Try.ntmps31
      go_wp2_with fail
      go_ret
      exact ⟨rfl, rfl⟩
    · have e : (clampN n : Int) = n := by unfold clampN; rw [if_neg h1, if_neg h2]; omega
      rw [e]
      have h0 : ¬ n < 0 := h1
      have h3 : ¬ 8192 < n := h2
      clear e h1 h2
      go_enter Try.func31, Try.ntmps31
      go_wp2_with fail
      go_ret
      exact ⟨rfl, rfl⟩
theorem and_mask (n : Nat) (h : n ≤ 8192) : bits .and .u64 (n : Int) 4294967295 = (n : Int) := by
  show IntKind.u64.wrap ((BitVec.ofInt 64 (n : Int) &&& BitVec.ofInt 64 ((4294967295 : Nat) : Int)).toNat : Int) = _
  rw [BitVec.ofInt_natCast, BitVec.ofInt_natCast, BitVec.toNat_and, BitVec.toNat_ofNat, BitVec.toNat_ofNat, Nat.mod_eq_of_lt (by omega), Nat.mod_eq_of_lt (by omega)]
  have e : n &&& 4294967295 = n % 2 ^ 32 := Nat.and_two_pow_sub_one_eq_mod n 32
  rw [e]
  simp [IntKind.wrap, IntKind.bits, IntKind.signed]
  omega
set_option maxHeartbeats 1000000 in
theorem mul64_one (n : Nat) (h : n ≤ 8192) (w : World) : Calls Try.prog 40 #[.int .u64 1, .int .u64 (n : Int)] w fun e w' => e = .returned (.tuple #[.int .u64 0, .int .u64 (n : Int)]) ∧ w = w' := by
  have e1 := and_mask n h
  have e2 : bits .and .u64 1 4294967295 = 1 := by decide +kernel
  have e3 : bits .and .u64 0 4294967295 = 0 := by decide +kernel
  have e4 : (n : Int) / 4294967296 = 0 := by omega
  go_enter Try.func40, Try.ntmps40
  go_wp2_with fail
  go_ret2
  exact ⟨rfl, rfl⟩
set_option maxHeartbeats 1000000 in
theorem mul_one (n : Nat) (h : n ≤ 8192) (w : World) : Calls Try.prog 38 #[.int .u64 1, .int .u64 (n : Int)] w fun e w' => e = .returned (.tuple #[.int .u64 0, .int .u64 (n : Int)]) ∧ w = w' := by
  have HM := Lib.hid (mul64_one n h w)
  go_enter Try.func38, Try.ntmps38
  go_wp2_with (go_at_call 40; refine HM.out.mono ?_; rintro e w' ⟨rfl, rfl⟩)
  go_ret2
  exact ⟨rfl, rfl⟩

/-- k elements z, then zeros: n in all. -/
def fillL (n k : Nat) (z : Int) : List Value := ivs .i64 (List.replicate k z ++ List.replicate (n - k) 0)
theorem fill_len (n k : Nat) (z : Int) (h : k ≤ n) : (fillL n k z).length = n := by simp [fillL, ivs]; omega
theorem fill_next (n k : Nat) (z : Int) (h : k ≤ n) (m : Nat) (hm : k + m ≤ n) : splice (fillL n k z) k (ivs .i64 (List.replicate m z)) = fillL n (k + m) z := by
  unfold splice fillL ivs
  apply List.ext_getElem?
  intro i
  simp only [← List.map_take, ← List.map_drop, ← List.map_append, List.getElem?_map]
  congr 1
  simp only [List.length_map, List.length_replicate, List.getElem?_append, List.getElem?_take, List.getElem?_drop, List.getElem?_replicate, List.length_append, List.length_take]
  repeat' split
  all_goals first
    | rfl
    | omega
theorem fill_cell (n k : Nat) (z : Int) (j : Nat) (h : j < k) : (fillL n k z)[j]? = some (.int .i64 z) := by
  unfold fillL ivs
  rw [List.getElem?_map, List.getElem?_append_left (by simpa using h), List.getElem?_replicate, if_pos h]; rfl
theorem ivs_one (k : IntKind) (zs : List Int) : ∀ u ∈ ivs k zs, u.oneCell' = true := by
  intro u hu
  obtain ⟨z, _, rfl⟩ := List.mem_map.1 hu
  rfl
theorem made_ints (n : Nat) : (madeCells (Value.int .i64 0).cells (n * 1)).toList = fillL n 0 0 := by
  rw [show (Value.int IntKind.i64 0).cells = #[.int .i64 0] from rfl, toList_madeCells_one]
  simp [fillL, ivs]
theorem info_int : (Try.prog.info? 3).map (fun i => (i.zero, i.size, i.bytes)) = some (some (.int .i64 0), 1, 8) := by kernel_rfl
theorem int_size : (Try.prog.info? 3).map (·.size) = some 1 := by kernel_rfl
theorem own_whole {w : World} {base e n : Nat} {g : Nat} {xs : List Value} (h : w.ownsRow base e 1 (.slice (some ⟨g, 0, none⟩) n n) n xs) : w.heap[g]? = some (.cells xs.toArray e (0, 0)) := by
  rcases h.2 with ⟨e1, _⟩ | ⟨g', cap, cur, e1, _, h3, _, _, h5, h6⟩
  · cases e1
  · injection e1 with e1 _ e3
    injection e1 with e1
    injection e1 with e1
    subst e1 e3
    rw [h3]
    congr 2
    rw [← h6, List.take_of_length_le (by rw [Array.length_toList]; omega)]
theorem whole_own {w : World} {base e n : Nat} {g : Nat} {xs : List Value} (hb : base ≤ g) (hm : n ≤ 8192) (hl : xs.length = n) (h : w.heap[g]? = some (.cells xs.toArray e (0, 0))) : w.ownsRow base e 1 (.slice (some ⟨g, 0, none⟩) n n) n xs :=
  ⟨by omega, .inr ⟨g, n, xs.toArray, rfl, hb, h, Nat.le_refl _, by unfold maxLen; omega, by simp; omega, by rw [List.take_of_length_le (by simp; omega)]⟩⟩
set_option maxHeartbeats 4000000 in
theorem repeat_any (g0 : Nat) (z : Int) (n : Nat) (hn : n ≤ 8192) (w : World) (hc : w.cell? ⟨g0, 0, none⟩ = some (.int .i64 z)) :
    Calls Try.prog 30 #[.slice (some ⟨g0, 0, none⟩) 1 1, .int .i64 (n : Int)] w fun e w' => e = .returned (.slice (some ⟨w.heap.size, 0, none⟩) n n) ∧ w'.ownsRow w.heap.size 3 1 (.slice (some ⟨w.heap.size, 0, none⟩) n n) n (ivs .i64 (List.replicate n z)) ∧ Below w.heap.size w w' := by
  have hlt : g0 < w.heap.size := World.block_lt_of_cell? _ _ hc
  obtain ⟨i0, hi0, hz0, hz1, hz2⟩ := info_parts info_int
  have HM := Lib.hid (mul_one n hn w)
  have HC := Lib.hid hc
  have HI : Hid (Try.prog.info? 3 = some i0 ∧ i0.zero = some (.int .i64 0) ∧ i0.size = 1 ∧ i0.bytes = 8) := ⟨hi0, hz0, hz1, hz2⟩
  clear hc hi0 hz0 hz1 hz2
  go_enter Try.func30, Try.ntmps30
  go_wp2_with fail
  go_at_call 38
  refine HM.out.mono ?_
  rintro e w' ⟨rfl, rfl⟩
  clear HM
  obtain ⟨k0, hk0⟩ : ∃ k0, k0 = Nat.min 1 n := ⟨_, rfl⟩
  have hk1 : k0 ≤ n := by rw [hk0]; exact Nat.min_le_right _ _
  have hk3 : k0 ≤ 1 := by rw [hk0]; exact Nat.min_le_left _ _
  have HK2 : Hid (0 < n → 0 < k0) := fun h => by rw [hk0]; exact Nat.lt_min.2 ⟨by omega, h⟩
  have HK0 : Hid ((ivs IntKind.i64 (List.replicate k0 z)).length = Nat.min 1 n) := by show _ = _; rw [← hk0]; simp [ivs]
  obtain ⟨cs, hcs⟩ : ∃ cs, cs = ivs .i64 (List.replicate k0 z) := ⟨_, rfl⟩
  have HCL : Hid (goInt cs.length = .int .i64 (k0 : Int)) := by show _ = _; rw [hcs]; simp [ivs, goInt]
  rw [← hcs] at HK0
  have HCS := Lib.hid hcs
  clear hk0 hcs
  go_wp2_with (first
    | (at_make; refine wpList_make_full _ rfl (.tmp 29) (.tmp 29) _ rfl w.heap.size 3 i0 _ 1 Try.underlying56 HI.out.1 HI.out.2.1 HI.out.2.2.1 .i64 .i64 (n : Int) (n : Int) n rfl rfl rfl rfl (by rw [HI.out.2.2.2]; omega) (by unfold maxLen; omega) (Nat.le_refl _) ?_; intro w1 hown hgr; rw [made_ints] at hown; have HG := Lib.hid (own_whole hown); have HB := Lib.hid ((Below.refl w.heap.size w).grown hgr (Nat.le_refl _) (by simp)); clear hown hgr)
    | (refine at_slot 33 ?_; refine wpList_copy_splice rfl (.tmp 31) (.tmp 32) _ _ rfl 3 Try.underlying56 int_size _ _ n n 1 1 rfl rfl w.heap.size 0 _ 3 HG.out cs HK0.out ?hpos (by rw [fill_len _ _ _ (Nat.zero_le _), HCS.out]; simp [ivs]; omega) (by rw [HCS.out]; exact ivs_one _ _) w.heap.size w HB.out (Nat.le_refl _) ?_
       case hpos =>
         intro _
         refine ⟨rfl, _, rfl, fun j v hv => ?_⟩
         have hj : j < k0 := by have := (List.getElem?_eq_some_iff.1 hv).1; rw [HCS.out] at this; simpa [ivs] using this
         obtain rfl : j = 0 := by omega
         have e : (Addr.add ⟨g0, 0, none⟩ 0) = ⟨g0, 0, none⟩ := rfl
         rw [e, (HB.out.cell (p := ⟨g0, 0, none⟩) hlt).trans HC.out]
         have h2 := (List.getElem?_eq_some_iff.1 hv).2
         rw [← h2]
         simp [HCS.out, ivs]
       intro w2 hg2 hb2
       rw [HCL.out]
       have HG2 : Hid (w2.heap[w.heap.size]? = some (.cells (fillL n k0 z).toArray 3 (0, 0))) := by
         have h3 := hg2.out
         have e : fillL n 0 0 = fillL n 0 z := by simp [fillL]
         rw [HCS.out, e, fill_next n 0 z (Nat.zero_le _) _ (by omega), Nat.zero_add] at h3
         exact h3
       have HB2 := Lib.hid hb2
       clear hg2 hb2 HG HB HC HI HK0))
  clear HCL HCS
  go_loopw [8] (fun vk wr => ∃ k : Nat, vk = .int .i64 (k : Int) ∧ k ≤ n ∧ Hid (0 < n → 0 < k) ∧ Hid (wr.heap[w.heap.size]? = some (.cells (fillL n k z).toArray 3 (0, 0))) ∧ Hid (Below w.heap.size w wr)) (fun vk _ => n - (intOf vk).toNat)
  case atStart => exact ⟨k0, rfl, hk1, HK2, HG2, HB2⟩
  case round =>
    obtain ⟨k, rfl, hk, HP, HGk, HBk⟩ := hrel
    by_cases hlt : k < n
    · have hne : ¬ n = k := by omega
      go_wp2_with fail
      obtain ⟨m, hm⟩ : ∃ m, m = Nat.min k (n - k) := ⟨_, rfl⟩
      have hm1 : k + m ≤ n := by have : m ≤ n - k := by rw [hm]; exact Nat.min_le_right _ _
                                 omega
      have hm2 : m ≤ k := by rw [hm]; exact Nat.min_le_left _ _
      have HM3 : Hid (0 < m) := by show 0 < m; rw [hm]; exact Nat.lt_min.2 ⟨HP.out (by omega), by omega⟩
      have HMN : Hid ((ivs IntKind.i64 (List.replicate m z)).length = Nat.min k (n - k)) := by show _ = _; rw [← hm]; simp [ivs]
      have HML : Hid ((ivs IntKind.i64 (List.replicate m z)).length = m) := by show _ = _; simp [ivs]
      obtain ⟨cs, hcs⟩ : ∃ cs, cs = ivs .i64 (List.replicate m z) := ⟨_, rfl⟩
      rw [← hcs] at HMN HML
      have HCS := Lib.hid hcs
      have HGD := Lib.hid (show wr.drew.heap[w.heap.size]? = some (.cells (fillL n k z).toArray 3 (0, 0)) from HGk.out)
      have HBD := Lib.hid HBk.out.drew
      have HE : Hid (IntKind.i64.wrap ((k : Int) + (m : Int)) = ((k + m : Nat) : Int)) := by show _ = _; rw [IntWalk.i64_in _ (by omega)]; omega
      clear hm hcs
      refine wp_region_held_drew (S := fun w' => Hid (Below w.heap.size w w')) (by kernel_rfl) (HBD) (fun hH => ?_)
      refine wpAnyH_take (i := 0) (oi := ⟨some 38, _, _, _, _, _⟩) (v := ?v1) rfl (by kernel_rfl) (by kernel_rfl) (by kernel_rfl) (fun _ _ _ h => h) (Or.inl ⟨rfl, ?c1⟩) hH ?r1
      case c1 => (intro w' _; go_simp; (try with_reducible rfl))
      try simp only [Act.put, List.setIfInBounds_toArray, List.set_cons_zero, List.set_cons_succ]
      refine wpAnyH_take (i := 1) (oi := ⟨some 39, _, _, _, _, _⟩) (v := ?v2) rfl (by kernel_rfl) (by kernel_rfl) (by kernel_rfl) (fun _ _ _ h => h) (Or.inl ⟨rfl, ?c2⟩) hH ?r2
      case c2 => (intro w' _; go_simp; (try with_reducible rfl))
      try simp only [Act.put, List.setIfInBounds_toArray, List.set_cons_zero, List.set_cons_succ]
      refine wpAnyH_take (i := 2) (oi := ⟨some 40, _, _, _, _, _⟩) (v := ?v3) rfl (by kernel_rfl) (by kernel_rfl) (by kernel_rfl) (fun _ _ _ h => h) (Or.inl ⟨rfl, ?c3⟩) hH ?r3
      case c3 => (intro w' _; go_simp; (try with_reducible rfl))
      try simp only [Act.put, List.setIfInBounds_toArray, List.set_cons_zero, List.set_cons_succ]
      refine wpAnyH_take (i := 3) (oi := ⟨some 41, _, _, _, _, _⟩) (v := ?v4) rfl (by kernel_rfl) (by kernel_rfl) (by kernel_rfl) (fun _ _ _ h => h) (Or.inl ⟨rfl, ?c4⟩) hH ?r4
      case c4 => (intro w' _; go_simp; (try with_reducible rfl))
      try simp only [Act.put, List.setIfInBounds_toArray, List.set_cons_zero, List.set_cons_succ]
      refine wpAnyH_take (i := 4) (oi := ⟨some 42, _, _, _, _, _⟩) (v := ?v5) rfl (by kernel_rfl) (by kernel_rfl) (by kernel_rfl) (fun _ _ _ h => h) (Or.inl ⟨rfl, ?c5⟩) hH ?r5
      case c5 => (intro w' _; go_simp; (try with_reducible rfl))
      try simp only [Act.put, List.setIfInBounds_toArray, List.set_cons_zero, List.set_cons_succ]
      refine wpAnyH_take (i := 5) (oi := ⟨some 43, _, _, _, _, _⟩) (v := ?v6) rfl (by kernel_rfl) (by kernel_rfl) (by kernel_rfl) (fun _ _ _ h => h) (Or.inl ⟨rfl, ?c6⟩) hH ?r6
      case c6 => (intro w' _; go_simp; (try with_reducible rfl))
      try simp only [Act.put, List.setIfInBounds_toArray, List.set_cons_zero, List.set_cons_succ]
      refine wpAnyH_take (i := 6) (oi := ⟨some 44, _, _, _, _, _⟩) (v := ?v7) rfl (by kernel_rfl) (by kernel_rfl) (by kernel_rfl) (fun _ _ _ h => h) (Or.inl ⟨rfl, ?c7⟩) hH ?r7
      case c7 => (intro w' _; go_simp; (try with_reducible rfl))
      try simp only [Act.put, List.setIfInBounds_toArray, List.set_cons_zero, List.set_cons_succ]
      refine wpAnyH_ready (rs := [7]) (by kernel_rfl) (by simp) (AllReadyH.cons rfl (fun K hK => ?_) (AllReadyH.nil))
      refine step_copy_splice rfl (.tmp 41) (.tmp 44) _ _ rfl 3 Try.underlying56 int_size _ _ (n - k) (n - k) k n rfl rfl w.heap.size k _ 3 HGD.out cs HMN.out ?hpos (by rw [fill_len _ _ _ hk, HML.out]; omega) (by rw [HCS.out]; exact ivs_one _ _) w.heap.size w hH.out (Nat.le_refl _) ?_
      case hpos =>
        intro _
        refine ⟨rfl, _, rfl, fun j v hv => ?_⟩
        have hj : j < m := by have := (List.getElem?_eq_some_iff.1 hv).1; rw [HML.out] at this; exact this
        have e : (Addr.add ⟨w.heap.size, 0, none⟩ j) = ⟨w.heap.size, j, none⟩ := by unfold Addr.add; split <;> simp_all
        rw [e, cell_of_row _ _ j _ _ (0, 0) HGD.out, List.getElem?_toArray, fill_cell n k z j (by omega), ← hv, HCS.out]
        simp [ivs, hj]
      rw [HML.out]
      intro w3 hg3 hb3
      change K (Act.put _ (some 45) (.int .i64 (m : Int))) _
      have HG3 : Hid (w3.heap[w.heap.size]? = some (.cells (fillL n (k + m) z).toArray 3 (0, 0))) := by
        have h3 := hg3.out
        rw [HCS.out, fill_next n k z hk _ hm1] at h3
        exact h3
      clear hg3 HGD
      refine hK.out _ _ (Lib.hid hb3) (fun hH => ?_)
      clear hK K
      clear hb3
      try simp only [Act.put, List.setIfInBounds_toArray, List.set_cons_zero, List.set_cons_succ]
      refine wpAnyH_take (i := 8) (oi := ⟨some 46, _, _, _, _, _⟩) (v := ?v8) rfl (by kernel_rfl) (by kernel_rfl) (by kernel_rfl) (fun _ _ _ h => h) (Or.inl ⟨rfl, ?c8⟩) hH ?r8
      case c8 => (intro w' _; go_simp; rw [HE.out])
      try simp only [Act.put, List.setIfInBounds_toArray, List.set_cons_zero, List.set_cons_succ]
      refine wpAnyH_take (i := 9) (oi := ⟨some 8, _, _, _, _, _⟩) (v := ?v9) rfl (by kernel_rfl) (by kernel_rfl) (by kernel_rfl) (fun _ _ _ h => h) (Or.inl ⟨rfl, ?c9⟩) hH ?r9
      case c9 => (intro w' _; go_simp; (try with_reducible rfl))
      try simp only [Act.put, List.setIfInBounds_toArray, List.set_cons_zero, List.set_cons_succ]
      refine wpAnyH_done (by kernel_rfl) ?_ _
      have HB3 := hH
      clear hH
      go_wp2_with fail
      go_roundw
      case rel => exact ⟨k + m, by go_num, hm1, fun _ => by have := HM3.out; omega, HG3, HB3⟩
      
      case measure => have := HM3.out; simp [RowKit.intOf]; omega
    · obtain rfl : k = n := by omega
      go_wp2_with fail
      go_ret
      have e : fillL k k z = ivs .i64 (List.replicate k z) := by simp [fillL]
      exact ⟨rfl, e ▸ whole_own (Nat.le_refl _) hn (fill_len _ _ _ (Nat.le_refl _)) HGk.out, HBk.out⟩
end Me
end Go.Proofs.Ytbikbccmnmbkfaa
