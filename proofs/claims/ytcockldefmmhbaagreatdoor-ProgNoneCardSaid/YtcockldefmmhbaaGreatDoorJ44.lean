/- Several texts of this proof in one file, each in its own namespace. -/
import Derived.Test.YtcockldefmmhbaaGreatDoorSq
import Derived.Test.YtcockldefmmhbaaGreatDoorMemE
import Derived.OwnWalk
import Derived.StillTailTactics
import Derived.Laws.CopyOwn
import Derived.Deep.RegionLaw
import Derived.Deep.RegionHeld3
import Derived.Test.YtcockldefmmhbaaGreatDoorJ30
set_option linter.unusedVariables false
set_option linter.unusedSimpArgs false
set_option maxRecDepth 100000
namespace Go.Proofs.YtcockldefmmhbaaGreatDoor
open Go.ChangeShapes Go.WideShapes Go.ChangeAt Go.RowKit Go.Mtl Go.Lib
namespace Me
open MemM
theorem clamp_any (n : Int) (w : World) : Calls Tryz.prog 61 #[.int .i64 n] w fun e w' => e = .returned (.int .i64 (clampN n : Int)) ∧ w = w' := by
  by_cases h1 : n < 0
  · have e : clampN n = 0 := by unfold clampN; rw [if_pos h1]
    rw [e]
    clear e
    go_enter Tryz.func61, Tryz.ntmps61
    go_wp2_with fail
    go_ret
    exact ⟨rfl, rfl⟩
  · by_cases h2 : 8192 < n
    · have e : clampN n = 8192 := by unfold clampN; rw [if_neg h1, if_pos h2]
      rw [e]
      clear e
      go_enter Tryz.func61, Tryz.ntmps61
      go_wp2_with fail
      go_ret
      exact ⟨rfl, rfl⟩
    · have e : (clampN n : Int) = n := by unfold clampN; rw [if_neg h1, if_neg h2]; omega
      rw [e]
      have h0 : 0 ≤ n := by omega
      have h3 : n ≤ 8192 := by omega
      clear e h1 h2
      go_enter Tryz.func61, Tryz.ntmps61
      go_wp2_with fail
      go_ret
      exact ⟨rfl, rfl⟩
theorem and_mask (n : Nat) (h : n ≤ 8192) : bits .and .u64 (n : Int) 4294967295 = (n : Int) := by
  show IntKind.u64.wrap ((BitVec.ofInt 64 (n : Int) &&& BitVec.ofInt 64 ((4294967295 : Nat) : Int)).toNat : Int) = _
  rw [BitVec.ofInt_natCast, BitVec.ofInt_natCast, BitVec.toNat_and, BitVec.toNat_ofNat, BitVec.toNat_ofNat, Nat.mod_eq_of_lt (by omega), Nat.mod_eq_of_lt (by omega)]
  have e : n &&& 4294967295 = n % 2 ^ 32 := Nat.and_two_pow_sub_one_eq_mod n 32
  rw [e]
  simp [IntKind.wrap, IntKind.bits, IntKind.signed]
  omega
set_option maxHeartbeats 1000000 in
theorem mul64_one (n : Nat) (h : n ≤ 8192) (w : World) : Calls Tryz.prog 133 #[.int .u64 1, .int .u64 (n : Int)] w fun e w' => e = .returned (.tuple #[.int .u64 0, .int .u64 (n : Int)]) ∧ w = w' := by
  have e1 := and_mask n h
  have e2 : bits .and .u64 1 4294967295 = 1 := by decide +kernel
  have e3 : bits .and .u64 0 4294967295 = 0 := by decide +kernel
  have e4 : (n : Int) / 4294967296 = 0 := by omega
  go_enter Tryz.func133, Tryz.ntmps133
  go_wp2_with fail
  go_ret2
  exact ⟨rfl, rfl⟩
set_option maxHeartbeats 1000000 in
theorem mul_one (n : Nat) (h : n ≤ 8192) (w : World) : Calls Tryz.prog 94 #[.int .u64 1, .int .u64 (n : Int)] w fun e w' => e = .returned (.tuple #[.int .u64 0, .int .u64 (n : Int)]) ∧ w = w' := by
  have HM := Lib.hid (mul64_one n h w)
  go_enter Tryz.func94, Tryz.ntmps94
  go_wp2_with (go_at_call 133; refine HM.out.mono ?_; rintro e w' ⟨rfl, rfl⟩)
  go_ret2
  exact ⟨rfl, rfl⟩

def fillL (n k : Nat) (z : Int) : List Value := ivs .i64 (List.replicate k z ++ List.replicate (n - k) 0)
theorem fill_len (n k : Nat) (z : Int) (h : k ≤ n) : (fillL n k z).length = n := by simp [fillL, ivs]; omega
theorem fill_next (n k : Nat) (z : Int) (h : k ≤ n) (m : Nat) (hm : k + m ≤ n) : splice (fillL n k z) k (ivs .i64 (List.replicate m z)) = fillL n (k + m) z := by
  unfold splice fillL ivs
  apply List.ext_getElem?
  intro i
  simp only [← List.map_take, ← List.map_drop, ← List.map_append, List.getElem?_map]
  congr 1
  simp only [List.length_map, List.length_replicate, List.getElem?_append, List.getElem?_take, List.getElem?_drop, List.getElem?_replicate, List.length_append, List.length_take]
  repeat' split
  all_goals first
    | rfl
    | omega
theorem fill_cell (n k : Nat) (z : Int) (j : Nat) (h : j < k) : (fillL n k z)[j]? = some (.int .i64 z) := by
  unfold fillL ivs
  rw [List.getElem?_map, List.getElem?_append_left (by simpa using h), List.getElem?_replicate, if_pos h]; rfl
theorem ivs_one (k : IntKind) (zs : List Int) : ∀ u ∈ ivs k zs, u.oneCell' = true := by
  intro u hu
  obtain ⟨z, _, rfl⟩ := List.mem_map.1 hu
  rfl
theorem made_ints (n : Nat) : (madeCells (Value.int .i64 0).cells (n * 1)).toList = fillL n 0 0 := by
  rw [show (Value.int IntKind.i64 0).cells = #[.int .i64 0] from rfl, toList_madeCells_one]
  simp [fillL, ivs]
theorem info_int : (Tryz.prog.info? 3).map (fun i => (i.zero, i.size, i.bytes)) = some (some (.int .i64 0), 1, 8) := by kernel_rfl
theorem int_size : (Tryz.prog.info? 3).map (·.size) = some 1 := by kernel_rfl
theorem own_whole {w : World} {base e n : Nat} {g : Nat} {xs : List Value} (h : w.ownsRow base e 1 (.slice (some ⟨g, 0, none⟩) n n) n xs) : w.heap[g]? = some (.cells xs.toArray e (0, 0)) := by
  rcases h.2 with ⟨e1, _⟩ | ⟨g', cap, cur, e1, _, h3, _, _, h5, h6⟩
  · cases e1
  · injection e1 with e1 _ e3
    injection e1 with e1
    injection e1 with e1
    subst e1 e3
    rw [h3]
    congr 2
    rw [← h6, List.take_of_length_le (by rw [Array.length_toList]; omega)]
theorem whole_own {w : World} {base e n : Nat} {g : Nat} {xs : List Value} (hb : base ≤ g) (hm : n ≤ 8192) (hl : xs.length = n) (h : w.heap[g]? = some (.cells xs.toArray e (0, 0))) : w.ownsRow base e 1 (.slice (some ⟨g, 0, none⟩) n n) n xs :=
  ⟨by omega, .inr ⟨g, n, xs.toArray, rfl, hb, h, Nat.le_refl _, by unfold maxLen; omega, by simp; omega, by rw [List.take_of_length_le (by simp; omega)]⟩⟩
set_option maxHeartbeats 4000000 in
theorem repeat_any (g0 : Nat) (z : Int) (n : Nat) (hn : n ≤ 8192) (w : World) (hc : w.cell? ⟨g0, 0, none⟩ = some (.int .i64 z)) :
    Calls Tryz.prog 62 #[.slice (some ⟨g0, 0, none⟩) 1 1, .int .i64 (n : Int)] w fun e w' => e = .returned (.slice (some ⟨w.heap.size, 0, none⟩) n n) ∧ w'.ownsRow w.heap.size 3 1 (.slice (some ⟨w.heap.size, 0, none⟩) n n) n (ivs .i64 (List.replicate n z)) ∧ Below w.heap.size w w' := by
  have hlt : g0 < w.heap.size := World.block_lt_of_cell? _ _ hc
  obtain ⟨i0, hi0, hz0, hz1, hz2⟩ := info_parts info_int
  have HM := Lib.hid (mul_one n hn w)
  have HC := Lib.hid hc
  have HI : Hid (Tryz.prog.info? 3 = some i0 ∧ i0.zero = some (.int .i64 0) ∧ i0.size = 1 ∧ i0.bytes = 8) := ⟨hi0, hz0, hz1, hz2⟩
  clear hc hi0 hz0 hz1 hz2
  go_enter Tryz.func62, Tryz.ntmps62
  go_wp2_with fail
  go_at_call 94
  refine HM.out.mono ?_
  rintro e w' ⟨rfl, rfl⟩
  clear HM
  obtain ⟨k0, hk0⟩ : ∃ k0, k0 = Nat.min 1 n := ⟨_, rfl⟩
  have hk1 : k0 ≤ n := by rw [hk0]; exact Nat.min_le_right _ _
  have hk3 : k0 ≤ 1 := by rw [hk0]; exact Nat.min_le_left _ _
  have HK2 : Hid (0 < n → 0 < k0) := fun h => by rw [hk0]; exact Nat.lt_min.2 ⟨by omega, h⟩
  have HK0 : Hid ((ivs IntKind.i64 (List.replicate k0 z)).length = Nat.min 1 n) := by show _ = _; rw [← hk0]; simp [ivs]
  obtain ⟨cs, hcs⟩ : ∃ cs, cs = ivs .i64 (List.replicate k0 z) := ⟨_, rfl⟩
  have HCL : Hid (goInt cs.length = .int .i64 (k0 : Int)) := by show _ = _; rw [hcs]; simp [ivs, goInt]
  rw [← hcs] at HK0
  have HCS := Lib.hid hcs
  clear hk0 hcs
  go_wp2_with (first
    | (at_make; refine wpList_make_full _ rfl (.tmp 29) (.tmp 29) _ rfl w.heap.size 3 i0 _ 1 Tryz.underlying59 HI.out.1 HI.out.2.1 HI.out.2.2.1 .i64 .i64 (n : Int) (n : Int) n rfl rfl rfl rfl (by rw [HI.out.2.2.2]; omega) (by unfold maxLen; omega) (Nat.le_refl _) ?_; intro w1 hown hgr; rw [made_ints] at hown; have HG := Lib.hid (own_whole hown); have HB := Lib.hid ((Below.refl w.heap.size w).grown hgr (Nat.le_refl _) (by simp)); clear hown hgr)
    | (refine at_slot 33 ?_; refine wpList_copy_splice rfl (.tmp 31) (.tmp 32) _ _ rfl 3 Tryz.underlying59 int_size _ _ n n 1 1 rfl rfl w.heap.size 0 _ 3 HG.out cs HK0.out ?hpos (by rw [fill_len _ _ _ (Nat.zero_le _), HCS.out]; simp [ivs]; omega) (by rw [HCS.out]; exact ivs_one _ _) w.heap.size w HB.out (Nat.le_refl _) ?_
       case hpos =>
         intro _
         refine ⟨rfl, _, rfl, fun j v hv => ?_⟩
         have hj : j < k0 := by have := (List.getElem?_eq_some_iff.1 hv).1; rw [HCS.out] at this; simpa [ivs] using this
         obtain rfl : j = 0 := by omega
         have e : (Addr.add ⟨g0, 0, none⟩ 0) = ⟨g0, 0, none⟩ := rfl
         rw [e, (HB.out.cell (p := ⟨g0, 0, none⟩) hlt).trans HC.out]
         have h2 := (List.getElem?_eq_some_iff.1 hv).2
         rw [← h2]
         simp [HCS.out, ivs]
       intro w2 hg2 hb2
       rw [HCL.out]
       have HG2 : Hid (w2.heap[w.heap.size]? = some (.cells (fillL n k0 z).toArray 3 (0, 0))) := by
         have h3 := hg2.out
         have e : fillL n 0 0 = fillL n 0 z := by simp [fillL]
         rw [HCS.out, e, fill_next n 0 z (Nat.zero_le _) _ (by omega), Nat.zero_add] at h3
         exact h3
       have HB2 := Lib.hid hb2
       clear hg2 hb2 HG HB HC HI HK0))
  clear HCL HCS
  go_loopw [8] (fun vk wr => ∃ k : Nat, vk = .int .i64 (k : Int) ∧ k ≤ n ∧ Hid (0 < n → 0 < k) ∧ Hid (wr.heap[w.heap.size]? = some (.cells (fillL n k z).toArray 3 (0, 0))) ∧ Hid (Below w.heap.size w wr)) (fun vk _ => n - (intOf vk).toNat)
  case atStart => exact ⟨k0, rfl, hk1, HK2, HG2, HB2⟩
  case round =>
    obtain ⟨k, rfl, hk, HP, HGk, HBk⟩ := hrel
    by_cases hlt : k < n
    · have hne : ¬ n = k := by omega
      go_wp2_with fail
      obtain ⟨m, hm⟩ : ∃ m, m = Nat.min k (n - k) := ⟨_, rfl⟩
      have hm1 : k + m ≤ n := by have : m ≤ n - k := by rw [hm]; exact Nat.min_le_right _ _
                                 omega
      have hm2 : m ≤ k := by rw [hm]; exact Nat.min_le_left _ _
      have HM3 : Hid (0 < m) := by show 0 < m; rw [hm]; exact Nat.lt_min.2 ⟨HP.out (by omega), by omega⟩
      have HMN : Hid ((ivs IntKind.i64 (List.replicate m z)).length = Nat.min k (n - k)) := by show _ = _; rw [← hm]; simp [ivs]
      have HML : Hid ((ivs IntKind.i64 (List.replicate m z)).length = m) := by show _ = _; simp [ivs]
      obtain ⟨cs, hcs⟩ : ∃ cs, cs = ivs .i64 (List.replicate m z) := ⟨_, rfl⟩
      rw [← hcs] at HMN HML
      have HCS := Lib.hid hcs
      have HGD := Lib.hid (show wr.drew.heap[w.heap.size]? = some (.cells (fillL n k z).toArray 3 (0, 0)) from HGk.out)
      have HBD := Lib.hid HBk.out.drew
      have HE : Hid (IntKind.i64.wrap ((k : Int) + (m : Int)) = ((k + m : Nat) : Int)) := by show _ = _; rw [IntWalk.i64_in _ (by omega)]; omega
      clear hm hcs
      refine wp_region_held_drew (S := fun w' => Hid (Below w.heap.size w w')) (by kernel_rfl) (HBD) (fun hH => ?_)
      refine zqt 0 (some 38) ?v1 rfl rfl ?c1 hH ?r1
      case c1 => (intro w' _; go_simp; (try with_reducible rfl))
      try simp only [Act.put, zq1, zq2, zq3]
      refine zqt 1 (some 39) ?v2 rfl rfl ?c2 hH ?r2
      case c2 => (intro w' _; go_simp; (try with_reducible rfl))
      try simp only [Act.put, zq1, zq2, zq3]
      refine zqt 2 (some 40) ?v3 rfl rfl ?c3 hH ?r3
      case c3 => (intro w' _; go_simp; (try with_reducible rfl))
      try simp only [Act.put, zq1, zq2, zq3]
      refine zqt 3 (some 41) ?v4 rfl rfl ?c4 hH ?r4
      case c4 => (intro w' _; go_simp; (try with_reducible rfl))
      try simp only [Act.put, zq1, zq2, zq3]
      refine zqt 4 (some 42) ?v5 rfl rfl ?c5 hH ?r5
      case c5 => (intro w' _; go_simp; (try with_reducible rfl))
      try simp only [Act.put, zq1, zq2, zq3]
      refine zqt 5 (some 43) ?v6 rfl rfl ?c6 hH ?r6
      case c6 => (intro w' _; go_simp; (try with_reducible rfl))
      try simp only [Act.put, zq1, zq2, zq3]
      refine zqt 6 (some 44) ?v7 rfl rfl ?c7 hH ?r7
      case c7 => (intro w' _; go_simp; (try with_reducible rfl))
      try simp only [Act.put, zq1, zq2, zq3]
      refine wpAnyH_ready (rs := [7]) (by kernel_rfl) (by simp) (AllReadyH.cons rfl (fun K hK => ?_) (AllReadyH.nil))
      refine step_copy_splice rfl (.tmp 41) (.tmp 44) _ _ rfl 3 Tryz.underlying59 int_size _ _ (n - k) (n - k) k n rfl rfl w.heap.size k _ 3 HGD.out cs HMN.out ?hpos (by rw [fill_len _ _ _ hk, HML.out]; omega) (by rw [HCS.out]; exact ivs_one _ _) w.heap.size w hH.out (Nat.le_refl _) ?_
      case hpos =>
        intro _
        refine ⟨rfl, _, rfl, fun j v hv => ?_⟩
        have hj : j < m := by have := (List.getElem?_eq_some_iff.1 hv).1; rw [HML.out] at this; exact this
        have e : (Addr.add ⟨w.heap.size, 0, none⟩ j) = ⟨w.heap.size, j, none⟩ := by unfold Addr.add; split <;> simp_all
        rw [e, cell_of_row _ _ j _ _ (0, 0) HGD.out, List.getElem?_toArray, fill_cell n k z j (by omega), ← hv, HCS.out]
        simp [ivs, hj]
      rw [HML.out]
      intro w3 hg3 hb3
      change K (Act.put _ (some 45) (.int .i64 (m : Int))) _
      have HG3 : Hid (w3.heap[w.heap.size]? = some (.cells (fillL n (k + m) z).toArray 3 (0, 0))) := by
        have h3 := hg3.out
        rw [HCS.out, fill_next n k z hk _ hm1] at h3
        exact h3
      clear hg3 HGD
      refine hK.out _ _ (Lib.hid hb3) (fun hH => ?_)
      clear hK K
      clear hb3
      try simp only [Act.put, zq1, zq2, zq3]
      refine zqt 8 (some 46) ?v8 rfl rfl ?c8 hH ?r8
      case c8 => (intro w' _; go_simp; rw [HE.out])
      try simp only [Act.put, zq1, zq2, zq3]
      refine zqt 9 (some 8) ?v9 rfl rfl ?c9 hH ?r9
      case c9 => (intro w' _; go_simp; (try with_reducible rfl))
      try simp only [Act.put, zq1, zq2, zq3]
      refine wpAnyH_done (by kernel_rfl) ?_ _
      have HB3 := hH
      clear hH
      go_wp2_with fail
      go_roundw
      case rel => exact ⟨k + m, by go_num, hm1, fun _ => by have := HM3.out; omega, HG3, HB3⟩
      
      case measure => have := HM3.out; simp [RowKit.intOf]; omega
    · obtain rfl : k = n := by omega
      go_wp2_with fail
      go_ret
      have e : fillL k k z = ivs .i64 (List.replicate k z) := by simp [fillL]
      exact ⟨rfl, e ▸ whole_own (Nat.le_refl _) hn (fill_len _ _ _ (Nat.le_refl _)) HGk.out, HBk.out⟩
end Me
end Go.Proofs.YtcockldefmmhbaaGreatDoor
set_option linter.unusedVariables false
set_option linter.unusedSimpArgs false
set_option maxRecDepth 100000
namespace Go.Proofs.YtcockldefmmhbaaGreatDoor
open Go.ChangeShapes Go.WideShapes Go.ChangeAt Go.RowKit Go.Mtl Go.Lib
namespace Me
open MemM
theorem below_box (w:World) (o:Obj):Below w.heap.size w (w.alloc o):=(Below.refl _ w).alloc (Nat.le_refl _) o
theorem made_words (n:Nat):(madeCells (Value.int .u64 0).cells (n * 1)).toList=ivs .u64 (List.replicate n 0):=by
 rw [show (Value.int IntKind.u64 0).cells = #[.int .u64 0] from rfl,toList_madeCells_one]
 simp [ivs]
section
variable {w w':World} {O O':Nat->Prop} {B:Nat} {s:Ms}
end
theorem mm_new {T:Mty} {w0 w:World} {n m b1 b2:Nat} {z:Int} (hb:Below w0.heap.size w0 w) (h1:w.ownsRow w0.heap.size T.tw 1 (.slice (some ⟨b1,0,none⟩) n n) n (ivs .u64 (List.replicate n 0)))
  (h2:w.ownsRow w0.heap.size T.th 1 (.slice (some ⟨b2,0,none⟩) m m) m (ivs T.k (List.replicate m z))) (hne:b1≠b2) :
  Mm T (w.alloc (.cells #[.slice (some ⟨b1,0,none⟩) n n,.slice (some ⟨b2,0,none⟩) m m,.slice none 0 0] T.t)) (fun j=>w0.heap.size<=j/\j < w.heap.size+1) w.heap.size (.slice (some ⟨b1,0,none⟩) n n) (.slice (some ⟨b2,0,none⟩) m m) (.slice none 0 0) (List.replicate n 0) (List.replicate m z) []:=by
 have l1:w0.heap.size<=b1/\b1 < w.heap.size:=h1.lt _ rfl
 have l2:w0.heap.size<=b2/\b2 < w.heap.size:=h2.lt _ rfl
 have hs:=hb.size
 exact {
  blk:=Blk.box _ _ _
  wr:=by rw [List.length_replicate];exact row_base (own_below h1 (below_box w _)) (fun _ _=>Nat.zero_le _)
  hr:=by rw [List.length_replicate];exact row_base (own_below h2 (below_box w _)) (fun _ _=>Nat.zero_le _)
  lr:=World.ownsRow_nil _ _ _ _
  wo:=fun g e=>by obtain rfl:b1=g:=Option.some.inj e;exact ⟨⟨l1.1,by omega⟩,by omega⟩
  ho:=fun g e=>by obtain rfl:b2=g:=Option.some.inj e;exact ⟨⟨l2.1,by omega⟩,by omega,fun e2=>hne (Option.some.inj e2)⟩
  lo:=fun g e=>by cases e
  ob:=⟨hs,by omega⟩
  lt:=fun j hj=>by simp only [World.size_alloc];exact hj.2 }
theorem new_raw {w0 w:World} {a b:Int} {n m b1 b2:Nat} (hb:Below w0.heap.size w0 w) (h1:w.ownsRow w0.heap.size 56 1 (.slice (some ⟨b1,0,none⟩) n n) n (madeCells (Value.int .u64 0).cells (n * 1)).toList)
  (h2:w.ownsRow w0.heap.size 3 1 (.slice (some ⟨b2,0,none⟩) m m) m (ivs .i64 (List.replicate m (-1)))) (hne:b1≠b2) (hn:clampN a=n) (hm:clampN b=m) :
  Mm T1 (w.alloc (.cells #[.slice (some ⟨b1,0,none⟩) n n,.slice (some ⟨b2,0,none⟩) m m,.slice none 0 0] 128)) (fun j=>w0.heap.size<=j/\j < w.heap.size+1) w.heap.size (.slice (some ⟨b1,0,none⟩) n n) (.slice (some ⟨b2,0,none⟩) m m) (.slice none 0 0) (newS a b).ws (newS a b).hs (newS a b).ls:=by
 subst hn hm
 rw [made_words] at h1
 exact mm_new (T:=T1) hb h1 h2 hne
set_option maxHeartbeats 8000000 in
theorem new_any (a b:Int) (w:World):Calls Tryz.prog 32 #[.int .i64 a,.int .i64 b] w fun e w'=>∃ O B,e = .returned (ptr B)/\MAt w' O B (newS a b)/\Below w.heap.size w w'/\∀ j,O j->w.heap.size<=j:=by
 have hn8:=clamp_le a
 have hm8:=clamp_le b
 have HCL:Hid (∀ x y:Int,(x=a/\y=(clampN a:Int))\/(x=b/\y=(clampN b:Int))->∀ W,Calls Tryz.prog 61 #[.int .i64 x] W fun e w'=>e = .returned (.int .i64 y)/\W=w'):=by
  intro x y h W
  rcases h with ⟨rfl,rfl⟩ | ⟨rfl,rfl⟩
  ·exact clamp_any _ W
  ·exact clamp_any _ W
 obtain ⟨n,hn⟩:∃ n,clampN a=n:=⟨_,rfl⟩
 obtain ⟨m,hm⟩:∃ m,clampN b=m:=⟨_,rfl⟩
 rw [hn,hm] at HCL
 rw [hn] at hn8
 rw [hm] at hm8
 have hn0:n<=1000000000000:=by omega
 have hm0:m<=1000000000000:=by omega
 have HN:=Lib.hid hn
 have HM:=Lib.hid hm
 clear hn hm
 go_enter Tryz.func32,Tryz.ntmps32
 go_wp2_with fail
 refine wp_region_held_drew (S:=fun w'=>Below w.heap.size w w') (by kernel_rfl) ((Below.refl _ _).drew) (fun hH=>?_)
 refine zqt 0 (some 5) ?v1 rfl rfl ?c1 hH ?r1
 case c1=>(intro w' _;go_simp;(try with_reducible rfl))
 try simp only [Act.put,zq1,zq2,zq3]
 refine zqt 4 (some 9) ?v2 rfl rfl ?c2 hH ?r2
 case c2=>(intro w' _;go_simp;(try with_reducible rfl))
 try simp only [Act.put,zq1,zq2,zq3]
 refine wpAnyH_ready (rs:=[1,3]) (by kernel_rfl) (by simp) (AllReadyH.cons rfl (fun K hK=>?_) (AllReadyH.cons rfl (fun K hK=>?_) (AllReadyH.nil)))
 ·go_simp
  go_at_call 61
  refine (HCL.out a n (.inl ⟨rfl,rfl⟩) _).mono ?_
  rintro e w9 ⟨rfl,rfl⟩
  refine hK.out _ _ (hH) (fun hH=>?_)
  clear hK K
  try simp only [Act.put,zq1,zq2,zq3]
  refine wpAnyH_ready (rs:=[2,3,5]) (by kernel_rfl) (by simp) (AllReadyH.cons rfl (fun K hK=>?_) (AllReadyH.cons rfl (fun K hK=>?_) (AllReadyH.cons rfl (fun K hK=>?_) (AllReadyH.nil))))
  ·refine step_make rfl (.tmp 6) (.tmp 6) 125 rfl w.heap.size 56 (.int .u64 0) 1 8 Tryz.underlying125 info_word (by omega) .i64 n rfl rfl hn0 hH.size ?_
   intro w2 hown hbm
   change K (Act.put _ (some 7) (.slice (some ⟨_,0,none⟩) n n)) _
   have HW:=hown
   refine hK.out _ _ (hH.trans (hbm.out.mono hH.size)) (fun hH=>?_)
   clear hK K
   clear hown hbm
   try simp only [Act.put,zq1,zq2,zq3]
   refine wpAnyH_ready (rs:=[3,5]) (by kernel_rfl) (by simp) (AllReadyH.cons rfl (fun K hK=>?_) (AllReadyH.cons rfl (fun K hK=>?_) (AllReadyH.nil)))
   ·go_simp
    refine at_world (fun V hV=>?_)
    have hbl:Below _ _ V:=(by rw [hV];exact below_box _ _)
    have HX:Hid (V.cell? ⟨_,0,none⟩=some (.int .i64 (-1))):=(show _=_ by rw [hV];exact (Blk.box _ _ _).cell 0 _ rfl)
    replace HW:=Lib.hid (own_below HW.out hbl)
    refine hK.out _ _ (hH.trans (hbl.mono hH.size)) (fun hH=>?_)
    clear hK K
    clear hV hbl
    try simp only [Act.put,zq1,zq2,zq3]
    refine wpAnyH_ready (rs:=[5]) (by kernel_rfl) (by simp) (AllReadyH.cons rfl (fun K hK=>?_) (AllReadyH.nil))
    go_simp
    go_at_call 61
    refine (HCL.out b m (.inr ⟨rfl,rfl⟩) _).mono ?_
    rintro e w9 ⟨rfl,rfl⟩
    refine hK.out _ _ (hH) (fun hH=>?_)
    clear hK K
    try simp only [Act.put,zq1,zq2,zq3]
    refine wpAnyH_ready (rs:=[6]) (by kernel_rfl) (by simp) (AllReadyH.cons rfl (fun K hK=>?_) (AllReadyH.nil))
    go_simp
    have HNE:=Lib.hid (Nat.ne_of_lt (HW.out.lt _ rfl).2)
    go_at_call 62
    refine (repeat_any _ (-1) m hm8 _ HX.out).mono ?_
    rintro e w6 ⟨rfl,hr,hbr⟩
    have HR:=Lib.hid (row_base (b2:=w.heap.size) hr (fun g hg=>Nat.le_trans hH.size (hr.lt g hg).1))
    replace HW:=Lib.hid (own_below HW.out hbr)
    refine hK.out _ _ (hH.trans (hbr.mono hH.size)) (fun hH=>?_)
    clear hK K
    clear hr hbr HX
    try simp only [Act.put,zq1,zq2,zq3]
    refine zqt 7 (some 12) ?v3 rfl rfl ?c3 hH ?r3
    case c3=>(intro w' _;go_simp;(try with_reducible rfl))
    try simp only [Act.put,zq1,zq2,zq3]
    refine wpAnyH_ready (rs:=[8]) (by kernel_rfl) (by simp) (AllReadyH.cons rfl (fun K hK=>?_) (AllReadyH.nil))
    have HB8:=Lib.hid hH
    go_simp
    refine hK.out _ _ (hH.trans ((below_box _ _).mono hH.size)) (fun hH=>?_)
    clear hK K
    try simp only [Act.put,zq1,zq2,zq3]
    refine zqt 9 (some 4) ?v4 rfl rfl ?c4 hH ?r4
    case c4=>(intro w' _;go_simp;(try with_reducible rfl))
    try simp only [Act.put,zq1,zq2,zq3]
    refine wpAnyH_done (by kernel_rfl) ?_ _
    have HB9:=Lib.hid hH
    clear hH
    go_wp2_with fail
    go_ret
    have HP:=new_raw HB8.out HW.out HR.out HNE.out HN.out HM.out
    exact ⟨_,_,rfl,⟨⟨_,_,_,HP⟩,newS_ok _ _⟩,HB9.out,fun j hj=>And.left hj⟩
   ·go_simp
    go_at_call 61
    refine (HCL.out b m (.inr ⟨rfl,rfl⟩) _).mono ?_
    rintro e w9 ⟨rfl,rfl⟩
    refine hK.out _ _ (hH) (fun hH=>?_)
    clear hK K
    try simp only [Act.put,zq1,zq2,zq3]
    refine wpAnyH_ready (rs:=[3]) (by kernel_rfl) (by simp) (AllReadyH.cons rfl (fun K hK=>?_) (AllReadyH.nil))
    go_simp
    refine at_world (fun V hV=>?_)
    have hbl:Below _ _ V:=(by rw [hV];exact below_box _ _)
    have HX:Hid (V.cell? ⟨_,0,none⟩=some (.int .i64 (-1))):=(show _=_ by rw [hV];exact (Blk.box _ _ _).cell 0 _ rfl)
    replace HW:=Lib.hid (own_below HW.out hbl)
    refine hK.out _ _ (hH.trans (hbl.mono hH.size)) (fun hH=>?_)
    clear hK K
    clear hV hbl
    try simp only [Act.put,zq1,zq2,zq3]
    refine wpAnyH_ready (rs:=[6]) (by kernel_rfl) (by simp) (AllReadyH.cons rfl (fun K hK=>?_) (AllReadyH.nil))
    go_simp
    have HNE:=Lib.hid (Nat.ne_of_lt (HW.out.lt _ rfl).2)
    go_at_call 62
    refine (repeat_any _ (-1) m hm8 _ HX.out).mono ?_
    rintro e w6 ⟨rfl,hr,hbr⟩
    have HR:=Lib.hid (row_base (b2:=w.heap.size) hr (fun g hg=>Nat.le_trans hH.size (hr.lt g hg).1))
    replace HW:=Lib.hid (own_below HW.out hbr)
    refine hK.out _ _ (hH.trans (hbr.mono hH.size)) (fun hH=>?_)
    clear hK K
    clear hr hbr HX
    try simp only [Act.put,zq1,zq2,zq3]
    refine zqt 7 (some 12) ?v5 rfl rfl ?c5 hH ?r5
    case c5=>(intro w' _;go_simp;(try with_reducible rfl))
    try simp only [Act.put,zq1,zq2,zq3]
    refine wpAnyH_ready (rs:=[8]) (by kernel_rfl) (by simp) (AllReadyH.cons rfl (fun K hK=>?_) (AllReadyH.nil))
    have HB8:=Lib.hid hH
    go_simp
    refine hK.out _ _ (hH.trans ((below_box _ _).mono hH.size)) (fun hH=>?_)
    clear hK K
    try simp only [Act.put,zq1,zq2,zq3]
    refine zqt 9 (some 4) ?v6 rfl rfl ?c6 hH ?r6
    case c6=>(intro w' _;go_simp;(try with_reducible rfl))
    try simp only [Act.put,zq1,zq2,zq3]
    refine wpAnyH_done (by kernel_rfl) ?_ _
    have HB9:=Lib.hid hH
    clear hH
    go_wp2_with fail
    go_ret
    have HP:=new_raw HB8.out HW.out HR.out HNE.out HN.out HM.out
    exact ⟨_,_,rfl,⟨⟨_,_,_,HP⟩,newS_ok _ _⟩,HB9.out,fun j hj=>And.left hj⟩
  ·go_simp
   refine at_world (fun V hV=>?_)
   have hbl:Below _ w.drew V:=(by rw [hV];exact below_box w.drew _)
   have HX:Hid (V.cell? ⟨_,0,none⟩=some (.int .i64 (-1))):=(show _=_ by rw [hV];exact (Blk.box w.drew _ _).cell 0 _ rfl)
   refine hK.out _ _ (hH.trans (hbl.mono hH.size)) (fun hH=>?_)
   clear hK K
   clear hV hbl
   try simp only [Act.put,zq1,zq2,zq3]
   refine wpAnyH_ready (rs:=[2,5]) (by kernel_rfl) (by simp) (AllReadyH.cons rfl (fun K hK=>?_) (AllReadyH.cons rfl (fun K hK=>?_) (AllReadyH.nil)))
   ·refine step_make rfl (.tmp 6) (.tmp 6) 125 rfl w.heap.size 56 (.int .u64 0) 1 8 Tryz.underlying125 info_word (by omega) .i64 n rfl rfl hn0 hH.size ?_
    intro w2 hown hbm
    change K (Act.put _ (some 7) (.slice (some ⟨_,0,none⟩) n n)) _
    have HW:=hown
    replace HX:=Lib.hid ((hbm.out.cell (p:=⟨_,0,none⟩) (World.block_lt_of_cell? _ _ HX.out)).trans HX.out)
    refine hK.out _ _ (hH.trans (hbm.out.mono hH.size)) (fun hH=>?_)
    clear hK K
    clear hown hbm
    try simp only [Act.put,zq1,zq2,zq3]
    refine wpAnyH_ready (rs:=[5]) (by kernel_rfl) (by simp) (AllReadyH.cons rfl (fun K hK=>?_) (AllReadyH.nil))
    go_simp
    go_at_call 61
    refine (HCL.out b m (.inr ⟨rfl,rfl⟩) _).mono ?_
    rintro e w9 ⟨rfl,rfl⟩
    refine hK.out _ _ (hH) (fun hH=>?_)
    clear hK K
    try simp only [Act.put,zq1,zq2,zq3]
    refine wpAnyH_ready (rs:=[6]) (by kernel_rfl) (by simp) (AllReadyH.cons rfl (fun K hK=>?_) (AllReadyH.nil))
    go_simp
    have HNE:=Lib.hid (Nat.ne_of_lt (HW.out.lt _ rfl).2)
    go_at_call 62
    refine (repeat_any _ (-1) m hm8 _ HX.out).mono ?_
    rintro e w6 ⟨rfl,hr,hbr⟩
    have HR:=Lib.hid (row_base (b2:=w.heap.size) hr (fun g hg=>Nat.le_trans hH.size (hr.lt g hg).1))
    replace HW:=Lib.hid (own_below HW.out hbr)
    refine hK.out _ _ (hH.trans (hbr.mono hH.size)) (fun hH=>?_)
    clear hK K
    clear hr hbr HX
    try simp only [Act.put,zq1,zq2,zq3]
    refine zqt 7 (some 12) ?v7 rfl rfl ?c7 hH ?r7
    case c7=>(intro w' _;go_simp;(try with_reducible rfl))
    try simp only [Act.put,zq1,zq2,zq3]
    refine wpAnyH_ready (rs:=[8]) (by kernel_rfl) (by simp) (AllReadyH.cons rfl (fun K hK=>?_) (AllReadyH.nil))
    have HB8:=Lib.hid hH
    go_simp
    refine hK.out _ _ (hH.trans ((below_box _ _).mono hH.size)) (fun hH=>?_)
    clear hK K
    try simp only [Act.put,zq1,zq2,zq3]
    refine zqt 9 (some 4) ?v8 rfl rfl ?c8 hH ?r8
    case c8=>(intro w' _;go_simp;(try with_reducible rfl))
    try simp only [Act.put,zq1,zq2,zq3]
    refine wpAnyH_done (by kernel_rfl) ?_ _
    have HB9:=Lib.hid hH
    clear hH
    go_wp2_with fail
    go_ret
    have HP:=new_raw HB8.out HW.out HR.out HNE.out HN.out HM.out
    exact ⟨_,_,rfl,⟨⟨_,_,_,HP⟩,newS_ok _ _⟩,HB9.out,fun j hj=>And.left hj⟩
   ·go_simp
    go_at_call 61
    refine (HCL.out b m (.inr ⟨rfl,rfl⟩) _).mono ?_
    rintro e w9 ⟨rfl,rfl⟩
    refine hK.out _ _ (hH) (fun hH=>?_)
    clear hK K
    try simp only [Act.put,zq1,zq2,zq3]
    refine wpAnyH_ready (rs:=[2,6]) (by kernel_rfl) (by simp) (AllReadyH.cons rfl (fun K hK=>?_) (AllReadyH.cons rfl (fun K hK=>?_) (AllReadyH.nil)))
    ·refine step_make rfl (.tmp 6) (.tmp 6) 125 rfl w.heap.size 56 (.int .u64 0) 1 8 Tryz.underlying125 info_word (by omega) .i64 n rfl rfl hn0 hH.size ?_
     intro w2 hown hbm
     change K (Act.put _ (some 7) (.slice (some ⟨_,0,none⟩) n n)) _
     have HW:=hown
     replace HX:=Lib.hid ((hbm.out.cell (p:=⟨_,0,none⟩) (World.block_lt_of_cell? _ _ HX.out)).trans HX.out)
     refine hK.out _ _ (hH.trans (hbm.out.mono hH.size)) (fun hH=>?_)
     clear hK K
     clear hown hbm
     try simp only [Act.put,zq1,zq2,zq3]
     refine wpAnyH_ready (rs:=[6]) (by kernel_rfl) (by simp) (AllReadyH.cons rfl (fun K hK=>?_) (AllReadyH.nil))
     go_simp
     have HNE:=Lib.hid (Nat.ne_of_lt (HW.out.lt _ rfl).2)
     go_at_call 62
     refine (repeat_any _ (-1) m hm8 _ HX.out).mono ?_
     rintro e w6 ⟨rfl,hr,hbr⟩
     have HR:=Lib.hid (row_base (b2:=w.heap.size) hr (fun g hg=>Nat.le_trans hH.size (hr.lt g hg).1))
     replace HW:=Lib.hid (own_below HW.out hbr)
     refine hK.out _ _ (hH.trans (hbr.mono hH.size)) (fun hH=>?_)
     clear hK K
     clear hr hbr HX
     try simp only [Act.put,zq1,zq2,zq3]
     refine zqt 7 (some 12) ?v9 rfl rfl ?c9 hH ?r9
     case c9=>(intro w' _;go_simp;(try with_reducible rfl))
     try simp only [Act.put,zq1,zq2,zq3]
     refine wpAnyH_ready (rs:=[8]) (by kernel_rfl) (by simp) (AllReadyH.cons rfl (fun K hK=>?_) (AllReadyH.nil))
     have HB8:=Lib.hid hH
     go_simp
     refine hK.out _ _ (hH.trans ((below_box _ _).mono hH.size)) (fun hH=>?_)
     clear hK K
     try simp only [Act.put,zq1,zq2,zq3]
     refine zqt 9 (some 4) ?v10 rfl rfl ?c10 hH ?r10
     case c10=>(intro w' _;go_simp;(try with_reducible rfl))
     try simp only [Act.put,zq1,zq2,zq3]
     refine wpAnyH_done (by kernel_rfl) ?_ _
     have HB9:=Lib.hid hH
     clear hH
     go_wp2_with fail
     go_ret
     have HP:=new_raw HB8.out HW.out HR.out HNE.out HN.out HM.out
     exact ⟨_,_,rfl,⟨⟨_,_,_,HP⟩,newS_ok _ _⟩,HB9.out,fun j hj=>And.left hj⟩
    ·go_simp
     go_at_call 62
     refine (repeat_any _ (-1) m hm8 _ HX.out).mono ?_
     rintro e w6 ⟨rfl,hr,hbr⟩
     have HR:=Lib.hid (row_base (b2:=w.heap.size) hr (fun g hg=>Nat.le_trans hH.size (hr.lt g hg).1))
     refine hK.out _ _ (hH.trans (hbr.mono hH.size)) (fun hH=>?_)
     clear hK K
     clear hr hbr HX
     try simp only [Act.put,zq1,zq2,zq3]
     refine wpAnyH_ready (rs:=[2]) (by kernel_rfl) (by simp) (AllReadyH.cons rfl (fun K hK=>?_) (AllReadyH.nil))
     have HNE:=Lib.hid (Nat.ne_of_gt (HR.out.lt _ rfl).2)
     refine step_make rfl (.tmp 6) (.tmp 6) 125 rfl w.heap.size 56 (.int .u64 0) 1 8 Tryz.underlying125 info_word (by omega) .i64 n rfl rfl hn0 hH.size ?_
     intro w2 hown hbm
     change K (Act.put _ (some 7) (.slice (some ⟨_,0,none⟩) n n)) _
     have HW:=hown
     replace HR:=Lib.hid (own_below HR.out hbm.out)
     refine hK.out _ _ (hH.trans (hbm.out.mono hH.size)) (fun hH=>?_)
     clear hK K
     clear hown hbm
     try simp only [Act.put,zq1,zq2,zq3]
     refine zqt 7 (some 12) ?v11 rfl rfl ?c11 hH ?r11
     case c11=>(intro w' _;go_simp;(try with_reducible rfl))
     try simp only [Act.put,zq1,zq2,zq3]
     refine wpAnyH_ready (rs:=[8]) (by kernel_rfl) (by simp) (AllReadyH.cons rfl (fun K hK=>?_) (AllReadyH.nil))
     have HB8:=Lib.hid hH
     go_simp
     refine hK.out _ _ (hH.trans ((below_box _ _).mono hH.size)) (fun hH=>?_)
     clear hK K
     try simp only [Act.put,zq1,zq2,zq3]
     refine zqt 9 (some 4) ?v12 rfl rfl ?c12 hH ?r12
     case c12=>(intro w' _;go_simp;(try with_reducible rfl))
     try simp only [Act.put,zq1,zq2,zq3]
     refine wpAnyH_done (by kernel_rfl) ?_ _
     have HB9:=Lib.hid hH
     clear hH
     go_wp2_with fail
     go_ret
     have HP:=new_raw HB8.out HW.out HR.out HNE.out HN.out HM.out
     exact ⟨_,_,rfl,⟨⟨_,_,_,HP⟩,newS_ok _ _⟩,HB9.out,fun j hj=>And.left hj⟩
  ·go_simp
   go_at_call 61
   refine (HCL.out b m (.inr ⟨rfl,rfl⟩) _).mono ?_
   rintro e w9 ⟨rfl,rfl⟩
   refine hK.out _ _ (hH) (fun hH=>?_)
   clear hK K
   try simp only [Act.put,zq1,zq2,zq3]
   refine wpAnyH_ready (rs:=[2,3]) (by kernel_rfl) (by simp) (AllReadyH.cons rfl (fun K hK=>?_) (AllReadyH.cons rfl (fun K hK=>?_) (AllReadyH.nil)))
   ·refine step_make rfl (.tmp 6) (.tmp 6) 125 rfl w.heap.size 56 (.int .u64 0) 1 8 Tryz.underlying125 info_word (by omega) .i64 n rfl rfl hn0 hH.size ?_
    intro w2 hown hbm
    change K (Act.put _ (some 7) (.slice (some ⟨_,0,none⟩) n n)) _
    have HW:=hown
    refine hK.out _ _ (hH.trans (hbm.out.mono hH.size)) (fun hH=>?_)
    clear hK K
    clear hown hbm
    try simp only [Act.put,zq1,zq2,zq3]
    refine wpAnyH_ready (rs:=[3]) (by kernel_rfl) (by simp) (AllReadyH.cons rfl (fun K hK=>?_) (AllReadyH.nil))
    go_simp
    refine at_world (fun V hV=>?_)
    have hbl:Below _ _ V:=(by rw [hV];exact below_box _ _)
    have HX:Hid (V.cell? ⟨_,0,none⟩=some (.int .i64 (-1))):=(show _=_ by rw [hV];exact (Blk.box _ _ _).cell 0 _ rfl)
    replace HW:=Lib.hid (own_below HW.out hbl)
    refine hK.out _ _ (hH.trans (hbl.mono hH.size)) (fun hH=>?_)
    clear hK K
    clear hV hbl
    try simp only [Act.put,zq1,zq2,zq3]
    refine wpAnyH_ready (rs:=[6]) (by kernel_rfl) (by simp) (AllReadyH.cons rfl (fun K hK=>?_) (AllReadyH.nil))
    go_simp
    have HNE:=Lib.hid (Nat.ne_of_lt (HW.out.lt _ rfl).2)
    go_at_call 62
    refine (repeat_any _ (-1) m hm8 _ HX.out).mono ?_
    rintro e w6 ⟨rfl,hr,hbr⟩
    have HR:=Lib.hid (row_base (b2:=w.heap.size) hr (fun g hg=>Nat.le_trans hH.size (hr.lt g hg).1))
    replace HW:=Lib.hid (own_below HW.out hbr)
    refine hK.out _ _ (hH.trans (hbr.mono hH.size)) (fun hH=>?_)
    clear hK K
    clear hr hbr HX
    try simp only [Act.put,zq1,zq2,zq3]
    refine zqt 7 (some 12) ?v13 rfl rfl ?c13 hH ?r13
    case c13=>(intro w' _;go_simp;(try with_reducible rfl))
    try simp only [Act.put,zq1,zq2,zq3]
    refine wpAnyH_ready (rs:=[8]) (by kernel_rfl) (by simp) (AllReadyH.cons rfl (fun K hK=>?_) (AllReadyH.nil))
    have HB8:=Lib.hid hH
    go_simp
    refine hK.out _ _ (hH.trans ((below_box _ _).mono hH.size)) (fun hH=>?_)
    clear hK K
    try simp only [Act.put,zq1,zq2,zq3]
    refine zqt 9 (some 4) ?v14 rfl rfl ?c14 hH ?r14
    case c14=>(intro w' _;go_simp;(try with_reducible rfl))
    try simp only [Act.put,zq1,zq2,zq3]
    refine wpAnyH_done (by kernel_rfl) ?_ _
    have HB9:=Lib.hid hH
    clear hH
    go_wp2_with fail
    go_ret
    have HP:=new_raw HB8.out HW.out HR.out HNE.out HN.out HM.out
    exact ⟨_,_,rfl,⟨⟨_,_,_,HP⟩,newS_ok _ _⟩,HB9.out,fun j hj=>And.left hj⟩
   ·go_simp
    refine at_world (fun V hV=>?_)
    have hbl:Below _ w.drew V:=(by rw [hV];exact below_box w.drew _)
    have HX:Hid (V.cell? ⟨_,0,none⟩=some (.int .i64 (-1))):=(show _=_ by rw [hV];exact (Blk.box w.drew _ _).cell 0 _ rfl)
    refine hK.out _ _ (hH.trans (hbl.mono hH.size)) (fun hH=>?_)
    clear hK K
    clear hV hbl
    try simp only [Act.put,zq1,zq2,zq3]
    refine wpAnyH_ready (rs:=[2,6]) (by kernel_rfl) (by simp) (AllReadyH.cons rfl (fun K hK=>?_) (AllReadyH.cons rfl (fun K hK=>?_) (AllReadyH.nil)))
    ·refine step_make rfl (.tmp 6) (.tmp 6) 125 rfl w.heap.size 56 (.int .u64 0) 1 8 Tryz.underlying125 info_word (by omega) .i64 n rfl rfl hn0 hH.size ?_
     intro w2 hown hbm
     change K (Act.put _ (some 7) (.slice (some ⟨_,0,none⟩) n n)) _
     have HW:=hown
     replace HX:=Lib.hid ((hbm.out.cell (p:=⟨_,0,none⟩) (World.block_lt_of_cell? _ _ HX.out)).trans HX.out)
     refine hK.out _ _ (hH.trans (hbm.out.mono hH.size)) (fun hH=>?_)
     clear hK K
     clear hown hbm
     try simp only [Act.put,zq1,zq2,zq3]
     refine wpAnyH_ready (rs:=[6]) (by kernel_rfl) (by simp) (AllReadyH.cons rfl (fun K hK=>?_) (AllReadyH.nil))
     go_simp
     have HNE:=Lib.hid (Nat.ne_of_lt (HW.out.lt _ rfl).2)
     go_at_call 62
     refine (repeat_any _ (-1) m hm8 _ HX.out).mono ?_
     rintro e w6 ⟨rfl,hr,hbr⟩
     have HR:=Lib.hid (row_base (b2:=w.heap.size) hr (fun g hg=>Nat.le_trans hH.size (hr.lt g hg).1))
     replace HW:=Lib.hid (own_below HW.out hbr)
     refine hK.out _ _ (hH.trans (hbr.mono hH.size)) (fun hH=>?_)
     clear hK K
     clear hr hbr HX
     try simp only [Act.put,zq1,zq2,zq3]
     refine zqt 7 (some 12) ?v15 rfl rfl ?c15 hH ?r15
     case c15=>(intro w' _;go_simp;(try with_reducible rfl))
     try simp only [Act.put,zq1,zq2,zq3]
     refine wpAnyH_ready (rs:=[8]) (by kernel_rfl) (by simp) (AllReadyH.cons rfl (fun K hK=>?_) (AllReadyH.nil))
     have HB8:=Lib.hid hH
     go_simp
     refine hK.out _ _ (hH.trans ((below_box _ _).mono hH.size)) (fun hH=>?_)
     clear hK K
     try simp only [Act.put,zq1,zq2,zq3]
     refine zqt 9 (some 4) ?v16 rfl rfl ?c16 hH ?r16
     case c16=>(intro w' _;go_simp;(try with_reducible rfl))
     try simp only [Act.put,zq1,zq2,zq3]
     refine wpAnyH_done (by kernel_rfl) ?_ _
     have HB9:=Lib.hid hH
     clear hH
     go_wp2_with fail
     go_ret
     have HP:=new_raw HB8.out HW.out HR.out HNE.out HN.out HM.out
     exact ⟨_,_,rfl,⟨⟨_,_,_,HP⟩,newS_ok _ _⟩,HB9.out,fun j hj=>And.left hj⟩
    ·go_simp
     go_at_call 62
     refine (repeat_any _ (-1) m hm8 _ HX.out).mono ?_
     rintro e w6 ⟨rfl,hr,hbr⟩
     have HR:=Lib.hid (row_base (b2:=w.heap.size) hr (fun g hg=>Nat.le_trans hH.size (hr.lt g hg).1))
     refine hK.out _ _ (hH.trans (hbr.mono hH.size)) (fun hH=>?_)
     clear hK K
     clear hr hbr HX
     try simp only [Act.put,zq1,zq2,zq3]
     refine wpAnyH_ready (rs:=[2]) (by kernel_rfl) (by simp) (AllReadyH.cons rfl (fun K hK=>?_) (AllReadyH.nil))
     have HNE:=Lib.hid (Nat.ne_of_gt (HR.out.lt _ rfl).2)
     refine step_make rfl (.tmp 6) (.tmp 6) 125 rfl w.heap.size 56 (.int .u64 0) 1 8 Tryz.underlying125 info_word (by omega) .i64 n rfl rfl hn0 hH.size ?_
     intro w2 hown hbm
     change K (Act.put _ (some 7) (.slice (some ⟨_,0,none⟩) n n)) _
     have HW:=hown
     replace HR:=Lib.hid (own_below HR.out hbm.out)
     refine hK.out _ _ (hH.trans (hbm.out.mono hH.size)) (fun hH=>?_)
     clear hK K
     clear hown hbm
     try simp only [Act.put,zq1,zq2,zq3]
     refine zqt 7 (some 12) ?v17 rfl rfl ?c17 hH ?r17
     case c17=>(intro w' _;go_simp;(try with_reducible rfl))
     try simp only [Act.put,zq1,zq2,zq3]
     refine wpAnyH_ready (rs:=[8]) (by kernel_rfl) (by simp) (AllReadyH.cons rfl (fun K hK=>?_) (AllReadyH.nil))
     have HB8:=Lib.hid hH
     go_simp
     refine hK.out _ _ (hH.trans ((below_box _ _).mono hH.size)) (fun hH=>?_)
     clear hK K
     try simp only [Act.put,zq1,zq2,zq3]
     refine zqt 9 (some 4) ?v18 rfl rfl ?c18 hH ?r18
     case c18=>(intro w' _;go_simp;(try with_reducible rfl))
     try simp only [Act.put,zq1,zq2,zq3]
     refine wpAnyH_done (by kernel_rfl) ?_ _
     have HB9:=Lib.hid hH
     clear hH
     go_wp2_with fail
     go_ret
     have HP:=new_raw HB8.out HW.out HR.out HNE.out HN.out HM.out
     exact ⟨_,_,rfl,⟨⟨_,_,_,HP⟩,newS_ok _ _⟩,HB9.out,fun j hj=>And.left hj⟩
 ·go_simp
  refine at_world (fun V hV=>?_)
  have hbl:Below _ w.drew V:=(by rw [hV];exact below_box w.drew _)
  have HX:Hid (V.cell? ⟨_,0,none⟩=some (.int .i64 (-1))):=(show _=_ by rw [hV];exact (Blk.box w.drew _ _).cell 0 _ rfl)
  refine hK.out _ _ (hH.trans (hbl.mono hH.size)) (fun hH=>?_)
  clear hK K
  clear hV hbl
  try simp only [Act.put,zq1,zq2,zq3]
  refine wpAnyH_ready (rs:=[1]) (by kernel_rfl) (by simp) (AllReadyH.cons rfl (fun K hK=>?_) (AllReadyH.nil))
  go_simp
  go_at_call 61
  refine (HCL.out a n (.inl ⟨rfl,rfl⟩) _).mono ?_
  rintro e w9 ⟨rfl,rfl⟩
  refine hK.out _ _ (hH) (fun hH=>?_)
  clear hK K
  try simp only [Act.put,zq1,zq2,zq3]
  refine wpAnyH_ready (rs:=[2,5]) (by kernel_rfl) (by simp) (AllReadyH.cons rfl (fun K hK=>?_) (AllReadyH.cons rfl (fun K hK=>?_) (AllReadyH.nil)))
  ·refine step_make rfl (.tmp 6) (.tmp 6) 125 rfl w.heap.size 56 (.int .u64 0) 1 8 Tryz.underlying125 info_word (by omega) .i64 n rfl rfl hn0 hH.size ?_
   intro w2 hown hbm
   change K (Act.put _ (some 7) (.slice (some ⟨_,0,none⟩) n n)) _
   have HW:=hown
   replace HX:=Lib.hid ((hbm.out.cell (p:=⟨_,0,none⟩) (World.block_lt_of_cell? _ _ HX.out)).trans HX.out)
   refine hK.out _ _ (hH.trans (hbm.out.mono hH.size)) (fun hH=>?_)
   clear hK K
   clear hown hbm
   try simp only [Act.put,zq1,zq2,zq3]
   refine wpAnyH_ready (rs:=[5]) (by kernel_rfl) (by simp) (AllReadyH.cons rfl (fun K hK=>?_) (AllReadyH.nil))
   go_simp
   go_at_call 61
   refine (HCL.out b m (.inr ⟨rfl,rfl⟩) _).mono ?_
   rintro e w9 ⟨rfl,rfl⟩
   refine hK.out _ _ (hH) (fun hH=>?_)
   clear hK K
   try simp only [Act.put,zq1,zq2,zq3]
   refine wpAnyH_ready (rs:=[6]) (by kernel_rfl) (by simp) (AllReadyH.cons rfl (fun K hK=>?_) (AllReadyH.nil))
   go_simp
   have HNE:=Lib.hid (Nat.ne_of_lt (HW.out.lt _ rfl).2)
   go_at_call 62
   refine (repeat_any _ (-1) m hm8 _ HX.out).mono ?_
   rintro e w6 ⟨rfl,hr,hbr⟩
   have HR:=Lib.hid (row_base (b2:=w.heap.size) hr (fun g hg=>Nat.le_trans hH.size (hr.lt g hg).1))
   replace HW:=Lib.hid (own_below HW.out hbr)
   refine hK.out _ _ (hH.trans (hbr.mono hH.size)) (fun hH=>?_)
   clear hK K
   clear hr hbr HX
   try simp only [Act.put,zq1,zq2,zq3]
   refine zqt 7 (some 12) ?v19 rfl rfl ?c19 hH ?r19
   case c19=>(intro w' _;go_simp;(try with_reducible rfl))
   try simp only [Act.put,zq1,zq2,zq3]
   refine wpAnyH_ready (rs:=[8]) (by kernel_rfl) (by simp) (AllReadyH.cons rfl (fun K hK=>?_) (AllReadyH.nil))
   have HB8:=Lib.hid hH
   go_simp
   refine hK.out _ _ (hH.trans ((below_box _ _).mono hH.size)) (fun hH=>?_)
   clear hK K
   try simp only [Act.put,zq1,zq2,zq3]
   refine zqt 9 (some 4) ?v20 rfl rfl ?c20 hH ?r20
   case c20=>(intro w' _;go_simp;(try with_reducible rfl))
   try simp only [Act.put,zq1,zq2,zq3]
   refine wpAnyH_done (by kernel_rfl) ?_ _
   have HB9:=Lib.hid hH
   clear hH
   go_wp2_with fail
   go_ret
   have HP:=new_raw HB8.out HW.out HR.out HNE.out HN.out HM.out
   exact ⟨_,_,rfl,⟨⟨_,_,_,HP⟩,newS_ok _ _⟩,HB9.out,fun j hj=>And.left hj⟩
  ·go_simp
   go_at_call 61
   refine (HCL.out b m (.inr ⟨rfl,rfl⟩) _).mono ?_
   rintro e w9 ⟨rfl,rfl⟩
   refine hK.out _ _ (hH) (fun hH=>?_)
   clear hK K
   try simp only [Act.put,zq1,zq2,zq3]
   refine wpAnyH_ready (rs:=[2,6]) (by kernel_rfl) (by simp) (AllReadyH.cons rfl (fun K hK=>?_) (AllReadyH.cons rfl (fun K hK=>?_) (AllReadyH.nil)))
   ·refine step_make rfl (.tmp 6) (.tmp 6) 125 rfl w.heap.size 56 (.int .u64 0) 1 8 Tryz.underlying125 info_word (by omega) .i64 n rfl rfl hn0 hH.size ?_
    intro w2 hown hbm
    change K (Act.put _ (some 7) (.slice (some ⟨_,0,none⟩) n n)) _
    have HW:=hown
    replace HX:=Lib.hid ((hbm.out.cell (p:=⟨_,0,none⟩) (World.block_lt_of_cell? _ _ HX.out)).trans HX.out)
    refine hK.out _ _ (hH.trans (hbm.out.mono hH.size)) (fun hH=>?_)
    clear hK K
    clear hown hbm
    try simp only [Act.put,zq1,zq2,zq3]
    refine wpAnyH_ready (rs:=[6]) (by kernel_rfl) (by simp) (AllReadyH.cons rfl (fun K hK=>?_) (AllReadyH.nil))
    go_simp
    have HNE:=Lib.hid (Nat.ne_of_lt (HW.out.lt _ rfl).2)
    go_at_call 62
    refine (repeat_any _ (-1) m hm8 _ HX.out).mono ?_
    rintro e w6 ⟨rfl,hr,hbr⟩
    have HR:=Lib.hid (row_base (b2:=w.heap.size) hr (fun g hg=>Nat.le_trans hH.size (hr.lt g hg).1))
    replace HW:=Lib.hid (own_below HW.out hbr)
    refine hK.out _ _ (hH.trans (hbr.mono hH.size)) (fun hH=>?_)
    clear hK K
    clear hr hbr HX
    try simp only [Act.put,zq1,zq2,zq3]
    refine zqt 7 (some 12) ?v21 rfl rfl ?c21 hH ?r21
    case c21=>(intro w' _;go_simp;(try with_reducible rfl))
    try simp only [Act.put,zq1,zq2,zq3]
    refine wpAnyH_ready (rs:=[8]) (by kernel_rfl) (by simp) (AllReadyH.cons rfl (fun K hK=>?_) (AllReadyH.nil))
    have HB8:=Lib.hid hH
    go_simp
    refine hK.out _ _ (hH.trans ((below_box _ _).mono hH.size)) (fun hH=>?_)
    clear hK K
    try simp only [Act.put,zq1,zq2,zq3]
    refine zqt 9 (some 4) ?v22 rfl rfl ?c22 hH ?r22
    case c22=>(intro w' _;go_simp;(try with_reducible rfl))
    try simp only [Act.put,zq1,zq2,zq3]
    refine wpAnyH_done (by kernel_rfl) ?_ _
    have HB9:=Lib.hid hH
    clear hH
    go_wp2_with fail
    go_ret
    have HP:=new_raw HB8.out HW.out HR.out HNE.out HN.out HM.out
    exact ⟨_,_,rfl,⟨⟨_,_,_,HP⟩,newS_ok _ _⟩,HB9.out,fun j hj=>And.left hj⟩
   ·go_simp
    go_at_call 62
    refine (repeat_any _ (-1) m hm8 _ HX.out).mono ?_
    rintro e w6 ⟨rfl,hr,hbr⟩
    have HR:=Lib.hid (row_base (b2:=w.heap.size) hr (fun g hg=>Nat.le_trans hH.size (hr.lt g hg).1))
    refine hK.out _ _ (hH.trans (hbr.mono hH.size)) (fun hH=>?_)
    clear hK K
    clear hr hbr HX
    try simp only [Act.put,zq1,zq2,zq3]
    refine wpAnyH_ready (rs:=[2]) (by kernel_rfl) (by simp) (AllReadyH.cons rfl (fun K hK=>?_) (AllReadyH.nil))
    have HNE:=Lib.hid (Nat.ne_of_gt (HR.out.lt _ rfl).2)
    refine step_make rfl (.tmp 6) (.tmp 6) 125 rfl w.heap.size 56 (.int .u64 0) 1 8 Tryz.underlying125 info_word (by omega) .i64 n rfl rfl hn0 hH.size ?_
    intro w2 hown hbm
    change K (Act.put _ (some 7) (.slice (some ⟨_,0,none⟩) n n)) _
    have HW:=hown
    replace HR:=Lib.hid (own_below HR.out hbm.out)
    refine hK.out _ _ (hH.trans (hbm.out.mono hH.size)) (fun hH=>?_)
    clear hK K
    clear hown hbm
    try simp only [Act.put,zq1,zq2,zq3]
    refine zqt 7 (some 12) ?v23 rfl rfl ?c23 hH ?r23
    case c23=>(intro w' _;go_simp;(try with_reducible rfl))
    try simp only [Act.put,zq1,zq2,zq3]
    refine wpAnyH_ready (rs:=[8]) (by kernel_rfl) (by simp) (AllReadyH.cons rfl (fun K hK=>?_) (AllReadyH.nil))
    have HB8:=Lib.hid hH
    go_simp
    refine hK.out _ _ (hH.trans ((below_box _ _).mono hH.size)) (fun hH=>?_)
    clear hK K
    try simp only [Act.put,zq1,zq2,zq3]
    refine zqt 9 (some 4) ?v24 rfl rfl ?c24 hH ?r24
    case c24=>(intro w' _;go_simp;(try with_reducible rfl))
    try simp only [Act.put,zq1,zq2,zq3]
    refine wpAnyH_done (by kernel_rfl) ?_ _
    have HB9:=Lib.hid hH
    clear hH
    go_wp2_with fail
    go_ret
    have HP:=new_raw HB8.out HW.out HR.out HNE.out HN.out HM.out
    exact ⟨_,_,rfl,⟨⟨_,_,_,HP⟩,newS_ok _ _⟩,HB9.out,fun j hj=>And.left hj⟩
end Me
end Go.Proofs.YtcockldefmmhbaaGreatDoor
set_option linter.unusedVariables false
set_option linter.unusedSimpArgs false
set_option maxRecDepth 100000
namespace Go.Proofs.YtcockldefmmhbaaGreatDoor
open Go.ChangeShapes Go.WideShapes Go.ChangeAt Go.RowKit Go.Mtl Go.Lib
namespace Me
open MemM
section
variable {w:World} {O:Nat->Prop} {B:Nat} {vw vh vl:Value} {ws hs:List Int} {ls:List Ac}
end
section
variable {w w':World} {O O':Nat->Prop} {B:Nat} {s:Ms}
end
end Me
end Go.Proofs.YtcockldefmmhbaaGreatDoor
