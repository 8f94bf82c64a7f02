/- Layer 13: the walk of MatchFirst. (Written by wip/tools/mkMatP.py.) -/
import Derived.Test.YtaniiofoaaekbaaMatD
import Derived.Test.YtaniiofoaaekbaaMatE
import Derived.Test.YtaniiofoaaekbaaMatF
import Derived.Test.YtaniiofoaaekbaaMatG
set_option linter.unusedVariables false
set_option linter.unusedSimpArgs false
namespace Go.Proofs.Ytaniiofoaaekbaa
open Go.ChangeShapes Go.WideShapes Go.ChangeAt Go.RowKit Go.Mtl Go.Lib
namespace Ma
open RulM (R)
open MatM (K k_of hitB fst idxI accB few few_ok few_len)

theorem ruleTypes : RuleTypes Try.prog 32 :=
  ⟨_, _, _, 4, 5, 28, 30, 23, 3, 24, Try.underlying32, by kernel_rfl, Try.underlying4, Try.underlying5, Try.underlying28, by kernel_rfl, Try.underlying23, Try.underlying3,
    Try.underlying30, by kernel_rfl, Try.underlying24, by kernel_rfl, by kernel_rfl, by kernel_rfl, by kernel_rfl, by kernel_rfl, by kernel_rfl, by kernel_rfl, by kernel_rfl⟩
/-- A rule in one block, a packet in another, and what was there before. -/
structure BK (w : World) (g h : Nat) (r : R) (k : K) (W : World) : Prop where
  r : RAt w g r W
  k : KAt w h k W
theorem BK.next {w W W' : World} {g h : Nat} {r : R} {k : K} (H : BK w g h r k W) (hb : Below W.heap.size W W') : BK w g h r k W' := ⟨H.r.next hb, H.k.next hb⟩
theorem KAt.drew {w W : World} {h : Nat} {k : K} (H : KAt w h k W) : KAt w h k W.drew := ⟨H.blk, H.bel.drew⟩
theorem RAt.drew {w W : World} {g : Nat} {r : R} (H : RAt w g r W) : RAt w g r W.drew := ⟨H.blk, H.bel.drew⟩
theorem BK.drew {w W : World} {g h : Nat} {r : R} {k : K} (H : BK w g h r k W) : BK w g h r k W.drew := ⟨H.r.drew, H.k.drew⟩
/-- few and First of a list that came in, in whatever world behind. -/
theorem few_of {A : Option Addr} {n c : Nat} {rs : List R} {w : World} (hr : Rds w w.heap.size (.slice A n c) rs) (m : Nat) (hm : (few rs).length = m) (W : World) (hb : Below w.heap.size w W) :
    Calls Try.prog 7 #[.slice A n c] W fun e w' => e = .returned (.slice A m c) ∧ W = w' := by
  have hn : rs.length = n := by obtain ⟨_, _, e, _⟩ := hr; injection e with _ e2 _; exact e2.symm
  have := few_any A n c rs W hn (hr.below hb)
  rw [hm] at this
  exact this
theorem first_of {A : Option Addr} {n c : Nat} {rs : List R} {w : World} (hr : Rds w w.heap.size (.slice A n c) rs) (ho : ∀ r ∈ rs, r.Ok) (m : Nat) (hm : (few rs).length = m) (k : K) (hk : k.Ok) (W : World) (hb : Below w.heap.size w W) :
    Calls Try.prog 6 #[.slice A m c, .agg #[.int .u8 (k.pr : Int), .int .u32 (k.sr : Int), .int .u32 (k.ds : Int), .int .u16 (k.sp : Int), .int .u16 (k.dp : Int), .int .u8 (k.fl : Int), .int .u8 (k.kd : Int)]] W fun e w' => e = .returned (.tuple #[.int .i64 (idxI (fst k (few rs))), .bool (accB (few rs) (fst k (few rs)))]) ∧ Below W.heap.size W w' := by
  have hq := few_rds hr
  rw [hm] at hq
  exact first_any A m c (few rs) k hk W hm (hq.below hb) (few_ok ho) (by unfold maxLen; have := few_len rs; omega)
theorem refFirst_of {A : Option Addr} {n c : Nat} {rs : List R} {w : World} (hr : Rds w w.heap.size (.slice A n c) rs) (ho : ∀ r ∈ rs, r.Ok) (m : Nat) (hm : (few rs).length = m) (k : K) (hk : k.Ok) (W : World) (hb : Below w.heap.size w W) :
    Calls Try.prog 8 #[.slice A m c, .agg #[.int .u8 (k.pr : Int), .int .u32 (k.sr : Int), .int .u32 (k.ds : Int), .int .u16 (k.sp : Int), .int .u16 (k.dp : Int), .int .u8 (k.fl : Int), .int .u8 (k.kd : Int)]] W fun e w' => e = .returned (.tuple #[.int .i64 (idxI (fst k (few rs))), .bool (accB (few rs) (fst k (few rs)))]) ∧ Below W.heap.size W w' := by
  have hq := few_rds hr
  rw [hm] at hq
  exact refFirst_any A m c (few rs) k hk W hm (hq.below hb) (few_ok ho) (by unfold maxLen; have := few_len rs; omega)

set_option maxRecDepth 100000 in
set_option maxHeartbeats 2000000 in
theorem matchFirst_walk (A : Option Addr) (n c : Nat) (rs : List R) (p0 p1 p2 p3 p4 p5 p6 : Int) (r : R) (w : World) (h0 : Rds w w.heap.size (.slice A n c) rs ∧ ∀ r ∈ rs, r.Ok)
    (hp : (0 ≤ p0 ∧ p0 ≤ 255) ∧ (0 ≤ p1 ∧ p1 ≤ 4294967295) ∧ (0 ≤ p2 ∧ p2 ≤ 4294967295) ∧ (0 ≤ p3 ∧ p3 ≤ 65535) ∧ (0 ≤ p4 ∧ p4 ≤ 65535) ∧ (0 ≤ p5 ∧ p5 ≤ 255) ∧ (0 ≤ p6 ∧ p6 ≤ 255)) (ho : r.Ok) :
    Calls Try.prog 3 #[.slice A n c, .agg #[.int .u8 p0, .int .u32 p1, .int .u32 p2, .int .u16 p3, .int .u16 p4, .int .u8 p5, .int .u8 p6], .agg #[.bool r.acc, .int .u8 (r.pr : Int), .int .u32 (r.sa : Int), .int .i64 r.sb, .int .u32 (r.da : Int), .int .i64 r.db, .int .u16 (r.sl : Int), .int .u16 (r.sh : Int), .int .u16 (r.dl : Int), .int .u16 (r.dh : Int)]] w fun e w' => e = .returned (.bool true) ∧ Below w.heap.size w w' := by
  obtain ⟨k, hk, rfl, rfl, rfl, rfl, rfl, rfl, rfl⟩ := k_of hp
  obtain ⟨m, hm⟩ : ∃ m, (few rs).length = m := ⟨_, rfl⟩
  have HF := Lib.hid (fun W hb => few_of h0.1 m hm W hb)
  have H1 := Lib.hid (fun W hb => first_of h0.1 h0.2 m hm k hk W hb)
  have H2 := Lib.hid (fun W hb => refFirst_of h0.1 h0.2 m hm k hk W hb)
  have HM := Lib.hid (fun W => matches_any r k ho hk W)
  have HN := Lib.hid (fun W => refMatches_any r k ho hk W)
  have HA := Lib.hid (fun W => awake_any W)
  generalize idxI (fst k (few rs)) = x at H1 H2
  generalize accB (few rs) (fst k (few rs)) = b at H1 H2
  generalize hitB r k = hh at HM HN
  have e1 : (x == x) = true := beq_self_eq_true _
  have e2 : (b == b) = true := beq_self_eq_true _
  have e3 : (hh == hh) = true := beq_self_eq_true _
  have HS := Lib.hid (BK.mk ((RAt.box (w.alloc (.cells (pK k) 26)) r) |> fun h => (⟨by have := h.blk; rwa [World.size_alloc] at this, below_then (below_box _ _) h.bel⟩ : RAt w (w.heap.size + 1) r _)) ((KAt.box w k).next (below_box _ _)))
  clear h0 hp ho hk hm
  go_enter Try.func3, Try.ntmps3
  go_wp2_with fail
  refine wp_region_held_drew (S := fun w' => Hid (BK w (w.heap.size + 1) w.heap.size r k w')) (by kernel_rfl) (Lib.hid HS.out.drew) (fun hH => ?_)
  refine wpAnyH_take (i := 0) (oi := ⟨some 12, _, _, _, _, _⟩) (v := ?v1) rfl (by kernel_rfl) (by kernel_rfl) (by kernel_rfl) (fun _ _ _ h => h) (Or.inl ⟨rfl, ?c1⟩) hH ?r1
  case c1 => (intro w' _; go_simp; (try with_reducible rfl))
  try simp only [Act.put, List.setIfInBounds_toArray, List.set_cons_zero, List.set_cons_succ]
  refine wpAnyH_take (i := 2) (oi := ⟨some 14, _, _, _, _, _⟩) (v := ?v2) rfl (by kernel_rfl) (by kernel_rfl) (by kernel_rfl) (fun _ _ _ h => h) (Or.inl ⟨rfl, ?c2⟩) hH ?r2
  case c2 => (intro w' hS; obtain ⟨t0, t1, t2, t3, t4, t5, t6⟩ := hS.out.k.cells; go_simp; (try with_reducible rfl))
  try simp only [Act.put, List.setIfInBounds_toArray, List.set_cons_zero, List.set_cons_succ]
  refine wpAnyH_ready (rs := [1]) (by kernel_rfl) (by simp) (AllReadyH.cons rfl (fun K hK => ?_) (AllReadyH.nil))
  go_simp
  go_at_call 7
  refine (HF.out _ hH.out.k.bel).mono ?_
  rintro e w6 ⟨rfl, rfl⟩
  refine hK.out _ _ (hH) (fun hH => ?_)
  clear hK K
  try simp only [Act.put, List.setIfInBounds_toArray, List.set_cons_zero, List.set_cons_succ]
  refine wpAnyH_ready (rs := [3]) (by kernel_rfl) (by simp) (AllReadyH.cons rfl (fun K hK => ?_) (AllReadyH.nil))
  go_simp
  go_at_call 6
  refine (H1.out _ hH.out.k.bel).mono ?_
  rintro e w6 ⟨rfl, hbp⟩
  refine hK.out _ _ (Lib.hid (hH.out.next hbp)) (fun hH => ?_)
  clear hK K
  clear hbp
  try simp only [Act.put, List.setIfInBounds_toArray, List.set_cons_zero, List.set_cons_succ]
  refine wpAnyH_take (i := 4) (oi := ⟨some 11, _, _, _, _, _⟩) (v := ?v3) rfl (by kernel_rfl) (by kernel_rfl) (by kernel_rfl) (fun _ _ _ h => h) (Or.inl ⟨rfl, ?c3⟩) hH ?r3
  case c3 => (intro w' _; go_simp; (try with_reducible rfl))
  try simp only [Act.put, List.setIfInBounds_toArray, List.set_cons_zero, List.set_cons_succ]
  refine wpAnyH_take (i := 5) (oi := ⟨some 16, _, _, _, _, _⟩) (v := ?v4) rfl (by kernel_rfl) (by kernel_rfl) (by kernel_rfl) (fun _ _ _ h => h) (Or.inl ⟨rfl, ?c4⟩) hH ?r4
  case c4 => (intro w' _; go_simp; (try with_reducible rfl))
  try simp only [Act.put, List.setIfInBounds_toArray, List.set_cons_zero, List.set_cons_succ]
  refine wpAnyH_take (i := 6) (oi := ⟨some 17, _, _, _, _, _⟩) (v := ?v5) rfl (by kernel_rfl) (by kernel_rfl) (by kernel_rfl) (fun _ _ _ h => h) (Or.inl ⟨rfl, ?c5⟩) hH ?r5
  case c5 => (intro w' _; go_simp; (try with_reducible rfl))
  try simp only [Act.put, List.setIfInBounds_toArray, List.set_cons_zero, List.set_cons_succ]
  refine wpAnyH_take (i := 7) (oi := ⟨some 7, _, _, _, _, _⟩) (v := ?v6) rfl (by kernel_rfl) (by kernel_rfl) (by kernel_rfl) (fun _ _ _ h => h) (Or.inl ⟨rfl, ?c6⟩) hH ?r6
  case c6 => (intro w' _; go_simp; (try with_reducible rfl))
  try simp only [Act.put, List.setIfInBounds_toArray, List.set_cons_zero, List.set_cons_succ]
  refine wpAnyH_take (i := 8) (oi := ⟨some 8, _, _, _, _, _⟩) (v := ?v7) rfl (by kernel_rfl) (by kernel_rfl) (by kernel_rfl) (fun _ _ _ h => h) (Or.inl ⟨rfl, ?c7⟩) hH ?r7
  case c7 => (intro w' _; go_simp; (try with_reducible rfl))
  try simp only [Act.put, List.setIfInBounds_toArray, List.set_cons_zero, List.set_cons_succ]
  refine wpAnyH_done (by kernel_rfl) ?_ _
  clear HS
  have HS := hH
  clear hH
  go_wp2_with fail
  refine wp_region_held_drew (S := fun w' => Hid (BK w (w.heap.size + 1) w.heap.size r k w')) (by kernel_rfl) (Lib.hid HS.out.drew) (fun hH => ?_)
  refine wpAnyH_take (i := 0) (oi := ⟨some 19, _, _, _, _, _⟩) (v := ?v101) rfl (by kernel_rfl) (by kernel_rfl) (by kernel_rfl) (fun _ _ _ h => h) (Or.inl ⟨rfl, ?c101⟩) hH ?r101
  case c101 => (intro w' _; go_simp; (try with_reducible rfl))
  try simp only [Act.put, List.setIfInBounds_toArray, List.set_cons_zero, List.set_cons_succ]
  refine wpAnyH_take (i := 2) (oi := ⟨some 21, _, _, _, _, _⟩) (v := ?v102) rfl (by kernel_rfl) (by kernel_rfl) (by kernel_rfl) (fun _ _ _ h => h) (Or.inl ⟨rfl, ?c102⟩) hH ?r102
  case c102 => (intro w' hS; obtain ⟨t0, t1, t2, t3, t4, t5, t6⟩ := hS.out.k.cells; go_simp; (try with_reducible rfl))
  try simp only [Act.put, List.setIfInBounds_toArray, List.set_cons_zero, List.set_cons_succ]
  refine wpAnyH_ready (rs := [1]) (by kernel_rfl) (by simp) (AllReadyH.cons rfl (fun K hK => ?_) (AllReadyH.nil))
  go_simp
  go_at_call 7
  refine (HF.out _ hH.out.k.bel).mono ?_
  rintro e w6 ⟨rfl, rfl⟩
  refine hK.out _ _ (hH) (fun hH => ?_)
  clear hK K
  try simp only [Act.put, List.setIfInBounds_toArray, List.set_cons_zero, List.set_cons_succ]
  refine wpAnyH_ready (rs := [3]) (by kernel_rfl) (by simp) (AllReadyH.cons rfl (fun K hK => ?_) (AllReadyH.nil))
  go_simp
  go_at_call 8
  refine (H2.out _ hH.out.k.bel).mono ?_
  rintro e w6 ⟨rfl, hbp⟩
  refine hK.out _ _ (Lib.hid (hH.out.next hbp)) (fun hH => ?_)
  clear hK K
  clear hbp
  try simp only [Act.put, List.setIfInBounds_toArray, List.set_cons_zero, List.set_cons_succ]
  refine wpAnyH_take (i := 4) (oi := ⟨some 18, _, _, _, _, _⟩) (v := ?v103) rfl (by kernel_rfl) (by kernel_rfl) (by kernel_rfl) (fun _ _ _ h => h) (Or.inl ⟨rfl, ?c103⟩) hH ?r103
  case c103 => (intro w' _; go_simp; (try with_reducible rfl))
  try simp only [Act.put, List.setIfInBounds_toArray, List.set_cons_zero, List.set_cons_succ]
  refine wpAnyH_take (i := 5) (oi := ⟨some 23, _, _, _, _, _⟩) (v := ?v104) rfl (by kernel_rfl) (by kernel_rfl) (by kernel_rfl) (fun _ _ _ h => h) (Or.inl ⟨rfl, ?c104⟩) hH ?r104
  case c104 => (intro w' _; go_simp; (try with_reducible rfl))
  try simp only [Act.put, List.setIfInBounds_toArray, List.set_cons_zero, List.set_cons_succ]
  refine wpAnyH_take (i := 6) (oi := ⟨some 24, _, _, _, _, _⟩) (v := ?v105) rfl (by kernel_rfl) (by kernel_rfl) (by kernel_rfl) (fun _ _ _ h => h) (Or.inl ⟨rfl, ?c105⟩) hH ?r105
  case c105 => (intro w' _; go_simp; (try with_reducible rfl))
  try simp only [Act.put, List.setIfInBounds_toArray, List.set_cons_zero, List.set_cons_succ]
  refine wpAnyH_take (i := 7) (oi := ⟨some 9, _, _, _, _, _⟩) (v := ?v106) rfl (by kernel_rfl) (by kernel_rfl) (by kernel_rfl) (fun _ _ _ h => h) (Or.inl ⟨rfl, ?c106⟩) hH ?r106
  case c106 => (intro w' _; go_simp; (try with_reducible rfl))
  try simp only [Act.put, List.setIfInBounds_toArray, List.set_cons_zero, List.set_cons_succ]
  refine wpAnyH_take (i := 8) (oi := ⟨some 10, _, _, _, _, _⟩) (v := ?v107) rfl (by kernel_rfl) (by kernel_rfl) (by kernel_rfl) (fun _ _ _ h => h) (Or.inl ⟨rfl, ?c107⟩) hH ?r107
  case c107 => (intro w' _; go_simp; (try with_reducible rfl))
  try simp only [Act.put, List.setIfInBounds_toArray, List.set_cons_zero, List.set_cons_succ]
  refine wpAnyH_done (by kernel_rfl) ?_ _
  clear HS
  have HS := hH
  clear hH
  go_wp2_with fail
  refine wp_region_held_drew (S := fun w' => Hid (BK w (w.heap.size + 1) w.heap.size r k w')) (by kernel_rfl) (Lib.hid HS.out.drew) (fun hH => ?_)
  refine wpAnyH_ready (rs := [0]) (by kernel_rfl) (by simp) (AllReadyH.cons rfl (fun K hK => ?_) (AllReadyH.nil))
  go_simp
  go_at_call 9
  refine (HA.out _).mono ?_
  rintro e w6 ⟨rfl, hbp⟩
  refine hK.out _ _ (Lib.hid (hH.out.next hbp)) (fun hH => ?_)
  clear hK K
  clear hbp
  try simp only [Act.put, List.setIfInBounds_toArray, List.set_cons_zero, List.set_cons_succ]
  refine wpAnyH_take (i := 1) (oi := ⟨some 26, _, _, _, _, _⟩) (v := ?v201) rfl (by kernel_rfl) (by kernel_rfl) (by kernel_rfl) (fun _ _ _ h => h) (Or.inl ⟨rfl, ?c201⟩) hH ?r201
  case c201 => (intro w' _; go_simp; (try with_reducible rfl))
  try simp only [Act.put, List.setIfInBounds_toArray, List.set_cons_zero, List.set_cons_succ]
  refine wpAnyH_take (i := 2) (oi := ⟨some 27, _, _, _, _, _⟩) (v := ?v202) rfl (by kernel_rfl) (by kernel_rfl) (by kernel_rfl) (fun _ _ _ h => h) (Or.inl ⟨rfl, ?c202⟩) hH ?r202
  case c202 => (intro w' _; go_simp; (try with_reducible rfl))
  try simp only [Act.put, List.setIfInBounds_toArray, List.set_cons_zero, List.set_cons_succ]
  refine wpAnyH_take (i := 3) (oi := ⟨some 28, _, _, _, _, _⟩) (v := ?v203) rfl (by kernel_rfl) (by kernel_rfl) (by kernel_rfl) (fun _ _ _ h => h) (Or.inl ⟨rfl, ?c203⟩) hH ?r203
  case c203 => (intro w' _; go_simp; (try with_reducible rfl))
  try simp only [Act.put, List.setIfInBounds_toArray, List.set_cons_zero, List.set_cons_succ]
  refine wpAnyH_take (i := 4) (oi := ⟨some 29, _, _, _, _, _⟩) (v := ?v204) rfl (by kernel_rfl) (by kernel_rfl) (by kernel_rfl) (fun _ _ _ h => h) (Or.inl ⟨rfl, ?c204⟩) hH ?r204
  case c204 => (intro w' _; go_simp; (try with_reducible rfl))
  try simp only [Act.put, List.setIfInBounds_toArray, List.set_cons_zero, List.set_cons_succ]
  refine wpAnyH_take (i := 5) (oi := ⟨some 30, _, _, _, _, _⟩) (v := ?v205) rfl (by kernel_rfl) (by kernel_rfl) (by kernel_rfl) (fun _ _ _ h => h) (Or.inl ⟨rfl, ?c205⟩) hH ?r205
  case c205 => (intro w' _; go_simp; (try with_reducible rfl))
  try simp only [Act.put, List.setIfInBounds_toArray, List.set_cons_zero, List.set_cons_succ]
  refine wpAnyH_take (i := 6) (oi := ⟨some 31, _, _, _, _, _⟩) (v := ?v206) rfl (by kernel_rfl) (by kernel_rfl) (by kernel_rfl) (fun _ _ _ h => h) (Or.inl ⟨rfl, ?c206⟩) hH ?r206
  case c206 => (intro w' _; go_simp; (try with_reducible rfl))
  try simp only [Act.put, List.setIfInBounds_toArray, List.set_cons_zero, List.set_cons_succ]
  refine wpAnyH_take (i := 7) (oi := ⟨some 32, _, _, _, _, _⟩) (v := ?v207) rfl (by kernel_rfl) (by kernel_rfl) (by kernel_rfl) (fun _ _ _ h => h) (Or.inl ⟨rfl, ?c207⟩) hH ?r207
  case c207 => (intro w' _; go_simp; (try with_reducible rfl))
  try simp only [Act.put, List.setIfInBounds_toArray, List.set_cons_zero, List.set_cons_succ]
  refine wpAnyH_take (i := 8) (oi := ⟨some 33, _, _, _, _, _⟩) (v := ?v208) rfl (by kernel_rfl) (by kernel_rfl) (by kernel_rfl) (fun _ _ _ h => h) (Or.inl ⟨rfl, ?c208⟩) hH ?r208
  case c208 => (intro w' _; go_simp; (try with_reducible rfl))
  try simp only [Act.put, List.setIfInBounds_toArray, List.set_cons_zero, List.set_cons_succ]
  refine wpAnyH_take (i := 9) (oi := ⟨some 34, _, _, _, _, _⟩) (v := ?v209) rfl (by kernel_rfl) (by kernel_rfl) (by kernel_rfl) (fun _ _ _ h => h) (Or.inl ⟨rfl, ?c209⟩) hH ?r209
  case c209 => (intro w' _; go_simp; (try with_reducible rfl))
  try simp only [Act.put, List.setIfInBounds_toArray, List.set_cons_zero, List.set_cons_succ]
  refine wpAnyH_take (i := 10) (oi := ⟨some 35, _, _, _, _, _⟩) (v := ?v210) rfl (by kernel_rfl) (by kernel_rfl) (by kernel_rfl) (fun _ _ _ h => h) (Or.inl ⟨rfl, ?c210⟩) hH ?r210
  case c210 => (intro w' _; go_simp; (try with_reducible rfl))
  try simp only [Act.put, List.setIfInBounds_toArray, List.set_cons_zero, List.set_cons_succ]
  refine wpAnyH_take (i := 11) (oi := ⟨some 36, _, _, _, _, _⟩) (v := ?v211) rfl (by kernel_rfl) (by kernel_rfl) (by kernel_rfl) (fun _ _ _ h => h) (Or.inl ⟨rfl, ?c211⟩) hH ?r211
  case c211 => (intro w' _; go_simp; (try with_reducible rfl))
  try simp only [Act.put, List.setIfInBounds_toArray, List.set_cons_zero, List.set_cons_succ]
  refine wpAnyH_take (i := 12) (oi := ⟨some 37, _, _, _, _, _⟩) (v := ?v212) rfl (by kernel_rfl) (by kernel_rfl) (by kernel_rfl) (fun _ _ _ h => h) (Or.inl ⟨rfl, ?c212⟩) hH ?r212
  case c212 => (intro w' hS; obtain ⟨t0, t1, t2, t3, t4, t5, t6, t7, t8, t9⟩ := hS.out.r.cells; go_simp; (try with_reducible rfl))
  try simp only [Act.put, List.setIfInBounds_toArray, List.set_cons_zero, List.set_cons_succ]
  refine wpAnyH_take (i := 13) (oi := ⟨some 38, _, _, _, _, _⟩) (v := ?v213) rfl (by kernel_rfl) (by kernel_rfl) (by kernel_rfl) (fun _ _ _ h => h) (Or.inl ⟨rfl, ?c213⟩) hH ?r213
  case c213 => (intro w' hS; obtain ⟨t0, t1, t2, t3, t4, t5, t6⟩ := hS.out.k.cells; go_simp; (try with_reducible rfl))
  try simp only [Act.put, List.setIfInBounds_toArray, List.set_cons_zero, List.set_cons_succ]
  refine wpAnyH_take (i := 15) (oi := ⟨some 40, _, _, _, _, _⟩) (v := ?v214) rfl (by kernel_rfl) (by kernel_rfl) (by kernel_rfl) (fun _ _ _ h => h) (Or.inl ⟨rfl, ?c214⟩) hH ?r214
  case c214 => (intro w' hS; obtain ⟨t0, t1, t2, t3, t4, t5, t6, t7, t8, t9⟩ := hS.out.r.cells; go_simp; (try with_reducible rfl))
  try simp only [Act.put, List.setIfInBounds_toArray, List.set_cons_zero, List.set_cons_succ]
  refine wpAnyH_take (i := 16) (oi := ⟨some 41, _, _, _, _, _⟩) (v := ?v215) rfl (by kernel_rfl) (by kernel_rfl) (by kernel_rfl) (fun _ _ _ h => h) (Or.inl ⟨rfl, ?c215⟩) hH ?r215
  case c215 => (intro w' hS; obtain ⟨t0, t1, t2, t3, t4, t5, t6⟩ := hS.out.k.cells; go_simp; (try with_reducible rfl))
  try simp only [Act.put, List.setIfInBounds_toArray, List.set_cons_zero, List.set_cons_succ]
  refine wpAnyH_ready (rs := [14]) (by kernel_rfl) (by simp) (AllReadyH.cons rfl (fun K hK => ?_) (AllReadyH.nil))
  go_simp
  go_at_call 10
  refine (HM.out _).mono ?_
  rintro e w6 ⟨rfl, hbp⟩
  refine hK.out _ _ (Lib.hid (hH.out.next hbp)) (fun hH => ?_)
  clear hK K
  clear hbp
  try simp only [Act.put, List.setIfInBounds_toArray, List.set_cons_zero, List.set_cons_succ]
  refine wpAnyH_ready (rs := [17]) (by kernel_rfl) (by simp) (AllReadyH.cons rfl (fun K hK => ?_) (AllReadyH.nil))
  go_simp
  go_at_call 11
  refine (HN.out _).mono ?_
  rintro e w6 ⟨rfl, hbp⟩
  refine hK.out _ _ (Lib.hid (hH.out.next hbp)) (fun hH => ?_)
  clear hK K
  clear hbp
  try simp only [Act.put, List.setIfInBounds_toArray, List.set_cons_zero, List.set_cons_succ]
  refine wpAnyH_take (i := 18) (oi := ⟨some 43, _, _, _, _, _⟩) (v := ?v216) rfl (by kernel_rfl) (by kernel_rfl) (by kernel_rfl) (fun _ _ _ h => h) (Or.inl ⟨rfl, ?c216⟩) hH ?r216
  case c216 => (intro w' _; go_simp; (try with_reducible rfl))
  try simp only [Act.put, List.setIfInBounds_toArray, List.set_cons_zero, List.set_cons_succ]
  refine wpAnyH_take (i := 19) (oi := ⟨some 44, _, _, _, _, _⟩) (v := ?v217) rfl (by kernel_rfl) (by kernel_rfl) (by kernel_rfl) (fun _ _ _ h => h) (Or.inl ⟨rfl, ?c217⟩) hH ?r217
  case c217 => (intro w' _; go_simp; (try with_reducible rfl))
  try simp only [Act.put, List.setIfInBounds_toArray, List.set_cons_zero, List.set_cons_succ]
  refine wpAnyH_take (i := 20) (oi := ⟨some 6, _, _, _, _, _⟩) (v := ?v218) rfl (by kernel_rfl) (by kernel_rfl) (by kernel_rfl) (fun _ _ _ h => h) (Or.inl ⟨rfl, ?c218⟩) hH ?r218
  case c218 => (intro w' _; go_simp; (try with_reducible rfl))
  try simp only [Act.put, List.setIfInBounds_toArray, List.set_cons_zero, List.set_cons_succ]
  refine wpAnyH_done (by kernel_rfl) ?_ _
  go_wp2_with fail
  go_ret
  exact ⟨rfl, hH.out.k.bel⟩
end Ma
end Go.Proofs.Ytaniiofoaaekbaa
