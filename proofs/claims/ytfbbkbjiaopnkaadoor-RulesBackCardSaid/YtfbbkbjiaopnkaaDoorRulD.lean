/- Layer 12: the contracts of show and Print. (Written by wip/tools/mkRulD.py.) -/
import Derived.Test.YtfbbkbjiaopnkaaDoorRulC
set_option linter.unusedVariables false
set_option linter.unusedSimpArgs false
namespace Go.Proofs.YtfbbkbjiaopnkaaDoor
open Go.ChangeShapes Go.WideShapes Go.ChangeAt Go.RowKit Go.Mtl Go.Shelf Go.Lib
namespace Ru
open RulM (R wordS known protoP known_iff spanS netL verdL goodR goodR_iff wordsR lineR)
open AdrM (anyL validS showS)

/-- What show's region keeps. -/
theorem sr_of {w W : World} {r : R} (h : RAt w w.heap.size r W) : W.cell? ⟨w.heap.size, 6, none⟩ = some (.int .u16 (r.sl : Int)) ∧ W.cell? ⟨w.heap.size, 7, none⟩ = some (.int .u16 (r.sh : Int)) ∧ W.cell? ⟨w.heap.size, 8, none⟩ = some (.int .u16 (r.dl : Int)) ∧ W.cell? ⟨w.heap.size, 9, none⟩ = some (.int .u16 (r.dh : Int)) ∧ Hid (RAt w w.heap.size r W) :=
  ⟨h.c6, h.c7, h.c8, h.c9, h⟩
theorem RAt.drew {w W : World} {g : Nat} {r : R} (h : RAt w g r W) : RAt w g r W.drew := ⟨h.blk.drew, h.bel.drew⟩
theorem join_lib (c : UInt8) : ∀ ws : List (List UInt8), Lib.join ws [c] = AdrM.join c ws := by
  intro ws
  cases ws with
  | nil => rfl
  | cons x r =>
    rw [Lib.join_cons]
    revert x
    induction r with
    | nil => intro x; simp [joinTail, AdrM.join]
    | cons y r ih =>
      intro x
      have := ih y
      show x ++ joinTail [c] (y :: r) = x ++ c :: AdrM.join c (y :: r)
      rw [← this]
      simp [joinTail]

def sixB (r : R) : List ByteArray := (wordsR r).map fun l => ⟨l.toArray⟩
theorem six_list (r : R) : (sixB r).map (·.data.toList) = wordsR r := by simp [sixB, wordsR]
def sixV (r : R) (v : List UInt8) : Array Value := #[.string ⟨v.toArray⟩, .string ⟨(wordS r.pr).toArray⟩, .string ⟨(netL r.sa r.sb).toArray⟩, .string ⟨(spanS r.sl r.sh).toArray⟩, .string ⟨(netL r.da r.db).toArray⟩, .string ⟨(spanS r.dl r.dh).toArray⟩]
theorem join_any (r : R) (ho : r.Ok) (hg : goodR r = true) (v : List UInt8) (hv : verdL r.acc = v) (W : World) (g : Nat) (hc : Blk W g (sixV r v) 9) :
    Calls Tryd.prog 20 #[.slice (some ⟨g, 0, none⟩) 6 6, .string ⟨#[32]⟩] W fun e w' => e = .returned (.string ⟨(lineR r).toArray⟩) ∧ Below W.heap.size W w' := by
  subst hv
  have hL : Lib.join ((sixB r).map (·.data.toList)) (⟨#[32]⟩ : ByteArray).data.toList = lineR r := by rw [six_list]; exact join_lib 32 _
  have h := Tryd.strings_Join g 0 6 (sixB r) ⟨#[32]⟩ W (fun j x hx => by
    have hj : j < 6 := by have := (List.getElem?_eq_some_iff.1 hx).1; simpa [sixB, wordsR] using this
    rw [Nat.zero_add]
    refine hc.cell j _ ?_
    have hx' := hx
    simp only [sixB, wordsR, List.map_cons, List.map_nil] at hx'
    match j, hj with
    | 0, _ => simp at hx'; subst hx'; rfl
    | 1, _ => simp at hx'; subst hx'; rfl
    | 2, _ => simp at hx'; subst hx'; rfl
    | 3, _ => simp at hx'; subst hx'; rfl
    | 4, _ => simp at hx'; subst hx'; rfl
    | 5, _ => simp at hx'; subst hx'; rfl) hc.lt (by simp [sixB, wordsR]) (by simp [sixB, wordsR]) (by rw [hL]; have := RulM.line_len ho hg; omega)
  rw [hL] at h
  exact h

set_option maxRecDepth 100000 in
set_option maxHeartbeats 2000000 in
theorem show_true (r : R) (ho : r.Ok) (hg : goodR r = true) (w : World) (he : Env w) (ha : r.acc = true) (vd : List UInt8) (hvd : vd = RulM.acceptL) :
    Calls Tryd.prog 10 #[.agg #[.bool r.acc, .int .u8 (r.pr : Int), .int .u32 (r.sa : Int), .int .i64 r.sb, .int .u32 (r.da : Int), .int .i64 r.db, .int .u16 (r.sl : Int), .int .u16 (r.sh : Int), .int .u16 (r.dl : Int), .int .u16 (r.dh : Int)]] w fun e w' => e = .returned (.string ⟨(lineR r).toArray⟩) ∧ Below w.heap.size w w' := by
  obtain ⟨hk, h1, h2, h3, h4⟩ := (goodR_iff r).1 hg
  have HP := Lib.hid (fun W => protocolWord_any r.pr ho.pr W)
  have HN1 := Lib.hid (fun W (h : Below w.heap.size w W) => Ad.show_any r.sa r.sb ho.sa W (he.ad.below h))
  rw [show_good h1] at HN1
  have HN2 := Lib.hid (fun W (h : Below w.heap.size w W) => Ad.show_any r.da r.db ho.da W (he.ad.below h))
  rw [show_good h2] at HN2
  have HS1 := Lib.hid (fun W (h : Below w.heap.size w W) => showSpan_any r.sl r.sh ho.sl ho.sh W (he.ad.below h))
  have HS2 := Lib.hid (fun W (h : Below w.heap.size w W) => showSpan_any r.dl r.dh ho.dl ho.dh W (he.ad.below h))
  have HJ := Lib.hid (fun W g h => join_any r ho hg vd (by rw [ha, hvd]; rfl) W g h)
  have K : RAt w w.heap.size r (w.alloc (.cells #[.bool true, .int .u8 (r.pr : Int), .int .u32 (r.sa : Int), .int .i64 r.sb, .int .u32 (r.da : Int), .int .i64 r.db, .int .u16 (r.sl : Int), .int .u16 (r.sh : Int), .int .u16 (r.dl : Int), .int .u16 (r.dh : Int)] 42)) := by
    have := RAt.box w r
    unfold cR at this
    rw [ha] at this
    exact this
  clear he ho hg hk h1 h2 h3 h4
  have HK0 := Lib.hid K
  have d0 := K.c0
  rw [ha] at d0
  have d1 := K.c1
  clear K
  have HVD := Lib.hid hvd
  clear hvd
  go_enter Tryd.func10, Tryd.ntmps10
  go_wp2_with fail
  go_at_call 14
  refine (HP.out _).mono ?_
  rintro e w1 ⟨rfl, hb⟩
  have HK1 := Lib.hid (HK0.out.next hb)
  have d2 := HK1.out.c2
  have d3 := HK1.out.c3
  clear hb d0 d1
  go_wp2_with fail
  go_at_call 18
  refine (HN1.out _ HK1.out.bel).mono ?_
  rintro e w2 ⟨rfl, hb⟩
  have HK2 := Lib.hid (HK1.out.next hb)
  have d4 := HK2.out.c4
  have d5 := HK2.out.c5
  clear hb d2 d3
  go_wp2_with fail
  go_at_call 18
  refine (HN2.out _ HK2.out.bel).mono ?_
  rintro e w3 ⟨rfl, hb⟩
  have HK3 := Lib.hid (HK2.out.next hb)
  have d6 := HK3.out.c6
  have d7 := HK3.out.c7
  have d8 := HK3.out.c8
  have d9 := HK3.out.c9
  clear hb d4 d5
  go_wp2_with fail
  refine wp_region_held_drew (S := (fun w' => w'.cell? ⟨w.heap.size, 6, none⟩ = some (.int .u16 (r.sl : Int)) ∧ w'.cell? ⟨w.heap.size, 7, none⟩ = some (.int .u16 (r.sh : Int)) ∧ w'.cell? ⟨w.heap.size, 8, none⟩ = some (.int .u16 (r.dl : Int)) ∧ w'.cell? ⟨w.heap.size, 9, none⟩ = some (.int .u16 (r.dh : Int)) ∧ Hid (RAt w w.heap.size r w'))) (by kernel_rfl) (sr_of HK3.out.drew) (fun hH => ?_)
  refine wpAnyH_take (i := 0) (oi := ⟨some 31, _, _, _, _, _⟩) (v := ?v1) rfl (by kernel_rfl) (by kernel_rfl) (by kernel_rfl) (fun _ _ _ h => h) (Or.inl ⟨rfl, ?c1⟩) hH ?r1
  case c1 => (intro w' _; go_simp; (try with_reducible rfl))
  try simp only [Act.put, List.setIfInBounds_toArray, List.set_cons_zero, List.set_cons_succ]
  refine wpAnyH_take (i := 1) (oi := ⟨some 32, _, _, _, _, _⟩) (v := ?v2) rfl (by kernel_rfl) (by kernel_rfl) (by kernel_rfl) (fun _ _ _ h => h) (Or.inl ⟨rfl, ?c2⟩) hH ?r2
  case c2 => (intro w' _; go_simp; (try with_reducible rfl))
  try simp only [Act.put, List.setIfInBounds_toArray, List.set_cons_zero, List.set_cons_succ]
  refine wpAnyH_take (i := 2) (oi := ⟨some 33, _, _, _, _, _⟩) (v := ?v3) rfl (by kernel_rfl) (by kernel_rfl) (by kernel_rfl) (fun _ _ _ h => h) (Or.inl ⟨rfl, ?c3⟩) hH ?r3
  case c3 => (intro w' _; go_simp; (try with_reducible rfl))
  try simp only [Act.put, List.setIfInBounds_toArray, List.set_cons_zero, List.set_cons_succ]
  refine wpAnyH_take (i := 3) (oi := ⟨some 34, _, _, _, _, _⟩) (v := ?v4) rfl (by kernel_rfl) (by kernel_rfl) (by kernel_rfl) (fun _ _ _ h => h) (Or.inl ⟨rfl, ?c4⟩) hH ?r4
  case c4 => (intro w' _; go_simp; (try with_reducible rfl))
  try simp only [Act.put, List.setIfInBounds_toArray, List.set_cons_zero, List.set_cons_succ]
  refine wpAnyH_take (i := 4) (oi := ⟨some 35, _, _, _, _, _⟩) (v := ?v5) rfl (by kernel_rfl) (by kernel_rfl) (by kernel_rfl) (fun _ _ _ h => h) (Or.inl ⟨rfl, ?c5⟩) hH ?r5
  case c5 => (intro w' hS; (try dsimp only at hS); go_simp; (try with_reducible rfl))
  try simp only [Act.put, List.setIfInBounds_toArray, List.set_cons_zero, List.set_cons_succ]
  refine wpAnyH_take (i := 6) (oi := ⟨some 37, _, _, _, _, _⟩) (v := ?v6) rfl (by kernel_rfl) (by kernel_rfl) (by kernel_rfl) (fun _ _ _ h => h) (Or.inl ⟨rfl, ?c6⟩) hH ?r6
  case c6 => (intro w' _; go_simp; (try with_reducible rfl))
  try simp only [Act.put, List.setIfInBounds_toArray, List.set_cons_zero, List.set_cons_succ]
  refine wpAnyH_take (i := 7) (oi := ⟨some 38, _, _, _, _, _⟩) (v := ?v7) rfl (by kernel_rfl) (by kernel_rfl) (by kernel_rfl) (fun _ _ _ h => h) (Or.inl ⟨rfl, ?c7⟩) hH ?r7
  case c7 => (intro w' _; go_simp; (try with_reducible rfl))
  try simp only [Act.put, List.setIfInBounds_toArray, List.set_cons_zero, List.set_cons_succ]
  refine wpAnyH_take (i := 8) (oi := ⟨some 39, _, _, _, _, _⟩) (v := ?v8) rfl (by kernel_rfl) (by kernel_rfl) (by kernel_rfl) (fun _ _ _ h => h) (Or.inl ⟨rfl, ?c8⟩) hH ?r8
  case c8 => (intro w' hS; (try dsimp only at hS); go_simp; (try with_reducible rfl))
  try simp only [Act.put, List.setIfInBounds_toArray, List.set_cons_zero, List.set_cons_succ]
  refine wpAnyH_ready (rs := [5]) (by kernel_rfl) (by simp) (AllReadyH.cons rfl (fun K hK => ?_) (AllReadyH.nil))
  go_simp
  go_at_call 19
  refine (HS1.out _ hH.2.2.2.2.out.bel).mono ?_
  rintro e w6 ⟨rfl, hb6⟩
  refine hK.out _ _ (sr_of (hH.2.2.2.2.out.next hb6)) (fun hH => ?_)
  clear hK K
  clear hb6
  try simp only [Act.put, List.setIfInBounds_toArray, List.set_cons_zero, List.set_cons_succ]
  refine wpAnyH_ready (rs := [9]) (by kernel_rfl) (by simp) (AllReadyH.cons rfl (fun K hK => ?_) (AllReadyH.nil))
  go_simp
  go_at_call 19
  refine (HS2.out _ hH.2.2.2.2.out.bel).mono ?_
  rintro e w7 ⟨rfl, hb7⟩
  refine hK.out _ _ (sr_of (hH.2.2.2.2.out.next hb7)) (fun hH => ?_)
  clear hK K
  clear hb7
  try simp only [Act.put, List.setIfInBounds_toArray, List.set_cons_zero, List.set_cons_succ]
  refine wpAnyH_ready (rs := [10]) (by kernel_rfl) (by simp) (AllReadyH.cons rfl (fun K hK => ?_) (AllReadyH.nil))
  go_simp
  have HSL := Lib.hid (Blk.box w7 (sixV r vd) 9)
  refine hK.out _ _ (sr_of (hH.2.2.2.2.out.next (below_box _ _))) (fun hH => ?_)
  clear hK K
  try simp only [Act.put, List.setIfInBounds_toArray, List.set_cons_zero, List.set_cons_succ]
  refine wpAnyH_take (i := 11) (oi := ⟨some 10, _, _, _, _, _⟩) (v := ?v9) rfl (by kernel_rfl) (by kernel_rfl) (by kernel_rfl) (fun _ _ _ h => h) (Or.inl ⟨rfl, ?c9⟩) hH ?r9
  case c9 => (intro w' _; go_simp; (try with_reducible rfl))
  try simp only [Act.put, List.setIfInBounds_toArray, List.set_cons_zero, List.set_cons_succ]
  refine wpAnyH_done (by kernel_rfl) ?_ _
  have hend := hH.2.2.2.2.out
  clear hH
  have HE2 := Lib.hid hend
  clear hend
  go_wp2_with fail
  go_at_call 20
  refine (HJ.out _ _ (by have h := HVD.out; subst h; exact HSL.out)).mono ?_
  rintro e w8 ⟨rfl, hb⟩
  have HK8 := Lib.hid (HE2.out.next hb)
  clear hb
  go_wp2_with fail
  go_ret
  exact ⟨rfl, HK8.out.bel⟩

set_option maxRecDepth 100000 in
set_option maxHeartbeats 2000000 in
theorem show_false (r : R) (ho : r.Ok) (hg : goodR r = true) (w : World) (he : Env w) (ha : r.acc = false) (vd : List UInt8) (hvd : vd = RulM.dropL) :
    Calls Tryd.prog 10 #[.agg #[.bool r.acc, .int .u8 (r.pr : Int), .int .u32 (r.sa : Int), .int .i64 r.sb, .int .u32 (r.da : Int), .int .i64 r.db, .int .u16 (r.sl : Int), .int .u16 (r.sh : Int), .int .u16 (r.dl : Int), .int .u16 (r.dh : Int)]] w fun e w' => e = .returned (.string ⟨(lineR r).toArray⟩) ∧ Below w.heap.size w w' := by
  obtain ⟨hk, h1, h2, h3, h4⟩ := (goodR_iff r).1 hg
  have HP := Lib.hid (fun W => protocolWord_any r.pr ho.pr W)
  have HN1 := Lib.hid (fun W (h : Below w.heap.size w W) => Ad.show_any r.sa r.sb ho.sa W (he.ad.below h))
  rw [show_good h1] at HN1
  have HN2 := Lib.hid (fun W (h : Below w.heap.size w W) => Ad.show_any r.da r.db ho.da W (he.ad.below h))
  rw [show_good h2] at HN2
  have HS1 := Lib.hid (fun W (h : Below w.heap.size w W) => showSpan_any r.sl r.sh ho.sl ho.sh W (he.ad.below h))
  have HS2 := Lib.hid (fun W (h : Below w.heap.size w W) => showSpan_any r.dl r.dh ho.dl ho.dh W (he.ad.below h))
  have HJ := Lib.hid (fun W g h => join_any r ho hg vd (by rw [ha, hvd]; rfl) W g h)
  have K : RAt w w.heap.size r (w.alloc (.cells #[.bool false, .int .u8 (r.pr : Int), .int .u32 (r.sa : Int), .int .i64 r.sb, .int .u32 (r.da : Int), .int .i64 r.db, .int .u16 (r.sl : Int), .int .u16 (r.sh : Int), .int .u16 (r.dl : Int), .int .u16 (r.dh : Int)] 42)) := by
    have := RAt.box w r
    unfold cR at this
    rw [ha] at this
    exact this
  clear he ho hg hk h1 h2 h3 h4
  have HK0 := Lib.hid K
  have d0 := K.c0
  rw [ha] at d0
  have d1 := K.c1
  clear K
  have HVD := Lib.hid hvd
  clear hvd
  go_enter Tryd.func10, Tryd.ntmps10
  go_wp2_with fail
  go_at_call 14
  refine (HP.out _).mono ?_
  rintro e w1 ⟨rfl, hb⟩
  have HK1 := Lib.hid (HK0.out.next hb)
  have d2 := HK1.out.c2
  have d3 := HK1.out.c3
  clear hb d0 d1
  go_wp2_with fail
  go_at_call 18
  refine (HN1.out _ HK1.out.bel).mono ?_
  rintro e w2 ⟨rfl, hb⟩
  have HK2 := Lib.hid (HK1.out.next hb)
  have d4 := HK2.out.c4
  have d5 := HK2.out.c5
  clear hb d2 d3
  go_wp2_with fail
  go_at_call 18
  refine (HN2.out _ HK2.out.bel).mono ?_
  rintro e w3 ⟨rfl, hb⟩
  have HK3 := Lib.hid (HK2.out.next hb)
  have d6 := HK3.out.c6
  have d7 := HK3.out.c7
  have d8 := HK3.out.c8
  have d9 := HK3.out.c9
  clear hb d4 d5
  go_wp2_with fail
  refine wp_region_held_drew (S := (fun w' => w'.cell? ⟨w.heap.size, 6, none⟩ = some (.int .u16 (r.sl : Int)) ∧ w'.cell? ⟨w.heap.size, 7, none⟩ = some (.int .u16 (r.sh : Int)) ∧ w'.cell? ⟨w.heap.size, 8, none⟩ = some (.int .u16 (r.dl : Int)) ∧ w'.cell? ⟨w.heap.size, 9, none⟩ = some (.int .u16 (r.dh : Int)) ∧ Hid (RAt w w.heap.size r w'))) (by kernel_rfl) (sr_of HK3.out.drew) (fun hH => ?_)
  refine wpAnyH_take (i := 0) (oi := ⟨some 31, _, _, _, _, _⟩) (v := ?v1) rfl (by kernel_rfl) (by kernel_rfl) (by kernel_rfl) (fun _ _ _ h => h) (Or.inl ⟨rfl, ?c1⟩) hH ?r1
  case c1 => (intro w' _; go_simp; (try with_reducible rfl))
  try simp only [Act.put, List.setIfInBounds_toArray, List.set_cons_zero, List.set_cons_succ]
  refine wpAnyH_take (i := 1) (oi := ⟨some 32, _, _, _, _, _⟩) (v := ?v2) rfl (by kernel_rfl) (by kernel_rfl) (by kernel_rfl) (fun _ _ _ h => h) (Or.inl ⟨rfl, ?c2⟩) hH ?r2
  case c2 => (intro w' _; go_simp; (try with_reducible rfl))
  try simp only [Act.put, List.setIfInBounds_toArray, List.set_cons_zero, List.set_cons_succ]
  refine wpAnyH_take (i := 2) (oi := ⟨some 33, _, _, _, _, _⟩) (v := ?v3) rfl (by kernel_rfl) (by kernel_rfl) (by kernel_rfl) (fun _ _ _ h => h) (Or.inl ⟨rfl, ?c3⟩) hH ?r3
  case c3 => (intro w' _; go_simp; (try with_reducible rfl))
  try simp only [Act.put, List.setIfInBounds_toArray, List.set_cons_zero, List.set_cons_succ]
  refine wpAnyH_take (i := 3) (oi := ⟨some 34, _, _, _, _, _⟩) (v := ?v4) rfl (by kernel_rfl) (by kernel_rfl) (by kernel_rfl) (fun _ _ _ h => h) (Or.inl ⟨rfl, ?c4⟩) hH ?r4
  case c4 => (intro w' _; go_simp; (try with_reducible rfl))
  try simp only [Act.put, List.setIfInBounds_toArray, List.set_cons_zero, List.set_cons_succ]
  refine wpAnyH_take (i := 4) (oi := ⟨some 35, _, _, _, _, _⟩) (v := ?v5) rfl (by kernel_rfl) (by kernel_rfl) (by kernel_rfl) (fun _ _ _ h => h) (Or.inl ⟨rfl, ?c5⟩) hH ?r5
  case c5 => (intro w' hS; (try dsimp only at hS); go_simp; (try with_reducible rfl))
  try simp only [Act.put, List.setIfInBounds_toArray, List.set_cons_zero, List.set_cons_succ]
  refine wpAnyH_take (i := 6) (oi := ⟨some 37, _, _, _, _, _⟩) (v := ?v6) rfl (by kernel_rfl) (by kernel_rfl) (by kernel_rfl) (fun _ _ _ h => h) (Or.inl ⟨rfl, ?c6⟩) hH ?r6
  case c6 => (intro w' _; go_simp; (try with_reducible rfl))
  try simp only [Act.put, List.setIfInBounds_toArray, List.set_cons_zero, List.set_cons_succ]
  refine wpAnyH_take (i := 7) (oi := ⟨some 38, _, _, _, _, _⟩) (v := ?v7) rfl (by kernel_rfl) (by kernel_rfl) (by kernel_rfl) (fun _ _ _ h => h) (Or.inl ⟨rfl, ?c7⟩) hH ?r7
  case c7 => (intro w' _; go_simp; (try with_reducible rfl))
  try simp only [Act.put, List.setIfInBounds_toArray, List.set_cons_zero, List.set_cons_succ]
  refine wpAnyH_take (i := 8) (oi := ⟨some 39, _, _, _, _, _⟩) (v := ?v8) rfl (by kernel_rfl) (by kernel_rfl) (by kernel_rfl) (fun _ _ _ h => h) (Or.inl ⟨rfl, ?c8⟩) hH ?r8
  case c8 => (intro w' hS; (try dsimp only at hS); go_simp; (try with_reducible rfl))
  try simp only [Act.put, List.setIfInBounds_toArray, List.set_cons_zero, List.set_cons_succ]
  refine wpAnyH_ready (rs := [5]) (by kernel_rfl) (by simp) (AllReadyH.cons rfl (fun K hK => ?_) (AllReadyH.nil))
  go_simp
  go_at_call 19
  refine (HS1.out _ hH.2.2.2.2.out.bel).mono ?_
  rintro e w6 ⟨rfl, hb6⟩
  refine hK.out _ _ (sr_of (hH.2.2.2.2.out.next hb6)) (fun hH => ?_)
  clear hK K
  clear hb6
  try simp only [Act.put, List.setIfInBounds_toArray, List.set_cons_zero, List.set_cons_succ]
  refine wpAnyH_ready (rs := [9]) (by kernel_rfl) (by simp) (AllReadyH.cons rfl (fun K hK => ?_) (AllReadyH.nil))
  go_simp
  go_at_call 19
  refine (HS2.out _ hH.2.2.2.2.out.bel).mono ?_
  rintro e w7 ⟨rfl, hb7⟩
  refine hK.out _ _ (sr_of (hH.2.2.2.2.out.next hb7)) (fun hH => ?_)
  clear hK K
  clear hb7
  try simp only [Act.put, List.setIfInBounds_toArray, List.set_cons_zero, List.set_cons_succ]
  refine wpAnyH_ready (rs := [10]) (by kernel_rfl) (by simp) (AllReadyH.cons rfl (fun K hK => ?_) (AllReadyH.nil))
  go_simp
  have HSL := Lib.hid (Blk.box w7 (sixV r vd) 9)
  refine hK.out _ _ (sr_of (hH.2.2.2.2.out.next (below_box _ _))) (fun hH => ?_)
  clear hK K
  try simp only [Act.put, List.setIfInBounds_toArray, List.set_cons_zero, List.set_cons_succ]
  refine wpAnyH_take (i := 11) (oi := ⟨some 10, _, _, _, _, _⟩) (v := ?v9) rfl (by kernel_rfl) (by kernel_rfl) (by kernel_rfl) (fun _ _ _ h => h) (Or.inl ⟨rfl, ?c9⟩) hH ?r9
  case c9 => (intro w' _; go_simp; (try with_reducible rfl))
  try simp only [Act.put, List.setIfInBounds_toArray, List.set_cons_zero, List.set_cons_succ]
  refine wpAnyH_done (by kernel_rfl) ?_ _
  have hend := hH.2.2.2.2.out
  clear hH
  have HE2 := Lib.hid hend
  clear hend
  go_wp2_with fail
  go_at_call 20
  refine (HJ.out _ _ (by have h := HVD.out; subst h; exact HSL.out)).mono ?_
  rintro e w8 ⟨rfl, hb⟩
  have HK8 := Lib.hid (HE2.out.next hb)
  clear hb
  go_wp2_with fail
  go_ret
  exact ⟨rfl, HK8.out.bel⟩

theorem show_any (r : R) (ho : r.Ok) (hg : goodR r = true) (w : World) (he : Env w) :
    Calls Tryd.prog 10 #[.agg #[.bool r.acc, .int .u8 (r.pr : Int), .int .u32 (r.sa : Int), .int .i64 r.sb, .int .u32 (r.da : Int), .int .i64 r.db, .int .u16 (r.sl : Int), .int .u16 (r.sh : Int), .int .u16 (r.dl : Int), .int .u16 (r.dh : Int)]] w fun e w' => e = .returned (.string ⟨(lineR r).toArray⟩) ∧ Below w.heap.size w w' := by
  cases ha : r.acc with
  | true => have := show_true r ho hg w he ha _ rfl; rw [ha] at this; exact this
  | false => have := show_false r ho hg w he ha _ rfl; rw [ha] at this; exact this

end Ru
end Go.Proofs.YtfbbkbjiaopnkaaDoor
