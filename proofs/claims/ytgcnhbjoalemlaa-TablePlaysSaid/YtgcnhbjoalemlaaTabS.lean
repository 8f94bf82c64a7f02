/- Layer 20: the reference's Find, Put, Remove. (Written by wip/tools/mkTabS.py.) -/
import Derived.Test.YtgcnhbjoalemlaaJ32
set_option linter.unusedVariables false
set_option linter.unusedSimpArgs false
set_option maxRecDepth 100000
namespace Go.Proofs.Ytgcnhbjoalemlaa
open Go.ChangeShapes Go.WideShapes Go.ChangeAt Go.RowKit Go.Mtl Go.Lib
namespace Tb
open TabM
open KeyM (isPow hashN strN)
open MemM (Ms holdV touchS)
open Me (ptr)
namespace R
theorem flow_info : (Try.prog.info? 96).map (fun i => (i.zero, i.size, i.bytes)) = some (some (.agg #[.int .u32 0, .int .u32 0, .int .u16 0, .int .u16 0, .int .u8 0, .int .i64 0, .bool false]), 7, 32) := by kernel_rfl
theorem lit7 (w : World) : ((w.alloc (.cells #[] 96)).drew).ownsRow w.heap.size 96 7 (.slice (some ⟨w.heap.size, 0, none⟩) 0 0) 0 [] :=
  row_keep (World.ownsRow_made w #[] 0 (Nat.le_refl _) (by unfold maxLen; omega) (by simp)) (fun _ _ => rfl)
theorem g7_one {f : Fl} : ∀ u ∈ g7 f, u.oneCell' = true := by
  intro u h
  simp [g7] at h
  rcases h with rfl | rfl | rfl | rfl | rfl | rfl | rfl <;> rfl
theorem rd_one (w : World) (f : Fl) : Rd (w.alloc (.cells (g7 f).toArray 96)) (w.alloc (.cells (g7 f).toArray 96)).heap.size 7 1 (.slice (some ⟨w.heap.size, 0, none⟩) 1 1) (g7 f) :=
  ⟨_, 1, rfl, Nat.le_refl _, by omega, rfl, fun _ => ⟨w.heap.size, 0, rfl, by rw [World.size_alloc]; omega, fun j u hu => by
    rw [cell_of_row _ _ _ _ 96 (0, 0) (heap_alloc_new w _), List.getElem?_toArray, Nat.zero_add]; exact hu⟩⟩
/-- A flow that is there, at its place: dropped, put. -/
theorem at_rank {fs : List Fl} (h : Oks fs) {k : AutM.Ke} {f : Fl} (hf : find k fs = some f) : fs.take (rank k fs) ++ fs.drop (rank k fs + 1) = drop k fs ∧ ∀ g : Fl, g.k = k → fs.take (rank k fs) ++ g :: fs.drop (rank k fs + 1) = put g fs := by
  have hr := find_rank h hf
  obtain ⟨xs, ys, e, hx, hd, hp, -⟩ := h.split hf
  have hl : rank k fs = xs.length := by
    have h2 : fs[xs.length]? = some f := by rw [e]; simp
    obtain ⟨a1, b1⟩ := List.getElem?_eq_some_iff.1 hr
    obtain ⟨a2, b2⟩ := List.getElem?_eq_some_iff.1 h2
    have hs := h.srt
    unfold Srt at hs
    rcases Nat.lt_trichotomy (rank k fs) xs.length with c | c | c
    · have := List.pairwise_iff_getElem.1 hs _ xs.length a1 a2 c
      rw [b1, b2] at this; omega
    · exact c
    · have := List.pairwise_iff_getElem.1 hs xs.length _ a2 a1 c
      rw [b1, b2] at this; omega
  rw [hl]
  constructor
  · rw [hd, e]
    simp
  · intro g hg
    rw [hp g hg, e]
    simp
theorem mayV_at {ms : Ms} {n i : Nat} {t : Int} (hi : i < n) (b : Bool) (hh : heldB ms t (i : Int) = b) : mayV ms n t (i : Int) = if b then 0 else 13 := by
  unfold mayV
  rw [if_neg (by omega), hh]
section
variable {w : Fw} {W : World} {Om Ot : Nat → Prop} {mb B : Nat} {ms : Ms} {n : Nat} {fs : List Fl}
set_option maxHeartbeats 2000000 in
theorem find_no (H : RM w Om Ot mb B ms n fs W) (t : Int) (k : AutM.Ke) (hk : k.Ok) (i : Nat) (hi : sOf n k = i) (hh : heldB ms t (i : Int) = false) :
    Calls Try.prog 23 #[ptr B, .int .i64 t, Au.kyV k] W (Ud w mb B (.tuple #[.int .i64 0, .bool false, .bool false, .int .i64 13]) ms n fs) := by
  have HX := Lib.hid (Blk.box W (Ky.kyc k.a k.b k.p k.q k.r) 37)
  have H1 := Lib.hid (H.next (below_box W (.cells (Ky.kyc k.a k.b k.p k.q k.r) 37)))
  have hin : i < n := by have := sOf_lt (n := n) (by have := H.tab.pos; omega) k; omega
  have HMV : Hid (mayV ms n t (i : Int) = 13) := mayV_at hin _ hh
  have HI := Lib.hid hi
  have HKO := Lib.hid hk
  have HKT : Hid (¬ Ot W.heap.size) := fun e => Nat.lt_irrefl _ (H.tab.lt_ _ e)
  have HKM : Hid (¬ Om W.heap.size) := fun e => Nat.lt_irrefl _ (H.mem.lt _ e)
  clear H hk hi hh
  go_enter Try.func23, Try.ntmps23
  go_wp2_with fail
  obtain ⟨gk, hgk⟩ : ∃ g, W.heap.size = g := ⟨_, rfl⟩
  obtain ⟨w1, hw1⟩ : ∃ v, W.alloc (.cells (Ky.kyc k.a k.b k.p k.q k.r) 37) = v := ⟨_, rfl⟩
  rw [hw1] at HX H1 ⊢
  rw [hgk] at HX HKT HKM ⊢
  clear hw1 hgk
  go_at_call 39
  refine (of_any H1.out k HKO.out i HI.out).mono ?_
  rintro e w2 ⟨rfl, hb⟩
  have H2 := Lib.hid (H1.out.next hb)
  have HX2 := Lib.hid (HX.out.next hb)
  clear hb H1 HX
  go_wp2_with fail
  go_at_call 38
  refine (may_any H2.out t (i : Int)).mono ?_
  rw [HMV.out]
  rintro e w2 ⟨rfl, rfl⟩
  go_wp2_with fail
  (try simp only [Exit.inBlock, Exit.then])
  refine bodyPost_ret (results_four rfl _ _ _) rfl ?_
  exact ⟨_, _, rfl, H2.out⟩
set_option maxHeartbeats 2000000 in
theorem put_no (H : RM w Om Ot mb B ms n fs W) (t : Int) (k : AutM.Ke) (hk : k.Ok) (x : Int) (d : Bool) (i : Nat) (hi : sOf n k = i) (hh : heldB ms t (i : Int) = false) :
    Calls Try.prog 16 #[ptr B, .int .i64 t, Au.kyV k, .int .i64 x, .bool d] W (Ud w mb B (.int .i64 13) ms n fs) := by
  have HX := Lib.hid (Blk.box W (Ky.kyc k.a k.b k.p k.q k.r) 37)
  have H1 := Lib.hid (H.next (below_box W (.cells (Ky.kyc k.a k.b k.p k.q k.r) 37)))
  have hin : i < n := by have := sOf_lt (n := n) (by have := H.tab.pos; omega) k; omega
  have HMV : Hid (mayV ms n t (i : Int) = 13) := mayV_at hin _ hh
  have HI := Lib.hid hi
  have HKO := Lib.hid hk
  have HKT : Hid (¬ Ot W.heap.size) := fun e => Nat.lt_irrefl _ (H.tab.lt_ _ e)
  have HKM : Hid (¬ Om W.heap.size) := fun e => Nat.lt_irrefl _ (H.mem.lt _ e)
  clear H hk hi hh
  go_enter Try.func16, Try.ntmps16
  go_wp2_with fail
  obtain ⟨gk, hgk⟩ : ∃ g, W.heap.size = g := ⟨_, rfl⟩
  obtain ⟨w1, hw1⟩ : ∃ v, W.alloc (.cells (Ky.kyc k.a k.b k.p k.q k.r) 37) = v := ⟨_, rfl⟩
  rw [hw1] at HX H1 ⊢
  rw [hgk] at HX HKT HKM ⊢
  clear hw1 hgk
  go_at_call 39
  refine (of_any H1.out k HKO.out i HI.out).mono ?_
  rintro e w2 ⟨rfl, hb⟩
  have H2 := Lib.hid (H1.out.next hb)
  have HX2 := Lib.hid (HX.out.next hb)
  clear hb H1 HX
  go_wp2_with fail
  go_at_call 38
  refine (may_any H2.out t (i : Int)).mono ?_
  rw [HMV.out]
  rintro e w2 ⟨rfl, rfl⟩
  go_wp2_with fail
  go_ret
  exact ⟨_, _, rfl, H2.out⟩
set_option maxHeartbeats 2000000 in
theorem remove_no (H : RM w Om Ot mb B ms n fs W) (t : Int) (k : AutM.Ke) (hk : k.Ok) (i : Nat) (hi : sOf n k = i) (hh : heldB ms t (i : Int) = false) :
    Calls Try.prog 18 #[ptr B, .int .i64 t, Au.kyV k] W (Ud w mb B (.int .i64 13) ms n fs) := by
  have HX := Lib.hid (Blk.box W (Ky.kyc k.a k.b k.p k.q k.r) 37)
  have H1 := Lib.hid (H.next (below_box W (.cells (Ky.kyc k.a k.b k.p k.q k.r) 37)))
  have hin : i < n := by have := sOf_lt (n := n) (by have := H.tab.pos; omega) k; omega
  have HMV : Hid (mayV ms n t (i : Int) = 13) := mayV_at hin _ hh
  have HI := Lib.hid hi
  have HKO := Lib.hid hk
  have HKT : Hid (¬ Ot W.heap.size) := fun e => Nat.lt_irrefl _ (H.tab.lt_ _ e)
  have HKM : Hid (¬ Om W.heap.size) := fun e => Nat.lt_irrefl _ (H.mem.lt _ e)
  clear H hk hi hh
  go_enter Try.func18, Try.ntmps18
  go_wp2_with fail
  obtain ⟨gk, hgk⟩ : ∃ g, W.heap.size = g := ⟨_, rfl⟩
  obtain ⟨w1, hw1⟩ : ∃ v, W.alloc (.cells (Ky.kyc k.a k.b k.p k.q k.r) 37) = v := ⟨_, rfl⟩
  rw [hw1] at HX H1 ⊢
  rw [hgk] at HX HKT HKM ⊢
  clear hw1 hgk
  go_at_call 39
  refine (of_any H1.out k HKO.out i HI.out).mono ?_
  rintro e w2 ⟨rfl, hb⟩
  have H2 := Lib.hid (H1.out.next hb)
  have HX2 := Lib.hid (HX.out.next hb)
  clear hb H1 HX
  go_wp2_with fail
  go_at_call 38
  refine (may_any H2.out t (i : Int)).mono ?_
  rw [HMV.out]
  rintro e w2 ⟨rfl, rfl⟩
  go_wp2_with fail
  go_ret
  exact ⟨_, _, rfl, H2.out⟩
set_option maxHeartbeats 4000000 in
theorem find_yes (H : RM w Om Ot mb B ms n fs W) (hl : ms.ls.length ≤ 1000000000000) (hfl : fs.length ≤ 100000) (t : Int) (k : AutM.Ke) (hk : k.Ok) (x : Int) (d b : Bool) (i : Nat) (hi : sOf n k = i) (hh : heldB ms t (i : Int) = true) (hf : (∃ f, find k fs = some f ∧ x = f.x ∧ d = f.dn ∧ b = true) ∨ (find k fs = none ∧ x = 0 ∧ d = false ∧ b = false)) :
    Calls Try.prog 23 #[ptr B, .int .i64 t, Au.kyV k] W (Ud w mb B (.tuple #[.int .i64 x, .bool d, .bool b, .int .i64 0]) (touchS ms t 5 (i : Int)) n fs) := by
  have HX := Lib.hid (Blk.box W (Ky.kyc k.a k.b k.p k.q k.r) 37)
  have H1 := Lib.hid (H.next (below_box W (.cells (Ky.kyc k.a k.b k.p k.q k.r) 37)))
  have hin : i < n := by have := sOf_lt (n := n) (by have := H.tab.pos; omega) k; omega
  have HMV : Hid (mayV ms n t (i : Int) = 0) := mayV_at hin _ hh
  have HI := Lib.hid hi
  have HKO := Lib.hid hk
  have HKT : Hid (¬ Ot W.heap.size) := fun e => Nat.lt_irrefl _ (H.tab.lt_ _ e)
  have HKM : Hid (¬ Om W.heap.size) := fun e => Nat.lt_irrefl _ (H.mem.lt _ e)
  have HLN := Lib.hid hl
  have HFL := Lib.hid hfl
  obtain ⟨r, hr⟩ : ∃ r, rank k fs = r := ⟨_, rfl⟩
  have HRK := Lib.hid hr
  have HOF := Lib.hid H.tab.2.1
  have HFB : Hid ((find k fs).isSome = b) := by show _ = _; rcases hf with ⟨f, hf, -, -, rfl⟩ | ⟨hf, -, -, rfl⟩ <;> rw [hf] <;> rfl
  clear hl hfl hr
  clear H hk hi hh
  go_enter Try.func23, Try.ntmps23
  go_wp2_with fail
  obtain ⟨gk, hgk⟩ : ∃ g, W.heap.size = g := ⟨_, rfl⟩
  obtain ⟨w1, hw1⟩ : ∃ v, W.alloc (.cells (Ky.kyc k.a k.b k.p k.q k.r) 37) = v := ⟨_, rfl⟩
  rw [hw1] at HX H1 ⊢
  rw [hgk] at HX HKT HKM ⊢
  clear hw1 hgk
  go_at_call 39
  refine (of_any H1.out k HKO.out i HI.out).mono ?_
  rintro e w2 ⟨rfl, hb⟩
  have H2 := Lib.hid (H1.out.next hb)
  have HX2 := Lib.hid (HX.out.next hb)
  clear hb H1 HX
  go_wp2_with fail
  go_at_call 38
  refine (may_any H2.out t (i : Int)).mono ?_
  rw [HMV.out]
  rintro e w2 ⟨rfl, rfl⟩
  go_wp2_with fail
  obtain ⟨⟨vf, hru⟩, _⟩ := H2.out.tab
  have hc0 := hru.blk.cell 0 _ rfl
  have HB0 := Lib.hid hru.ob
  have HBL := Lib.hid (hru.lt _ hru.ob)
  clear hru
  replace H2 := Lib.hid (H2.out.next (Below.refl _ w2).drew)
  have HX2d := Lib.hid HX2.out.drew
  refine wp_region_held_drew (S := fun w' => w'.cell? ⟨B, 0, none⟩ = some (ptr mb) ∧ Blk w' gk (Ky.kyc k.a k.b k.p k.q k.r) 37) (by kernel_rfl) (⟨hc0, HX2.out.drew⟩) (fun hH => ?_)
  refine wpAnyH_take (i := 0) (oi := ⟨some 22, _, _, _, _, _⟩) (v := ?v1) rfl (by kernel_rfl) (by kernel_rfl) (by kernel_rfl) (fun _ _ _ h => h) (Or.inl ⟨rfl, ?c1⟩) hH ?r1
  case c1 => (intro w' _; go_simp; (try with_reducible rfl))
  try simp only [Act.put, List.setIfInBounds_toArray, List.set_cons_zero, List.set_cons_succ]
  refine wpAnyH_take (i := 1) (oi := ⟨some 23, _, _, _, _, _⟩) (v := ?v2) rfl (by kernel_rfl) (by kernel_rfl) (by kernel_rfl) (fun _ _ _ h => h) (Or.inl ⟨rfl, ?c2⟩) hH ?r2
  case c2 => (intro w' _; go_simp; (try with_reducible rfl))
  try simp only [Act.put, List.setIfInBounds_toArray, List.set_cons_zero, List.set_cons_succ]
  refine wpAnyH_take (i := 2) (oi := ⟨some 24, _, _, _, _, _⟩) (v := ?v3) rfl (by kernel_rfl) (by kernel_rfl) (by kernel_rfl) (fun _ _ _ h => h) (Or.inl ⟨rfl, ?c3⟩) hH ?r3
  case c3 => (intro w' _; go_simp; (try with_reducible rfl))
  try simp only [Act.put, List.setIfInBounds_toArray, List.set_cons_zero, List.set_cons_succ]
  refine wpAnyH_take (i := 3) (oi := ⟨some 25, _, _, _, _, _⟩) (v := ?v4) rfl (by kernel_rfl) (by kernel_rfl) (by kernel_rfl) (fun _ _ _ h => h) (Or.inl ⟨rfl, ?c4⟩) hH ?r4
  case c4 => (intro w' hS; have c0 := hS.1; go_simp; (try with_reducible rfl))
  try simp only [Act.put, List.setIfInBounds_toArray, List.set_cons_zero, List.set_cons_succ]
  refine wpAnyH_take (i := 4) (oi := ⟨some 26, _, _, _, _, _⟩) (v := ?v5) rfl (by kernel_rfl) (by kernel_rfl) (by kernel_rfl) (fun _ _ _ h => h) (Or.inl ⟨rfl, ?c5⟩) hH ?r5
  case c5 => (intro w' _; go_simp; (try with_reducible rfl))
  try simp only [Act.put, List.setIfInBounds_toArray, List.set_cons_zero, List.set_cons_succ]
  refine wpAnyH_take (i := 5) (oi := ⟨some 27, _, _, _, _, _⟩) (v := ?v6) rfl (by kernel_rfl) (by kernel_rfl) (by kernel_rfl) (fun _ _ _ h => h) (Or.inl ⟨rfl, ?c6⟩) hH ?r6
  case c6 => (intro w' _; go_simp; (try with_reducible rfl))
  try simp only [Act.put, List.setIfInBounds_toArray, List.set_cons_zero, List.set_cons_succ]
  refine wpAnyH_take (i := 6) (oi := ⟨some 28, _, _, _, _, _⟩) (v := ?v7) rfl (by kernel_rfl) (by kernel_rfl) (by kernel_rfl) (fun _ _ _ h => h) (Or.inl ⟨rfl, ?c7⟩) hH ?r7
  case c7 => (intro w' hS; obtain ⟨x0, x1, x2, x3, x4⟩ := Ky.ky_cells hS.2; go_simp; (try with_reducible rfl))
  try simp only [Act.put, List.setIfInBounds_toArray, List.set_cons_zero, List.set_cons_succ]
  refine wpAnyH_ready (rs := [7]) (by kernel_rfl) (by simp) (AllReadyH.cons rfl (fun K hK => ?_) (AllReadyH.nil))
  go_simp
  go_at_call 39
  refine (of_any H2.out k HKO.out i HI.out).mono ?_
  rintro e w4 ⟨rfl, hb⟩
  have H4 := Lib.hid (H2.out.next hb)
  refine hK.out _ _ (⟨(hb.cell (p := ⟨B, 0, none⟩) HBL.out).trans hH.1, hH.2.next hb⟩) (fun hH => ?_)
  clear hK K
  clear hb H2
  try simp only [Act.put, List.setIfInBounds_toArray, List.set_cons_zero, List.set_cons_succ]
  refine wpAnyH_ready (rs := [8]) (by kernel_rfl) (by simp) (AllReadyH.cons rfl (fun K hK => ?_) (AllReadyH.nil))
  go_simp
  go_at_call 40
  refine (Me.refTouch_any H4.out.mem t 5 (i : Int) HLN.out).mono ?_
  rintro e w5 ⟨Om2, rfl, hp, ho, hO⟩
  have H5 := Lib.hid (H4.out.left hp ho hO)
  refine hK.out _ _ (⟨(ho.cell (p := ⟨B, 0, none⟩) (H4.out.tab.lt_ _ HB0.out) (fun e => H4.out.dis _ e HB0.out)).trans hH.1, hH.2.only ho HKM.out⟩) (fun hH => ?_)
  clear hK K
  clear hp ho hO H4
  try simp only [Act.put, List.setIfInBounds_toArray, List.set_cons_zero, List.set_cons_succ]
  refine wpAnyH_done (by kernel_rfl) ?_ _
  have HX5 := Lib.hid hH.2
  clear hH hc0 HX2 HX2d
  obtain ⟨x0, x1, x2, x3, x4⟩ := Ky.ky_cells HX5.out
  go_wp2_with fail
  clear x0 x1 x2 x3 x4
  go_at_call 41
  refine (place_any H5.out k HKO.out HFL.out r HRK.out b HFB.out).mono ?_
  rintro e w6 ⟨rfl, hb⟩
  have H6 := Lib.hid (H5.out.next hb)
  have HX6 := Lib.hid (HX5.out.next hb)
  clear hb H5 HX5
  obtain ⟨⟨vf, hru⟩, hok, hpw⟩ := H6.out.tab
  obtain ⟨A, c, rfl, hlc, hcm⟩ := hru.len
  obtain ⟨L, hL⟩ : ∃ L, fs.length = L := ⟨_, rfl⟩
  rw [hL] at hru hlc
  have HLE := Lib.hid hL
  have HRU := Lib.hid hru
  have HOK := Lib.hid hok
  have HPW := Lib.hid hpw
  clear hru hok hpw hL
  rcases hf with ⟨f, hf, rfl, rfl, rfl⟩ | ⟨hf, rfl, rfl, rfl⟩
  · have hfi := find_rank HOF.out hf
    rw [HRK.out] at hfi
    have hrl : r < L := by have := (List.getElem?_eq_some_iff.1 hfi).1; rw [HLE.out] at this; exact this
    obtain ⟨gf, c', ev, -⟩ := HRU.out.flow hfi
    injection ev with ev e2 e3
    clear e2 e3
    subst ev
    have HFI := Lib.hid hfi
    clear hf hfi
    go_wp2_with fail
    refine wp_region_held_drew (S := fun w' => Hid (Below w6.heap.size w6 w')) (by kernel_rfl) (Lib.hid (Below.refl _ w6).drew) (fun hH => ?_)
    refine wpAnyH_take (i := 0) (oi := ⟨some 39, _, _, _, _, _⟩) (v := ?v301) rfl (by kernel_rfl) (by kernel_rfl) (by kernel_rfl) (fun _ _ _ h => h) (Or.inl ⟨rfl, ?c301⟩) hH ?r301
    case c301 => (intro w' _; go_simp; (try with_reducible rfl))
    try simp only [Act.put, List.setIfInBounds_toArray, List.set_cons_zero, List.set_cons_succ]
    refine wpAnyH_take (i := 1) (oi := ⟨some 40, _, _, _, _, _⟩) (v := ?v302) rfl (by kernel_rfl) (by kernel_rfl) (by kernel_rfl) (fun _ _ _ h => h) (Or.inl ⟨rfl, ?c302⟩) hH ?r302
    case c302 => (intro w' _; go_simp; (try with_reducible rfl))
    try simp only [Act.put, List.setIfInBounds_toArray, List.set_cons_zero, List.set_cons_succ]
    refine wpAnyH_take (i := 2) (oi := ⟨some 41, _, _, _, _, _⟩) (v := ?v303) rfl (by kernel_rfl) (by kernel_rfl) (by kernel_rfl) (fun _ _ _ h => h) (Or.inl ⟨rfl, ?c303⟩) hH ?r303
    case c303 => (intro w' _; go_simp; (try with_reducible rfl))
    try simp only [Act.put, List.setIfInBounds_toArray, List.set_cons_zero, List.set_cons_succ]
    refine wpAnyH_take (i := 3) (oi := ⟨some 42, _, _, _, _, _⟩) (v := ?v304) rfl (by kernel_rfl) (by kernel_rfl) (by kernel_rfl) (fun _ _ _ h => h) (Or.inl ⟨rfl, ?c304⟩) hH ?r304
    case c304 => (intro w' hS; have c2 := (HRU.out.next hS.out).blk.cell 2 _ rfl; go_simp; (try with_reducible rfl))
    try simp only [Act.put, List.setIfInBounds_toArray, List.set_cons_zero, List.set_cons_succ]
    refine wpAnyH_take (i := 4) (oi := ⟨some 43, _, _, _, _, _⟩) (v := ?v305) rfl (by kernel_rfl) (by kernel_rfl) (by kernel_rfl) (fun _ _ _ h => h) (Or.inl ⟨rfl, ?c305⟩) hH ?r305
    case c305 => (intro w' _; go_simp; (try with_reducible rfl))
    try simp only [Act.put, List.setIfInBounds_toArray, List.set_cons_zero, List.set_cons_succ]
    refine wpAnyH_take (i := 5) (oi := ⟨some 44, _, _, _, _, _⟩) (v := ?v306) rfl (by kernel_rfl) (by kernel_rfl) (by kernel_rfl) (fun _ _ _ h => h) (Or.inl ⟨rfl, ?c306⟩) hH ?r306
    case c306 => (intro w' hS; have hv := hrl; go_simp; (try with_reducible rfl))
    try simp only [Act.put, List.setIfInBounds_toArray, List.set_cons_zero, List.set_cons_succ]
    refine wpAnyH_take (i := 6) (oi := ⟨some 45, _, _, _, _, _⟩) (v := ?v307) rfl (by kernel_rfl) (by kernel_rfl) (by kernel_rfl) (fun _ _ _ h => h) (Or.inl ⟨rfl, ?c307⟩) hH ?r307
    case c307 => (intro w' _; go_simp; (try with_reducible rfl))
    try simp only [Act.put, List.setIfInBounds_toArray, List.set_cons_zero, List.set_cons_succ]
    refine wpAnyH_take (i := 7) (oi := ⟨some 46, _, _, _, _, _⟩) (v := ?v308) rfl (by kernel_rfl) (by kernel_rfl) (by kernel_rfl) (fun _ _ _ h => h) (Or.inl ⟨rfl, ?c308⟩) hH ?r308
    case c308 => (intro w' hS; obtain ⟨-, -, -, -, -, y5, y6⟩ := (HRU.out.next hS.out).cells_ HFI.out; go_simp; (try with_reducible rfl))
    try simp only [Act.put, List.setIfInBounds_toArray, List.set_cons_zero, List.set_cons_succ]
    refine wpAnyH_take (i := 8) (oi := ⟨some 47, _, _, _, _, _⟩) (v := ?v309) rfl (by kernel_rfl) (by kernel_rfl) (by kernel_rfl) (fun _ _ _ h => h) (Or.inl ⟨rfl, ?c309⟩) hH ?r309
    case c309 => (intro w' _; go_simp; (try with_reducible rfl))
    try simp only [Act.put, List.setIfInBounds_toArray, List.set_cons_zero, List.set_cons_succ]
    refine wpAnyH_take (i := 9) (oi := ⟨some 48, _, _, _, _, _⟩) (v := ?v310) rfl (by kernel_rfl) (by kernel_rfl) (by kernel_rfl) (fun _ _ _ h => h) (Or.inl ⟨rfl, ?c310⟩) hH ?r310
    case c310 => (intro w' _; go_simp; (try with_reducible rfl))
    try simp only [Act.put, List.setIfInBounds_toArray, List.set_cons_zero, List.set_cons_succ]
    refine wpAnyH_take (i := 10) (oi := ⟨some 49, _, _, _, _, _⟩) (v := ?v311) rfl (by kernel_rfl) (by kernel_rfl) (by kernel_rfl) (fun _ _ _ h => h) (Or.inl ⟨rfl, ?c311⟩) hH ?r311
    case c311 => (intro w' _; go_simp; (try with_reducible rfl))
    try simp only [Act.put, List.setIfInBounds_toArray, List.set_cons_zero, List.set_cons_succ]
    refine wpAnyH_take (i := 11) (oi := ⟨some 50, _, _, _, _, _⟩) (v := ?v312) rfl (by kernel_rfl) (by kernel_rfl) (by kernel_rfl) (fun _ _ _ h => h) (Or.inl ⟨rfl, ?c312⟩) hH ?r312
    case c312 => (intro w' hS; have c2 := (HRU.out.next hS.out).blk.cell 2 _ rfl; go_simp; (try with_reducible rfl))
    try simp only [Act.put, List.setIfInBounds_toArray, List.set_cons_zero, List.set_cons_succ]
    refine wpAnyH_take (i := 12) (oi := ⟨some 51, _, _, _, _, _⟩) (v := ?v313) rfl (by kernel_rfl) (by kernel_rfl) (by kernel_rfl) (fun _ _ _ h => h) (Or.inl ⟨rfl, ?c313⟩) hH ?r313
    case c313 => (intro w' _; go_simp; (try with_reducible rfl))
    try simp only [Act.put, List.setIfInBounds_toArray, List.set_cons_zero, List.set_cons_succ]
    refine wpAnyH_take (i := 13) (oi := ⟨some 52, _, _, _, _, _⟩) (v := ?v314) rfl (by kernel_rfl) (by kernel_rfl) (by kernel_rfl) (fun _ _ _ h => h) (Or.inl ⟨rfl, ?c314⟩) hH ?r314
    case c314 => (intro w' hS; have hv := hrl; go_simp; (try with_reducible rfl))
    try simp only [Act.put, List.setIfInBounds_toArray, List.set_cons_zero, List.set_cons_succ]
    refine wpAnyH_take (i := 14) (oi := ⟨some 53, _, _, _, _, _⟩) (v := ?v315) rfl (by kernel_rfl) (by kernel_rfl) (by kernel_rfl) (fun _ _ _ h => h) (Or.inl ⟨rfl, ?c315⟩) hH ?r315
    case c315 => (intro w' _; go_simp; (try with_reducible rfl))
    try simp only [Act.put, List.setIfInBounds_toArray, List.set_cons_zero, List.set_cons_succ]
    refine wpAnyH_take (i := 15) (oi := ⟨some 54, _, _, _, _, _⟩) (v := ?v316) rfl (by kernel_rfl) (by kernel_rfl) (by kernel_rfl) (fun _ _ _ h => h) (Or.inl ⟨rfl, ?c316⟩) hH ?r316
    case c316 => (intro w' hS; obtain ⟨-, -, -, -, -, y5, y6⟩ := (HRU.out.next hS.out).cells_ HFI.out; go_simp; (try with_reducible rfl))
    try simp only [Act.put, List.setIfInBounds_toArray, List.set_cons_zero, List.set_cons_succ]
    refine wpAnyH_take (i := 16) (oi := ⟨some 6, _, _, _, _, _⟩) (v := ?v317) rfl (by kernel_rfl) (by kernel_rfl) (by kernel_rfl) (fun _ _ _ h => h) (Or.inl ⟨rfl, ?c317⟩) hH ?r317
    case c317 => (intro w' _; go_simp; (try with_reducible rfl))
    try simp only [Act.put, List.setIfInBounds_toArray, List.set_cons_zero, List.set_cons_succ]
    refine wpAnyH_take (i := 17) (oi := ⟨some 7, _, _, _, _, _⟩) (v := ?v318) rfl (by kernel_rfl) (by kernel_rfl) (by kernel_rfl) (fun _ _ _ h => h) (Or.inl ⟨rfl, ?c318⟩) hH ?r318
    case c318 => (intro w' _; go_simp; (try with_reducible rfl))
    try simp only [Act.put, List.setIfInBounds_toArray, List.set_cons_zero, List.set_cons_succ]
    refine wpAnyH_take (i := 18) (oi := ⟨some 8, _, _, _, _, _⟩) (v := ?v319) rfl (by kernel_rfl) (by kernel_rfl) (by kernel_rfl) (fun _ _ _ h => h) (Or.inl ⟨rfl, ?c319⟩) hH ?r319
    case c319 => (intro w' _; go_simp; (try with_reducible rfl))
    try simp only [Act.put, List.setIfInBounds_toArray, List.set_cons_zero, List.set_cons_succ]
    refine wpAnyH_take (i := 19) (oi := ⟨some 9, _, _, _, _, _⟩) (v := ?v320) rfl (by kernel_rfl) (by kernel_rfl) (by kernel_rfl) (fun _ _ _ h => h) (Or.inl ⟨rfl, ?c320⟩) hH ?r320
    case c320 => (intro w' _; go_simp; (try with_reducible rfl))
    try simp only [Act.put, List.setIfInBounds_toArray, List.set_cons_zero, List.set_cons_succ]
    refine wpAnyH_done (by kernel_rfl) ?_ _
    have HR := Lib.hid (H6.out.next hH.out)
    clear hH
    go_wp2_with fail
    (try simp only [Exit.inBlock, Exit.then])
    refine bodyPost_ret (results_four rfl _ _ _) rfl ?_
    exact ⟨_, _, rfl, HR.out⟩
  · clear hf
    go_wp2_with fail
    (try simp only [Exit.inBlock, Exit.then])
    refine bodyPost_ret (results_four rfl _ _ _) rfl ?_
    exact ⟨_, _, rfl, H6.out⟩
set_option maxHeartbeats 4000000 in
theorem remove_yes (H : RM w Om Ot mb B ms n fs W) (hl : ms.ls.length ≤ 1000000000000) (hfl : fs.length ≤ 100000) (t : Int) (k : AutM.Ke) (hk : k.Ok) (b : Bool) (ve : Int) (i : Nat) (hi : sOf n k = i) (hh : heldB ms t (i : Int) = true) (hf : ((find k fs).isSome = true ∧ b = true ∧ ve = 0) ∨ (find k fs = none ∧ b = false ∧ ve = 15)) :
    Calls Try.prog 18 #[ptr B, .int .i64 t, Au.kyV k] W (Ud w mb B (.int .i64 ve) (touchS ms t 6 (i : Int)) n (drop k fs)) := by
  have HX := Lib.hid (Blk.box W (Ky.kyc k.a k.b k.p k.q k.r) 37)
  have H1 := Lib.hid (H.next (below_box W (.cells (Ky.kyc k.a k.b k.p k.q k.r) 37)))
  have hin : i < n := by have := sOf_lt (n := n) (by have := H.tab.pos; omega) k; omega
  have HMV : Hid (mayV ms n t (i : Int) = 0) := mayV_at hin _ hh
  have HI := Lib.hid hi
  have HKO := Lib.hid hk
  have HKT : Hid (¬ Ot W.heap.size) := fun e => Nat.lt_irrefl _ (H.tab.lt_ _ e)
  have HKM : Hid (¬ Om W.heap.size) := fun e => Nat.lt_irrefl _ (H.mem.lt _ e)
  have HLN := Lib.hid hl
  have HFL := Lib.hid hfl
  obtain ⟨r, hr⟩ : ∃ r, rank k fs = r := ⟨_, rfl⟩
  have HRK := Lib.hid hr
  have HOF := Lib.hid H.tab.2.1
  have HFB : Hid ((find k fs).isSome = b) := by show _ = _; rcases hf with ⟨hf, rfl, -⟩ | ⟨hf, rfl, -⟩ <;> rw [hf] <;> rfl
  clear hl hfl hr
  clear H hk hi hh
  go_enter Try.func18, Try.ntmps18
  go_wp2_with fail
  obtain ⟨gk, hgk⟩ : ∃ g, W.heap.size = g := ⟨_, rfl⟩
  obtain ⟨w1, hw1⟩ : ∃ v, W.alloc (.cells (Ky.kyc k.a k.b k.p k.q k.r) 37) = v := ⟨_, rfl⟩
  rw [hw1] at HX H1 ⊢
  rw [hgk] at HX HKT HKM ⊢
  clear hw1 hgk
  go_at_call 39
  refine (of_any H1.out k HKO.out i HI.out).mono ?_
  rintro e w2 ⟨rfl, hb⟩
  have H2 := Lib.hid (H1.out.next hb)
  have HX2 := Lib.hid (HX.out.next hb)
  clear hb H1 HX
  go_wp2_with fail
  go_at_call 38
  refine (may_any H2.out t (i : Int)).mono ?_
  rw [HMV.out]
  rintro e w2 ⟨rfl, rfl⟩
  go_wp2_with fail
  obtain ⟨⟨vf, hru⟩, _⟩ := H2.out.tab
  have hc0 := hru.blk.cell 0 _ rfl
  have HB0 := Lib.hid hru.ob
  have HBL := Lib.hid (hru.lt _ hru.ob)
  clear hru
  replace H2 := Lib.hid (H2.out.next (Below.refl _ w2).drew)
  have HX2d := Lib.hid HX2.out.drew
  refine wp_region_held_drew (S := fun w' => w'.cell? ⟨B, 0, none⟩ = some (ptr mb) ∧ Blk w' gk (Ky.kyc k.a k.b k.p k.q k.r) 37) (by kernel_rfl) (⟨hc0, HX2.out.drew⟩) (fun hH => ?_)
  refine wpAnyH_take (i := 0) (oi := ⟨some 19, _, _, _, _, _⟩) (v := ?v601) rfl (by kernel_rfl) (by kernel_rfl) (by kernel_rfl) (fun _ _ _ h => h) (Or.inl ⟨rfl, ?c601⟩) hH ?r601
  case c601 => (intro w' _; go_simp; (try with_reducible rfl))
  try simp only [Act.put, List.setIfInBounds_toArray, List.set_cons_zero, List.set_cons_succ]
  refine wpAnyH_take (i := 1) (oi := ⟨some 20, _, _, _, _, _⟩) (v := ?v602) rfl (by kernel_rfl) (by kernel_rfl) (by kernel_rfl) (fun _ _ _ h => h) (Or.inl ⟨rfl, ?c602⟩) hH ?r602
  case c602 => (intro w' _; go_simp; (try with_reducible rfl))
  try simp only [Act.put, List.setIfInBounds_toArray, List.set_cons_zero, List.set_cons_succ]
  refine wpAnyH_take (i := 2) (oi := ⟨some 21, _, _, _, _, _⟩) (v := ?v603) rfl (by kernel_rfl) (by kernel_rfl) (by kernel_rfl) (fun _ _ _ h => h) (Or.inl ⟨rfl, ?c603⟩) hH ?r603
  case c603 => (intro w' _; go_simp; (try with_reducible rfl))
  try simp only [Act.put, List.setIfInBounds_toArray, List.set_cons_zero, List.set_cons_succ]
  refine wpAnyH_take (i := 3) (oi := ⟨some 22, _, _, _, _, _⟩) (v := ?v604) rfl (by kernel_rfl) (by kernel_rfl) (by kernel_rfl) (fun _ _ _ h => h) (Or.inl ⟨rfl, ?c604⟩) hH ?r604
  case c604 => (intro w' hS; have c0 := hS.1; go_simp; (try with_reducible rfl))
  try simp only [Act.put, List.setIfInBounds_toArray, List.set_cons_zero, List.set_cons_succ]
  refine wpAnyH_take (i := 4) (oi := ⟨some 23, _, _, _, _, _⟩) (v := ?v605) rfl (by kernel_rfl) (by kernel_rfl) (by kernel_rfl) (fun _ _ _ h => h) (Or.inl ⟨rfl, ?c605⟩) hH ?r605
  case c605 => (intro w' _; go_simp; (try with_reducible rfl))
  try simp only [Act.put, List.setIfInBounds_toArray, List.set_cons_zero, List.set_cons_succ]
  refine wpAnyH_take (i := 5) (oi := ⟨some 24, _, _, _, _, _⟩) (v := ?v606) rfl (by kernel_rfl) (by kernel_rfl) (by kernel_rfl) (fun _ _ _ h => h) (Or.inl ⟨rfl, ?c606⟩) hH ?r606
  case c606 => (intro w' _; go_simp; (try with_reducible rfl))
  try simp only [Act.put, List.setIfInBounds_toArray, List.set_cons_zero, List.set_cons_succ]
  refine wpAnyH_take (i := 6) (oi := ⟨some 25, _, _, _, _, _⟩) (v := ?v607) rfl (by kernel_rfl) (by kernel_rfl) (by kernel_rfl) (fun _ _ _ h => h) (Or.inl ⟨rfl, ?c607⟩) hH ?r607
  case c607 => (intro w' hS; obtain ⟨x0, x1, x2, x3, x4⟩ := Ky.ky_cells hS.2; go_simp; (try with_reducible rfl))
  try simp only [Act.put, List.setIfInBounds_toArray, List.set_cons_zero, List.set_cons_succ]
  refine wpAnyH_ready (rs := [7]) (by kernel_rfl) (by simp) (AllReadyH.cons rfl (fun K hK => ?_) (AllReadyH.nil))
  go_simp
  go_at_call 39
  refine (of_any H2.out k HKO.out i HI.out).mono ?_
  rintro e w4 ⟨rfl, hb⟩
  have H4 := Lib.hid (H2.out.next hb)
  refine hK.out _ _ (⟨(hb.cell (p := ⟨B, 0, none⟩) HBL.out).trans hH.1, hH.2.next hb⟩) (fun hH => ?_)
  clear hK K
  clear hb H2
  try simp only [Act.put, List.setIfInBounds_toArray, List.set_cons_zero, List.set_cons_succ]
  refine wpAnyH_ready (rs := [8]) (by kernel_rfl) (by simp) (AllReadyH.cons rfl (fun K hK => ?_) (AllReadyH.nil))
  go_simp
  go_at_call 40
  refine (Me.refTouch_any H4.out.mem t 6 (i : Int) HLN.out).mono ?_
  rintro e w5 ⟨Om2, rfl, hp, ho, hO⟩
  have H5 := Lib.hid (H4.out.left hp ho hO)
  refine hK.out _ _ (⟨(ho.cell (p := ⟨B, 0, none⟩) (H4.out.tab.lt_ _ HB0.out) (fun e => H4.out.dis _ e HB0.out)).trans hH.1, hH.2.only ho HKM.out⟩) (fun hH => ?_)
  clear hK K
  clear hp ho hO H4
  try simp only [Act.put, List.setIfInBounds_toArray, List.set_cons_zero, List.set_cons_succ]
  refine wpAnyH_done (by kernel_rfl) ?_ _
  have HX5 := Lib.hid hH.2
  clear hH hc0 HX2 HX2d
  obtain ⟨x0, x1, x2, x3, x4⟩ := Ky.ky_cells HX5.out
  go_wp2_with fail
  clear x0 x1 x2 x3 x4
  go_at_call 41
  refine (place_any H5.out k HKO.out HFL.out r HRK.out b HFB.out).mono ?_
  rintro e w6 ⟨rfl, hb⟩
  have H6 := Lib.hid (H5.out.next hb)
  have HX6 := Lib.hid (HX5.out.next hb)
  clear hb H5 HX5
  obtain ⟨⟨vf, hru⟩, hok, hpw⟩ := H6.out.tab
  obtain ⟨A, c, rfl, hlc, hcm⟩ := hru.len
  obtain ⟨L, hL⟩ : ∃ L, fs.length = L := ⟨_, rfl⟩
  rw [hL] at hru hlc
  have HLE := Lib.hid hL
  have HRU := Lib.hid hru
  have HOK := Lib.hid hok
  have HPW := Lib.hid hpw
  clear hru hok hpw hL
  rcases hf with ⟨hf, rfl, rfl⟩ | ⟨hf, rfl, rfl⟩
  · obtain ⟨f, hf⟩ := Option.isSome_iff_exists.1 hf
    have hfi := find_rank HOF.out hf
    rw [HRK.out] at hfi
    have hrl1 : r < L := by have := (List.getElem?_eq_some_iff.1 hfi).1; rw [HLE.out] at this; exact this
    have hrl : r ≤ L := by omega
    have hat := (at_rank HOF.out hf).1
    rw [HRK.out] at hat
    have HFS := Lib.hid hat
    have HLD : Hid ((fs.take r ++ fs.drop (r + 1)).length = L - 1) := by show _ = _; rw [List.length_append, List.length_take, List.length_drop, HLE.out]; omega
    have hL5 : L ≤ 100000 := by rw [← HLE.out]; exact HFL.out
    obtain ⟨gf, c', ev, -⟩ := HRU.out.flow hfi
    injection ev with ev e2 e3
    clear e2 e3
    subst ev
    have HT : Hid (∀ W, Below w6.heap.size w6 W → Rd W W.heap.size 7 r (.slice (some ⟨gf, 0, none⟩) r c) (gvs (fs.take r))) := fun W h => by
      rw [gvs_take]
      have h2 := (HRU.out.next h).fr
      rw [HLE.out] at h2
      exact row_take h2 hrl
    have HD : Hid (∀ W, Below w6.heap.size w6 W → Rd W W.heap.size 7 (L - (r + 1)) (.slice (if c = r + 1 then some ⟨gf, 0, none⟩ else some ⟨gf, (r + 1) * 7, none⟩) (L - (r + 1)) (c - (r + 1))) (gvs (fs.drop (r + 1)))) := fun W h => by
      rw [gvs_drop]
      have h2 := (HRU.out.next h).fr
      rw [HLE.out] at h2
      refine row_drop h2 (by omega) fun hp b e => ?_
      injection e with e
      injection e with e
      subst e
      rw [if_neg (by omega)]
    have HIC : Hid (r ≤ c) := by show _ ≤ _; omega
    have HIC2 : Hid (0 ≤ (r : Int) + 1 ∧ (r : Int) + 1 ≤ (L : Int)) := ⟨by omega, by omega⟩
    have HW1 : Hid (IntKind.i64.wrap ((r : Int) + 1) = ((r + 1 : Nat) : Int)) := (IntWalk.i64_in _ (by omega)).trans (by omega)
    have hrc : r ≤ c := by omega
    have hrl2 : r + 1 ≤ L := by omega
    clear hf hfi hat
    go_wp2_with fail
    refine region_e (S := fun w' => Hid (Below w6.heap.size w6 w')) 19 (by kernel_rfl) (Lib.hid (Below.refl w6.heap.size w6).drew) (fun hH => ?_)
    refine anyE_take (i := 0) (oi := ⟨some 36, _, _, _, _, _⟩) (v := ?v301) rfl (by kernel_rfl) (by kernel_rfl) (by kernel_rfl) (by kernel_rfl) (fun _ _ _ h => h) (Or.inl ⟨rfl, ?c301⟩) hH ?r301
    case c301 => (intro w' _; go_simp; (try with_reducible rfl))
    try simp only [Act.put, List.setIfInBounds_toArray, List.set_cons_zero, List.set_cons_succ]
    refine anyE_take (i := 2) (oi := ⟨some 38, _, _, _, _, _⟩) (v := ?v302) rfl (by kernel_rfl) (by kernel_rfl) (by kernel_rfl) (by kernel_rfl) (fun _ _ _ h => h) (Or.inl ⟨rfl, ?c302⟩) hH ?r302
    case c302 => (intro w' _; go_simp; (try with_reducible rfl))
    try simp only [Act.put, List.setIfInBounds_toArray, List.set_cons_zero, List.set_cons_succ]
    refine anyE_take (i := 3) (oi := ⟨some 39, _, _, _, _, _⟩) (v := ?v303) rfl (by kernel_rfl) (by kernel_rfl) (by kernel_rfl) (by kernel_rfl) (fun _ _ _ h => h) (Or.inl ⟨rfl, ?c303⟩) hH ?r303
    case c303 => (intro w' _; go_simp; (try with_reducible rfl))
    try simp only [Act.put, List.setIfInBounds_toArray, List.set_cons_zero, List.set_cons_succ]
    refine anyE_take (i := 4) (oi := ⟨some 40, _, _, _, _, _⟩) (v := ?v304) rfl (by kernel_rfl) (by kernel_rfl) (by kernel_rfl) (by kernel_rfl) (fun _ _ _ h => h) (Or.inl ⟨rfl, ?c304⟩) hH ?r304
    case c304 => (intro w' _; go_simp; (try with_reducible rfl))
    try simp only [Act.put, List.setIfInBounds_toArray, List.set_cons_zero, List.set_cons_succ]
    refine anyE_take (i := 5) (oi := ⟨some 41, _, _, _, _, _⟩) (v := ?v305) rfl (by kernel_rfl) (by kernel_rfl) (by kernel_rfl) (by kernel_rfl) (fun _ _ _ h => h) (Or.inl ⟨rfl, ?c305⟩) hH ?r305
    case c305 => (intro w' hS; have c2 := (HRU.out.next hS.out).blk.cell 2 _ rfl; go_simp; (try with_reducible rfl))
    try simp only [Act.put, List.setIfInBounds_toArray, List.set_cons_zero, List.set_cons_succ]
    refine anyE_take (i := 6) (oi := ⟨some 42, _, _, _, _, _⟩) (v := ?v306) rfl (by kernel_rfl) (by kernel_rfl) (by kernel_rfl) (by kernel_rfl) (fun _ _ _ h => h) (Or.inl ⟨rfl, ?c306⟩) hH ?r306
    case c306 => (intro w' _; go_simp; (try with_reducible rfl))
    try simp only [Act.put, List.setIfInBounds_toArray, List.set_cons_zero, List.set_cons_succ]
    refine anyE_take (i := 7) (oi := ⟨some 43, _, _, _, _, _⟩) (v := ?v307) rfl (by kernel_rfl) (by kernel_rfl) (by kernel_rfl) (by kernel_rfl) (fun _ _ _ h => h) (Or.inl ⟨rfl, ?c307⟩) hH ?r307
    case c307 => (intro w' _; go_simp; (try rw [if_pos HIC.out]); (try with_reducible rfl))
    try simp only [Act.put, List.setIfInBounds_toArray, List.set_cons_zero, List.set_cons_succ]
    refine anyE_take (i := 9) (oi := ⟨some 45, _, _, _, _, _⟩) (v := ?v308) rfl (by kernel_rfl) (by kernel_rfl) (by kernel_rfl) (by kernel_rfl) (fun _ _ _ h => h) (Or.inl ⟨rfl, ?c308⟩) hH ?r308
    case c308 => (intro w' _; go_simp; (try with_reducible rfl))
    try simp only [Act.put, List.setIfInBounds_toArray, List.set_cons_zero, List.set_cons_succ]
    refine anyE_take (i := 10) (oi := ⟨some 46, _, _, _, _, _⟩) (v := ?v309) rfl (by kernel_rfl) (by kernel_rfl) (by kernel_rfl) (by kernel_rfl) (fun _ _ _ h => h) (Or.inl ⟨rfl, ?c309⟩) hH ?r309
    case c309 => (intro w' _; go_simp; (try with_reducible rfl))
    try simp only [Act.put, List.setIfInBounds_toArray, List.set_cons_zero, List.set_cons_succ]
    refine anyE_take (i := 11) (oi := ⟨some 47, _, _, _, _, _⟩) (v := ?v310) rfl (by kernel_rfl) (by kernel_rfl) (by kernel_rfl) (by kernel_rfl) (fun _ _ _ h => h) (Or.inl ⟨rfl, ?c310⟩) hH ?r310
    case c310 => (intro w' _; go_simp; (try with_reducible rfl))
    try simp only [Act.put, List.setIfInBounds_toArray, List.set_cons_zero, List.set_cons_succ]
    refine anyE_take (i := 12) (oi := ⟨some 48, _, _, _, _, _⟩) (v := ?v311) rfl (by kernel_rfl) (by kernel_rfl) (by kernel_rfl) (by kernel_rfl) (fun _ _ _ h => h) (Or.inl ⟨rfl, ?c311⟩) hH ?r311
    case c311 => (intro w' hS; have c2 := (HRU.out.next hS.out).blk.cell 2 _ rfl; go_simp; (try with_reducible rfl))
    try simp only [Act.put, List.setIfInBounds_toArray, List.set_cons_zero, List.set_cons_succ]
    refine anyE_take (i := 13) (oi := ⟨some 49, _, _, _, _, _⟩) (v := ?v312) rfl (by kernel_rfl) (by kernel_rfl) (by kernel_rfl) (by kernel_rfl) (fun _ _ _ h => h) (Or.inl ⟨rfl, ?c312⟩) hH ?r312
    case c312 => (intro w' _; go_simp; (try with_reducible rfl))
    try simp only [Act.put, List.setIfInBounds_toArray, List.set_cons_zero, List.set_cons_succ]
    refine anyE_take (i := 14) (oi := ⟨some 50, _, _, _, _, _⟩) (v := ?v313) rfl (by kernel_rfl) (by kernel_rfl) (by kernel_rfl) (by kernel_rfl) (fun _ _ _ h => h) (Or.inl ⟨rfl, ?c313⟩) hH ?r313
    case c313 => (intro w' _; go_simp; rw [HW1.out]; (try with_reducible rfl))
    try simp only [Act.put, List.setIfInBounds_toArray, List.set_cons_zero, List.set_cons_succ]
    refine anyE_take (i := 15) (oi := ⟨some 51, _, _, _, _, _⟩) (v := ?v314) rfl (by kernel_rfl) (by kernel_rfl) (by kernel_rfl) (by kernel_rfl) (fun _ _ _ h => h) (Or.inl ⟨rfl, ?c314⟩) hH ?r314
    case c314 => (intro w' _; go_simp; rw [if_pos HIC2.out]; (try with_reducible rfl))
    try simp only [Act.put, List.setIfInBounds_toArray, List.set_cons_zero, List.set_cons_succ]
    refine anyE_ready (rs := [1]) (by kernel_rfl) (by simp) (AllE.cons rfl (fun K hK => ?_) (AllE.nil))
    go_simp
    refine hK.out _ _ (Lib.hid ((Below.refl w6.heap.size w6).alloc (Nat.le_refl _) _).drew) (fun hH => ?_)
    clear hK K
    have HO : Hid (((w6.alloc (.cells #[] 96)).drew).ownsRow w6.heap.size 96 7 (.slice (some ⟨w6.heap.size, 0, none⟩) 0 0) 0 []) := lit7 w6
    generalize (w6.alloc (.cells #[] 96)).drew = w10 at hH HO ⊢
    try simp only [Act.put, List.setIfInBounds_toArray, List.set_cons_zero, List.set_cons_succ]
    refine anyE_ready (rs := [8]) (by kernel_rfl) (by simp) (AllE.cons rfl (fun K hK => ?_) (AllE.nil))
    refine step_append_rd rfl (.tmp 37) (.tmp 43) 80 96 rfl Try.underlying80 _ 7 32 flow_info rfl (by omega) (by omega) w6 hH.out _ 0 [] rfl HO.out _ r _ (gvs (fs.take r)) rfl (HT.out _ hH.out) (gvs_one _) r (by omega) (by omega) ?_
    intro A2 c3 w11 ho11 hb11 hg11
    change K (Act.put _ (some 44) _) _
    refine hK.out _ _ (hb11) (fun hH => ?_)
    clear hK K
    clear HO hg11 hb11
    try simp only [Act.put, List.setIfInBounds_toArray, List.set_cons_zero, List.set_cons_succ]
    refine anyE_ready (rs := [16]) (by kernel_rfl) (by simp) (AllE.cons rfl (fun K hK => ?_) (AllE.nil))
    refine step_append_rd rfl (.tmp 44) (.tmp 51) 80 96 rfl Try.underlying80 _ 7 32 flow_info rfl (by omega) (by omega) w6 hH.out _ r ([] ++ gvs (fs.take r)) rfl ho11.out _ (L - (r + 1)) _ (gvs (fs.drop (r + 1))) rfl (HD.out _ hH.out) (gvs_one _) (L - 1) (by omega) (by omega) ?_
    intro A5 c5 w12 ho12 hb12 hg12
    change K (Act.put _ (some 52) _) _
    refine hK.out _ _ (hb12) (fun hH => ?_)
    clear hK K
    clear ho11 hg12 hb12
    try simp only [Act.put, List.setIfInBounds_toArray, List.set_cons_zero, List.set_cons_succ]
    refine anyE_ready (rs := [17]) (by kernel_rfl) (by simp) (AllE.cons rfl (fun K hK => ?_) (AllE.nil))
    go_simp
    refine hK.out _ _ (hH) (fun hH => ?_)
    clear hK K
    try simp only [Act.put, List.setIfInBounds_toArray, List.set_cons_zero, List.set_cons_succ]
    refine anyE_take (i := 18) (oi := ⟨some 54, _, _, _, _, _⟩) (v := ?v315) rfl (by kernel_rfl) (by kernel_rfl) (by kernel_rfl) (by kernel_rfl) (fun _ _ _ h => h) (Or.inl ⟨rfl, ?c315⟩) hH ?r315
    case c315 => (intro w' _; go_simp; (try with_reducible rfl))
    try simp only [Act.put, List.setIfInBounds_toArray, List.set_cons_zero, List.set_cons_succ]
    refine anyE_ready (rs := [19]) (by kernel_rfl) (by simp) (AllE.end_ rfl (fun K hK => ?_))
    have x2 := (HRU.out.next hH.out).blk.cell 2 _ rfl
    have f2 := (HRU.out.next hH.out).blk.frozen 2
    go_simp
    clear x2 f2
    refine hK.out _ _ ?_
    clear hK K
    try simp only [Act.put, List.setIfInBounds_toArray, List.set_cons_zero, List.set_cons_succ]
    refine anyE_done (by kernel_rfl) ?_ _
    obtain ⟨hR, hO⟩ := HRU.out.flows hH.out (fs' := drop k fs) (vf' := .slice A5 (L - 1) c5) (by rw [← HFS.out, gvs_append, HLD.out]; exact ho12.out)
    have HRM := Lib.hid (H6.out.right (fs' := drop k fs) ⟨⟨_, hR⟩, HOK.out.drop k, HPW.out⟩ hO (fun j hj => hj.imp id fun h => h.1))
    clear hR hO hH HT HD
    generalize (if c = r + 1 then some (⟨gf, 0, none⟩ : Addr) else some ⟨gf, (r + 1) * 7, none⟩) = av
    go_wp2_with fail
    go_ret
    exact ⟨_, _, rfl, HRM.out⟩
  · have HDN := Lib.hid (drop_none hf)
    clear hf
    go_wp2_with fail
    go_ret
    exact ⟨_, _, rfl, by rw [HDN.out]; exact H6.out⟩
set_option maxHeartbeats 4000000 in
theorem put_yes (H : RM w Om Ot mb B ms n fs W) (hl : ms.ls.length ≤ 1000000000000) (hfl : fs.length ≤ 100000) (t : Int) (k : AutM.Ke) (hk : k.Ok) (x : Int) (d b : Bool) (i : Nat) (hi : sOf n k = i) (hh : heldB ms t (i : Int) = true) (hxb : -9223372036854775808 ≤ x ∧ x ≤ 9223372036854775807) (hf : ((find k fs).isSome = true ∧ b = true) ∨ (find k fs = none ∧ b = false)) :
    Calls Try.prog 16 #[ptr B, .int .i64 t, Au.kyV k, .int .i64 x, .bool d] W (Ud w mb B (.int .i64 0) (touchS ms t 6 (i : Int)) n (upd ⟨k, x, d⟩ fs)) := by
  have HX := Lib.hid (Blk.box W (Ky.kyc k.a k.b k.p k.q k.r) 37)
  have H1 := Lib.hid (H.next (below_box W (.cells (Ky.kyc k.a k.b k.p k.q k.r) 37)))
  have hin : i < n := by have := sOf_lt (n := n) (by have := H.tab.pos; omega) k; omega
  have HMV : Hid (mayV ms n t (i : Int) = 0) := mayV_at hin _ hh
  have HI := Lib.hid hi
  have HKO := Lib.hid hk
  have HKT : Hid (¬ Ot W.heap.size) := fun e => Nat.lt_irrefl _ (H.tab.lt_ _ e)
  have HKM : Hid (¬ Om W.heap.size) := fun e => Nat.lt_irrefl _ (H.mem.lt _ e)
  have HLN := Lib.hid hl
  have HFL := Lib.hid hfl
  obtain ⟨r, hr⟩ : ∃ r, rank k fs = r := ⟨_, rfl⟩
  have HRK := Lib.hid hr
  have HOF := Lib.hid H.tab.2.1
  have HXB := Lib.hid hxb
  have HFB : Hid ((find k fs).isSome = b) := by show _ = _; rcases hf with ⟨hf, rfl⟩ | ⟨hf, rfl⟩ <;> rw [hf] <;> rfl
  clear hxb
  clear hl hfl hr
  clear H hk hi hh
  go_enter Try.func16, Try.ntmps16
  go_wp2_with fail
  obtain ⟨gk, hgk⟩ : ∃ g, W.heap.size = g := ⟨_, rfl⟩
  obtain ⟨w1, hw1⟩ : ∃ v, W.alloc (.cells (Ky.kyc k.a k.b k.p k.q k.r) 37) = v := ⟨_, rfl⟩
  rw [hw1] at HX H1 ⊢
  rw [hgk] at HX HKT HKM ⊢
  clear hw1 hgk
  go_at_call 39
  refine (of_any H1.out k HKO.out i HI.out).mono ?_
  rintro e w2 ⟨rfl, hb⟩
  have H2 := Lib.hid (H1.out.next hb)
  have HX2 := Lib.hid (HX.out.next hb)
  clear hb H1 HX
  go_wp2_with fail
  go_at_call 38
  refine (may_any H2.out t (i : Int)).mono ?_
  rw [HMV.out]
  rintro e w2 ⟨rfl, rfl⟩
  go_wp2_with fail
  obtain ⟨⟨vf, hru⟩, _⟩ := H2.out.tab
  have hc0 := hru.blk.cell 0 _ rfl
  have HB0 := Lib.hid hru.ob
  have HBL := Lib.hid (hru.lt _ hru.ob)
  clear hru
  replace H2 := Lib.hid (H2.out.next (Below.refl _ w2).drew)
  have HX2d := Lib.hid HX2.out.drew
  refine wp_region_held_drew (S := fun w' => w'.cell? ⟨B, 0, none⟩ = some (ptr mb) ∧ Blk w' gk (Ky.kyc k.a k.b k.p k.q k.r) 37) (by kernel_rfl) (⟨hc0, HX2.out.drew⟩) (fun hH => ?_)
  refine wpAnyH_take (i := 0) (oi := ⟨some 24, _, _, _, _, _⟩) (v := ?v1201) rfl (by kernel_rfl) (by kernel_rfl) (by kernel_rfl) (fun _ _ _ h => h) (Or.inl ⟨rfl, ?c1201⟩) hH ?r1201
  case c1201 => (intro w' _; go_simp; (try with_reducible rfl))
  try simp only [Act.put, List.setIfInBounds_toArray, List.set_cons_zero, List.set_cons_succ]
  refine wpAnyH_take (i := 1) (oi := ⟨some 25, _, _, _, _, _⟩) (v := ?v1202) rfl (by kernel_rfl) (by kernel_rfl) (by kernel_rfl) (fun _ _ _ h => h) (Or.inl ⟨rfl, ?c1202⟩) hH ?r1202
  case c1202 => (intro w' _; go_simp; (try with_reducible rfl))
  try simp only [Act.put, List.setIfInBounds_toArray, List.set_cons_zero, List.set_cons_succ]
  refine wpAnyH_take (i := 2) (oi := ⟨some 26, _, _, _, _, _⟩) (v := ?v1203) rfl (by kernel_rfl) (by kernel_rfl) (by kernel_rfl) (fun _ _ _ h => h) (Or.inl ⟨rfl, ?c1203⟩) hH ?r1203
  case c1203 => (intro w' _; go_simp; (try with_reducible rfl))
  try simp only [Act.put, List.setIfInBounds_toArray, List.set_cons_zero, List.set_cons_succ]
  refine wpAnyH_take (i := 3) (oi := ⟨some 27, _, _, _, _, _⟩) (v := ?v1204) rfl (by kernel_rfl) (by kernel_rfl) (by kernel_rfl) (fun _ _ _ h => h) (Or.inl ⟨rfl, ?c1204⟩) hH ?r1204
  case c1204 => (intro w' hS; have c0 := hS.1; go_simp; (try with_reducible rfl))
  try simp only [Act.put, List.setIfInBounds_toArray, List.set_cons_zero, List.set_cons_succ]
  refine wpAnyH_take (i := 4) (oi := ⟨some 28, _, _, _, _, _⟩) (v := ?v1205) rfl (by kernel_rfl) (by kernel_rfl) (by kernel_rfl) (fun _ _ _ h => h) (Or.inl ⟨rfl, ?c1205⟩) hH ?r1205
  case c1205 => (intro w' _; go_simp; (try with_reducible rfl))
  try simp only [Act.put, List.setIfInBounds_toArray, List.set_cons_zero, List.set_cons_succ]
  refine wpAnyH_take (i := 5) (oi := ⟨some 29, _, _, _, _, _⟩) (v := ?v1206) rfl (by kernel_rfl) (by kernel_rfl) (by kernel_rfl) (fun _ _ _ h => h) (Or.inl ⟨rfl, ?c1206⟩) hH ?r1206
  case c1206 => (intro w' _; go_simp; (try with_reducible rfl))
  try simp only [Act.put, List.setIfInBounds_toArray, List.set_cons_zero, List.set_cons_succ]
  refine wpAnyH_take (i := 6) (oi := ⟨some 30, _, _, _, _, _⟩) (v := ?v1207) rfl (by kernel_rfl) (by kernel_rfl) (by kernel_rfl) (fun _ _ _ h => h) (Or.inl ⟨rfl, ?c1207⟩) hH ?r1207
  case c1207 => (intro w' hS; obtain ⟨x0, x1, x2, x3, x4⟩ := Ky.ky_cells hS.2; go_simp; (try with_reducible rfl))
  try simp only [Act.put, List.setIfInBounds_toArray, List.set_cons_zero, List.set_cons_succ]
  refine wpAnyH_ready (rs := [7]) (by kernel_rfl) (by simp) (AllReadyH.cons rfl (fun K hK => ?_) (AllReadyH.nil))
  go_simp
  go_at_call 39
  refine (of_any H2.out k HKO.out i HI.out).mono ?_
  rintro e w4 ⟨rfl, hb⟩
  have H4 := Lib.hid (H2.out.next hb)
  refine hK.out _ _ (⟨(hb.cell (p := ⟨B, 0, none⟩) HBL.out).trans hH.1, hH.2.next hb⟩) (fun hH => ?_)
  clear hK K
  clear hb H2
  try simp only [Act.put, List.setIfInBounds_toArray, List.set_cons_zero, List.set_cons_succ]
  refine wpAnyH_ready (rs := [8]) (by kernel_rfl) (by simp) (AllReadyH.cons rfl (fun K hK => ?_) (AllReadyH.nil))
  go_simp
  go_at_call 40
  refine (Me.refTouch_any H4.out.mem t 6 (i : Int) HLN.out).mono ?_
  rintro e w5 ⟨Om2, rfl, hp, ho, hO⟩
  have H5 := Lib.hid (H4.out.left hp ho hO)
  refine hK.out _ _ (⟨(ho.cell (p := ⟨B, 0, none⟩) (H4.out.tab.lt_ _ HB0.out) (fun e => H4.out.dis _ e HB0.out)).trans hH.1, hH.2.only ho HKM.out⟩) (fun hH => ?_)
  clear hK K
  clear hp ho hO H4
  try simp only [Act.put, List.setIfInBounds_toArray, List.set_cons_zero, List.set_cons_succ]
  refine wpAnyH_done (by kernel_rfl) ?_ _
  have HX5 := Lib.hid hH.2
  clear hH hc0 HX2 HX2d
  obtain ⟨x0, x1, x2, x3, x4⟩ := Ky.ky_cells HX5.out
  go_wp2_with fail
  clear x0 x1 x2 x3 x4
  go_at_call 41
  refine (place_any H5.out k HKO.out HFL.out r HRK.out b HFB.out).mono ?_
  rintro e w6 ⟨rfl, hb⟩
  have H6 := Lib.hid (H5.out.next hb)
  have HX6 := Lib.hid (HX5.out.next hb)
  clear hb H5 HX5
  obtain ⟨⟨vf, hru⟩, hok, hpw⟩ := H6.out.tab
  obtain ⟨A, c, rfl, hlc, hcm⟩ := hru.len
  obtain ⟨L, hL⟩ : ∃ L, fs.length = L := ⟨_, rfl⟩
  rw [hL] at hru hlc
  have HLE := Lib.hid hL
  have HRU := Lib.hid hru
  have HOK := Lib.hid hok
  have HPW := Lib.hid hpw
  clear hru hok hpw hL
  have HG : Hid ((⟨k, x, d⟩ : Fl).Ok) := ⟨HKO.out, HXB.out.1, HXB.out.2⟩
  have hL5 : L ≤ 100000 := by rw [← HLE.out]; exact HFL.out
  rcases hf with ⟨hf, rfl⟩ | ⟨hf, rfl⟩
  · obtain ⟨f, hf⟩ := Option.isSome_iff_exists.1 hf
    have hfi := find_rank HOF.out hf
    rw [HRK.out] at hfi
    have hrl1 : r < L := by have := (List.getElem?_eq_some_iff.1 hfi).1; rw [HLE.out] at this; exact this
    have hrl : r ≤ L := by omega
    have hat := (at_rank HOF.out hf).2 ⟨k, x, d⟩ rfl
    rw [HRK.out] at hat
    have HFS : Hid ([] ++ gvs (fs.take r) ++ g7 ⟨k, x, d⟩ ++ gvs (fs.drop (r + 1)) = gvs (upd ⟨k, x, d⟩ fs)) := by
      show _ = _
      rw [upd_some (g := ⟨k, x, d⟩) hf, ← hat, List.nil_append, gvs_append, List.append_assoc]
      rfl
    have HLD : Hid ((upd ⟨k, x, d⟩ fs).length = r + 1 + (L - r - 1)) := by show _ = _; rw [upd_some (g := ⟨k, x, d⟩) hf, len_put, HLE.out]; omega
    obtain ⟨gf, c', ev, -⟩ := HRU.out.flow hfi
    injection ev with ev e2 e3
    clear e2 e3
    subst ev
    have HT : Hid (∀ W, Below w6.heap.size w6 W → Rd W W.heap.size 7 r (.slice (some ⟨gf, 0, none⟩) r c) (gvs (fs.take r))) := fun W h => by
      rw [gvs_take]
      have h2 := (HRU.out.next h).fr
      rw [HLE.out] at h2
      exact row_take h2 hrl
    have HIC : Hid (r ≤ c) := by show _ ≤ _; omega
    have hne : ¬ c = r := by omega
    have hrc : r ≤ c := by omega
    clear hf hfi hat
    have c2 := HRU.out.blk.cell 2 _ rfl
    by_cases hc1 : c - r = 1
    · have HD : Hid (∀ W, Below w6.heap.size w6 W → Rd W W.heap.size 7 (L - r - 1) (.slice (some ⟨gf, r * 7, none⟩) (L - r - 1) 0) (gvs (fs.drop (r + 1)))) := fun W h => by
        rw [gvs_drop]
        have h2 := (HRU.out.next h).fr
        rw [HLE.out] at h2
        have h3 := row_drop h2 (i := r + 1) (by omega) (A' := some ⟨gf, r * 7, none⟩) fun hp b e => by omega
        rw [show L - (r + 1) = L - r - 1 by omega, show c - (r + 1) = 0 by omega] at h3
        exact h3
      have HCC := Lib.hid hc1
      go_wp2_with fail
      refine region_e (S := fun w' => Hid (Below w6.heap.size w6 w')) 19 (by kernel_rfl) (Lib.hid (Below.refl w6.heap.size w6).drew) (fun hH => ?_)
      refine anyE_take (i := 0) (oi := ⟨some 48, _, _, _, _, _⟩) (v := ?v1301) rfl (by kernel_rfl) (by kernel_rfl) (by kernel_rfl) (by kernel_rfl) (fun _ _ _ h => h) (Or.inl ⟨rfl, ?c1301⟩) hH ?r1301
      case c1301 => (intro w' _; go_simp; (try with_reducible rfl))
      try simp only [Act.put, List.setIfInBounds_toArray, List.set_cons_zero, List.set_cons_succ]
      refine anyE_take (i := 2) (oi := ⟨some 50, _, _, _, _, _⟩) (v := ?v1302) rfl (by kernel_rfl) (by kernel_rfl) (by kernel_rfl) (by kernel_rfl) (fun _ _ _ h => h) (Or.inl ⟨rfl, ?c1302⟩) hH ?r1302
      case c1302 => (intro w' _; go_simp; (try with_reducible rfl))
      try simp only [Act.put, List.setIfInBounds_toArray, List.set_cons_zero, List.set_cons_succ]
      refine anyE_take (i := 3) (oi := ⟨some 51, _, _, _, _, _⟩) (v := ?v1303) rfl (by kernel_rfl) (by kernel_rfl) (by kernel_rfl) (by kernel_rfl) (fun _ _ _ h => h) (Or.inl ⟨rfl, ?c1303⟩) hH ?r1303
      case c1303 => (intro w' _; go_simp; (try with_reducible rfl))
      try simp only [Act.put, List.setIfInBounds_toArray, List.set_cons_zero, List.set_cons_succ]
      refine anyE_take (i := 4) (oi := ⟨some 52, _, _, _, _, _⟩) (v := ?v1304) rfl (by kernel_rfl) (by kernel_rfl) (by kernel_rfl) (by kernel_rfl) (fun _ _ _ h => h) (Or.inl ⟨rfl, ?c1304⟩) hH ?r1304
      case c1304 => (intro w' _; go_simp; (try with_reducible rfl))
      try simp only [Act.put, List.setIfInBounds_toArray, List.set_cons_zero, List.set_cons_succ]
      refine anyE_take (i := 5) (oi := ⟨some 53, _, _, _, _, _⟩) (v := ?v1305) rfl (by kernel_rfl) (by kernel_rfl) (by kernel_rfl) (by kernel_rfl) (fun _ _ _ h => h) (Or.inl ⟨rfl, ?c1305⟩) hH ?r1305
      case c1305 => (intro w' hS; have c2 := (HRU.out.next hS.out).blk.cell 2 _ rfl; go_simp; (try with_reducible rfl))
      try simp only [Act.put, List.setIfInBounds_toArray, List.set_cons_zero, List.set_cons_succ]
      refine anyE_take (i := 6) (oi := ⟨some 54, _, _, _, _, _⟩) (v := ?v1306) rfl (by kernel_rfl) (by kernel_rfl) (by kernel_rfl) (by kernel_rfl) (fun _ _ _ h => h) (Or.inl ⟨rfl, ?c1306⟩) hH ?r1306
      case c1306 => (intro w' _; go_simp; (try with_reducible rfl))
      try simp only [Act.put, List.setIfInBounds_toArray, List.set_cons_zero, List.set_cons_succ]
      refine anyE_take (i := 7) (oi := ⟨some 55, _, _, _, _, _⟩) (v := ?v1307) rfl (by kernel_rfl) (by kernel_rfl) (by kernel_rfl) (by kernel_rfl) (fun _ _ _ h => h) (Or.inl ⟨rfl, ?c1307⟩) hH ?r1307
      case c1307 => (intro w' _; go_simp; (try rw [if_pos HIC.out]); (try with_reducible rfl))
      try simp only [Act.put, List.setIfInBounds_toArray, List.set_cons_zero, List.set_cons_succ]
      refine anyE_take (i := 9) (oi := ⟨some 57, _, _, _, _, _⟩) (v := ?v1308) rfl (by kernel_rfl) (by kernel_rfl) (by kernel_rfl) (by kernel_rfl) (fun _ _ _ h => h) (Or.inl ⟨rfl, ?c1308⟩) hH ?r1308
      case c1308 => (intro w' hS; obtain ⟨x0, x1, x2, x3, x4⟩ := Ky.ky_cells (HX6.out.next hS.out); go_simp; (try with_reducible rfl))
      try simp only [Act.put, List.setIfInBounds_toArray, List.set_cons_zero, List.set_cons_succ]
      refine anyE_take (i := 10) (oi := ⟨some 58, _, _, _, _, _⟩) (v := ?v1309) rfl (by kernel_rfl) (by kernel_rfl) (by kernel_rfl) (by kernel_rfl) (fun _ _ _ h => h) (Or.inl ⟨rfl, ?c1309⟩) hH ?r1309
      case c1309 => (intro w' _; go_simp; (try with_reducible rfl))
      try simp only [Act.put, List.setIfInBounds_toArray, List.set_cons_zero, List.set_cons_succ]
      refine anyE_take (i := 11) (oi := ⟨some 59, _, _, _, _, _⟩) (v := ?v1310) rfl (by kernel_rfl) (by kernel_rfl) (by kernel_rfl) (by kernel_rfl) (fun _ _ _ h => h) (Or.inl ⟨rfl, ?c1310⟩) hH ?r1310
      case c1310 => (intro w' _; go_simp; (try with_reducible rfl))
      try simp only [Act.put, List.setIfInBounds_toArray, List.set_cons_zero, List.set_cons_succ]
      refine anyE_take (i := 12) (oi := ⟨some 60, _, _, _, _, _⟩) (v := ?v1311) rfl (by kernel_rfl) (by kernel_rfl) (by kernel_rfl) (by kernel_rfl) (fun _ _ _ h => h) (Or.inl ⟨rfl, ?c1311⟩) hH ?r1311
      case c1311 => (intro w' _; go_simp; (try with_reducible rfl))
      try simp only [Act.put, List.setIfInBounds_toArray, List.set_cons_zero, List.set_cons_succ]
      refine anyE_take (i := 15) (oi := ⟨some 63, _, _, _, _, _⟩) (v := ?v1312) rfl (by kernel_rfl) (by kernel_rfl) (by kernel_rfl) (by kernel_rfl) (fun _ _ _ h => h) (Or.inl ⟨rfl, ?c1312⟩) hH ?r1312
      case c1312 => (intro w' _; go_simp; (try with_reducible rfl))
      try simp only [Act.put, List.setIfInBounds_toArray, List.set_cons_zero, List.set_cons_succ]
      refine anyE_ready (rs := [1, 13]) (by kernel_rfl) (by simp) (AllE.cons rfl (fun K hK => ?_) (AllE.cons rfl (fun K hK => ?_) (AllE.nil)))
      · go_simp
        refine hK.out _ _ (Lib.hid ((Below.refl w6.heap.size w6).alloc (Nat.le_refl _) _).drew) (fun hH => ?_)
        clear hK K
        have HO : Hid (((w6.alloc (.cells #[] 96)).drew).ownsRow w6.heap.size 96 7 (.slice (some ⟨w6.heap.size, 0, none⟩) 0 0) 0 []) := lit7 w6
        generalize (w6.alloc (.cells #[] 96)).drew = wA at hH HO ⊢
        obtain ⟨v0, hv0⟩ : ∃ v, Value.slice (some ⟨w6.heap.size, 0, none⟩) 0 0 = v := ⟨_, rfl⟩
        rw [hv0] at HO ⊢
        clear hv0
        try simp only [Act.put, List.setIfInBounds_toArray, List.set_cons_zero, List.set_cons_succ]
        refine anyE_ready (rs := [8, 13]) (by kernel_rfl) (by simp) (AllE.cons rfl (fun K hK => ?_) (AllE.cons rfl (fun K hK => ?_) (AllE.nil)))
        · refine step_append_rd rfl (.tmp 49) (.tmp 55) 80 96 rfl Try.underlying80 _ 7 32 flow_info rfl (by omega) (by omega) w6 hH.out _ 0 [] rfl HO.out _ r _ (gvs (fs.take r)) rfl (HT.out _ hH.out) (gvs_one _) r (by omega) (by omega) ?_
          intro A2 c3 wB ho11 hb11 hg11
          change K (Act.put _ (some 56) _) _
          refine hK.out _ _ (hb11) (fun hH => ?_)
          clear hK K
          clear HO hg11 hb11
          try simp only [Act.put, List.setIfInBounds_toArray, List.set_cons_zero, List.set_cons_succ]
          refine anyE_ready (rs := [13]) (by kernel_rfl) (by simp) (AllE.cons rfl (fun K hK => ?_) (AllE.nil))
          go_simp
          refine hK.out _ _ (Lib.hid (hH.out.trans ((below_box wB (.cells #[.int .u32 (k.a : Int), .int .u32 (k.b : Int), .int .u16 (k.p : Int), .int .u16 (k.q : Int), .int .u8 (k.r : Int), .int .i64 x, .bool d] 96)).mono hH.out.size))) (fun hH => ?_)
          clear hK K
          have ho13 := Lib.hid (row_keep ho11.out fun g e => (below_box wB (.cells #[.int .u32 (k.a : Int), .int .u32 (k.b : Int), .int .u16 (k.p : Int), .int .u16 (k.q : Int), .int .u8 (k.r : Int), .int .i64 x, .bool d] 96)).block g (ho11.out.lt g e).2)
          have HRO : Hid (Rd (wB.alloc (.cells #[.int .u32 (k.a : Int), .int .u32 (k.b : Int), .int .u16 (k.p : Int), .int .u16 (k.q : Int), .int .u8 (k.r : Int), .int .i64 x, .bool d] 96)) (wB.alloc (.cells #[.int .u32 (k.a : Int), .int .u32 (k.b : Int), .int .u16 (k.p : Int), .int .u16 (k.q : Int), .int .u8 (k.r : Int), .int .i64 x, .bool d] 96)).heap.size 7 1 (.slice (some ⟨wB.heap.size, 0, none⟩) 1 1) (g7 ⟨k, x, d⟩)) := rd_one wB ⟨k, x, d⟩
          obtain ⟨gl, hgl⟩ : ∃ q, wB.heap.size = q := ⟨_, rfl⟩
          obtain ⟨w13, hw13⟩ : ∃ q, wB.alloc (.cells #[.int .u32 (k.a : Int), .int .u32 (k.b : Int), .int .u16 (k.p : Int), .int .u16 (k.q : Int), .int .u8 (k.r : Int), .int .i64 x, .bool d] 96) = q := ⟨_, rfl⟩
          rw [hw13] at HRO ho13 hH ⊢
          rw [hgl] at HRO ⊢
          clear ho11 hgl hw13
          try simp only [Act.put, List.setIfInBounds_toArray, List.set_cons_zero, List.set_cons_succ]
          refine anyE_ready (rs := [14]) (by kernel_rfl) (by simp) (AllE.cons rfl (fun K hK => ?_) (AllE.nil))
          refine step_append_rd rfl (.tmp 56) (.tmp 61) 80 96 rfl Try.underlying80 _ 7 32 flow_info rfl (by omega) (by omega) w6 hH.out _ r ([] ++ gvs (fs.take r)) rfl ho13.out _ 1 _ (g7 ⟨k, x, d⟩) rfl HRO.out g7_one (r + 1) rfl (by omega) ?_
          intro A4 c4 w14 ho14 hb14 hg14
          change K (Act.put _ (some 62) _) _
          refine hK.out _ _ (hb14) (fun hH => ?_)
          clear hK K
          clear ho13 HRO hg14 hb14
          try simp only [Act.put, List.setIfInBounds_toArray, List.set_cons_zero, List.set_cons_succ]
          refine anyE_ready (rs := [16]) (by kernel_rfl) (by simp) (AllE.cons rfl (fun K hK => ?_) (AllE.nil))
          refine step_append_rd rfl (.tmp 62) (.tmp 63) 80 96 rfl Try.underlying80 _ 7 32 flow_info rfl (by omega) (by omega) w6 hH.out _ (r + 1) ([] ++ gvs (fs.take r) ++ g7 ⟨k, x, d⟩) rfl ho14.out _ (L - r - 1) _ (gvs (fs.drop (r + 1))) rfl (HD.out _ hH.out) (gvs_one _) (r + 1 + (L - r - 1)) (by omega) (by omega) ?_
          intro A5 c5 w15 ho15 hb15 hg15
          change K (Act.put _ (some 64) _) _
          refine hK.out _ _ (hb15) (fun hH => ?_)
          clear hK K
          clear ho14 hg15 hb15
          try simp only [Act.put, List.setIfInBounds_toArray, List.set_cons_zero, List.set_cons_succ]
          refine anyE_ready (rs := [17]) (by kernel_rfl) (by simp) (AllE.cons rfl (fun K hK => ?_) (AllE.nil))
          go_simp
          refine hK.out _ _ (hH) (fun hH => ?_)
          clear hK K
          try simp only [Act.put, List.setIfInBounds_toArray, List.set_cons_zero, List.set_cons_succ]
          refine anyE_take (i := 18) (oi := ⟨some 66, _, _, _, _, _⟩) (v := ?v1313) rfl (by kernel_rfl) (by kernel_rfl) (by kernel_rfl) (by kernel_rfl) (fun _ _ _ h => h) (Or.inl ⟨rfl, ?c1313⟩) hH ?r1313
          case c1313 => (intro w' _; go_simp; (try with_reducible rfl))
          try simp only [Act.put, List.setIfInBounds_toArray, List.set_cons_zero, List.set_cons_succ]
          refine anyE_ready (rs := [19]) (by kernel_rfl) (by simp) (AllE.end_ rfl (fun K hK => ?_))
          have x2 := (HRU.out.next hH.out).blk.cell 2 _ rfl
          have f2 := (HRU.out.next hH.out).blk.frozen 2
          go_simp
          clear x2 f2
          refine hK.out _ _ ?_
          clear hK K
          try simp only [Act.put, List.setIfInBounds_toArray, List.set_cons_zero, List.set_cons_succ]
          refine anyE_done (by kernel_rfl) ?_ _
          obtain ⟨hR, hO⟩ := HRU.out.flows hH.out (fs' := upd ⟨k, x, d⟩ fs) (vf' := .slice A5 (r + 1 + (L - r - 1)) c5) (by rw [HLD.out, ← HFS.out]; exact ho15.out)
          have HRM := Lib.hid (H6.out.right (fs' := upd ⟨k, x, d⟩ fs) ⟨⟨_, hR⟩, oks_upd HOK.out HG.out, HPW.out⟩ hO (fun j hj => hj.imp id fun h => h.1))
          clear hR hO hH HT HD
          go_wp2_with fail
          go_ret
          exact ⟨_, _, rfl, HRM.out⟩
        · go_simp
          refine hK.out _ _ (Lib.hid (hH.out.trans ((below_box wA (.cells #[.int .u32 (k.a : Int), .int .u32 (k.b : Int), .int .u16 (k.p : Int), .int .u16 (k.q : Int), .int .u8 (k.r : Int), .int .i64 x, .bool d] 96)).mono hH.out.size))) (fun hH => ?_)
          clear hK K
          have HNE : Hid (∀ g, v0.ownBlock = some g → g ≠ wA.heap.size) := fun g e => Nat.ne_of_lt (HO.out.lt g e).2
          replace HO := Lib.hid (HO.out.alloc (.cells #[.int .u32 (k.a : Int), .int .u32 (k.b : Int), .int .u16 (k.p : Int), .int .u16 (k.q : Int), .int .u8 (k.r : Int), .int .i64 x, .bool d] 96))
          have HRO : Hid (Rd (wA.alloc (.cells #[.int .u32 (k.a : Int), .int .u32 (k.b : Int), .int .u16 (k.p : Int), .int .u16 (k.q : Int), .int .u8 (k.r : Int), .int .i64 x, .bool d] 96)) (wA.alloc (.cells #[.int .u32 (k.a : Int), .int .u32 (k.b : Int), .int .u16 (k.p : Int), .int .u16 (k.q : Int), .int .u8 (k.r : Int), .int .i64 x, .bool d] 96)).heap.size 7 1 (.slice (some ⟨wA.heap.size, 0, none⟩) 1 1) (g7 ⟨k, x, d⟩)) := rd_one wA ⟨k, x, d⟩
          obtain ⟨gl, hgl⟩ : ∃ q, wA.heap.size = q := ⟨_, rfl⟩
          obtain ⟨wM, hwM⟩ : ∃ q, wA.alloc (.cells #[.int .u32 (k.a : Int), .int .u32 (k.b : Int), .int .u16 (k.p : Int), .int .u16 (k.q : Int), .int .u8 (k.r : Int), .int .i64 x, .bool d] 96) = q := ⟨_, rfl⟩
          rw [hwM] at HO HRO hH ⊢
          rw [hgl] at HRO HNE ⊢
          clear hgl hwM
          try simp only [Act.put, List.setIfInBounds_toArray, List.set_cons_zero, List.set_cons_succ]
          refine anyE_ready (rs := [8]) (by kernel_rfl) (by simp) (AllE.cons rfl (fun K hK => ?_) (AllE.nil))
          refine step_append_rd rfl (.tmp 49) (.tmp 55) 80 96 rfl Try.underlying80 _ 7 32 flow_info rfl (by omega) (by omega) w6 hH.out _ 0 [] rfl HO.out _ r _ (gvs (fs.take r)) rfl (HT.out _ hH.out) (gvs_one _) r (by omega) (by omega) ?_
          intro A2 c3 w13 ho13 hb13 hg13
          change K (Act.put _ (some 56) _) _
          refine hK.out _ _ (hb13) (fun hH => ?_)
          clear hK K
          replace HRO := Lib.hid (HRO.out.only (Only.grown (O := fun j => v0.ownBlock = some j) hg13.out fun k e => e) (fun g e e2 => HNE.out g e2 (Option.some.inj e).symm))
          clear HO hg13 hb13 HNE
          try simp only [Act.put, List.setIfInBounds_toArray, List.set_cons_zero, List.set_cons_succ]
          refine anyE_ready (rs := [14]) (by kernel_rfl) (by simp) (AllE.cons rfl (fun K hK => ?_) (AllE.nil))
          refine step_append_rd rfl (.tmp 56) (.tmp 61) 80 96 rfl Try.underlying80 _ 7 32 flow_info rfl (by omega) (by omega) w6 hH.out _ r ([] ++ gvs (fs.take r)) rfl ho13.out _ 1 _ (g7 ⟨k, x, d⟩) rfl HRO.out g7_one (r + 1) rfl (by omega) ?_
          intro A4 c4 w14 ho14 hb14 hg14
          change K (Act.put _ (some 62) _) _
          refine hK.out _ _ (hb14) (fun hH => ?_)
          clear hK K
          clear ho13 HRO hg14 hb14
          try simp only [Act.put, List.setIfInBounds_toArray, List.set_cons_zero, List.set_cons_succ]
          refine anyE_ready (rs := [16]) (by kernel_rfl) (by simp) (AllE.cons rfl (fun K hK => ?_) (AllE.nil))
          refine step_append_rd rfl (.tmp 62) (.tmp 63) 80 96 rfl Try.underlying80 _ 7 32 flow_info rfl (by omega) (by omega) w6 hH.out _ (r + 1) ([] ++ gvs (fs.take r) ++ g7 ⟨k, x, d⟩) rfl ho14.out _ (L - r - 1) _ (gvs (fs.drop (r + 1))) rfl (HD.out _ hH.out) (gvs_one _) (r + 1 + (L - r - 1)) (by omega) (by omega) ?_
          intro A5 c5 w15 ho15 hb15 hg15
          change K (Act.put _ (some 64) _) _
          refine hK.out _ _ (hb15) (fun hH => ?_)
          clear hK K
          clear ho14 hg15 hb15
          try simp only [Act.put, List.setIfInBounds_toArray, List.set_cons_zero, List.set_cons_succ]
          refine anyE_ready (rs := [17]) (by kernel_rfl) (by simp) (AllE.cons rfl (fun K hK => ?_) (AllE.nil))
          go_simp
          refine hK.out _ _ (hH) (fun hH => ?_)
          clear hK K
          try simp only [Act.put, List.setIfInBounds_toArray, List.set_cons_zero, List.set_cons_succ]
          refine anyE_take (i := 18) (oi := ⟨some 66, _, _, _, _, _⟩) (v := ?v1314) rfl (by kernel_rfl) (by kernel_rfl) (by kernel_rfl) (by kernel_rfl) (fun _ _ _ h => h) (Or.inl ⟨rfl, ?c1314⟩) hH ?r1314
          case c1314 => (intro w' _; go_simp; (try with_reducible rfl))
          try simp only [Act.put, List.setIfInBounds_toArray, List.set_cons_zero, List.set_cons_succ]
          refine anyE_ready (rs := [19]) (by kernel_rfl) (by simp) (AllE.end_ rfl (fun K hK => ?_))
          have x2 := (HRU.out.next hH.out).blk.cell 2 _ rfl
          have f2 := (HRU.out.next hH.out).blk.frozen 2
          go_simp
          clear x2 f2
          refine hK.out _ _ ?_
          clear hK K
          try simp only [Act.put, List.setIfInBounds_toArray, List.set_cons_zero, List.set_cons_succ]
          refine anyE_done (by kernel_rfl) ?_ _
          obtain ⟨hR, hO⟩ := HRU.out.flows hH.out (fs' := upd ⟨k, x, d⟩ fs) (vf' := .slice A5 (r + 1 + (L - r - 1)) c5) (by rw [HLD.out, ← HFS.out]; exact ho15.out)
          have HRM := Lib.hid (H6.out.right (fs' := upd ⟨k, x, d⟩ fs) ⟨⟨_, hR⟩, oks_upd HOK.out HG.out, HPW.out⟩ hO (fun j hj => hj.imp id fun h => h.1))
          clear hR hO hH HT HD
          go_wp2_with fail
          go_ret
          exact ⟨_, _, rfl, HRM.out⟩
      · go_simp
        refine hK.out _ _ (Lib.hid ((Below.refl w6.heap.size w6).alloc (Nat.le_refl _) _).drew) (fun hH => ?_)
        clear hK K
        have HRO : Hid (Rd (w6.alloc (.cells #[.int .u32 (k.a : Int), .int .u32 (k.b : Int), .int .u16 (k.p : Int), .int .u16 (k.q : Int), .int .u8 (k.r : Int), .int .i64 x, .bool d] 96)).drew (w6.alloc (.cells #[.int .u32 (k.a : Int), .int .u32 (k.b : Int), .int .u16 (k.p : Int), .int .u16 (k.q : Int), .int .u8 (k.r : Int), .int .i64 x, .bool d] 96)).drew.heap.size 7 1 (.slice (some ⟨w6.heap.size, 0, none⟩) 1 1) (g7 ⟨k, x, d⟩)) := Rd.next (rd_one w6 ⟨k, x, d⟩) (Below.refl _ _).drew
        have HGL : Hid (w6.heap.size < (w6.alloc (.cells #[.int .u32 (k.a : Int), .int .u32 (k.b : Int), .int .u16 (k.p : Int), .int .u16 (k.q : Int), .int .u8 (k.r : Int), .int .i64 x, .bool d] 96)).drew.heap.size) := (by show w6.heap.size < (w6.alloc (.cells #[.int .u32 (k.a : Int), .int .u32 (k.b : Int), .int .u16 (k.p : Int), .int .u16 (k.q : Int), .int .u8 (k.r : Int), .int .i64 x, .bool d] 96)).heap.size; rw [World.size_alloc]; omega)
        have HLS : Hid (w6.heap.size ≤ (w6.alloc (.cells #[.int .u32 (k.a : Int), .int .u32 (k.b : Int), .int .u16 (k.p : Int), .int .u16 (k.q : Int), .int .u8 (k.r : Int), .int .i64 x, .bool d] 96)).drew.heap.size) := Nat.le_of_lt HGL.out
        generalize (w6.alloc (.cells #[.int .u32 (k.a : Int), .int .u32 (k.b : Int), .int .u16 (k.p : Int), .int .u16 (k.q : Int), .int .u8 (k.r : Int), .int .i64 x, .bool d] 96)).drew = wL at hH HRO HGL HLS ⊢
        obtain ⟨gl, hgl⟩ : ∃ q, (⟨w6.heap.size, 0, none⟩ : Addr) = ⟨q, 0, none⟩ := ⟨_, rfl⟩
        rw [hgl] at HRO ⊢
        have hgl2 : w6.heap.size = gl := congrArg Addr.block hgl
        rw [hgl2] at HGL
        clear hgl hgl2
        try simp only [Act.put, List.setIfInBounds_toArray, List.set_cons_zero, List.set_cons_succ]
        refine anyE_ready (rs := [1]) (by kernel_rfl) (by simp) (AllE.cons rfl (fun K hK => ?_) (AllE.nil))
        go_simp
        refine hK.out _ _ (Lib.hid (hH.out.trans ((below_box wL (.cells #[] 96)).mono hH.out.size))) (fun hH => ?_)
        clear hK K
        have HO : Hid ((wL.alloc (.cells #[] 96)).ownsRow w6.heap.size 96 7 (.slice (some ⟨wL.heap.size, 0, none⟩) 0 0) 0 []) := World.ownsRow_made wL #[] 0 HLS.out (by unfold maxLen; omega) (by simp)
        replace HRO := Lib.hid (HRO.out.next (below_box wL (.cells #[] 96)))
        have HNE : Hid (∀ g, (Value.slice (some ⟨wL.heap.size, 0, none⟩) 0 0).ownBlock = some g → g ≠ gl) := fun g e => by obtain rfl := Option.some.inj e; exact (Nat.ne_of_lt HGL.out).symm
        obtain ⟨wM, hwM⟩ : ∃ q, wL.alloc (.cells #[] 96) = q := ⟨_, rfl⟩
        rw [hwM] at hH HO HRO ⊢
        obtain ⟨v0, hv0⟩ : ∃ v, Value.slice (some ⟨wL.heap.size, 0, none⟩) 0 0 = v := ⟨_, rfl⟩
        rw [hv0] at HO HNE ⊢
        clear hv0 hwM HGL HLS
        try simp only [Act.put, List.setIfInBounds_toArray, List.set_cons_zero, List.set_cons_succ]
        refine anyE_ready (rs := [8]) (by kernel_rfl) (by simp) (AllE.cons rfl (fun K hK => ?_) (AllE.nil))
        refine step_append_rd rfl (.tmp 49) (.tmp 55) 80 96 rfl Try.underlying80 _ 7 32 flow_info rfl (by omega) (by omega) w6 hH.out _ 0 [] rfl HO.out _ r _ (gvs (fs.take r)) rfl (HT.out _ hH.out) (gvs_one _) r (by omega) (by omega) ?_
        intro A2 c3 w13 ho13 hb13 hg13
        change K (Act.put _ (some 56) _) _
        refine hK.out _ _ (hb13) (fun hH => ?_)
        clear hK K
        replace HRO := Lib.hid (HRO.out.only (Only.grown (O := fun j => v0.ownBlock = some j) hg13.out fun k e => e) (fun g e e2 => HNE.out g e2 (Option.some.inj e).symm))
        clear HO hg13 hb13 HNE
        try simp only [Act.put, List.setIfInBounds_toArray, List.set_cons_zero, List.set_cons_succ]
        refine anyE_ready (rs := [14]) (by kernel_rfl) (by simp) (AllE.cons rfl (fun K hK => ?_) (AllE.nil))
        refine step_append_rd rfl (.tmp 56) (.tmp 61) 80 96 rfl Try.underlying80 _ 7 32 flow_info rfl (by omega) (by omega) w6 hH.out _ r ([] ++ gvs (fs.take r)) rfl ho13.out _ 1 _ (g7 ⟨k, x, d⟩) rfl HRO.out g7_one (r + 1) rfl (by omega) ?_
        intro A4 c4 w14 ho14 hb14 hg14
        change K (Act.put _ (some 62) _) _
        refine hK.out _ _ (hb14) (fun hH => ?_)
        clear hK K
        clear ho13 HRO hg14 hb14
        try simp only [Act.put, List.setIfInBounds_toArray, List.set_cons_zero, List.set_cons_succ]
        refine anyE_ready (rs := [16]) (by kernel_rfl) (by simp) (AllE.cons rfl (fun K hK => ?_) (AllE.nil))
        refine step_append_rd rfl (.tmp 62) (.tmp 63) 80 96 rfl Try.underlying80 _ 7 32 flow_info rfl (by omega) (by omega) w6 hH.out _ (r + 1) ([] ++ gvs (fs.take r) ++ g7 ⟨k, x, d⟩) rfl ho14.out _ (L - r - 1) _ (gvs (fs.drop (r + 1))) rfl (HD.out _ hH.out) (gvs_one _) (r + 1 + (L - r - 1)) (by omega) (by omega) ?_
        intro A5 c5 w15 ho15 hb15 hg15
        change K (Act.put _ (some 64) _) _
        refine hK.out _ _ (hb15) (fun hH => ?_)
        clear hK K
        clear ho14 hg15 hb15
        try simp only [Act.put, List.setIfInBounds_toArray, List.set_cons_zero, List.set_cons_succ]
        refine anyE_ready (rs := [17]) (by kernel_rfl) (by simp) (AllE.cons rfl (fun K hK => ?_) (AllE.nil))
        go_simp
        refine hK.out _ _ (hH) (fun hH => ?_)
        clear hK K
        try simp only [Act.put, List.setIfInBounds_toArray, List.set_cons_zero, List.set_cons_succ]
        refine anyE_take (i := 18) (oi := ⟨some 66, _, _, _, _, _⟩) (v := ?v1315) rfl (by kernel_rfl) (by kernel_rfl) (by kernel_rfl) (by kernel_rfl) (fun _ _ _ h => h) (Or.inl ⟨rfl, ?c1315⟩) hH ?r1315
        case c1315 => (intro w' _; go_simp; (try with_reducible rfl))
        try simp only [Act.put, List.setIfInBounds_toArray, List.set_cons_zero, List.set_cons_succ]
        refine anyE_ready (rs := [19]) (by kernel_rfl) (by simp) (AllE.end_ rfl (fun K hK => ?_))
        have x2 := (HRU.out.next hH.out).blk.cell 2 _ rfl
        have f2 := (HRU.out.next hH.out).blk.frozen 2
        go_simp
        clear x2 f2
        refine hK.out _ _ ?_
        clear hK K
        try simp only [Act.put, List.setIfInBounds_toArray, List.set_cons_zero, List.set_cons_succ]
        refine anyE_done (by kernel_rfl) ?_ _
        obtain ⟨hR, hO⟩ := HRU.out.flows hH.out (fs' := upd ⟨k, x, d⟩ fs) (vf' := .slice A5 (r + 1 + (L - r - 1)) c5) (by rw [HLD.out, ← HFS.out]; exact ho15.out)
        have HRM := Lib.hid (H6.out.right (fs' := upd ⟨k, x, d⟩ fs) ⟨⟨_, hR⟩, oks_upd HOK.out HG.out, HPW.out⟩ hO (fun j hj => hj.imp id fun h => h.1))
        clear hR hO hH HT HD
        go_wp2_with fail
        go_ret
        exact ⟨_, _, rfl, HRM.out⟩
    · have HD : Hid (∀ W, Below w6.heap.size w6 W → Rd W W.heap.size 7 (L - r - 1) (.slice (some ⟨gf, r * 7 + 7, none⟩) (L - r - 1) (c - r - 1)) (gvs (fs.drop (r + 1)))) := fun W h => by
        rw [gvs_drop]
        have h2 := (HRU.out.next h).fr
        rw [HLE.out] at h2
        have h3 := row_drop h2 (i := r + 1) (by omega) (A' := some ⟨gf, r * 7 + 7, none⟩) fun hp b e => by
          injection e with e
          injection e with e
          subst e
          rw [show (r + 1) * 7 = r * 7 + 7 by omega]
        rw [show L - (r + 1) = L - r - 1 by omega, show c - (r + 1) = c - r - 1 by omega] at h3
        exact h3
      go_wp2_with fail
      refine region_e (S := fun w' => Hid (Below w6.heap.size w6 w')) 19 (by kernel_rfl) (Lib.hid (Below.refl w6.heap.size w6).drew) (fun hH => ?_)
      refine anyE_take (i := 0) (oi := ⟨some 48, _, _, _, _, _⟩) (v := ?v1401) rfl (by kernel_rfl) (by kernel_rfl) (by kernel_rfl) (by kernel_rfl) (fun _ _ _ h => h) (Or.inl ⟨rfl, ?c1401⟩) hH ?r1401
      case c1401 => (intro w' _; go_simp; (try with_reducible rfl))
      try simp only [Act.put, List.setIfInBounds_toArray, List.set_cons_zero, List.set_cons_succ]
      refine anyE_take (i := 2) (oi := ⟨some 50, _, _, _, _, _⟩) (v := ?v1402) rfl (by kernel_rfl) (by kernel_rfl) (by kernel_rfl) (by kernel_rfl) (fun _ _ _ h => h) (Or.inl ⟨rfl, ?c1402⟩) hH ?r1402
      case c1402 => (intro w' _; go_simp; (try with_reducible rfl))
      try simp only [Act.put, List.setIfInBounds_toArray, List.set_cons_zero, List.set_cons_succ]
      refine anyE_take (i := 3) (oi := ⟨some 51, _, _, _, _, _⟩) (v := ?v1403) rfl (by kernel_rfl) (by kernel_rfl) (by kernel_rfl) (by kernel_rfl) (fun _ _ _ h => h) (Or.inl ⟨rfl, ?c1403⟩) hH ?r1403
      case c1403 => (intro w' _; go_simp; (try with_reducible rfl))
      try simp only [Act.put, List.setIfInBounds_toArray, List.set_cons_zero, List.set_cons_succ]
      refine anyE_take (i := 4) (oi := ⟨some 52, _, _, _, _, _⟩) (v := ?v1404) rfl (by kernel_rfl) (by kernel_rfl) (by kernel_rfl) (by kernel_rfl) (fun _ _ _ h => h) (Or.inl ⟨rfl, ?c1404⟩) hH ?r1404
      case c1404 => (intro w' _; go_simp; (try with_reducible rfl))
      try simp only [Act.put, List.setIfInBounds_toArray, List.set_cons_zero, List.set_cons_succ]
      refine anyE_take (i := 5) (oi := ⟨some 53, _, _, _, _, _⟩) (v := ?v1405) rfl (by kernel_rfl) (by kernel_rfl) (by kernel_rfl) (by kernel_rfl) (fun _ _ _ h => h) (Or.inl ⟨rfl, ?c1405⟩) hH ?r1405
      case c1405 => (intro w' hS; have c2 := (HRU.out.next hS.out).blk.cell 2 _ rfl; go_simp; (try with_reducible rfl))
      try simp only [Act.put, List.setIfInBounds_toArray, List.set_cons_zero, List.set_cons_succ]
      refine anyE_take (i := 6) (oi := ⟨some 54, _, _, _, _, _⟩) (v := ?v1406) rfl (by kernel_rfl) (by kernel_rfl) (by kernel_rfl) (by kernel_rfl) (fun _ _ _ h => h) (Or.inl ⟨rfl, ?c1406⟩) hH ?r1406
      case c1406 => (intro w' _; go_simp; (try with_reducible rfl))
      try simp only [Act.put, List.setIfInBounds_toArray, List.set_cons_zero, List.set_cons_succ]
      refine anyE_take (i := 7) (oi := ⟨some 55, _, _, _, _, _⟩) (v := ?v1407) rfl (by kernel_rfl) (by kernel_rfl) (by kernel_rfl) (by kernel_rfl) (fun _ _ _ h => h) (Or.inl ⟨rfl, ?c1407⟩) hH ?r1407
      case c1407 => (intro w' _; go_simp; (try rw [if_pos HIC.out]); (try with_reducible rfl))
      try simp only [Act.put, List.setIfInBounds_toArray, List.set_cons_zero, List.set_cons_succ]
      refine anyE_take (i := 9) (oi := ⟨some 57, _, _, _, _, _⟩) (v := ?v1408) rfl (by kernel_rfl) (by kernel_rfl) (by kernel_rfl) (by kernel_rfl) (fun _ _ _ h => h) (Or.inl ⟨rfl, ?c1408⟩) hH ?r1408
      case c1408 => (intro w' hS; obtain ⟨x0, x1, x2, x3, x4⟩ := Ky.ky_cells (HX6.out.next hS.out); go_simp; (try with_reducible rfl))
      try simp only [Act.put, List.setIfInBounds_toArray, List.set_cons_zero, List.set_cons_succ]
      refine anyE_take (i := 10) (oi := ⟨some 58, _, _, _, _, _⟩) (v := ?v1409) rfl (by kernel_rfl) (by kernel_rfl) (by kernel_rfl) (by kernel_rfl) (fun _ _ _ h => h) (Or.inl ⟨rfl, ?c1409⟩) hH ?r1409
      case c1409 => (intro w' _; go_simp; (try with_reducible rfl))
      try simp only [Act.put, List.setIfInBounds_toArray, List.set_cons_zero, List.set_cons_succ]
      refine anyE_take (i := 11) (oi := ⟨some 59, _, _, _, _, _⟩) (v := ?v1410) rfl (by kernel_rfl) (by kernel_rfl) (by kernel_rfl) (by kernel_rfl) (fun _ _ _ h => h) (Or.inl ⟨rfl, ?c1410⟩) hH ?r1410
      case c1410 => (intro w' _; go_simp; (try with_reducible rfl))
      try simp only [Act.put, List.setIfInBounds_toArray, List.set_cons_zero, List.set_cons_succ]
      refine anyE_take (i := 12) (oi := ⟨some 60, _, _, _, _, _⟩) (v := ?v1411) rfl (by kernel_rfl) (by kernel_rfl) (by kernel_rfl) (by kernel_rfl) (fun _ _ _ h => h) (Or.inl ⟨rfl, ?c1411⟩) hH ?r1411
      case c1411 => (intro w' _; go_simp; (try with_reducible rfl))
      try simp only [Act.put, List.setIfInBounds_toArray, List.set_cons_zero, List.set_cons_succ]
      refine anyE_take (i := 15) (oi := ⟨some 63, _, _, _, _, _⟩) (v := ?v1412) rfl (by kernel_rfl) (by kernel_rfl) (by kernel_rfl) (by kernel_rfl) (fun _ _ _ h => h) (Or.inl ⟨rfl, ?c1412⟩) hH ?r1412
      case c1412 => (intro w' _; go_simp; (try with_reducible rfl))
      try simp only [Act.put, List.setIfInBounds_toArray, List.set_cons_zero, List.set_cons_succ]
      refine anyE_ready (rs := [1, 13]) (by kernel_rfl) (by simp) (AllE.cons rfl (fun K hK => ?_) (AllE.cons rfl (fun K hK => ?_) (AllE.nil)))
      · go_simp
        refine hK.out _ _ (Lib.hid ((Below.refl w6.heap.size w6).alloc (Nat.le_refl _) _).drew) (fun hH => ?_)
        clear hK K
        have HO : Hid (((w6.alloc (.cells #[] 96)).drew).ownsRow w6.heap.size 96 7 (.slice (some ⟨w6.heap.size, 0, none⟩) 0 0) 0 []) := lit7 w6
        generalize (w6.alloc (.cells #[] 96)).drew = wA at hH HO ⊢
        obtain ⟨v0, hv0⟩ : ∃ v, Value.slice (some ⟨w6.heap.size, 0, none⟩) 0 0 = v := ⟨_, rfl⟩
        rw [hv0] at HO ⊢
        clear hv0
        try simp only [Act.put, List.setIfInBounds_toArray, List.set_cons_zero, List.set_cons_succ]
        refine anyE_ready (rs := [8, 13]) (by kernel_rfl) (by simp) (AllE.cons rfl (fun K hK => ?_) (AllE.cons rfl (fun K hK => ?_) (AllE.nil)))
        · refine step_append_rd rfl (.tmp 49) (.tmp 55) 80 96 rfl Try.underlying80 _ 7 32 flow_info rfl (by omega) (by omega) w6 hH.out _ 0 [] rfl HO.out _ r _ (gvs (fs.take r)) rfl (HT.out _ hH.out) (gvs_one _) r (by omega) (by omega) ?_
          intro A2 c3 wB ho11 hb11 hg11
          change K (Act.put _ (some 56) _) _
          refine hK.out _ _ (hb11) (fun hH => ?_)
          clear hK K
          clear HO hg11 hb11
          try simp only [Act.put, List.setIfInBounds_toArray, List.set_cons_zero, List.set_cons_succ]
          refine anyE_ready (rs := [13]) (by kernel_rfl) (by simp) (AllE.cons rfl (fun K hK => ?_) (AllE.nil))
          go_simp
          refine hK.out _ _ (Lib.hid (hH.out.trans ((below_box wB (.cells #[.int .u32 (k.a : Int), .int .u32 (k.b : Int), .int .u16 (k.p : Int), .int .u16 (k.q : Int), .int .u8 (k.r : Int), .int .i64 x, .bool d] 96)).mono hH.out.size))) (fun hH => ?_)
          clear hK K
          have ho13 := Lib.hid (row_keep ho11.out fun g e => (below_box wB (.cells #[.int .u32 (k.a : Int), .int .u32 (k.b : Int), .int .u16 (k.p : Int), .int .u16 (k.q : Int), .int .u8 (k.r : Int), .int .i64 x, .bool d] 96)).block g (ho11.out.lt g e).2)
          have HRO : Hid (Rd (wB.alloc (.cells #[.int .u32 (k.a : Int), .int .u32 (k.b : Int), .int .u16 (k.p : Int), .int .u16 (k.q : Int), .int .u8 (k.r : Int), .int .i64 x, .bool d] 96)) (wB.alloc (.cells #[.int .u32 (k.a : Int), .int .u32 (k.b : Int), .int .u16 (k.p : Int), .int .u16 (k.q : Int), .int .u8 (k.r : Int), .int .i64 x, .bool d] 96)).heap.size 7 1 (.slice (some ⟨wB.heap.size, 0, none⟩) 1 1) (g7 ⟨k, x, d⟩)) := rd_one wB ⟨k, x, d⟩
          obtain ⟨gl, hgl⟩ : ∃ q, wB.heap.size = q := ⟨_, rfl⟩
          obtain ⟨w13, hw13⟩ : ∃ q, wB.alloc (.cells #[.int .u32 (k.a : Int), .int .u32 (k.b : Int), .int .u16 (k.p : Int), .int .u16 (k.q : Int), .int .u8 (k.r : Int), .int .i64 x, .bool d] 96) = q := ⟨_, rfl⟩
          rw [hw13] at HRO ho13 hH ⊢
          rw [hgl] at HRO ⊢
          clear ho11 hgl hw13
          try simp only [Act.put, List.setIfInBounds_toArray, List.set_cons_zero, List.set_cons_succ]
          refine anyE_ready (rs := [14]) (by kernel_rfl) (by simp) (AllE.cons rfl (fun K hK => ?_) (AllE.nil))
          refine step_append_rd rfl (.tmp 56) (.tmp 61) 80 96 rfl Try.underlying80 _ 7 32 flow_info rfl (by omega) (by omega) w6 hH.out _ r ([] ++ gvs (fs.take r)) rfl ho13.out _ 1 _ (g7 ⟨k, x, d⟩) rfl HRO.out g7_one (r + 1) rfl (by omega) ?_
          intro A4 c4 w14 ho14 hb14 hg14
          change K (Act.put _ (some 62) _) _
          refine hK.out _ _ (hb14) (fun hH => ?_)
          clear hK K
          clear ho13 HRO hg14 hb14
          try simp only [Act.put, List.setIfInBounds_toArray, List.set_cons_zero, List.set_cons_succ]
          refine anyE_ready (rs := [16]) (by kernel_rfl) (by simp) (AllE.cons rfl (fun K hK => ?_) (AllE.nil))
          refine step_append_rd rfl (.tmp 62) (.tmp 63) 80 96 rfl Try.underlying80 _ 7 32 flow_info rfl (by omega) (by omega) w6 hH.out _ (r + 1) ([] ++ gvs (fs.take r) ++ g7 ⟨k, x, d⟩) rfl ho14.out _ (L - r - 1) _ (gvs (fs.drop (r + 1))) rfl (HD.out _ hH.out) (gvs_one _) (r + 1 + (L - r - 1)) (by omega) (by omega) ?_
          intro A5 c5 w15 ho15 hb15 hg15
          change K (Act.put _ (some 64) _) _
          refine hK.out _ _ (hb15) (fun hH => ?_)
          clear hK K
          clear ho14 hg15 hb15
          try simp only [Act.put, List.setIfInBounds_toArray, List.set_cons_zero, List.set_cons_succ]
          refine anyE_ready (rs := [17]) (by kernel_rfl) (by simp) (AllE.cons rfl (fun K hK => ?_) (AllE.nil))
          go_simp
          refine hK.out _ _ (hH) (fun hH => ?_)
          clear hK K
          try simp only [Act.put, List.setIfInBounds_toArray, List.set_cons_zero, List.set_cons_succ]
          refine anyE_take (i := 18) (oi := ⟨some 66, _, _, _, _, _⟩) (v := ?v1413) rfl (by kernel_rfl) (by kernel_rfl) (by kernel_rfl) (by kernel_rfl) (fun _ _ _ h => h) (Or.inl ⟨rfl, ?c1413⟩) hH ?r1413
          case c1413 => (intro w' _; go_simp; (try with_reducible rfl))
          try simp only [Act.put, List.setIfInBounds_toArray, List.set_cons_zero, List.set_cons_succ]
          refine anyE_ready (rs := [19]) (by kernel_rfl) (by simp) (AllE.end_ rfl (fun K hK => ?_))
          have x2 := (HRU.out.next hH.out).blk.cell 2 _ rfl
          have f2 := (HRU.out.next hH.out).blk.frozen 2
          go_simp
          clear x2 f2
          refine hK.out _ _ ?_
          clear hK K
          try simp only [Act.put, List.setIfInBounds_toArray, List.set_cons_zero, List.set_cons_succ]
          refine anyE_done (by kernel_rfl) ?_ _
          obtain ⟨hR, hO⟩ := HRU.out.flows hH.out (fs' := upd ⟨k, x, d⟩ fs) (vf' := .slice A5 (r + 1 + (L - r - 1)) c5) (by rw [HLD.out, ← HFS.out]; exact ho15.out)
          have HRM := Lib.hid (H6.out.right (fs' := upd ⟨k, x, d⟩ fs) ⟨⟨_, hR⟩, oks_upd HOK.out HG.out, HPW.out⟩ hO (fun j hj => hj.imp id fun h => h.1))
          clear hR hO hH HT HD
          go_wp2_with fail
          go_ret
          exact ⟨_, _, rfl, HRM.out⟩
        · go_simp
          refine hK.out _ _ (Lib.hid (hH.out.trans ((below_box wA (.cells #[.int .u32 (k.a : Int), .int .u32 (k.b : Int), .int .u16 (k.p : Int), .int .u16 (k.q : Int), .int .u8 (k.r : Int), .int .i64 x, .bool d] 96)).mono hH.out.size))) (fun hH => ?_)
          clear hK K
          have HNE : Hid (∀ g, v0.ownBlock = some g → g ≠ wA.heap.size) := fun g e => Nat.ne_of_lt (HO.out.lt g e).2
          replace HO := Lib.hid (HO.out.alloc (.cells #[.int .u32 (k.a : Int), .int .u32 (k.b : Int), .int .u16 (k.p : Int), .int .u16 (k.q : Int), .int .u8 (k.r : Int), .int .i64 x, .bool d] 96))
          have HRO : Hid (Rd (wA.alloc (.cells #[.int .u32 (k.a : Int), .int .u32 (k.b : Int), .int .u16 (k.p : Int), .int .u16 (k.q : Int), .int .u8 (k.r : Int), .int .i64 x, .bool d] 96)) (wA.alloc (.cells #[.int .u32 (k.a : Int), .int .u32 (k.b : Int), .int .u16 (k.p : Int), .int .u16 (k.q : Int), .int .u8 (k.r : Int), .int .i64 x, .bool d] 96)).heap.size 7 1 (.slice (some ⟨wA.heap.size, 0, none⟩) 1 1) (g7 ⟨k, x, d⟩)) := rd_one wA ⟨k, x, d⟩
          obtain ⟨gl, hgl⟩ : ∃ q, wA.heap.size = q := ⟨_, rfl⟩
          obtain ⟨wM, hwM⟩ : ∃ q, wA.alloc (.cells #[.int .u32 (k.a : Int), .int .u32 (k.b : Int), .int .u16 (k.p : Int), .int .u16 (k.q : Int), .int .u8 (k.r : Int), .int .i64 x, .bool d] 96) = q := ⟨_, rfl⟩
          rw [hwM] at HO HRO hH ⊢
          rw [hgl] at HRO HNE ⊢
          clear hgl hwM
          try simp only [Act.put, List.setIfInBounds_toArray, List.set_cons_zero, List.set_cons_succ]
          refine anyE_ready (rs := [8]) (by kernel_rfl) (by simp) (AllE.cons rfl (fun K hK => ?_) (AllE.nil))
          refine step_append_rd rfl (.tmp 49) (.tmp 55) 80 96 rfl Try.underlying80 _ 7 32 flow_info rfl (by omega) (by omega) w6 hH.out _ 0 [] rfl HO.out _ r _ (gvs (fs.take r)) rfl (HT.out _ hH.out) (gvs_one _) r (by omega) (by omega) ?_
          intro A2 c3 w13 ho13 hb13 hg13
          change K (Act.put _ (some 56) _) _
          refine hK.out _ _ (hb13) (fun hH => ?_)
          clear hK K
          replace HRO := Lib.hid (HRO.out.only (Only.grown (O := fun j => v0.ownBlock = some j) hg13.out fun k e => e) (fun g e e2 => HNE.out g e2 (Option.some.inj e).symm))
          clear HO hg13 hb13 HNE
          try simp only [Act.put, List.setIfInBounds_toArray, List.set_cons_zero, List.set_cons_succ]
          refine anyE_ready (rs := [14]) (by kernel_rfl) (by simp) (AllE.cons rfl (fun K hK => ?_) (AllE.nil))
          refine step_append_rd rfl (.tmp 56) (.tmp 61) 80 96 rfl Try.underlying80 _ 7 32 flow_info rfl (by omega) (by omega) w6 hH.out _ r ([] ++ gvs (fs.take r)) rfl ho13.out _ 1 _ (g7 ⟨k, x, d⟩) rfl HRO.out g7_one (r + 1) rfl (by omega) ?_
          intro A4 c4 w14 ho14 hb14 hg14
          change K (Act.put _ (some 62) _) _
          refine hK.out _ _ (hb14) (fun hH => ?_)
          clear hK K
          clear ho13 HRO hg14 hb14
          try simp only [Act.put, List.setIfInBounds_toArray, List.set_cons_zero, List.set_cons_succ]
          refine anyE_ready (rs := [16]) (by kernel_rfl) (by simp) (AllE.cons rfl (fun K hK => ?_) (AllE.nil))
          refine step_append_rd rfl (.tmp 62) (.tmp 63) 80 96 rfl Try.underlying80 _ 7 32 flow_info rfl (by omega) (by omega) w6 hH.out _ (r + 1) ([] ++ gvs (fs.take r) ++ g7 ⟨k, x, d⟩) rfl ho14.out _ (L - r - 1) _ (gvs (fs.drop (r + 1))) rfl (HD.out _ hH.out) (gvs_one _) (r + 1 + (L - r - 1)) (by omega) (by omega) ?_
          intro A5 c5 w15 ho15 hb15 hg15
          change K (Act.put _ (some 64) _) _
          refine hK.out _ _ (hb15) (fun hH => ?_)
          clear hK K
          clear ho14 hg15 hb15
          try simp only [Act.put, List.setIfInBounds_toArray, List.set_cons_zero, List.set_cons_succ]
          refine anyE_ready (rs := [17]) (by kernel_rfl) (by simp) (AllE.cons rfl (fun K hK => ?_) (AllE.nil))
          go_simp
          refine hK.out _ _ (hH) (fun hH => ?_)
          clear hK K
          try simp only [Act.put, List.setIfInBounds_toArray, List.set_cons_zero, List.set_cons_succ]
          refine anyE_take (i := 18) (oi := ⟨some 66, _, _, _, _, _⟩) (v := ?v1414) rfl (by kernel_rfl) (by kernel_rfl) (by kernel_rfl) (by kernel_rfl) (fun _ _ _ h => h) (Or.inl ⟨rfl, ?c1414⟩) hH ?r1414
          case c1414 => (intro w' _; go_simp; (try with_reducible rfl))
          try simp only [Act.put, List.setIfInBounds_toArray, List.set_cons_zero, List.set_cons_succ]
          refine anyE_ready (rs := [19]) (by kernel_rfl) (by simp) (AllE.end_ rfl (fun K hK => ?_))
          have x2 := (HRU.out.next hH.out).blk.cell 2 _ rfl
          have f2 := (HRU.out.next hH.out).blk.frozen 2
          go_simp
          clear x2 f2
          refine hK.out _ _ ?_
          clear hK K
          try simp only [Act.put, List.setIfInBounds_toArray, List.set_cons_zero, List.set_cons_succ]
          refine anyE_done (by kernel_rfl) ?_ _
          obtain ⟨hR, hO⟩ := HRU.out.flows hH.out (fs' := upd ⟨k, x, d⟩ fs) (vf' := .slice A5 (r + 1 + (L - r - 1)) c5) (by rw [HLD.out, ← HFS.out]; exact ho15.out)
          have HRM := Lib.hid (H6.out.right (fs' := upd ⟨k, x, d⟩ fs) ⟨⟨_, hR⟩, oks_upd HOK.out HG.out, HPW.out⟩ hO (fun j hj => hj.imp id fun h => h.1))
          clear hR hO hH HT HD
          go_wp2_with fail
          go_ret
          exact ⟨_, _, rfl, HRM.out⟩
      · go_simp
        refine hK.out _ _ (Lib.hid ((Below.refl w6.heap.size w6).alloc (Nat.le_refl _) _).drew) (fun hH => ?_)
        clear hK K
        have HRO : Hid (Rd (w6.alloc (.cells #[.int .u32 (k.a : Int), .int .u32 (k.b : Int), .int .u16 (k.p : Int), .int .u16 (k.q : Int), .int .u8 (k.r : Int), .int .i64 x, .bool d] 96)).drew (w6.alloc (.cells #[.int .u32 (k.a : Int), .int .u32 (k.b : Int), .int .u16 (k.p : Int), .int .u16 (k.q : Int), .int .u8 (k.r : Int), .int .i64 x, .bool d] 96)).drew.heap.size 7 1 (.slice (some ⟨w6.heap.size, 0, none⟩) 1 1) (g7 ⟨k, x, d⟩)) := Rd.next (rd_one w6 ⟨k, x, d⟩) (Below.refl _ _).drew
        have HGL : Hid (w6.heap.size < (w6.alloc (.cells #[.int .u32 (k.a : Int), .int .u32 (k.b : Int), .int .u16 (k.p : Int), .int .u16 (k.q : Int), .int .u8 (k.r : Int), .int .i64 x, .bool d] 96)).drew.heap.size) := (by show w6.heap.size < (w6.alloc (.cells #[.int .u32 (k.a : Int), .int .u32 (k.b : Int), .int .u16 (k.p : Int), .int .u16 (k.q : Int), .int .u8 (k.r : Int), .int .i64 x, .bool d] 96)).heap.size; rw [World.size_alloc]; omega)
        have HLS : Hid (w6.heap.size ≤ (w6.alloc (.cells #[.int .u32 (k.a : Int), .int .u32 (k.b : Int), .int .u16 (k.p : Int), .int .u16 (k.q : Int), .int .u8 (k.r : Int), .int .i64 x, .bool d] 96)).drew.heap.size) := Nat.le_of_lt HGL.out
        generalize (w6.alloc (.cells #[.int .u32 (k.a : Int), .int .u32 (k.b : Int), .int .u16 (k.p : Int), .int .u16 (k.q : Int), .int .u8 (k.r : Int), .int .i64 x, .bool d] 96)).drew = wL at hH HRO HGL HLS ⊢
        obtain ⟨gl, hgl⟩ : ∃ q, (⟨w6.heap.size, 0, none⟩ : Addr) = ⟨q, 0, none⟩ := ⟨_, rfl⟩
        rw [hgl] at HRO ⊢
        have hgl2 : w6.heap.size = gl := congrArg Addr.block hgl
        rw [hgl2] at HGL
        clear hgl hgl2
        try simp only [Act.put, List.setIfInBounds_toArray, List.set_cons_zero, List.set_cons_succ]
        refine anyE_ready (rs := [1]) (by kernel_rfl) (by simp) (AllE.cons rfl (fun K hK => ?_) (AllE.nil))
        go_simp
        refine hK.out _ _ (Lib.hid (hH.out.trans ((below_box wL (.cells #[] 96)).mono hH.out.size))) (fun hH => ?_)
        clear hK K
        have HO : Hid ((wL.alloc (.cells #[] 96)).ownsRow w6.heap.size 96 7 (.slice (some ⟨wL.heap.size, 0, none⟩) 0 0) 0 []) := World.ownsRow_made wL #[] 0 HLS.out (by unfold maxLen; omega) (by simp)
        replace HRO := Lib.hid (HRO.out.next (below_box wL (.cells #[] 96)))
        have HNE : Hid (∀ g, (Value.slice (some ⟨wL.heap.size, 0, none⟩) 0 0).ownBlock = some g → g ≠ gl) := fun g e => by obtain rfl := Option.some.inj e; exact (Nat.ne_of_lt HGL.out).symm
        obtain ⟨wM, hwM⟩ : ∃ q, wL.alloc (.cells #[] 96) = q := ⟨_, rfl⟩
        rw [hwM] at hH HO HRO ⊢
        obtain ⟨v0, hv0⟩ : ∃ v, Value.slice (some ⟨wL.heap.size, 0, none⟩) 0 0 = v := ⟨_, rfl⟩
        rw [hv0] at HO HNE ⊢
        clear hv0 hwM HGL HLS
        try simp only [Act.put, List.setIfInBounds_toArray, List.set_cons_zero, List.set_cons_succ]
        refine anyE_ready (rs := [8]) (by kernel_rfl) (by simp) (AllE.cons rfl (fun K hK => ?_) (AllE.nil))
        refine step_append_rd rfl (.tmp 49) (.tmp 55) 80 96 rfl Try.underlying80 _ 7 32 flow_info rfl (by omega) (by omega) w6 hH.out _ 0 [] rfl HO.out _ r _ (gvs (fs.take r)) rfl (HT.out _ hH.out) (gvs_one _) r (by omega) (by omega) ?_
        intro A2 c3 w13 ho13 hb13 hg13
        change K (Act.put _ (some 56) _) _
        refine hK.out _ _ (hb13) (fun hH => ?_)
        clear hK K
        replace HRO := Lib.hid (HRO.out.only (Only.grown (O := fun j => v0.ownBlock = some j) hg13.out fun k e => e) (fun g e e2 => HNE.out g e2 (Option.some.inj e).symm))
        clear HO hg13 hb13 HNE
        try simp only [Act.put, List.setIfInBounds_toArray, List.set_cons_zero, List.set_cons_succ]
        refine anyE_ready (rs := [14]) (by kernel_rfl) (by simp) (AllE.cons rfl (fun K hK => ?_) (AllE.nil))
        refine step_append_rd rfl (.tmp 56) (.tmp 61) 80 96 rfl Try.underlying80 _ 7 32 flow_info rfl (by omega) (by omega) w6 hH.out _ r ([] ++ gvs (fs.take r)) rfl ho13.out _ 1 _ (g7 ⟨k, x, d⟩) rfl HRO.out g7_one (r + 1) rfl (by omega) ?_
        intro A4 c4 w14 ho14 hb14 hg14
        change K (Act.put _ (some 62) _) _
        refine hK.out _ _ (hb14) (fun hH => ?_)
        clear hK K
        clear ho13 HRO hg14 hb14
        try simp only [Act.put, List.setIfInBounds_toArray, List.set_cons_zero, List.set_cons_succ]
        refine anyE_ready (rs := [16]) (by kernel_rfl) (by simp) (AllE.cons rfl (fun K hK => ?_) (AllE.nil))
        refine step_append_rd rfl (.tmp 62) (.tmp 63) 80 96 rfl Try.underlying80 _ 7 32 flow_info rfl (by omega) (by omega) w6 hH.out _ (r + 1) ([] ++ gvs (fs.take r) ++ g7 ⟨k, x, d⟩) rfl ho14.out _ (L - r - 1) _ (gvs (fs.drop (r + 1))) rfl (HD.out _ hH.out) (gvs_one _) (r + 1 + (L - r - 1)) (by omega) (by omega) ?_
        intro A5 c5 w15 ho15 hb15 hg15
        change K (Act.put _ (some 64) _) _
        refine hK.out _ _ (hb15) (fun hH => ?_)
        clear hK K
        clear ho14 hg15 hb15
        try simp only [Act.put, List.setIfInBounds_toArray, List.set_cons_zero, List.set_cons_succ]
        refine anyE_ready (rs := [17]) (by kernel_rfl) (by simp) (AllE.cons rfl (fun K hK => ?_) (AllE.nil))
        go_simp
        refine hK.out _ _ (hH) (fun hH => ?_)
        clear hK K
        try simp only [Act.put, List.setIfInBounds_toArray, List.set_cons_zero, List.set_cons_succ]
        refine anyE_take (i := 18) (oi := ⟨some 66, _, _, _, _, _⟩) (v := ?v1415) rfl (by kernel_rfl) (by kernel_rfl) (by kernel_rfl) (by kernel_rfl) (fun _ _ _ h => h) (Or.inl ⟨rfl, ?c1415⟩) hH ?r1415
        case c1415 => (intro w' _; go_simp; (try with_reducible rfl))
        try simp only [Act.put, List.setIfInBounds_toArray, List.set_cons_zero, List.set_cons_succ]
        refine anyE_ready (rs := [19]) (by kernel_rfl) (by simp) (AllE.end_ rfl (fun K hK => ?_))
        have x2 := (HRU.out.next hH.out).blk.cell 2 _ rfl
        have f2 := (HRU.out.next hH.out).blk.frozen 2
        go_simp
        clear x2 f2
        refine hK.out _ _ ?_
        clear hK K
        try simp only [Act.put, List.setIfInBounds_toArray, List.set_cons_zero, List.set_cons_succ]
        refine anyE_done (by kernel_rfl) ?_ _
        obtain ⟨hR, hO⟩ := HRU.out.flows hH.out (fs' := upd ⟨k, x, d⟩ fs) (vf' := .slice A5 (r + 1 + (L - r - 1)) c5) (by rw [HLD.out, ← HFS.out]; exact ho15.out)
        have HRM := Lib.hid (H6.out.right (fs' := upd ⟨k, x, d⟩ fs) ⟨⟨_, hR⟩, oks_upd HOK.out HG.out, HPW.out⟩ hO (fun j hj => hj.imp id fun h => h.1))
        clear hR hO hH HT HD
        go_wp2_with fail
        go_ret
        exact ⟨_, _, rfl, HRM.out⟩
  · have hfn := hf
    have hrl : r ≤ L := by rw [← HRK.out, ← HLE.out]; exact rank_le k fs
    have HFS : Hid ([] ++ gvs (fs.take r) ++ g7 ⟨k, x, d⟩ ++ gvs (fs.drop r) = gvs (upd ⟨k, x, d⟩ fs)) := by
      show _ = _
      rw [upd_none (g := ⟨k, x, d⟩) hf, ins_is, show rank (⟨k, x, d⟩ : Fl).k fs = r from HRK.out, List.nil_append, gvs_append, List.append_assoc]
      rfl
    have HLD : Hid ((upd ⟨k, x, d⟩ fs).length = r + 1 + (L - r)) := by show _ = _; rw [upd_none (g := ⟨k, x, d⟩) hf, len_ins, HLE.out]; omega
    have HT : Hid (∀ W, Below w6.heap.size w6 W → Rd W W.heap.size 7 r (.slice A r c) (gvs (fs.take r))) := fun W h => by
      rw [gvs_take]
      have h2 := (HRU.out.next h).fr
      rw [HLE.out] at h2
      exact row_take h2 hrl
    have HIC : Hid (r ≤ c) := by show _ ≤ _; omega
    have hrc : r ≤ c := by omega
    clear hf hfn
    have c2 := HRU.out.blk.cell 2 _ rfl
    by_cases hc1 : r = c
    · subst hc1
      obtain rfl : r = L := by omega
      replace HLD : Hid ((upd ⟨k, x, d⟩ fs).length = r + 1) := by show _ = _; rw [HLD.out]; omega
      have HD : Hid (∀ W, Below w6.heap.size w6 W → Rd W W.heap.size 7 0 (.slice A 0 0) (gvs (fs.drop r))) := fun W h => by
        rw [gvs_drop]
        have h2 := (HRU.out.next h).fr
        rw [HLE.out] at h2
        have h3 := row_drop h2 (i := r) hrl (A' := A) fun hp b e => by omega
        rw [Nat.sub_self] at h3
        exact h3
      go_wp2_with fail
      refine region_e (S := fun w' => Hid (Below w6.heap.size w6 w')) 19 (by kernel_rfl) (Lib.hid (Below.refl w6.heap.size w6).drew) (fun hH => ?_)
      refine anyE_take (i := 0) (oi := ⟨some 48, _, _, _, _, _⟩) (v := ?v1501) rfl (by kernel_rfl) (by kernel_rfl) (by kernel_rfl) (by kernel_rfl) (fun _ _ _ h => h) (Or.inl ⟨rfl, ?c1501⟩) hH ?r1501
      case c1501 => (intro w' _; go_simp; (try with_reducible rfl))
      try simp only [Act.put, List.setIfInBounds_toArray, List.set_cons_zero, List.set_cons_succ]
      refine anyE_take (i := 2) (oi := ⟨some 50, _, _, _, _, _⟩) (v := ?v1502) rfl (by kernel_rfl) (by kernel_rfl) (by kernel_rfl) (by kernel_rfl) (fun _ _ _ h => h) (Or.inl ⟨rfl, ?c1502⟩) hH ?r1502
      case c1502 => (intro w' _; go_simp; (try with_reducible rfl))
      try simp only [Act.put, List.setIfInBounds_toArray, List.set_cons_zero, List.set_cons_succ]
      refine anyE_take (i := 3) (oi := ⟨some 51, _, _, _, _, _⟩) (v := ?v1503) rfl (by kernel_rfl) (by kernel_rfl) (by kernel_rfl) (by kernel_rfl) (fun _ _ _ h => h) (Or.inl ⟨rfl, ?c1503⟩) hH ?r1503
      case c1503 => (intro w' _; go_simp; (try with_reducible rfl))
      try simp only [Act.put, List.setIfInBounds_toArray, List.set_cons_zero, List.set_cons_succ]
      refine anyE_take (i := 4) (oi := ⟨some 52, _, _, _, _, _⟩) (v := ?v1504) rfl (by kernel_rfl) (by kernel_rfl) (by kernel_rfl) (by kernel_rfl) (fun _ _ _ h => h) (Or.inl ⟨rfl, ?c1504⟩) hH ?r1504
      case c1504 => (intro w' _; go_simp; (try with_reducible rfl))
      try simp only [Act.put, List.setIfInBounds_toArray, List.set_cons_zero, List.set_cons_succ]
      refine anyE_take (i := 5) (oi := ⟨some 53, _, _, _, _, _⟩) (v := ?v1505) rfl (by kernel_rfl) (by kernel_rfl) (by kernel_rfl) (by kernel_rfl) (fun _ _ _ h => h) (Or.inl ⟨rfl, ?c1505⟩) hH ?r1505
      case c1505 => (intro w' hS; have c2 := (HRU.out.next hS.out).blk.cell 2 _ rfl; go_simp; (try with_reducible rfl))
      try simp only [Act.put, List.setIfInBounds_toArray, List.set_cons_zero, List.set_cons_succ]
      refine anyE_take (i := 6) (oi := ⟨some 54, _, _, _, _, _⟩) (v := ?v1506) rfl (by kernel_rfl) (by kernel_rfl) (by kernel_rfl) (by kernel_rfl) (fun _ _ _ h => h) (Or.inl ⟨rfl, ?c1506⟩) hH ?r1506
      case c1506 => (intro w' _; go_simp; (try with_reducible rfl))
      try simp only [Act.put, List.setIfInBounds_toArray, List.set_cons_zero, List.set_cons_succ]
      refine anyE_take (i := 7) (oi := ⟨some 55, _, _, _, _, _⟩) (v := ?v1507) rfl (by kernel_rfl) (by kernel_rfl) (by kernel_rfl) (by kernel_rfl) (fun _ _ _ h => h) (Or.inl ⟨rfl, ?c1507⟩) hH ?r1507
      case c1507 => (intro w' _; go_simp; (try rw [if_pos HIC.out]); (try with_reducible rfl))
      try simp only [Act.put, List.setIfInBounds_toArray, List.set_cons_zero, List.set_cons_succ]
      refine anyE_take (i := 9) (oi := ⟨some 57, _, _, _, _, _⟩) (v := ?v1508) rfl (by kernel_rfl) (by kernel_rfl) (by kernel_rfl) (by kernel_rfl) (fun _ _ _ h => h) (Or.inl ⟨rfl, ?c1508⟩) hH ?r1508
      case c1508 => (intro w' hS; obtain ⟨x0, x1, x2, x3, x4⟩ := Ky.ky_cells (HX6.out.next hS.out); go_simp; (try with_reducible rfl))
      try simp only [Act.put, List.setIfInBounds_toArray, List.set_cons_zero, List.set_cons_succ]
      refine anyE_take (i := 10) (oi := ⟨some 58, _, _, _, _, _⟩) (v := ?v1509) rfl (by kernel_rfl) (by kernel_rfl) (by kernel_rfl) (by kernel_rfl) (fun _ _ _ h => h) (Or.inl ⟨rfl, ?c1509⟩) hH ?r1509
      case c1509 => (intro w' _; go_simp; (try with_reducible rfl))
      try simp only [Act.put, List.setIfInBounds_toArray, List.set_cons_zero, List.set_cons_succ]
      refine anyE_take (i := 11) (oi := ⟨some 59, _, _, _, _, _⟩) (v := ?v1510) rfl (by kernel_rfl) (by kernel_rfl) (by kernel_rfl) (by kernel_rfl) (fun _ _ _ h => h) (Or.inl ⟨rfl, ?c1510⟩) hH ?r1510
      case c1510 => (intro w' _; go_simp; (try with_reducible rfl))
      try simp only [Act.put, List.setIfInBounds_toArray, List.set_cons_zero, List.set_cons_succ]
      refine anyE_take (i := 12) (oi := ⟨some 60, _, _, _, _, _⟩) (v := ?v1511) rfl (by kernel_rfl) (by kernel_rfl) (by kernel_rfl) (by kernel_rfl) (fun _ _ _ h => h) (Or.inl ⟨rfl, ?c1511⟩) hH ?r1511
      case c1511 => (intro w' _; go_simp; (try with_reducible rfl))
      try simp only [Act.put, List.setIfInBounds_toArray, List.set_cons_zero, List.set_cons_succ]
      refine anyE_take (i := 15) (oi := ⟨some 63, _, _, _, _, _⟩) (v := ?v1512) rfl (by kernel_rfl) (by kernel_rfl) (by kernel_rfl) (by kernel_rfl) (fun _ _ _ h => h) (Or.inl ⟨rfl, ?c1512⟩) hH ?r1512
      case c1512 => (intro w' _; go_simp; (try with_reducible rfl))
      try simp only [Act.put, List.setIfInBounds_toArray, List.set_cons_zero, List.set_cons_succ]
      refine anyE_ready (rs := [1, 13]) (by kernel_rfl) (by simp) (AllE.cons rfl (fun K hK => ?_) (AllE.cons rfl (fun K hK => ?_) (AllE.nil)))
      · go_simp
        refine hK.out _ _ (Lib.hid ((Below.refl w6.heap.size w6).alloc (Nat.le_refl _) _).drew) (fun hH => ?_)
        clear hK K
        have HO : Hid (((w6.alloc (.cells #[] 96)).drew).ownsRow w6.heap.size 96 7 (.slice (some ⟨w6.heap.size, 0, none⟩) 0 0) 0 []) := lit7 w6
        generalize (w6.alloc (.cells #[] 96)).drew = wA at hH HO ⊢
        obtain ⟨v0, hv0⟩ : ∃ v, Value.slice (some ⟨w6.heap.size, 0, none⟩) 0 0 = v := ⟨_, rfl⟩
        rw [hv0] at HO ⊢
        clear hv0
        try simp only [Act.put, List.setIfInBounds_toArray, List.set_cons_zero, List.set_cons_succ]
        refine anyE_ready (rs := [8, 13]) (by kernel_rfl) (by simp) (AllE.cons rfl (fun K hK => ?_) (AllE.cons rfl (fun K hK => ?_) (AllE.nil)))
        · refine step_append_rd rfl (.tmp 49) (.tmp 55) 80 96 rfl Try.underlying80 _ 7 32 flow_info rfl (by omega) (by omega) w6 hH.out _ 0 [] rfl HO.out _ r _ (gvs (fs.take r)) rfl (HT.out _ hH.out) (gvs_one _) r (by omega) (by omega) ?_
          intro A2 c3 wB ho11 hb11 hg11
          change K (Act.put _ (some 56) _) _
          refine hK.out _ _ (hb11) (fun hH => ?_)
          clear hK K
          clear HO hg11 hb11
          try simp only [Act.put, List.setIfInBounds_toArray, List.set_cons_zero, List.set_cons_succ]
          refine anyE_ready (rs := [13]) (by kernel_rfl) (by simp) (AllE.cons rfl (fun K hK => ?_) (AllE.nil))
          go_simp
          refine hK.out _ _ (Lib.hid (hH.out.trans ((below_box wB (.cells #[.int .u32 (k.a : Int), .int .u32 (k.b : Int), .int .u16 (k.p : Int), .int .u16 (k.q : Int), .int .u8 (k.r : Int), .int .i64 x, .bool d] 96)).mono hH.out.size))) (fun hH => ?_)
          clear hK K
          have ho13 := Lib.hid (row_keep ho11.out fun g e => (below_box wB (.cells #[.int .u32 (k.a : Int), .int .u32 (k.b : Int), .int .u16 (k.p : Int), .int .u16 (k.q : Int), .int .u8 (k.r : Int), .int .i64 x, .bool d] 96)).block g (ho11.out.lt g e).2)
          have HRO : Hid (Rd (wB.alloc (.cells #[.int .u32 (k.a : Int), .int .u32 (k.b : Int), .int .u16 (k.p : Int), .int .u16 (k.q : Int), .int .u8 (k.r : Int), .int .i64 x, .bool d] 96)) (wB.alloc (.cells #[.int .u32 (k.a : Int), .int .u32 (k.b : Int), .int .u16 (k.p : Int), .int .u16 (k.q : Int), .int .u8 (k.r : Int), .int .i64 x, .bool d] 96)).heap.size 7 1 (.slice (some ⟨wB.heap.size, 0, none⟩) 1 1) (g7 ⟨k, x, d⟩)) := rd_one wB ⟨k, x, d⟩
          obtain ⟨gl, hgl⟩ : ∃ q, wB.heap.size = q := ⟨_, rfl⟩
          obtain ⟨w13, hw13⟩ : ∃ q, wB.alloc (.cells #[.int .u32 (k.a : Int), .int .u32 (k.b : Int), .int .u16 (k.p : Int), .int .u16 (k.q : Int), .int .u8 (k.r : Int), .int .i64 x, .bool d] 96) = q := ⟨_, rfl⟩
          rw [hw13] at HRO ho13 hH ⊢
          rw [hgl] at HRO ⊢
          clear ho11 hgl hw13
          try simp only [Act.put, List.setIfInBounds_toArray, List.set_cons_zero, List.set_cons_succ]
          refine anyE_ready (rs := [14]) (by kernel_rfl) (by simp) (AllE.cons rfl (fun K hK => ?_) (AllE.nil))
          refine step_append_rd rfl (.tmp 56) (.tmp 61) 80 96 rfl Try.underlying80 _ 7 32 flow_info rfl (by omega) (by omega) w6 hH.out _ r ([] ++ gvs (fs.take r)) rfl ho13.out _ 1 _ (g7 ⟨k, x, d⟩) rfl HRO.out g7_one (r + 1) rfl (by omega) ?_
          intro A4 c4 w14 ho14 hb14 hg14
          change K (Act.put _ (some 62) _) _
          refine hK.out _ _ (hb14) (fun hH => ?_)
          clear hK K
          clear ho13 HRO hg14 hb14
          try simp only [Act.put, List.setIfInBounds_toArray, List.set_cons_zero, List.set_cons_succ]
          refine anyE_ready (rs := [16]) (by kernel_rfl) (by simp) (AllE.cons rfl (fun K hK => ?_) (AllE.nil))
          refine step_append_rd rfl (.tmp 62) (.tmp 63) 80 96 rfl Try.underlying80 _ 7 32 flow_info rfl (by omega) (by omega) w6 hH.out _ (r + 1) ([] ++ gvs (fs.take r) ++ g7 ⟨k, x, d⟩) rfl ho14.out _ (0) _ (gvs (fs.drop (r))) rfl (HD.out _ hH.out) (gvs_one _) (r + 1) (by omega) (by omega) ?_
          intro A5 c5 w15 ho15 hb15 hg15
          change K (Act.put _ (some 64) _) _
          refine hK.out _ _ (hb15) (fun hH => ?_)
          clear hK K
          clear ho14 hg15 hb15
          try simp only [Act.put, List.setIfInBounds_toArray, List.set_cons_zero, List.set_cons_succ]
          refine anyE_ready (rs := [17]) (by kernel_rfl) (by simp) (AllE.cons rfl (fun K hK => ?_) (AllE.nil))
          go_simp
          refine hK.out _ _ (hH) (fun hH => ?_)
          clear hK K
          try simp only [Act.put, List.setIfInBounds_toArray, List.set_cons_zero, List.set_cons_succ]
          refine anyE_take (i := 18) (oi := ⟨some 66, _, _, _, _, _⟩) (v := ?v1513) rfl (by kernel_rfl) (by kernel_rfl) (by kernel_rfl) (by kernel_rfl) (fun _ _ _ h => h) (Or.inl ⟨rfl, ?c1513⟩) hH ?r1513
          case c1513 => (intro w' _; go_simp; (try with_reducible rfl))
          try simp only [Act.put, List.setIfInBounds_toArray, List.set_cons_zero, List.set_cons_succ]
          refine anyE_ready (rs := [19]) (by kernel_rfl) (by simp) (AllE.end_ rfl (fun K hK => ?_))
          have x2 := (HRU.out.next hH.out).blk.cell 2 _ rfl
          have f2 := (HRU.out.next hH.out).blk.frozen 2
          go_simp
          clear x2 f2
          refine hK.out _ _ ?_
          clear hK K
          try simp only [Act.put, List.setIfInBounds_toArray, List.set_cons_zero, List.set_cons_succ]
          refine anyE_done (by kernel_rfl) ?_ _
          obtain ⟨hR, hO⟩ := HRU.out.flows hH.out (fs' := upd ⟨k, x, d⟩ fs) (vf' := .slice A5 (r + 1) c5) (by rw [HLD.out, ← HFS.out]; exact ho15.out)
          have HRM := Lib.hid (H6.out.right (fs' := upd ⟨k, x, d⟩ fs) ⟨⟨_, hR⟩, oks_upd HOK.out HG.out, HPW.out⟩ hO (fun j hj => hj.imp id fun h => h.1))
          clear hR hO hH HT HD
          go_wp2_with fail
          go_ret
          exact ⟨_, _, rfl, HRM.out⟩
        · go_simp
          refine hK.out _ _ (Lib.hid (hH.out.trans ((below_box wA (.cells #[.int .u32 (k.a : Int), .int .u32 (k.b : Int), .int .u16 (k.p : Int), .int .u16 (k.q : Int), .int .u8 (k.r : Int), .int .i64 x, .bool d] 96)).mono hH.out.size))) (fun hH => ?_)
          clear hK K
          have HNE : Hid (∀ g, v0.ownBlock = some g → g ≠ wA.heap.size) := fun g e => Nat.ne_of_lt (HO.out.lt g e).2
          replace HO := Lib.hid (HO.out.alloc (.cells #[.int .u32 (k.a : Int), .int .u32 (k.b : Int), .int .u16 (k.p : Int), .int .u16 (k.q : Int), .int .u8 (k.r : Int), .int .i64 x, .bool d] 96))
          have HRO : Hid (Rd (wA.alloc (.cells #[.int .u32 (k.a : Int), .int .u32 (k.b : Int), .int .u16 (k.p : Int), .int .u16 (k.q : Int), .int .u8 (k.r : Int), .int .i64 x, .bool d] 96)) (wA.alloc (.cells #[.int .u32 (k.a : Int), .int .u32 (k.b : Int), .int .u16 (k.p : Int), .int .u16 (k.q : Int), .int .u8 (k.r : Int), .int .i64 x, .bool d] 96)).heap.size 7 1 (.slice (some ⟨wA.heap.size, 0, none⟩) 1 1) (g7 ⟨k, x, d⟩)) := rd_one wA ⟨k, x, d⟩
          obtain ⟨gl, hgl⟩ : ∃ q, wA.heap.size = q := ⟨_, rfl⟩
          obtain ⟨wM, hwM⟩ : ∃ q, wA.alloc (.cells #[.int .u32 (k.a : Int), .int .u32 (k.b : Int), .int .u16 (k.p : Int), .int .u16 (k.q : Int), .int .u8 (k.r : Int), .int .i64 x, .bool d] 96) = q := ⟨_, rfl⟩
          rw [hwM] at HO HRO hH ⊢
          rw [hgl] at HRO HNE ⊢
          clear hgl hwM
          try simp only [Act.put, List.setIfInBounds_toArray, List.set_cons_zero, List.set_cons_succ]
          refine anyE_ready (rs := [8]) (by kernel_rfl) (by simp) (AllE.cons rfl (fun K hK => ?_) (AllE.nil))
          refine step_append_rd rfl (.tmp 49) (.tmp 55) 80 96 rfl Try.underlying80 _ 7 32 flow_info rfl (by omega) (by omega) w6 hH.out _ 0 [] rfl HO.out _ r _ (gvs (fs.take r)) rfl (HT.out _ hH.out) (gvs_one _) r (by omega) (by omega) ?_
          intro A2 c3 w13 ho13 hb13 hg13
          change K (Act.put _ (some 56) _) _
          refine hK.out _ _ (hb13) (fun hH => ?_)
          clear hK K
          replace HRO := Lib.hid (HRO.out.only (Only.grown (O := fun j => v0.ownBlock = some j) hg13.out fun k e => e) (fun g e e2 => HNE.out g e2 (Option.some.inj e).symm))
          clear HO hg13 hb13 HNE
          try simp only [Act.put, List.setIfInBounds_toArray, List.set_cons_zero, List.set_cons_succ]
          refine anyE_ready (rs := [14]) (by kernel_rfl) (by simp) (AllE.cons rfl (fun K hK => ?_) (AllE.nil))
          refine step_append_rd rfl (.tmp 56) (.tmp 61) 80 96 rfl Try.underlying80 _ 7 32 flow_info rfl (by omega) (by omega) w6 hH.out _ r ([] ++ gvs (fs.take r)) rfl ho13.out _ 1 _ (g7 ⟨k, x, d⟩) rfl HRO.out g7_one (r + 1) rfl (by omega) ?_
          intro A4 c4 w14 ho14 hb14 hg14
          change K (Act.put _ (some 62) _) _
          refine hK.out _ _ (hb14) (fun hH => ?_)
          clear hK K
          clear ho13 HRO hg14 hb14
          try simp only [Act.put, List.setIfInBounds_toArray, List.set_cons_zero, List.set_cons_succ]
          refine anyE_ready (rs := [16]) (by kernel_rfl) (by simp) (AllE.cons rfl (fun K hK => ?_) (AllE.nil))
          refine step_append_rd rfl (.tmp 62) (.tmp 63) 80 96 rfl Try.underlying80 _ 7 32 flow_info rfl (by omega) (by omega) w6 hH.out _ (r + 1) ([] ++ gvs (fs.take r) ++ g7 ⟨k, x, d⟩) rfl ho14.out _ (0) _ (gvs (fs.drop (r))) rfl (HD.out _ hH.out) (gvs_one _) (r + 1) (by omega) (by omega) ?_
          intro A5 c5 w15 ho15 hb15 hg15
          change K (Act.put _ (some 64) _) _
          refine hK.out _ _ (hb15) (fun hH => ?_)
          clear hK K
          clear ho14 hg15 hb15
          try simp only [Act.put, List.setIfInBounds_toArray, List.set_cons_zero, List.set_cons_succ]
          refine anyE_ready (rs := [17]) (by kernel_rfl) (by simp) (AllE.cons rfl (fun K hK => ?_) (AllE.nil))
          go_simp
          refine hK.out _ _ (hH) (fun hH => ?_)
          clear hK K
          try simp only [Act.put, List.setIfInBounds_toArray, List.set_cons_zero, List.set_cons_succ]
          refine anyE_take (i := 18) (oi := ⟨some 66, _, _, _, _, _⟩) (v := ?v1514) rfl (by kernel_rfl) (by kernel_rfl) (by kernel_rfl) (by kernel_rfl) (fun _ _ _ h => h) (Or.inl ⟨rfl, ?c1514⟩) hH ?r1514
          case c1514 => (intro w' _; go_simp; (try with_reducible rfl))
          try simp only [Act.put, List.setIfInBounds_toArray, List.set_cons_zero, List.set_cons_succ]
          refine anyE_ready (rs := [19]) (by kernel_rfl) (by simp) (AllE.end_ rfl (fun K hK => ?_))
          have x2 := (HRU.out.next hH.out).blk.cell 2 _ rfl
          have f2 := (HRU.out.next hH.out).blk.frozen 2
          go_simp
          clear x2 f2
          refine hK.out _ _ ?_
          clear hK K
          try simp only [Act.put, List.setIfInBounds_toArray, List.set_cons_zero, List.set_cons_succ]
          refine anyE_done (by kernel_rfl) ?_ _
          obtain ⟨hR, hO⟩ := HRU.out.flows hH.out (fs' := upd ⟨k, x, d⟩ fs) (vf' := .slice A5 (r + 1) c5) (by rw [HLD.out, ← HFS.out]; exact ho15.out)
          have HRM := Lib.hid (H6.out.right (fs' := upd ⟨k, x, d⟩ fs) ⟨⟨_, hR⟩, oks_upd HOK.out HG.out, HPW.out⟩ hO (fun j hj => hj.imp id fun h => h.1))
          clear hR hO hH HT HD
          go_wp2_with fail
          go_ret
          exact ⟨_, _, rfl, HRM.out⟩
      · go_simp
        refine hK.out _ _ (Lib.hid ((Below.refl w6.heap.size w6).alloc (Nat.le_refl _) _).drew) (fun hH => ?_)
        clear hK K
        have HRO : Hid (Rd (w6.alloc (.cells #[.int .u32 (k.a : Int), .int .u32 (k.b : Int), .int .u16 (k.p : Int), .int .u16 (k.q : Int), .int .u8 (k.r : Int), .int .i64 x, .bool d] 96)).drew (w6.alloc (.cells #[.int .u32 (k.a : Int), .int .u32 (k.b : Int), .int .u16 (k.p : Int), .int .u16 (k.q : Int), .int .u8 (k.r : Int), .int .i64 x, .bool d] 96)).drew.heap.size 7 1 (.slice (some ⟨w6.heap.size, 0, none⟩) 1 1) (g7 ⟨k, x, d⟩)) := Rd.next (rd_one w6 ⟨k, x, d⟩) (Below.refl _ _).drew
        have HGL : Hid (w6.heap.size < (w6.alloc (.cells #[.int .u32 (k.a : Int), .int .u32 (k.b : Int), .int .u16 (k.p : Int), .int .u16 (k.q : Int), .int .u8 (k.r : Int), .int .i64 x, .bool d] 96)).drew.heap.size) := (by show w6.heap.size < (w6.alloc (.cells #[.int .u32 (k.a : Int), .int .u32 (k.b : Int), .int .u16 (k.p : Int), .int .u16 (k.q : Int), .int .u8 (k.r : Int), .int .i64 x, .bool d] 96)).heap.size; rw [World.size_alloc]; omega)
        have HLS : Hid (w6.heap.size ≤ (w6.alloc (.cells #[.int .u32 (k.a : Int), .int .u32 (k.b : Int), .int .u16 (k.p : Int), .int .u16 (k.q : Int), .int .u8 (k.r : Int), .int .i64 x, .bool d] 96)).drew.heap.size) := Nat.le_of_lt HGL.out
        generalize (w6.alloc (.cells #[.int .u32 (k.a : Int), .int .u32 (k.b : Int), .int .u16 (k.p : Int), .int .u16 (k.q : Int), .int .u8 (k.r : Int), .int .i64 x, .bool d] 96)).drew = wL at hH HRO HGL HLS ⊢
        obtain ⟨gl, hgl⟩ : ∃ q, (⟨w6.heap.size, 0, none⟩ : Addr) = ⟨q, 0, none⟩ := ⟨_, rfl⟩
        rw [hgl] at HRO ⊢
        have hgl2 : w6.heap.size = gl := congrArg Addr.block hgl
        rw [hgl2] at HGL
        clear hgl hgl2
        try simp only [Act.put, List.setIfInBounds_toArray, List.set_cons_zero, List.set_cons_succ]
        refine anyE_ready (rs := [1]) (by kernel_rfl) (by simp) (AllE.cons rfl (fun K hK => ?_) (AllE.nil))
        go_simp
        refine hK.out _ _ (Lib.hid (hH.out.trans ((below_box wL (.cells #[] 96)).mono hH.out.size))) (fun hH => ?_)
        clear hK K
        have HO : Hid ((wL.alloc (.cells #[] 96)).ownsRow w6.heap.size 96 7 (.slice (some ⟨wL.heap.size, 0, none⟩) 0 0) 0 []) := World.ownsRow_made wL #[] 0 HLS.out (by unfold maxLen; omega) (by simp)
        replace HRO := Lib.hid (HRO.out.next (below_box wL (.cells #[] 96)))
        have HNE : Hid (∀ g, (Value.slice (some ⟨wL.heap.size, 0, none⟩) 0 0).ownBlock = some g → g ≠ gl) := fun g e => by obtain rfl := Option.some.inj e; exact (Nat.ne_of_lt HGL.out).symm
        obtain ⟨wM, hwM⟩ : ∃ q, wL.alloc (.cells #[] 96) = q := ⟨_, rfl⟩
        rw [hwM] at hH HO HRO ⊢
        obtain ⟨v0, hv0⟩ : ∃ v, Value.slice (some ⟨wL.heap.size, 0, none⟩) 0 0 = v := ⟨_, rfl⟩
        rw [hv0] at HO HNE ⊢
        clear hv0 hwM HGL HLS
        try simp only [Act.put, List.setIfInBounds_toArray, List.set_cons_zero, List.set_cons_succ]
        refine anyE_ready (rs := [8]) (by kernel_rfl) (by simp) (AllE.cons rfl (fun K hK => ?_) (AllE.nil))
        refine step_append_rd rfl (.tmp 49) (.tmp 55) 80 96 rfl Try.underlying80 _ 7 32 flow_info rfl (by omega) (by omega) w6 hH.out _ 0 [] rfl HO.out _ r _ (gvs (fs.take r)) rfl (HT.out _ hH.out) (gvs_one _) r (by omega) (by omega) ?_
        intro A2 c3 w13 ho13 hb13 hg13
        change K (Act.put _ (some 56) _) _
        refine hK.out _ _ (hb13) (fun hH => ?_)
        clear hK K
        replace HRO := Lib.hid (HRO.out.only (Only.grown (O := fun j => v0.ownBlock = some j) hg13.out fun k e => e) (fun g e e2 => HNE.out g e2 (Option.some.inj e).symm))
        clear HO hg13 hb13 HNE
        try simp only [Act.put, List.setIfInBounds_toArray, List.set_cons_zero, List.set_cons_succ]
        refine anyE_ready (rs := [14]) (by kernel_rfl) (by simp) (AllE.cons rfl (fun K hK => ?_) (AllE.nil))
        refine step_append_rd rfl (.tmp 56) (.tmp 61) 80 96 rfl Try.underlying80 _ 7 32 flow_info rfl (by omega) (by omega) w6 hH.out _ r ([] ++ gvs (fs.take r)) rfl ho13.out _ 1 _ (g7 ⟨k, x, d⟩) rfl HRO.out g7_one (r + 1) rfl (by omega) ?_
        intro A4 c4 w14 ho14 hb14 hg14
        change K (Act.put _ (some 62) _) _
        refine hK.out _ _ (hb14) (fun hH => ?_)
        clear hK K
        clear ho13 HRO hg14 hb14
        try simp only [Act.put, List.setIfInBounds_toArray, List.set_cons_zero, List.set_cons_succ]
        refine anyE_ready (rs := [16]) (by kernel_rfl) (by simp) (AllE.cons rfl (fun K hK => ?_) (AllE.nil))
        refine step_append_rd rfl (.tmp 62) (.tmp 63) 80 96 rfl Try.underlying80 _ 7 32 flow_info rfl (by omega) (by omega) w6 hH.out _ (r + 1) ([] ++ gvs (fs.take r) ++ g7 ⟨k, x, d⟩) rfl ho14.out _ (0) _ (gvs (fs.drop (r))) rfl (HD.out _ hH.out) (gvs_one _) (r + 1) (by omega) (by omega) ?_
        intro A5 c5 w15 ho15 hb15 hg15
        change K (Act.put _ (some 64) _) _
        refine hK.out _ _ (hb15) (fun hH => ?_)
        clear hK K
        clear ho14 hg15 hb15
        try simp only [Act.put, List.setIfInBounds_toArray, List.set_cons_zero, List.set_cons_succ]
        refine anyE_ready (rs := [17]) (by kernel_rfl) (by simp) (AllE.cons rfl (fun K hK => ?_) (AllE.nil))
        go_simp
        refine hK.out _ _ (hH) (fun hH => ?_)
        clear hK K
        try simp only [Act.put, List.setIfInBounds_toArray, List.set_cons_zero, List.set_cons_succ]
        refine anyE_take (i := 18) (oi := ⟨some 66, _, _, _, _, _⟩) (v := ?v1515) rfl (by kernel_rfl) (by kernel_rfl) (by kernel_rfl) (by kernel_rfl) (fun _ _ _ h => h) (Or.inl ⟨rfl, ?c1515⟩) hH ?r1515
        case c1515 => (intro w' _; go_simp; (try with_reducible rfl))
        try simp only [Act.put, List.setIfInBounds_toArray, List.set_cons_zero, List.set_cons_succ]
        refine anyE_ready (rs := [19]) (by kernel_rfl) (by simp) (AllE.end_ rfl (fun K hK => ?_))
        have x2 := (HRU.out.next hH.out).blk.cell 2 _ rfl
        have f2 := (HRU.out.next hH.out).blk.frozen 2
        go_simp
        clear x2 f2
        refine hK.out _ _ ?_
        clear hK K
        try simp only [Act.put, List.setIfInBounds_toArray, List.set_cons_zero, List.set_cons_succ]
        refine anyE_done (by kernel_rfl) ?_ _
        obtain ⟨hR, hO⟩ := HRU.out.flows hH.out (fs' := upd ⟨k, x, d⟩ fs) (vf' := .slice A5 (r + 1) c5) (by rw [HLD.out, ← HFS.out]; exact ho15.out)
        have HRM := Lib.hid (H6.out.right (fs' := upd ⟨k, x, d⟩ fs) ⟨⟨_, hR⟩, oks_upd HOK.out HG.out, HPW.out⟩ hO (fun j hj => hj.imp id fun h => h.1))
        clear hR hO hH HT HD
        go_wp2_with fail
        go_ret
        exact ⟨_, _, rfl, HRM.out⟩
    · have hc2 : ¬ c = r := fun e => hc1 e.symm
      have HD : Hid (∀ W, Below w6.heap.size w6 W → Rd W W.heap.size 7 (L - r) (.slice (A.map (·.add (r * 7))) (L - r) (c - r)) (gvs (fs.drop r))) := fun W h => by
        rw [gvs_drop]
        have h2 := (HRU.out.next h).fr
        rw [HLE.out] at h2
        refine row_drop h2 hrl fun hp b e => ?_
        subst e
        try simp [Addr.add]
        try omega
      go_wp2_with fail
      refine region_e (S := fun w' => Hid (Below w6.heap.size w6 w')) 19 (by kernel_rfl) (Lib.hid (Below.refl w6.heap.size w6).drew) (fun hH => ?_)
      refine anyE_take (i := 0) (oi := ⟨some 48, _, _, _, _, _⟩) (v := ?v1601) rfl (by kernel_rfl) (by kernel_rfl) (by kernel_rfl) (by kernel_rfl) (fun _ _ _ h => h) (Or.inl ⟨rfl, ?c1601⟩) hH ?r1601
      case c1601 => (intro w' _; go_simp; (try with_reducible rfl))
      try simp only [Act.put, List.setIfInBounds_toArray, List.set_cons_zero, List.set_cons_succ]
      refine anyE_take (i := 2) (oi := ⟨some 50, _, _, _, _, _⟩) (v := ?v1602) rfl (by kernel_rfl) (by kernel_rfl) (by kernel_rfl) (by kernel_rfl) (fun _ _ _ h => h) (Or.inl ⟨rfl, ?c1602⟩) hH ?r1602
      case c1602 => (intro w' _; go_simp; (try with_reducible rfl))
      try simp only [Act.put, List.setIfInBounds_toArray, List.set_cons_zero, List.set_cons_succ]
      refine anyE_take (i := 3) (oi := ⟨some 51, _, _, _, _, _⟩) (v := ?v1603) rfl (by kernel_rfl) (by kernel_rfl) (by kernel_rfl) (by kernel_rfl) (fun _ _ _ h => h) (Or.inl ⟨rfl, ?c1603⟩) hH ?r1603
      case c1603 => (intro w' _; go_simp; (try with_reducible rfl))
      try simp only [Act.put, List.setIfInBounds_toArray, List.set_cons_zero, List.set_cons_succ]
      refine anyE_take (i := 4) (oi := ⟨some 52, _, _, _, _, _⟩) (v := ?v1604) rfl (by kernel_rfl) (by kernel_rfl) (by kernel_rfl) (by kernel_rfl) (fun _ _ _ h => h) (Or.inl ⟨rfl, ?c1604⟩) hH ?r1604
      case c1604 => (intro w' _; go_simp; (try with_reducible rfl))
      try simp only [Act.put, List.setIfInBounds_toArray, List.set_cons_zero, List.set_cons_succ]
      refine anyE_take (i := 5) (oi := ⟨some 53, _, _, _, _, _⟩) (v := ?v1605) rfl (by kernel_rfl) (by kernel_rfl) (by kernel_rfl) (by kernel_rfl) (fun _ _ _ h => h) (Or.inl ⟨rfl, ?c1605⟩) hH ?r1605
      case c1605 => (intro w' hS; have c2 := (HRU.out.next hS.out).blk.cell 2 _ rfl; go_simp; (try with_reducible rfl))
      try simp only [Act.put, List.setIfInBounds_toArray, List.set_cons_zero, List.set_cons_succ]
      refine anyE_take (i := 6) (oi := ⟨some 54, _, _, _, _, _⟩) (v := ?v1606) rfl (by kernel_rfl) (by kernel_rfl) (by kernel_rfl) (by kernel_rfl) (fun _ _ _ h => h) (Or.inl ⟨rfl, ?c1606⟩) hH ?r1606
      case c1606 => (intro w' _; go_simp; (try with_reducible rfl))
      try simp only [Act.put, List.setIfInBounds_toArray, List.set_cons_zero, List.set_cons_succ]
      refine anyE_take (i := 7) (oi := ⟨some 55, _, _, _, _, _⟩) (v := ?v1607) rfl (by kernel_rfl) (by kernel_rfl) (by kernel_rfl) (by kernel_rfl) (fun _ _ _ h => h) (Or.inl ⟨rfl, ?c1607⟩) hH ?r1607
      case c1607 => (intro w' _; go_simp; (try rw [if_pos HIC.out]); (try with_reducible rfl))
      try simp only [Act.put, List.setIfInBounds_toArray, List.set_cons_zero, List.set_cons_succ]
      refine anyE_take (i := 9) (oi := ⟨some 57, _, _, _, _, _⟩) (v := ?v1608) rfl (by kernel_rfl) (by kernel_rfl) (by kernel_rfl) (by kernel_rfl) (fun _ _ _ h => h) (Or.inl ⟨rfl, ?c1608⟩) hH ?r1608
      case c1608 => (intro w' hS; obtain ⟨x0, x1, x2, x3, x4⟩ := Ky.ky_cells (HX6.out.next hS.out); go_simp; (try with_reducible rfl))
      try simp only [Act.put, List.setIfInBounds_toArray, List.set_cons_zero, List.set_cons_succ]
      refine anyE_take (i := 10) (oi := ⟨some 58, _, _, _, _, _⟩) (v := ?v1609) rfl (by kernel_rfl) (by kernel_rfl) (by kernel_rfl) (by kernel_rfl) (fun _ _ _ h => h) (Or.inl ⟨rfl, ?c1609⟩) hH ?r1609
      case c1609 => (intro w' _; go_simp; (try with_reducible rfl))
      try simp only [Act.put, List.setIfInBounds_toArray, List.set_cons_zero, List.set_cons_succ]
      refine anyE_take (i := 11) (oi := ⟨some 59, _, _, _, _, _⟩) (v := ?v1610) rfl (by kernel_rfl) (by kernel_rfl) (by kernel_rfl) (by kernel_rfl) (fun _ _ _ h => h) (Or.inl ⟨rfl, ?c1610⟩) hH ?r1610
      case c1610 => (intro w' _; go_simp; (try with_reducible rfl))
      try simp only [Act.put, List.setIfInBounds_toArray, List.set_cons_zero, List.set_cons_succ]
      refine anyE_take (i := 12) (oi := ⟨some 60, _, _, _, _, _⟩) (v := ?v1611) rfl (by kernel_rfl) (by kernel_rfl) (by kernel_rfl) (by kernel_rfl) (fun _ _ _ h => h) (Or.inl ⟨rfl, ?c1611⟩) hH ?r1611
      case c1611 => (intro w' _; go_simp; (try with_reducible rfl))
      try simp only [Act.put, List.setIfInBounds_toArray, List.set_cons_zero, List.set_cons_succ]
      refine anyE_take (i := 15) (oi := ⟨some 63, _, _, _, _, _⟩) (v := ?v1612) rfl (by kernel_rfl) (by kernel_rfl) (by kernel_rfl) (by kernel_rfl) (fun _ _ _ h => h) (Or.inl ⟨rfl, ?c1612⟩) hH ?r1612
      case c1612 => (intro w' _; go_simp; (try with_reducible rfl))
      try simp only [Act.put, List.setIfInBounds_toArray, List.set_cons_zero, List.set_cons_succ]
      refine anyE_ready (rs := [1, 13]) (by kernel_rfl) (by simp) (AllE.cons rfl (fun K hK => ?_) (AllE.cons rfl (fun K hK => ?_) (AllE.nil)))
      · go_simp
        refine hK.out _ _ (Lib.hid ((Below.refl w6.heap.size w6).alloc (Nat.le_refl _) _).drew) (fun hH => ?_)
        clear hK K
        have HO : Hid (((w6.alloc (.cells #[] 96)).drew).ownsRow w6.heap.size 96 7 (.slice (some ⟨w6.heap.size, 0, none⟩) 0 0) 0 []) := lit7 w6
        generalize (w6.alloc (.cells #[] 96)).drew = wA at hH HO ⊢
        obtain ⟨v0, hv0⟩ : ∃ v, Value.slice (some ⟨w6.heap.size, 0, none⟩) 0 0 = v := ⟨_, rfl⟩
        rw [hv0] at HO ⊢
        clear hv0
        try simp only [Act.put, List.setIfInBounds_toArray, List.set_cons_zero, List.set_cons_succ]
        refine anyE_ready (rs := [8, 13]) (by kernel_rfl) (by simp) (AllE.cons rfl (fun K hK => ?_) (AllE.cons rfl (fun K hK => ?_) (AllE.nil)))
        · refine step_append_rd rfl (.tmp 49) (.tmp 55) 80 96 rfl Try.underlying80 _ 7 32 flow_info rfl (by omega) (by omega) w6 hH.out _ 0 [] rfl HO.out _ r _ (gvs (fs.take r)) rfl (HT.out _ hH.out) (gvs_one _) r (by omega) (by omega) ?_
          intro A2 c3 wB ho11 hb11 hg11
          change K (Act.put _ (some 56) _) _
          refine hK.out _ _ (hb11) (fun hH => ?_)
          clear hK K
          clear HO hg11 hb11
          try simp only [Act.put, List.setIfInBounds_toArray, List.set_cons_zero, List.set_cons_succ]
          refine anyE_ready (rs := [13]) (by kernel_rfl) (by simp) (AllE.cons rfl (fun K hK => ?_) (AllE.nil))
          go_simp
          refine hK.out _ _ (Lib.hid (hH.out.trans ((below_box wB (.cells #[.int .u32 (k.a : Int), .int .u32 (k.b : Int), .int .u16 (k.p : Int), .int .u16 (k.q : Int), .int .u8 (k.r : Int), .int .i64 x, .bool d] 96)).mono hH.out.size))) (fun hH => ?_)
          clear hK K
          have ho13 := Lib.hid (row_keep ho11.out fun g e => (below_box wB (.cells #[.int .u32 (k.a : Int), .int .u32 (k.b : Int), .int .u16 (k.p : Int), .int .u16 (k.q : Int), .int .u8 (k.r : Int), .int .i64 x, .bool d] 96)).block g (ho11.out.lt g e).2)
          have HRO : Hid (Rd (wB.alloc (.cells #[.int .u32 (k.a : Int), .int .u32 (k.b : Int), .int .u16 (k.p : Int), .int .u16 (k.q : Int), .int .u8 (k.r : Int), .int .i64 x, .bool d] 96)) (wB.alloc (.cells #[.int .u32 (k.a : Int), .int .u32 (k.b : Int), .int .u16 (k.p : Int), .int .u16 (k.q : Int), .int .u8 (k.r : Int), .int .i64 x, .bool d] 96)).heap.size 7 1 (.slice (some ⟨wB.heap.size, 0, none⟩) 1 1) (g7 ⟨k, x, d⟩)) := rd_one wB ⟨k, x, d⟩
          obtain ⟨gl, hgl⟩ : ∃ q, wB.heap.size = q := ⟨_, rfl⟩
          obtain ⟨w13, hw13⟩ : ∃ q, wB.alloc (.cells #[.int .u32 (k.a : Int), .int .u32 (k.b : Int), .int .u16 (k.p : Int), .int .u16 (k.q : Int), .int .u8 (k.r : Int), .int .i64 x, .bool d] 96) = q := ⟨_, rfl⟩
          rw [hw13] at HRO ho13 hH ⊢
          rw [hgl] at HRO ⊢
          clear ho11 hgl hw13
          try simp only [Act.put, List.setIfInBounds_toArray, List.set_cons_zero, List.set_cons_succ]
          refine anyE_ready (rs := [14]) (by kernel_rfl) (by simp) (AllE.cons rfl (fun K hK => ?_) (AllE.nil))
          refine step_append_rd rfl (.tmp 56) (.tmp 61) 80 96 rfl Try.underlying80 _ 7 32 flow_info rfl (by omega) (by omega) w6 hH.out _ r ([] ++ gvs (fs.take r)) rfl ho13.out _ 1 _ (g7 ⟨k, x, d⟩) rfl HRO.out g7_one (r + 1) rfl (by omega) ?_
          intro A4 c4 w14 ho14 hb14 hg14
          change K (Act.put _ (some 62) _) _
          refine hK.out _ _ (hb14) (fun hH => ?_)
          clear hK K
          clear ho13 HRO hg14 hb14
          try simp only [Act.put, List.setIfInBounds_toArray, List.set_cons_zero, List.set_cons_succ]
          refine anyE_ready (rs := [16]) (by kernel_rfl) (by simp) (AllE.cons rfl (fun K hK => ?_) (AllE.nil))
          refine step_append_rd rfl (.tmp 62) (.tmp 63) 80 96 rfl Try.underlying80 _ 7 32 flow_info rfl (by omega) (by omega) w6 hH.out _ (r + 1) ([] ++ gvs (fs.take r) ++ g7 ⟨k, x, d⟩) rfl ho14.out _ (L - r) _ (gvs (fs.drop (r))) rfl (HD.out _ hH.out) (gvs_one _) (r + 1 + (L - r)) (by omega) (by omega) ?_
          intro A5 c5 w15 ho15 hb15 hg15
          change K (Act.put _ (some 64) _) _
          refine hK.out _ _ (hb15) (fun hH => ?_)
          clear hK K
          clear ho14 hg15 hb15
          try simp only [Act.put, List.setIfInBounds_toArray, List.set_cons_zero, List.set_cons_succ]
          refine anyE_ready (rs := [17]) (by kernel_rfl) (by simp) (AllE.cons rfl (fun K hK => ?_) (AllE.nil))
          go_simp
          refine hK.out _ _ (hH) (fun hH => ?_)
          clear hK K
          try simp only [Act.put, List.setIfInBounds_toArray, List.set_cons_zero, List.set_cons_succ]
          refine anyE_take (i := 18) (oi := ⟨some 66, _, _, _, _, _⟩) (v := ?v1613) rfl (by kernel_rfl) (by kernel_rfl) (by kernel_rfl) (by kernel_rfl) (fun _ _ _ h => h) (Or.inl ⟨rfl, ?c1613⟩) hH ?r1613
          case c1613 => (intro w' _; go_simp; (try with_reducible rfl))
          try simp only [Act.put, List.setIfInBounds_toArray, List.set_cons_zero, List.set_cons_succ]
          refine anyE_ready (rs := [19]) (by kernel_rfl) (by simp) (AllE.end_ rfl (fun K hK => ?_))
          have x2 := (HRU.out.next hH.out).blk.cell 2 _ rfl
          have f2 := (HRU.out.next hH.out).blk.frozen 2
          go_simp
          clear x2 f2
          refine hK.out _ _ ?_
          clear hK K
          try simp only [Act.put, List.setIfInBounds_toArray, List.set_cons_zero, List.set_cons_succ]
          refine anyE_done (by kernel_rfl) ?_ _
          obtain ⟨hR, hO⟩ := HRU.out.flows hH.out (fs' := upd ⟨k, x, d⟩ fs) (vf' := .slice A5 (r + 1 + (L - r)) c5) (by rw [HLD.out, ← HFS.out]; exact ho15.out)
          have HRM := Lib.hid (H6.out.right (fs' := upd ⟨k, x, d⟩ fs) ⟨⟨_, hR⟩, oks_upd HOK.out HG.out, HPW.out⟩ hO (fun j hj => hj.imp id fun h => h.1))
          clear hR hO hH HT HD
          go_wp2_with fail
          go_ret
          exact ⟨_, _, rfl, HRM.out⟩
        · go_simp
          refine hK.out _ _ (Lib.hid (hH.out.trans ((below_box wA (.cells #[.int .u32 (k.a : Int), .int .u32 (k.b : Int), .int .u16 (k.p : Int), .int .u16 (k.q : Int), .int .u8 (k.r : Int), .int .i64 x, .bool d] 96)).mono hH.out.size))) (fun hH => ?_)
          clear hK K
          have HNE : Hid (∀ g, v0.ownBlock = some g → g ≠ wA.heap.size) := fun g e => Nat.ne_of_lt (HO.out.lt g e).2
          replace HO := Lib.hid (HO.out.alloc (.cells #[.int .u32 (k.a : Int), .int .u32 (k.b : Int), .int .u16 (k.p : Int), .int .u16 (k.q : Int), .int .u8 (k.r : Int), .int .i64 x, .bool d] 96))
          have HRO : Hid (Rd (wA.alloc (.cells #[.int .u32 (k.a : Int), .int .u32 (k.b : Int), .int .u16 (k.p : Int), .int .u16 (k.q : Int), .int .u8 (k.r : Int), .int .i64 x, .bool d] 96)) (wA.alloc (.cells #[.int .u32 (k.a : Int), .int .u32 (k.b : Int), .int .u16 (k.p : Int), .int .u16 (k.q : Int), .int .u8 (k.r : Int), .int .i64 x, .bool d] 96)).heap.size 7 1 (.slice (some ⟨wA.heap.size, 0, none⟩) 1 1) (g7 ⟨k, x, d⟩)) := rd_one wA ⟨k, x, d⟩
          obtain ⟨gl, hgl⟩ : ∃ q, wA.heap.size = q := ⟨_, rfl⟩
          obtain ⟨wM, hwM⟩ : ∃ q, wA.alloc (.cells #[.int .u32 (k.a : Int), .int .u32 (k.b : Int), .int .u16 (k.p : Int), .int .u16 (k.q : Int), .int .u8 (k.r : Int), .int .i64 x, .bool d] 96) = q := ⟨_, rfl⟩
          rw [hwM] at HO HRO hH ⊢
          rw [hgl] at HRO HNE ⊢
          clear hgl hwM
          try simp only [Act.put, List.setIfInBounds_toArray, List.set_cons_zero, List.set_cons_succ]
          refine anyE_ready (rs := [8]) (by kernel_rfl) (by simp) (AllE.cons rfl (fun K hK => ?_) (AllE.nil))
          refine step_append_rd rfl (.tmp 49) (.tmp 55) 80 96 rfl Try.underlying80 _ 7 32 flow_info rfl (by omega) (by omega) w6 hH.out _ 0 [] rfl HO.out _ r _ (gvs (fs.take r)) rfl (HT.out _ hH.out) (gvs_one _) r (by omega) (by omega) ?_
          intro A2 c3 w13 ho13 hb13 hg13
          change K (Act.put _ (some 56) _) _
          refine hK.out _ _ (hb13) (fun hH => ?_)
          clear hK K
          replace HRO := Lib.hid (HRO.out.only (Only.grown (O := fun j => v0.ownBlock = some j) hg13.out fun k e => e) (fun g e e2 => HNE.out g e2 (Option.some.inj e).symm))
          clear HO hg13 hb13 HNE
          try simp only [Act.put, List.setIfInBounds_toArray, List.set_cons_zero, List.set_cons_succ]
          refine anyE_ready (rs := [14]) (by kernel_rfl) (by simp) (AllE.cons rfl (fun K hK => ?_) (AllE.nil))
          refine step_append_rd rfl (.tmp 56) (.tmp 61) 80 96 rfl Try.underlying80 _ 7 32 flow_info rfl (by omega) (by omega) w6 hH.out _ r ([] ++ gvs (fs.take r)) rfl ho13.out _ 1 _ (g7 ⟨k, x, d⟩) rfl HRO.out g7_one (r + 1) rfl (by omega) ?_
          intro A4 c4 w14 ho14 hb14 hg14
          change K (Act.put _ (some 62) _) _
          refine hK.out _ _ (hb14) (fun hH => ?_)
          clear hK K
          clear ho13 HRO hg14 hb14
          try simp only [Act.put, List.setIfInBounds_toArray, List.set_cons_zero, List.set_cons_succ]
          refine anyE_ready (rs := [16]) (by kernel_rfl) (by simp) (AllE.cons rfl (fun K hK => ?_) (AllE.nil))
          refine step_append_rd rfl (.tmp 62) (.tmp 63) 80 96 rfl Try.underlying80 _ 7 32 flow_info rfl (by omega) (by omega) w6 hH.out _ (r + 1) ([] ++ gvs (fs.take r) ++ g7 ⟨k, x, d⟩) rfl ho14.out _ (L - r) _ (gvs (fs.drop (r))) rfl (HD.out _ hH.out) (gvs_one _) (r + 1 + (L - r)) (by omega) (by omega) ?_
          intro A5 c5 w15 ho15 hb15 hg15
          change K (Act.put _ (some 64) _) _
          refine hK.out _ _ (hb15) (fun hH => ?_)
          clear hK K
          clear ho14 hg15 hb15
          try simp only [Act.put, List.setIfInBounds_toArray, List.set_cons_zero, List.set_cons_succ]
          refine anyE_ready (rs := [17]) (by kernel_rfl) (by simp) (AllE.cons rfl (fun K hK => ?_) (AllE.nil))
          go_simp
          refine hK.out _ _ (hH) (fun hH => ?_)
          clear hK K
          try simp only [Act.put, List.setIfInBounds_toArray, List.set_cons_zero, List.set_cons_succ]
          refine anyE_take (i := 18) (oi := ⟨some 66, _, _, _, _, _⟩) (v := ?v1614) rfl (by kernel_rfl) (by kernel_rfl) (by kernel_rfl) (by kernel_rfl) (fun _ _ _ h => h) (Or.inl ⟨rfl, ?c1614⟩) hH ?r1614
          case c1614 => (intro w' _; go_simp; (try with_reducible rfl))
          try simp only [Act.put, List.setIfInBounds_toArray, List.set_cons_zero, List.set_cons_succ]
          refine anyE_ready (rs := [19]) (by kernel_rfl) (by simp) (AllE.end_ rfl (fun K hK => ?_))
          have x2 := (HRU.out.next hH.out).blk.cell 2 _ rfl
          have f2 := (HRU.out.next hH.out).blk.frozen 2
          go_simp
          clear x2 f2
          refine hK.out _ _ ?_
          clear hK K
          try simp only [Act.put, List.setIfInBounds_toArray, List.set_cons_zero, List.set_cons_succ]
          refine anyE_done (by kernel_rfl) ?_ _
          obtain ⟨hR, hO⟩ := HRU.out.flows hH.out (fs' := upd ⟨k, x, d⟩ fs) (vf' := .slice A5 (r + 1 + (L - r)) c5) (by rw [HLD.out, ← HFS.out]; exact ho15.out)
          have HRM := Lib.hid (H6.out.right (fs' := upd ⟨k, x, d⟩ fs) ⟨⟨_, hR⟩, oks_upd HOK.out HG.out, HPW.out⟩ hO (fun j hj => hj.imp id fun h => h.1))
          clear hR hO hH HT HD
          go_wp2_with fail
          go_ret
          exact ⟨_, _, rfl, HRM.out⟩
      · go_simp
        refine hK.out _ _ (Lib.hid ((Below.refl w6.heap.size w6).alloc (Nat.le_refl _) _).drew) (fun hH => ?_)
        clear hK K
        have HRO : Hid (Rd (w6.alloc (.cells #[.int .u32 (k.a : Int), .int .u32 (k.b : Int), .int .u16 (k.p : Int), .int .u16 (k.q : Int), .int .u8 (k.r : Int), .int .i64 x, .bool d] 96)).drew (w6.alloc (.cells #[.int .u32 (k.a : Int), .int .u32 (k.b : Int), .int .u16 (k.p : Int), .int .u16 (k.q : Int), .int .u8 (k.r : Int), .int .i64 x, .bool d] 96)).drew.heap.size 7 1 (.slice (some ⟨w6.heap.size, 0, none⟩) 1 1) (g7 ⟨k, x, d⟩)) := Rd.next (rd_one w6 ⟨k, x, d⟩) (Below.refl _ _).drew
        have HGL : Hid (w6.heap.size < (w6.alloc (.cells #[.int .u32 (k.a : Int), .int .u32 (k.b : Int), .int .u16 (k.p : Int), .int .u16 (k.q : Int), .int .u8 (k.r : Int), .int .i64 x, .bool d] 96)).drew.heap.size) := (by show w6.heap.size < (w6.alloc (.cells #[.int .u32 (k.a : Int), .int .u32 (k.b : Int), .int .u16 (k.p : Int), .int .u16 (k.q : Int), .int .u8 (k.r : Int), .int .i64 x, .bool d] 96)).heap.size; rw [World.size_alloc]; omega)
        have HLS : Hid (w6.heap.size ≤ (w6.alloc (.cells #[.int .u32 (k.a : Int), .int .u32 (k.b : Int), .int .u16 (k.p : Int), .int .u16 (k.q : Int), .int .u8 (k.r : Int), .int .i64 x, .bool d] 96)).drew.heap.size) := Nat.le_of_lt HGL.out
        generalize (w6.alloc (.cells #[.int .u32 (k.a : Int), .int .u32 (k.b : Int), .int .u16 (k.p : Int), .int .u16 (k.q : Int), .int .u8 (k.r : Int), .int .i64 x, .bool d] 96)).drew = wL at hH HRO HGL HLS ⊢
        obtain ⟨gl, hgl⟩ : ∃ q, (⟨w6.heap.size, 0, none⟩ : Addr) = ⟨q, 0, none⟩ := ⟨_, rfl⟩
        rw [hgl] at HRO ⊢
        have hgl2 : w6.heap.size = gl := congrArg Addr.block hgl
        rw [hgl2] at HGL
        clear hgl hgl2
        try simp only [Act.put, List.setIfInBounds_toArray, List.set_cons_zero, List.set_cons_succ]
        refine anyE_ready (rs := [1]) (by kernel_rfl) (by simp) (AllE.cons rfl (fun K hK => ?_) (AllE.nil))
        go_simp
        refine hK.out _ _ (Lib.hid (hH.out.trans ((below_box wL (.cells #[] 96)).mono hH.out.size))) (fun hH => ?_)
        clear hK K
        have HO : Hid ((wL.alloc (.cells #[] 96)).ownsRow w6.heap.size 96 7 (.slice (some ⟨wL.heap.size, 0, none⟩) 0 0) 0 []) := World.ownsRow_made wL #[] 0 HLS.out (by unfold maxLen; omega) (by simp)
        replace HRO := Lib.hid (HRO.out.next (below_box wL (.cells #[] 96)))
        have HNE : Hid (∀ g, (Value.slice (some ⟨wL.heap.size, 0, none⟩) 0 0).ownBlock = some g → g ≠ gl) := fun g e => by obtain rfl := Option.some.inj e; exact (Nat.ne_of_lt HGL.out).symm
        obtain ⟨wM, hwM⟩ : ∃ q, wL.alloc (.cells #[] 96) = q := ⟨_, rfl⟩
        rw [hwM] at hH HO HRO ⊢
        obtain ⟨v0, hv0⟩ : ∃ v, Value.slice (some ⟨wL.heap.size, 0, none⟩) 0 0 = v := ⟨_, rfl⟩
        rw [hv0] at HO HNE ⊢
        clear hv0 hwM HGL HLS
        try simp only [Act.put, List.setIfInBounds_toArray, List.set_cons_zero, List.set_cons_succ]
        refine anyE_ready (rs := [8]) (by kernel_rfl) (by simp) (AllE.cons rfl (fun K hK => ?_) (AllE.nil))
        refine step_append_rd rfl (.tmp 49) (.tmp 55) 80 96 rfl Try.underlying80 _ 7 32 flow_info rfl (by omega) (by omega) w6 hH.out _ 0 [] rfl HO.out _ r _ (gvs (fs.take r)) rfl (HT.out _ hH.out) (gvs_one _) r (by omega) (by omega) ?_
        intro A2 c3 w13 ho13 hb13 hg13
        change K (Act.put _ (some 56) _) _
        refine hK.out _ _ (hb13) (fun hH => ?_)
        clear hK K
        replace HRO := Lib.hid (HRO.out.only (Only.grown (O := fun j => v0.ownBlock = some j) hg13.out fun k e => e) (fun g e e2 => HNE.out g e2 (Option.some.inj e).symm))
        clear HO hg13 hb13 HNE
        try simp only [Act.put, List.setIfInBounds_toArray, List.set_cons_zero, List.set_cons_succ]
        refine anyE_ready (rs := [14]) (by kernel_rfl) (by simp) (AllE.cons rfl (fun K hK => ?_) (AllE.nil))
        refine step_append_rd rfl (.tmp 56) (.tmp 61) 80 96 rfl Try.underlying80 _ 7 32 flow_info rfl (by omega) (by omega) w6 hH.out _ r ([] ++ gvs (fs.take r)) rfl ho13.out _ 1 _ (g7 ⟨k, x, d⟩) rfl HRO.out g7_one (r + 1) rfl (by omega) ?_
        intro A4 c4 w14 ho14 hb14 hg14
        change K (Act.put _ (some 62) _) _
        refine hK.out _ _ (hb14) (fun hH => ?_)
        clear hK K
        clear ho13 HRO hg14 hb14
        try simp only [Act.put, List.setIfInBounds_toArray, List.set_cons_zero, List.set_cons_succ]
        refine anyE_ready (rs := [16]) (by kernel_rfl) (by simp) (AllE.cons rfl (fun K hK => ?_) (AllE.nil))
        refine step_append_rd rfl (.tmp 62) (.tmp 63) 80 96 rfl Try.underlying80 _ 7 32 flow_info rfl (by omega) (by omega) w6 hH.out _ (r + 1) ([] ++ gvs (fs.take r) ++ g7 ⟨k, x, d⟩) rfl ho14.out _ (L - r) _ (gvs (fs.drop (r))) rfl (HD.out _ hH.out) (gvs_one _) (r + 1 + (L - r)) (by omega) (by omega) ?_
        intro A5 c5 w15 ho15 hb15 hg15
        change K (Act.put _ (some 64) _) _
        refine hK.out _ _ (hb15) (fun hH => ?_)
        clear hK K
        clear ho14 hg15 hb15
        try simp only [Act.put, List.setIfInBounds_toArray, List.set_cons_zero, List.set_cons_succ]
        refine anyE_ready (rs := [17]) (by kernel_rfl) (by simp) (AllE.cons rfl (fun K hK => ?_) (AllE.nil))
        go_simp
        refine hK.out _ _ (hH) (fun hH => ?_)
        clear hK K
        try simp only [Act.put, List.setIfInBounds_toArray, List.set_cons_zero, List.set_cons_succ]
        refine anyE_take (i := 18) (oi := ⟨some 66, _, _, _, _, _⟩) (v := ?v1615) rfl (by kernel_rfl) (by kernel_rfl) (by kernel_rfl) (by kernel_rfl) (fun _ _ _ h => h) (Or.inl ⟨rfl, ?c1615⟩) hH ?r1615
        case c1615 => (intro w' _; go_simp; (try with_reducible rfl))
        try simp only [Act.put, List.setIfInBounds_toArray, List.set_cons_zero, List.set_cons_succ]
        refine anyE_ready (rs := [19]) (by kernel_rfl) (by simp) (AllE.end_ rfl (fun K hK => ?_))
        have x2 := (HRU.out.next hH.out).blk.cell 2 _ rfl
        have f2 := (HRU.out.next hH.out).blk.frozen 2
        go_simp
        clear x2 f2
        refine hK.out _ _ ?_
        clear hK K
        try simp only [Act.put, List.setIfInBounds_toArray, List.set_cons_zero, List.set_cons_succ]
        refine anyE_done (by kernel_rfl) ?_ _
        obtain ⟨hR, hO⟩ := HRU.out.flows hH.out (fs' := upd ⟨k, x, d⟩ fs) (vf' := .slice A5 (r + 1 + (L - r)) c5) (by rw [HLD.out, ← HFS.out]; exact ho15.out)
        have HRM := Lib.hid (H6.out.right (fs' := upd ⟨k, x, d⟩ fs) ⟨⟨_, hR⟩, oks_upd HOK.out HG.out, HPW.out⟩ hO (fun j hj => hj.imp id fun h => h.1))
        clear hR hO hH HT HD
        go_wp2_with fail
        go_ret
        exact ⟨_, _, rfl, HRM.out⟩
end
end R
end Tb
end Go.Proofs.Ytgcnhbjoalemlaa
