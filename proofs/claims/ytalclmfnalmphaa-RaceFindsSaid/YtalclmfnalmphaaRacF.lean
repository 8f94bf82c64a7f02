/- Layer 24: record. (Written by wip/tools/mkRacF.py.) -/
import Derived.Test.YtalclmfnalmphaaRacD
import Derived.Test.YtalclmfnalmphaaRacE
set_option linter.unusedVariables false
set_option linter.unusedSimpArgs false
set_option maxRecDepth 100000
namespace Go.Proofs.Ytalclmfnalmphaa
open Go.ChangeShapes Go.WideShapes Go.ChangeAt Go.RowKit Go.Mtl Go.Lib
namespace Rc
open RcM
section
variable {w w' : World} {p m1 m2 m3 m4 m : Nat} {V : Vc} {f : Int → Ck}
theorem only_drew {O : Nat → Prop} (h : Only O w w') : Only O w w'.drew := ⟨h.os, h.tape, h.output, h.size, h.block⟩
theorem only_cells (b : Nat) (vs : List Value) : ∀ (o : Nat) (w : World), Only (· = b) w (w.setCells b o vs) := by
  induction vs with
  | nil => exact fun o w => Only.refl _ w
  | cons v vs ih => exact fun o w => ((Only.refl (· = b) w).setCell (p := ⟨b, o, none⟩) (.inl rfl) v).trans (ih (o + 1) _) fun j e => .inl e
theorem there_part {b n o k : Nat} (h : w.there b 0 n) (hk : o + k ≤ n) : w.there b o k := fun j hj => by
  have := h (o + j) (by omega)
  simpa using this
/-- One thread's clock is stored. -/
theorem Pa.thread (H : Pa w p m1 m2 m3 m4 V) {tn : Nat} (ht : tn < 64) (kn : Ck) : Pa (w.setCells p (tn * 64) (ckL kn)) p m1 m2 m3 m4 { V with c := fun t => if t = tn then kn else V.c t } := by
  have ho := only_cells p (ckL kn) (tn * 64) w
  have hl := ckL_len kn
  have hth : w.there p (tn * 64) (ckL kn).length := there_part H.wt (by omega)
  have hne : ∀ j, j ∈ [m1, m2, m3, m4] → j ≠ p := fun j hj e => (List.nodup_cons.1 H.nd).1 (e ▸ hj)
  have out : ∀ o v, 4096 ≤ o → w.cell? ⟨p, o, none⟩ = some v → (w.setCells p (tn * 64) (ckL kn)).cell? ⟨p, o, none⟩ = some v := fun o v h1 h2 => by
    rw [World.cell?_setCells_out p (ckL kn) (tn * 64) w ⟨p, o, none⟩ fun _ _ => .inr (by show tn * 64 + (ckL kn).length ≤ o; omega)]
    exact h2
  refine { th := fun t ht' => ?_, wt := World.there_setCells H.wt _ _ _, c1 := out _ _ (by omega) H.c1, c2 := out _ _ (by omega) H.c2, c3 := out _ _ (by omega) H.c3, c4 := out _ _ (by omega) H.c4
           M1 := H.M1.keep (ho.block m1 H.M1.lt (hne m1 (by simp))), M2 := H.M2.keep (ho.block m2 H.M2.lt (hne m2 (by simp))), M3 := H.M3.keep (ho.block m3 H.M3.lt (hne m3 (by simp))), M4 := H.M4.keep (ho.block m4 H.M4.lt (hne m4 (by simp))), nd := H.nd }
  dsimp only
  by_cases e : t = tn
  · subst e
    rw [if_pos rfl]
    exact World.rangeAt_setCells_same w p (t * 64) (ckL kn) hth
  · rw [if_neg e]
    refine World.rangeAt_setCells_apart (H.th t ht') _ _ _ (.inr ?_)
    rw [ckL_len, ckL_len]
    omega
theorem Pa.map1 (H : Pa w p m1 m2 m3 m4 V) (h : Mc w' m1 f) (ho : Only (· = m1) w w') : Pa w' p m1 m2 m3 m4 { V with un := f } := by
  have nd := H.nd
  simp only [List.nodup_cons, List.mem_cons, List.not_mem_nil, or_false, not_or] at nd
  have hp := ho.block p H.plt (by omega)
  have hc : ∀ o, w'.cell? ⟨p, o, none⟩ = w.cell? ⟨p, o, none⟩ := fun o => World.cell?_of_block (w := w) (a := ⟨p, o, none⟩) hp
  have hf : ∀ o, w'.frozen? ⟨p, o, none⟩ = w.frozen? ⟨p, o, none⟩ := fun o => World.frozen?_of_block (w := w) (a := ⟨p, o, none⟩) hp
  exact { th := fun t ht j v hv => (hc _).trans (H.th t ht j v hv), wt := fun j hj => ⟨by rw [hc]; exact (H.wt j hj).1, by rw [hf]; exact (H.wt j hj).2⟩
          c1 := (hc _).trans H.c1, c2 := (hc _).trans H.c2, c3 := (hc _).trans H.c3, c4 := (hc _).trans H.c4
          M1 := h, M2 := H.M2.keep (ho.block m2 H.M2.lt (by omega)), M3 := H.M3.keep (ho.block m3 H.M3.lt (by omega)), M4 := H.M4.keep (ho.block m4 H.M4.lt (by omega)), nd := H.nd }
theorem Pa.map2 (H : Pa w p m1 m2 m3 m4 V) (h : Mc w' m2 f) (ho : Only (· = m2) w w') : Pa w' p m1 m2 m3 m4 { V with st := f } := by
  have nd := H.nd
  simp only [List.nodup_cons, List.mem_cons, List.not_mem_nil, or_false, not_or] at nd
  have hp := ho.block p H.plt (by omega)
  have hc : ∀ o, w'.cell? ⟨p, o, none⟩ = w.cell? ⟨p, o, none⟩ := fun o => World.cell?_of_block (w := w) (a := ⟨p, o, none⟩) hp
  have hf : ∀ o, w'.frozen? ⟨p, o, none⟩ = w.frozen? ⟨p, o, none⟩ := fun o => World.frozen?_of_block (w := w) (a := ⟨p, o, none⟩) hp
  exact { th := fun t ht j v hv => (hc _).trans (H.th t ht j v hv), wt := fun j hj => ⟨by rw [hc]; exact (H.wt j hj).1, by rw [hf]; exact (H.wt j hj).2⟩
          c1 := (hc _).trans H.c1, c2 := (hc _).trans H.c2, c3 := (hc _).trans H.c3, c4 := (hc _).trans H.c4
          M1 := H.M1.keep (ho.block m1 H.M1.lt (by omega)), M2 := h, M3 := H.M3.keep (ho.block m3 H.M3.lt (by omega)), M4 := H.M4.keep (ho.block m4 H.M4.lt (by omega)), nd := H.nd }
theorem Pa.map3 (H : Pa w p m1 m2 m3 m4 V) (h : Mc w' m3 f) (ho : Only (· = m3) w w') : Pa w' p m1 m2 m3 m4 { V with rd := f } := by
  have nd := H.nd
  simp only [List.nodup_cons, List.mem_cons, List.not_mem_nil, or_false, not_or] at nd
  have hp := ho.block p H.plt (by omega)
  have hc : ∀ o, w'.cell? ⟨p, o, none⟩ = w.cell? ⟨p, o, none⟩ := fun o => World.cell?_of_block (w := w) (a := ⟨p, o, none⟩) hp
  have hf : ∀ o, w'.frozen? ⟨p, o, none⟩ = w.frozen? ⟨p, o, none⟩ := fun o => World.frozen?_of_block (w := w) (a := ⟨p, o, none⟩) hp
  exact { th := fun t ht j v hv => (hc _).trans (H.th t ht j v hv), wt := fun j hj => ⟨by rw [hc]; exact (H.wt j hj).1, by rw [hf]; exact (H.wt j hj).2⟩
          c1 := (hc _).trans H.c1, c2 := (hc _).trans H.c2, c3 := (hc _).trans H.c3, c4 := (hc _).trans H.c4
          M1 := H.M1.keep (ho.block m1 H.M1.lt (by omega)), M2 := H.M2.keep (ho.block m2 H.M2.lt (by omega)), M3 := h, M4 := H.M4.keep (ho.block m4 H.M4.lt (by omega)), nd := H.nd }
theorem Pa.map4 (H : Pa w p m1 m2 m3 m4 V) (h : Mc w' m4 f) (ho : Only (· = m4) w w') : Pa w' p m1 m2 m3 m4 { V with wr := f } := by
  have nd := H.nd
  simp only [List.nodup_cons, List.mem_cons, List.not_mem_nil, or_false, not_or] at nd
  have hp := ho.block p H.plt (by omega)
  have hc : ∀ o, w'.cell? ⟨p, o, none⟩ = w.cell? ⟨p, o, none⟩ := fun o => World.cell?_of_block (w := w) (a := ⟨p, o, none⟩) hp
  have hf : ∀ o, w'.frozen? ⟨p, o, none⟩ = w.frozen? ⟨p, o, none⟩ := fun o => World.frozen?_of_block (w := w) (a := ⟨p, o, none⟩) hp
  exact { th := fun t ht j v hv => (hc _).trans (H.th t ht j v hv), wt := fun j hj => ⟨by rw [hc]; exact (H.wt j hj).1, by rw [hf]; exact (H.wt j hj).2⟩
          c1 := (hc _).trans H.c1, c2 := (hc _).trans H.c2, c3 := (hc _).trans H.c3, c4 := (hc _).trans H.c4
          M1 := H.M1.keep (ho.block m1 H.M1.lt (by omega)), M2 := H.M2.keep (ho.block m2 H.M2.lt (by omega)), M3 := H.M3.keep (ho.block m3 H.M3.lt (by omega)), M4 := h, nd := H.nd }
end
set_option maxHeartbeats 4000000 in
theorem record_any {w : World} {p m1 m2 m3 m4 : Nat} {V : Vc} (H : Pa w p m1 m2 m3 m4 V) (x : A) (h0 : 0 ≤ x.t) (h1 : x.t ≤ 63) (kn : Ck) : Calls Try.prog 14 #[.pointer (some ⟨p, 0, none⟩), .agg (acc x), .agg (ckA kn)] w fun e w' => e = .returned (.tuple #[]) ∧ Pa w' p m1 m2 m3 m4 (record V x kn) ∧ Only (fun j => j = p ∨ j ∈ [m1, m2, m3, m4]) w w' := by
  obtain ⟨t, k, pl⟩ := x
  dsimp only at h0 h1
  obtain ⟨tn, rfl⟩ : ∃ n : Nat, t = (n : Int) := ⟨t.toNat, by omega⟩
  obtain ⟨O5, hO5⟩ : ∃ O : Nat → Prop, (fun j => j = p ∨ j ∈ [m1, m2, m3, m4]) = O := ⟨_, rfl⟩
  rw [hO5]
  obtain ⟨V1, hV1⟩ : ∃ V1 : Vc, { V with c := fun t => if t = tn then kn else V.c t } = V1 := ⟨_, rfl⟩
  have hb1 : Below w.heap.size w ((w.alloc (.cells (acc ⟨(tn : Int), k, pl⟩) 32)).alloc (.cells (ckA kn) 39)) := ((Below.refl _ w).alloc (Nat.le_refl _) _).alloc (by simp) _
  have HP1 := Lib.hid (H.next hb1)
  have hx1 := (Blk.box w (acc ⟨(tn : Int), k, pl⟩) 32).alloc (.cells (ckA kn) 39)
  have hr1 := Blk.box1 w (.cells (acc ⟨(tn : Int), k, pl⟩) 32) (ckA kn) 39
  have HX1 := Lib.hid hx1
  have HR1 := Lib.hid hr1
  have hpl := H.plt
  have ho2 := only_cells p (ckL kn) (tn * 64) ((w.alloc (.cells (acc ⟨(tn : Int), k, pl⟩) 32)).alloc (.cells (ckA kn) 39)).drew
  have HX2 : Hid (Blk (World.setCells ((w.alloc (.cells (acc ⟨(tn : Int), k, pl⟩) 32)).alloc (.cells (ckA kn) 39)).drew p (tn * 64) (ckA kn).toList) w.heap.size (acc ⟨(tn : Int), k, pl⟩) 32) := hx1.drew.only ho2 (by omega)
  have HR2 : Hid (Blk (World.setCells ((w.alloc (.cells (acc ⟨(tn : Int), k, pl⟩) 32)).alloc (.cells (ckA kn) 39)).drew p (tn * 64) (ckA kn).toList) (w.heap.size + 1) (ckA kn) 39) := hr1.drew.only ho2 (by omega)
  have HP2 : Hid (Pa (World.setCells ((w.alloc (.cells (acc ⟨(tn : Int), k, pl⟩) 32)).alloc (.cells (ckA kn) 39)).drew p (tn * 64) (ckA kn).toList) p m1 m2 m3 m4 V1) := by
    have := HP1.out.drew.thread (tn := tn) (by omega) kn
    rw [hV1] at this
    exact this
  have HO2 : Hid (Only O5 w (World.setCells ((w.alloc (.cells (acc ⟨(tn : Int), k, pl⟩) 32)).alloc (.cells (ckA kn) 39)).drew p (tn * 64) (ckA kn).toList)) := (Only.of_below hb1.drew).trans ho2 fun j e => .inl (by rw [← hO5]; exact .inl e)
  have HS2 : Hid (((fun w' => w'.cell? ⟨w.heap.size, 0, none⟩ = some (.int .i64 (tn : Int)) ∧ Hid (Blk w' (w.heap.size + 1) (ckA kn) 39)) : World → Prop) (World.setCells ((w.alloc (.cells (acc ⟨(tn : Int), k, pl⟩) 32)).alloc (.cells (ckA kn) 39)).drew p (tn * 64) (ckA kn).toList)) := ⟨HX2.out.cell 0 _ rfl, (show Hid _ from HR2.out)⟩
  have HV1 := Lib.hid hV1
  have HO5 := Lib.hid hO5
  clear H hb1 hx1 hr1 ho2 hpl hV1 hO5
  go_in
  go_wp2_with fail
  refine wp_region_held_drew (S := (fun w' => w'.cell? ⟨w.heap.size, 0, none⟩ = some (.int .i64 (tn : Int)) ∧ Hid (Blk w' (w.heap.size + 1) (ckA kn) 39))) (by kernel_rfl) (⟨HX1.out.drew.cell 0 _ rfl, (show Hid _ from HR1.out.drew)⟩) (fun hH => ?_)
  refine wpAnyH_take (i := 0) (oi := ⟨some 6, _, _, _, _, _⟩) (v := ?v1) rfl (by kernel_rfl) (by kernel_rfl) (by kernel_rfl) (fun _ _ _ h => h) (Or.inl ⟨rfl, ?c1⟩) hH ?r1
  case c1 => (intro w' _; go_simp; (try with_reducible rfl))
  try simp only [Act.put, List.setIfInBounds_toArray, List.set_cons_zero, List.set_cons_succ]
  refine wpAnyH_take (i := 1) (oi := ⟨some 7, _, _, _, _, _⟩) (v := ?v2) rfl (by kernel_rfl) (by kernel_rfl) (by kernel_rfl) (fun _ _ _ h => h) (Or.inl ⟨rfl, ?c2⟩) hH ?r2
  case c2 => (intro w' _; go_simp; (try with_reducible rfl))
  try simp only [Act.put, List.setIfInBounds_toArray, List.set_cons_zero, List.set_cons_succ]
  refine wpAnyH_take (i := 2) (oi := ⟨some 8, _, _, _, _, _⟩) (v := ?v3) rfl (by kernel_rfl) (by kernel_rfl) (by kernel_rfl) (fun _ _ _ h => h) (Or.inl ⟨rfl, ?c3⟩) hH ?r3
  case c3 => (intro w' hS; (try dsimp only at hS); go_simp; (try with_reducible rfl))
  try simp only [Act.put, List.setIfInBounds_toArray, List.set_cons_zero, List.set_cons_succ]
  refine wpAnyH_take (i := 3) (oi := ⟨some 9, _, _, _, _, _⟩) (v := ?v4) rfl (by kernel_rfl) (by kernel_rfl) (by kernel_rfl) (fun _ _ _ h => h) (Or.inl ⟨rfl, ?c4⟩) hH ?r4
  case c4 => (intro w' hS; refine take_load_row 39 (.tmp 5) ?_ (w.heap.size + 1) ?_ hS.2.out ck_is rfl (ck_size _) <;> rfl)
  try simp only [Act.put, List.setIfInBounds_toArray, List.set_cons_zero, List.set_cons_succ]
  refine wpAnyH_take (i := 4) (oi := ⟨some 10, _, _, _, _, _⟩) (v := ?v5) rfl (by kernel_rfl) (by kernel_rfl) (by kernel_rfl) (fun _ _ _ h => h) (Or.inl ⟨rfl, ?c5⟩) hH ?r5
  case c5 => (intro w' _; go_simp; (try with_reducible rfl))
  try simp only [Act.put, List.setIfInBounds_toArray, List.set_cons_zero, List.set_cons_succ]
  refine wpAnyH_take (i := 5) (oi := ⟨some 11, _, _, _, _, _⟩) (v := ?v6) rfl (by kernel_rfl) (by kernel_rfl) (by kernel_rfl) (fun _ _ _ h => h) (Or.inl ⟨rfl, ?c6⟩) hH ?r6
  case c6 => (intro w' _; go_simp; (try with_reducible rfl))
  try simp only [Act.put, List.setIfInBounds_toArray, List.set_cons_zero, List.set_cons_succ]
  refine wpAnyH_take (i := 6) (oi := ⟨some 12, _, _, _, _, _⟩) (v := ?v7) rfl (by kernel_rfl) (by kernel_rfl) (by kernel_rfl) (fun _ _ _ h => h) (Or.inl ⟨rfl, ?c7⟩) hH ?r7
  case c7 => (intro w' _; go_simp; rw [if_pos (by omega)])
  try simp only [Act.put, List.setIfInBounds_toArray, List.set_cons_zero, List.set_cons_succ]
  refine wpAnyH_ready (rs := [7]) (by kernel_rfl) (by simp) (AllReadyH.cons rfl (fun K hK => ?_) (AllReadyH.nil))
  refine step_store_mid rfl 39 (.tmp 12) (.tmp 9) rfl p (tn * 64) (ckA kn) rfl rfl (there_part HP1.out.drew.wt (by rw [ckA_size]; omega)) (ck_size _) (ckA_all _) ?_
  refine hK.out _ _ (HS2.out) (fun hH => ?_)
  clear hK K
  clear hH
  try simp only [Act.put, List.setIfInBounds_toArray, List.set_cons_zero, List.set_cons_succ]
  refine wpAnyH_done (by kernel_rfl) ?_ _
  
  clear HS2 HP1 HX1 HR1
  generalize (World.setCells ((w.alloc (.cells (acc ⟨(tn : Int), k, pl⟩) 32)).alloc (.cells (ckA kn) 39)).drew p (tn * 64) (ckA kn).toList) = w2 at *
  have y1 := HX2.out.cell 1 _ rfl
  by_cases k2 : k = 2
  · subst k2
    have HK : Hid (record V ⟨(tn : Int), 2, pl⟩ kn = { V1 with un := setP V1.un pl (mx (V1.un pl) kn) }) := by show _ = _; rw [← HV1.out]; rfl
    go_wp2_with fail
    refine region_e (S := (fun w' => w'.cell? ⟨w.heap.size, 2, none⟩ = some (.int .i64 pl) ∧ Hid (Pa w' p m1 m2 m3 m4 V1) ∧ w'.cell? ⟨p, 4096, none⟩ = some (.map (some m1)) ∧ Hid (Blk w' (w.heap.size + 1) (ckA kn) 39) ∧ Hid (Blk w' w.heap.size (acc ⟨(tn : Int), 2, pl⟩) 32) ∧ Hid (Only O5 w w'))) 15 (by kernel_rfl) (⟨HX2.out.drew.cell 2 _ rfl, (show Hid _ from HP2.out.drew), HP2.out.drew.c1, (show Hid _ from HR2.out.drew), (show Hid _ from HX2.out.drew), (show Hid _ from only_drew HO2.out)⟩) (fun hH => ?_)
    refine anyE_take (i := 0) (oi := ⟨some 17, _, _, _, _, _⟩) (v := ?v101) rfl (by kernel_rfl) (by kernel_rfl) (by kernel_rfl) (by kernel_rfl) (fun _ _ _ h => h) (Or.inl ⟨rfl, ?c101⟩) hH ?r101
    case c101 => (intro w' _; go_simp; (try with_reducible rfl))
    try simp only [Act.put, List.setIfInBounds_toArray, List.set_cons_zero, List.set_cons_succ]
    refine anyE_take (i := 1) (oi := ⟨some 18, _, _, _, _, _⟩) (v := ?v102) rfl (by kernel_rfl) (by kernel_rfl) (by kernel_rfl) (by kernel_rfl) (fun _ _ _ h => h) (Or.inl ⟨rfl, ?c102⟩) hH ?r102
    case c102 => (intro w' _; go_simp; (try with_reducible rfl))
    try simp only [Act.put, List.setIfInBounds_toArray, List.set_cons_zero, List.set_cons_succ]
    refine anyE_take (i := 2) (oi := ⟨some 19, _, _, _, _, _⟩) (v := ?v103) rfl (by kernel_rfl) (by kernel_rfl) (by kernel_rfl) (by kernel_rfl) (fun _ _ _ h => h) (Or.inl ⟨rfl, ?c103⟩) hH ?r103
    case c103 => (intro w' _; go_simp; (try with_reducible rfl))
    try simp only [Act.put, List.setIfInBounds_toArray, List.set_cons_zero, List.set_cons_succ]
    refine anyE_take (i := 3) (oi := ⟨some 20, _, _, _, _, _⟩) (v := ?v104) rfl (by kernel_rfl) (by kernel_rfl) (by kernel_rfl) (by kernel_rfl) (fun _ _ _ h => h) (Or.inl ⟨rfl, ?c104⟩) hH ?r104
    case c104 => (intro w' hS; (try dsimp only at hS); go_simp; (try with_reducible rfl))
    try simp only [Act.put, List.setIfInBounds_toArray, List.set_cons_zero, List.set_cons_succ]
    refine anyE_take (i := 4) (oi := ⟨some 21, _, _, _, _, _⟩) (v := ?v105) rfl (by kernel_rfl) (by kernel_rfl) (by kernel_rfl) (by kernel_rfl) (fun _ _ _ h => h) (Or.inl ⟨rfl, ?c105⟩) hH ?r105
    case c105 => (intro w' _; go_simp; (try with_reducible rfl))
    try simp only [Act.put, List.setIfInBounds_toArray, List.set_cons_zero, List.set_cons_succ]
    refine anyE_take (i := 5) (oi := ⟨some 22, _, _, _, _, _⟩) (v := ?v106) rfl (by kernel_rfl) (by kernel_rfl) (by kernel_rfl) (by kernel_rfl) (fun _ _ _ h => h) (Or.inl ⟨rfl, ?c106⟩) hH ?r106
    case c106 => (intro w' hS; (try dsimp only at hS); go_simp; (try with_reducible rfl))
    try simp only [Act.put, List.setIfInBounds_toArray, List.set_cons_zero, List.set_cons_succ]
    refine anyE_take (i := 6) (oi := ⟨some 23, _, _, _, _, _⟩) (v := ?v107) rfl (by kernel_rfl) (by kernel_rfl) (by kernel_rfl) (by kernel_rfl) (fun _ _ _ h => h) (Or.inl ⟨rfl, ?c107⟩) hH ?r107
    case c107 => (intro w' _; go_simp; (try with_reducible rfl))
    try simp only [Act.put, List.setIfInBounds_toArray, List.set_cons_zero, List.set_cons_succ]
    refine anyE_take (i := 7) (oi := ⟨some 24, _, _, _, _, _⟩) (v := ?v108) rfl (by kernel_rfl) (by kernel_rfl) (by kernel_rfl) (by kernel_rfl) (fun _ _ _ h => h) (Or.inl ⟨rfl, ?c108⟩) hH ?r108
    case c108 => (intro w' _; go_simp; (try with_reducible rfl))
    try simp only [Act.put, List.setIfInBounds_toArray, List.set_cons_zero, List.set_cons_succ]
    refine anyE_take (i := 8) (oi := ⟨some 25, _, _, _, _, _⟩) (v := ?v109) rfl (by kernel_rfl) (by kernel_rfl) (by kernel_rfl) (by kernel_rfl) (fun _ _ _ h => h) (Or.inl ⟨rfl, ?c109⟩) hH ?r109
    case c109 => (intro w' _; go_simp; (try with_reducible rfl))
    try simp only [Act.put, List.setIfInBounds_toArray, List.set_cons_zero, List.set_cons_succ]
    refine anyE_take (i := 9) (oi := ⟨some 26, _, _, _, _, _⟩) (v := ?v110) rfl (by kernel_rfl) (by kernel_rfl) (by kernel_rfl) (by kernel_rfl) (fun _ _ _ h => h) (Or.inl ⟨rfl, ?c110⟩) hH ?r110
    case c110 => (intro w' hS; (try dsimp only at hS); go_simp; (try with_reducible rfl))
    try simp only [Act.put, List.setIfInBounds_toArray, List.set_cons_zero, List.set_cons_succ]
    refine anyE_take (i := 10) (oi := ⟨some 27, _, _, _, _, _⟩) (v := ?v111) rfl (by kernel_rfl) (by kernel_rfl) (by kernel_rfl) (by kernel_rfl) (fun _ _ _ h => h) (Or.inl ⟨rfl, ?c111⟩) hH ?r111
    case c111 => (intro w' _; go_simp; (try with_reducible rfl))
    try simp only [Act.put, List.setIfInBounds_toArray, List.set_cons_zero, List.set_cons_succ]
    refine anyE_take (i := 11) (oi := ⟨some 28, _, _, _, _, _⟩) (v := ?v112) rfl (by kernel_rfl) (by kernel_rfl) (by kernel_rfl) (by kernel_rfl) (fun _ _ _ h => h) (Or.inl ⟨rfl, ?c112⟩) hH ?r112
    case c112 => (intro w' hS; (try dsimp only at hS); go_simp; (try with_reducible rfl))
    try simp only [Act.put, List.setIfInBounds_toArray, List.set_cons_zero, List.set_cons_succ]
    refine anyE_take (i := 12) (oi := ⟨some 29, _, _, _, _, _⟩) (v := ?v113) rfl (by kernel_rfl) (by kernel_rfl) (by kernel_rfl) (by kernel_rfl) (fun _ _ _ h => h) (Or.inl ⟨rfl, ?c113⟩) hH ?r113
    case c113 => (intro w' hS; refine take_look (v := .agg (ckA (V1.un pl))) 37 (.tmp 26) (.tmp 28) ?_ m1 pl ?_ ?_ (Mc.look hS.2.1.out.M1 pl) <;> rfl)
    try simp only [Act.put, List.setIfInBounds_toArray, List.set_cons_zero, List.set_cons_succ]
    refine anyE_take (i := 13) (oi := ⟨some 30, _, _, _, _, _⟩) (v := ?v114) rfl (by kernel_rfl) (by kernel_rfl) (by kernel_rfl) (by kernel_rfl) (fun _ _ _ h => h) (Or.inl ⟨rfl, ?c114⟩) hH ?r114
    case c114 => (intro w' hS; refine take_load_row 39 (.tmp 5) ?_ (w.heap.size + 1) ?_ hS.2.2.2.1.out ck_is rfl (ck_size _) <;> rfl)
    try simp only [Act.put, List.setIfInBounds_toArray, List.set_cons_zero, List.set_cons_succ]
    refine anyE_ready (rs := [14]) (by kernel_rfl) (by simp) (AllE.cons rfl (fun K hK => ?_) (AllE.nil))
    go_simp
    go_at_call 19
    refine (with_any _ _ _).mono ?_
    rintro e w3 ⟨rfl, hb3⟩
    refine hK.out _ _ (⟨(hb3.cell (p := ⟨w.heap.size, 2, none⟩) (by have := hH.2.2.2.1.out.lt; show w.heap.size < _; omega)).trans hH.1, (show Hid _ from hH.2.1.out.next hb3), (hb3.cell (p := ⟨p, 4096, none⟩) hH.2.1.out.plt).trans hH.2.2.1, (show Hid _ from hH.2.2.2.1.out.next hb3), (show Hid _ from hH.2.2.2.2.1.out.next hb3), (show Hid _ from hH.2.2.2.2.2.out.next hb3)⟩) (fun hH => ?_)
    clear hK K
    clear hb3
    try simp only [Act.put, List.setIfInBounds_toArray, List.set_cons_zero, List.set_cons_succ]
    refine anyE_ready (rs := [15]) (by kernel_rfl) (by simp) (AllE.end_ rfl (fun K hK => ?_))
    obtain ⟨w4, r1, r2, r3⟩ := hH.2.1.out.M1.put pl (mx (V1.un pl) kn)
    have hPm := (hH.2.1.out.map1 r2 r3)
    have hOm := hH.2.2.2.2.2.out.trans r3 fun j e => .inl (by rw [← HO5.out, e]; exact .inr (by simp))
    have HR1' := Lib.hid r1
    clear r1 r2 r3
    refine step_map_put rfl 37 (.tmp 20) (.tmp 22) (.tmp 31) rfl m1 pl _ rfl rfl rfl HR1'.out ?_
    refine hK.out _ _ ?_
    clear hK K
    clear hH
    try simp only [Act.put, List.setIfInBounds_toArray, List.set_cons_zero, List.set_cons_succ]
    refine anyE_done (by kernel_rfl) ?_ _
    go_wp2_with fail
    go_end0
    exact ⟨rfl, by rw [HK.out]; exact hPm, hOm⟩
  by_cases k4 : k = 4
  · subst k4
    have HK : Hid (record V ⟨(tn : Int), 4, pl⟩ kn = { V1 with st := setP V1.st pl kn }) := by show _ = _; rw [← HV1.out]; rfl
    clear k2
    go_wp2_with fail
    refine region_e (S := (fun w' => w'.cell? ⟨w.heap.size, 2, none⟩ = some (.int .i64 pl) ∧ Hid (Pa w' p m1 m2 m3 m4 V1) ∧ w'.cell? ⟨p, 4097, none⟩ = some (.map (some m2)) ∧ Hid (Blk w' (w.heap.size + 1) (ckA kn) 39) ∧ Hid (Blk w' w.heap.size (acc ⟨(tn : Int), 4, pl⟩) 32) ∧ Hid (Only O5 w w'))) 7 (by kernel_rfl) (⟨HX2.out.drew.cell 2 _ rfl, (show Hid _ from HP2.out.drew), HP2.out.drew.c2, (show Hid _ from HR2.out.drew), (show Hid _ from HX2.out.drew), (show Hid _ from only_drew HO2.out)⟩) (fun hH => ?_)
    refine anyE_take (i := 0) (oi := ⟨some 34, _, _, _, _, _⟩) (v := ?v201) rfl (by kernel_rfl) (by kernel_rfl) (by kernel_rfl) (by kernel_rfl) (fun _ _ _ h => h) (Or.inl ⟨rfl, ?c201⟩) hH ?r201
    case c201 => (intro w' _; go_simp; (try with_reducible rfl))
    try simp only [Act.put, List.setIfInBounds_toArray, List.set_cons_zero, List.set_cons_succ]
    refine anyE_take (i := 1) (oi := ⟨some 35, _, _, _, _, _⟩) (v := ?v202) rfl (by kernel_rfl) (by kernel_rfl) (by kernel_rfl) (by kernel_rfl) (fun _ _ _ h => h) (Or.inl ⟨rfl, ?c202⟩) hH ?r202
    case c202 => (intro w' _; go_simp; (try with_reducible rfl))
    try simp only [Act.put, List.setIfInBounds_toArray, List.set_cons_zero, List.set_cons_succ]
    refine anyE_take (i := 2) (oi := ⟨some 36, _, _, _, _, _⟩) (v := ?v203) rfl (by kernel_rfl) (by kernel_rfl) (by kernel_rfl) (by kernel_rfl) (fun _ _ _ h => h) (Or.inl ⟨rfl, ?c203⟩) hH ?r203
    case c203 => (intro w' _; go_simp; (try with_reducible rfl))
    try simp only [Act.put, List.setIfInBounds_toArray, List.set_cons_zero, List.set_cons_succ]
    refine anyE_take (i := 3) (oi := ⟨some 37, _, _, _, _, _⟩) (v := ?v204) rfl (by kernel_rfl) (by kernel_rfl) (by kernel_rfl) (by kernel_rfl) (fun _ _ _ h => h) (Or.inl ⟨rfl, ?c204⟩) hH ?r204
    case c204 => (intro w' hS; (try dsimp only at hS); go_simp; (try with_reducible rfl))
    try simp only [Act.put, List.setIfInBounds_toArray, List.set_cons_zero, List.set_cons_succ]
    refine anyE_take (i := 4) (oi := ⟨some 38, _, _, _, _, _⟩) (v := ?v205) rfl (by kernel_rfl) (by kernel_rfl) (by kernel_rfl) (by kernel_rfl) (fun _ _ _ h => h) (Or.inl ⟨rfl, ?c205⟩) hH ?r205
    case c205 => (intro w' _; go_simp; (try with_reducible rfl))
    try simp only [Act.put, List.setIfInBounds_toArray, List.set_cons_zero, List.set_cons_succ]
    refine anyE_take (i := 5) (oi := ⟨some 39, _, _, _, _, _⟩) (v := ?v206) rfl (by kernel_rfl) (by kernel_rfl) (by kernel_rfl) (by kernel_rfl) (fun _ _ _ h => h) (Or.inl ⟨rfl, ?c206⟩) hH ?r206
    case c206 => (intro w' hS; (try dsimp only at hS); go_simp; (try with_reducible rfl))
    try simp only [Act.put, List.setIfInBounds_toArray, List.set_cons_zero, List.set_cons_succ]
    refine anyE_take (i := 6) (oi := ⟨some 40, _, _, _, _, _⟩) (v := ?v207) rfl (by kernel_rfl) (by kernel_rfl) (by kernel_rfl) (by kernel_rfl) (fun _ _ _ h => h) (Or.inl ⟨rfl, ?c207⟩) hH ?r207
    case c207 => (intro w' hS; refine take_load_row 39 (.tmp 5) ?_ (w.heap.size + 1) ?_ hS.2.2.2.1.out ck_is rfl (ck_size _) <;> rfl)
    try simp only [Act.put, List.setIfInBounds_toArray, List.set_cons_zero, List.set_cons_succ]
    refine anyE_ready (rs := [7]) (by kernel_rfl) (by simp) (AllE.end_ rfl (fun K hK => ?_))
    obtain ⟨w4, r1, r2, r3⟩ := hH.2.1.out.M2.put pl kn
    have hPm := (hH.2.1.out.map2 r2 r3)
    have hOm := hH.2.2.2.2.2.out.trans r3 fun j e => .inl (by rw [← HO5.out, e]; exact .inr (by simp))
    have HR1' := Lib.hid r1
    clear r1 r2 r3
    refine step_map_put rfl 37 (.tmp 37) (.tmp 39) (.tmp 40) rfl m2 pl _ rfl rfl rfl HR1'.out ?_
    refine hK.out _ _ ?_
    clear hK K
    clear hH
    try simp only [Act.put, List.setIfInBounds_toArray, List.set_cons_zero, List.set_cons_succ]
    refine anyE_done (by kernel_rfl) ?_ _
    go_wp2_with fail
    go_end0
    exact ⟨rfl, by rw [HK.out]; exact hPm, hOm⟩
  by_cases k5 : k = 5
  · subst k5
    have HK : Hid (record V ⟨(tn : Int), 5, pl⟩ kn = { V1 with rd := setP V1.rd pl (setN (V1.rd pl) tn (kn tn)) }) := by show _ = _; rw [← HV1.out]; rfl
    clear k2 k4
    go_wp2_with fail
    refine region_e (S := (fun w' => w'.cell? ⟨w.heap.size, 2, none⟩ = some (.int .i64 pl) ∧ Hid (Pa w' p m1 m2 m3 m4 V1) ∧ w'.cell? ⟨p, 4098, none⟩ = some (.map (some m3)) ∧ Hid (Blk w' (w.heap.size + 1) (ckA kn) 39) ∧ Hid (Blk w' w.heap.size (acc ⟨(tn : Int), 5, pl⟩) 32) ∧ Hid (Only O5 w w'))) 6 (by kernel_rfl) (⟨HX2.out.drew.cell 2 _ rfl, (show Hid _ from HP2.out.drew), HP2.out.drew.c3, (show Hid _ from HR2.out.drew), (show Hid _ from HX2.out.drew), (show Hid _ from only_drew HO2.out)⟩) (fun hH => ?_)
    refine anyE_take (i := 4) (oi := ⟨some 47, _, _, _, _, _⟩) (v := ?v301) rfl (by kernel_rfl) (by kernel_rfl) (by kernel_rfl) (by kernel_rfl) (fun _ _ _ h => h) (Or.inl ⟨rfl, ?c301⟩) hH ?r301
    case c301 => (intro w' hS; refine take_load_row 32 (.tmp 4) ?_ w.heap.size ?_ hS.2.2.2.2.1.out Try.underlying32 rfl (acc_size _) <;> rfl)
    try simp only [Act.put, List.setIfInBounds_toArray, List.set_cons_zero, List.set_cons_succ]
    refine anyE_take (i := 5) (oi := ⟨some 48, _, _, _, _, _⟩) (v := ?v302) rfl (by kernel_rfl) (by kernel_rfl) (by kernel_rfl) (by kernel_rfl) (fun _ _ _ h => h) (Or.inl ⟨rfl, ?c302⟩) hH ?r302
    case c302 => (intro w' hS; refine take_load_row 39 (.tmp 5) ?_ (w.heap.size + 1) ?_ hS.2.2.2.1.out ck_is rfl (ck_size _) <;> rfl)
    try simp only [Act.put, List.setIfInBounds_toArray, List.set_cons_zero, List.set_cons_succ]
    refine anyE_ready (rs := [0]) (by kernel_rfl) (by simp) (AllE.cons rfl (fun K hK => ?_) (AllE.nil))
    go_simp
    refine hK.out _ _ (hH) (fun hH => ?_)
    clear hK K
    try simp only [Act.put, List.setIfInBounds_toArray, List.set_cons_zero, List.set_cons_succ]
    refine anyE_ready (rs := [1]) (by kernel_rfl) (by simp) (AllE.cons rfl (fun K hK => ?_) (AllE.nil))
    go_simp
    refine hK.out _ _ (hH) (fun hH => ?_)
    clear hK K
    try simp only [Act.put, List.setIfInBounds_toArray, List.set_cons_zero, List.set_cons_succ]
    refine anyE_ready (rs := [2]) (by kernel_rfl) (by simp) (AllE.cons rfl (fun K hK => ?_) (AllE.nil))
    go_simp
    refine hK.out _ _ (hH) (fun hH => ?_)
    clear hK K
    try simp only [Act.put, List.setIfInBounds_toArray, List.set_cons_zero, List.set_cons_succ]
    refine anyE_take (i := 3) (oi := ⟨some 46, _, _, _, _, _⟩) (v := ?v303) rfl (by kernel_rfl) (by kernel_rfl) (by kernel_rfl) (by kernel_rfl) (fun _ _ _ h => h) (Or.inl ⟨rfl, ?c303⟩) hH ?r303
    case c303 => (intro w' hS; (try dsimp only at hS); go_simp; (try with_reducible rfl))
    try simp only [Act.put, List.setIfInBounds_toArray, List.set_cons_zero, List.set_cons_succ]
    refine anyE_ready (rs := [6]) (by kernel_rfl) (by simp) (AllE.end_ rfl (fun K hK => ?_))
    go_simp
    go_at_call 21
    refine (touch_any hH.2.1.out.M3 ⟨(tn : Int), 5, pl⟩ h0 h1 kn).mono ?_
    rintro e w4 ⟨rfl, r2, r3⟩
    have hPm := (hH.2.1.out.map3 r2 r3)
    have hOm := hH.2.2.2.2.2.out.trans r3 fun j e => .inl (by rw [← HO5.out, e]; exact .inr (by simp))
    clear r2 r3
    refine hK.out _ _ ?_
    clear hK K
    clear hH
    try simp only [Act.put, List.setIfInBounds_toArray, List.set_cons_zero, List.set_cons_succ]
    refine anyE_done (by kernel_rfl) ?_ _
    go_wp2_with fail
    go_end0
    exact ⟨rfl, by rw [HK.out]; exact hPm, hOm⟩
  by_cases k6 : k = 6
  · subst k6
    have HK : Hid (record V ⟨(tn : Int), 6, pl⟩ kn = { V1 with wr := setP V1.wr pl (setN (V1.wr pl) tn (kn tn)) }) := by show _ = _; rw [← HV1.out]; rfl
    clear k2 k4 k5
    go_wp2_with fail
    refine region_e (S := (fun w' => w'.cell? ⟨w.heap.size, 2, none⟩ = some (.int .i64 pl) ∧ Hid (Pa w' p m1 m2 m3 m4 V1) ∧ w'.cell? ⟨p, 4099, none⟩ = some (.map (some m4)) ∧ Hid (Blk w' (w.heap.size + 1) (ckA kn) 39) ∧ Hid (Blk w' w.heap.size (acc ⟨(tn : Int), 6, pl⟩) 32) ∧ Hid (Only O5 w w'))) 6 (by kernel_rfl) (⟨HX2.out.drew.cell 2 _ rfl, (show Hid _ from HP2.out.drew), HP2.out.drew.c4, (show Hid _ from HR2.out.drew), (show Hid _ from HX2.out.drew), (show Hid _ from only_drew HO2.out)⟩) (fun hH => ?_)
    refine anyE_take (i := 4) (oi := ⟨some 56, _, _, _, _, _⟩) (v := ?v401) rfl (by kernel_rfl) (by kernel_rfl) (by kernel_rfl) (by kernel_rfl) (fun _ _ _ h => h) (Or.inl ⟨rfl, ?c401⟩) hH ?r401
    case c401 => (intro w' hS; refine take_load_row 32 (.tmp 4) ?_ w.heap.size ?_ hS.2.2.2.2.1.out Try.underlying32 rfl (acc_size _) <;> rfl)
    try simp only [Act.put, List.setIfInBounds_toArray, List.set_cons_zero, List.set_cons_succ]
    refine anyE_take (i := 5) (oi := ⟨some 57, _, _, _, _, _⟩) (v := ?v402) rfl (by kernel_rfl) (by kernel_rfl) (by kernel_rfl) (by kernel_rfl) (fun _ _ _ h => h) (Or.inl ⟨rfl, ?c402⟩) hH ?r402
    case c402 => (intro w' hS; refine take_load_row 39 (.tmp 5) ?_ (w.heap.size + 1) ?_ hS.2.2.2.1.out ck_is rfl (ck_size _) <;> rfl)
    try simp only [Act.put, List.setIfInBounds_toArray, List.set_cons_zero, List.set_cons_succ]
    refine anyE_ready (rs := [0]) (by kernel_rfl) (by simp) (AllE.cons rfl (fun K hK => ?_) (AllE.nil))
    go_simp
    refine hK.out _ _ (hH) (fun hH => ?_)
    clear hK K
    try simp only [Act.put, List.setIfInBounds_toArray, List.set_cons_zero, List.set_cons_succ]
    refine anyE_ready (rs := [1]) (by kernel_rfl) (by simp) (AllE.cons rfl (fun K hK => ?_) (AllE.nil))
    go_simp
    refine hK.out _ _ (hH) (fun hH => ?_)
    clear hK K
    try simp only [Act.put, List.setIfInBounds_toArray, List.set_cons_zero, List.set_cons_succ]
    refine anyE_ready (rs := [2]) (by kernel_rfl) (by simp) (AllE.cons rfl (fun K hK => ?_) (AllE.nil))
    go_simp
    refine hK.out _ _ (hH) (fun hH => ?_)
    clear hK K
    try simp only [Act.put, List.setIfInBounds_toArray, List.set_cons_zero, List.set_cons_succ]
    refine anyE_take (i := 3) (oi := ⟨some 55, _, _, _, _, _⟩) (v := ?v403) rfl (by kernel_rfl) (by kernel_rfl) (by kernel_rfl) (by kernel_rfl) (fun _ _ _ h => h) (Or.inl ⟨rfl, ?c403⟩) hH ?r403
    case c403 => (intro w' hS; (try dsimp only at hS); go_simp; (try with_reducible rfl))
    try simp only [Act.put, List.setIfInBounds_toArray, List.set_cons_zero, List.set_cons_succ]
    refine anyE_ready (rs := [6]) (by kernel_rfl) (by simp) (AllE.end_ rfl (fun K hK => ?_))
    go_simp
    go_at_call 21
    refine (touch_any hH.2.1.out.M4 ⟨(tn : Int), 6, pl⟩ h0 h1 kn).mono ?_
    rintro e w4 ⟨rfl, r2, r3⟩
    have hPm := (hH.2.1.out.map4 r2 r3)
    have hOm := hH.2.2.2.2.2.out.trans r3 fun j e => .inl (by rw [← HO5.out, e]; exact .inr (by simp))
    clear r2 r3
    refine hK.out _ _ ?_
    clear hK K
    clear hH
    try simp only [Act.put, List.setIfInBounds_toArray, List.set_cons_zero, List.set_cons_succ]
    refine anyE_done (by kernel_rfl) ?_ _
    go_wp2_with fail
    go_end0
    exact ⟨rfl, by rw [HK.out]; exact hPm, hOm⟩
  · have HK : Hid (record V ⟨(tn : Int), k, pl⟩ kn = V1) := by show _ = _; rw [← HV1.out]; unfold record; dsimp only; rw [if_neg k2, if_neg k4, if_neg k5, if_neg k6]; rfl
    have d2 : (k == 2) = false := by simpa using k2
    have d4 : (k == 4) = false := by simpa using k4
    have d5 : (k == 5) = false := by simpa using k5
    have d6 : (k == 6) = false := by simpa using k6
    clear k2 k4 k5 k6
    go_wp2_with fail
    go_end0
    exact ⟨rfl, by rw [HK.out]; exact HP2.out, HO2.out⟩
end Rc
end Go.Proofs.Ytalclmfnalmphaa
