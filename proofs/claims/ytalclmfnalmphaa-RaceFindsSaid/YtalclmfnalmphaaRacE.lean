/- Layer 24: touch. (Written by wip/tools/mkRacD.py.) -/
import Derived.Test.YtalclmfnalmphaaRacC
set_option linter.unusedVariables false
set_option linter.unusedSimpArgs false
set_option maxRecDepth 100000
namespace Go.Proofs.Ytalclmfnalmphaa
open Go.ChangeShapes Go.WideShapes Go.ChangeAt Go.RowKit Go.Mtl Go.Lib
namespace Rc
open RcM
set_option maxHeartbeats 4000000 in
theorem touch_any {w : World} {m : Nat} {f : Int → Ck} (H : Mc w m f) (x : A) (h0 : 0 ≤ x.t) (h1 : x.t ≤ 63) (kn : Ck) : Calls Try.prog 21 #[.map (some m), .agg (acc x), .agg (ckA kn)] w fun e w' => e = .returned (.tuple #[]) ∧ Mc w' m (setP f x.p (setN (f x.p) x.t.toNat (kn x.t.toNat))) ∧ Only (· = m) w w' := by
  have hz := ck_zero
  obtain ⟨t, k, pl⟩ := x
  dsimp only at h0 h1
  obtain ⟨tn, rfl⟩ : ∃ n : Nat, t = (n : Int) := ⟨t.toNat, by omega⟩
  have hb1 : Below w.heap.size w ((w.alloc (.cells (acc ⟨(tn : Int), k, pl⟩) 32)).alloc (.cells (ckA kn) 39)) := ((Below.refl _ w).alloc (Nat.le_refl _) _).alloc (by simp) _
  have hb0 : Below w.heap.size w (((w.alloc (.cells (acc ⟨(tn : Int), k, pl⟩) 32)).alloc (.cells (ckA kn) 39)).alloc (.cells (ckA fun _ => 0) 39)) := hb1.alloc (by simp; omega) _
  have hlt := H.lt
  have HL : Hid (Mc ((w.alloc (.cells (acc ⟨(tn : Int), k, pl⟩) 32)).alloc (.cells (ckA kn) 39)) m f) := H.keep (hb1.block m H.lt)
  have HB2 : Hid (Below w.heap.size w (World.setRow (((w.alloc (.cells (acc ⟨(tn : Int), k, pl⟩) 32)).alloc (.cells (ckA kn) 39)).alloc (.cells (ckA fun _ => 0) 39)) (w.heap.size + 2) (ckA (f pl)))) := below_row hb0 (by omega) _
  have HX2 : Hid (Blk (World.setRow (((w.alloc (.cells (acc ⟨(tn : Int), k, pl⟩) 32)).alloc (.cells (ckA kn) 39)).alloc (.cells (ckA fun _ => 0) 39)) (w.heap.size + 2) (ckA (f pl))) w.heap.size (acc ⟨(tn : Int), k, pl⟩) 32) := Blk.row_other (((Blk.box w (acc ⟨(tn : Int), k, pl⟩) 32).alloc _).alloc _) _ (by omega)
  have HR2 : Hid (Blk (World.setRow (((w.alloc (.cells (acc ⟨(tn : Int), k, pl⟩) 32)).alloc (.cells (ckA kn) 39)).alloc (.cells (ckA fun _ => 0) 39)) (w.heap.size + 2) (ckA (f pl))) (w.heap.size + 1) (ckA kn) 39) := Blk.row_other ((Blk.box1 w _ (ckA kn) 39).alloc _) _ (by omega)
  have HC2 : Hid (Blk (World.setRow (((w.alloc (.cells (acc ⟨(tn : Int), k, pl⟩) 32)).alloc (.cells (ckA kn) 39)).alloc (.cells (ckA fun _ => 0) 39)) (w.heap.size + 2) (ckA (f pl))) (w.heap.size + 2) (ckA (f pl)) 39) := Blk.row (Blk.box2 w _ _ (ckA fun _ => 0) _) _
  have HM2 : Hid (Mc (World.setRow (((w.alloc (.cells (acc ⟨(tn : Int), k, pl⟩) 32)).alloc (.cells (ckA kn) 39)).alloc (.cells (ckA fun _ => 0) 39)) (w.heap.size + 2) (ckA (f pl))) m f) := H.keep (HB2.out.block m H.lt)
  have HLT := Lib.hid hlt
  clear H hb1 hb0 hlt
  go_in
  go_wp2_with (first | refine wpList_look rfl 37 (.tmp 7) (.tmp 9) rfl m pl rfl rfl (HL.out.look pl) ?_ | refine wpList_store_row rfl 39 (.tmp 6) (.tmp 10) rfl (w.heap.size + 2) (ckA (f pl)) rfl rfl _ (ckA fun _ => 0) (Blk.box2 w _ _ _ _) (ck_size _) (ck_same _).symm (ckA_all _) ?_)
  clear HL
  generalize (World.setRow (((w.alloc (.cells (acc ⟨(tn : Int), k, pl⟩) 32)).alloc (.cells (ckA kn) 39)).alloc (.cells (ckA fun _ => 0) 39)) (w.heap.size + 2) (ckA (f pl))) = w2 at *
  have HS2 : Hid (Blk ((w2.setCell ⟨w.heap.size + 1 + 1, tn, none⟩ (.int .i64 (kn tn))).drew) (w.heap.size + 2) (ckA (setN (f pl) tn (kn tn))) 39) := (HC2.out.set' tn _ (ckA_set (by omega) _)).drew
  have HSS : Hid (((fun w' => w'.cell? ⟨w.heap.size, 0, none⟩ = some (.int .i64 (tn : Int)) ∧ w'.cell? ⟨w.heap.size + 1, tn, none⟩ = some (.int .i64 (kn tn))) : World → Prop) ((w2.setCell ⟨w.heap.size + 1 + 1, tn, none⟩ (.int .i64 (kn tn))).drew)) := ⟨(HX2.out.other _ _ (by omega) _).drew.cell 0 _ rfl, (HR2.out.other _ _ (by omega) _).drew.cell tn _ (ckA_get (by omega))⟩
  have HX3 : Hid (Blk ((w2.setCell ⟨w.heap.size + 1 + 1, tn, none⟩ (.int .i64 (kn tn))).drew) w.heap.size (acc ⟨(tn : Int), k, pl⟩) 32) := (HX2.out.other _ _ (by omega) _).drew
  have HB3 : Hid (Below w.heap.size w ((w2.setCell ⟨w.heap.size + 1 + 1, tn, none⟩ (.int .i64 (kn tn))).drew)) := (HB2.out.setCell (by show w.heap.size ≤ w.heap.size + 1 + 1; omega) _).drew
  have HM3 : Hid (Mc ((w2.setCell ⟨w.heap.size + 1 + 1, tn, none⟩ (.int .i64 (kn tn))).drew) m f) := HM2.out.keep (Below.heap_setCell _ _ _ _ (by have := HLT.out; show m ≠ w.heap.size + 1 + 1; omega))
  refine wp_region_held_drew (S := (fun w' => w'.cell? ⟨w.heap.size, 0, none⟩ = some (.int .i64 (tn : Int)) ∧ w'.cell? ⟨w.heap.size + 1, tn, none⟩ = some (.int .i64 (kn tn)))) (by kernel_rfl) (⟨HX2.out.drew.cell 0 _ rfl, HR2.out.drew.cell tn _ (ckA_get (by omega))⟩) (fun hH => ?_)
  refine wpAnyH_take (i := 0) (oi := ⟨some 11, _, _, _, _, _⟩) (v := ?v301) rfl (by kernel_rfl) (by kernel_rfl) (by kernel_rfl) (fun _ _ _ h => h) (Or.inl ⟨rfl, ?c301⟩) hH ?r301
  case c301 => (intro w' _; go_simp; (try with_reducible rfl))
  try simp only [Act.put, List.setIfInBounds_toArray, List.set_cons_zero, List.set_cons_succ]
  refine wpAnyH_take (i := 1) (oi := ⟨some 12, _, _, _, _, _⟩) (v := ?v302) rfl (by kernel_rfl) (by kernel_rfl) (by kernel_rfl) (fun _ _ _ h => h) (Or.inl ⟨rfl, ?c302⟩) hH ?r302
  case c302 => (intro w' hS; (try dsimp only at hS); go_simp; (try with_reducible rfl))
  try simp only [Act.put, List.setIfInBounds_toArray, List.set_cons_zero, List.set_cons_succ]
  refine wpAnyH_take (i := 2) (oi := ⟨some 13, _, _, _, _, _⟩) (v := ?v303) rfl (by kernel_rfl) (by kernel_rfl) (by kernel_rfl) (fun _ _ _ h => h) (Or.inl ⟨rfl, ?c303⟩) hH ?r303
  case c303 => (intro w' _; go_simp; (try with_reducible rfl))
  try simp only [Act.put, List.setIfInBounds_toArray, List.set_cons_zero, List.set_cons_succ]
  refine wpAnyH_take (i := 3) (oi := ⟨some 14, _, _, _, _, _⟩) (v := ?v304) rfl (by kernel_rfl) (by kernel_rfl) (by kernel_rfl) (fun _ _ _ h => h) (Or.inl ⟨rfl, ?c304⟩) hH ?r304
  case c304 => (intro w' hS; (try dsimp only at hS); go_simp; (try with_reducible rfl))
  try simp only [Act.put, List.setIfInBounds_toArray, List.set_cons_zero, List.set_cons_succ]
  refine wpAnyH_take (i := 4) (oi := ⟨some 15, _, _, _, _, _⟩) (v := ?v305) rfl (by kernel_rfl) (by kernel_rfl) (by kernel_rfl) (fun _ _ _ h => h) (Or.inl ⟨rfl, ?c305⟩) hH ?r305
  case c305 => (intro w' _; go_simp; rw [if_pos (by omega)])
  try simp only [Act.put, List.setIfInBounds_toArray, List.set_cons_zero, List.set_cons_succ]
  refine wpAnyH_take (i := 5) (oi := ⟨some 16, _, _, _, _, _⟩) (v := ?v306) rfl (by kernel_rfl) (by kernel_rfl) (by kernel_rfl) (fun _ _ _ h => h) (Or.inl ⟨rfl, ?c306⟩) hH ?r306
  case c306 => (intro w' hS; (try dsimp only at hS); go_simp; (try with_reducible rfl))
  try simp only [Act.put, List.setIfInBounds_toArray, List.set_cons_zero, List.set_cons_succ]
  refine wpAnyH_take (i := 6) (oi := ⟨some 17, _, _, _, _, _⟩) (v := ?v307) rfl (by kernel_rfl) (by kernel_rfl) (by kernel_rfl) (fun _ _ _ h => h) (Or.inl ⟨rfl, ?c307⟩) hH ?r307
  case c307 => (intro w' _; go_simp; rw [if_pos (by omega)])
  try simp only [Act.put, List.setIfInBounds_toArray, List.set_cons_zero, List.set_cons_succ]
  refine wpAnyH_ready (rs := [7]) (by kernel_rfl) (by simp) (AllReadyH.cons rfl (fun K hK => ?_) (AllReadyH.nil))
  have f5 := HC2.out.drew.frozen tn
  have x5 := HC2.out.drew.cell tn _ (ckA_get (c := f pl) (by omega))
  go_simp
  refine hK.out _ _ (HSS.out) (fun hH => ?_)
  clear hK K
  clear hH f5 x5
  try simp only [Act.put, List.setIfInBounds_toArray, List.set_cons_zero, List.set_cons_succ]
  refine wpAnyH_done (by kernel_rfl) ?_ _
  
  clear HSS HX2 HB2 HM2 HR2 HC2
  generalize (w2.setCell ⟨w.heap.size + 1 + 1, tn, none⟩ (.int .i64 (kn tn))).drew = w3 at *
  have y2 := HX3.out.cell 2 _ rfl
  obtain ⟨w4, r1, r2, r3⟩ := HM3.out.put pl (setN (f pl) tn (kn tn))
  have HR1 := Lib.hid r1
  have HR4 := Lib.hid r2
  have HR3 := Lib.hid r3
  clear r1 r2 r3
  go_wp2_with (first | (refine at_dst 21 ?_; refine wpList_load_row rfl 39 (.tmp 6) rfl (w.heap.size + 2) rfl _ (ckA (setN (f pl) tn (kn tn))) _ _ HS2.out ck_is rfl (ck_size _) ?_) | (refine at_put ?_; refine wpList_map_put rfl 37 (.tmp 18) (.tmp 20) (.tmp 21) rfl m pl _ rfl rfl rfl HR1.out ?_))
  have r2 := HR4.out
  have r3 := HR3.out
  go_end0
  exact ⟨rfl, r2, (Only.of_below HB3.out).trans r3 fun j e => .inl e⟩
end Rc
end Go.Proofs.Ytalclmfnalmphaa
