/- Layer 24: what Find keeps of the accesses so far, in its blocks. -/
import Derived.Test.YtalclmfnalmphaaRacB
set_option linter.unusedVariables false
set_option linter.unusedSimpArgs false
set_option maxRecDepth 100000
namespace Go.Proofs.Ytalclmfnalmphaa
open Go.ChangeShapes Go.WideShapes Go.ChangeAt Go.RowKit Go.Mtl Go.Lib
namespace Rc
open RcM
/-- A map of clocks: where there is none, nothing is known. -/
def Mc (w : World) (m : Nat) (f : Int → Ck) : Prop := ∃ g, MapI w m g ∧ ∀ k, (g k).getD (.agg (ckA fun _ => 0)) = .agg (ckA (f k))
/-- Block p, and the four maps that it names. -/
structure Pa (w : World) (p m1 m2 m3 m4 : Nat) (V : Vc) : Prop where
  th : ∀ t, t < 64 → w.rangeAt p (t * 64) (ckL (V.c t))
  wt : w.there p 0 4100
  c1 : w.cell? ⟨p, 4096, none⟩ = some (.map (some m1))
  c2 : w.cell? ⟨p, 4097, none⟩ = some (.map (some m2))
  c3 : w.cell? ⟨p, 4098, none⟩ = some (.map (some m3))
  c4 : w.cell? ⟨p, 4099, none⟩ = some (.map (some m4))
  M1 : Mc w m1 V.un
  M2 : Mc w m2 V.st
  M3 : Mc w m3 V.rd
  M4 : Mc w m4 V.wr
  nd : [p, m1, m2, m3, m4].Nodup
section
variable {w w' : World} {p m1 m2 m3 m4 m : Nat} {V : Vc} {f : Int → Ck}
theorem Mc.keep (H : Mc w m f) (h : w'.heap[m]? = w.heap[m]?) : Mc w' m f := by
  obtain ⟨g, h1, h2⟩ := H
  exact ⟨g, h1.keep h, h2⟩
theorem Mc.lt (H : Mc w m f) : m < w.heap.size := by obtain ⟨g, h1, _⟩ := H; exact h1.lt
theorem Pa.plt (H : Pa w p m1 m2 m3 m4 V) : p < w.heap.size := World.block_lt_of_cell? w _ H.c1
theorem Pa.keep (H : Pa w p m1 m2 m3 m4 V) (h : ∀ j, j ∈ [p, m1, m2, m3, m4] → w'.heap[j]? = w.heap[j]?) : Pa w' p m1 m2 m3 m4 V := by
  have hp := h p (by simp)
  have hc : ∀ o, w'.cell? ⟨p, o, none⟩ = w.cell? ⟨p, o, none⟩ := fun o => World.cell?_of_block (w := w) (a := ⟨p, o, none⟩) hp
  have hf : ∀ o, w'.frozen? ⟨p, o, none⟩ = w.frozen? ⟨p, o, none⟩ := fun o => World.frozen?_of_block (w := w) (a := ⟨p, o, none⟩) hp
  exact { th := fun t ht j v hv => (hc _).trans (H.th t ht j v hv), wt := fun j hj => ⟨by rw [hc]; exact (H.wt j hj).1, by rw [hf]; exact (H.wt j hj).2⟩
          c1 := (hc _).trans H.c1, c2 := (hc _).trans H.c2, c3 := (hc _).trans H.c3, c4 := (hc _).trans H.c4
          M1 := H.M1.keep (h m1 (by simp)), M2 := H.M2.keep (h m2 (by simp)), M3 := H.M3.keep (h m3 (by simp)), M4 := H.M4.keep (h m4 (by simp)), nd := H.nd }
theorem Pa.lts (H : Pa w p m1 m2 m3 m4 V) : ∀ j, j ∈ [p, m1, m2, m3, m4] → j < w.heap.size := fun j hj => by
  simp only [List.mem_cons, List.not_mem_nil, or_false] at hj
  rcases hj with rfl | rfl | rfl | rfl | rfl
  · exact H.plt
  · exact H.M1.lt
  · exact H.M2.lt
  · exact H.M3.lt
  · exact H.M4.lt
theorem Pa.next (H : Pa w p m1 m2 m3 m4 V) (hb : Below w.heap.size w w') : Pa w' p m1 m2 m3 m4 V := H.keep fun j hj => hb.block j (H.lts j hj)
theorem Pa.drew (H : Pa w p m1 m2 m3 m4 V) : Pa w.drew p m1 m2 m3 m4 V := H.keep fun j hj => rfl
end
abbrev acc (x : A) : Array Value := #[.int .i64 x.t, .int .i64 x.k, .int .i64 x.p]
theorem ck_sizeL {c : Ck} : (Try.prog.info? 39).map (·.size) = some (ckL c).length := by rw [ckL_len]; exact (zero_of_info ck_info).2
theorem mapc_is : Try.prog.underlying 37 = some (.map 3 39) := by kernel_rfl
theorem Mc.look {w : World} {m : Nat} {f : Int → Ck} (H : Mc w m f) (k : Int) : (Instr.lookup 37 (.map (some m)) (.int .i64 k) false).run Try.prog w = .ok (.agg (ckA (f k))) w := by
  obtain ⟨g, h1, h2⟩ := H
  have := h1.look mapc_is Try.underlying3 ck_zero k
  rw [h2] at this
  exact this
theorem Mc.put {w : World} {m : Nat} {f : Int → Ck} (H : Mc w m f) (k : Int) (c : Ck) : ∃ w', (Instr.mapUpdate 37 (.map (some m)) (.int .i64 k) (.agg (ckA c))).run Try.prog w = .ok () w' ∧ Mc w' m (setP f k c) ∧ Only (· = m) w w' := by
  obtain ⟨g, h1, h2⟩ := H
  obtain ⟨w', r1, r2, r3⟩ := h1.put mapc_is Try.underlying3 k (.agg (ckA c))
  refine ⟨w', r1, ⟨_, r2, fun j => ?_⟩, r3⟩
  unfold setP
  by_cases e : j = k
  · rw [if_pos e, if_pos e]; rfl
  · rw [if_neg e, if_neg e]; exact h2 j
theorem acc_size (x : A) : (Try.prog.info? 32).map (·.size) = some (acc x).size := (by kernel_rfl : (Try.prog.info? 32).map (·.size) = some 3)
-- known
set_option maxHeartbeats 4000000 in
theorem known_any {w : World} {p m1 m2 m3 m4 : Nat} {V : Vc} (H : Pa w p m1 m2 m3 m4 V) (x : A) (h0 : 0 ≤ x.t) (h1 : x.t ≤ 63) : Calls Try.prog 12 #[.pointer (some ⟨p, 0, none⟩), .agg (acc x)] w fun e w' => e = .returned (.agg (ckA (known V x))) ∧ Below w.heap.size w w' := by
  have hz := ck_zero
  obtain ⟨t, k, pl⟩ := x
  dsimp only at h0 h1
  obtain ⟨tn, rfl⟩ : ∃ n : Nat, t = (n : Int) := ⟨t.toNat, by omega⟩
  have hb1 : Below w.heap.size w ((w.alloc (.cells (acc ⟨(tn : Int), k, pl⟩) 32)).alloc (.cells (ckA fun _ => 0) 39)) := ((Below.refl _ w).alloc (Nat.le_refl _) _).alloc (by simp) _
  have hx1 := (Blk.box w (acc ⟨(tn : Int), k, pl⟩) 32).alloc (.cells (ckA fun _ => 0) 39)
  have hr1 := Blk.box1 w (.cells (acc ⟨(tn : Int), k, pl⟩) 32) (ckA fun _ => 0) 39
  have hp1 := H.next hb1
  have hb2 : Below w.heap.size w ((((w.alloc (.cells (acc ⟨(tn : Int), k, pl⟩) 32)).alloc (.cells (ckA fun _ => 0) 39)).alloc (.cells (ckA fun _ => 0) 39)).drew) := hb1.drew.alloc (by simp; omega) _
  have HS1 : Hid (((fun w' => w'.cell? ⟨w.heap.size, 0, none⟩ = some (.int .i64 (tn : Int)) ∧ Hid (Pa w' p m1 m2 m3 m4 V)) : World → Prop) ((w.alloc (.cells (acc ⟨(tn : Int), k, pl⟩) 32)).alloc (.cells (ckA fun _ => 0) 39)).drew) := ⟨hx1.drew.cell 0 _ rfl, hp1.drew⟩
  have HS2 : Hid (((fun w' => w'.cell? ⟨w.heap.size, 0, none⟩ = some (.int .i64 (tn : Int)) ∧ Hid (Pa w' p m1 m2 m3 m4 V)) : World → Prop) ((((w.alloc (.cells (acc ⟨(tn : Int), k, pl⟩) 32)).alloc (.cells (ckA fun _ => 0) 39)).alloc (.cells (ckA fun _ => 0) 39)).drew)) := ⟨(hx1.drew.alloc _).cell 0 _ rfl, H.next hb2⟩
  have HC1 : Hid (Blk ((((w.alloc (.cells (acc ⟨(tn : Int), k, pl⟩) 32)).alloc (.cells (ckA fun _ => 0) 39)).alloc (.cells (ckA fun _ => 0) 39)).drew) (w.heap.size + 2) (ckA fun _ => 0) 39) := Blk.box2 w _ _ _ _
  have hw2 := H.plt
  have HX2 : Hid (Blk (World.setRow ((((w.alloc (.cells (acc ⟨(tn : Int), k, pl⟩) 32)).alloc (.cells (ckA fun _ => 0) 39)).alloc (.cells (ckA fun _ => 0) 39)).drew) (w.heap.size + 2) (ckA (V.c tn))) w.heap.size (acc ⟨(tn : Int), k, pl⟩) 32) := (Blk.row_other (hx1.drew.alloc (.cells (ckA fun _ => 0) 39)) (ckA (V.c tn)) (k := w.heap.size + 2) (by omega))
  have HR2 : Hid (Blk (World.setRow ((((w.alloc (.cells (acc ⟨(tn : Int), k, pl⟩) 32)).alloc (.cells (ckA fun _ => 0) 39)).alloc (.cells (ckA fun _ => 0) 39)).drew) (w.heap.size + 2) (ckA (V.c tn))) (w.heap.size + 1) (ckA fun _ => 0) 39) := (Blk.row_other (hr1.drew.alloc (.cells (ckA fun _ => 0) 39)) (ckA (V.c tn)) (k := w.heap.size + 2) (by omega))
  have HC2 : Hid (Blk (World.setRow ((((w.alloc (.cells (acc ⟨(tn : Int), k, pl⟩) 32)).alloc (.cells (ckA fun _ => 0) 39)).alloc (.cells (ckA fun _ => 0) 39)).drew) (w.heap.size + 2) (ckA (V.c tn))) (w.heap.size + 2) (ckA (V.c tn)) 39) := Blk.row HC1.out (ckA (V.c tn))
  have HB2 : Hid (Below w.heap.size w (World.setRow ((((w.alloc (.cells (acc ⟨(tn : Int), k, pl⟩) 32)).alloc (.cells (ckA fun _ => 0) 39)).alloc (.cells (ckA fun _ => 0) 39)).drew) (w.heap.size + 2) (ckA (V.c tn)))) := below_row (g := w.heap.size + 2) hb2 (by omega) (ckA (V.c tn))
  have HP2 := Lib.hid (H.next HB2.out)
  have HS3 : Hid (((fun w' => w'.cell? ⟨w.heap.size, 0, none⟩ = some (.int .i64 (tn : Int)) ∧ Hid (Pa w' p m1 m2 m3 m4 V)) : World → Prop) (((((w.alloc (.cells (acc ⟨(tn : Int), k, pl⟩) 32)).alloc (.cells (ckA fun _ => 0) 39)).alloc (.cells (ckA fun _ => 0) 39)).drew).setRow (w.heap.size + 2) (ckA (V.c tn)))) := ⟨HX2.out.cell 0 _ rfl, HP2.out⟩
  clear H hb1 hx1 hr1 hp1 hb2 hw2
  go_in
  go_wp2_with fail
  refine wp_region_held_drew (S := (fun w' => w'.cell? ⟨w.heap.size, 0, none⟩ = some (.int .i64 (tn : Int)) ∧ Hid (Pa w' p m1 m2 m3 m4 V))) (by kernel_rfl) (HS1.out) (fun hH => ?_)
  refine wpAnyH_take (i := 0) (oi := ⟨some 6, _, _, _, _, _⟩) (v := ?v1) rfl (by kernel_rfl) (by kernel_rfl) (by kernel_rfl) (fun _ _ _ h => h) (Or.inl ⟨rfl, ?c1⟩) hH ?r1
  case c1 => (intro w' _; go_simp; (try with_reducible rfl))
  try simp only [Act.put, List.setIfInBounds_toArray, List.set_cons_zero, List.set_cons_succ]
  refine wpAnyH_take (i := 1) (oi := ⟨some 7, _, _, _, _, _⟩) (v := ?v2) rfl (by kernel_rfl) (by kernel_rfl) (by kernel_rfl) (fun _ _ _ h => h) (Or.inl ⟨rfl, ?c2⟩) hH ?r2
  case c2 => (intro w' _; go_simp; (try with_reducible rfl))
  try simp only [Act.put, List.setIfInBounds_toArray, List.set_cons_zero, List.set_cons_succ]
  refine wpAnyH_take (i := 2) (oi := ⟨some 8, _, _, _, _, _⟩) (v := ?v3) rfl (by kernel_rfl) (by kernel_rfl) (by kernel_rfl) (fun _ _ _ h => h) (Or.inl ⟨rfl, ?c3⟩) hH ?r3
  case c3 => (intro w' hS; (try dsimp only at hS); go_simp; (try with_reducible rfl))
  try simp only [Act.put, List.setIfInBounds_toArray, List.set_cons_zero, List.set_cons_succ]
  refine wpAnyH_take (i := 3) (oi := ⟨some 9, _, _, _, _, _⟩) (v := ?v4) rfl (by kernel_rfl) (by kernel_rfl) (by kernel_rfl) (fun _ _ _ h => h) (Or.inl ⟨rfl, ?c4⟩) hH ?r4
  case c4 => (intro w' _; go_simp; (try with_reducible rfl))
  try simp only [Act.put, List.setIfInBounds_toArray, List.set_cons_zero, List.set_cons_succ]
  refine wpAnyH_take (i := 4) (oi := ⟨some 10, _, _, _, _, _⟩) (v := ?v5) rfl (by kernel_rfl) (by kernel_rfl) (by kernel_rfl) (fun _ _ _ h => h) (Or.inl ⟨rfl, ?c5⟩) hH ?r5
  case c5 => (intro w' _; go_simp; (try with_reducible rfl))
  try simp only [Act.put, List.setIfInBounds_toArray, List.set_cons_zero, List.set_cons_succ]
  refine wpAnyH_take (i := 5) (oi := ⟨some 11, _, _, _, _, _⟩) (v := ?v6) rfl (by kernel_rfl) (by kernel_rfl) (by kernel_rfl) (fun _ _ _ h => h) (Or.inl ⟨rfl, ?c6⟩) hH ?r6
  case c6 => (intro w' _; go_simp; rw [if_pos (by omega)])
  try simp only [Act.put, List.setIfInBounds_toArray, List.set_cons_zero, List.set_cons_succ]
  refine wpAnyH_take (i := 6) (oi := ⟨some 12, _, _, _, _, _⟩) (v := ?v7) rfl (by kernel_rfl) (by kernel_rfl) (by kernel_rfl) (fun _ _ _ h => h) (Or.inl ⟨rfl, ?c7⟩) hH ?r7
  case c7 => (intro w' hS; refine take_load_mid 39 (.tmp 11) ?_ p (tn * 64) ?_ (hS.2.out.th tn (by omega)) ck_is rfl ck_sizeL <;> rfl)
  try simp only [Act.put, List.setIfInBounds_toArray, List.set_cons_zero, List.set_cons_succ]
  refine wpAnyH_ready (rs := [7]) (by kernel_rfl) (by simp) (AllReadyH.cons rfl (fun K hK => ?_) (AllReadyH.nil))
  go_simp
  refine hK.out _ _ (HS2.out) (fun hH => ?_)
  clear hK K
  try simp only [Act.put, List.setIfInBounds_toArray, List.set_cons_zero, List.set_cons_succ]
  refine wpAnyH_ready (rs := [8]) (by kernel_rfl) (by simp) (AllReadyH.cons rfl (fun K hK => ?_) (AllReadyH.nil))
  refine step_store_row rfl 39 (.tmp 5) (.tmp 12) rfl (w.heap.size + 2) (ckA (V.c tn)) rfl rfl _ (ckA fun _ => 0) HC1.out (ck_size _) (ck_same _).symm (ckA_all _) ?_
  refine hK.out _ _ (HS3.out) (fun hH => ?_)
  clear hK K
  clear hH
  try simp only [Act.put, List.setIfInBounds_toArray, List.set_cons_zero, List.set_cons_succ]
  refine wpAnyH_done (by kernel_rfl) ?_ _
  
  clear HS1 HS2 HS3 HC1
  generalize ((((w.alloc (.cells (acc ⟨(tn : Int), k, pl⟩) 32)).alloc (.cells (ckA fun _ => 0) 39)).alloc (.cells (ckA fun _ => 0) 39)).drew).setRow (w.heap.size + 2) (ckA (V.c tn)) = w2 at *
  have y1 := HX2.out.cell 1 _ rfl
  have y2 := HX2.out.cell 2 _ rfl
  by_cases k1 : k = 1
  · subst k1
    have HKN : Hid (known V ⟨(tn : Int), 1, pl⟩ = mx (V.c tn) (V.un pl)) := by show _ = _; unfold known; rw [if_pos rfl]; rfl
    go_wp2_with fail
    refine region_e (S := (fun w' => w'.cell? ⟨w.heap.size, 2, none⟩ = some (.int .i64 pl) ∧ Hid (Pa w' p m1 m2 m3 m4 V) ∧ w'.cell? ⟨p, 4096, none⟩ = some (.map (some m1)) ∧ Hid (Blk w' (w.heap.size + 2) (ckA (V.c tn)) 39) ∧ Hid (Blk w' (w.heap.size + 1) (ckA fun _ => 0) 39))) 9 (by kernel_rfl) (⟨HX2.out.cell 2 _ rfl, (show Hid _ from HP2.out.drew), HP2.out.c1, (show Hid _ from HC2.out.drew), (show Hid _ from HR2.out.drew)⟩) (fun hH => ?_)
    refine anyE_take (i := 0) (oi := ⟨some 17, _, _, _, _, _⟩) (v := ?v101) rfl (by kernel_rfl) (by kernel_rfl) (by kernel_rfl) (by kernel_rfl) (fun _ _ _ h => h) (Or.inl ⟨rfl, ?c101⟩) hH ?r101
    case c101 => (intro w' hS; refine take_load_row 39 (.tmp 5) ?_ (w.heap.size + 2) ?_ hS.2.2.2.1.out ck_is rfl (ck_size _) <;> rfl)
    try simp only [Act.put, List.setIfInBounds_toArray, List.set_cons_zero, List.set_cons_succ]
    refine anyE_take (i := 1) (oi := ⟨some 18, _, _, _, _, _⟩) (v := ?v102) rfl (by kernel_rfl) (by kernel_rfl) (by kernel_rfl) (by kernel_rfl) (fun _ _ _ h => h) (Or.inl ⟨rfl, ?c102⟩) hH ?r102
    case c102 => (intro w' _; go_simp; (try with_reducible rfl))
    try simp only [Act.put, List.setIfInBounds_toArray, List.set_cons_zero, List.set_cons_succ]
    refine anyE_take (i := 2) (oi := ⟨some 19, _, _, _, _, _⟩) (v := ?v103) rfl (by kernel_rfl) (by kernel_rfl) (by kernel_rfl) (by kernel_rfl) (fun _ _ _ h => h) (Or.inl ⟨rfl, ?c103⟩) hH ?r103
    case c103 => (intro w' _; go_simp; (try with_reducible rfl))
    try simp only [Act.put, List.setIfInBounds_toArray, List.set_cons_zero, List.set_cons_succ]
    refine anyE_take (i := 3) (oi := ⟨some 20, _, _, _, _, _⟩) (v := ?v104) rfl (by kernel_rfl) (by kernel_rfl) (by kernel_rfl) (by kernel_rfl) (fun _ _ _ h => h) (Or.inl ⟨rfl, ?c104⟩) hH ?r104
    case c104 => (intro w' _; go_simp; (try with_reducible rfl))
    try simp only [Act.put, List.setIfInBounds_toArray, List.set_cons_zero, List.set_cons_succ]
    refine anyE_take (i := 4) (oi := ⟨some 21, _, _, _, _, _⟩) (v := ?v105) rfl (by kernel_rfl) (by kernel_rfl) (by kernel_rfl) (by kernel_rfl) (fun _ _ _ h => h) (Or.inl ⟨rfl, ?c105⟩) hH ?r105
    case c105 => (intro w' hS; (try dsimp only at hS); go_simp; (try with_reducible rfl))
    try simp only [Act.put, List.setIfInBounds_toArray, List.set_cons_zero, List.set_cons_succ]
    refine anyE_take (i := 5) (oi := ⟨some 22, _, _, _, _, _⟩) (v := ?v106) rfl (by kernel_rfl) (by kernel_rfl) (by kernel_rfl) (by kernel_rfl) (fun _ _ _ h => h) (Or.inl ⟨rfl, ?c106⟩) hH ?r106
    case c106 => (intro w' _; go_simp; (try with_reducible rfl))
    try simp only [Act.put, List.setIfInBounds_toArray, List.set_cons_zero, List.set_cons_succ]
    refine anyE_take (i := 6) (oi := ⟨some 23, _, _, _, _, _⟩) (v := ?v107) rfl (by kernel_rfl) (by kernel_rfl) (by kernel_rfl) (by kernel_rfl) (fun _ _ _ h => h) (Or.inl ⟨rfl, ?c107⟩) hH ?r107
    case c107 => (intro w' hS; (try dsimp only at hS); go_simp; (try with_reducible rfl))
    try simp only [Act.put, List.setIfInBounds_toArray, List.set_cons_zero, List.set_cons_succ]
    refine anyE_take (i := 7) (oi := ⟨some 24, _, _, _, _, _⟩) (v := ?v108) rfl (by kernel_rfl) (by kernel_rfl) (by kernel_rfl) (by kernel_rfl) (fun _ _ _ h => h) (Or.inl ⟨rfl, ?c108⟩) hH ?r108
    case c108 => (intro w' hS; refine take_look (v := .agg (ckA (V.un pl))) 37 (.tmp 21) (.tmp 23) ?_ m1 pl ?_ ?_ (Mc.look hS.2.1.out.M1 pl) <;> rfl)
    try simp only [Act.put, List.setIfInBounds_toArray, List.set_cons_zero, List.set_cons_succ]
    refine anyE_ready (rs := [8]) (by kernel_rfl) (by simp) (AllE.cons rfl (fun K hK => ?_) (AllE.nil))
    go_simp
    go_at_call 19
    refine (with_any _ _ _).mono ?_
    rintro e w3 ⟨rfl, hb3⟩
    refine hK.out _ _ (⟨(hb3.cell (p := ⟨w.heap.size, 2, none⟩) HX2.out.lt).trans hH.1, (show Hid _ from hH.2.1.out.next hb3), (hb3.cell (p := ⟨p, 4096, none⟩) hH.2.1.out.plt).trans hH.2.2.1, (show Hid _ from hH.2.2.2.1.out.next hb3), (show Hid _ from hH.2.2.2.2.out.next hb3)⟩) (fun hH => ?_)
    clear hK K
    try simp only [Act.put, List.setIfInBounds_toArray, List.set_cons_zero, List.set_cons_succ]
    refine anyE_ready (rs := [9]) (by kernel_rfl) (by simp) (AllE.end_ rfl (fun K hK => ?_))
    refine step_store_row rfl 39 (.tmp 4) (.tmp 25) rfl (w.heap.size + 1) (ckA (mx (V.c tn) (V.un pl))) rfl rfl _ (ckA fun _ => 0) (HR2.out.drew.next hb3) (ck_size _) (ck_same _).symm (ckA_all _) ?_
    refine hK.out _ _ ?_
    clear hK K
    clear hH
    try simp only [Act.put, List.setIfInBounds_toArray, List.set_cons_zero, List.set_cons_succ]
    refine anyE_done (by kernel_rfl) ?_ _
    go_wp2_with fail
    exact bodyPost_ret (v := .agg (ckA (mx (V.c tn) (V.un pl)))) (results_cell_row rfl _ _ (w.heap.size + 1) _ _ _ _ rfl (Blk.row (HR2.out.drew.next hb3) _) ck_is rfl (ck_size _)) rfl ⟨by rw [HKN.out], below_row (HB2.out.drew.trans (hb3.mono HB2.out.size)) (by omega) _⟩
  by_cases k3 : k = 3
  · subst k3
    have HKN : Hid (known V ⟨(tn : Int), 3, pl⟩ = mx (V.c tn) (V.st pl)) := by show _ = _; unfold known; rw [if_neg (show ¬ (3 : Int) = 1 by decide), if_pos (.inl rfl)]; rfl
    go_wp2_with fail
    refine region_e (S := (fun w' => w'.cell? ⟨w.heap.size, 2, none⟩ = some (.int .i64 pl) ∧ Hid (Pa w' p m1 m2 m3 m4 V) ∧ w'.cell? ⟨p, 4097, none⟩ = some (.map (some m2)) ∧ Hid (Blk w' (w.heap.size + 2) (ckA (V.c tn)) 39) ∧ Hid (Blk w' (w.heap.size + 1) (ckA fun _ => 0) 39))) 9 (by kernel_rfl) (⟨HX2.out.cell 2 _ rfl, (show Hid _ from HP2.out.drew), HP2.out.c2, (show Hid _ from HC2.out.drew), (show Hid _ from HR2.out.drew)⟩) (fun hH => ?_)
    refine anyE_take (i := 0) (oi := ⟨some 29, _, _, _, _, _⟩) (v := ?v201) rfl (by kernel_rfl) (by kernel_rfl) (by kernel_rfl) (by kernel_rfl) (fun _ _ _ h => h) (Or.inl ⟨rfl, ?c201⟩) hH ?r201
    case c201 => (intro w' hS; refine take_load_row 39 (.tmp 5) ?_ (w.heap.size + 2) ?_ hS.2.2.2.1.out ck_is rfl (ck_size _) <;> rfl)
    try simp only [Act.put, List.setIfInBounds_toArray, List.set_cons_zero, List.set_cons_succ]
    refine anyE_take (i := 1) (oi := ⟨some 30, _, _, _, _, _⟩) (v := ?v202) rfl (by kernel_rfl) (by kernel_rfl) (by kernel_rfl) (by kernel_rfl) (fun _ _ _ h => h) (Or.inl ⟨rfl, ?c202⟩) hH ?r202
    case c202 => (intro w' _; go_simp; (try with_reducible rfl))
    try simp only [Act.put, List.setIfInBounds_toArray, List.set_cons_zero, List.set_cons_succ]
    refine anyE_take (i := 2) (oi := ⟨some 31, _, _, _, _, _⟩) (v := ?v203) rfl (by kernel_rfl) (by kernel_rfl) (by kernel_rfl) (by kernel_rfl) (fun _ _ _ h => h) (Or.inl ⟨rfl, ?c203⟩) hH ?r203
    case c203 => (intro w' _; go_simp; (try with_reducible rfl))
    try simp only [Act.put, List.setIfInBounds_toArray, List.set_cons_zero, List.set_cons_succ]
    refine anyE_take (i := 3) (oi := ⟨some 32, _, _, _, _, _⟩) (v := ?v204) rfl (by kernel_rfl) (by kernel_rfl) (by kernel_rfl) (by kernel_rfl) (fun _ _ _ h => h) (Or.inl ⟨rfl, ?c204⟩) hH ?r204
    case c204 => (intro w' _; go_simp; (try with_reducible rfl))
    try simp only [Act.put, List.setIfInBounds_toArray, List.set_cons_zero, List.set_cons_succ]
    refine anyE_take (i := 4) (oi := ⟨some 33, _, _, _, _, _⟩) (v := ?v205) rfl (by kernel_rfl) (by kernel_rfl) (by kernel_rfl) (by kernel_rfl) (fun _ _ _ h => h) (Or.inl ⟨rfl, ?c205⟩) hH ?r205
    case c205 => (intro w' hS; (try dsimp only at hS); go_simp; (try with_reducible rfl))
    try simp only [Act.put, List.setIfInBounds_toArray, List.set_cons_zero, List.set_cons_succ]
    refine anyE_take (i := 5) (oi := ⟨some 34, _, _, _, _, _⟩) (v := ?v206) rfl (by kernel_rfl) (by kernel_rfl) (by kernel_rfl) (by kernel_rfl) (fun _ _ _ h => h) (Or.inl ⟨rfl, ?c206⟩) hH ?r206
    case c206 => (intro w' _; go_simp; (try with_reducible rfl))
    try simp only [Act.put, List.setIfInBounds_toArray, List.set_cons_zero, List.set_cons_succ]
    refine anyE_take (i := 6) (oi := ⟨some 35, _, _, _, _, _⟩) (v := ?v207) rfl (by kernel_rfl) (by kernel_rfl) (by kernel_rfl) (by kernel_rfl) (fun _ _ _ h => h) (Or.inl ⟨rfl, ?c207⟩) hH ?r207
    case c207 => (intro w' hS; (try dsimp only at hS); go_simp; (try with_reducible rfl))
    try simp only [Act.put, List.setIfInBounds_toArray, List.set_cons_zero, List.set_cons_succ]
    refine anyE_take (i := 7) (oi := ⟨some 36, _, _, _, _, _⟩) (v := ?v208) rfl (by kernel_rfl) (by kernel_rfl) (by kernel_rfl) (by kernel_rfl) (fun _ _ _ h => h) (Or.inl ⟨rfl, ?c208⟩) hH ?r208
    case c208 => (intro w' hS; refine take_look (v := .agg (ckA (V.st pl))) 37 (.tmp 33) (.tmp 35) ?_ m2 pl ?_ ?_ (Mc.look hS.2.1.out.M2 pl) <;> rfl)
    try simp only [Act.put, List.setIfInBounds_toArray, List.set_cons_zero, List.set_cons_succ]
    refine anyE_ready (rs := [8]) (by kernel_rfl) (by simp) (AllE.cons rfl (fun K hK => ?_) (AllE.nil))
    go_simp
    go_at_call 19
    refine (with_any _ _ _).mono ?_
    rintro e w3 ⟨rfl, hb3⟩
    refine hK.out _ _ (⟨(hb3.cell (p := ⟨w.heap.size, 2, none⟩) HX2.out.lt).trans hH.1, (show Hid _ from hH.2.1.out.next hb3), (hb3.cell (p := ⟨p, 4097, none⟩) hH.2.1.out.plt).trans hH.2.2.1, (show Hid _ from hH.2.2.2.1.out.next hb3), (show Hid _ from hH.2.2.2.2.out.next hb3)⟩) (fun hH => ?_)
    clear hK K
    try simp only [Act.put, List.setIfInBounds_toArray, List.set_cons_zero, List.set_cons_succ]
    refine anyE_ready (rs := [9]) (by kernel_rfl) (by simp) (AllE.end_ rfl (fun K hK => ?_))
    refine step_store_row rfl 39 (.tmp 4) (.tmp 37) rfl (w.heap.size + 1) (ckA (mx (V.c tn) (V.st pl))) rfl rfl _ (ckA fun _ => 0) (HR2.out.drew.next hb3) (ck_size _) (ck_same _).symm (ckA_all _) ?_
    refine hK.out _ _ ?_
    clear hK K
    clear hH
    try simp only [Act.put, List.setIfInBounds_toArray, List.set_cons_zero, List.set_cons_succ]
    refine anyE_done (by kernel_rfl) ?_ _
    go_wp2_with fail
    exact bodyPost_ret (v := .agg (ckA (mx (V.c tn) (V.st pl)))) (results_cell_row rfl _ _ (w.heap.size + 1) _ _ _ _ rfl (Blk.row (HR2.out.drew.next hb3) _) ck_is rfl (ck_size _)) rfl ⟨by rw [HKN.out], below_row (HB2.out.drew.trans (hb3.mono HB2.out.size)) (by omega) _⟩
  by_cases k4 : k = 4
  · subst k4
    have HKN : Hid (known V ⟨(tn : Int), 4, pl⟩ = mx (V.c tn) (V.st pl)) := by show _ = _; unfold known; rw [if_neg (show ¬ (4 : Int) = 1 by decide), if_pos (.inr rfl)]; rfl
    go_wp2_with fail
    refine region_e (S := (fun w' => w'.cell? ⟨w.heap.size, 2, none⟩ = some (.int .i64 pl) ∧ Hid (Pa w' p m1 m2 m3 m4 V) ∧ w'.cell? ⟨p, 4097, none⟩ = some (.map (some m2)) ∧ Hid (Blk w' (w.heap.size + 2) (ckA (V.c tn)) 39) ∧ Hid (Blk w' (w.heap.size + 1) (ckA fun _ => 0) 39))) 9 (by kernel_rfl) (⟨HX2.out.cell 2 _ rfl, (show Hid _ from HP2.out.drew), HP2.out.c2, (show Hid _ from HC2.out.drew), (show Hid _ from HR2.out.drew)⟩) (fun hH => ?_)
    refine anyE_take (i := 0) (oi := ⟨some 29, _, _, _, _, _⟩) (v := ?v301) rfl (by kernel_rfl) (by kernel_rfl) (by kernel_rfl) (by kernel_rfl) (fun _ _ _ h => h) (Or.inl ⟨rfl, ?c301⟩) hH ?r301
    case c301 => (intro w' hS; refine take_load_row 39 (.tmp 5) ?_ (w.heap.size + 2) ?_ hS.2.2.2.1.out ck_is rfl (ck_size _) <;> rfl)
    try simp only [Act.put, List.setIfInBounds_toArray, List.set_cons_zero, List.set_cons_succ]
    refine anyE_take (i := 1) (oi := ⟨some 30, _, _, _, _, _⟩) (v := ?v302) rfl (by kernel_rfl) (by kernel_rfl) (by kernel_rfl) (by kernel_rfl) (fun _ _ _ h => h) (Or.inl ⟨rfl, ?c302⟩) hH ?r302
    case c302 => (intro w' _; go_simp; (try with_reducible rfl))
    try simp only [Act.put, List.setIfInBounds_toArray, List.set_cons_zero, List.set_cons_succ]
    refine anyE_take (i := 2) (oi := ⟨some 31, _, _, _, _, _⟩) (v := ?v303) rfl (by kernel_rfl) (by kernel_rfl) (by kernel_rfl) (by kernel_rfl) (fun _ _ _ h => h) (Or.inl ⟨rfl, ?c303⟩) hH ?r303
    case c303 => (intro w' _; go_simp; (try with_reducible rfl))
    try simp only [Act.put, List.setIfInBounds_toArray, List.set_cons_zero, List.set_cons_succ]
    refine anyE_take (i := 3) (oi := ⟨some 32, _, _, _, _, _⟩) (v := ?v304) rfl (by kernel_rfl) (by kernel_rfl) (by kernel_rfl) (by kernel_rfl) (fun _ _ _ h => h) (Or.inl ⟨rfl, ?c304⟩) hH ?r304
    case c304 => (intro w' _; go_simp; (try with_reducible rfl))
    try simp only [Act.put, List.setIfInBounds_toArray, List.set_cons_zero, List.set_cons_succ]
    refine anyE_take (i := 4) (oi := ⟨some 33, _, _, _, _, _⟩) (v := ?v305) rfl (by kernel_rfl) (by kernel_rfl) (by kernel_rfl) (by kernel_rfl) (fun _ _ _ h => h) (Or.inl ⟨rfl, ?c305⟩) hH ?r305
    case c305 => (intro w' hS; (try dsimp only at hS); go_simp; (try with_reducible rfl))
    try simp only [Act.put, List.setIfInBounds_toArray, List.set_cons_zero, List.set_cons_succ]
    refine anyE_take (i := 5) (oi := ⟨some 34, _, _, _, _, _⟩) (v := ?v306) rfl (by kernel_rfl) (by kernel_rfl) (by kernel_rfl) (by kernel_rfl) (fun _ _ _ h => h) (Or.inl ⟨rfl, ?c306⟩) hH ?r306
    case c306 => (intro w' _; go_simp; (try with_reducible rfl))
    try simp only [Act.put, List.setIfInBounds_toArray, List.set_cons_zero, List.set_cons_succ]
    refine anyE_take (i := 6) (oi := ⟨some 35, _, _, _, _, _⟩) (v := ?v307) rfl (by kernel_rfl) (by kernel_rfl) (by kernel_rfl) (by kernel_rfl) (fun _ _ _ h => h) (Or.inl ⟨rfl, ?c307⟩) hH ?r307
    case c307 => (intro w' hS; (try dsimp only at hS); go_simp; (try with_reducible rfl))
    try simp only [Act.put, List.setIfInBounds_toArray, List.set_cons_zero, List.set_cons_succ]
    refine anyE_take (i := 7) (oi := ⟨some 36, _, _, _, _, _⟩) (v := ?v308) rfl (by kernel_rfl) (by kernel_rfl) (by kernel_rfl) (by kernel_rfl) (fun _ _ _ h => h) (Or.inl ⟨rfl, ?c308⟩) hH ?r308
    case c308 => (intro w' hS; refine take_look (v := .agg (ckA (V.st pl))) 37 (.tmp 33) (.tmp 35) ?_ m2 pl ?_ ?_ (Mc.look hS.2.1.out.M2 pl) <;> rfl)
    try simp only [Act.put, List.setIfInBounds_toArray, List.set_cons_zero, List.set_cons_succ]
    refine anyE_ready (rs := [8]) (by kernel_rfl) (by simp) (AllE.cons rfl (fun K hK => ?_) (AllE.nil))
    go_simp
    go_at_call 19
    refine (with_any _ _ _).mono ?_
    rintro e w3 ⟨rfl, hb3⟩
    refine hK.out _ _ (⟨(hb3.cell (p := ⟨w.heap.size, 2, none⟩) HX2.out.lt).trans hH.1, (show Hid _ from hH.2.1.out.next hb3), (hb3.cell (p := ⟨p, 4097, none⟩) hH.2.1.out.plt).trans hH.2.2.1, (show Hid _ from hH.2.2.2.1.out.next hb3), (show Hid _ from hH.2.2.2.2.out.next hb3)⟩) (fun hH => ?_)
    clear hK K
    try simp only [Act.put, List.setIfInBounds_toArray, List.set_cons_zero, List.set_cons_succ]
    refine anyE_ready (rs := [9]) (by kernel_rfl) (by simp) (AllE.end_ rfl (fun K hK => ?_))
    refine step_store_row rfl 39 (.tmp 4) (.tmp 37) rfl (w.heap.size + 1) (ckA (mx (V.c tn) (V.st pl))) rfl rfl _ (ckA fun _ => 0) (HR2.out.drew.next hb3) (ck_size _) (ck_same _).symm (ckA_all _) ?_
    refine hK.out _ _ ?_
    clear hK K
    clear hH
    try simp only [Act.put, List.setIfInBounds_toArray, List.set_cons_zero, List.set_cons_succ]
    refine anyE_done (by kernel_rfl) ?_ _
    go_wp2_with fail
    exact bodyPost_ret (v := .agg (ckA (mx (V.c tn) (V.st pl)))) (results_cell_row rfl _ _ (w.heap.size + 1) _ _ _ _ rfl (Blk.row (HR2.out.drew.next hb3) _) ck_is rfl (ck_size _)) rfl ⟨by rw [HKN.out], below_row (HB2.out.drew.trans (hb3.mono HB2.out.size)) (by omega) _⟩
  · have HKN : Hid (known V ⟨(tn : Int), k, pl⟩ = V.c tn) := by show _ = _; unfold known; rw [if_neg k1, if_neg (by rintro (e | e); exact k3 e; exact k4 e)]; rfl
    have d1 : (k == 1) = false := by simpa using k1
    have d3 : (k == 3) = false := by simpa using k3
    have d4 : (k == 4) = false := by simpa using k4
    clear k1 k3 k4
    go_wp2_with (first | refine wpList_load_row rfl 39 (.tmp 5) rfl (w.heap.size + 2) rfl _ (ckA (V.c tn)) _ _ HC2.out ck_is rfl (ck_size _) ?_ | refine wpList_store_row rfl 39 (.tmp 4) (.tmp 38) rfl (w.heap.size + 1) (ckA (V.c tn)) rfl rfl _ (ckA fun _ => 0) HR2.out (ck_size _) (ck_same _).symm (ckA_all _) ?_)
    exact bodyPost_ret (v := .agg (ckA (V.c tn))) (results_cell_row rfl _ _ (w.heap.size + 1) _ _ _ _ rfl (Blk.row HR2.out _) ck_is rfl (ck_size _)) rfl ⟨by rw [HKN.out], below_row HB2.out (by omega) _⟩
end Rc
end Go.Proofs.Ytalclmfnalmphaa
