/- Layer 24: with, exceeds: of two clocks. -/
import Derived.Test.YtalclmfnalmphaaRacA
import Derived.Test.YtalclmfnalmphaaComR
import Derived.Deep.RegionHeld3
set_option linter.unusedVariables false
set_option linter.unusedSimpArgs false
set_option maxRecDepth 100000
namespace Go.Proofs.Ytalclmfnalmphaa
open Go.ChangeShapes Go.WideShapes Go.ChangeAt Go.RowKit Go.Mtl Go.Lib
namespace Rc
open RcM
theorem Blk.row {w : World} {g : Nat} {cs : Array Value} {t : TypeId} (H : Blk w g cs t) (ds : Array Value) : Blk (w.setRow g ds) g ds t := setRow_heap w g _ _ t _ H
theorem Blk.row_other {w : World} {g k : Nat} {cs : Array Value} {t : TypeId} (H : Blk w g cs t) (ds : Array Value) (hk : g ≠ k) : Blk (w.setRow k ds) g cs t := (setRow_other w k g ds hk).trans H
theorem below_row {B g : Nat} {w0 w : World} (hb : Below B w0 w) (hg : B ≤ g) (cs : Array Value) : Below B w0 (w.setRow g cs) := hb.trans ⟨rfl, rfl, rfl, by simp [World.setRow], fun k hk => setRow_other w g k cs (by omega)⟩
theorem ck_same (c : Ck) : (ckA c).size = (ckA fun _ => 0).size := by rw [ckA_size, ckA_size]
set_option maxHeartbeats 2000000 in
theorem with_any (c d : Ck) (w : World) : Calls Try.prog 19 #[.agg (ckA c), .agg (ckA d)] w fun e w' => e = .returned (.agg (ckA (mx c d))) ∧ Below w.heap.size w w' := by
  have hz := ck_zero
  have HC := Lib.hid (((Blk.box w (ckA c) 39).alloc (.cells (ckA d) 39)).alloc (.cells (ckA fun _ => 0) 39))
  have HD := Lib.hid ((Blk.box1 w (.cells (ckA c) 39) (ckA d) 39).alloc (.cells (ckA fun _ => 0) 39))
  have HR := Lib.hid (Blk.box2 w (.cells (ckA c) 39) (.cells (ckA d) 39) (ckA fun _ => 0) 39)
  go_in
  go_wp2_with (refine wpList_load_row rfl 39 (.tmp 3) rfl (w.heap.size + 1) rfl _ (ckA d) _ _ HD.out ck_is rfl (ck_size d) ?_)
  go_loopw [5, 6, 8] (fun _ _ vk wr => ∃ k : Nat, vk = .int .i64 (k : Int) ∧ k ≤ 64 ∧ Hid (Below w.heap.size w wr ∧ Blk wr w.heap.size (ckA fun u => if u < k then max (c u) (d u) else c u) 39 ∧ Blk wr (w.heap.size + 2) (ckA fun _ => 0) 39)) (fun _ _ vk _ => 64 - (RowKit.intOf vk).toNat)
  case atStart =>
    have hb : Below w.heap.size w (((w.alloc (.cells (ckA c) 39)).alloc (.cells (ckA d) 39)).alloc (.cells (ckA fun _ => 0) 39)) := (((Below.refl _ w).alloc (Nat.le_refl _) _).alloc (by simp) _).alloc (by simp; omega) _
    exact ⟨0, rfl, by omega, (show Hid _ from ⟨hb, by rw [ckA_ext (d := c) fun u _ => if_neg (Nat.not_lt_zero u)]; exact HC.out, HR.out⟩)⟩
  case round =>
    obtain ⟨k, rfl, hk, HL⟩ := hrel
    by_cases hlt : k < 64
    · have x0 := HL.out.2.1.cell k _ (ckA_get hlt)
      rw [if_neg (Nat.lt_irrefl k)] at x0
      have f0 := HL.out.2.1.frozen k
      have hx := ck_index d k hlt
      have HN : Hid (∀ n, n = max (c k) (d k) → Blk (wr.setCell ⟨w.heap.size, k, none⟩ (.int .i64 n)) w.heap.size (ckA fun u => if u < k + 1 then max (c u) (d u) else c u) 39) := fun n hn => HL.out.2.1.set' k _ ((ckA_set hlt n).trans (ckA_ext fun u _ => by
        unfold setN
        by_cases e : u = k
        · subst e; rw [if_pos rfl, if_pos (by omega), hn]
        · rw [if_neg e]
          dsimp only
          by_cases h : u < k
          · rw [if_pos h, if_pos (by omega)]
          · rw [if_neg h, if_neg (by omega)]))
      go_wp2_with fail
      go_roundw
      case rel => exact ⟨k + 1, by go_num, by omega, (show Hid _ from ⟨HL.out.1.setCell (Nat.le_refl _) _, HN.out _ (by first | rfl | omega), HL.out.2.2.other _ _ (by omega) _⟩)⟩
      case measure => simp [RowKit.intOf]; omega
    · obtain rfl : k = 64 := by omega
      have HF : Hid (Blk wr w.heap.size (ckA (mx c d)) 39) := by
        show Blk _ _ _ _
        rw [show ckA (mx c d) = ckA fun u => if u < 64 then max (c u) (d u) else c u from ckA_ext fun u hu => by rw [if_pos hu]; rfl]
        exact HL.out.2.1
      go_wp2_with (first | refine wpList_load_row rfl 39 (.tmp 2) rfl w.heap.size rfl _ (ckA (mx c d)) _ _ HF.out ck_is rfl (ck_size _) ?_ | refine wpList_store_row rfl 39 (.tmp 4) (.tmp 20) rfl (w.heap.size + 2) (ckA (mx c d)) rfl rfl _ (ckA fun _ => 0) HL.out.2.2 (ck_size _) (ck_same _).symm (ckA_all _) ?_)
      exact bodyPost_ret (v := .agg (ckA (mx c d))) (results_cell_row rfl _ _ (w.heap.size + 2) _ _ _ _ rfl (Blk.row HL.out.2.2 _) ck_is rfl (ck_size _)) rfl ⟨rfl, below_row HL.out.1 (by omega) _⟩
/-- A whole row is stored, at a step of a region that draws its order. -/
theorem step_store_row {P : Program} {w : World} {o : Oper} {a : Act} {K : Act → World → Prop} {Q : Exit → Act → World → Prop} {ops : Array Oper} {E : Prop} (hgd : o.guard = none) (ty : TypeId) (x y : Operand) (ho : o.op = .store ty x y)
    (g : Nat) (cells : Array Value) (hx : a.eval x = .pointer (some ⟨g, 0, none⟩)) (hy : a.eval y = .agg cells)
    (t : TypeId) (old : Array Value) (hg : w.heap[g]? = some (.cells old t (0, 0))) (hi : (P.info? ty).map (·.size) = some cells.size)
    (hold : old.size = cells.size) (h1 : cells.all (·.oneCell') = true) (h : K (a.put o.dst undef) (w.setRow g cells)) : if Region.wanted o (yielded ops a.tmps) = true then Oper.wp P o a w K Q else E := by
  rw [if_pos (by simp [Region.wanted, hgd])]
  exact wp_store_row ty x y ho g cells hx hy t old hg hi hold h1 h
/-- .. into the middle of a block. -/
theorem step_store_mid {P : Program} {w : World} {o : Oper} {a : Act} {K : Act → World → Prop} {Q : Exit → Act → World → Prop} {ops : Array Oper} {E : Prop} (hgd : o.guard = none) (ty : TypeId) (x y : Operand) (ho : o.op = .store ty x y)
    (b f : Nat) (cells : Array Value) (hx : a.eval x = .pointer (some ⟨b, f, none⟩)) (hy : a.eval y = .agg cells) (ht : w.there b f cells.size) (hi : (P.info? ty).map (·.size) = some cells.size) (h1 : cells.all (·.oneCell') = true)
    (h : K (a.put o.dst undef) (w.setCells b f cells.toList)) : if Region.wanted o (yielded ops a.tmps) = true then Oper.wp P o a w K Q else E := by
  rw [if_pos (by simp [Region.wanted, hgd])]
  exact wp_store_mid ty x y ho b f cells hx hy ht hi h1 h
/-- Whole rows that are loaded, as a region that draws its order may take them first. -/
theorem take_load_row {P : Program} {w : World} {o : Oper} {a : Act} (ty : TypeId) (x : Operand) (ho : o.op = .load ty x) (g : Nat) (hx : a.eval x = .pointer (some ⟨g, 0, none⟩)) {cs : Array Value} {t : TypeId} {d : TypeDesc} (hg : Blk w g cs t) (hu : P.underlying ty = some d) (hd : (match d with | .struct _ | .array _ _ => true | _ => false) = true) (hi : (P.info? ty).map (·.size) = some cs.size) :
    (execOp a.eval o).run P w = .ok (.value (.agg cs)) w := by
  unfold execOp
  simp only [ho, hx, Instr.loadAt, Instr.sureAddr, Sem.run_bind, Sem.run_pure, Result.andThen_ok, run_loadVar_row w g t ty cs (0, 0) d hg hu hd hi]
theorem take_load_mid {P : Program} {w : World} {o : Oper} {a : Act} (ty : TypeId) (x : Operand) (ho : o.op = .load ty x) (b f : Nat) (hx : a.eval x = .pointer (some ⟨b, f, none⟩)) {cs : List Value} {d : TypeDesc} (hc : w.rangeAt b f cs) (hu : P.underlying ty = some d) (hd : d.isRow = true) (hi : (P.info? ty).map (·.size) = some cs.length) :
    (execOp a.eval o).run P w = .ok (.value (.agg cs.toArray)) w := by
  unfold execOp
  simp only [ho, hx, Instr.loadAt, Instr.sureAddr, Sem.run_bind, Sem.run_pure, Result.andThen_ok, run_loadVar_mid w b f ty cs d hc hu hd hi]
theorem take_look {P : Program} {w : World} {o : Oper} {a : Act} (T : TypeId) (x y : Operand) (ho : o.op = .lookup T x y false) (m : Nat) (k : Int) (hx : a.eval x = .map (some m)) (hy : a.eval y = .int .i64 k) {v : Value} (hr : (Instr.lookup T (.map (some m)) (.int .i64 k) false).run P w = .ok v w) :
    (execOp a.eval o).run P w = .ok (.value v) w := by
  unfold execOp
  simp only [ho, hx, hy, Sem.run_bind, Sem.run_pure, Result.andThen_ok, hr]
/-- A map keyed by int is asked or written, in order or at a step of a region that draws its order. -/
theorem wpList_look {P : Program} {ops : Array Oper} {rest : List Oper} {w : World} {o : Oper} {a : Act} {Q : Exit → Act → World → Prop} (hgd : o.guard = none) (T : TypeId) (x y : Operand) (ho : o.op = .lookup T x y false) (m : Nat) (k : Int) (hx : a.eval x = .map (some m)) (hy : a.eval y = .int .i64 k) {v : Value} (hr : (Instr.lookup T (.map (some m)) (.int .i64 k) false).run P w = .ok v w)
    (h : wpList P ops Q rest (a.put o.dst v) w) : wpList P ops Q (o :: rest) a w :=
  wpList_plain hgd fun _ hK => by
    unfold Oper.wp execOp
    simp only [ho, hx, hy, Sem.run_bind, Sem.run_pure, Result.andThen_ok, hr]
    exact hK _ _ h
theorem wp_map_put {P : Program} {w w' : World} {o : Oper} {a : Act} {K : Act → World → Prop} {Q : Exit → Act → World → Prop} (T : TypeId) (x y z : Operand) (ho : o.op = .mapUpdate T x y z) (m : Nat) (k : Int) (v : Value) (hx : a.eval x = .map (some m)) (hy : a.eval y = .int .i64 k) (hz : a.eval z = v)
    (hr : (Instr.mapUpdate T (.map (some m)) (.int .i64 k) v).run P w = .ok () w') (h : K (a.put o.dst undef) w') : Oper.wp P o a w K Q := by
  unfold Oper.wp execOp
  simp only [ho, hx, hy, hz, Sem.run_bind, Sem.run_pure, Result.andThen_ok, hr]
  exact h
theorem wpList_map_put {P : Program} {ops : Array Oper} {rest : List Oper} {w w' : World} {o : Oper} {a : Act} {Q : Exit → Act → World → Prop} (hgd : o.guard = none) (T : TypeId) (x y z : Operand) (ho : o.op = .mapUpdate T x y z) (m : Nat) (k : Int) (v : Value) (hx : a.eval x = .map (some m)) (hy : a.eval y = .int .i64 k) (hz : a.eval z = v)
    (hr : (Instr.mapUpdate T (.map (some m)) (.int .i64 k) v).run P w = .ok () w') (h : wpList P ops Q rest (a.put o.dst undef) w') : wpList P ops Q (o :: rest) a w :=
  wpList_plain hgd fun _ hK => wp_map_put T x y z ho m k v hx hy hz hr (hK _ _ h)
theorem step_map_put {P : Program} {w w' : World} {o : Oper} {a : Act} {K : Act → World → Prop} {Q : Exit → Act → World → Prop} {ops : Array Oper} {E : Prop} (hgd : o.guard = none) (T : TypeId) (x y z : Operand) (ho : o.op = .mapUpdate T x y z) (m : Nat) (k : Int) (v : Value) (hx : a.eval x = .map (some m)) (hy : a.eval y = .int .i64 k) (hz : a.eval z = v)
    (hr : (Instr.mapUpdate T (.map (some m)) (.int .i64 k) v).run P w = .ok () w') (h : K (a.put o.dst undef) w') : if Region.wanted o (yielded ops a.tmps) = true then Oper.wp P o a w K Q else E := by
  rw [if_pos (by simp [Region.wanted, hgd])]
  exact wp_map_put T x y z ho m k v hx hy hz hr h
/-- Arms that are meant for the operation that writes slot k, or for a map's store. -/
theorem at_dst (k : Nat) {P : Program} {w : World} {ops : Array Oper} {rest : List Oper} {a : Act} {Q : Exit → Act → World → Prop} {op : Op} {ty : TypeId} {pos : String} {aft : Array Edge} {gd : Option (Nat × Bool)}
    (h : wpList P ops Q (⟨some k, op, ty, pos, aft, gd⟩ :: rest) a w) : wpList P ops Q (⟨some k, op, ty, pos, aft, gd⟩ :: rest) a w := h
theorem at_put {P : Program} {w : World} {ops : Array Oper} {rest : List Oper} {a : Act} {Q : Exit → Act → World → Prop} {T : TypeId} {x y z : Operand} {ty : TypeId} {pos : String} {aft : Array Edge} {gd : Option (Nat × Bool)} {d : Option Tmp}
    (h : wpList P ops Q (⟨d, .mapUpdate T x y z, ty, pos, aft, gd⟩ :: rest) a w) : wpList P ops Q (⟨d, .mapUpdate T x y z, ty, pos, aft, gd⟩ :: rest) a w := h
open Classical in
noncomputable def excB (c d : Ck) : Bool := decide (exc c d)
open Classical in
theorem excB_yes {c d : Ck} {u : Nat} (hu : u < 64) (h : d u < c u) : excB c d = true := by unfold excB; exact decide_eq_true ⟨u, hu, h⟩
open Classical in
theorem excB_no {c d : Ck} (h : ∀ u, u < 64 → c u ≤ d u) : excB c d = false := by unfold excB; exact decide_eq_false fun ⟨u, hu, e⟩ => by have := h u hu; omega
open Classical in
theorem excB_iff {c d : Ck} : excB c d = true ↔ exc c d := by unfold excB; exact decide_eq_true_iff
set_option maxHeartbeats 2000000 in
theorem exceeds_any (c d : Ck) (w : World) : Calls Try.prog 20 #[.agg (ckA c), .agg (ckA d)] w fun e w' => e = .returned (.bool (excB c d)) ∧ Below w.heap.size w w' := by
  have HC := Lib.hid ((Blk.box w (ckA c) 39).alloc (.cells (ckA d) 39))
  have HD := Lib.hid (Blk.box1 w (.cells (ckA c) 39) (ckA d) 39)
  have HB : Hid (Below w.heap.size w ((w.alloc (.cells (ckA c) 39)).alloc (.cells (ckA d) 39))) := ((Below.refl _ w).alloc (Nat.le_refl _) _).alloc (by simp) _
  go_in
  go_wp2_with (refine wpList_load_row rfl 39 (.tmp 2) rfl w.heap.size rfl _ (ckA c) _ _ HC.out ck_is rfl (ck_size c) ?_)
  go_loopw [4, 5, 6, 8] (fun v4 _ _ vk wr => v4 = .bool false ∧ ∃ k : Nat, vk = .int .i64 (k : Int) ∧ k ≤ 64 ∧ Hid ((∀ u, u < k → c u ≤ d u) ∧ Below w.heap.size w wr ∧ Blk wr (w.heap.size + 1) (ckA d) 39)) (fun _ _ _ vk _ => 64 - (RowKit.intOf vk).toNat)
  case atStart => exact ⟨rfl, 0, rfl, by omega, (show Hid _ from ⟨fun u hu => absurd hu (Nat.not_lt_zero u), HB.out, HD.out⟩)⟩
  case round =>
    obtain ⟨rfl, k, rfl, hk, HL⟩ := hrel
    by_cases hlt : k < 64
    · have x0 := HL.out.2.2.cell k _ (ckA_get hlt)
      have hx := ck_index c k hlt
      by_cases hd : d k < c k
      · have d1 : decide (c k > d k) = true := by simpa using hd
        have HE := Lib.hid (excB_yes hlt hd)
        clear hd
        go_wp2_with fail
        go_ret
        exact ⟨by rw [HE.out]; rfl, HL.out.2.1⟩
      · have d1 : decide (c k > d k) = false := by simpa using hd
        have HN : Hid (∀ u, u < k + 1 → c u ≤ d u) := fun u hu => by
          by_cases e : u = k
          · subst e; omega
          · exact HL.out.1 u (by omega)
        clear hd
        go_wp2_with fail
        go_roundw
        case rel => exact ⟨rfl, k + 1, by go_num, by omega, (show Hid _ from ⟨HN.out, HL.out.2⟩)⟩
        case measure => simp [RowKit.intOf]; omega
    · obtain rfl : k = 64 := by omega
      go_wp2_with fail
      go_ret
      exact ⟨by rw [excB_no HL.out.1]; rfl, HL.out.2.1⟩
end Rc
end Go.Proofs.Ytalclmfnalmphaa
