/- Layer 16: the map of steps as the program makes it, and what is found in it; the contracts of kindOf, steps, Open, Next, and of the reference's. -/
import Derived.Test.YtmbdhcfhackgfaaRows
import Derived.Test.YtmbdhcfhackgfaaTraM
import Derived.Test.YtmbdhcfhackgfaaComO
import Derived.Test.YtmbdhcfhackgfaaComJ
import Derived.WalkKit
import Derived.ProofKit
import Derived.OpenShut
import Derived.BigQuiet
import Derived.Lib.Hide
import Derived.MapKept
import Derived.Laws.StructEq
import Derived.ChangeKeysEq
import Derived.KernelRfl
set_option linter.unusedVariables false
set_option linter.unusedSimpArgs false
namespace Go.Proofs.Ytmbdhcfhackgfaa
open Go.ChangeShapes Go.WideShapes Go.ChangeAt Go.RowKit Go.Mtl Go.Lib
namespace Tr
open TraM (Step find kindN stN stB nextN nextB openN openB bitB refN refB nxN nxB)

/-- The cells of a step. -/
abbrev kc (s : Int) (r : Bool) (k : Int) : Array Value := #[.int .i64 s, .bool r, .int .i64 k]
/-- The entries of a map of steps. -/
def ent : Nat → List Step → List MapEntry
  | _, [] => []
  | n, x :: l => { key := .agg (kc x.1 x.2.1 x.2.2.1), val := .int .i64 x.2.2.2, born := n } :: ent (n + 1) l
theorem ent_len : ∀ (l : List Step) (n : Nat), (ent n l).length = l.length
  | [], _ => rfl
  | x :: l, n => by simp [ent, ent_len l]
theorem ent_app (x : Step) : ∀ (l : List Step) (n : Nat), ent n (l ++ [x]) = ent n l ++ [{ key := .agg (kc x.1 x.2.1 x.2.2.1), val := .int .i64 x.2.2.2, born := n + l.length }]
  | [], n => rfl
  | y :: l, n => by
    have := ent_app x l (n + 1)
    simp only [List.cons_append, ent, this, List.length_cons, Nat.add_assoc, Nat.add_comm 1]
def mp (l : List Step) : Obj := .map (ent 0 l).toArray l.length

theorem st_fields : Try.prog.underlying 44 = some (.struct (Try.prog.fieldsOf 44)) := by kernel_rfl
theorem st_stood : Try.prog.stoodInHeld 44 = false := by kernel_rfl
theorem st_lay : (Try.prog.fieldsOf 44).toList.map (fun f => (f.type, f.offset)) = [(3, 0), (4, 1), (3, 2)] := by kernel_rfl
theorem st_names : (Try.prog.fieldsOf 44).toList.all (fun f => f.name != "_") = true := by kernel_rfl
theorem map_is : Try.prog.underlying 41 = some (.map 44 3) := by kernel_rfl
theorem st_eq (s : Int) (r : Bool) (k s2 : Int) (r2 : Bool) (k2 : Int) (w : World) : (Op.equalIn 10000 44 (.agg (kc s r k)) (.agg (kc s2 r2 k2))).run Try.prog w = .ok (decide (s = s2 ∧ r = r2 ∧ k = k2)) w := by
  rw [show (10000 : Nat) = 9999 + 1 from rfl, run_equalIn_struct w 9999 _ _ _ st_fields st_stood]
  have hl := st_lay
  have hn := st_names
  generalize (Try.prog.fieldsOf 44).toList = l at hl hn ⊢
  rcases l with _ | ⟨f1, _ | ⟨f2, _ | ⟨f3, _ | ⟨f4, l⟩⟩⟩⟩ <;> simp at hl hn
  obtain ⟨⟨t1, o1⟩, ⟨t2, o2⟩, t3, o3⟩ := hl
  obtain ⟨n1, n2, n3⟩ := hn
  have c1 : ∀ (s : Int) (r : Bool) (k : Int), (part 3 (kc s r k) 0).run Try.prog w = .ok (.int .i64 s) w := fun s r k => by simp [go_sem]
  have c2 : ∀ (s : Int) (r : Bool) (k : Int), (part 4 (kc s r k) 1).run Try.prog w = .ok (.bool r) w := fun s r k => by simp [go_sem]
  have c3 : ∀ (s : Int) (r : Bool) (k : Int), (part 3 (kc s r k) 2).run Try.prog w = .ok (.int .i64 k) w := fun s r k => by simp [go_sem]
  have q1 : (Op.equalIn 9999 3 (.int .i64 s) (.int .i64 s2)).run Try.prog w = .ok (s == s2) w := run_equalIn_int w 9998 _ .i64 .i64 s s2 (by kernel_rfl)
  have q2' : (Op.equalIn 9999 4 (.bool r) (.bool r2)).run Try.prog w = .ok (r == r2) w := by
    have hu : Try.prog.underlying 4 = some .bool := by kernel_rfl
    rw [show (9999 : Nat) = 9998 + 1 from rfl, Op.equalIn]
    simp [run_underlying hu, Result.andThen]
  have q3 : (Op.equalIn 9999 3 (.int .i64 k) (.int .i64 k2)).run Try.prog w = .ok (k == k2) w := run_equalIn_int w 9998 _ .i64 .i64 k k2 (by kernel_rfl)
  simp only [Op.eqFields, ne_eq, n1, n2, n3, not_false_eq_true, if_true, t1, t2, t3, o1, o2, o3, Sem.run_bind, c1, c2, c3, Result.andThen_ok, q1, q2', q3, Sem.run_ite, Sem.run_pure]
  by_cases h1 : s = s2
  · by_cases h2 : r = r2
    · by_cases h3 : k = k2
      · simp [h1, h2, h3]
      · simp [h1, h2, h3]
    · simp [h1, h2]
  · simp [h1]
/-- A step serves as a key. -/
theorem st_check (em : Bool) (s : Int) (r : Bool) (k : Int) (w : World) : (Instr.checkKey em 10000 44 (.agg (kc s r k))).run Try.prog w = .ok () w := by
  rw [show (10000 : Nat) = 9999 + 1 from rfl, Instr.checkKey]
  simp only [Sem.run_bind, run_underlying st_fields, Result.andThen_ok]
  rw [← Array.forIn_toList]
  have hl := st_lay
  have hn := st_names
  generalize (Try.prog.fieldsOf 44).toList = l at hl hn ⊢
  rcases l with _ | ⟨f1, _ | ⟨f2, _ | ⟨f3, _ | ⟨f4, l⟩⟩⟩⟩ <;> simp at hl hn
  obtain ⟨⟨t1, o1⟩, ⟨t2, o2⟩, t3, o3⟩ := hl
  obtain ⟨n1, n2, n3⟩ := hn
  have c1 : (part 3 (kc s r k) 0).run Try.prog w = .ok (.int .i64 s) w := by simp [go_sem]
  have c2 : (part 4 (kc s r k) 1).run Try.prog w = .ok (.bool r) w := by simp [go_sem]
  have c3 : (part 3 (kc s r k) 2).run Try.prog w = .ok (.int .i64 k) w := by simp [go_sem]
  have q1 : ∀ x, (Instr.checkKey em 9999 3 (.int .i64 x)).run Try.prog w = .ok () w := fun x => MapKept.run_checkKey (d := .int .i64) (k := .int .i64 x) (by kernel_rfl) rfl em 9998
  have q2 : ∀ x, (Instr.checkKey em 9999 4 (.bool x)).run Try.prog w = .ok () w := fun x => MapKept.run_checkKey (d := .bool) (k := .bool x) (by kernel_rfl) trivial em 9998
  simp only [List.forIn_cons, List.forIn_nil, ne_eq, n1, n2, n3, not_false_eq_true, if_true, t1, t2, t3, o1, o2, o3, Sem.run_bind, c1, c2, c3, Result.andThen_ok, q1, q2, Sem.run_pure]
/-- What is found in a map of steps. -/
theorem st_asking (s : Int) (r : Bool) (k : Int) (w : World) : ∀ (l : List Step) (n i : Nat), (Instr.findAsking 44 (.agg (kc s r k)) (ent n l) i).run Try.prog w = .ok ((find s r k l i).map fun p => (p.1, .int .i64 p.2)) w
  | [], n, i => by simp [ent, find, Instr.findAsking]
  | x :: l, n, i => by
    have h := st_eq s r k x.1 x.2.1 x.2.2.1 w
    rw [ent, Instr.findAsking, find]
    simp only [Sem.run_bind, Op.equal, Op.maxDepth, h, Result.andThen_ok]
    by_cases hx : s = x.1 ∧ r = x.2.1 ∧ k = x.2.2.1
    · rw [decide_eq_true hx, if_pos hx]
      simp
    · rw [decide_eq_false hx, if_neg hx]
      simp only [Bool.false_eq_true, if_false]
      exact st_asking s r k w l (n + 1) (i + 1)
theorem st_find (s : Int) (r : Bool) (k : Int) (l : List Step) (w : World) : (Instr.findKey 44 (.agg (kc s r k)) (ent 0 l)).run Try.prog w = .ok ((find s r k l 0).map fun p => (p.1, .int .i64 p.2)) w := by
  have h := st_asking s r k w l 0 0
  cases l with
  | nil => simp [Instr.findKey, run_underlying st_fields, Result.andThen, ent, Instr.findNow, find]
  | cons x l =>
    have hn : Instr.findNow (.struct (Try.prog.fieldsOf 44)) (.agg (kc s r k)) (ent 0 (x :: l)) 0 = none := by simp [ent, Instr.findNow, Instr.sameNow]
    simp only [Instr.findKey, Sem.run_bind, run_underlying st_fields, Result.andThen_ok, hn, h]
theorem push_set {α : Type} (h : Array α) (x y : α) : (h.push x).setIfInBounds h.size y = h.push y := by
  apply Array.toList_inj.1
  simp
/-- A step laid into a map of the call's own that is the last block: one that is not there yet. -/
theorem run_lay (w : World) (l : List Step) (s : Int) (r : Bool) (k d : Int) (hf : find s r k l 0 = none) :
    (Instr.mapUpdate 41 (.map (some w.heap.size)) (.agg (kc s r k)) (.int .i64 d)).run Try.prog (w.alloc (mp l)) = .ok () (w.alloc (mp (l ++ [(s, r, k, d)]))) := by
  have hb : (w.alloc (mp l)).heap[w.heap.size]? = some (.map (ent 0 l).toArray l.length) := heap_alloc_new _ _
  have hk := st_find s r k l (w.alloc (mp l))
  rw [hf] at hk
  have hset : (setObj w.heap.size (.map ((ent 0 l).toArray.push { key := .agg (kc s r k), val := .int .i64 d, born := l.length }) (l.length + 1))).run Try.prog (w.alloc (mp l)) = .ok () (w.alloc (mp (l ++ [(s, r, k, d)]))) := by
    rw [MapKept.run_setObj_map _ hb]
    show Result.ok () ({ w.alloc (mp l) with heap := (w.heap.push (mp l)).setIfInBounds w.heap.size _ } : World) = _
    rw [push_set]
    have e : mp (l ++ [(s, r, k, d)]) = .map ((ent 0 l).toArray.push { key := .agg (kc s r k), val := .int .i64 d, born := l.length }) (l.length + 1) := by
      unfold mp
      rw [ent_app]
      simp
    rw [e]
    rfl
  simp only [Instr.mapUpdate, Sem.run_bind, run_underlying map_is, Result.andThen_ok, MapKept.run_getObj_map hb, st_check, hk, Option.map_none, hset]
theorem make0 (w : World) : (Instr.makeMap 41 none).run Try.prog w = .ok (.map (some w.heap.size)) (w.alloc (mp [])) := run_makeMap (P := Try.prog) 41 w
/-- The step that an operation of the region lays. -/
def stAt (i : Nat) : Step := TraM.p22.getD (i / 2 - 1) (0, false, 0, 0)
def pool : List Nat := [2, 4, 6, 8, 10, 12, 14, 16, 18, 20, 22, 24, 26, 28, 30, 32, 34, 36, 38, 40, 42, 44]
theorem pool_nodup : pool.Nodup := by decide +kernel
theorem pool_map : pool.map stAt = TraM.p22 := by decide +kernel
theorem pool_key : ∀ i ∈ pool, ∀ j ∈ pool, (stAt i).1 = (stAt j).1 ∧ (stAt i).2.1 = (stAt j).2.1 ∧ (stAt i).2.2.1 = (stAt j).2.2.1 → i = j := by decide +kernel
theorem find_new {D : List Nat} {i : Nat} (hD : ∀ x ∈ D, x ∈ pool) (hi : i ∈ pool) (hn : i ∉ D) : ∀ k, find (stAt i).1 (stAt i).2.1 (stAt i).2.2.1 (D.map stAt) k = none := by
  induction D with
  | nil => intro k; rfl
  | cons x D ih =>
    intro k
    rw [List.map_cons, find, if_neg (fun h => hn (by rw [pool_key i hi x (hD x (by simp)) h]; simp))]
    exact ih (fun y hy => hD y (by simp [hy])) (fun h => hn (by simp [h])) (k + 1)
theorem lay_new (w : World) {D : List Nat} {i : Nat} (hD : ∀ x ∈ D, x ∈ pool) (hi : i ∈ pool) (hn : i ∉ D) :
    (Instr.mapUpdate 41 (.map (some w.heap.size)) (.agg (kc (stAt i).1 (stAt i).2.1 (stAt i).2.2.1)) (.int .i64 (stAt i).2.2.2)).run Try.prog (w.alloc (mp (D.map stAt))) = .ok () (w.alloc (mp ((D ++ [i]).map stAt))) := by
  have h := run_lay w (D.map stAt) (stAt i).1 (stAt i).2.1 (stAt i).2.2.1 (stAt i).2.2.2 (find_new hD hi hn 0)
  rw [h, List.map_append]
  rfl
set_option maxRecDepth 100000 in
set_option maxHeartbeats 4000000 in
theorem steps_any (w : World) : Calls Try.prog 21 #[] w fun e w' => e = .returned (.map (some w.heap.size)) ∧ ∃ l, l.Perm TraM.p22 ∧ w' = w.drew.alloc (mp l) := by
  have hm := make0 w.drew
  go_enter Try.func21, Try.ntmps21
  go_wp2_with fail
  refine wp_region_any (by kernel_rfl) ?_
  change wpAny _ _ _ _ _ _ _ (World.drew _)
  refine wpAny_take (i := 1) (v := .agg #[.int .i64 1, .bool false, .int .i64 1]) rfl (by kernel_rfl) (by kernel_rfl) (by kernel_rfl) (fun _ _ _ h => h) (Or.inl ⟨by rfl, fun w => by go_simp⟩) ?_
  simp only [Act.put, List.setIfInBounds_toArray, List.set_cons_zero, List.set_cons_succ]
  refine wpAny_take (i := 3) (v := .agg #[.int .i64 1, .bool true, .int .i64 2]) rfl (by kernel_rfl) (by kernel_rfl) (by kernel_rfl) (fun _ _ _ h => h) (Or.inl ⟨by rfl, fun w => by go_simp⟩) ?_
  simp only [Act.put, List.setIfInBounds_toArray, List.set_cons_zero, List.set_cons_succ]
  refine wpAny_take (i := 5) (v := .agg #[.int .i64 2, .bool false, .int .i64 1]) rfl (by kernel_rfl) (by kernel_rfl) (by kernel_rfl) (fun _ _ _ h => h) (Or.inl ⟨by rfl, fun w => by go_simp⟩) ?_
  simp only [Act.put, List.setIfInBounds_toArray, List.set_cons_zero, List.set_cons_succ]
  refine wpAny_take (i := 7) (v := .agg #[.int .i64 2, .bool true, .int .i64 2]) rfl (by kernel_rfl) (by kernel_rfl) (by kernel_rfl) (fun _ _ _ h => h) (Or.inl ⟨by rfl, fun w => by go_simp⟩) ?_
  simp only [Act.put, List.setIfInBounds_toArray, List.set_cons_zero, List.set_cons_succ]
  refine wpAny_take (i := 9) (v := .agg #[.int .i64 2, .bool false, .int .i64 3]) rfl (by kernel_rfl) (by kernel_rfl) (by kernel_rfl) (fun _ _ _ h => h) (Or.inl ⟨by rfl, fun w => by go_simp⟩) ?_
  simp only [Act.put, List.setIfInBounds_toArray, List.set_cons_zero, List.set_cons_succ]
  refine wpAny_take (i := 11) (v := .agg #[.int .i64 2, .bool false, .int .i64 4]) rfl (by kernel_rfl) (by kernel_rfl) (by kernel_rfl) (fun _ _ _ h => h) (Or.inl ⟨by rfl, fun w => by go_simp⟩) ?_
  simp only [Act.put, List.setIfInBounds_toArray, List.set_cons_zero, List.set_cons_succ]
  refine wpAny_take (i := 13) (v := .agg #[.int .i64 3, .bool false, .int .i64 3]) rfl (by kernel_rfl) (by kernel_rfl) (by kernel_rfl) (fun _ _ _ h => h) (Or.inl ⟨by rfl, fun w => by go_simp⟩) ?_
  simp only [Act.put, List.setIfInBounds_toArray, List.set_cons_zero, List.set_cons_succ]
  refine wpAny_take (i := 15) (v := .agg #[.int .i64 3, .bool true, .int .i64 3]) rfl (by kernel_rfl) (by kernel_rfl) (by kernel_rfl) (fun _ _ _ h => h) (Or.inl ⟨by rfl, fun w => by go_simp⟩) ?_
  simp only [Act.put, List.setIfInBounds_toArray, List.set_cons_zero, List.set_cons_succ]
  refine wpAny_take (i := 17) (v := .agg #[.int .i64 3, .bool false, .int .i64 4]) rfl (by kernel_rfl) (by kernel_rfl) (by kernel_rfl) (fun _ _ _ h => h) (Or.inl ⟨by rfl, fun w => by go_simp⟩) ?_
  simp only [Act.put, List.setIfInBounds_toArray, List.set_cons_zero, List.set_cons_succ]
  refine wpAny_take (i := 19) (v := .agg #[.int .i64 3, .bool true, .int .i64 4]) rfl (by kernel_rfl) (by kernel_rfl) (by kernel_rfl) (fun _ _ _ h => h) (Or.inl ⟨by rfl, fun w => by go_simp⟩) ?_
  simp only [Act.put, List.setIfInBounds_toArray, List.set_cons_zero, List.set_cons_succ]
  refine wpAny_take (i := 21) (v := .agg #[.int .i64 4, .bool false, .int .i64 3]) rfl (by kernel_rfl) (by kernel_rfl) (by kernel_rfl) (fun _ _ _ h => h) (Or.inl ⟨by rfl, fun w => by go_simp⟩) ?_
  simp only [Act.put, List.setIfInBounds_toArray, List.set_cons_zero, List.set_cons_succ]
  refine wpAny_take (i := 23) (v := .agg #[.int .i64 4, .bool true, .int .i64 3]) rfl (by kernel_rfl) (by kernel_rfl) (by kernel_rfl) (fun _ _ _ h => h) (Or.inl ⟨by rfl, fun w => by go_simp⟩) ?_
  simp only [Act.put, List.setIfInBounds_toArray, List.set_cons_zero, List.set_cons_succ]
  refine wpAny_take (i := 25) (v := .agg #[.int .i64 4, .bool false, .int .i64 4]) rfl (by kernel_rfl) (by kernel_rfl) (by kernel_rfl) (fun _ _ _ h => h) (Or.inl ⟨by rfl, fun w => by go_simp⟩) ?_
  simp only [Act.put, List.setIfInBounds_toArray, List.set_cons_zero, List.set_cons_succ]
  refine wpAny_take (i := 27) (v := .agg #[.int .i64 4, .bool true, .int .i64 4]) rfl (by kernel_rfl) (by kernel_rfl) (by kernel_rfl) (fun _ _ _ h => h) (Or.inl ⟨by rfl, fun w => by go_simp⟩) ?_
  simp only [Act.put, List.setIfInBounds_toArray, List.set_cons_zero, List.set_cons_succ]
  refine wpAny_take (i := 29) (v := .agg #[.int .i64 5, .bool false, .int .i64 3]) rfl (by kernel_rfl) (by kernel_rfl) (by kernel_rfl) (fun _ _ _ h => h) (Or.inl ⟨by rfl, fun w => by go_simp⟩) ?_
  simp only [Act.put, List.setIfInBounds_toArray, List.set_cons_zero, List.set_cons_succ]
  refine wpAny_take (i := 31) (v := .agg #[.int .i64 5, .bool true, .int .i64 3]) rfl (by kernel_rfl) (by kernel_rfl) (by kernel_rfl) (fun _ _ _ h => h) (Or.inl ⟨by rfl, fun w => by go_simp⟩) ?_
  simp only [Act.put, List.setIfInBounds_toArray, List.set_cons_zero, List.set_cons_succ]
  refine wpAny_take (i := 33) (v := .agg #[.int .i64 5, .bool false, .int .i64 4]) rfl (by kernel_rfl) (by kernel_rfl) (by kernel_rfl) (fun _ _ _ h => h) (Or.inl ⟨by rfl, fun w => by go_simp⟩) ?_
  simp only [Act.put, List.setIfInBounds_toArray, List.set_cons_zero, List.set_cons_succ]
  refine wpAny_take (i := 35) (v := .agg #[.int .i64 5, .bool true, .int .i64 4]) rfl (by kernel_rfl) (by kernel_rfl) (by kernel_rfl) (fun _ _ _ h => h) (Or.inl ⟨by rfl, fun w => by go_simp⟩) ?_
  simp only [Act.put, List.setIfInBounds_toArray, List.set_cons_zero, List.set_cons_succ]
  refine wpAny_take (i := 37) (v := .agg #[.int .i64 6, .bool false, .int .i64 3]) rfl (by kernel_rfl) (by kernel_rfl) (by kernel_rfl) (fun _ _ _ h => h) (Or.inl ⟨by rfl, fun w => by go_simp⟩) ?_
  simp only [Act.put, List.setIfInBounds_toArray, List.set_cons_zero, List.set_cons_succ]
  refine wpAny_take (i := 39) (v := .agg #[.int .i64 6, .bool true, .int .i64 3]) rfl (by kernel_rfl) (by kernel_rfl) (by kernel_rfl) (fun _ _ _ h => h) (Or.inl ⟨by rfl, fun w => by go_simp⟩) ?_
  simp only [Act.put, List.setIfInBounds_toArray, List.set_cons_zero, List.set_cons_succ]
  refine wpAny_take (i := 41) (v := .agg #[.int .i64 6, .bool false, .int .i64 4]) rfl (by kernel_rfl) (by kernel_rfl) (by kernel_rfl) (fun _ _ _ h => h) (Or.inl ⟨by rfl, fun w => by go_simp⟩) ?_
  simp only [Act.put, List.setIfInBounds_toArray, List.set_cons_zero, List.set_cons_succ]
  refine wpAny_take (i := 43) (v := .agg #[.int .i64 6, .bool true, .int .i64 4]) rfl (by kernel_rfl) (by kernel_rfl) (by kernel_rfl) (fun _ _ _ h => h) (Or.inl ⟨by rfl, fun w => by go_simp⟩) ?_
  simp only [Act.put, List.setIfInBounds_toArray, List.set_cons_zero, List.set_cons_succ]
  refine wpAny_ready (rs := [0]) (by kernel_rfl) (by simp) (AllReady.cons rfl (fun K hK => ?_) AllReady.nil)
  go_simp
  refine hK _ _ ?_
  clear hK K
  refine Pool.wpAny_pool_start pool _ _ (fun D w' => w' = w.drew.alloc (mp (D.map stAt))) 2 22 pool_nodup rfl (by kernel_rfl) (by kernel_rfl) _ rfl ?_ ?_
  · intro D i w2 hD hi hn hJ
    subst hJ
    have hl := lay_new w.drew hD hi hn
    unfold pool at hi
    simp only [List.mem_cons, List.not_mem_nil, or_false] at hi
    rcases hi with rfl | rfl | rfl | rfl | rfl | rfl | rfl | rfl | rfl | rfl | rfl | rfl | rfl | rfl | rfl | rfl | rfl | rfl | rfl | rfl | rfl | rfl
    all_goals exact Pool.wpOp_insert rfl rfl rfl rfl hl ⟨rfl, rfl⟩
  · intro D w2 hp hJ
    subst hJ
    refine Pool.wpAny_take_at 45 24 (.map (some w.heap.size)) rfl rfl (by kernel_rfl) (by kernel_rfl) (by kernel_rfl) (fun _ _ _ h => h) (Or.inl ⟨by rfl, fun w => by go_simp⟩) ?_
    simp only [List.setIfInBounds_toArray, List.set_cons_zero, List.set_cons_succ]
    refine Pool.wpAny_take_at 46 0 (.map (some w.heap.size)) rfl rfl (by kernel_rfl) (by kernel_rfl) (by kernel_rfl) (fun _ _ _ h => h) (Or.inl ⟨by rfl, fun w => by go_simp⟩) ?_
    simp only [List.setIfInBounds_toArray, List.set_cons_zero, List.set_cons_succ]
    refine wpAny_done (by kernel_rfl) ?_ _
    have hq := hp.map stAt
    rw [pool_map] at hq
    go_wp2_with fail
    go_ret
    exact ⟨rfl, _, hq, rfl⟩
/-- What a lookup in the map yields. -/
theorem look_any (s : Int) (r : Bool) (k : Int) (W : World) (b : Nat) (l : List Step) (hp : l.Perm TraM.p22) (hb : W.heap[b]? = some (mp l)) :
    (Instr.lookup 41 (.map (some b)) (.agg #[.int .i64 s, .bool r, .int .i64 k]) true).run Try.prog W = .ok (.tuple #[.int .i64 (stN s r k), .bool (stB s r k)]) W := by
  have hb' : W.heap[b]? = some (.map (ent 0 l).toArray l.length) := hb
  have hk := st_find s r k l W
  have hz : (zeroValue 3).run Try.prog W = .ok (.int .i64 0) W := by simp [go_sem]
  have hv := TraM.find_perm s r k hp ((hp.map TraM.key).nodup_iff.2 TraM.p_keys) 0 0
  simp only [Instr.lookup, Sem.run_bind, run_underlying map_is, Result.andThen_ok, MapKept.run_getObj_map hb', Sem.run_pure, st_check, hk]
  have e2 : stB s r k = ((find s r k TraM.p22 0).map (·.2)).isSome := by unfold stB; cases find s r k TraM.p22 0 <;> rfl
  rw [e2]
  unfold stN
  rw [← hv]
  cases find s r k l 0 with
  | none => simp [hz, Result.andThen]
  | some p => simp [Result.andThen]
end Tr
end Go.Proofs.Ytmbdhcfhackgfaa
