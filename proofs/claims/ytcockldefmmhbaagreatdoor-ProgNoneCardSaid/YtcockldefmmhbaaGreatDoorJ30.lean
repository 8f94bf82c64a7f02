/- Several texts of this proof in one file, each in its own namespace. -/
import Derived.Test.YtcockldefmmhbaaGreatDoorRows
import Derived.Test.YtcockldefmmhbaaGreatDoorTraM
import Derived.Test.YtcockldefmmhbaaGreatDoorComO
import Derived.Test.YtcockldefmmhbaaGreatDoorComJ
import Derived.WalkKit
import Derived.ProofKit
import Derived.OpenShut
import Derived.BigQuiet
import Derived.Lib.Hide
import Derived.MapKept
import Derived.Laws.StructEq
import Derived.ChangeKeysEq
import Derived.KernelRfl
import Derived.Test.YtcockldefmmhbaaGreatDoorJ3
/- Layer 16: the map of steps as the program makes it, and what is found in it; the contracts of kindOf, steps, Open, Next, and of the reference's. -/
set_option linter.unusedVariables false
set_option linter.unusedSimpArgs false
namespace Go.Proofs.YtcockldefmmhbaaGreatDoor
open Go.ChangeShapes Go.WideShapes Go.ChangeAt Go.RowKit Go.Mtl Go.Lib
namespace Tr
open TraM (Step find kindN stN stB nextN nextB openN openB nxN nxB)

/-- The cells of a step. -/
abbrev kc (s : Int) (r : Bool) (k : Int) : Array Value := #[.int .i64 s, .bool r, .int .i64 k]
/-- The entries of a map of steps. -/
def ent : Nat → List Step → List MapEntry
  | _, [] => []
  | n, x :: l => { key := .agg (kc x.1 x.2.1 x.2.2.1), val := .int .i64 x.2.2.2, born := n } :: ent (n + 1) l
theorem ent_app (x : Step) : ∀ (l : List Step) (n : Nat), ent n (l ++ [x]) = ent n l ++ [{ key := .agg (kc x.1 x.2.1 x.2.2.1), val := .int .i64 x.2.2.2, born := n + l.length }]
  | [], n => rfl
  | y :: l, n => by
    have := ent_app x l (n + 1)
    simp only [List.cons_append, ent, this, List.length_cons, Nat.add_assoc, Nat.add_comm 1]
def mp (l : List Step) : Obj := .map (ent 0 l).toArray l.length

theorem st_fields : Tryz.prog.underlying 344 = some (.struct (Tryz.prog.fieldsOf 344)) := by kernel_rfl
theorem st_stood : Tryz.prog.stoodInHeld 344 = false := by kernel_rfl
theorem st_lay : (Tryz.prog.fieldsOf 344).toList.map (fun f => (f.type, f.offset)) = [(3, 0), (4, 1), (3, 2)] := by kernel_rfl
theorem st_names : (Tryz.prog.fieldsOf 344).toList.all (fun f => f.name != "_") = true := by kernel_rfl
theorem map_is : Tryz.prog.underlying 341 = some (.map 344 3) := by kernel_rfl
theorem st_eq (s : Int) (r : Bool) (k s2 : Int) (r2 : Bool) (k2 : Int) (w : World) : (Op.equalIn 10000 344 (.agg (kc s r k)) (.agg (kc s2 r2 k2))).run Tryz.prog w = .ok (decide (s = s2 ∧ r = r2 ∧ k = k2)) w := by
  rw [show (10000 : Nat) = 9999 + 1 from rfl, run_equalIn_struct w 9999 _ _ _ st_fields st_stood]
  have hl := st_lay
  have hn := st_names
  generalize (Tryz.prog.fieldsOf 344).toList = l at hl hn ⊢
  rcases l with _ | ⟨f1, _ | ⟨f2, _ | ⟨f3, _ | ⟨f4, l⟩⟩⟩⟩ <;> simp at hl hn
  obtain ⟨⟨t1, o1⟩, ⟨t2, o2⟩, t3, o3⟩ := hl
  obtain ⟨n1, n2, n3⟩ := hn
  have c1 : ∀ (s : Int) (r : Bool) (k : Int), (part 3 (kc s r k) 0).run Tryz.prog w = .ok (.int .i64 s) w := fun s r k => by simp [go_sem]
  have c2 : ∀ (s : Int) (r : Bool) (k : Int), (part 4 (kc s r k) 1).run Tryz.prog w = .ok (.bool r) w := fun s r k => by simp [go_sem]
  have c3 : ∀ (s : Int) (r : Bool) (k : Int), (part 3 (kc s r k) 2).run Tryz.prog w = .ok (.int .i64 k) w := fun s r k => by simp [go_sem]
  have q1 : (Op.equalIn 9999 3 (.int .i64 s) (.int .i64 s2)).run Tryz.prog w = .ok (s == s2) w := run_equalIn_int w 9998 _ .i64 .i64 s s2 (by kernel_rfl)
  have q2' : (Op.equalIn 9999 4 (.bool r) (.bool r2)).run Tryz.prog w = .ok (r == r2) w := by
    have hu : Tryz.prog.underlying 4 = some .bool := by kernel_rfl
    rw [show (9999 : Nat) = 9998 + 1 from rfl, Op.equalIn]
    simp [run_underlying hu, Result.andThen]
  have q3 : (Op.equalIn 9999 3 (.int .i64 k) (.int .i64 k2)).run Tryz.prog w = .ok (k == k2) w := run_equalIn_int w 9998 _ .i64 .i64 k k2 (by kernel_rfl)
  simp only [Op.eqFields, ne_eq, n1, n2, n3, not_false_eq_true, if_true, t1, t2, t3, o1, o2, o3, Sem.run_bind, c1, c2, c3, Result.andThen_ok, q1, q2', q3, Sem.run_ite, Sem.run_pure]
  by_cases h1 : s = s2
  · by_cases h2 : r = r2
    · by_cases h3 : k = k2
      · simp [h1, h2, h3]
      · simp [h1, h2, h3]
    · simp [h1, h2]
  · simp [h1]
/-- A step serves as a key. -/
theorem st_check (em : Bool) (s : Int) (r : Bool) (k : Int) (w : World) : (Instr.checkKey em 10000 344 (.agg (kc s r k))).run Tryz.prog w = .ok () w := by
  rw [show (10000 : Nat) = 9999 + 1 from rfl, Instr.checkKey]
  simp only [Sem.run_bind, run_underlying st_fields, Result.andThen_ok]
  rw [← Array.forIn_toList]
  have hl := st_lay
  have hn := st_names
  generalize (Tryz.prog.fieldsOf 344).toList = l at hl hn ⊢
  rcases l with _ | ⟨f1, _ | ⟨f2, _ | ⟨f3, _ | ⟨f4, l⟩⟩⟩⟩ <;> simp at hl hn
  obtain ⟨⟨t1, o1⟩, ⟨t2, o2⟩, t3, o3⟩ := hl
  obtain ⟨n1, n2, n3⟩ := hn
  have c1 : (part 3 (kc s r k) 0).run Tryz.prog w = .ok (.int .i64 s) w := by simp [go_sem]
  have c2 : (part 4 (kc s r k) 1).run Tryz.prog w = .ok (.bool r) w := by simp [go_sem]
  have c3 : (part 3 (kc s r k) 2).run Tryz.prog w = .ok (.int .i64 k) w := by simp [go_sem]
  have q1 : ∀ x, (Instr.checkKey em 9999 3 (.int .i64 x)).run Tryz.prog w = .ok () w := fun x => MapKept.run_checkKey (d := .int .i64) (k := .int .i64 x) (by kernel_rfl) rfl em 9998
  have q2 : ∀ x, (Instr.checkKey em 9999 4 (.bool x)).run Tryz.prog w = .ok () w := fun x => MapKept.run_checkKey (d := .bool) (k := .bool x) (by kernel_rfl) trivial em 9998
  simp only [List.forIn_cons, List.forIn_nil, ne_eq, n1, n2, n3, not_false_eq_true, if_true, t1, t2, t3, o1, o2, o3, Sem.run_bind, c1, c2, c3, Result.andThen_ok, q1, q2, Sem.run_pure]
/-- What is found in a map of steps. -/
theorem st_asking (s : Int) (r : Bool) (k : Int) (w : World) : ∀ (l : List Step) (n i : Nat), (Instr.findAsking 344 (.agg (kc s r k)) (ent n l) i).run Tryz.prog w = .ok ((find s r k l i).map fun p => (p.1, .int .i64 p.2)) w
  | [], n, i => by simp [ent, find, Instr.findAsking]
  | x :: l, n, i => by
    have h := st_eq s r k x.1 x.2.1 x.2.2.1 w
    rw [ent, Instr.findAsking, find]
    simp only [Sem.run_bind, Op.equal, Op.maxDepth, h, Result.andThen_ok]
    by_cases hx : s = x.1 ∧ r = x.2.1 ∧ k = x.2.2.1
    · rw [decide_eq_true hx, if_pos hx]
      simp
    · rw [decide_eq_false hx, if_neg hx]
      simp only [Bool.false_eq_true, if_false]
      exact st_asking s r k w l (n + 1) (i + 1)
theorem st_find (s : Int) (r : Bool) (k : Int) (l : List Step) (w : World) : (Instr.findKey 344 (.agg (kc s r k)) (ent 0 l)).run Tryz.prog w = .ok ((find s r k l 0).map fun p => (p.1, .int .i64 p.2)) w := by
  have h := st_asking s r k w l 0 0
  cases l with
  | nil => simp [Instr.findKey, run_underlying st_fields, Result.andThen, ent, Instr.findNow, find]
  | cons x l =>
    have hn : Instr.findNow (.struct (Tryz.prog.fieldsOf 344)) (.agg (kc s r k)) (ent 0 (x :: l)) 0 = none := by simp [ent, Instr.findNow, Instr.sameNow]
    simp only [Instr.findKey, Sem.run_bind, run_underlying st_fields, Result.andThen_ok, hn, h]
theorem push_set {α : Type} (h : Array α) (x y : α) : (h.push x).setIfInBounds h.size y = h.push y := by
  apply Array.toList_inj.1
  simp
/-- A step laid into a map of the call's own that is the last block: one that is not there yet. -/
theorem run_lay (w : World) (l : List Step) (s : Int) (r : Bool) (k d : Int) (hf : find s r k l 0 = none) :
    (Instr.mapUpdate 341 (.map (some w.heap.size)) (.agg (kc s r k)) (.int .i64 d)).run Tryz.prog (w.alloc (mp l)) = .ok () (w.alloc (mp (l ++ [(s, r, k, d)]))) := by
  have hb : (w.alloc (mp l)).heap[w.heap.size]? = some (.map (ent 0 l).toArray l.length) := heap_alloc_new _ _
  have hk := st_find s r k l (w.alloc (mp l))
  rw [hf] at hk
  have hset : (setObj w.heap.size (.map ((ent 0 l).toArray.push { key := .agg (kc s r k), val := .int .i64 d, born := l.length }) (l.length + 1))).run Tryz.prog (w.alloc (mp l)) = .ok () (w.alloc (mp (l ++ [(s, r, k, d)]))) := by
    rw [MapKept.run_setObj_map _ hb]
    show Result.ok () ({ w.alloc (mp l) with heap := (w.heap.push (mp l)).setIfInBounds w.heap.size _ } : World) = _
    rw [push_set]
    have e : mp (l ++ [(s, r, k, d)]) = .map ((ent 0 l).toArray.push { key := .agg (kc s r k), val := .int .i64 d, born := l.length }) (l.length + 1) := by
      unfold mp
      rw [ent_app]
      simp
    rw [e]
    rfl
  simp only [Instr.mapUpdate, Sem.run_bind, run_underlying map_is, Result.andThen_ok, MapKept.run_getObj_map hb, st_check, hk, Option.map_none, hset]
theorem make0 (w : World) : (Instr.makeMap 341 none).run Tryz.prog w = .ok (.map (some w.heap.size)) (w.alloc (mp [])) := run_makeMap (P := Tryz.prog) 341 w
/-- The step that an operation of the region lays. -/
def stAt (i : Nat) : Step := TraM.p22.getD (i / 2 - 1) (0, false, 0, 0)
def pool : List Nat := [2, 4, 6, 8, 10, 12, 14, 16, 18, 20, 22, 24, 26, 28, 30, 32, 34, 36, 38, 40, 42, 44]
theorem pool_nodup : pool.Nodup := by decide +kernel
theorem pool_map : pool.map stAt = TraM.p22 := by decide +kernel
theorem pool_key : ∀ i ∈ pool, ∀ j ∈ pool, (stAt i).1 = (stAt j).1 ∧ (stAt i).2.1 = (stAt j).2.1 ∧ (stAt i).2.2.1 = (stAt j).2.2.1 → i = j := by decide +kernel
theorem find_new {D : List Nat} {i : Nat} (hD : ∀ x ∈ D, x ∈ pool) (hi : i ∈ pool) (hn : i ∉ D) : ∀ k, find (stAt i).1 (stAt i).2.1 (stAt i).2.2.1 (D.map stAt) k = none := by
  induction D with
  | nil => intro k; rfl
  | cons x D ih =>
    intro k
    rw [List.map_cons, find, if_neg (fun h => hn (by rw [pool_key i hi x (hD x (by simp)) h]; simp))]
    exact ih (fun y hy => hD y (by simp [hy])) (fun h => hn (by simp [h])) (k + 1)
theorem lay_new (w : World) {D : List Nat} {i : Nat} (hD : ∀ x ∈ D, x ∈ pool) (hi : i ∈ pool) (hn : i ∉ D) :
    (Instr.mapUpdate 341 (.map (some w.heap.size)) (.agg (kc (stAt i).1 (stAt i).2.1 (stAt i).2.2.1)) (.int .i64 (stAt i).2.2.2)).run Tryz.prog (w.alloc (mp (D.map stAt))) = .ok () (w.alloc (mp ((D ++ [i]).map stAt))) := by
  have h := run_lay w (D.map stAt) (stAt i).1 (stAt i).2.1 (stAt i).2.2.1 (stAt i).2.2.2 (find_new hD hi hn 0)
  rw [h, List.map_append]
  rfl
set_option maxRecDepth 100000 in
set_option maxHeartbeats 4000000 in
theorem steps_any (w : World) : Calls Tryz.prog 298 #[] w fun e w' => e = .returned (.map (some w.heap.size)) ∧ ∃ l, l.Perm TraM.p22 ∧ w' = w.drew.alloc (mp l) := by
  have hm := make0 w.drew
  go_enter Tryz.func298, Tryz.ntmps298
  go_wp2_with fail
  refine wp_region_any (by kernel_rfl) ?_
  change wpAny _ _ _ _ _ _ _ (World.drew _)
  refine wpAny_take (i := 1) (v := .agg #[.int .i64 1, .bool false, .int .i64 1]) rfl (by kernel_rfl) (by kernel_rfl) (by kernel_rfl) (fun _ _ _ h => h) (Or.inl ⟨by rfl, fun w => by go_simp⟩) ?_
  simp only [Act.put, List.setIfInBounds_toArray, List.set_cons_zero, List.set_cons_succ]
  refine wpAny_take (i := 3) (v := .agg #[.int .i64 1, .bool true, .int .i64 2]) rfl (by kernel_rfl) (by kernel_rfl) (by kernel_rfl) (fun _ _ _ h => h) (Or.inl ⟨by rfl, fun w => by go_simp⟩) ?_
  simp only [Act.put, List.setIfInBounds_toArray, List.set_cons_zero, List.set_cons_succ]
  refine wpAny_take (i := 5) (v := .agg #[.int .i64 2, .bool false, .int .i64 1]) rfl (by kernel_rfl) (by kernel_rfl) (by kernel_rfl) (fun _ _ _ h => h) (Or.inl ⟨by rfl, fun w => by go_simp⟩) ?_
  simp only [Act.put, List.setIfInBounds_toArray, List.set_cons_zero, List.set_cons_succ]
  refine wpAny_take (i := 7) (v := .agg #[.int .i64 2, .bool true, .int .i64 2]) rfl (by kernel_rfl) (by kernel_rfl) (by kernel_rfl) (fun _ _ _ h => h) (Or.inl ⟨by rfl, fun w => by go_simp⟩) ?_
  simp only [Act.put, List.setIfInBounds_toArray, List.set_cons_zero, List.set_cons_succ]
  refine wpAny_take (i := 9) (v := .agg #[.int .i64 2, .bool false, .int .i64 3]) rfl (by kernel_rfl) (by kernel_rfl) (by kernel_rfl) (fun _ _ _ h => h) (Or.inl ⟨by rfl, fun w => by go_simp⟩) ?_
  simp only [Act.put, List.setIfInBounds_toArray, List.set_cons_zero, List.set_cons_succ]
  refine wpAny_take (i := 11) (v := .agg #[.int .i64 2, .bool false, .int .i64 4]) rfl (by kernel_rfl) (by kernel_rfl) (by kernel_rfl) (fun _ _ _ h => h) (Or.inl ⟨by rfl, fun w => by go_simp⟩) ?_
  simp only [Act.put, List.setIfInBounds_toArray, List.set_cons_zero, List.set_cons_succ]
  refine wpAny_take (i := 13) (v := .agg #[.int .i64 3, .bool false, .int .i64 3]) rfl (by kernel_rfl) (by kernel_rfl) (by kernel_rfl) (fun _ _ _ h => h) (Or.inl ⟨by rfl, fun w => by go_simp⟩) ?_
  simp only [Act.put, List.setIfInBounds_toArray, List.set_cons_zero, List.set_cons_succ]
  refine wpAny_take (i := 15) (v := .agg #[.int .i64 3, .bool true, .int .i64 3]) rfl (by kernel_rfl) (by kernel_rfl) (by kernel_rfl) (fun _ _ _ h => h) (Or.inl ⟨by rfl, fun w => by go_simp⟩) ?_
  simp only [Act.put, List.setIfInBounds_toArray, List.set_cons_zero, List.set_cons_succ]
  refine wpAny_take (i := 17) (v := .agg #[.int .i64 3, .bool false, .int .i64 4]) rfl (by kernel_rfl) (by kernel_rfl) (by kernel_rfl) (fun _ _ _ h => h) (Or.inl ⟨by rfl, fun w => by go_simp⟩) ?_
  simp only [Act.put, List.setIfInBounds_toArray, List.set_cons_zero, List.set_cons_succ]
  refine wpAny_take (i := 19) (v := .agg #[.int .i64 3, .bool true, .int .i64 4]) rfl (by kernel_rfl) (by kernel_rfl) (by kernel_rfl) (fun _ _ _ h => h) (Or.inl ⟨by rfl, fun w => by go_simp⟩) ?_
  simp only [Act.put, List.setIfInBounds_toArray, List.set_cons_zero, List.set_cons_succ]
  refine wpAny_take (i := 21) (v := .agg #[.int .i64 4, .bool false, .int .i64 3]) rfl (by kernel_rfl) (by kernel_rfl) (by kernel_rfl) (fun _ _ _ h => h) (Or.inl ⟨by rfl, fun w => by go_simp⟩) ?_
  simp only [Act.put, List.setIfInBounds_toArray, List.set_cons_zero, List.set_cons_succ]
  refine wpAny_take (i := 23) (v := .agg #[.int .i64 4, .bool true, .int .i64 3]) rfl (by kernel_rfl) (by kernel_rfl) (by kernel_rfl) (fun _ _ _ h => h) (Or.inl ⟨by rfl, fun w => by go_simp⟩) ?_
  simp only [Act.put, List.setIfInBounds_toArray, List.set_cons_zero, List.set_cons_succ]
  refine wpAny_take (i := 25) (v := .agg #[.int .i64 4, .bool false, .int .i64 4]) rfl (by kernel_rfl) (by kernel_rfl) (by kernel_rfl) (fun _ _ _ h => h) (Or.inl ⟨by rfl, fun w => by go_simp⟩) ?_
  simp only [Act.put, List.setIfInBounds_toArray, List.set_cons_zero, List.set_cons_succ]
  refine wpAny_take (i := 27) (v := .agg #[.int .i64 4, .bool true, .int .i64 4]) rfl (by kernel_rfl) (by kernel_rfl) (by kernel_rfl) (fun _ _ _ h => h) (Or.inl ⟨by rfl, fun w => by go_simp⟩) ?_
  simp only [Act.put, List.setIfInBounds_toArray, List.set_cons_zero, List.set_cons_succ]
  refine wpAny_take (i := 29) (v := .agg #[.int .i64 5, .bool false, .int .i64 3]) rfl (by kernel_rfl) (by kernel_rfl) (by kernel_rfl) (fun _ _ _ h => h) (Or.inl ⟨by rfl, fun w => by go_simp⟩) ?_
  simp only [Act.put, List.setIfInBounds_toArray, List.set_cons_zero, List.set_cons_succ]
  refine wpAny_take (i := 31) (v := .agg #[.int .i64 5, .bool true, .int .i64 3]) rfl (by kernel_rfl) (by kernel_rfl) (by kernel_rfl) (fun _ _ _ h => h) (Or.inl ⟨by rfl, fun w => by go_simp⟩) ?_
  simp only [Act.put, List.setIfInBounds_toArray, List.set_cons_zero, List.set_cons_succ]
  refine wpAny_take (i := 33) (v := .agg #[.int .i64 5, .bool false, .int .i64 4]) rfl (by kernel_rfl) (by kernel_rfl) (by kernel_rfl) (fun _ _ _ h => h) (Or.inl ⟨by rfl, fun w => by go_simp⟩) ?_
  simp only [Act.put, List.setIfInBounds_toArray, List.set_cons_zero, List.set_cons_succ]
  refine wpAny_take (i := 35) (v := .agg #[.int .i64 5, .bool true, .int .i64 4]) rfl (by kernel_rfl) (by kernel_rfl) (by kernel_rfl) (fun _ _ _ h => h) (Or.inl ⟨by rfl, fun w => by go_simp⟩) ?_
  simp only [Act.put, List.setIfInBounds_toArray, List.set_cons_zero, List.set_cons_succ]
  refine wpAny_take (i := 37) (v := .agg #[.int .i64 6, .bool false, .int .i64 3]) rfl (by kernel_rfl) (by kernel_rfl) (by kernel_rfl) (fun _ _ _ h => h) (Or.inl ⟨by rfl, fun w => by go_simp⟩) ?_
  simp only [Act.put, List.setIfInBounds_toArray, List.set_cons_zero, List.set_cons_succ]
  refine wpAny_take (i := 39) (v := .agg #[.int .i64 6, .bool true, .int .i64 3]) rfl (by kernel_rfl) (by kernel_rfl) (by kernel_rfl) (fun _ _ _ h => h) (Or.inl ⟨by rfl, fun w => by go_simp⟩) ?_
  simp only [Act.put, List.setIfInBounds_toArray, List.set_cons_zero, List.set_cons_succ]
  refine wpAny_take (i := 41) (v := .agg #[.int .i64 6, .bool false, .int .i64 4]) rfl (by kernel_rfl) (by kernel_rfl) (by kernel_rfl) (fun _ _ _ h => h) (Or.inl ⟨by rfl, fun w => by go_simp⟩) ?_
  simp only [Act.put, List.setIfInBounds_toArray, List.set_cons_zero, List.set_cons_succ]
  refine wpAny_take (i := 43) (v := .agg #[.int .i64 6, .bool true, .int .i64 4]) rfl (by kernel_rfl) (by kernel_rfl) (by kernel_rfl) (fun _ _ _ h => h) (Or.inl ⟨by rfl, fun w => by go_simp⟩) ?_
  simp only [Act.put, List.setIfInBounds_toArray, List.set_cons_zero, List.set_cons_succ]
  refine wpAny_ready (rs := [0]) (by kernel_rfl) (by simp) (AllReady.cons rfl (fun K hK => ?_) AllReady.nil)
  go_simp
  refine hK _ _ ?_
  clear hK K
  refine Pool.wpAny_pool_start pool _ _ (fun D w' => w' = w.drew.alloc (mp (D.map stAt))) 2 22 pool_nodup rfl (by kernel_rfl) (by kernel_rfl) _ rfl ?_ ?_
  · intro D i w2 hD hi hn hJ
    subst hJ
    have hl := lay_new w.drew hD hi hn
    unfold pool at hi
    simp only [List.mem_cons, List.not_mem_nil, or_false] at hi
    rcases hi with rfl | rfl | rfl | rfl | rfl | rfl | rfl | rfl | rfl | rfl | rfl | rfl | rfl | rfl | rfl | rfl | rfl | rfl | rfl | rfl | rfl | rfl
    all_goals exact Pool.wpOp_insert rfl rfl rfl rfl hl ⟨rfl, rfl⟩
  · intro D w2 hp hJ
    subst hJ
    refine Pool.wpAny_take_at 45 24 (.map (some w.heap.size)) rfl rfl (by kernel_rfl) (by kernel_rfl) (by kernel_rfl) (fun _ _ _ h => h) (Or.inl ⟨by rfl, fun w => by go_simp⟩) ?_
    simp only [List.setIfInBounds_toArray, List.set_cons_zero, List.set_cons_succ]
    refine Pool.wpAny_take_at 46 0 (.map (some w.heap.size)) rfl rfl (by kernel_rfl) (by kernel_rfl) (by kernel_rfl) (fun _ _ _ h => h) (Or.inl ⟨by rfl, fun w => by go_simp⟩) ?_
    simp only [List.setIfInBounds_toArray, List.set_cons_zero, List.set_cons_succ]
    refine wpAny_done (by kernel_rfl) ?_ _
    have hq := hp.map stAt
    rw [pool_map] at hq
    go_wp2_with fail
    go_ret
    exact ⟨rfl, _, hq, rfl⟩
/-- What a lookup in the map yields. -/
theorem look_any (s : Int) (r : Bool) (k : Int) (W : World) (b : Nat) (l : List Step) (hp : l.Perm TraM.p22) (hb : W.heap[b]? = some (mp l)) :
    (Instr.lookup 341 (.map (some b)) (.agg #[.int .i64 s, .bool r, .int .i64 k]) true).run Tryz.prog W = .ok (.tuple #[.int .i64 (stN s r k), .bool (stB s r k)]) W := by
  have hb' : W.heap[b]? = some (.map (ent 0 l).toArray l.length) := hb
  have hk := st_find s r k l W
  have hz : (zeroValue 3).run Tryz.prog W = .ok (.int .i64 0) W := by simp [go_sem]
  have hv := TraM.find_perm s r k hp ((hp.map TraM.key).nodup_iff.2 TraM.p_keys) 0 0
  simp only [Instr.lookup, Sem.run_bind, run_underlying map_is, Result.andThen_ok, MapKept.run_getObj_map hb', Sem.run_pure, st_check, hk]
  have e2 : stB s r k = ((find s r k TraM.p22 0).map (·.2)).isSome := by unfold stB; cases find s r k TraM.p22 0 <;> rfl
  rw [e2]
  unfold stN
  rw [← hv]
  cases find s r k l 0 with
  | none => simp [hz, Result.andThen]
  | some p => simp [Result.andThen]
end Tr
end Go.Proofs.YtcockldefmmhbaaGreatDoor
/- Layer 16: the contracts of kindOf, Open, Next, and of the reference's has, Open, Next. -/
set_option linter.unusedVariables false
set_option linter.unusedSimpArgs false
set_option maxRecDepth 100000
namespace Go.Proofs.YtcockldefmmhbaaGreatDoor
open Go.ChangeShapes Go.WideShapes Go.ChangeAt Go.RowKit Go.Mtl Go.Lib
namespace Tr
open TraM (Step find kindN stN stB nextN nextB openN openB nxN nxB)

theorem and_u8 (x y : Nat) (hx : x < 256) (hy : y < 256) : bits .and .u8 (x : Int) (y : Int) = ((x &&& y : Nat) : Int) := by
  have h : ∀ a : Fin 256, ∀ b : Fin 256, bits .and .u8 (a.val : Int) (b.val : Int) = ((a.val &&& b.val : Nat) : Int) := by
    intro a b
    show IntKind.u8.wrap ((BitVec.ofInt 8 (a.val : Int) &&& BitVec.ofInt 8 (b.val : Int)).toNat : Int) = _
    rw [BitVec.ofInt_natCast, BitVec.ofInt_natCast, BitVec.toNat_and, BitVec.toNat_ofNat, BitVec.toNat_ofNat, Nat.mod_eq_of_lt (by omega), Nat.mod_eq_of_lt (by omega)]
    have : a.val &&& b.val ≤ a.val := Nat.and_le_left
    simp [IntKind.wrap, IntKind.bits, IntKind.signed]
    omega
  exact h ⟨x, hx⟩ ⟨y, hy⟩

theorem kindOf_any (f : Nat) (hf : f < 256) (W : World) : Calls Tryz.prog 280 #[.int .u8 (f : Int)] W fun e w' => e = .returned (.int .i64 (kindN f : Int)) ∧ w' = W := by
  have a23 : bits .and .u8 (f : Int) 23 = ((f &&& 23 : Nat) : Int) := and_u8 f 23 hf (by omega)
  unfold kindN
  generalize f &&& 23 = c at a23 ⊢
  by_cases h1 : c = 2
  · subst h1
    go_enter Tryz.func280, Tryz.ntmps280
    go_wp2_with fail
    go_ret
    exact ⟨rfl, rfl⟩
  by_cases h2 : c = 18
  · subst h2
    go_enter Tryz.func280, Tryz.ntmps280
    go_wp2_with fail
    go_ret
    exact ⟨rfl, rfl⟩
  by_cases h3 : c = 16
  · subst h3
    go_enter Tryz.func280, Tryz.ntmps280
    go_wp2_with fail
    go_ret
    exact ⟨rfl, rfl⟩
  by_cases h4 : c = 17
  · subst h4
    go_enter Tryz.func280, Tryz.ntmps280
    go_wp2_with fail
    go_ret
    exact ⟨rfl, rfl⟩
  by_cases h5 : c = 4
  · subst h5
    go_enter Tryz.func280, Tryz.ntmps280
    go_wp2_with fail
    go_ret
    exact ⟨rfl, rfl⟩
  by_cases h6 : c = 20
  · subst h6
    go_enter Tryz.func280, Tryz.ntmps280
    go_wp2_with fail
    go_ret
    exact ⟨rfl, rfl⟩
  have d1 : ((c : Int) == 2) = false := by rw [beq_eq_false_iff_ne]; omega
  have d2 : ((c : Int) == 18) = false := by rw [beq_eq_false_iff_ne]; omega
  have d3 : ((c : Int) == 16) = false := by rw [beq_eq_false_iff_ne]; omega
  have d4 : ((c : Int) == 17) = false := by rw [beq_eq_false_iff_ne]; omega
  have d5 : ((c : Int) == 4) = false := by rw [beq_eq_false_iff_ne]; omega
  have d6 : ((c : Int) == 20) = false := by rw [beq_eq_false_iff_ne]; omega
  rw [if_neg h1, if_neg h2, if_neg h3, if_neg h4, if_neg h5, if_neg h6]
  clear h1 h2 h3 h4 h5 h6
  go_enter Tryz.func280, Tryz.ntmps280
  go_wp2_with fail
  go_ret
  exact ⟨rfl, rfl⟩

theorem open_any (f : Nat) (hf : f < 256) (W : World) : Calls Tryz.prog 252 #[.int .u8 (f : Int)] W fun e w' => e = .returned (.tuple #[.int .i64 (openN f), .bool (openB f)]) ∧ w' = W := by
  have hk := kindOf_any f hf W
  unfold openN openB
  generalize kindN f = k at hk ⊢
  by_cases h : k = 1
  · subst h
    go_enter Tryz.func252, Tryz.ntmps252
    go_wp2_with fail
    go_at_call 280
    refine hk.mono ?_
    rintro e w' ⟨rfl, rfl⟩
    go_wp2_with fail
    go_ret2
    exact ⟨rfl, rfl⟩
  · have d1 : ((k : Int) == 1) = false := by rw [beq_eq_false_iff_ne]; omega
    have d2 : (k == 1) = false := by rw [beq_eq_false_iff_ne]; exact h
    rw [d2]
    clear h d2
    go_enter Tryz.func252, Tryz.ntmps252
    go_wp2_with fail
    go_at_call 280
    refine hk.mono ?_
    rintro e w' ⟨rfl, rfl⟩
    go_wp2_with fail
    go_ret2
    exact ⟨rfl, rfl⟩

theorem below_laid (W : World) (o : Obj) : Below W.heap.size W (W.drew.alloc o) := ((Below.refl W.heap.size W).drew).alloc (Nat.le_refl _) o
set_option maxHeartbeats 1000000 in
theorem next_any (s : Int) (r : Bool) (f : Nat) (hs : -9223372036854775808 ≤ s ∧ s ≤ 9223372036854775807) (hf : f < 256) (W : World) :
    Calls Tryz.prog 282 #[.int .i64 s, .bool r, .int .u8 (f : Int)] W fun e w' => e = .returned (.tuple #[.int .i64 (nextN s r f), .bool (nextB s r f)]) ∧ Below W.heap.size W w' := by
  have HK := Lib.hid (kindOf_any f hf W)
  unfold nextN nextB nxN nxB
  generalize kindN f = k at HK ⊢
  by_cases h : k = 5 ∧ 1 ≤ s ∧ s ≤ 7
  · obtain ⟨rfl, h1, h2⟩ := h
    rw [if_pos ⟨by omega, h1, h2⟩, if_pos ⟨by omega, h1, h2⟩]
    go_enter Tryz.func282, Tryz.ntmps282
    go_wp2_with fail
    go_at_call 280
    refine HK.out.mono ?_
    rintro e w' ⟨rfl, rfl⟩
    go_wp2_with fail
    go_ret2
    exact ⟨rfl, Below.refl _ _⟩
  · have hk : ¬ ((k : Int) = 5 ∧ 1 ≤ s ∧ s ≤ 7) := by omega
    rw [if_neg hk, if_neg hk]
    have HL := Lib.hid fun (l : List Step) (hp : l.Perm TraM.p22) => fun (q : Int) => look_any s r q (W.alloc (mp l)).drew W.heap.size l hp (by have := heap_alloc_new W (mp l); exact this)
    have HS := Lib.hid (steps_any W)
    by_cases h5 : k = 5
    · subst h5
      by_cases h1 : 1 ≤ s
      · have h7 : ¬ s ≤ 7 := by omega
        clear h hk
        go_enter Tryz.func282, Tryz.ntmps282
        go_wp2_with fail
        go_at_call 280
        refine HK.out.mono ?_
        rintro e w' ⟨rfl, rfl⟩
        go_wp2_with fail
        go_at_call 298
        refine HS.out.mono ?_
        rintro e w' ⟨rfl, l, hp, rfl⟩
        have hl := HL.out l hp 5
        go_wp2_with fail
        go_ret2
        exact ⟨rfl, below_laid _ _⟩
      · clear h hk
        go_enter Tryz.func282, Tryz.ntmps282
        go_wp2_with fail
        go_at_call 280
        refine HK.out.mono ?_
        rintro e w' ⟨rfl, rfl⟩
        go_wp2_with fail
        go_at_call 298
        refine HS.out.mono ?_
        rintro e w' ⟨rfl, l, hp, rfl⟩
        have hl := HL.out l hp 5
        go_wp2_with fail
        go_ret2
        exact ⟨rfl, below_laid _ _⟩
    · have d5 : ((k : Int) == 5) = false := by rw [beq_eq_false_iff_ne]; omega
      clear h hk h5
      go_enter Tryz.func282, Tryz.ntmps282
      go_wp2_with fail
      go_at_call 280
      refine HK.out.mono ?_
      rintro e w' ⟨rfl, rfl⟩
      go_wp2_with fail
      go_at_call 298
      refine HS.out.mono ?_
      rintro e w' ⟨rfl, l, hp, rfl⟩
      have hl := HL.out l hp (k : Int)
      go_wp2_with fail
      go_ret2
      exact ⟨rfl, below_laid _ _⟩
end Tr
end Go.Proofs.YtcockldefmmhbaaGreatDoor
/- Layer 17: the contracts of fsm.Open, kindOf, talk and fsm.Next. -/
set_option linter.unusedVariables false
set_option linter.unusedSimpArgs false
set_option maxRecDepth 100000
namespace Go.Proofs.YtcockldefmmhbaaGreatDoor
open Go.ChangeShapes Go.WideShapes Go.ChangeAt Go.RowKit Go.Mtl Go.Lib
namespace Fs
open TraM (nextN nextB openN openB)

/-- A packet's seven cells. -/
abbrev pkc (a b c d e f h : Int) : Array Value := #[.int .u8 a, .int .u32 b, .int .u32 c, .int .u16 d, .int .u16 e, .int .u8 f, .int .u8 h]
section
variable {w w' : World} {g : Nat} {a b c d e f h : Int} {t : TypeId}
theorem pk_cells (H : Blk w g (pkc a b c d e f h) t) : w.cell? ⟨g, 0, none⟩ = some (.int .u8 a) ∧ w.cell? ⟨g, 1, none⟩ = some (.int .u32 b) ∧ w.cell? ⟨g, 2, none⟩ = some (.int .u32 c) ∧ w.cell? ⟨g, 3, none⟩ = some (.int .u16 d) ∧
    w.cell? ⟨g, 4, none⟩ = some (.int .u16 e) ∧ w.cell? ⟨g, 5, none⟩ = some (.int .u8 f) ∧ w.cell? ⟨g, 6, none⟩ = some (.int .u8 h) := by
  refine ⟨?_, ?_, ?_, ?_, ?_, ?_, ?_⟩ <;> exact H.cell _ _ rfl
theorem pk_frozen (H : Blk w g (pkc a b c d e f h) t) : w.frozen? ⟨g, 0, none⟩ = false ∧ w.frozen? ⟨g, 1, none⟩ = false ∧ w.frozen? ⟨g, 2, none⟩ = false ∧ w.frozen? ⟨g, 3, none⟩ = false ∧
    w.frozen? ⟨g, 4, none⟩ = false ∧ w.frozen? ⟨g, 5, none⟩ = false ∧ w.frozen? ⟨g, 6, none⟩ = false := by
  refine ⟨?_, ?_, ?_, ?_, ?_, ?_, ?_⟩ <;> exact H.frozen _
end

/-- What Open answers: by protocol, flags and kind. -/
def opN (p f k : Int) : Int := if p = 6 then openN f.toNat else if p = 17 ∨ p = 1 ∧ k = 8 then 8 else 0
def opB (p f k : Int) : Bool := if p = 6 then openB f.toNat else decide (p = 17 ∨ p = 1 ∧ k = 8)
/-- The kind of ICMP that goes on in this direction. -/
def kd (r : Bool) : Int := match r with | true => 0 | false => 8
/-- Is a packet of UDP or ICMP one that goes on in this direction? -/
def Fits (p k : Int) (r : Bool) : Prop := p = 17 ∨ p = 1 ∧ k = kd r
instance (p k : Int) (r : Bool) : Decidable (Fits p k r) := by unfold Fits; exact inferInstance
def talkN (s : Int) (r : Bool) : Int := if s = 8 ∨ s = 9 then (if r then 9 else s) else 0
def talkB (s : Int) : Bool := decide (s = 8 ∨ s = 9)
/-- What Next answers. -/
def neN (s : Int) (r : Bool) (p f k : Int) : Int := if p = 6 then nextN s r f.toNat else if Fits p k r then talkN s r else 0
def neB (s : Int) (r : Bool) (p f k : Int) : Bool := if p = 6 then nextB s r f.toNat else if Fits p k r then talkB s else false

theorem kind_any (r : Bool) (W : World) : Calls Tryz.prog 284 #[.bool r] W fun e w' => e = .returned (.int .u8 (kd r)) ∧ w' = W := by
  cases r
  all_goals
    go_enter Tryz.func284, Tryz.ntmps284
    go_wp2_with fail
    go_ret
    exact ⟨rfl, rfl⟩
theorem talk_any (s : Int) (r : Bool) (W : World) : Calls Tryz.prog 283 #[.int .i64 s, .bool r] W fun e w' => e = .returned (.tuple #[.int .i64 (talkN s r), .bool (talkB s)]) ∧ w' = W := by
  unfold talkN talkB
  by_cases h8 : s = 8
  · subst h8
    cases r
    all_goals
      go_enter Tryz.func283, Tryz.ntmps283
      go_wp2_with fail
      go_ret2
      exact ⟨rfl, rfl⟩
  by_cases h9 : s = 9
  · subst h9
    cases r
    all_goals
      go_enter Tryz.func283, Tryz.ntmps283
      go_wp2_with fail
      go_ret2
      exact ⟨rfl, rfl⟩
  have d8 : (s != 8) = true := by simpa using h8
  have d9 : (s != 9) = true := by simpa using h9
  rw [if_neg (by omega), decide_eq_false (by omega)]
  clear h8 h9
  go_enter Tryz.func283, Tryz.ntmps283
  go_wp2_with fail
  go_ret2
  exact ⟨rfl, rfl⟩

theorem below_pk (W : World) (o : Obj) : Below W.heap.size W (W.alloc o) := (Below.refl W.heap.size W).alloc (Nat.le_refl _) o
set_option maxHeartbeats 1000000 in
theorem open_any (a b c d e f h : Int) (hf : 0 ≤ f ∧ f ≤ 255) (W : World) :
    Calls Tryz.prog 196 #[.agg (pkc a b c d e f h)] W fun x w' => x = .returned (.tuple #[.int .i64 (opN a f h), .bool (opB a f h)]) ∧ Below W.heap.size W w' := by
  have HX := Lib.hid (Blk.box W (pkc a b c d e f h) 95)
  have HB := Lib.hid (below_pk W (.cells (pkc a b c d e f h) 95))
  obtain ⟨x0, x1, x2, x3, x4, x5, x6⟩ := pk_cells HX.out
  unfold opN opB
  by_cases h6 : a = 6
  · subst h6
    obtain ⟨n, rfl⟩ : ∃ n : Nat, f = (n : Int) := ⟨f.toNat, by omega⟩
    have HO := Lib.hid (Tr.open_any n (by omega))
    rw [if_pos rfl, if_pos rfl, Int.toNat_natCast]
    clear hf
    go_enter Tryz.func196, Tryz.ntmps196
    go_wp2_with fail
    go_at_call 252
    refine (HO.out _).mono ?_
    rintro e w' ⟨rfl, rfl⟩
    go_wp2_with fail
    go_ret2
    exact ⟨rfl, HB.out⟩
  clear hf
  rw [if_neg h6, if_neg h6]
  have d6 : (a == 6) = false := by simpa using h6
  by_cases h17 : a = 17
  · subst h17
    rw [if_pos (.inl rfl), decide_eq_true (.inl rfl)]
    clear h6 d6
    go_enter Tryz.func196, Tryz.ntmps196
    go_wp2_with fail
    go_ret2
    exact ⟨rfl, HB.out⟩
  have d17 : (a == 17) = false := by simpa using h17
  by_cases h1 : a = 1
  · subst h1
    by_cases h8 : h = 8
    · subst h8
      rw [if_pos (.inr ⟨rfl, rfl⟩), decide_eq_true (.inr ⟨rfl, rfl⟩)]
      clear h6 d6 h17 d17
      go_enter Tryz.func196, Tryz.ntmps196
      go_wp2_with fail
      go_ret2
      exact ⟨rfl, HB.out⟩
    · have d8 : (h == 8) = false := by simpa using h8
      rw [if_neg (by omega), decide_eq_false (by omega)]
      clear h6 d6 h17 d17 h8
      go_enter Tryz.func196, Tryz.ntmps196
      go_wp2_with fail
      go_ret2
      exact ⟨rfl, HB.out⟩
  have d1 : (a == 1) = false := by simpa using h1
  rw [if_neg (by omega), decide_eq_false (by omega)]
  clear h6 h17 h1
  go_enter Tryz.func196, Tryz.ntmps196
  go_wp2_with fail
  go_ret2
  exact ⟨rfl, HB.out⟩

set_option maxHeartbeats 1000000 in
theorem next_any (s : Int) (r : Bool) (a b c d e f h : Int) (hs : -9223372036854775808 ≤ s ∧ s ≤ 9223372036854775807) (hf : 0 ≤ f ∧ f ≤ 255) (W : World) :
    Calls Tryz.prog 257 #[.int .i64 s, .bool r, .agg (pkc a b c d e f h)] W fun x w' => x = .returned (.tuple #[.int .i64 (neN s r a f h), .bool (neB s r a f h)]) ∧ Below W.heap.size W w' := by
  have HX := Lib.hid (Blk.box W (pkc a b c d e f h) 95)
  have HB := Lib.hid (below_pk W (.cells (pkc a b c d e f h) 95))
  obtain ⟨x0, x1, x2, x3, x4, x5, x6⟩ := pk_cells HX.out
  unfold neN neB
  by_cases h6 : a = 6
  · subst h6
    obtain ⟨n, rfl⟩ : ∃ n : Nat, f = (n : Int) := ⟨f.toNat, by omega⟩
    have HO := Lib.hid (Tr.next_any s r n hs (by omega))
    rw [if_pos rfl, if_pos rfl, Int.toNat_natCast]
    clear hf hs
    go_enter Tryz.func257, Tryz.ntmps257
    go_wp2_with fail
    go_at_call 282
    refine (HO.out _).mono ?_
    rintro e w' ⟨rfl, hb⟩
    have HB2 := Lib.hid (HB.out.trans (hb.mono HB.out.size))
    clear hb
    go_wp2_with fail
    go_ret2
    exact ⟨rfl, HB2.out⟩
  clear hf hs
  rw [if_neg h6, if_neg h6]
  have d6 : (a == 6) = false := by simpa using h6
  have HT := Lib.hid (talk_any s r)
  have HK := Lib.hid (kind_any r)
  generalize talkN s r = tn at HT ⊢
  generalize talkB s = tb at HT ⊢
  by_cases h17 : a = 17
  · subst h17
    rw [if_pos (.inl rfl), if_pos (.inl rfl)]
    clear h6 d6
    go_enter Tryz.func257, Tryz.ntmps257
    go_wp2_with fail
    go_at_call 283
    refine (HT.out _).mono ?_
    rintro e w' ⟨rfl, rfl⟩
    go_wp2_with fail
    go_ret2
    exact ⟨rfl, HB.out⟩
  have d17 : (a == 17) = false := by simpa using h17
  by_cases h1 : a = 1
  · subst h1
    by_cases h8 : h = kd r
    · have hy : Fits 1 h r := .inr ⟨rfl, h8⟩
      rw [if_pos hy, if_pos hy]
      have d8 : (h == kd r) = true := by simpa using h8
      clear h6 d6 h17 d17 hy h8
      generalize kd r = kk at HK d8
      go_enter Tryz.func257, Tryz.ntmps257
      go_wp2_with fail
      go_quiet ((go_at_call 284; exact Calls.quiet_of_same (HK.out _)))
      have HB2 := Lib.hid (HB.out.drews nq)
      clear x0 x1 x2 x3 x4 x5 x6
      go_wp2_with fail
      go_at_call 283
      refine (HT.out _).mono ?_
      rintro e w' ⟨rfl, rfl⟩
      go_wp2_with fail
      go_ret2
      exact ⟨rfl, HB2.out⟩
    · have hy : ¬ Fits 1 h r := by unfold Fits; omega
      rw [if_neg hy, if_neg hy]
      have d8 : (h == kd r) = false := by simpa using h8
      clear h6 d6 h17 d17 hy h8
      generalize kd r = kk at HK d8
      go_enter Tryz.func257, Tryz.ntmps257
      go_wp2_with fail
      go_quiet ((go_at_call 284; exact Calls.quiet_of_same (HK.out _)))
      have HB2 := Lib.hid (HB.out.drews nq)
      clear x0 x1 x2 x3 x4 x5 x6
      go_wp2_with fail
      go_ret2
      exact ⟨rfl, HB2.out⟩
  have d1 : (a == 1) = false := by simpa using h1
  have hn : ¬ Fits a h r := by unfold Fits; omega
  rw [if_neg hn, if_neg hn]
  clear h6 h17 h1 hn
  go_enter Tryz.func257, Tryz.ntmps257
  go_wp2_with fail
  go_ret2
  exact ⟨rfl, HB.out⟩
end Fs
end Go.Proofs.YtcockldefmmhbaaGreatDoor
