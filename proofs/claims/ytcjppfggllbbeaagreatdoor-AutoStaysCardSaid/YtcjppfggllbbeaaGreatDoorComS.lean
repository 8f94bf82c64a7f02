/- More common words, over any program: a region that reads and calls quietly, and then stores; a contract that leaves the world alone, as such a region asks for it. -/
import Derived.Test.YtcjppfggllbbeaaGreatDoorComO
import Derived.StillTailTactics
import Derived.IntWalk
import Derived.Laws.CopyOwn
set_option linter.unusedVariables false
namespace Go.Mtl
open Go.RowKit

/-- A contract 'w = w'', as a walk of 'still_call' wants it. -/
theorem still_of {P : Program} {f : FuncId} {args : Array Value} {w : World} {v : Value} (h : Calls P f args w fun e w' => e = .returned v ∧ w = w') : Calls P f args w fun e w'' => e = .returned v ∧ w'' = w :=
  h.mono fun _ _ ⟨a, b⟩ => ⟨a, b.symm⟩

/-- 'go_still_tail', the world behind the draw under its name. -/
theorem region_still_tail {P : Program} {id : Nat} {Q : Exit → Act → World → Prop} {a : Act} {w : World} {l : List Oper} (n : Nat) (hm : P.follows .mixedOrders = true) (hB : Region.lexTailB .any l.toArray n = true)
    (w1 : World) (hw : w1 = w.drew) (h : wpStill P l.toArray w1 (fun a' => wpList P l.toArray Q (l.drop n) a' w1) (l.take n) a) : (Code.region id l.toArray true).wp P Q a w := by
  subst hw
  exact wp_region_still_tail n hm hB h

/-- append run: out a row of the call's own, x bytes that came in: nil, empty or not. -/
theorem run_append_bts {P : Program} {w : World} (t ty : TypeId)
    (base : Nat) (e : TypeId) (i : TypeInfo) (ht : P.underlying t = some (.slice e)) (hi : P.info? e = some i) (hz : i.zero = some (.int .u8 0)) (hsize : i.size = 1) (hby : i.bytes = 1)
    (v : Value) (n : Nat) (xs : List UInt8) (hown : w.ownsRow base e 1 v n (bvs xs))
    (B : Nat) (A : Option Addr) (m c : Nat) (ys : List UInt8) (hr : Bts w B A m ys) (hn : n + m ≤ 1073741824) (hbase : base ≤ w.heap.size) :
    ∃ A' c' w', (Builtin.append_ #[t, t] ty #[v, .slice A m c]).run P w = .ok (.slice A' (n + m) c') w' ∧ w'.ownsRow base e 1 (.slice A' (n + m) c') (n + m) (bvs (xs ++ ys)) ∧ w.grownBy w' v.ownBlock ∧ (n + m ≤ c' ∧ c' ≤ 9223372036854775807) := by
  have fin : ∀ v' w', (Builtin.append_ #[t, t] ty #[v, .slice A m c]).run P w = .ok v' w' → w'.ownsRow base e 1 v' (n + m) (bvs (xs ++ ys)) → w.grownBy w' v.ownBlock →
      ∃ A' c' w', (Builtin.append_ #[t, t] ty #[v, .slice A m c]).run P w = .ok (.slice A' (n + m) c') w' ∧ w'.ownsRow base e 1 (.slice A' (n + m) c') (n + m) (bvs (xs ++ ys)) ∧ w.grownBy w' v.ownBlock ∧ (n + m ≤ c' ∧ c' ≤ 9223372036854775807) := by
    intro v' w' h0 h1 h2
    rcases h1.2 with ⟨h3, h4⟩ | ⟨g, cap, cur, rfl, _, _, h5, h6, _⟩
    · subst h3
      refine ⟨none, 0, w', ?_, ?_, h2, by omega⟩
      · rw [h4]; exact h0
      · rw [h4] at h1 ⊢; exact h1
    · exact ⟨_, _, _, h0, h1, h2, h5, by unfold maxLen at h6; omega⟩
  rcases A with _ | ad
  · have hm : m = 0 := by
      rcases Nat.eq_zero_or_pos m with h0 | h0
      · exact h0
      · obtain ⟨_, _, h1, _⟩ := hr.at_ h0
        cases h1
    subst hm
    obtain rfl : ys = [] := List.eq_nil_of_length_eq_zero hr.len
    have hrun : (Builtin.append_ #[t, t] ty #[v, .slice none 0 c]).run P w = .ok v w := by
      rcases hown.2 with ⟨rfl, rfl⟩ | ⟨g, cap, cur, rfl, _, _, hnc, _⟩
      · simp [Builtin.append_, run_underlying ht, sizeOf, typeInfo, hi, Builtin.lenOf, Builtin.firstCells]
      · simp [Builtin.append_, run_underlying ht, sizeOf, typeInfo, hi, Builtin.lenOf, Builtin.firstCells, hnc, storeCells]
    exact fin v w hrun (by simpa using hown) (World.grownBy.refl w _)
  · obtain ⟨v', w', h0, h1, h2, _, _⟩ := run_append_own_at (P := P) w base t ty e i (.int .u8 0) 1 1 ht hi hz hsize hby rfl (by omega) v n (bvs xs) hown ad m c (bvs ys) (by rw [bvs_len, hr.len, Nat.mul_one])
      (by
        intro j u hu
        have hj : j < ys.length := by have := (List.getElem?_eq_some_iff.1 hu).1; rwa [bvs_len] at this
        obtain ⟨b, off, h1, _, hc⟩ := hr.at_ (by have := hr.len; omega)
        injection h1 with h1
        subst h1
        have e : (Addr.add ⟨b, off, none⟩ j) = ⟨b, off + j, none⟩ := by unfold Addr.add; split <;> simp_all
        rw [e, hc j (by have := hr.len; omega)]
        rw [bvs_at ys j hj] at hu
        exact hu)
      (by
        intro u hu
        unfold bvs at hu
        obtain ⟨c, _, rfl⟩ := List.mem_map.1 hu
        rfl)
      (by unfold maxLen; omega) (by omega) hbase
    exact fin v' w' h0 (by unfold bvs at h1 ⊢; rwa [List.map_append]) h2

section
variable {P : Program} {w : World} {o : Oper} {a : Act} {K : Act → World → Prop} {Q : Exit → Act → World → Prop}
/-- .. at the operation. -/
theorem wp_append_bts (s x : Operand) (t : TypeId)
    (ho : o.op = .call { callee := .builtin .append, args := #[s, x], argTypes := #[t, t] })
    (base : Nat) (e : TypeId) (i : TypeInfo) (ht : P.underlying t = some (.slice e)) (hi : P.info? e = some i) (hz : i.zero = some (.int .u8 0)) (hsize : i.size = 1) (hby : i.bytes = 1)
    (v : Value) (n : Nat) (xs : List UInt8) (hs : a.eval s = v) (hown : w.ownsRow base e 1 v n (bvs xs))
    (B : Nat) (A : Option Addr) (m c : Nat) (ys : List UInt8) (hx : a.eval x = .slice A m c) (hr : Bts w B A m ys) (hn : n + m ≤ 1073741824) (hbase : base ≤ w.heap.size)
    (h : ∀ A' c' w', w'.ownsRow base e 1 (.slice A' (n + m) c') (n + m) (bvs (xs ++ ys)) → w.grownBy w' v.ownBlock → (n + m ≤ c' ∧ c' ≤ 9223372036854775807) → K (a.put o.dst (.slice A' (n + m) c')) w') :
    o.wp P a w K Q := by
  obtain ⟨A', c', w', h0, h1, h2, h3⟩ := run_append_bts (P := P) t o.type base e i ht hi hz hsize hby v n xs hown B A m c ys hr hn hbase
  unfold Oper.wp execOp
  simp only [ho, resolve, invoke, builtin, Sem.run_bind, Sem.run_pure, Result.andThen_ok, List.map_toArray, List.map_cons, List.map_nil, hs, hx, h0]
  exact h _ _ _ h1 h2 h3
/-- .. at a step of a region that draws its order. -/
theorem step_append_bts {ops : Array Oper} {E : Prop} (hgd : o.guard = none) (s x : Operand) (t : TypeId)
    (ho : o.op = .call { callee := .builtin .append, args := #[s, x], argTypes := #[t, t] })
    (base : Nat) (e : TypeId) (i : TypeInfo) (ht : P.underlying t = some (.slice e)) (hi : P.info? e = some i) (hz : i.zero = some (.int .u8 0)) (hsize : i.size = 1) (hby : i.bytes = 1)
    (v : Value) (n : Nat) (xs : List UInt8) (hs : a.eval s = v) (hown : w.ownsRow base e 1 v n (bvs xs))
    (B : Nat) (A : Option Addr) (m c : Nat) (ys : List UInt8) (hx : a.eval x = .slice A m c) (hr : Bts w B A m ys) (hn : n + m ≤ 1073741824) (hbase : base ≤ w.heap.size)
    (h : ∀ A' c' w', w'.ownsRow base e 1 (.slice A' (n + m) c') (n + m) (bvs (xs ++ ys)) → w.grownBy w' v.ownBlock → (n + m ≤ c' ∧ c' ≤ 9223372036854775807) → K (a.put o.dst (.slice A' (n + m) c')) w') :
    if Region.wanted o (yielded ops a.tmps) = true then Oper.wp P o a w K Q else E := by
  have hw : Region.wanted o (yielded ops a.tmps) = true := by simp [Region.wanted, hgd]
  rw [if_pos hw]
  exact wp_append_bts s x t ho base e i ht hi hz hsize hby v n xs hs hown B A m c ys hx hr hn hbase h
end

/-- cs laid over l from place i on. -/
def over (l : List UInt8) (i : Nat) (cs : List UInt8) : List UInt8 := l.take i ++ (cs ++ l.drop (i + cs.length))
theorem over_len (l : List UInt8) (i : Nat) (cs : List UInt8) (h : i + cs.length ≤ l.length) : (over l i cs).length = l.length := by simp [over]; omega
theorem over_all (l cs : List UInt8) (h : l.length = cs.length) : over l 0 cs = cs := by simp [over, ← h]
theorem over_nil (l : List UInt8) (i : Nat) : over l i [] = l := by simp [over]

/-- copy run: into a block that is known whole, out of bytes that fit. -/
theorem run_copy_bts {P : Program} {w : World} (dT sT ty elem : TypeId) (hu : P.underlying dT = some (.slice elem)) (hsz : (P.info? elem).map (·.size) = some 1)
    (dp sp : Option Addr) (g off dLen dCap sLen sCap B : Nat) (l cs : List UInt8) (t : TypeId) (hg : w.heap[g]? = some (.cells (bvs l).toArray t (0, 0))) (hb : Bts w B sp sLen cs) (hle : sLen ≤ dLen) (hfit : off + sLen ≤ l.length)
    (hpos : 0 < sLen → dp = some ⟨g, off, none⟩) :
    ∃ w', (Builtin.copy_ #[dT, sT] ty #[.slice dp dLen dCap, .slice sp sLen sCap]).run P w = .ok (goInt sLen) w' ∧ w'.heap[g]? = some (.cells (bvs (over l off cs)).toArray t (0, 0)) ∧ w.grownBy w' (some g) := by
  have hl := hb.len
  rcases Nat.eq_zero_or_pos sLen with h0 | h0
  · have hcs : cs = [] := List.eq_nil_of_length_eq_zero (by omega)
    subst hcs
    refine ⟨w, ?_, by rw [over_nil]; exact hg, World.grownBy.refl w _⟩
    rw [run_copy_none (P := P) w dT sT ty elem dp sp dLen dCap sLen sCap hu hsz (by subst h0; simp), h0]
    rfl
  · obtain ⟨b, o, rfl, _, hc⟩ := hb.at_ h0
    obtain rfl := hpos h0
    have hrun := run_copy_row (P := P) w dT sT ty elem g off dLen dCap ⟨b, o, none⟩ sLen sCap (bvs l).toArray t (bvs cs) hu hsz hg (by rw [bvs_len, hl]; exact (Nat.min_eq_left hle).symm)
      (by
        intro j v hv
        have hj : j < cs.length := by have := (List.getElem?_eq_some_iff.1 hv).1; rwa [bvs_len] at this
        have e : (Addr.add ⟨b, o, none⟩ j) = ⟨b, o + j, none⟩ := by unfold Addr.add; split <;> simp_all
        rw [e, hc j (by omega), ← hv, bvs_at cs j hj])
      (by simp [bvs_len]; omega)
      (by
        intro v hv
        unfold bvs at hv
        obtain ⟨c, _, rfl⟩ := List.mem_map.1 hv
        rfl)
    have e : (bvs l).toArray.toList.take off ++ bvs cs ++ (bvs l).toArray.toList.drop (off + (bvs cs).length) = bvs (over l off cs) := by simp [over, bvs, List.map_take, List.map_drop]
    rw [e, bvs_len, hl] at hrun
    exact ⟨_, hrun, setRow_heap w g _ _ t _ hg, ⟨rfl, rfl, rfl, by simp [World.setRow], fun k _ hk => setRow_other w g k _ (fun e => hk (by simp [e]))⟩⟩

section
variable {P : Program} {w : World} {o : Oper} {a : Act} {K : Act → World → Prop} {Q : Exit → Act → World → Prop}
theorem wp_copy_bts (d s : Operand) (dT sT : TypeId) (ho : o.op = .call { callee := .builtin .copy, args := #[d, s], argTypes := #[dT, sT] }) (elem : TypeId) (hu : P.underlying dT = some (.slice elem)) (hsz : (P.info? elem).map (·.size) = some 1)
    (dp sp : Option Addr) (g off dLen dCap sLen sCap B : Nat) (hd : a.eval d = .slice dp dLen dCap) (hs : a.eval s = .slice sp sLen sCap)
    (l cs : List UInt8) (t : TypeId) (hg : w.heap[g]? = some (.cells (bvs l).toArray t (0, 0))) (hb : Bts w B sp sLen cs) (hle : sLen ≤ dLen) (hfit : off + sLen ≤ l.length)
    (hpos : 0 < sLen → dp = some ⟨g, off, none⟩)
    (h : ∀ w', w'.heap[g]? = some (.cells (bvs (over l off cs)).toArray t (0, 0)) → w.grownBy w' (some g) → K (a.put o.dst (goInt sLen)) w') : o.wp P a w K Q := by
  obtain ⟨w', h0, h1, h2⟩ := run_copy_bts (P := P) dT sT o.type elem hu hsz dp sp g off dLen dCap sLen sCap B l cs t hg hb hle hfit hpos
  unfold Oper.wp execOp
  simp only [ho, resolve, invoke, builtin, Sem.run_bind, Sem.run_pure, Result.andThen_ok, List.map_toArray, List.map_cons, List.map_nil, hd, hs, h0]
  exact h _ h1 h2
theorem wpList_copy_bts {ops : Array Oper} {rest : List Oper} (hgd : o.guard = none) (d s : Operand) (dT sT : TypeId) (ho : o.op = .call { callee := .builtin .copy, args := #[d, s], argTypes := #[dT, sT] }) (elem : TypeId) (hu : P.underlying dT = some (.slice elem)) (hsz : (P.info? elem).map (·.size) = some 1)
    (dp sp : Option Addr) (g off dLen dCap sLen sCap B : Nat) (hd : a.eval d = .slice dp dLen dCap) (hs : a.eval s = .slice sp sLen sCap)
    (l cs : List UInt8) (t : TypeId) (hg : w.heap[g]? = some (.cells (bvs l).toArray t (0, 0))) (hb : Bts w B sp sLen cs) (hle : sLen ≤ dLen) (hfit : off + sLen ≤ l.length)
    (hpos : 0 < sLen → dp = some ⟨g, off, none⟩)
    (h : ∀ w', w'.heap[g]? = some (.cells (bvs (over l off cs)).toArray t (0, 0)) → w.grownBy w' (some g) → wpList P ops Q rest (a.put o.dst (goInt sLen)) w') : wpList P ops Q (o :: rest) a w :=
  wpList_plain hgd fun _ hK => wp_copy_bts d s dT sT ho elem hu hsz dp sp g off dLen dCap sLen sCap B hd hs l cs t hg hb hle hfit hpos fun w' h1 h2 => hK _ _ (h w' h1 h2)
theorem step_copy_bts {ops : Array Oper} {E : Prop} (hgd : o.guard = none) (d s : Operand) (dT sT : TypeId) (ho : o.op = .call { callee := .builtin .copy, args := #[d, s], argTypes := #[dT, sT] }) (elem : TypeId) (hu : P.underlying dT = some (.slice elem)) (hsz : (P.info? elem).map (·.size) = some 1)
    (dp sp : Option Addr) (g off dLen dCap sLen sCap B : Nat) (hd : a.eval d = .slice dp dLen dCap) (hs : a.eval s = .slice sp sLen sCap)
    (l cs : List UInt8) (t : TypeId) (hg : w.heap[g]? = some (.cells (bvs l).toArray t (0, 0))) (hb : Bts w B sp sLen cs) (hle : sLen ≤ dLen) (hfit : off + sLen ≤ l.length)
    (hpos : 0 < sLen → dp = some ⟨g, off, none⟩)
    (h : ∀ w', w'.heap[g]? = some (.cells (bvs (over l off cs)).toArray t (0, 0)) → w.grownBy w' (some g) → K (a.put o.dst (goInt sLen)) w') :
    if Region.wanted o (yielded ops a.tmps) = true then Oper.wp P o a w K Q else E := by
  have hw : Region.wanted o (yielded ops a.tmps) = true := by simp [Region.wanted, hgd]
  rw [if_pos hw]
  exact wp_copy_bts d s dT sT ho elem hu hsz dp sp g off dLen dCap sLen sCap B hd hs l cs t hg hb hle hfit hpos h
end

/-- An arm that is meant for the operation that writes slot k, and for no other. -/
theorem at_slot (k : Nat) {P : Program} {w : World} {ops : Array Oper} {rest : List Oper} {a : Act} {Q : Exit → Act → World → Prop} {op : Op} {ty : TypeId} {pos : String} {aft : Array Edge} {gd : Option (Nat × Bool)}
    (h : wpList P ops Q (⟨some k, op, ty, pos, aft, gd⟩ :: rest) a w) : wpList P ops Q (⟨some k, op, ty, pos, aft, gd⟩ :: rest) a w := h

end Go.Mtl
