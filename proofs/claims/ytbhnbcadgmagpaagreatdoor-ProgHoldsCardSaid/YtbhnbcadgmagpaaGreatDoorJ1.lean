import Derived.Test.YtbhnbcadgmagpaaGreatDoorBig
set_option linter.unusedVariables false
set_option linter.unusedSimpArgs false
theorem zt {p:Prop} (h:p:=by simp;omega):p:=h
theorem zo {p:Prop} (h:p:=by omega):p:=h
theorem zs {p:Prop} (h:p:=by simp):p:=h
theorem zd {p:Prop} (h:p:=by decide):p:=h
theorem zx {p:Prop} (h:p:=by trivial):p:=h
theorem zz {p:Prop} (h:p:=by assumption):p:=h
theorem zf {p:Prop} (h:p:=by exact fun _ _=>rfl):p:=h
theorem zg {p:Prop} (h:p:=by exact fun _=>rfl):p:=h
theorem zh {p:Prop} (h:p:=by exact fun _ _ _ h=>h):p:=h
theorem zl {n:Nat}:n<=n:=Nat.le_refl _
theorem zk {p:Prop} (h:p:=by kernel_rfl):p:=h
namespace Go
section
variable {P : Program} {md : Region.Mode} {ops : Array Oper} {Q : Exit → Act → World → Prop} {S : World → Prop} {fuel : Nat} {listed : Array Bool} {a : Act} {w : World} {op : Op} {ty : TypeId} {pos : String} {aft : Array Edge} {gd : Option (Nat × Bool)}
theorem zqt (i : Nat) (d : Option Tmp) (v : Value) (hi : ops[i]? = some ⟨d, op, ty, pos, aft, gd⟩) (h0 : Region.wanted ⟨d, op, ty, pos, aft, gd⟩ (yielded ops a.tmps) = true) (hy : ∀ w, S w → (execOp a.eval ⟨d, op, ty, pos, aft, gd⟩).run P w = .ok (.value v) w) (hS : S w) (h : wpAnyH P md ops Q S fuel (listed.setIfInBounds i true) (a.put d v) w)
    (hs : Region.noSelect ops = true := by kernel_rfl) (hf : Region.free md ops listed i = true := by kernel_rfl) (hr : (Region.ready md ops listed).contains i = true := by kernel_rfl) (hQ : ∀ c a w, Q (.panic c) (a.put d v) w → Q (.panic c) a w := by exact fun _ _ _ h => h) :
    wpAnyH P md ops Q S (fuel + 1) listed a w := wpAnyH_take hi hs hf hr hQ (Or.inl ⟨h0, hy⟩) hS h
theorem zr {v : Value} (i d : Nat) (hS : S w) (h : wpAnyH P md ops Q S fuel (listed.setIfInBounds i true) (a.put (some d) v) w) (hi : ops[i]? = some ⟨some d, op, ty, pos, aft, gd⟩ := by rfl) (h0 : Region.wanted ⟨some d, op, ty, pos, aft, gd⟩ (yielded ops a.tmps) = true := by rfl) (hy : ∀ w, S w → (execOp a.eval ⟨some d, op, ty, pos, aft, gd⟩).run P w = .ok (.value v) w := by (intro w' hS;(try dsimp only at hS);(try simp only [Act.put,List.setIfInBounds_toArray,List.set_cons_zero,List.set_cons_succ]);go_simp;(try with_reducible rfl)))
    (hs : Region.noSelect ops = true := by kernel_rfl) (hf : Region.free md ops listed i = true := by kernel_rfl) (hr : (Region.ready md ops listed).contains i = true := by kernel_rfl) (hQ : ∀ c a w, Q (.panic c) (a.put (some d) v) w → Q (.panic c) a w := by exact fun _ _ _ h => h) :
    wpAnyH P md ops Q S (fuel + 1) listed a w := wpAnyH_take hi hs hf hr hQ (Or.inl ⟨h0, hy⟩) hS h
theorem zqp (i : Nat) (d : Option Tmp) (hi : ops[i]? = some ⟨d, op, ty, pos, aft, gd⟩) (h0 : Region.wanted ⟨d, op, ty, pos, aft, gd⟩ (yielded ops a.tmps) = false) (hS : S w) (h : wpAnyH P md ops Q S fuel (listed.setIfInBounds i true) (a.put d undef) w)
    (hs : Region.noSelect ops = true := by kernel_rfl) (hf : Region.free md ops listed i = true := by kernel_rfl) (hr : (Region.ready md ops listed).contains i = true := by kernel_rfl) (hQ : ∀ c a w, Q (.panic c) (a.put d undef) w → Q (.panic c) a w := by exact fun _ _ _ h => h) :
    wpAnyH P md ops Q S (fuel + 1) listed a w := wpAnyH_take hi hs hf hr hQ (Or.inr ⟨h0, rfl⟩) hS h
theorem zrd (i : Nat) {o : Oper} (h : ∀ K' : Act → World → Prop, Shut (∀ a w, S w → (S w → wpAnyH P md ops Q S fuel (listed.setIfInBounds i true) a w) → K' a w) → if Region.wanted o (yielded ops a.tmps) = true then Oper.wp P o a w K' Q else K' (a.put o.dst undef) w) (ho : ops[i]? = some o := by rfl) (hr : Region.ready md ops listed = [i] := by kernel_rfl) : wpAnyH P md ops Q S (fuel + 1) listed a w :=
  wpAnyH_ready hr (by simp) (AllReadyH.cons ho h AllReadyH.nil)
end
theorem zq : (∀ (a : Act) (d : Nat) (v : Value), a.put (some d) v = { a with tmps := a.tmps.setIfInBounds d v }) ∧ (∀ (l : List Value) (i : Nat) (a : Value), l.toArray.setIfInBounds i a = (l.set i a).toArray) ∧ (∀ (x : Value) (xs : List Value) (a : Value), (x :: xs).set 0 a = a :: xs) ∧ (∀ (x : Value) (xs : List Value) (i : Nat) (a : Value), (x :: xs).set (i + 1) a = x :: xs.set i a) :=
  ⟨fun _ _ _ => rfl, fun l i a => List.setIfInBounds_toArray l i a, fun _ _ _ => List.set_cons_zero, fun _ _ _ _ => List.set_cons_succ⟩
end Go
