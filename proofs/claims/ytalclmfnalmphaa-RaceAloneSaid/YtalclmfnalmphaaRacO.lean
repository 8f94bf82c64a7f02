/- Layer 24: three logs of the law's own, beside each other. -/
import Derived.Test.YtalclmfnalmphaaRacL
set_option linter.unusedVariables false
set_option linter.unusedSimpArgs false
set_option maxRecDepth 100000
namespace Go.Proofs.Ytalclmfnalmphaa
open Go.ChangeShapes Go.WideShapes Go.ChangeAt Go.RowKit Go.Mtl Go.Lib
namespace Rc
open RcM
/-- 'append(list, x, y, ..)': list a row of the call's own; the m elements have just been laid. -/
theorem wpList_pushm {P : Program} {w : World} {ops : Array Oper} {rest : List Oper} {o : Oper} {a : Act} {Q : Exit → Act → World → Prop} (m n1 : Nat) (hgd : o.guard = none) (s x : Operand) (t e : TypeId)
    (ho : o.op = .call { callee := .builtin .append, args := #[s, x], argTypes := #[t, t] })
    (ht : P.underlying t = some (.slice e)) (z : Value) (size bytes : Nat) (hinfo : (P.info? e).map (fun i => (i.zero, i.size, i.bytes)) = some (some z, size, bytes)) (hzs : z.cells.size = size) (hsz : 0 < size) (hby : bytes ≤ 64)
    (v : Value) (n : Nat) (xs : List Value) (hs : a.eval s = v) (hown : w.ownsRow 0 e size v n xs)
    (us : List Value) (hus : us.length = m * size) (h1 : ∀ u ∈ us, u.oneCell' = true) (hx : a.eval x = .slice (some ⟨w.heap.size, 0, none⟩) m m) (hn1 : n + m = n1) (hn : n1 ≤ 1000000000000)
    (h : ∀ A' c' w', Hid (w'.ownsRow 0 e size (.slice A' n1 c') n1 (xs ++ us)) → Hid (w.grownBy w' v.ownBlock) → Hid ((Value.slice A' n1 c').ownBlock = v.ownBlock ∨ ∃ g, (Value.slice A' n1 c').ownBlock = some g ∧ w.heap.size ≤ g ∧ g < w'.heap.size) → wpList P ops Q rest (a.put o.dst (.slice A' n1 c')) w') :
    wpList P ops Q (o :: rest) a (w.alloc (.cells us.toArray e)) := by
  subst hn1
  obtain ⟨i, hi, hz0, hz1, hz2⟩ := info_parts hinfo
  refine wpList_append_own_at (P := P) (w.alloc (.cells us.toArray e)) hgd s x t ho 0 e i z size bytes ht hi hz0 hz1 hz2 hzs hsz v n xs hs (hown.alloc _)
    ⟨w.heap.size, 0, none⟩ m m us hx hus ?_ h1 (by unfold maxLen; omega) ?_ (Nat.zero_le _) ?_
  · intro j u hj
    have e1 : (Addr.add ⟨w.heap.size, 0, none⟩ j) = ⟨w.heap.size, j, none⟩ := by unfold Addr.add; split <;> simp_all
    rw [e1, cell_of_row _ _ j _ e (0, 0) (heap_alloc_new w _), List.getElem?_toArray, hj]
  · have : (n + m) * bytes ≤ 1000000000000 * 64 := Nat.mul_le_mul hn hby
    omega
  · intro v' w' g1 g2 _ g4
    have hg : w.grownBy w' v.ownBlock := (World.grownBy_alloc w _ _).trans g2
    obtain ⟨A', c', rfl, -, -⟩ := row_form g1
    refine h A' c' w' g1 hg (show _ ∨ _ from ?_)
    rcases g4 with g4 | g4
    · exact .inl g4
    · refine .inr ⟨_, g4, by rw [World.size_alloc]; omega, (g1.lt _ g4).2⟩
/-- A log in a row of the call's own. -/
structure Ow (W w : World) (v : Value) (l : List A) : Prop where
  row : w.ownsRow 0 32 3 v l.length (avs l)
  lo : ∀ g, v.ownBlock = some g → W.heap.size ≤ g
def Dj (v u : Value) : Prop := ∀ g, v.ownBlock = some g → u.ownBlock ≠ some g
section
variable {W w w' : World} {v v1 v2 v3 v' u : Value} {l l1 l2 l3 ys : List A} {O : Nat → Prop} {xb : Nat} {x : A}
theorem Dj.symm (h : Dj v u) : Dj u v := fun g e k => h g k e
theorem Ow.only (H : Ow W w v l) (ho : Only O w w') (hn : ∀ g, v.ownBlock = some g → ¬ O g) : Ow W w' v l := ⟨row_keep H.row fun g e => ho.block g (H.row.lt g e).2 (hn g e), H.lo⟩
theorem Ow.next (H : Ow W w v l) (hb : Below w.heap.size w w') : Ow W w' v l := H.only (Only.of_below (O := fun _ => False) hb) fun _ _ e => e
theorem Ow.read (H : Ow W w v l) : Lg w w.heap.size v l := Rd.of_own H.row
theorem avs_app (l ys : List A) : avs (l ++ ys) = avs l ++ avs ys := by unfold avs; rw [List.flatMap_append]
/-- Three logs beside each other. -/
structure R3 (W w : World) (v1 v2 v3 : Value) (l1 l2 l3 : List A) : Prop where
  bel : Below W.heap.size W w
  o1 : Ow W w v1 l1
  o2 : Ow W w v2 l2
  o3 : Ow W w v3 l3
  d12 : Dj v1 v2
  d13 : Dj v1 v3
  d23 : Dj v2 v3
theorem R3.next (H : R3 W w v1 v2 v3 l1 l2 l3) (hb : Below w.heap.size w w') : R3 W w' v1 v2 v3 l1 l2 l3 := ⟨H.bel.trans (hb.mono H.bel.size), H.o1.next hb, H.o2.next hb, H.o3.next hb, H.d12, H.d13, H.d23⟩
theorem R3.rot (H : R3 W w v1 v2 v3 l1 l2 l3) : R3 W w v2 v3 v1 l2 l3 l1 := ⟨H.bel, H.o2, H.o3, H.o1, H.d23, H.d12.symm, H.d13.symm⟩
/-- .. and the access at hand, in a block of its own. -/
structure S3 (W w : World) (xb : Nat) (v1 v2 v3 : Value) (l1 l2 l3 : List A) (x : A) : Prop where
  r : R3 W w v1 v2 v3 l1 l2 l3
  x : Blk w xb (acc x) 32
  n1 : v1.ownBlock ≠ some xb
  n2 : v2.ownBlock ≠ some xb
  n3 : v3.ownBlock ≠ some xb
  xw : W.heap.size ≤ xb
theorem S3.rot (H : S3 W w xb v1 v2 v3 l1 l2 l3 x) : S3 W w xb v2 v3 v1 l2 l3 l1 x := ⟨H.r.rot, H.x, H.n2, H.n3, H.n1, H.xw⟩
theorem R3.box (H : R3 W w v1 v2 v3 l1 l2 l3) (x : A) : S3 W (w.alloc (.cells (acc x) 32)) w.heap.size v1 v2 v3 l1 l2 l3 x :=
  ⟨H.next (below_box w _), Blk.box w _ _, fun e => Nat.lt_irrefl _ (H.o1.row.lt _ e).2, fun e => Nat.lt_irrefl _ (H.o2.row.lt _ e).2, fun e => Nat.lt_irrefl _ (H.o3.row.lt _ e).2, H.bel.size⟩
theorem S3.thread (H : S3 W w xb v1 v2 v3 l1 l2 l3 x) (t : Int) : S3 W (w.setCell ⟨xb, 0, none⟩ (.int .i64 t)) xb v1 v2 v3 l1 l2 l3 ⟨t, x.k, x.p⟩ := by
  have ho : Only (· = xb) w (w.setCell ⟨xb, 0, none⟩ (.int .i64 t)) := (Only.refl (· = xb) w).setCell (p := ⟨xb, 0, none⟩) (.inl rfl) _
  have k : ∀ {v : Value}, v.ownBlock ≠ some xb → ∀ g, v.ownBlock = some g → ¬ g = xb := fun hn g e e2 => hn (e2 ▸ e)
  exact ⟨⟨H.r.bel.setCell H.xw _, H.r.o1.only ho (k H.n1), H.r.o2.only ho (k H.n2), H.r.o3.only ho (k H.n3), H.r.d12, H.r.d13, H.r.d23⟩, H.x.set' 0 _ rfl, H.n1, H.n2, H.n3, H.xw⟩
/-- One of them grows. -/
theorem S3.push (H : S3 W w xb v1 v2 v3 l1 l2 l3 x) (hown : w'.ownsRow 0 32 3 v' (l1.length + ys.length) (avs l1 ++ avs ys)) (hg : w.grownBy w' v1.ownBlock)
    (hf : v'.ownBlock = v1.ownBlock ∨ ∃ g, v'.ownBlock = some g ∧ w.heap.size ≤ g ∧ g < w'.heap.size) : S3 W w' xb v' v2 v3 (l1 ++ ys) l2 l3 x := by
  have ho : Only (fun j => v1.ownBlock = some j) w w' := Only.grown hg fun k e => e
  have sz := H.r.bel.size
  have dj : ∀ {v : Value} {l : List A}, Ow W w v l → Dj v1 v → Dj v' v := fun {v l} hv hd g e k => by
    rcases hf with h | ⟨g2, h, h1, h2⟩
    · exact hd g (h ▸ e) k
    · have : g2 = g := Option.some.inj (h.symm.trans e)
      subst this
      have := (hv.row.lt _ k).2
      omega
  refine ⟨⟨H.r.bel.grown hg sz fun k e => H.r.o1.lo k e, ⟨by rw [avs_app, List.length_append]; exact hown, fun g e => ?_⟩, H.r.o2.only ho fun g e k => H.r.d12 g k e, H.r.o3.only ho fun g e k => H.r.d13 g k e, dj H.r.o2 H.r.d12, dj H.r.o3 H.r.d13, H.r.d23⟩,
    H.x.only ho fun e => H.n1 e, fun e => ?_, H.n2, H.n3, H.xw⟩
  · rcases hf with h | ⟨g2, h, h1, h2⟩
    · exact H.r.o1.lo g (h ▸ e)
    · have : g2 = g := Option.some.inj (h.symm.trans e)
      omega
  · rcases hf with h | ⟨g2, h, h1, h2⟩
    · exact H.n1 (h ▸ e)
    · have : g2 = xb := Option.some.inj (h.symm.trans e)
      have := H.x.lt
      omega
theorem R3.new (W w : World) (hb : Below W.heap.size W w) : R3 W (((w.alloc (.cells #[] 32)).alloc (.cells #[] 32)).alloc (.cells #[] 32)) (.slice (some ⟨w.heap.size, 0, none⟩) 0 0) (.slice (some ⟨w.heap.size + 1, 0, none⟩) 0 0) (.slice (some ⟨w.heap.size + 1 + 1, 0, none⟩) 0 0) [] [] [] := by
  have nw : ∀ w : World, Ow W w (.slice none 0 0) [] := fun w => ⟨⟨rfl, .inl ⟨rfl, rfl⟩⟩, fun g e => by simp [Value.ownBlock] at e⟩
  have mk : ∀ w : World, W.heap.size ≤ w.heap.size → Ow W (w.alloc (.cells #[] 32)) (.slice (some ⟨w.heap.size, 0, none⟩) 0 0) [] := fun w hs =>
    ⟨⟨rfl, .inr ⟨w.heap.size, 0, #[], rfl, Nat.zero_le _, heap_alloc_new w _, Nat.le_refl _, Nat.zero_le _, rfl, rfl⟩⟩, fun g e => by
      have : w.heap.size = g := Option.some.inj e
      omega⟩
  have sz : ∀ (w : World) (o : Obj), (w.alloc o).heap.size = w.heap.size + 1 := fun w o => by simp
  have hs := hb.size
  have a1 := ((mk w hs).next (below_box _ (.cells #[] 32))).next (below_box _ (.cells #[] 32))
  have a2 := (mk (w.alloc (.cells #[] 32)) (by rw [sz]; omega)).next (below_box _ (.cells #[] 32))
  have a3 := mk ((w.alloc (.cells #[] 32)).alloc (.cells #[] 32)) (by rw [sz, sz]; omega)
  rw [sz] at a2
  rw [sz, sz] at a3
  have dj : ∀ a b : Nat, a ≠ b → Dj (.slice (some ⟨a, 0, none⟩) 0 0) (.slice (some ⟨b, 0, none⟩) 0 0) := fun a b h g e k => by
    have h1 : a = g := Option.some.inj e
    have h2 : b = g := Option.some.inj k
    omega
  exact ⟨((hb.alloc hs _).alloc (by rw [sz]; omega) _).alloc (by rw [sz, sz]; omega) _, a1, a2, a3, dj _ _ (by omega), dj _ _ (by omega), dj _ _ (by omega)⟩
end
theorem acc_info : (Try.prog.info? 32).map (fun i => (i.zero, i.size, i.bytes)) = some (some (.agg (acc ⟨0, 0, 0⟩)), 3, 24) := by kernel_rfl
/-- What the three logs hold. -/
structure H3 (L : Int) (i : Nat) (l1 l2 l3 : List A) : Prop where
  a : ∀ x ∈ l1, x.t = 7
  b : ∀ x ∈ l2, (0 ≤ x.t ∧ x.t ≤ 63) ∧ x.k ≠ 6
  c : ∃ h, l3.length = 3 * h ∧ ∀ j, j < h → 0 ≤ (fn l3 (3 * j)).t ∧ (fn l3 (3 * j)).t ≤ 63 ∧ (fn l3 (3 * j + 1)).t = (fn l3 (3 * j)).t ∧ (fn l3 (3 * j + 2)).t = (fn l3 (3 * j)).t ∧ (fn l3 (3 * j)).k = 1 ∧ (fn l3 (3 * j)).p = L ∧ (fn l3 (3 * j + 2)).k = 2 ∧ (fn l3 (3 * j + 2)).p = L
  n1 : l1.length = i
  n2 : l2.length ≤ i
  n3 : l3.length ≤ 3 * i
theorem H3.new (L : Int) : H3 L 0 [] [] [] := ⟨fun x h => (nomatch h), fun x h => (nomatch h), ⟨0, rfl, fun j h => absurd h (Nat.not_lt_zero j)⟩, rfl, Nat.le_refl _, Nat.le_refl _⟩
theorem fn_app {l ys : List A} {i : Nat} (h : i < l.length) : fn (l ++ ys) i = fn l i := by unfold fn; simp [List.getD, List.getElem?_append_left h]
theorem fn_new {l ys : List A} (d : Nat) {x : A} (h : ys[d]? = some x) : fn (l ++ ys) (l.length + d) = x := fn_at (by rw [List.getElem?_append_right (by omega), Nat.add_sub_cancel_left]; exact h)
theorem H3.step {L : Int} {i : Nat} {l1 l2 l3 y2 y3 : List A} {t k p : Int} (H : H3 L i l1 l2 l3) (ht : 0 ≤ t ∧ t ≤ 63) (h2 : y2 = [] ∨ y2 = [⟨t, k, p⟩] ∧ k ≠ 6) (h3 : y3 = [] ∨ y3 = [⟨t, 1, L⟩, ⟨t, k, p⟩, ⟨t, 2, L⟩]) : H3 L (i + 1) (l1 ++ [⟨7, k, p⟩]) (l2 ++ y2) (l3 ++ y3) := by
  refine ⟨fun x hx => ?_, fun x hx => ?_, ?_, by rw [List.length_append, H.n1]; rfl, ?_, ?_⟩
  · rcases List.mem_append.1 hx with h | h
    · exact H.a x h
    · rw [List.mem_singleton.1 h]
  · rcases List.mem_append.1 hx with h | h
    · exact H.b x h
    · rcases h2 with rfl | ⟨rfl, hk⟩
      · cases h
      · rw [List.mem_singleton.1 h]; exact ⟨ht, hk⟩
  · obtain ⟨q, e, hq⟩ := H.c
    rcases h3 with rfl | rfl
    · rw [List.append_nil]; exact ⟨q, e, hq⟩
    · refine ⟨q + 1, by rw [List.length_append, e]; simp; omega, fun j hj => ?_⟩
      by_cases hjq : j < q
      · have := hq j hjq
        rw [fn_app (by omega), fn_app (by omega), fn_app (by omega)]
        exact this
      · obtain rfl : j = q := by omega
        have f0 := fn_new (l := l3) (ys := [⟨t, 1, L⟩, ⟨t, k, p⟩, ⟨t, 2, L⟩]) 0 rfl
        have f1 := fn_new (l := l3) (ys := [⟨t, 1, L⟩, ⟨t, k, p⟩, ⟨t, 2, L⟩]) 1 rfl
        have f2 := fn_new (l := l3) (ys := [⟨t, 1, L⟩, ⟨t, k, p⟩, ⟨t, 2, L⟩]) 2 rfl
        rw [e] at f0 f1 f2
        rw [show 3 * j = 3 * j + 0 from rfl, f0, show 3 * j + 0 + 1 = 3 * j + 1 from rfl, f1, show 3 * j + 0 + 2 = 3 * j + 2 from rfl, f2]
        exact ⟨ht.1, ht.2, rfl, rfl, rfl, rfl, rfl, rfl⟩
  · have := H.n2
    rcases h2 with rfl | ⟨rfl, _⟩ <;> simp <;> omega
  · have := H.n3
    rcases h3 with rfl | rfl <;> simp <;> omega
theorem fn_mem {l : List A} {i : Nat} (h : i < l.length) : fn l i ∈ l := by unfold fn; simp [List.getD, h]
theorem H3.tells {L : Int} {i : Nat} {l1 l2 l3 : List A} (H : H3 L i l1 l2 l3) : Tells (fn l1) l1.length (-1) 0 ∧ Tells (fn l2) l2.length (-1) 0 ∧ Tells (fn l3) l3.length (-1) 0 := by
  refine ⟨alone_one fun i hi => H.a _ (fn_mem hi), alone_reads (fun i hi => (H.b _ (fn_mem hi)).1) fun i hi => (H.b _ (fn_mem hi)).2, ?_⟩
  obtain ⟨q, e, hq⟩ := H.c
  rw [e]
  exact alone_held (L := L) hq
end Rc
end Go.Proofs.Ytalclmfnalmphaa
