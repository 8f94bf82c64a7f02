/- Layer 18: the walk of AutoStays. (Written by wip/tools/mkAulT.py.) -/
import Derived.Test.YtcjppfggllbbeaaGreatDoorJ44
import Derived.Laws.StructEq
import Derived.KernelRfl
set_option linter.unusedVariables false
set_option linter.unusedSimpArgs false
set_option maxRecDepth 100000
namespace Go.Proofs.YtcjppfggllbbeaaGreatDoor
open Go.ChangeShapes Go.WideShapes Go.ChangeAt Go.RowKit Go.Mtl Go.Lib
namespace Au
open AutM
open RulM (R)
open MatM (K)
theorem fl_fields : Tryz.prog.underlying 50 = some (.struct (Tryz.prog.fieldsOf 50)) := by kernel_rfl
theorem fl_stood : Tryz.prog.stoodInHeld 50 = false := by kernel_rfl
theorem fl_lay : (Tryz.prog.fieldsOf 50).toList.map (fun f => (f.type, f.offset)) = [(3, 0), (3, 1), (3, 2)] := by kernel_rfl
theorem fl_names : (Tryz.prog.fieldsOf 50).toList.all (fun f => f.name != "_") = true := by kernel_rfl
theorem fl_same (a b c : Int) (w : World) : (Op.equalIn 10000 50 (.agg #[.int .i64 a, .int .i64 b, .int .i64 c]) (.agg #[.int .i64 a, .int .i64 b, .int .i64 c])).run Tryz.prog w = .ok true w := by
  rw [show (10000 : Nat) = 9999 + 1 from rfl, run_equalIn_struct w 9999 _ _ _ fl_fields fl_stood]
  have hl := fl_lay
  have hn := fl_names
  generalize (Tryz.prog.fieldsOf 50).toList = l at hl hn ⊢
  rcases l with _ | ⟨f1, _ | ⟨f2, _ | ⟨f3, _ | ⟨f4, l⟩⟩⟩⟩ <;> simp at hl hn
  obtain ⟨⟨t1, o1⟩, ⟨t2, o2⟩, t3, o3⟩ := hl
  obtain ⟨n1, n2, n3⟩ := hn
  have c1 : (part 3 #[.int .i64 a, .int .i64 b, .int .i64 c] 0).run Tryz.prog w = .ok (.int .i64 a) w := by simp [go_sem]
  have c2 : (part 3 #[.int .i64 a, .int .i64 b, .int .i64 c] 1).run Tryz.prog w = .ok (.int .i64 b) w := by simp [go_sem]
  have c3 : (part 3 #[.int .i64 a, .int .i64 b, .int .i64 c] 2).run Tryz.prog w = .ok (.int .i64 c) w := by simp [go_sem]
  have q : ∀ x : Int, (Op.equalIn 9999 3 (.int .i64 x) (.int .i64 x)).run Tryz.prog w = .ok (x == x) w := fun x => run_equalIn_int w 9998 _ .i64 .i64 x x (by kernel_rfl)
  simp only [Op.eqFields, ne_eq, n1, n2, n3, not_false_eq_true, if_true, t1, t2, t3, o1, o2, o3, Sem.run_bind, c1, c2, c3, Result.andThen_ok, q, Sem.run_ite, Sem.run_pure, beq_self_eq_true]
  rfl
/-- Two firewalls apart. -/
structure A2 (w : World) (Oa Ob : Nat → Prop) (Ba Ma Bb Mb : Nat) (N : Int) (T : Nat → Int) (sa sb : St) (W : World) : Prop where
  a : Am w Oa Ba Ma N T sa W
  b : Am w Ob Bb Mb N T sb W
  dis : ∀ j, Oa j → ¬ Ob j
section
variable {w W w' : World} {Oa Ob O' : Nat → Prop} {Ba Ma Bb Mb : Nat} {N : Int} {T : Nat → Int} {sa sb s' : St}
theorem A2.next (H : A2 w Oa Ob Ba Ma Bb Mb N T sa sb W) (hb : Below W.heap.size W w') : A2 w Oa Ob Ba Ma Bb Mb N T sa sb w' := ⟨H.a.next hb, H.b.next hb, H.dis⟩
theorem A2.left (H : A2 w Oa Ob Ba Ma Bb Mb N T sa sb W) (hp : PAt w' Oa Ba Ma N T s') (ho : Only Oa W w') : A2 w Oa Ob Ba Ma Bb Mb N T s' sb w' :=
  ⟨H.a.same hp ho, ⟨H.b.fw.far ho (fun j hb ha => H.dis j ha hb), (H.a.same hp ho).env, (H.a.same hp ho).bel, H.b.new⟩, H.dis⟩
theorem A2.right (H : A2 w Oa Ob Ba Ma Bb Mb N T sa sb W) (hp : PAt w' O' Bb Mb N T s') (ho : Only Ob W w') (hO : ∀ j, O' j → Ob j ∨ W.heap.size ≤ j) : A2 w Oa O' Ba Ma Bb Mb N T sa s' w' :=
  ⟨⟨H.a.fw.far ho H.dis, (H.b.turn hp ho hO).env, (H.b.turn hp ho hO).bel, H.a.new⟩, H.b.turn hp ho hO, fun j ha hb => (hO j hb).elim (H.dis j ha) (fun h => by have := H.a.fw.lt_ j ha; omega)⟩
end
theorem swap_same (s : St) (rl : List R) : (swapS s rl).fs = s.fs ∧ (swapS s rl).c = s.c := by unfold swapS; split <;> exact ⟨rfl, rfl⟩
theorem del_fs {s s' : St} (h : s'.fs = s.fs) (hc : s'.c = s.c) {k : Ke} (hd : delB s k = false) : delB s' k = false := by unfold delB at hd ⊢; rw [h, hc]; exact hd
theorem delS_no {s : St} {k : Ke} (h : delB s k = false) : delS s k = s := by unfold delS; rw [h]; rfl
theorem del_after {s : St} (k : Ke) (hs : Oks s.fs) : delB (delS s k) k = false := by
  rcases find_del k hs with h | ⟨h, hb⟩
  · unfold delB; rw [h]
  · rw [h]; exact hb
theorem act_known {N : Int} {T : Nat → Int} {s : St} {p : K} {f : Fl} (hd : delB s (keyP p) = false) (hf : find (keyP p) s.fs = some f) : actV N s p = folV f p ∧ (actS N T s p).fs = put (folF T s.c f p) s.fs := by
  unfold actV actS
  rw [delS_no hd, hf]
  exact ⟨rfl, rfl⟩
theorem find_put {fs : List Fl} (h : Oks fs) {k : Ke} {f g : Fl} (hf : find k fs = some f) (hg : g.Ok) (hk : g.k = k) : find k (put g fs) = some g := by
  obtain ⟨hm, hfk⟩ := find_some hf
  have := (h.put hg).find_of (f := g) (by unfold put; exact List.mem_map.2 ⟨f, hm, by rw [if_pos (by rw [hfk, hk])]⟩)
  rwa [hk] at this
/-- Both go on alike. -/
theorem both_known {N : Int} {T : Nat → Int} {s s' : St} (H : Inv N s) {p : K} (hp : p.Ok) (h : s'.fs = s.fs) (hc : s'.c = s.c) (hd : delB s (keyP p) = false) {f : Fl} (hf : find (keyP p) s.fs = some f) :
    actV N s' p = actV N s p ∧ ∃ g, find (keyP p) (actS N T s p).fs = some g ∧ find (keyP p) (actS N T s' p).fs = some g := by
  obtain ⟨h1, h2⟩ := act_known (N := N) (T := T) hd hf
  obtain ⟨h3, h4⟩ := act_known (N := N) (T := T) (del_fs h hc hd) (by rw [h]; exact hf)
  obtain ⟨hm, hk⟩ := find_some hf
  have h5 := folF_ok (T := T) (c := s.c) (H.oks.ok f hm) hp
  refine ⟨by rw [h1, h3], folF T s.c f p, ?_, ?_⟩
  · rw [h2]; exact find_put H.oks hf h5.1 (h5.2.trans hk)
  · rw [h4, h, hc]; exact find_put H.oks hf h5.1 (h5.2.trans hk)
theorem lk_some {s : St} {k : Ke} {f : Fl} (h : find k s.fs = some f) : lookV s k = .tuple #[.agg (Fl.gtc f.s f.n f.c), .bool true] := by unfold lookV; rw [h]
theorem lk_none {s : St} {k : Ke} (h : find k s.fs = none) : lookV s k = .tuple #[.agg (Fl.gtc 0 0 0), .bool false] := by unfold lookV; rw [h]
/-- A law's blocks: the config, a packet, a key. -/
structure C3 (z N : Int) (T : Nat → Int) (p : K) (k : Ke) (gc gp gk : Nat) (Oa Ob : Nat → Prop) (W : World) : Prop where
  cw : CW z N T p k gc gp gk W
  a : ¬ Oa gc ∧ ¬ Oa gp ∧ ¬ Oa gk
  b : ¬ Ob gc ∧ ¬ Ob gp ∧ ¬ Ob gk
section
variable {z N : Int} {T : Nat → Int} {p : K} {k : Ke} {gc gp gk : Nat} {Oa Ob O' : Nat → Prop} {W W' : World}
theorem C3.next (H : C3 z N T p k gc gp gk Oa Ob W) (hb : Below W.heap.size W W') : C3 z N T p k gc gp gk Oa Ob W' := ⟨H.cw.next hb, H.a, H.b⟩
theorem C3.left (H : C3 z N T p k gc gp gk Oa Ob W) (ho : Only Oa W W') : C3 z N T p k gc gp gk Oa Ob W' := ⟨H.cw.only ho H.a.1 H.a.2.1 H.a.2.2, H.a, H.b⟩
theorem C3.right (H : C3 z N T p k gc gp gk Oa Ob W) (ho : Only Ob W W') (hO : ∀ j, O' j → Ob j ∨ W.heap.size ≤ j) : C3 z N T p k gc gp gk Oa O' W' :=
  ⟨H.cw.only ho H.b.1 H.b.2.1 H.b.2.2, H.a, fun h => (hO _ h).elim H.b.1 (fun e => by have := H.cw.c.lt; omega), fun h => (hO _ h).elim H.b.2.1 (fun e => by have := H.cw.p.lt; omega), fun h => (hO _ h).elim H.b.2.2 (fun e => by have := H.cw.k.lt; omega)⟩
end
set_option maxHeartbeats 40000000 in
theorem autoStays_walk (z N : Int) (T : Nat → Int) (A : Option Addr) (m c : Nat) (rs : List R) (A' : Option Addr) (m' c' : Nat) (rs' : List R) (Aa : Option Addr) (len cap : Nat) (xs : List Dk) (y0 y1 y2 y3 y4 y5 y6 : Int) (W : World) (he : Env W) (hcfg : (-9223372036854775808 ≤ z ∧ z ≤ 9223372036854775807) ∧ (-9223372036854775808 ≤ N ∧ N ≤ 9223372036854775807) ∧ ∀ i, -9223372036854775808 ≤ T i ∧ T i ≤ 9223372036854775807) (hr : Rds W W.heap.size (.slice A m c) rs ∧ ∀ r ∈ rs, r.Ok) (hr' : Rds W W.heap.size (.slice A' m' c') rs' ∧ ∀ r ∈ rs', r.Ok) (hx : xs.length = len ∧ Das W W.heap.size (.slice Aa len cap) xs ∧ ∀ x ∈ xs, x.Ok)
    (hy : (0 ≤ y0 ∧ y0 ≤ 255) ∧ (0 ≤ y1 ∧ y1 ≤ 4294967295) ∧ (0 ≤ y2 ∧ y2 ≤ 4294967295) ∧ (0 ≤ y3 ∧ y3 ≤ 65535) ∧ (0 ≤ y4 ∧ y4 ≤ 65535) ∧ (0 ≤ y5 ∧ y5 ≤ 255) ∧ (0 ≤ y6 ∧ y6 ≤ 255)) :
    Calls Tryz.prog 5 #[.agg (cfc z N T), .slice A m c, .slice A' m' c', .slice Aa len cap, .agg #[.int .u8 y0, .int .u32 y1, .int .u32 y2, .int .u16 y3, .int .u16 y4, .int .u8 y5, .int .u8 y6]] W fun e w' => e = .returned (.bool true) ∧ Below W.heap.size W w' := by
  obtain ⟨p, hpo, rfl, rfl, rfl, rfl, rfl, rfl, rfl⟩ := MatM.k_of hy
  obtain ⟨hz, -, htm⟩ := hcfg
  obtain ⟨hrd, hro⟩ := hr
  obtain ⟨hrd', hro'⟩ := hr'
  obtain ⟨hl, hd, hxo⟩ := hx
  have hm : rs.length = m := by obtain ⟨A', c', e, _⟩ := hrd; injection e with _ e2 _; exact e2.symm
  have hm' : rs'.length = m' := by obtain ⟨A', c', e, _⟩ := hrd'; injection e with _ e2 _; exact e2.symm
  obtain ⟨w0, hw0⟩ : ∃ v, (W.alloc (.cells (cfc z N T) 24)).alloc (.cells (Ma.pK p) 41) = v := ⟨_, rfl⟩
  have hb0 : Below W.heap.size W w0 := by rw [← hw0]; exact below_then (below_box _ _) (below_box _ _)
  have HB0 := Lib.hid hb0
  have HXC : Hid (Blk w0 W.heap.size (cfc z N T) 24) := by show Blk _ _ _ _; rw [← hw0]; exact (Blk.box W _ _).alloc _
  have HXP : Hid (Blk w0 (W.heap.size + 1) (Ma.pK p) 41) := by show Blk _ _ _ _; rw [← hw0]; exact Blk.box1 W _ _ _
  have HZ0 : Hid (w0.heap.size = W.heap.size + 2) := by show _ = _; rw [← hw0, World.size_alloc, World.size_alloc]
  have HPO := Lib.hid hpo
  have HRD' := Lib.hid hrd'
  have HRO' := Lib.hid hro'
  have HM' := Lib.hid hm'
  have HEE := Lib.hid (he.below hb0)
  have hq1 : Hid (Below w0.heap.size w0 w0.drew) := (Below.refl _ _).drew
  have HW0 := Lib.hid hw0
  clear hy hpo hrd' hro' hm' hw0
  by_cases h0 : chkE z N (few rs) = 0
  · have HSO : Hid (∀ X, Below w0.heap.size w0 X → Calls Tryz.prog 17 #[.agg (cfc z N T), .slice A m c, .slice Aa len cap] X fun e w' => ∃ O B M, e = .returned (ptr B) ∧ Am X O B M N T (runS N T (newS (few rs)) (xs.take 60)) w') := fun X hX =>
      some_yes X z N T A m c rs Aa len cap xs ((he.below hb0).below hX) hz htm hm ((hrd.below hb0).below hX) hro hl (Das.more ((Das.more (hd.below hb0) hb0.size).below hX) hX.size) hxo h0
    generalize runS N T (newS (few rs)) (xs.take 60) = s0 at HSO
    clear hrd hro hl hd hxo hz htm h0 he hb0 hm
    go_enter Tryz.func5, Tryz.ntmps5
    go_wp2_with fail
    rw [HW0.out]
    refine wp_region_held_drew (S := fun w' => Blk w' W.heap.size (cfc z N T) 24 ∧ Below w0.heap.size w0 w') (by kernel_rfl) (⟨HXC.out.drew, hq1.out⟩) (fun hH => ?_)
    refine wpAnyH_take (i := 0) (oi := ⟨some 23, _, _, _, _, _⟩) (v := ?v301) rfl (by kernel_rfl) (by kernel_rfl) (by kernel_rfl) (fun _ _ _ h => h) (Or.inl ⟨rfl, ?c301⟩) hH ?r301
    case c301 => (intro w' hS; refine take_cfg hS.1 (.tmp 5) ?_ ?_ <;> rfl)
    try simp only [Act.put, List.setIfInBounds_toArray, List.set_cons_zero, List.set_cons_succ]
    refine wpAnyH_take (i := 1) (oi := ⟨some 24, _, _, _, _, _⟩) (v := ?v302) rfl (by kernel_rfl) (by kernel_rfl) (by kernel_rfl) (fun _ _ _ h => h) (Or.inl ⟨rfl, ?c302⟩) hH ?r302
    case c302 => (intro w' _; go_simp; (try with_reducible rfl))
    try simp only [Act.put, List.setIfInBounds_toArray, List.set_cons_zero, List.set_cons_succ]
    refine wpAnyH_take (i := 2) (oi := ⟨some 25, _, _, _, _, _⟩) (v := ?v303) rfl (by kernel_rfl) (by kernel_rfl) (by kernel_rfl) (fun _ _ _ h => h) (Or.inl ⟨rfl, ?c303⟩) hH ?r303
    case c303 => (intro w' _; go_simp; (try with_reducible rfl))
    try simp only [Act.put, List.setIfInBounds_toArray, List.set_cons_zero, List.set_cons_succ]
    refine wpAnyH_take (i := 4) (oi := ⟨some 27, _, _, _, _, _⟩) (v := ?v304) rfl (by kernel_rfl) (by kernel_rfl) (by kernel_rfl) (fun _ _ _ h => h) (Or.inl ⟨rfl, ?c304⟩) hH ?r304
    case c304 => (intro w' hS; refine take_cfg hS.1 (.tmp 5) ?_ ?_ <;> rfl)
    try simp only [Act.put, List.setIfInBounds_toArray, List.set_cons_zero, List.set_cons_succ]
    refine wpAnyH_take (i := 5) (oi := ⟨some 28, _, _, _, _, _⟩) (v := ?v305) rfl (by kernel_rfl) (by kernel_rfl) (by kernel_rfl) (fun _ _ _ h => h) (Or.inl ⟨rfl, ?c305⟩) hH ?r305
    case c305 => (intro w' _; go_simp; (try with_reducible rfl))
    try simp only [Act.put, List.setIfInBounds_toArray, List.set_cons_zero, List.set_cons_succ]
    refine wpAnyH_take (i := 6) (oi := ⟨some 29, _, _, _, _, _⟩) (v := ?v306) rfl (by kernel_rfl) (by kernel_rfl) (by kernel_rfl) (fun _ _ _ h => h) (Or.inl ⟨rfl, ?c306⟩) hH ?r306
    case c306 => (intro w' _; go_simp; (try with_reducible rfl))
    try simp only [Act.put, List.setIfInBounds_toArray, List.set_cons_zero, List.set_cons_succ]
    refine wpAnyH_ready (rs := [3]) (by kernel_rfl) (by simp) (AllReadyH.cons rfl (fun K hK => ?_) (AllReadyH.nil))
    go_simp
    go_at_call 17
    refine (HSO.out _ hH.2).mono ?_
    rintro e w1 ⟨Oa, Ba, Ma, rfl, ha⟩
    have HA1 : Hid (Am w0 Oa Ba Ma N T s0 w1) := ha.under hH.2
    refine hK.out _ _ (⟨hH.1.next ha.bel, hH.2.trans (ha.bel.mono hH.2.size)⟩) (fun hH => ?_)
    clear hK K
    clear ha
    try simp only [Act.put, List.setIfInBounds_toArray, List.set_cons_zero, List.set_cons_succ]
    refine wpAnyH_ready (rs := [7]) (by kernel_rfl) (by simp) (AllReadyH.cons rfl (fun K hK => ?_) (AllReadyH.nil))
    go_simp
    go_at_call 17
    refine (HSO.out _ hH.2).mono ?_
    rintro e w2 ⟨Ob, Bb, Mb, rfl, hb⟩
    have HA2 : Hid (A2 w0 Oa Ob Ba Ma Bb Mb N T s0 s0 w2) := ⟨HA1.out.next hb.bel, hb.under hH.2, fun j ha he => by have := HA1.out.fw.lt_ j ha; have := hb.new j he; omega⟩
    refine hK.out _ _ (⟨hH.1.next hb.bel, hH.2.trans (hb.bel.mono hH.2.size)⟩) (fun hH => ?_)
    clear hK K
    clear hb HA1
    try simp only [Act.put, List.setIfInBounds_toArray, List.set_cons_zero, List.set_cons_succ]
    refine wpAnyH_take (i := 8) (oi := ⟨some 11, _, _, _, _, _⟩) (v := ?v307) rfl (by kernel_rfl) (by kernel_rfl) (by kernel_rfl) (fun _ _ _ h => h) (Or.inl ⟨rfl, ?c307⟩) hH ?r307
    case c307 => (intro w' _; go_simp; (try with_reducible rfl))
    try simp only [Act.put, List.setIfInBounds_toArray, List.set_cons_zero, List.set_cons_succ]
    refine wpAnyH_take (i := 9) (oi := ⟨some 12, _, _, _, _, _⟩) (v := ?v308) rfl (by kernel_rfl) (by kernel_rfl) (by kernel_rfl) (fun _ _ _ h => h) (Or.inl ⟨rfl, ?c308⟩) hH ?r308
    case c308 => (intro w' _; go_simp; (try with_reducible rfl))
    try simp only [Act.put, List.setIfInBounds_toArray, List.set_cons_zero, List.set_cons_succ]
    refine wpAnyH_done (by kernel_rfl) ?_ _
    have HXC2 := Lib.hid hH.1
    have HXP2 := Lib.hid (HXP.out.below hH.2 (by rw [HZ0.out]; omega))
    have HG0 : Hid ((¬ Oa W.heap.size ∧ ¬ Oa (W.heap.size + 1)) ∧ ¬ Ob W.heap.size ∧ ¬ Ob (W.heap.size + 1)) := ⟨⟨fun h => by have := HA2.out.a.new _ h; have := HZ0.out; omega, fun h => by have := HA2.out.a.new _ h; have := HZ0.out; omega⟩, fun h => by have := HA2.out.b.new _ h; have := HZ0.out; omega, fun h => by have := HA2.out.b.new _ h; have := HZ0.out; omega⟩
    clear hH HXC HXP HSO
    obtain ⟨f0, f1, f2, f3, f4, f5, f6⟩ := pk7 HXP2.out
    go_wp2_with fail
    clear f0 f1 f2 f3 f4 f5 f6
    go_at_call 18
    refine (of_key p HPO.out _).mono ?_
    rintro e w3 ⟨rfl, hb⟩
    have HA3 := Lib.hid (HA2.out.next hb)
    have HXC3 := Lib.hid (HXC2.out.next hb)
    have HXP3 := Lib.hid (HXP2.out.next hb)
    obtain ⟨k, hk⟩ : ∃ k, keyP p = k := ⟨_, rfl⟩
    have HK := Lib.hid hk
    rw [hk]
    clear hb HA2 HXC2 HXP2 hk
    go_wp2_with fail
    obtain ⟨gk, hgk⟩ : ∃ g, w3.heap.size = g := ⟨_, rfl⟩
    obtain ⟨w4, hw4⟩ : ∃ v, w3.alloc (.cells (Ky.kyc k.a k.b k.p k.q k.r) 45) = v := ⟨_, rfl⟩
    have HC4 : Hid (C3 z N T p k W.heap.size (W.heap.size + 1) gk Oa Ob w4) := by
      show C3 _ _ _ _ _ _ _ _ _ _ _
      rw [← hw4, ← hgk]
      exact ⟨⟨HXC3.out.alloc _, HXP3.out.alloc _, Blk.box _ _ _⟩, ⟨HG0.out.1.1, HG0.out.1.2, fun h => Nat.lt_irrefl _ (HA3.out.a.fw.lt_ _ h)⟩, ⟨HG0.out.2.1, HG0.out.2.2, fun h => Nat.lt_irrefl _ (HA3.out.b.fw.lt_ _ h)⟩⟩
    have H4 : Hid (A2 w0 Oa Ob Ba Ma Bb Mb N T s0 s0 w4) := Lib.hid (by rw [← hw4]; exact HA3.out.next (below_box _ _))
    rw [hw4, hgk]
    clear hw4 hgk HA3 HXC3 HXP3 HG0
    obtain ⟨x0, x1, x2, x3, x4⟩ := Ky.ky_cells HC4.out.cw.k
    go_wp2_with fail
    clear x0 x1 x2 x3 x4
    go_at_call 19
    refine (delete_p H4.out.a.fw H4.out.a.env k).mono ?_
    rintro e w5 ⟨rfl, hp, ho⟩
    have HI0 := Lib.hid H4.out.a.fw.2.1
    have H5 := Lib.hid (H4.out.left hp ho)
    have HC5 := Lib.hid (HC4.out.left ho)
    clear hp ho H4 HC4
    obtain ⟨x0, x1, x2, x3, x4⟩ := Ky.ky_cells HC5.out.cw.k
    go_wp2_with fail
    clear x0 x1 x2 x3 x4
    go_at_call 19
    refine (delete_p H5.out.b.fw H5.out.b.env k).mono ?_
    rintro e w6 ⟨rfl, hp, ho⟩
    have H6 := Lib.hid (H5.out.right hp ho fun _ h => .inl h)
    have HC6 := Lib.hid (HC5.out.right ho fun _ h => .inl h)
    have HD := Lib.hid (del_after k HI0.out.oks)
    obtain ⟨s1, hs1⟩ : ∃ s, delS s0 k = s := ⟨_, rfl⟩
    rw [hs1] at H6 HD
    have HI1 := Lib.hid H6.out.a.fw.2.1
    clear hp ho H5 HC5 hs1 HI0
    obtain ⟨x0, x1, x2, x3, x4⟩ := Ky.ky_cells HC6.out.cw.k
    go_wp2_with fail
    clear x0 x1 x2 x3 x4
    go_at_call 15
    refine (look_p H6.out.a.fw H6.out.a.env k).mono ?_
    obtain ⟨l0, l1, l2, is, HLV⟩ : ∃ (a b c : Int) (d : Bool), Hid (lookV s1 k = .tuple #[.agg (Fl.gtc a b c), .bool d]) ∧ Hid (d = (find k s1.fs).isSome) := by
      cases hf : find k s1.fs with
      | some f => exact ⟨f.s, f.n, f.c, true, lk_some hf, rfl⟩
      | none => exact ⟨0, 0, 0, false, lk_none hf, rfl⟩
    obtain ⟨HLV, HIS⟩ := HLV
    rw [HLV.out]
    rintro e w7 ⟨rfl, hb⟩
    have H7 := Lib.hid ((H6.out.next hb).next (below_box w7 (.cells (Fl.gtc l0 l1 l2) 50)))
    have HC7 := Lib.hid ((HC6.out.next hb).next (below_box w7 (.cells (Fl.gtc l0 l1 l2) 50)))
    clear hb H6 HC6 HLV
    go_wp2_with fail
    obtain ⟨w8, hw8⟩ : ∃ v, w7.alloc (.cells (Fl.gtc l0 l1 l2) 50) = v := ⟨_, rfl⟩
    rw [hw8] at H7 HC7
    rw [hw8]
    clear hw8
    have HR8 : Hid (Rds w8 w8.heap.size (.slice A' m' c') rs') := (HRD'.out.below HB0.out).below H7.out.a.bel
    go_at_call 9
    refine (few_any A' m' c' rs' _ HM'.out HR8.out).mono ?_
    rintro e w9 ⟨rfl, rfl⟩
    go_wp2_with fail
    have HNO : Hid (0 < (few rs').length → ∀ a n c, Value.slice A' (few rs').length c' = .slice (some a) n c → ¬ Ob a.block) := fun hp a n cc e ho => by
      have h1 := H7.out.b.new _ ho
      injection e with e _ _
      have h2 := HRD'.out.lt_of (by have := (few_len rs').2; omega) a m' c' (by rw [e])
      have := HB0.out.size
      omega
    go_at_call 23
    refine (swap_p H7.out.b.fw H7.out.b.env A' (few rs').length c' (few rs') rfl (few_rds HR8.out) (few_ok HRO'.out) (by have := (few_len rs').1; omega) HNO.out).mono ?_
    rintro e w10 ⟨Oc, rfl, hp, ho, hO⟩
    have H10 := Lib.hid (H7.out.right hp ho hO)
    have HC10 := Lib.hid (HC7.out.right ho hO)
    obtain ⟨s2, hs2⟩ : ∃ s, swapS s1 (few rs') = s := ⟨_, rfl⟩
    have HSS := Lib.hid (swap_same s1 (few rs'))
    rw [hs2] at H10 HSS
    clear hp ho hO H7 HC7 hs2 HR8 HNO
    go_wp2_with fail
    have H11 := Lib.hid (H10.out.next (Below.refl _ _).drew)
    have HC11 := Lib.hid (HC10.out.next (Below.refl _ _).drew)
    clear H10 HC10
    cases is with
    | true =>
      as_aux_lemma =>
        obtain ⟨f, hf⟩ : ∃ f, find k s1.fs = some f := Option.isSome_iff_exists.1 HIS.out.symm
        obtain ⟨hvv, g, hga, hgb⟩ := both_known (T := T) HI1.out HPO.out HSS.out.1 HSS.out.2 (by rw [HK.out]; exact HD.out) (by rw [HK.out]; exact hf)
        rw [HK.out] at hga hgb
        obtain ⟨va, hva⟩ : ∃ v, actV N s1 p = v := ⟨_, rfl⟩
        have HVA : Hid (actV N s1 p = va) := hva
        have HVB : Hid (actV N s2 p = va) := by show _ = _; rw [hvv, hva]
        have hla := lk_some hga
        have hlb := lk_some hgb
        obtain ⟨l0', l1', l2', hl3⟩ : ∃ a b c, g.s = a ∧ g.n = b ∧ g.c = c := ⟨_, _, _, rfl, rfl, rfl⟩
        rw [hl3.1, hl3.2.1, hl3.2.2] at hla hlb
        obtain ⟨sa3, hsa⟩ : ∃ s, actS N T s1 p = s := ⟨_, rfl⟩
        obtain ⟨sb3, hsb⟩ : ∃ s, actS N T s2 p = s := ⟨_, rfl⟩
        rw [hsa] at hla
        rw [hsb] at hlb
        have HLA := Lib.hid hla
        have HLB := Lib.hid hlb
        clear hf hvv hga hgb hva hla hlb hl3
        have HSA := Lib.hid hsa
        have HSB := Lib.hid hsb
        clear hsa hsb
        refine wp_region_held_drew (S := fun w' => C3 z N T p k W.heap.size (W.heap.size + 1) gk Oa Oc w') (by kernel_rfl) (HC11.out) (fun hH => ?_)
        refine wpAnyH_take (i := 0) (oi := ⟨some 59, _, _, _, _, _⟩) (v := ?v401) rfl (by kernel_rfl) (by kernel_rfl) (by kernel_rfl) (fun _ _ _ h => h) (Or.inl ⟨rfl, ?c401⟩) hH ?r401
        case c401 => (intro w' _; go_simp; (try with_reducible rfl))
        try simp only [Act.put, List.setIfInBounds_toArray, List.set_cons_zero, List.set_cons_succ]
        refine wpAnyH_take (i := 1) (oi := ⟨some 60, _, _, _, _, _⟩) (v := ?v402) rfl (by kernel_rfl) (by kernel_rfl) (by kernel_rfl) (fun _ _ _ h => h) (Or.inl ⟨rfl, ?c402⟩) hH ?r402
        case c402 => (intro w' hS; obtain ⟨f0, f1, f2, f3, f4, f5, f6⟩ := pk7 hS.cw.p; go_simp; (try with_reducible rfl))
        try simp only [Act.put, List.setIfInBounds_toArray, List.set_cons_zero, List.set_cons_succ]
        refine wpAnyH_take (i := 3) (oi := ⟨some 62, _, _, _, _, _⟩) (v := ?v403) rfl (by kernel_rfl) (by kernel_rfl) (by kernel_rfl) (fun _ _ _ h => h) (Or.inl ⟨rfl, ?c403⟩) hH ?r403
        case c403 => (intro w' _; go_simp; (try with_reducible rfl))
        try simp only [Act.put, List.setIfInBounds_toArray, List.set_cons_zero, List.set_cons_succ]
        refine wpAnyH_take (i := 4) (oi := ⟨some 63, _, _, _, _, _⟩) (v := ?v404) rfl (by kernel_rfl) (by kernel_rfl) (by kernel_rfl) (fun _ _ _ h => h) (Or.inl ⟨rfl, ?c404⟩) hH ?r404
        case c404 => (intro w' hS; obtain ⟨f0, f1, f2, f3, f4, f5, f6⟩ := pk7 hS.cw.p; go_simp; (try with_reducible rfl))
        try simp only [Act.put, List.setIfInBounds_toArray, List.set_cons_zero, List.set_cons_succ]
        refine wpAnyH_ready (rs := [2]) (by kernel_rfl) (by simp) (AllReadyH.cons rfl (fun K hK => ?_) (AllReadyH.nil))
        go_simp
        go_at_call 21
        refine (act_p H11.out.a.fw H11.out.a.env p HPO.out).mono ?_
        rw [HVA.out]
        rintro e w12 ⟨rfl, hp, ho⟩
        rw [HSA.out] at hp
        have H12 := Lib.hid (H11.out.left hp ho)
        refine hK.out _ _ (hH.left ho) (fun hH => ?_)
        clear hK K
        clear hp ho H11
        try simp only [Act.put, List.setIfInBounds_toArray, List.set_cons_zero, List.set_cons_succ]
        refine wpAnyH_ready (rs := [5]) (by kernel_rfl) (by simp) (AllReadyH.cons rfl (fun K hK => ?_) (AllReadyH.nil))
        go_simp
        go_at_call 21
        refine (act_p H12.out.b.fw H12.out.b.env p HPO.out).mono ?_
        rw [HVB.out]
        rintro e w12b ⟨rfl, hp, ho⟩
        rw [HSB.out] at hp
        have H12b := Lib.hid (H12.out.right hp ho fun _ h => .inl h)
        refine hK.out _ _ (hH.right ho fun _ h => .inl h) (fun hH => ?_)
        clear hK K
        clear hp ho H12
        have H12 := H12b
        clear H12b
        try simp only [Act.put, List.setIfInBounds_toArray, List.set_cons_zero, List.set_cons_succ]
        refine wpAnyH_take (i := 6) (oi := ⟨some 17, _, _, _, _, _⟩) (v := ?v405) rfl (by kernel_rfl) (by kernel_rfl) (by kernel_rfl) (fun _ _ _ h => h) (Or.inl ⟨rfl, ?c405⟩) hH ?r405
        case c405 => (intro w' _; go_simp; (try with_reducible rfl))
        try simp only [Act.put, List.setIfInBounds_toArray, List.set_cons_zero, List.set_cons_succ]
        refine wpAnyH_take (i := 7) (oi := ⟨some 18, _, _, _, _, _⟩) (v := ?v406) rfl (by kernel_rfl) (by kernel_rfl) (by kernel_rfl) (fun _ _ _ h => h) (Or.inl ⟨rfl, ?c406⟩) hH ?r406
        case c406 => (intro w' _; go_simp; (try with_reducible rfl))
        try simp only [Act.put, List.setIfInBounds_toArray, List.set_cons_zero, List.set_cons_succ]
        refine wpAnyH_done (by kernel_rfl) ?_ _
        have HC12 := Lib.hid hH
        clear hH
        obtain ⟨x0, x1, x2, x3, x4⟩ := Ky.ky_cells HC12.out.cw.k
        go_wp2_with fail
        clear x0 x1 x2 x3 x4
        go_at_call 15
        refine (look_p H12.out.a.fw H12.out.a.env k).mono ?_
        rw [HLA.out]
        rintro e w13 ⟨rfl, hb⟩
        have H13 := Lib.hid ((H12.out.next hb).next (below_box w13 (.cells (Fl.gtc l0' l1' l2') 50)))
        have HC13 := Lib.hid ((HC12.out.next hb).next (below_box w13 (.cells (Fl.gtc l0' l1' l2') 50)))
        have HF13 := Lib.hid (Blk.box w13 (Fl.gtc l0' l1' l2') 50)
        have hlt := (HC12.out.next hb).cw.k.lt
        obtain ⟨x0, x1, x2, x3, x4⟩ := Ky.ky_cells (HC12.out.next hb).cw.k
        clear hb H12 HC12
        go_wp2_with fail
        clear x0 x1 x2 x3 x4 hlt
        obtain ⟨gf, hgf⟩ : ∃ g, w13.heap.size = g := ⟨_, rfl⟩
        obtain ⟨w14, hw14⟩ : ∃ v, w13.alloc (.cells (Fl.gtc l0' l1' l2') 50) = v := ⟨_, rfl⟩
        rw [hw14] at H13 HC13 HF13
        rw [hgf] at HF13
        rw [hw14, hgf]
        clear hw14 hgf
        go_at_call 15
        refine (look_p H13.out.b.fw H13.out.b.env k).mono ?_
        rw [HLB.out]
        rintro e w15 ⟨rfl, hb⟩
        have H15 := Lib.hid (H13.out.next hb)
        have HF15 := Lib.hid (HF13.out.next hb)
        clear hb H13 HC13 HF13
        go_wp2_with fail
        have HF16 := Lib.hid (HF15.out.alloc (.cells (Fl.gtc l0' l1' l2') 50))
        have HG16 := Lib.hid (Blk.box w15 (Fl.gtc l0' l1' l2') 50)
        have H16 := Lib.hid (H15.out.next (below_box w15 (.cells (Fl.gtc l0' l1' l2') 50)))
        obtain ⟨gg, hgg⟩ : ∃ g, w15.heap.size = g := ⟨_, rfl⟩
        obtain ⟨w16, hw16⟩ : ∃ v, w15.alloc (.cells (Fl.gtc l0' l1' l2') 50) = v := ⟨_, rfl⟩
        rw [hw16] at HF16 HG16 H16
        rw [hgg] at HG16
        rw [hw16, hgg]
        clear hw16 hgg HF15 H15
        go_at_call 11
        refine (awake_any _ H16.out.a.env).mono ?_
        rintro e w17 ⟨rfl, hb⟩
        have HB17 := Lib.hid (below_then HB0.out (H16.out.next hb).a.bel)
        obtain ⟨q0, q1, q2⟩ := Fl.gt_cells (HF16.out.next hb)
        obtain ⟨r0, r1, r2⟩ := Fl.gt_cells (HG16.out.next hb)
        have d1 : (va == va) = true := by simp
        have hEQ := fl_same l0' l1' l2' w17
        clear hb H16 HF16 HG16
        go_wp2_with fail
        go_ret
        exact ⟨rfl, HB17.out⟩
    | false =>
      as_aux_lemma =>
        obtain ⟨va, hva⟩ : ∃ v, actV N s1 p = v := ⟨_, rfl⟩
        obtain ⟨vb, hvb⟩ : ∃ v, actV N s2 p = v := ⟨_, rfl⟩
        have HVA := Lib.hid hva
        have HVB := Lib.hid hvb
        obtain ⟨sa3, hsa⟩ : ∃ s, actS N T s1 p = s := ⟨_, rfl⟩
        obtain ⟨sb3, hsb⟩ : ∃ s, actS N T s2 p = s := ⟨_, rfl⟩
        have HSA := Lib.hid hsa
        have HSB := Lib.hid hsb
        clear hsa hsb
        clear hva hvb
        obtain ⟨n4, hn4⟩ : ∃ n, sb3.fs.length = n := ⟨_, rfl⟩
        have HLB := Lib.hid hn4
        have hn5 : (n4 : Int) ≤ N := by
          have h1 := (H11.out.b.fw.2.1.act (T := T) HPO.out)
          rw [HSB.out] at h1
          have h2 := h1.cnt
          have h3 := h1.cap
          omega
        have hn6 : N ≤ 4095 := HI1.out.cap1
        clear hn4
        refine wp_region_held_drew (S := fun w' => C3 z N T p k W.heap.size (W.heap.size + 1) gk Oa Oc w') (by kernel_rfl) (HC11.out) (fun hH => ?_)
        refine wpAnyH_take (i := 0) (oi := ⟨some 59, _, _, _, _, _⟩) (v := ?v501) rfl (by kernel_rfl) (by kernel_rfl) (by kernel_rfl) (fun _ _ _ h => h) (Or.inl ⟨rfl, ?c501⟩) hH ?r501
        case c501 => (intro w' _; go_simp; (try with_reducible rfl))
        try simp only [Act.put, List.setIfInBounds_toArray, List.set_cons_zero, List.set_cons_succ]
        refine wpAnyH_take (i := 1) (oi := ⟨some 60, _, _, _, _, _⟩) (v := ?v502) rfl (by kernel_rfl) (by kernel_rfl) (by kernel_rfl) (fun _ _ _ h => h) (Or.inl ⟨rfl, ?c502⟩) hH ?r502
        case c502 => (intro w' hS; obtain ⟨f0, f1, f2, f3, f4, f5, f6⟩ := pk7 hS.cw.p; go_simp; (try with_reducible rfl))
        try simp only [Act.put, List.setIfInBounds_toArray, List.set_cons_zero, List.set_cons_succ]
        refine wpAnyH_take (i := 3) (oi := ⟨some 62, _, _, _, _, _⟩) (v := ?v503) rfl (by kernel_rfl) (by kernel_rfl) (by kernel_rfl) (fun _ _ _ h => h) (Or.inl ⟨rfl, ?c503⟩) hH ?r503
        case c503 => (intro w' _; go_simp; (try with_reducible rfl))
        try simp only [Act.put, List.setIfInBounds_toArray, List.set_cons_zero, List.set_cons_succ]
        refine wpAnyH_take (i := 4) (oi := ⟨some 63, _, _, _, _, _⟩) (v := ?v504) rfl (by kernel_rfl) (by kernel_rfl) (by kernel_rfl) (fun _ _ _ h => h) (Or.inl ⟨rfl, ?c504⟩) hH ?r504
        case c504 => (intro w' hS; obtain ⟨f0, f1, f2, f3, f4, f5, f6⟩ := pk7 hS.cw.p; go_simp; (try with_reducible rfl))
        try simp only [Act.put, List.setIfInBounds_toArray, List.set_cons_zero, List.set_cons_succ]
        refine wpAnyH_ready (rs := [2]) (by kernel_rfl) (by simp) (AllReadyH.cons rfl (fun K hK => ?_) (AllReadyH.nil))
        go_simp
        go_at_call 21
        refine (act_p H11.out.a.fw H11.out.a.env p HPO.out).mono ?_
        rw [HVA.out]
        rintro e w12 ⟨rfl, hp, ho⟩
        rw [HSA.out] at hp
        have H12 := Lib.hid (H11.out.left hp ho)
        refine hK.out _ _ (hH.left ho) (fun hH => ?_)
        clear hK K
        clear hp ho H11
        try simp only [Act.put, List.setIfInBounds_toArray, List.set_cons_zero, List.set_cons_succ]
        refine wpAnyH_ready (rs := [5]) (by kernel_rfl) (by simp) (AllReadyH.cons rfl (fun K hK => ?_) (AllReadyH.nil))
        go_simp
        go_at_call 21
        refine (act_p H12.out.b.fw H12.out.b.env p HPO.out).mono ?_
        rw [HVB.out]
        rintro e w12b ⟨rfl, hp, ho⟩
        rw [HSB.out] at hp
        have H12b := Lib.hid (H12.out.right hp ho fun _ h => .inl h)
        refine hK.out _ _ (hH.right ho fun _ h => .inl h) (fun hH => ?_)
        clear hK K
        clear hp ho H12
        have H12 := H12b
        clear H12b
        try simp only [Act.put, List.setIfInBounds_toArray, List.set_cons_zero, List.set_cons_succ]
        refine wpAnyH_take (i := 6) (oi := ⟨some 17, _, _, _, _, _⟩) (v := ?v505) rfl (by kernel_rfl) (by kernel_rfl) (by kernel_rfl) (fun _ _ _ h => h) (Or.inl ⟨rfl, ?c505⟩) hH ?r505
        case c505 => (intro w' _; go_simp; (try with_reducible rfl))
        try simp only [Act.put, List.setIfInBounds_toArray, List.set_cons_zero, List.set_cons_succ]
        refine wpAnyH_take (i := 7) (oi := ⟨some 18, _, _, _, _, _⟩) (v := ?v506) rfl (by kernel_rfl) (by kernel_rfl) (by kernel_rfl) (fun _ _ _ h => h) (Or.inl ⟨rfl, ?c506⟩) hH ?r506
        case c506 => (intro w' _; go_simp; (try with_reducible rfl))
        try simp only [Act.put, List.setIfInBounds_toArray, List.set_cons_zero, List.set_cons_succ]
        refine wpAnyH_done (by kernel_rfl) ?_ _
        have HC12 := Lib.hid hH
        clear hH
        go_wp2_with fail
        by_cases hvv : va = vb
        · subst hvv
          have d1 : (va == va) = true := by simp
          refine wp_region_held_drew (S := fun w' => Blk w' W.heap.size (cfc z N T) 24 ∧ Hid (A2 w0 Oa Oc Ba Ma Bb Mb N T sa3 sb3 w')) (by kernel_rfl) (⟨HC12.out.cw.c.drew, Lib.hid (H12.out.next (Below.refl _ _).drew)⟩) (fun hH => ?_)
          refine wpAnyH_ready (rs := [0]) (by kernel_rfl) (by simp) (AllReadyH.cons rfl (fun K hK => ?_) (AllReadyH.nil))
          go_simp
          go_at_call 11
          refine (awake_any _ hH.2.out.a.env).mono ?_
          rintro e w13 ⟨rfl, hb⟩
          refine hK.out _ _ (⟨hH.1.next hb, Lib.hid (hH.2.out.next hb)⟩) (fun hH => ?_)
          clear hK K
          clear hb
          try simp only [Act.put, List.setIfInBounds_toArray, List.set_cons_zero, List.set_cons_succ]
          refine wpAnyH_take (i := 1) (oi := ⟨some 68, _, _, _, _, _⟩) (v := ?v101) rfl (by kernel_rfl) (by kernel_rfl) (by kernel_rfl) (fun _ _ _ h => h) (Or.inl ⟨rfl, ?c101⟩) hH ?r101
          case c101 => (intro w' _; go_simp; (try with_reducible rfl))
          try simp only [Act.put, List.setIfInBounds_toArray, List.set_cons_zero, List.set_cons_succ]
          refine wpAnyH_take (i := 2) (oi := ⟨some 69, _, _, _, _, _⟩) (v := ?v102) rfl (by kernel_rfl) (by kernel_rfl) (by kernel_rfl) (fun _ _ _ h => h) (Or.inl ⟨rfl, ?c102⟩) hH ?r102
          case c102 => (intro w' _; go_simp; (try with_reducible rfl))
          try simp only [Act.put, List.setIfInBounds_toArray, List.set_cons_zero, List.set_cons_succ]
          refine wpAnyH_take (i := 3) (oi := ⟨some 70, _, _, _, _, _⟩) (v := ?v103) rfl (by kernel_rfl) (by kernel_rfl) (by kernel_rfl) (fun _ _ _ h => h) (Or.inl ⟨rfl, ?c103⟩) hH ?r103
          case c103 => (intro w' _; go_simp; (try with_reducible rfl))
          try simp only [Act.put, List.setIfInBounds_toArray, List.set_cons_zero, List.set_cons_succ]
          refine wpAnyH_take (i := 4) (oi := ⟨some 71, _, _, _, _, _⟩) (v := ?v104) rfl (by kernel_rfl) (by kernel_rfl) (by kernel_rfl) (fun _ _ _ h => h) (Or.inl ⟨rfl, ?c104⟩) hH ?r104
          case c104 => (intro w' _; go_simp; (try with_reducible rfl))
          try simp only [Act.put, List.setIfInBounds_toArray, List.set_cons_zero, List.set_cons_succ]
          refine wpAnyH_take (i := 5) (oi := ⟨some 72, _, _, _, _, _⟩) (v := ?v105) rfl (by kernel_rfl) (by kernel_rfl) (by kernel_rfl) (fun _ _ _ h => h) (Or.inl ⟨rfl, ?c105⟩) hH ?r105
          case c105 => (intro w' _; go_simp; (try with_reducible rfl))
          try simp only [Act.put, List.setIfInBounds_toArray, List.set_cons_zero, List.set_cons_succ]
          refine wpAnyH_take (i := 6) (oi := ⟨some 73, _, _, _, _, _⟩) (v := undef) rfl (by kernel_rfl) (by kernel_rfl) (by kernel_rfl) (fun _ _ _ h => h) (Or.inr ⟨rfl, rfl⟩) hH ?_
          try simp only [Act.put, List.setIfInBounds_toArray, List.set_cons_zero, List.set_cons_succ]
          refine wpAnyH_take (i := 7) (oi := ⟨some 74, _, _, _, _, _⟩) (v := undef) rfl (by kernel_rfl) (by kernel_rfl) (by kernel_rfl) (fun _ _ _ h => h) (Or.inr ⟨rfl, rfl⟩) hH ?_
          try simp only [Act.put, List.setIfInBounds_toArray, List.set_cons_zero, List.set_cons_succ]
          refine wpAnyH_take (i := 8) (oi := ⟨some 75, _, _, _, _, _⟩) (v := undef) rfl (by kernel_rfl) (by kernel_rfl) (by kernel_rfl) (fun _ _ _ h => h) (Or.inr ⟨rfl, rfl⟩) hH ?_
          try simp only [Act.put, List.setIfInBounds_toArray, List.set_cons_zero, List.set_cons_succ]
          refine wpAnyH_take (i := 9) (oi := ⟨some 76, _, _, _, _, _⟩) (v := undef) rfl (by kernel_rfl) (by kernel_rfl) (by kernel_rfl) (fun _ _ _ h => h) (Or.inr ⟨rfl, rfl⟩) hH ?_
          try simp only [Act.put, List.setIfInBounds_toArray, List.set_cons_zero, List.set_cons_succ]
          refine wpAnyH_take (i := 10) (oi := ⟨some 77, _, _, _, _, _⟩) (v := undef) rfl (by kernel_rfl) (by kernel_rfl) (by kernel_rfl) (fun _ _ _ h => h) (Or.inr ⟨rfl, rfl⟩) hH ?_
          try simp only [Act.put, List.setIfInBounds_toArray, List.set_cons_zero, List.set_cons_succ]
          refine wpAnyH_take (i := 11) (oi := ⟨some 78, _, _, _, _, _⟩) (v := undef) rfl (by kernel_rfl) (by kernel_rfl) (by kernel_rfl) (fun _ _ _ h => h) (Or.inr ⟨rfl, rfl⟩) hH ?_
          try simp only [Act.put, List.setIfInBounds_toArray, List.set_cons_zero, List.set_cons_succ]
          refine wpAnyH_take (i := 12) (oi := ⟨some 79, _, _, _, _, _⟩) (v := ?v112) rfl (by kernel_rfl) (by kernel_rfl) (by kernel_rfl) (fun _ _ _ h => h) (Or.inl ⟨rfl, ?c112⟩) hH ?r112
          case c112 => (intro w' _; go_simp; (try with_reducible rfl))
          try simp only [Act.put, List.setIfInBounds_toArray, List.set_cons_zero, List.set_cons_succ]
          refine wpAnyH_take (i := 13) (oi := ⟨some 80, _, _, _, _, _⟩) (v := ?v113) rfl (by kernel_rfl) (by kernel_rfl) (by kernel_rfl) (fun _ _ _ h => h) (Or.inl ⟨rfl, ?c113⟩) hH ?r113
          case c113 => (intro w' _; go_simp; (try with_reducible rfl))
          try simp only [Act.put, List.setIfInBounds_toArray, List.set_cons_zero, List.set_cons_succ]
          refine wpAnyH_take (i := 14) (oi := ⟨some 10, _, _, _, _, _⟩) (v := ?v114) rfl (by kernel_rfl) (by kernel_rfl) (by kernel_rfl) (fun _ _ _ h => h) (Or.inl ⟨rfl, ?c114⟩) hH ?r114
          case c114 => (intro w' _; go_simp; (try with_reducible rfl))
          try simp only [Act.put, List.setIfInBounds_toArray, List.set_cons_zero, List.set_cons_succ]
          refine wpAnyH_done (by kernel_rfl) ?_ _
          have HBB := Lib.hid (below_then HB0.out hH.2.out.a.bel)
          clear hH
          go_wp2_with fail
          go_ret
          exact ⟨rfl, HBB.out⟩
        · have d1 : (va == vb) = false := by simpa using hvv
          refine wp_region_held_drew (S := fun w' => Blk w' W.heap.size (cfc z N T) 24 ∧ Hid (A2 w0 Oa Oc Ba Ma Bb Mb N T sa3 sb3 w')) (by kernel_rfl) (⟨HC12.out.cw.c.drew, Lib.hid (H12.out.next (Below.refl _ _).drew)⟩) (fun hH => ?_)
          refine wpAnyH_ready (rs := [0]) (by kernel_rfl) (by simp) (AllReadyH.cons rfl (fun K hK => ?_) (AllReadyH.nil))
          go_simp
          go_at_call 11
          refine (awake_any _ hH.2.out.a.env).mono ?_
          rintro e w13 ⟨rfl, hb⟩
          refine hK.out _ _ (⟨hH.1.next hb, Lib.hid (hH.2.out.next hb)⟩) (fun hH => ?_)
          clear hK K
          clear hb
          try simp only [Act.put, List.setIfInBounds_toArray, List.set_cons_zero, List.set_cons_succ]
          refine wpAnyH_take (i := 1) (oi := ⟨some 68, _, _, _, _, _⟩) (v := ?v201) rfl (by kernel_rfl) (by kernel_rfl) (by kernel_rfl) (fun _ _ _ h => h) (Or.inl ⟨rfl, ?c201⟩) hH ?r201
          case c201 => (intro w' _; go_simp; (try with_reducible rfl))
          try simp only [Act.put, List.setIfInBounds_toArray, List.set_cons_zero, List.set_cons_succ]
          refine wpAnyH_take (i := 2) (oi := ⟨some 69, _, _, _, _, _⟩) (v := ?v202) rfl (by kernel_rfl) (by kernel_rfl) (by kernel_rfl) (fun _ _ _ h => h) (Or.inl ⟨rfl, ?c202⟩) hH ?r202
          case c202 => (intro w' _; go_simp; (try with_reducible rfl))
          try simp only [Act.put, List.setIfInBounds_toArray, List.set_cons_zero, List.set_cons_succ]
          refine wpAnyH_take (i := 3) (oi := ⟨some 70, _, _, _, _, _⟩) (v := ?v203) rfl (by kernel_rfl) (by kernel_rfl) (by kernel_rfl) (fun _ _ _ h => h) (Or.inl ⟨rfl, ?c203⟩) hH ?r203
          case c203 => (intro w' _; go_simp; (try with_reducible rfl))
          try simp only [Act.put, List.setIfInBounds_toArray, List.set_cons_zero, List.set_cons_succ]
          refine wpAnyH_take (i := 4) (oi := ⟨some 71, _, _, _, _, _⟩) (v := ?v204) rfl (by kernel_rfl) (by kernel_rfl) (by kernel_rfl) (fun _ _ _ h => h) (Or.inl ⟨rfl, ?c204⟩) hH ?r204
          case c204 => (intro w' _; go_simp; (try with_reducible rfl))
          try simp only [Act.put, List.setIfInBounds_toArray, List.set_cons_zero, List.set_cons_succ]
          refine wpAnyH_take (i := 5) (oi := ⟨some 72, _, _, _, _, _⟩) (v := ?v205) rfl (by kernel_rfl) (by kernel_rfl) (by kernel_rfl) (fun _ _ _ h => h) (Or.inl ⟨rfl, ?c205⟩) hH ?r205
          case c205 => (intro w' _; go_simp; (try with_reducible rfl))
          try simp only [Act.put, List.setIfInBounds_toArray, List.set_cons_zero, List.set_cons_succ]
          refine wpAnyH_take (i := 6) (oi := ⟨some 73, _, _, _, _, _⟩) (v := ?v206) rfl (by kernel_rfl) (by kernel_rfl) (by kernel_rfl) (fun _ _ _ h => h) (Or.inl ⟨rfl, ?c206⟩) hH ?r206
          case c206 => (intro w' _; go_simp; (try with_reducible rfl))
          try simp only [Act.put, List.setIfInBounds_toArray, List.set_cons_zero, List.set_cons_succ]
          refine wpAnyH_take (i := 9) (oi := ⟨some 76, _, _, _, _, _⟩) (v := ?v207) rfl (by kernel_rfl) (by kernel_rfl) (by kernel_rfl) (fun _ _ _ h => h) (Or.inl ⟨rfl, ?c207⟩) hH ?r207
          case c207 => (intro w' _; go_simp; (try with_reducible rfl))
          try simp only [Act.put, List.setIfInBounds_toArray, List.set_cons_zero, List.set_cons_succ]
          refine wpAnyH_take (i := 10) (oi := ⟨some 77, _, _, _, _, _⟩) (v := ?v208) rfl (by kernel_rfl) (by kernel_rfl) (by kernel_rfl) (fun _ _ _ h => h) (Or.inl ⟨rfl, ?c208⟩) hH ?r208
          case c208 => (intro w' hS; have c1 := hS.1.cell 1 _ rfl; go_simp; (try with_reducible rfl))
          try simp only [Act.put, List.setIfInBounds_toArray, List.set_cons_zero, List.set_cons_succ]
          refine wpAnyH_ready (rs := [7]) (by kernel_rfl) (by simp) (AllReadyH.cons rfl (fun K hK => ?_) (AllReadyH.nil))
          go_simp
          go_at_call 20
          refine (keys_any hH.2.out.b.fw).mono ?_
          rw [HLB.out]
          rintro e w14 ⟨p14, c14, rfl, -, hb⟩
          refine hK.out _ _ (⟨hH.1.next hb, Lib.hid (hH.2.out.next hb)⟩) (fun hH => ?_)
          clear hK K
          clear hb
          try simp only [Act.put, List.setIfInBounds_toArray, List.set_cons_zero, List.set_cons_succ]
          refine wpAnyH_take (i := 8) (oi := ⟨some 75, _, _, _, _, _⟩) (v := ?v209) rfl (by kernel_rfl) (by kernel_rfl) (by kernel_rfl) (fun _ _ _ h => h) (Or.inl ⟨rfl, ?c209⟩) hH ?r209
          case c209 => (intro w' _; go_simp; (try with_reducible rfl))
          try simp only [Act.put, List.setIfInBounds_toArray, List.set_cons_zero, List.set_cons_succ]
          refine wpAnyH_take (i := 11) (oi := ⟨some 78, _, _, _, _, _⟩) (v := ?v210) rfl (by kernel_rfl) (by kernel_rfl) (by kernel_rfl) (fun _ _ _ h => h) (Or.inl ⟨rfl, ?c210⟩) hH ?r210
          case c210 => (intro w' _; go_simp; (try with_reducible rfl))
          try simp only [Act.put, List.setIfInBounds_toArray, List.set_cons_zero, List.set_cons_succ]
          refine wpAnyH_take (i := 12) (oi := ⟨some 79, _, _, _, _, _⟩) (v := ?v211) rfl (by kernel_rfl) (by kernel_rfl) (by kernel_rfl) (fun _ _ _ h => h) (Or.inl ⟨rfl, ?c211⟩) hH ?r211
          case c211 => (intro w' _; go_simp; (try with_reducible rfl))
          try simp only [Act.put, List.setIfInBounds_toArray, List.set_cons_zero, List.set_cons_succ]
          refine wpAnyH_take (i := 13) (oi := ⟨some 80, _, _, _, _, _⟩) (v := ?v212) rfl (by kernel_rfl) (by kernel_rfl) (by kernel_rfl) (fun _ _ _ h => h) (Or.inl ⟨rfl, ?c212⟩) hH ?r212
          case c212 => (intro w' _; go_simp; (try with_reducible rfl))
          try simp only [Act.put, List.setIfInBounds_toArray, List.set_cons_zero, List.set_cons_succ]
          refine wpAnyH_take (i := 14) (oi := ⟨some 10, _, _, _, _, _⟩) (v := ?v213) rfl (by kernel_rfl) (by kernel_rfl) (by kernel_rfl) (fun _ _ _ h => h) (Or.inl ⟨rfl, ?c213⟩) hH ?r213
          case c213 => (intro w' _; go_simp; (try with_reducible rfl))
          try simp only [Act.put, List.setIfInBounds_toArray, List.set_cons_zero, List.set_cons_succ]
          refine wpAnyH_done (by kernel_rfl) ?_ _
          have HBB := Lib.hid (below_then HB0.out hH.2.out.a.bel)
          clear hH
          go_wp2_with fail
          go_ret
          exact ⟨rfl, HBB.out⟩
  · have HSO : Hid (∀ X, Below w0.heap.size w0 X → Calls Tryz.prog 17 #[.agg (cfc z N T), .slice A m c, .slice Aa len cap] X fun e w' => e = .returned (.pointer none) ∧ Below X.heap.size X w') := fun X hX =>
      some_no X z N T A m c rs (.slice Aa len cap) xs ((he.below hb0).below hX) hz htm hm ((hrd.below hb0).below hX) hro h0
    clear hrd hro hl hd hxo hz htm h0 he hb0 hm
    go_enter Tryz.func5, Tryz.ntmps5
    go_wp2_with fail
    rw [HW0.out]
    refine wp_region_held_drew (S := fun w' => Blk w' W.heap.size (cfc z N T) 24 ∧ Below w0.heap.size w0 w') (by kernel_rfl) (⟨HXC.out.drew, hq1.out⟩) (fun hH => ?_)
    refine wpAnyH_take (i := 0) (oi := ⟨some 23, _, _, _, _, _⟩) (v := ?v601) rfl (by kernel_rfl) (by kernel_rfl) (by kernel_rfl) (fun _ _ _ h => h) (Or.inl ⟨rfl, ?c601⟩) hH ?r601
    case c601 => (intro w' hS; refine take_cfg hS.1 (.tmp 5) ?_ ?_ <;> rfl)
    try simp only [Act.put, List.setIfInBounds_toArray, List.set_cons_zero, List.set_cons_succ]
    refine wpAnyH_take (i := 1) (oi := ⟨some 24, _, _, _, _, _⟩) (v := ?v602) rfl (by kernel_rfl) (by kernel_rfl) (by kernel_rfl) (fun _ _ _ h => h) (Or.inl ⟨rfl, ?c602⟩) hH ?r602
    case c602 => (intro w' _; go_simp; (try with_reducible rfl))
    try simp only [Act.put, List.setIfInBounds_toArray, List.set_cons_zero, List.set_cons_succ]
    refine wpAnyH_take (i := 2) (oi := ⟨some 25, _, _, _, _, _⟩) (v := ?v603) rfl (by kernel_rfl) (by kernel_rfl) (by kernel_rfl) (fun _ _ _ h => h) (Or.inl ⟨rfl, ?c603⟩) hH ?r603
    case c603 => (intro w' _; go_simp; (try with_reducible rfl))
    try simp only [Act.put, List.setIfInBounds_toArray, List.set_cons_zero, List.set_cons_succ]
    refine wpAnyH_take (i := 4) (oi := ⟨some 27, _, _, _, _, _⟩) (v := ?v604) rfl (by kernel_rfl) (by kernel_rfl) (by kernel_rfl) (fun _ _ _ h => h) (Or.inl ⟨rfl, ?c604⟩) hH ?r604
    case c604 => (intro w' hS; refine take_cfg hS.1 (.tmp 5) ?_ ?_ <;> rfl)
    try simp only [Act.put, List.setIfInBounds_toArray, List.set_cons_zero, List.set_cons_succ]
    refine wpAnyH_take (i := 5) (oi := ⟨some 28, _, _, _, _, _⟩) (v := ?v605) rfl (by kernel_rfl) (by kernel_rfl) (by kernel_rfl) (fun _ _ _ h => h) (Or.inl ⟨rfl, ?c605⟩) hH ?r605
    case c605 => (intro w' _; go_simp; (try with_reducible rfl))
    try simp only [Act.put, List.setIfInBounds_toArray, List.set_cons_zero, List.set_cons_succ]
    refine wpAnyH_take (i := 6) (oi := ⟨some 29, _, _, _, _, _⟩) (v := ?v606) rfl (by kernel_rfl) (by kernel_rfl) (by kernel_rfl) (fun _ _ _ h => h) (Or.inl ⟨rfl, ?c606⟩) hH ?r606
    case c606 => (intro w' _; go_simp; (try with_reducible rfl))
    try simp only [Act.put, List.setIfInBounds_toArray, List.set_cons_zero, List.set_cons_succ]
    refine wpAnyH_ready (rs := [3]) (by kernel_rfl) (by simp) (AllReadyH.cons rfl (fun K hK => ?_) (AllReadyH.nil))
    go_simp
    go_at_call 17
    refine (HSO.out _ hH.2).mono ?_
    rintro e w1 ⟨rfl, hb⟩
    refine hK.out _ _ (⟨hH.1.next hb, hH.2.trans (hb.mono hH.2.size)⟩) (fun hH => ?_)
    clear hK K
    clear hb
    try simp only [Act.put, List.setIfInBounds_toArray, List.set_cons_zero, List.set_cons_succ]
    refine wpAnyH_ready (rs := [7]) (by kernel_rfl) (by simp) (AllReadyH.cons rfl (fun K hK => ?_) (AllReadyH.nil))
    go_simp
    go_at_call 17
    refine (HSO.out _ hH.2).mono ?_
    rintro e w2 ⟨rfl, hb⟩
    refine hK.out _ _ (⟨hH.1.next hb, hH.2.trans (hb.mono hH.2.size)⟩) (fun hH => ?_)
    clear hK K
    clear hb
    try simp only [Act.put, List.setIfInBounds_toArray, List.set_cons_zero, List.set_cons_succ]
    refine wpAnyH_take (i := 8) (oi := ⟨some 11, _, _, _, _, _⟩) (v := ?v607) rfl (by kernel_rfl) (by kernel_rfl) (by kernel_rfl) (fun _ _ _ h => h) (Or.inl ⟨rfl, ?c607⟩) hH ?r607
    case c607 => (intro w' _; go_simp; (try with_reducible rfl))
    try simp only [Act.put, List.setIfInBounds_toArray, List.set_cons_zero, List.set_cons_succ]
    refine wpAnyH_take (i := 9) (oi := ⟨some 12, _, _, _, _, _⟩) (v := ?v608) rfl (by kernel_rfl) (by kernel_rfl) (by kernel_rfl) (fun _ _ _ h => h) (Or.inl ⟨rfl, ?c608⟩) hH ?r608
    case c608 => (intro w' _; go_simp; (try with_reducible rfl))
    try simp only [Act.put, List.setIfInBounds_toArray, List.set_cons_zero, List.set_cons_succ]
    refine wpAnyH_done (by kernel_rfl) ?_ _
    have HB2 := Lib.hid hH.2
    have HE2 := Lib.hid (HEE.out.below hH.2)
    clear hH HSO
    go_wp2_with fail
    go_at_call 11
    refine (awake_any _ HE2.out).mono ?_
    rintro e w3 ⟨rfl, hb⟩
    have HB3 := Lib.hid (below_then HB0.out (below_then HB2.out hb))
    clear hb
    go_wp2_with fail
    go_ret
    exact ⟨rfl, HB3.out⟩
end Au
end Go.Proofs.YtcjppfggllbbeaaGreatDoor
