/- Layer 24: Find. -/
import Derived.Test.YtalclmfnalmphaaRacG
set_option linter.unusedVariables false
set_option linter.unusedSimpArgs false
set_option maxRecDepth 100000
namespace Go.Proofs.Ytalclmfnalmphaa
open Go.ChangeShapes Go.WideShapes Go.ChangeAt Go.RowKit Go.Mtl Go.Lib
namespace Rc
open RcM
theorem below_box (w : World) (o : Obj) : Below w.heap.size w (w.alloc o) := (Below.refl _ w).alloc (Nat.le_refl _) o
theorem pastA_size (a b c d : Nat) : (pastA a b c d).size = 4100 := by unfold pastA; simp
theorem pastA_num (a b c d : Nat) {i : Nat} (h : i < 4096) : (pastA a b c d)[i]? = some (.int .i64 0) := by
  unfold pastA
  rw [Array.getElem?_append_left (by simpa using h)]
  simp [h]
theorem pastA_map (a b c d : Nat) : (pastA a b c d)[4096]? = some (.map (some a)) ∧ (pastA a b c d)[4097]? = some (.map (some b)) ∧ (pastA a b c d)[4098]? = some (.map (some c)) ∧ (pastA a b c d)[4099]? = some (.map (some d)) := by
  unfold pastA
  refine ⟨?_, ?_, ?_, ?_⟩ <;> (rw [Array.getElem?_append_right (by simp)]; simp)
theorem Mc.new {w : World} {m : Nat} (H : MapI w m fun _ => none) : Mc w m fun _ _ => 0 := ⟨_, H, fun _ => rfl⟩
/-- What Find starts with: its four maps and its block, new. -/
theorem Pa.new (w : World) : Pa (((((w.alloc (.map #[] 0)).alloc (.map #[] 0)).alloc (.map #[] 0)).alloc (.map #[] 0)).alloc (.cells (pastA w.heap.size (w.heap.size + 1) (w.heap.size + 2) (w.heap.size + 3)) 42)) (w.heap.size + 4) w.heap.size (w.heap.size + 1) (w.heap.size + 2) (w.heap.size + 3) zero := by
  have sz : ∀ (w : World) (o : Obj), (w.alloc o).heap.size = w.heap.size + 1 := fun w o => by simp
  have a1 := MapI.new w
  have a2 := MapI.new (w.alloc (.map #[] 0))
  have a3 := MapI.new ((w.alloc (.map #[] 0)).alloc (.map #[] 0))
  have a4 := MapI.new (((w.alloc (.map #[] 0)).alloc (.map #[] 0)).alloc (.map #[] 0))
  have b5 := Blk.box ((((w.alloc (.map #[] 0)).alloc (.map #[] 0)).alloc (.map #[] 0)).alloc (.map #[] 0)) (pastA w.heap.size (w.heap.size + 1) (w.heap.size + 2) (w.heap.size + 3)) 42
  have nx : ∀ {w : World} {m : Nat} {f : Int → Option Value} (o : Obj), MapI w m f → MapI (w.alloc o) m f := fun o h => h.next (below_box _ o)
  have a1' := nx (.cells (pastA w.heap.size (w.heap.size + 1) (w.heap.size + 2) (w.heap.size + 3)) 42) (nx (.map #[] 0) (nx (.map #[] 0) (nx (.map #[] 0) a1)))
  have a2' := nx (.cells (pastA w.heap.size (w.heap.size + 1) (w.heap.size + 2) (w.heap.size + 3)) 42) (nx (.map #[] 0) (nx (.map #[] 0) a2))
  have a3' := nx (.cells (pastA w.heap.size (w.heap.size + 1) (w.heap.size + 2) (w.heap.size + 3)) 42) (nx (.map #[] 0) a3)
  have a4' := nx (.cells (pastA w.heap.size (w.heap.size + 1) (w.heap.size + 2) (w.heap.size + 3)) 42) a4
  rw [sz] at a2'
  rw [sz, sz] at a3'
  rw [sz, sz, sz] at a4'
  rw [sz, sz, sz, sz] at b5
  have hm := pastA_map w.heap.size (w.heap.size + 1) (w.heap.size + 2) (w.heap.size + 3)
  refine { th := fun t ht j v hv => ?_, wt := fun j hj => ⟨?_, b5.frozen _⟩, c1 := b5.cell _ _ hm.1, c2 := b5.cell _ _ hm.2.1, c3 := b5.cell _ _ hm.2.2.1, c4 := b5.cell _ _ hm.2.2.2
           M1 := Mc.new a1', M2 := Mc.new a2', M3 := Mc.new a3', M4 := Mc.new a4', nd := by simp }
  · have hj : j < 64 := by have := (List.getElem?_eq_some_iff.1 hv).1; rw [ckL_len] at this; exact this
    rw [ckL_get hj] at hv
    exact (b5.cell _ _ (pastA_num _ _ _ _ (by omega))).trans hv
  · rw [Nat.zero_add, cell_of_row _ _ j _ _ _ b5, Array.getElem?_eq_getElem (by rw [pastA_size]; exact hj)]
    rfl
theorem wpList_built {P : Program} {ops : Array Oper} {rest : List Oper} {o : Oper} {a : Act} {w : World} {Q : Exit → Act → World → Prop} (hg : o.guard = none) (t : TypeId) (parts : Array (Nat × Operand)) (ho : o.op = .build t parts) (arr : Array Value)
    (hb : P.built t (parts.map fun (i, x) => (i, a.eval x)).toList = some arr) (h : wpList P ops Q rest (a.put o.dst (.agg arr)) w) : wpList P ops Q (o :: rest) a w :=
  wpList_build hg t parts ho (by rw [hb]; rfl) (by rw [hb]; exact h)
theorem wpList_newMap {P : Program} {ops : Array Oper} {rest : List Oper} {o : Oper} {a : Act} {w : World} {Q : Exit → Act → World → Prop} (hg : o.guard = none) (t : TypeId) (ho : o.op = .makeMap t none) (h : wpList P ops Q rest (a.put o.dst (.map (some w.heap.size))) (w.alloc (.map #[] 0))) : wpList P ops Q (o :: rest) a w :=
  wpList_plain hg fun _ hK => by
    unfold Oper.wp execOp
    simp only [ho, Sem.run_bind, Sem.run_pure, Option.map_none, run_makeMap, Result.andThen_ok]
    exact hK _ _ h
/-- What Find answers. -/
def Found (l : List A) (w : World) (e : Ending) (w' : World) : Prop := ∃ x d : Int, e = .returned (.tuple #[.int .i64 x, .int .i64 d]) ∧ Tells (fn l) l.length x d ∧ Below w.heap.size w w'
set_option maxHeartbeats 1000000 in
theorem find_any (v : Value) (l : List A) (w : World) (h : Lg w w.heap.size v l) : Calls Try.prog 7 #[v] w (Found l w) := by
  obtain ⟨A0, c, rfl, hc1, hc2⟩ := h.len
  obtain ⟨n, hn⟩ : ∃ n, l.length = n := ⟨_, rfl⟩
  have h : Rd w w.heap.size 3 l.length (.slice A0 l.length c) (avs l) := h
  rw [hn] at h hc1 ⊢
  have HN := Lib.hid hn
  have HL := Lib.hid h
  have hz := ck_zero
  have hmm := @run_makeMap Try.prog
  clear h hn
  go_in
  go_wp2_with fail
  go_loopw [5, 12] (fun _ vk wr => ∃ k : Nat, vk = .int .i64 (k : Int) ∧ k ≤ n ∧ Hid (Below w.heap.size w wr ∧ ∀ j, j < k → 0 ≤ (fn l j).t ∧ (fn l j).t ≤ 63)) (fun _ vk _ => n - (RowKit.intOf vk).toNat)
  case atStart => exact ⟨0, rfl, by omega, (show Hid _ from ⟨Below.refl _ _, fun j hj => absurd hj (Nat.not_lt_zero j)⟩)⟩
  case round =>
    obtain ⟨k, rfl, hk, HR⟩ := hrel
    by_cases hlt : k < n
    · obtain ⟨⟨t, kd, pl⟩, b, off, hx, rfl, hb, y0, y1, y2⟩ := Lg.at_ (HL.out.below HR.out.1) HN.out hlt
      have HX := Lib.hid hx
      dsimp only at y0 y1 y2
      clear hx hb
      by_cases h0 : t < 0
      · have d0 : decide (t < 0) = true := by simpa using h0
        have HT : Hid (Tells (fn l) l.length 0 14) := by
          refine .inl ⟨⟨k, by rw [HN.out]; exact hlt, .inl ?_⟩, rfl, rfl⟩
          rw [fn_at HX.out]; exact h0
        clear h0
        go_wp2_with fail
        go_ret2
        exact ⟨0, 14, rfl, HT.out, HR.out.1.trans ((below_box _ _).mono HR.out.1.size)⟩
      · by_cases h1 : 64 ≤ t
        · have d0 : decide (t < 0) = false := by simpa using h0
          have d1 : decide (t ≥ 64) = true := by simpa using h1
          have HT : Hid (Tells (fn l) l.length 0 14) := by
            refine .inl ⟨⟨k, by rw [HN.out]; exact hlt, .inr ?_⟩, rfl, rfl⟩
            rw [fn_at HX.out]; show 63 < t; omega
          clear h0 h1
          go_wp2_with fail
          go_ret2
          exact ⟨0, 14, rfl, HT.out, HR.out.1.trans ((below_box _ _).mono HR.out.1.size)⟩
        · have d0 : decide (t < 0) = false := by simpa using h0
          have d1 : decide (t ≥ 64) = false := by simpa using h1
          have HR2 : Hid (∀ j, j < k + 1 → 0 ≤ (fn l j).t ∧ (fn l j).t ≤ 63) := fun j hj => by
            by_cases e : j = k
            · subst e; rw [fn_at HX.out]; show 0 ≤ t ∧ t ≤ 63; omega
            · exact HR.out.2 j (by omega)
          clear h0 h1
          go_wp2_with fail
          go_roundw
          case rel => exact ⟨k + 1, by go_num, by omega, (show Hid _ from ⟨HR.out.1.trans ((below_box _ _).mono HR.out.1.size), HR2.out⟩)⟩
          case measure => simp [RowKit.intOf]; omega
    · obtain rfl : k = n := by omega
      have HBAD := Lib.hid HR.out.2
      have HP0 := Lib.hid (Pa.new wr)
      rename ∀ (a : Act) (w : World), Code.wp _ _ _ a w → _ => hK7
      have HK7 := Lib.hid hK7
      clear hK7 hmm
      go_wp2_with fail
      refine HK7.out _ _ ?_
      refine wp_seq_k fun K8 hK8 => ?_
      have HK8 := Lib.hid hK8
      clear hK8 HK7
      refine wp_region_lit ?_
      refine wpList_newMap rfl 37 rfl ?_
      refine wpList_newMap rfl 37 rfl ?_
      refine wpList_newMap rfl 37 rfl ?_
      refine wpList_newMap rfl 37 rfl ?_
      simp only [Act.put, List.setIfInBounds_toArray, List.set_cons_zero, List.set_cons_succ, World.size_alloc]
      refine wpList_built rfl 42 _ rfl (pastA wr.heap.size (wr.heap.size + 1) (wr.heap.size + 2) (wr.heap.size + 3)) ?hb ?_
      case hb =>
        simp only [List.map_toArray, List.map_cons, List.map_nil]
        exact past_built wr.heap.size (wr.heap.size + 1) (wr.heap.size + 2) (wr.heap.size + 3)
      have hK8 := HK8.out
      clear HK8
      have HP1 : Hid (∃ m1 m2 m3 m4, (w.heap.size ≤ m1 ∧ w.heap.size ≤ m2 ∧ w.heap.size ≤ m3 ∧ w.heap.size ≤ m4) ∧ Pa (((((wr.alloc (.map #[] 0)).alloc (.map #[] 0)).alloc (.map #[] 0)).alloc (.map #[] 0)).alloc (.cells (pastA wr.heap.size (wr.heap.size + 1) (wr.heap.size + 2) (wr.heap.size + 3)) 42)) (wr.heap.size + 1 + 1 + 1 + 1) m1 m2 m3 m4 zero) := by
        have := HR.out.1.size
        exact ⟨_, _, _, _, ⟨by omega, by omega, by omega, by omega⟩, HP0.out⟩
      have HB1 : Hid (Below w.heap.size w (((((wr.alloc (.map #[] 0)).alloc (.map #[] 0)).alloc (.map #[] 0)).alloc (.map #[] 0)).alloc (.cells (pastA wr.heap.size (wr.heap.size + 1) (wr.heap.size + 2) (wr.heap.size + 3)) 42)) ∧ w.heap.size ≤ wr.heap.size + 1 + 1 + 1 + 1) := by
        have h := HR.out.1.size
        exact ⟨((((HR.out.1.alloc h _).alloc (by simp; omega) _).alloc (by simp; omega) _).alloc (by simp; omega) _).alloc (by simp; omega) _, by omega⟩
      clear HP0
      go_wp2_with fail
      generalize ((((wr.alloc (.map #[] 0)).alloc (.map #[] 0)).alloc (.map #[] 0)).alloc (.map #[] 0)).alloc (.cells (pastA wr.heap.size (wr.heap.size + 1) (wr.heap.size + 2) (wr.heap.size + 3)) 42) = ws at *
      generalize wr.heap.size + 1 + 1 + 1 + 1 = p at *
      obtain ⟨m1, m2, m3, m4, hms, hpa⟩ := HP1.out
      have HMS := Lib.hid hms
      have HPA := Lib.hid hpa
      clear HP1 hms hpa HR
      go_loopw [7, 8, 9, 33] (fun _ _ _ vj wr => ∃ j : Nat, vj = .int .i64 (j : Int) ∧ j ≤ k ∧ Hid (Below w.heap.size w wr ∧ Pa wr p m1 m2 m3 m4 (vcs (fn l) j) ∧ ∀ q, q < j → ∀ m, ¬ Ra (fn l) m q)) (fun _ _ _ vj _ => k - (RowKit.intOf vj).toNat)
      case atStart => exact ⟨0, rfl, by omega, (show Hid _ from ⟨HB1.out.1, HPA.out, fun q hq => absurd hq (Nat.not_lt_zero q)⟩)⟩
      case round =>
        obtain ⟨j, rfl, hj, HR⟩ := hrel
        by_cases hjl : j < k
        · obtain ⟨⟨t, kd, pl⟩, b, off, hx, rfl, hb, y0, y1, y2⟩ := Lg.at_ (HL.out.below HR.out.1) HN.out hjl
          have hfx := fn_at hx
          have htb := HBAD.out j hjl
          rw [hfx] at htb
          dsimp only at y0 y1 y2 htb
          obtain ⟨tn, rfl⟩ : ∃ n : Nat, t = (n : Int) := ⟨t.toNat, by omega⟩
          obtain ⟨ht0, ht1⟩ := htb
          have HFX := Lib.hid hfx
          have HX1 := Lib.hid (Blk.box wr (acc ⟨(tn : Int), kd, pl⟩) 32)
          have hb1 := below_box wr (.cells (acc ⟨(tn : Int), kd, pl⟩) 32)
          have HB2 := Lib.hid (HR.out.1.trans (hb1.mono HR.out.1.size))
          have HP2 := Lib.hid (HR.out.2.1.next hb1)
          clear hx hfx hb hb1
          go_wp2_with fail
          go_at_call 12
          refine (known_any HP2.out ⟨(tn : Int), kd, pl⟩ ht0 ht1).mono ?_
          rintro e w3 ⟨rfl, hb3⟩
          have HB3 := Lib.hid hb3
          have hk0 := Blk.box w3 (ckA fun _ => 0) 39
          have HK0 := Lib.hid hk0
          have hb4 : Below w3.heap.size w3 (World.setRow (w3.alloc (.cells (ckA fun _ => 0) 39)) w3.heap.size (ckA (known (vcs (fn l) j) ⟨(tn : Int), kd, pl⟩))) := below_row (below_box w3 _) (Nat.le_refl _) _
          have HK4 : Hid (Blk (World.setRow (w3.alloc (.cells (ckA fun _ => 0) 39)) w3.heap.size (ckA (known (vcs (fn l) j) ⟨(tn : Int), kd, pl⟩))) w3.heap.size (ckA (known (vcs (fn l) j) ⟨(tn : Int), kd, pl⟩)) 39) := Blk.row hk0 _
          have HX4 : Hid (Blk (World.setRow (w3.alloc (.cells (ckA fun _ => 0) 39)) w3.heap.size (ckA (known (vcs (fn l) j) ⟨(tn : Int), kd, pl⟩))) wr.heap.size (acc ⟨(tn : Int), kd, pl⟩) 32) := (HX1.out.next hb3).next hb4
          have HP4 : Hid (Pa (World.setRow (w3.alloc (.cells (ckA fun _ => 0) 39)) w3.heap.size (ckA (known (vcs (fn l) j) ⟨(tn : Int), kd, pl⟩))) p m1 m2 m3 m4 (vcs (fn l) j)) := (HP2.out.next hb3).next hb4
          have HB4 : Hid (Below w.heap.size w (World.setRow (w3.alloc (.cells (ckA fun _ => 0) 39)) w3.heap.size (ckA (known (vcs (fn l) j) ⟨(tn : Int), kd, pl⟩)))) := (HB2.out.trans (hb3.mono HB2.out.size)).trans (hb4.mono (Nat.le_trans HB2.out.size hb3.size))
          have HG : Hid (wr.heap.size < w3.heap.size ∧ w.heap.size ≤ w3.heap.size) := ⟨Nat.lt_of_lt_of_le HX1.out.lt hb3.size, Nat.le_trans HB2.out.size hb3.size⟩
          have HLT : Hid (∀ q, q ∈ [p, m1, m2, m3, m4] → q < w3.heap.size) := fun q hq => (HP2.out.next hb3).lts q hq
          have z0 := HX4.out.cell 0 _ rfl
          have z1 := HX4.out.cell 1 _ rfl
          have z2 := HX4.out.cell 2 _ rfl
          clear hb3 hk0 hb4 y0 y1 y2
          go_wp2_with (first | (refine at_dst 43 ?_; refine wpList_load_row rfl 39 (.tmp 9) rfl w3.heap.size rfl _ (ckA (known (vcs (fn l) j) ⟨(tn : Int), kd, pl⟩)) _ _ HK4.out ck_is rfl (ck_size _) ?_) | refine wpList_store_row rfl 39 (.tmp 9) (.tmp 40) rfl w3.heap.size (ckA (known (vcs (fn l) j) ⟨(tn : Int), kd, pl⟩)) rfl rfl _ (ckA fun _ => 0) HK0.out (ck_size _) (ck_same _).symm (ckA_all _) ?_)
          go_at_call 13
          refine (races_any HP4.out ⟨(tn : Int), kd, pl⟩ ht0 ht1 (known (vcs (fn l) j) ⟨(tn : Int), kd, pl⟩)).mono ?_
          rintro e w5 ⟨rfl, hb5⟩
          have HK5 := Lib.hid (HK4.out.next hb5)
          have HX5 := Lib.hid (HX4.out.next hb5)
          have HP5 := Lib.hid (HP4.out.next hb5)
          have HB5 := Lib.hid (HB4.out.trans (hb5.mono HB4.out.size))
          have hrc : racesB (vcs (fn l) j) (fn l j) (known (vcs (fn l) j) (fn l j)) = true ↔ ∃ m, Ra (fn l) m j := racesB_iff.trans ((vcs_inv fun q hq => HBAD.out q (by omega)).races fun q hq => HBAD.out q (by omega))
          rw [HFX.out] at hrc
          clear hb5 HK4 HX4 HP4 HB4 HK0 HX1 HP2 HB2 HB3 z0 z1 z2
          cases hrb : racesB (vcs (fn l) j) ⟨(tn : Int), kd, pl⟩ (known (vcs (fn l) j) ⟨(tn : Int), kd, pl⟩) with
          | true =>
            have HT : Hid (Tells (fn l) l.length (j : Int) 17) := .inr (.inl ⟨no_bad fun q hq => HBAD.out q (by rw [← HN.out]; exact hq), ⟨j, by rw [HN.out]; exact hjl, rfl, hrc.1 hrb, HR.out.2.2⟩, rfl⟩)
            clear hrb hrc
            go_wp2_with fail
            go_ret2
            exact ⟨j, 17, rfl, HT.out, HB5.out⟩
          | false =>
            have HNR : Hid (∀ q, q < j + 1 → ∀ m, ¬ Ra (fn l) m q) := fun q hq m hm => by
              by_cases e : q = j
              · subst e
                rw [hrc.2 ⟨m, hm⟩] at hrb
                cases hrb
              · exact HR.out.2.2 q (by omega) m hm
            have u0 := HX5.out.cell 0 _ rfl
            have u1 := HX5.out.cell 1 _ rfl
            have u2 := HX5.out.cell 2 _ rfl
            have f9 := HK5.out.frozen tn
            have x9 := HK5.out.cell tn _ (ckA_get (c := known (vcs (fn l) j) ⟨(tn : Int), kd, pl⟩) (by omega))
            have HK6 : Hid (Blk (w5.setCell ⟨w3.heap.size, tn, none⟩ (.int .i64 ((j : Int) + 1))) w3.heap.size (ckA (setN (known (vcs (fn l) j) ⟨(tn : Int), kd, pl⟩) tn ((j : Int) + 1))) 39) := HK5.out.set' tn _ (ckA_set (by omega) _)
            have hne : wr.heap.size ≠ w3.heap.size := by have := HG.out.1; omega
            have HX6 : Hid (Blk (w5.setCell ⟨w3.heap.size, tn, none⟩ (.int .i64 ((j : Int) + 1))) wr.heap.size (acc ⟨(tn : Int), kd, pl⟩) 32) := HX5.out.other _ _ hne _
            have HP6 : Hid (Pa (w5.setCell ⟨w3.heap.size, tn, none⟩ (.int .i64 ((j : Int) + 1))) p m1 m2 m3 m4 (vcs (fn l) j)) := HP5.out.keep fun q hq => Below.heap_setCell _ _ _ _ (by have := HLT.out q hq; show q ≠ w3.heap.size; omega)
            have HB6 : Hid (Below w.heap.size w (w5.setCell ⟨w3.heap.size, tn, none⟩ (.int .i64 ((j : Int) + 1)))) := HB5.out.setCell (by show w.heap.size ≤ w3.heap.size; exact HG.out.2) _
            have v0 := HX6.out.cell 0 _ rfl
            have v1 := HX6.out.cell 1 _ rfl
            have v2 := HX6.out.cell 2 _ rfl
            clear hrb hrc hne
            go_wp2_with (refine at_dst 53 ?_; refine wpList_load_row rfl 39 (.tmp 9) rfl w3.heap.size rfl _ (ckA (setN (known (vcs (fn l) j) ⟨(tn : Int), kd, pl⟩) tn ((j : Int) + 1))) _ _ HK6.out ck_is rfl (ck_size _) ?_)
            go_at_call 14
            refine (record_any HP6.out ⟨(tn : Int), kd, pl⟩ ht0 ht1 (setN (known (vcs (fn l) j) ⟨(tn : Int), kd, pl⟩) tn ((j : Int) + 1))).mono ?_
            rintro e w7 ⟨rfl, hp7, ho7⟩
            have HP7 : Hid (Pa w7 p m1 m2 m3 m4 (vcs (fn l) (j + 1))) := by
              show Pa _ _ _ _ _ _ (record (vcs (fn l) j) (fn l j) (setN (known (vcs (fn l) j) (fn l j)) (fn l j).t.toNat ((j : Int) + 1)))
              rw [HFX.out]
              exact hp7
            have HB7 : Hid (Below w.heap.size w w7) := HB6.out.trans (ho7.below (fun q hq => by
              have := HMS.out
              have := HB1.out.2
              rcases hq with rfl | hq
              · assumption
              · simp only [List.mem_cons, List.not_mem_nil, or_false] at hq
                rcases hq with rfl | rfl | rfl | rfl <;> omega) HB6.out.size)
            clear hp7 ho7 HP6 HB6 HX6 HK6 HP5 HB5 HX5 HK5 u0 u1 u2 f9 x9 v0 v1 v2
            go_wp2_with fail
            go_roundw
            case rel => exact ⟨j + 1, by go_num, by omega, (show Hid _ from ⟨HB7.out, HP7.out, HNR.out⟩)⟩
            case measure => simp [RowKit.intOf]; omega
        · obtain rfl : j = k := by omega
          have HT : Hid (Tells (fn l) l.length (-1) 0) := .inr (.inr ⟨no_bad fun q hq => HBAD.out q (by rw [← HN.out]; exact hq), fun q hq => HR.out.2.2 q (by rw [← HN.out]; exact hq), rfl, rfl⟩)
          go_wp2_with fail
          go_ret2
          exact ⟨-1, 0, rfl, HT.out, HR.out.1⟩
end Rc
end Go.Proofs.Ytalclmfnalmphaa
