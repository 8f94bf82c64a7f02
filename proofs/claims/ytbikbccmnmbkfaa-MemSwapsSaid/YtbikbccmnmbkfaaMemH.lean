/- Layer 19: the contracts of the reference's methods. -/
import Derived.Test.YtbikbccmnmbkfaaMemG
set_option linter.unusedVariables false
set_option linter.unusedSimpArgs false
set_option maxRecDepth 100000
namespace Go.Proofs.Ytbikbccmnmbkfaa
open Go.ChangeShapes Go.WideShapes Go.ChangeAt Go.RowKit Go.Mtl Go.Lib
namespace Me
open MemM
section
variable {w : World} {O : Nat → Prop} {B : Nat} {vw vh vl : Value} {ws hs : List Int} {ls : List Ac}
set_option maxHeartbeats 1000000 in
theorem say_any (H : Mm T2 w O B vw vh vl ws hs ls) (t k p : Int) (hl : ls.length ≤ 1000000000000) :
    Calls Try.prog 34 #[ptr B, .int .i64 t, .int .i64 k, .int .i64 p] w fun e w' => ∃ O' v, e = .returned (.tuple #[]) ∧ Mm T2 w' O' B vw vh v ws hs (ls ++ [⟨t, k, p⟩]) ∧ Only O w w' ∧ ∀ j, O' j → O j ∨ w.heap.size ≤ j := by
  obtain ⟨Al, cl, rfl, hc1, hc2⟩ := H.len2
  have c2 := H.blk.cell 2 _ rfl
  have HH := Lib.hid H
  clear H
  go_enter Try.func34, Try.ntmps34
  go_wp2_with (at_builtin; refine wpList_push (ls.length + 1) rfl _ _ 42 51 rfl Try.underlying42 (.agg #[.int .i64 0, .int .i64 0, .int .i64 0]) 3 24 info_acc rfl (by omega) (by omega) _ _ _ rfl HH.out.lr [.int .i64 t, .int .i64 k, .int .i64 p] rfl (by simp [Value.oneCell']) rfl rfl hl ?_; intro A' c' w1 h1 h2 h3; have HB1 := HH.out.grownL h2.out; clear c2; have c2 := HB1.cell 2 _ rfl; have f2 := HB1.frozen 2; clear HB1)
  go_end0
  have HP := HH.out.push (a := ⟨t, k, p⟩) h1.out h2.out h3.out
  exact ⟨_, _, rfl, HP.1, HP.2, fun j hj => hj.imp id (fun h => h.1)⟩
end
theorem getD_inc (hs : List Int) {j : Nat} (h : j < hs.length) : (hs.map (· + 1)).getD j 0 = hs.getD j 0 + 1 := by simp [List.getD, h]
theorem set_inc (hs : List Int) (j : Nat) (t : Int) : (hs.map (· + 1)).set j (t + 1) = (hs.set j t).map (· + 1) := by simp [List.map_set]
/-- What the reference's Look would be: a word's value. -/
def RDoes (w : World) (O : Nat → Prop) (B : Nat) (v : Value) (s' : Ms) (e : Ending) (w' : World) : Prop :=
  ∃ O', e = .returned v ∧ RAt w' O' B s' ∧ Only O w w' ∧ ∀ j, O' j → O j ∨ w.heap.size ≤ j
section
variable {w w' : World} {O O' : Nat → Prop} {B : Nat} {s : Ms}
set_option maxHeartbeats 1000000 in
theorem refMore_any (H : RAt w O B s) (x : Int) (hx : 0 ≤ x ∧ x ≤ 18446744073709551615) (hl : s.ws.length < 1000000000000) :
    Calls Try.prog 10 #[ptr B, .int .u64 x] w (RDoes w O B (.int .i64 (s.ws.length : Int)) (moreS s x)) := by
  have hok2 := H.2.more hx hl
  obtain ⟨⟨vw, vh, vl, H1⟩, hok⟩ := H
  obtain ⟨Al, cl, rfl, hc1, hc2⟩ := H1.len0
  have c0 := H1.blk.cell 0 _ rfl
  have HH := Lib.hid H1
  have HK := Lib.hid hok2
  have HLL : Hid (s.ws.length ≤ 1000000000000) := Lib.hid (by omega)
  clear H1 hok hok2 hx
  go_enter Try.func10, Try.ntmps10
  go_wp2_with (at_builtin; refine wpList_push (s.ws.length + 1) rfl _ _ 41 27 rfl Try.underlying41 (.int .u64 0) 1 8 info_word rfl (by omega) (by omega) _ _ _ rfl HH.out.wr [.int .u64 x] rfl (by simp [Value.oneCell']) rfl rfl HLL.out ?_; intro A' c' w1 h1 h2 h3; have HB1 := HH.out.grownW h2.out; clear c0; have c0 := HB1.cell 0 _ rfl; have f0 := HB1.frozen 0; clear HB1)
  go_ret
  have HP := HH.out.pushW (x := x) h1.out h2.out h3.out
  exact ⟨_, by congr 2, ⟨⟨_, _, _, HP.1⟩, HK.out⟩, HP.2, fun j hj => hj.imp id (fun h => h.1)⟩
set_option maxHeartbeats 1000000 in
theorem refHolder_any (H : RAt w O B s) (i : Int) : Calls Try.prog 23 #[ptr B, .int .i64 i] w fun e w' => e = .returned (.int .i64 (holdV s i)) ∧ w = w' := by
  obtain ⟨⟨vw, vh, vl, H⟩, hok⟩ := H
  obtain ⟨A1, k1, e1, hk1, hk2⟩ := H.len1
  rw [List.length_map] at e1 hk1
  have c0 := H.blk.cell 1 _ rfl
  cases hb : has s.hs.length i with
  | false =>
    have e : holdV s i = -1 := by unfold holdV; rw [hb]; rfl
    rw [e]
    have h := has_no hb
    subst e1
    clear H e hb hok
    by_cases h0 : i < 0
    · clear h
      go_enter Try.func23, Try.ntmps23
      go_wp2_with fail
      go_ret
      exact ⟨rfl, rfl⟩
    · obtain ⟨j, rfl⟩ : ∃ j : Nat, i = (j : Int) := ⟨i.toNat, by omega⟩
      have hj : ¬ j < s.hs.length := by omega
      clear h h0
      go_enter Try.func23, Try.ntmps23
      go_wp2_with fail
      go_ret
      exact ⟨rfl, rfl⟩
  | true =>
    have e : holdV s i = at_ s.hs i := by unfold holdV; rw [hb]; rfl
    rw [e]
    obtain ⟨j, rfl, hj⟩ := has_yes hb
    rw [at_nat]
    obtain ⟨g, c, e2, h1, h2, -, c1, -⟩ := H.hold (j := j) (by rw [List.length_map]; exact hj)
    rw [List.length_map] at e2 h1
    subst e2
    obtain ⟨y0, y1⟩ := hok.hat hj
    rw [getD_inc _ hj] at c1
    generalize s.hs.getD j 0 = x at *
    clear H e hb hok e1
    by_cases hm : x = 9223372036854775807
    · subst hm
      go_enter Try.func23, Try.ntmps23
      go_wp2_with fail
      go_ret
      exact ⟨by show Ending.returned (Value.int .i64 (wrap64 (wrap64 9223372036854775808 - 1))) = _; rw [show wrap64 (wrap64 9223372036854775808 - 1) = 9223372036854775807 by decide +kernel], rfl⟩
    · obtain ⟨y, rfl⟩ : ∃ y, x = y - 1 := ⟨x + 1, by omega⟩
      rw [show y - 1 + 1 = y by omega] at c1
      have y2 : 0 ≤ y := by omega
      have y3 : y ≤ 9223372036854775807 := by omega
      clear hm y0 y1
      go_enter Try.func23, Try.ntmps23
      go_wp2_with fail
      go_ret
      exact ⟨rfl, rfl⟩
set_option maxHeartbeats 1000000 in
theorem refLoad_any (H : RAt w O B s) (t i : Int) (hl : s.ls.length ≤ 1000000000000) : Calls Try.prog 12 #[ptr B, .int .i64 t, .int .i64 i] w (RDoes w O B (.int .u64 (lookV s i)) (loadS s t i)) := by
  have hok2 := H.2.load t i
  have HM0 := Lib.hid H
  obtain ⟨⟨vw, vh, vl, H1⟩, hok⟩ := H
  cases hb : has s.ws.length i with
  | false =>
    have e1 : lookV s i = 0 := by unfold lookV; rw [hb]; rfl
    have e2 : loadS s t i = s := by unfold loadS; rw [hb]; rfl
    rw [e1, e2]
    obtain ⟨A, c, rfl, hc1, hc2⟩ := H1.len0
    have c0 := H1.blk.cell 0 _ rfl
    have h := has_no hb
    clear H1 e1 e2 hl hb hok hok2
    by_cases h0 : i < 0
    · clear h
      go_enter Try.func12, Try.ntmps12
      go_wp2_with fail
      go_ret
      exact ⟨O, rfl, HM0.out, Only.refl _ _, fun j hj => .inl hj⟩
    · obtain ⟨j, rfl⟩ : ∃ j : Nat, i = (j : Int) := ⟨i.toNat, by omega⟩
      have hj : ¬ j < s.ws.length := by omega
      clear h h0
      go_enter Try.func12, Try.ntmps12
      go_wp2_with fail
      go_ret
      exact ⟨O, rfl, HM0.out, Only.refl _ _, fun j hj => .inl hj⟩
  | true =>
    have e1 : lookV s i = at_ s.ws i := by unfold lookV; rw [hb]; rfl
    have e2 : loadS s t i = say s t 3 (3 * i) := by unfold loadS; rw [hb]; rfl
    rw [e2] at hok2
    rw [e1, e2]
    obtain ⟨j, rfl, hj⟩ := has_yes hb
    have hi : (j : Int) ≤ 1099511627776 := by have := hok.wl; omega
    rw [at_nat]
    have HR := Lib.hid (say_any H1 t 3 (3 * j) hl)
    obtain ⟨g, c, rfl, h1, h2, hOg, -, -⟩ := H1.word hj
    have c0 := H1.blk.cell 0 _ rfl
    have HK := Lib.hid hok2
    clear H1 e1 e2 hb hok hok2 hl hOg HM0
    go_enter Try.func12, Try.ntmps12
    go_wp2_with fail
    go_at_call 34
    refine HR.out.mono ?_
    rintro e w1 ⟨O', v, rfl, hm, ho, hO⟩
    have HM : Hid (RAt w1 O' B (say s t 3 (3 * j))) := ⟨⟨_, _, _, hm⟩, HK.out⟩
    have HD : Hid (Only O w w1 ∧ ∀ j, O' j → O j ∨ w.heap.size ≤ j) := ⟨ho, hO⟩
    clear c0
    have c0 := hm.blk.cell 0 _ rfl
    obtain ⟨g', c', e', -, -, -, c1, -⟩ := hm.word hj
    injection e' with e' _ e3
    injection e' with e'
    injection e' with e'
    subst e' e3
    generalize s.ws.getD j 0 = x at *
    clear hm ho hO
    go_wp2_with fail
    go_ret
    exact ⟨O', rfl, HM.out, HD.out⟩
set_option maxHeartbeats 1000000 in
theorem refSwap_any (H : RAt w O B s) (t i old now : Int) (hx : 0 ≤ now ∧ now ≤ 18446744073709551615) (hl : s.ls.length ≤ 1000000000000) :
    Calls Try.prog 14 #[ptr B, .int .i64 t, .int .i64 i, .int .u64 old, .int .u64 now] w (RDoes w O B (.bool (swapB s i old)) (swapS s t i old now)) := by
  have hok2 := H.2.swap t i old now hx
  have HM0 := Lib.hid H
  obtain ⟨⟨vw, vh, vl, H1⟩, hok⟩ := H
  cases hb : has s.ws.length i with
  | false =>
    have e1 : swapB s i old = false := by unfold swapB; rw [hb]; rfl
    have e2 : swapS s t i old now = s := by unfold swapS; rw [hb]; rfl
    rw [e1, e2]
    obtain ⟨A, c, rfl, hc1, hc2⟩ := H1.len0
    have c0 := H1.blk.cell 0 _ rfl
    have h := has_no hb
    clear H1 e1 e2 hl hx hb hok hok2
    by_cases h0 : i < 0
    · clear h
      go_enter Try.func14, Try.ntmps14
      go_wp2_with fail
      go_ret
      exact ⟨O, rfl, HM0.out, Only.refl _ _, fun j hj => .inl hj⟩
    · obtain ⟨j, rfl⟩ : ∃ j : Nat, i = (j : Int) := ⟨i.toNat, by omega⟩
      have hj : ¬ j < s.ws.length := by omega
      clear h h0
      go_enter Try.func14, Try.ntmps14
      go_wp2_with fail
      go_ret
      exact ⟨O, rfl, HM0.out, Only.refl _ _, fun j hj => .inl hj⟩
  | true =>
    by_cases ho : at_ s.ws i = old
    · have e1 : swapB s i old = true := by unfold swapB; rw [hb, ho]; simp
      have e2 : swapS s t i old now = say { s with ws := s.ws.set i.toNat now } t 4 (3 * i) := by unfold swapS; rw [hb, if_pos rfl, if_pos ho]
      rw [e2] at hok2
      rw [e1, e2]
      obtain ⟨j, rfl, hj⟩ := has_yes hb
      have hi : (j : Int) ≤ 1099511627776 := by have := hok.wl; omega
      rw [at_nat] at ho
      rw [Int.toNat_natCast] at hok2 ⊢
      obtain ⟨g, c, rfl, h1, h2, hOg, c1, f1⟩ := H1.word hj
      rw [ho] at c1
      have d1 : (old == old) = true := by simp
      have c0 := H1.blk.cell 0 _ rfl
      have H2 := H1.setW rfl j now
      have HR := Lib.hid (say_any H2 t 4 (3 * j) hl)
      have HO1 := Lib.hid ((Only.refl O w).setCell (p := ⟨g, j, none⟩) (.inl hOg) (.int .u64 now))
      have HK := Lib.hid hok2
      clear H1 H2 e1 e2 ho hb hok hok2 hl hOg hx HM0
      go_enter Try.func14, Try.ntmps14
      go_wp2_with fail
      go_at_call 34
      refine HR.out.mono ?_
      rintro e w1 ⟨O', v, rfl, hm, ho, hO⟩
      have HM : Hid (RAt w1 O' B (say { s with ws := s.ws.set j now } t 4 (3 * j))) := ⟨⟨_, _, _, hm⟩, HK.out⟩
      have HD : Hid (Only O w w1 ∧ ∀ j, O' j → O j ∨ w.heap.size ≤ j) := does_after HO1.out ho hO
      clear hm ho hO
      go_wp2_with fail
      go_ret
      exact ⟨O', rfl, HM.out, HD.out⟩
    · have e1 : swapB s i old = false := by unfold swapB; rw [hb]; simpa using ho
      have e2 : swapS s t i old now = say s t 3 (3 * i) := by unfold swapS; rw [hb, if_pos rfl, if_neg ho]
      rw [e2] at hok2
      rw [e1, e2]
      obtain ⟨j, rfl, hj⟩ := has_yes hb
      have hi : (j : Int) ≤ 1099511627776 := by have := hok.wl; omega
      have HR := Lib.hid (say_any H1 t 3 (3 * j) hl)
      rw [at_nat] at ho
      obtain ⟨g, c, rfl, h1, h2, hOg, c1, f1⟩ := H1.word hj
      generalize s.ws.getD j 0 = x at *
      have d1 : (x == old) = false := by simpa using ho
      have c0 := H1.blk.cell 0 _ rfl
      have HK := Lib.hid hok2
      clear H1 e1 e2 ho hb hok hok2 hl hOg hx f1 HM0
      go_enter Try.func14, Try.ntmps14
      go_wp2_with fail
      go_at_call 34
      refine HR.out.mono ?_
      rintro e w1 ⟨O', v, rfl, hm, ho, hO⟩
      have HM : Hid (RAt w1 O' B (say s t 3 (3 * j))) := ⟨⟨_, _, _, hm⟩, HK.out⟩
      have HD : Hid (Only O w w1 ∧ ∀ j, O' j → O j ∨ w.heap.size ≤ j) := ⟨ho, hO⟩
      clear hm ho hO c0 c1
      go_wp2_with fail
      go_ret
      exact ⟨O', rfl, HM.out, HD.out⟩
set_option maxHeartbeats 1000000 in
theorem refLock_any (H : RAt w O B s) (t i : Int) (ht : t ≤ 9223372036854775807) (hl : s.ls.length ≤ 1000000000000) :
    Calls Try.prog 16 #[ptr B, .int .i64 t, .int .i64 i] w (RDoes w O B (.bool (lockB s t i)) (lockS s t i)) := by
  have hok2 := H.2.lock t i ht
  have HM0 := Lib.hid H
  obtain ⟨⟨vw, vh, vl, H1⟩, hok⟩ := H
  cases hb : has s.hs.length i with
  | false =>
    have e1 : lockB s t i = false := by unfold lockB; rw [hb]; simp
    have e2 : lockS s t i = s := by unfold lockS; rw [e1]; rfl
    rw [e1, e2]
    obtain ⟨A, c, e3, hc1, hc2⟩ := H1.len1
    rw [List.length_map] at e3 hc1
    subst e3
    have c0 := H1.blk.cell 1 _ rfl
    have h := has_no hb
    clear H1 e1 e2 hl ht hb hok hok2
    by_cases h0 : i < 0
    · clear h
      go_enter Try.func16, Try.ntmps16
      go_wp2_with fail
      go_ret
      exact ⟨O, rfl, HM0.out, Only.refl _ _, fun j hj => .inl hj⟩
    · obtain ⟨j, rfl⟩ : ∃ j : Nat, i = (j : Int) := ⟨i.toNat, by omega⟩
      have hj : ¬ j < s.hs.length := by omega
      clear h h0
      go_enter Try.func16, Try.ntmps16
      go_wp2_with fail
      go_ret
      exact ⟨O, rfl, HM0.out, Only.refl _ _, fun j hj => .inl hj⟩
  | true =>
    obtain ⟨j, rfl, hj⟩ := has_yes hb
    have hi : (j : Int) ≤ 1099511627776 := by have := hok.hl; omega
    obtain ⟨g, c, e3, h1, h2, hOg, c1, f1⟩ := H1.hold (j := j) (by rw [List.length_map]; exact hj)
    rw [getD_inc _ hj] at c1
    by_cases ho : at_ s.hs j = -1
    · by_cases ht0 : t < 0
      · have e1 : lockB s t j = false := by unfold lockB; rw [decide_eq_false (by omega)]; rfl
        have e2 : lockS s t j = s := by unfold lockS; rw [e1]; rfl
        rw [e1, e2]
        rw [at_nat] at ho
        rw [ho] at c1
        rw [List.length_map] at e3 h1
        subst e3
        have c0 := H1.blk.cell 1 _ rfl
        clear H1 e1 e2 ho hb hok hok2 hl hOg f1
        go_enter Try.func16, Try.ntmps16
        go_wp2_with fail
        go_ret
        exact ⟨O, rfl, HM0.out, Only.refl _ _, fun j hj => .inl hj⟩
      · have e1 : lockB s t j = true := by unfold lockB; rw [hb, ho, decide_eq_true (by omega)]; rfl
        have e2 : lockS s t j = say { s with hs := s.hs.set (j : Int).toNat t } t 1 (3 * j + 1) := by unfold lockS; rw [e1, if_pos rfl]
        rw [e2] at hok2
        rw [e1, e2]
        rw [Int.toNat_natCast] at hok2 ⊢
        rw [at_nat] at ho
        rw [ho] at c1
        have H2 := H1.setH e3 j (t + 1)
        rw [set_inc] at H2
        have HR := Lib.hid (say_any H2 t 1 (3 * j + 1) hl)
        rw [List.length_map] at e3 h1
        subst e3
        have c0 := H1.blk.cell 1 _ rfl
        have HO1 := Lib.hid ((Only.refl O w).setCell (p := ⟨g, j, none⟩) (.inl hOg) (.int .u64 (t + 1)))
        have HK := Lib.hid hok2
        clear H1 H2 e1 e2 ho hb hok hok2 hl hOg HM0
        go_enter Try.func16, Try.ntmps16
        go_wp2_with fail
        go_at_call 34
        refine HR.out.mono ?_
        rintro e w1 ⟨O', v, rfl, hm, ho, hO⟩
        have HM : Hid (RAt w1 O' B (say { s with hs := s.hs.set j t } t 1 (3 * j + 1))) := ⟨⟨_, _, _, hm⟩, HK.out⟩
        have HD : Hid (Only O w w1 ∧ ∀ j, O' j → O j ∨ w.heap.size ≤ j) := does_after HO1.out ho hO
        clear hm ho hO
        go_wp2_with fail
        go_ret
        exact ⟨O', rfl, HM.out, HD.out⟩
    · have e1 : lockB s t j = false := by unfold lockB; rw [hb]; simpa using fun _ => ho
      have e2 : lockS s t j = s := by unfold lockS; rw [e1]; rfl
      rw [e1, e2]
      rw [at_nat] at ho
      rw [List.length_map] at e3 h1
      subst e3
      have c0 := H1.blk.cell 1 _ rfl
      have y0 := hok.hat hj
      generalize s.hs.getD j 0 = x at *
      obtain ⟨y, rfl⟩ : ∃ y, x = y - 1 := ⟨x + 1, by omega⟩
      rw [show y - 1 + 1 = y by omega] at c1
      have d1 : (y != 0) = true := by have : y ≠ 0 := by omega
                                      simpa using this
      clear H1 e1 e2 ho hb hok hok2 hl hOg f1 y0
      go_enter Try.func16, Try.ntmps16
      go_wp2_with fail
      go_ret
      exact ⟨O, rfl, HM0.out, Only.refl _ _, fun j hj => .inl hj⟩
set_option maxHeartbeats 1000000 in
theorem refUnlock_any (H : RAt w O B s) (t i : Int) (ht : t ≤ 9223372036854775807) (hl : s.ls.length ≤ 1000000000000) :
    Calls Try.prog 18 #[ptr B, .int .i64 t, .int .i64 i] w (RDoes w O B (.int .i64 (unlockV s t i)) (unlockS s t i)) := by
  have hok2 := H.2.unlock t i
  have HM0 := Lib.hid H
  obtain ⟨⟨vw, vh, vl, H1⟩, hok⟩ := H
  cases hb : has s.hs.length i with
  | false =>
    have e1 : unlockV s t i = 15 := by unfold unlockV; rw [hb]; rfl
    have e2 : unlockS s t i = s := by unfold unlockS; rw [e1]; rfl
    rw [e1, e2]
    obtain ⟨A, c, e3, hc1, hc2⟩ := H1.len1
    rw [List.length_map] at e3 hc1
    subst e3
    have c0 := H1.blk.cell 1 _ rfl
    have h := has_no hb
    clear H1 e1 e2 hl ht hb hok hok2
    by_cases h0 : i < 0
    · clear h
      go_enter Try.func18, Try.ntmps18
      go_wp2_with fail
      go_ret
      exact ⟨O, rfl, HM0.out, Only.refl _ _, fun j hj => .inl hj⟩
    · obtain ⟨j, rfl⟩ : ∃ j : Nat, i = (j : Int) := ⟨i.toNat, by omega⟩
      have hj : ¬ j < s.hs.length := by omega
      clear h h0
      go_enter Try.func18, Try.ntmps18
      go_wp2_with fail
      go_ret
      exact ⟨O, rfl, HM0.out, Only.refl _ _, fun j hj => .inl hj⟩
  | true =>
    obtain ⟨j, rfl, hj⟩ := has_yes hb
    have hi : (j : Int) ≤ 1099511627776 := by have := hok.hl; omega
    obtain ⟨g, c, e3, h1, h2, hOg, c1, f1⟩ := H1.hold (j := j) (by rw [List.length_map]; exact hj)
    rw [getD_inc _ hj] at c1
    by_cases hbad : t < 0 ∨ at_ s.hs j ≠ t
    · have e1 : unlockV s t j = 13 := by unfold unlockV; rw [hb, if_neg (by simp), if_pos hbad]
      have e2 : unlockS s t j = s := by unfold unlockS; rw [e1]; rfl
      rw [e1, e2]
      rw [at_nat] at hbad
      rw [List.length_map] at e3 h1
      subst e3
      have c0 := H1.blk.cell 1 _ rfl
      have y0 := hok.hat hj
      generalize s.hs.getD j 0 = x at *
      clear H1 e1 e2 hb hok hok2 hl hOg f1
      by_cases ht0 : t < 0
      · clear hbad
        go_enter Try.func18, Try.ntmps18
        go_wp2_with fail
        go_ret
        exact ⟨O, rfl, HM0.out, Only.refl _ _, fun j hj => .inl hj⟩
      · obtain ⟨y, rfl⟩ : ∃ y, x = y - 1 := ⟨x + 1, by omega⟩
        rw [show y - 1 + 1 = y by omega] at c1
        have d1 : (y != t + 1) = true := by have : y ≠ t + 1 := by omega
                                            simpa using this
        have ht1 : 0 ≤ t := by omega
        clear hbad y0 ht0
        go_enter Try.func18, Try.ntmps18
        go_wp2_with fail
        go_ret
        exact ⟨O, rfl, HM0.out, Only.refl _ _, fun j hj => .inl hj⟩
    · have e1 : unlockV s t j = 0 := by unfold unlockV; rw [hb, if_neg (by simp), if_neg hbad]
      have e2 : unlockS s t j = say { s with hs := s.hs.set (j : Int).toNat (-1) } t 2 (3 * j + 1) := by unfold unlockS; rw [e1, if_pos rfl]
      rw [e2] at hok2
      rw [e1, e2]
      rw [Int.toNat_natCast] at hok2 ⊢
      rw [at_nat] at hbad
      have ht1 : 0 ≤ t := by omega
      rw [show s.hs.getD j 0 = t by omega] at c1
      have H2 := H1.setH e3 j (-1 + 1)
      rw [set_inc] at H2
      have HR := Lib.hid (say_any H2 t 2 (3 * j + 1) hl)
      rw [List.length_map] at e3 h1
      subst e3
      have c0 := H1.blk.cell 1 _ rfl
      have HO1 := Lib.hid ((Only.refl O w).setCell (p := ⟨g, j, none⟩) (.inl hOg) (.int .u64 0))
      have HK := Lib.hid hok2
      have d1 : (t + 1 != t + 1) = false := by simp
      clear H1 H2 e1 e2 hbad hb hok hok2 hl hOg HM0
      go_enter Try.func18, Try.ntmps18
      go_wp2_with fail
      go_at_call 34
      refine HR.out.mono ?_
      rintro e w1 ⟨O', v, rfl, hm, ho, hO⟩
      have HM : Hid (RAt w1 O' B (say { s with hs := s.hs.set j (-1) } t 2 (3 * j + 1))) := ⟨⟨_, _, _, hm⟩, HK.out⟩
      have HD : Hid (Only O w w1 ∧ ∀ j, O' j → O j ∨ w.heap.size ≤ j) := does_after HO1.out ho hO
      clear hm ho hO
      go_wp2_with fail
      go_ret
      exact ⟨O', rfl, HM.out, HD.out⟩
set_option maxHeartbeats 1000000 in
theorem refTouch_any (H : RAt w O B s) (t k i : Int) (hl : s.ls.length ≤ 1000000000000) :
    Calls Try.prog 20 #[ptr B, .int .i64 t, .int .i64 k, .int .i64 i] w (RDoes w O B (.tuple #[]) (touchS s t k i)) := by
  have hok2 := H.2.touch t k i
  have HM0 := Lib.hid H
  obtain ⟨⟨vw, vh, vl, H1⟩, hok⟩ := H
  by_cases hi : 0 ≤ i ∧ i ≤ 1099511627776
  · have e2 : touchS s t k i = say s t k (3 * i + 2) := if_pos hi
    rw [e2] at hok2 ⊢
    have HR := Lib.hid (say_any H1 t k (3 * i + 2) hl)
    have HK := Lib.hid hok2
    obtain ⟨i0, i1⟩ := hi
    clear H1 e2 hok hok2 hl HM0
    go_enter Try.func20, Try.ntmps20
    go_wp2_with fail
    go_at_call 34
    refine HR.out.mono ?_
    rintro e w1 ⟨O', v, rfl, hm, ho, hO⟩
    have HM : Hid (RAt w1 O' B (say s t k (3 * i + 2))) := ⟨⟨_, _, _, hm⟩, HK.out⟩
    have HD : Hid (Only O w w1 ∧ ∀ j, O' j → O j ∨ w.heap.size ≤ j) := ⟨ho, hO⟩
    clear hm ho hO
    go_wp2_with fail
    go_end0
    exact ⟨O', rfl, HM.out, HD.out⟩
  · have e2 : touchS s t k i = s := if_neg hi
    rw [e2]
    clear H1 e2 hok hok2 hl
    by_cases h0 : i < 0
    · have d0 : decide (i ≥ 0) = false := by simpa using h0
      clear hi
      go_enter Try.func20, Try.ntmps20
      go_wp2_with fail
      go_end0
      exact ⟨O, rfl, HM0.out, Only.refl _ _, fun j hj => .inl hj⟩
    · have h1 : ¬ i ≤ 1099511627776 := by omega
      have h2 : 0 ≤ i := by omega
      clear hi h0
      go_enter Try.func20, Try.ntmps20
      go_wp2_with fail
      go_end0
      exact ⟨O, rfl, HM0.out, Only.refl _ _, fun j hj => .inl hj⟩
end
end Me
end Go.Proofs.Ytbikbccmnmbkfaa
