/- Layer 19: the contracts of the program's Swap, Lock, Unlock, Read, Write, More. -/
import Derived.Test.YtbikbccmnmbkfaaMemC
set_option linter.unusedVariables false
set_option linter.unusedSimpArgs false
set_option maxRecDepth 100000
namespace Go.Proofs.Ytbikbccmnmbkfaa
open Go.ChangeShapes Go.WideShapes Go.ChangeAt Go.RowKit Go.Mtl Go.Lib
namespace Me
open MemM
theorem does_after {O O' : Nat → Prop} {w w1 w2 : World} (h1 : Only O w w1) (h2 : Only O w1 w2) (hO : ∀ j, O' j → O j ∨ w1.heap.size ≤ j) : Only O w w2 ∧ ∀ j, O' j → O j ∨ w.heap.size ≤ j :=
  ⟨h1.trans h2 (fun j h => .inl h), fun j h => (hO j h).imp id (fun h => Nat.le_trans h1.size h)⟩
section
variable {w w' : World} {O O' : Nat → Prop} {B : Nat} {s : Ms}
set_option maxHeartbeats 1000000 in
theorem swap_any (H : MAt w O B s) (t i old now : Int) (hx : 0 ≤ now ∧ now ≤ 18446744073709551615) (hl : s.ls.length ≤ 1000000000000) :
    Calls Try.prog 13 #[ptr B, .int .i64 t, .int .i64 i, .int .u64 old, .int .u64 now] w (Does w O B (.bool (swapB s i old)) (swapS s t i old now)) := by
  have hok2 := H.2.swap t i old now hx
  obtain ⟨⟨vw, vh, vl, H1⟩, hok⟩ := H
  cases hb : has s.ws.length i with
  | false =>
    have e1 : swapB s i old = false := by unfold swapB; rw [hb]; rfl
    have e2 : swapS s t i old now = s := by unfold swapS; rw [hb]; rfl
    rw [e1, e2]
    have HC := Lib.hid (hasWord_any H1 i hb)
    have HM : Hid (MAt w O B s) := ⟨⟨vw, vh, vl, H1⟩, hok⟩
    clear H1 e1 e2 hb hok hok2
    go_enter Try.func13, Try.ntmps13
    go_wp2_with fail
    go_at_call 32
    refine HC.out.mono ?_
    rintro e w' ⟨rfl, rfl⟩
    go_wp2_with fail
    go_ret
    exact ⟨O, rfl, HM.out, Only.refl _ _, fun j hj => .inl hj⟩
  | true =>
    have HC := Lib.hid (hasWord_any H1 i hb)
    have hi : 0 ≤ i ∧ i ≤ 1099511627776 := by obtain ⟨j, rfl, hj⟩ := has_yes hb; have := hok.wl; omega
    by_cases ho : at_ s.ws i = old
    · have e1 : swapB s i old = true := by unfold swapB; rw [hb, ho]; simp
      have e2 : swapS s t i old now = say { s with ws := s.ws.set i.toNat now } t 4 (3 * i) := by unfold swapS; rw [hb, if_pos rfl, if_pos ho]
      rw [e2] at hok2
      rw [e1, e2]
      obtain ⟨j, rfl, hj⟩ := has_yes hb
      rw [at_nat] at ho
      rw [Int.toNat_natCast] at hok2 ⊢
      obtain ⟨g, c, rfl, h1, h2, hOg, c1, f1⟩ := H1.word hj
      rw [ho] at c1
      have c0 := H1.blk.cell 0 _ rfl
      have H2 := H1.setW rfl j now
      have HR := Lib.hid (record_any H2 t 4 j 0 (3 * j) hi (by omega) (by omega) hl)
      have HO1 := Lib.hid ((Only.refl O w).setCell (p := ⟨g, j, none⟩) (.inl hOg) (.int .u64 now))
      have HK := Lib.hid hok2
      clear H1 H2 e1 e2 ho hb hok hok2 hi hl hOg hx
      go_enter Try.func13, Try.ntmps13
      go_wp2_with fail
      go_at_call 32
      refine HC.out.mono ?_
      rintro e w' ⟨rfl, rfl⟩
      go_wp2_with fail
      go_at_call 33
      refine HR.out.mono ?_
      rintro e w1 ⟨O', v, rfl, hm, ho, hO⟩
      have HM : Hid (MAt w1 O' B (say { s with ws := s.ws.set j now } t 4 (3 * j))) := ⟨⟨_, _, _, hm⟩, HK.out⟩
      have HD := Lib.hid (does_after HO1.out ho hO)
      clear hm ho hO
      go_wp2_with fail
      go_ret
      exact ⟨O', rfl, HM.out, HD.out⟩
    · have e1 : swapB s i old = false := by unfold swapB; rw [hb]; simpa using ho
      have e2 : swapS s t i old now = say s t 3 (3 * i) := by unfold swapS; rw [hb, if_pos rfl, if_neg ho]
      rw [e2] at hok2
      rw [e1, e2]
      have HR := Lib.hid (record_any H1 t 3 i 0 (3 * i) hi (by omega) (by omega) hl)
      obtain ⟨j, rfl, hj⟩ := has_yes hb
      rw [at_nat] at ho
      obtain ⟨g, c, rfl, h1, h2, hOg, c1, f1⟩ := H1.word hj
      generalize s.ws.getD j 0 = x at *
      have d1 : (x != old) = true := by simpa using ho
      have c0 := H1.blk.cell 0 _ rfl
      have HK := Lib.hid hok2
      clear H1 e1 e2 ho hb hok hok2 hi hl hOg hx f1
      go_enter Try.func13, Try.ntmps13
      go_wp2_with fail
      go_at_call 32
      refine HC.out.mono ?_
      rintro e w' ⟨rfl, rfl⟩
      go_wp2_with fail
      go_at_call 33
      refine HR.out.mono ?_
      rintro e w1 ⟨O', v, rfl, hm, ho, hO⟩
      have HM : Hid (MAt w1 O' B (say s t 3 (3 * j))) := ⟨⟨_, _, _, hm⟩, HK.out⟩
      have HD : Hid (Only O w w1 ∧ ∀ j, O' j → O j ∨ w.heap.size ≤ j) := ⟨ho, hO⟩
      clear hm ho hO c0 c1
      go_wp2_with fail
      go_ret
      exact ⟨O', rfl, HM.out, HD.out⟩
set_option maxHeartbeats 1000000 in
theorem lock_any (H : MAt w O B s) (t i : Int) (ht : t ≤ 9223372036854775807) (hl : s.ls.length ≤ 1000000000000) :
    Calls Try.prog 15 #[ptr B, .int .i64 t, .int .i64 i] w (Does w O B (.bool (lockB s t i)) (lockS s t i)) := by
  have hok2 := H.2.lock t i ht
  have HM0 := Lib.hid H
  obtain ⟨⟨vw, vh, vl, H1⟩, hok⟩ := H
  by_cases ht0 : t < 0
  · have e1 : lockB s t i = false := by unfold lockB; rw [decide_eq_false (by omega)]; rfl
    have e2 : lockS s t i = s := by unfold lockS; rw [e1]; rfl
    rw [e1, e2]
    clear H1 e1 e2 hok hok2
    go_enter Try.func15, Try.ntmps15
    go_wp2_with fail
    go_ret
    exact ⟨O, rfl, HM0.out, Only.refl _ _, fun j hj => .inl hj⟩
  · cases hb : has s.hs.length i with
    | false =>
      have e1 : lockB s t i = false := by unfold lockB; rw [hb]; simp
      have e2 : lockS s t i = s := by unfold lockS; rw [e1]; rfl
      rw [e1, e2]
      have HC := Lib.hid (hasLock_any H1 i hb)
      clear H1 e1 e2 hb hok hok2
      go_enter Try.func15, Try.ntmps15
      go_wp2_with fail
      go_at_call 35
      refine HC.out.mono ?_
      rintro e w' ⟨rfl, rfl⟩
      go_wp2_with fail
      go_ret
      exact ⟨O, rfl, HM0.out, Only.refl _ _, fun j hj => .inl hj⟩
    | true =>
      have HC := Lib.hid (hasLock_any H1 i hb)
      have hi : 0 ≤ i ∧ i ≤ 1099511627776 := by obtain ⟨j, rfl, hj⟩ := has_yes hb; have := hok.hl; omega
      by_cases ho : at_ s.hs i = -1
      · have e1 : lockB s t i = true := by unfold lockB; rw [hb, ho, decide_eq_true (by omega)]; rfl
        have e2 : lockS s t i = say { s with hs := s.hs.set i.toNat t } t 1 (3 * i + 1) := by unfold lockS; rw [e1, if_pos rfl]
        rw [e2] at hok2
        rw [e1, e2]
        obtain ⟨j, rfl, hj⟩ := has_yes hb
        rw [at_nat] at ho
        rw [Int.toNat_natCast] at hok2 ⊢
        obtain ⟨g, c, rfl, h1, h2, hOg, c1, f1⟩ := H1.hold hj
        rw [ho] at c1
        have c0 := H1.blk.cell 1 _ rfl
        have H2 := H1.setH rfl j t
        have HR := Lib.hid (record_any H2 t 1 j 1 (3 * j + 1) hi (by omega) (by omega) hl)
        have HO1 := Lib.hid ((Only.refl O w).setCell (p := ⟨g, j, none⟩) (.inl hOg) (.int .i64 t))
        have HK := Lib.hid hok2
        clear H1 H2 e1 e2 ho hb hok hok2 hi hl hOg HM0
        go_enter Try.func15, Try.ntmps15
        go_wp2_with fail
        go_at_call 35
        refine HC.out.mono ?_
        rintro e w' ⟨rfl, rfl⟩
        go_wp2_with fail
        go_at_call 33
        refine HR.out.mono ?_
        rintro e w1 ⟨O', v, rfl, hm, ho, hO⟩
        have HM : Hid (MAt w1 O' B (say { s with hs := s.hs.set j t } t 1 (3 * j + 1))) := ⟨⟨_, _, _, hm⟩, HK.out⟩
        have HD := Lib.hid (does_after HO1.out ho hO)
        clear hm ho hO
        go_wp2_with fail
        go_ret
        exact ⟨O', rfl, HM.out, HD.out⟩
      · have e1 : lockB s t i = false := by unfold lockB; rw [hb]; simpa using fun _ => ho
        have e2 : lockS s t i = s := by unfold lockS; rw [e1]; rfl
        rw [e1, e2]
        obtain ⟨j, rfl, hj⟩ := has_yes hb
        rw [at_nat] at ho
        obtain ⟨g, c, rfl, h1, h2, hOg, c1, f1⟩ := H1.hold hj
        generalize s.hs.getD j 0 = x at *
        have d1 : (x != -1) = true := by simpa using ho
        have c0 := H1.blk.cell 1 _ rfl
        clear H1 e1 e2 ho hb hok hok2 hi hl hOg f1
        go_enter Try.func15, Try.ntmps15
        go_wp2_with fail
        go_at_call 35
        refine HC.out.mono ?_
        rintro e w' ⟨rfl, rfl⟩
        go_wp2_with fail
        go_ret
        exact ⟨O, rfl, HM0.out, Only.refl _ _, fun j hj => .inl hj⟩
set_option maxHeartbeats 1000000 in
theorem unlock_any (H : MAt w O B s) (t i : Int) (hl : s.ls.length ≤ 1000000000000) :
    Calls Try.prog 17 #[ptr B, .int .i64 t, .int .i64 i] w (Does w O B (.int .i64 (unlockV s t i)) (unlockS s t i)) := by
  have hok2 := H.2.unlock t i
  have HM0 := Lib.hid H
  obtain ⟨⟨vw, vh, vl, H1⟩, hok⟩ := H
  cases hb : has s.hs.length i with
  | false =>
    have e1 : unlockV s t i = 15 := by unfold unlockV; rw [hb]; rfl
    have e2 : unlockS s t i = s := by unfold unlockS; rw [e1]; rfl
    rw [e1, e2]
    have HC := Lib.hid (hasLock_any H1 i hb)
    clear H1 e1 e2 hb hok hok2
    go_enter Try.func17, Try.ntmps17
    go_wp2_with fail
    go_at_call 35
    refine HC.out.mono ?_
    rintro e w' ⟨rfl, rfl⟩
    go_wp2_with fail
    go_ret
    exact ⟨O, rfl, HM0.out, Only.refl _ _, fun j hj => .inl hj⟩
  | true =>
    have HC := Lib.hid (hasLock_any H1 i hb)
    have hi : 0 ≤ i ∧ i ≤ 1099511627776 := by obtain ⟨j, rfl, hj⟩ := has_yes hb; have := hok.hl; omega
    by_cases hbad : t < 0 ∨ at_ s.hs i ≠ t
    · have e1 : unlockV s t i = 13 := by unfold unlockV; rw [hb, if_neg (by simp), if_pos hbad]
      have e2 : unlockS s t i = s := by unfold unlockS; rw [e1]; rfl
      rw [e1, e2]
      obtain ⟨j, rfl, hj⟩ := has_yes hb
      rw [at_nat] at hbad
      obtain ⟨g, c, rfl, h1, h2, hOg, c1, f1⟩ := H1.hold hj
      generalize s.hs.getD j 0 = x at *
      have c0 := H1.blk.cell 1 _ rfl
      clear H1 e1 e2 hb hok hok2 hi hl hOg f1
      by_cases ht0 : t < 0
      · clear hbad
        go_enter Try.func17, Try.ntmps17
        go_wp2_with fail
        go_at_call 35
        refine HC.out.mono ?_
        rintro e w' ⟨rfl, rfl⟩
        go_wp2_with fail
        go_ret
        exact ⟨O, rfl, HM0.out, Only.refl _ _, fun j hj => .inl hj⟩
      · have d1 : (x != t) = true := by simpa using hbad.resolve_left ht0
        clear hbad
        go_enter Try.func17, Try.ntmps17
        go_wp2_with fail
        go_at_call 35
        refine HC.out.mono ?_
        rintro e w' ⟨rfl, rfl⟩
        go_wp2_with fail
        go_ret
        exact ⟨O, rfl, HM0.out, Only.refl _ _, fun j hj => .inl hj⟩
    · have e1 : unlockV s t i = 0 := by unfold unlockV; rw [hb, if_neg (by simp), if_neg hbad]
      have e2 : unlockS s t i = say { s with hs := s.hs.set i.toNat (-1) } t 2 (3 * i + 1) := by unfold unlockS; rw [e1, if_pos rfl]
      rw [e2] at hok2
      rw [e1, e2]
      obtain ⟨j, rfl, hj⟩ := has_yes hb
      rw [at_nat] at hbad
      rw [Int.toNat_natCast] at hok2 ⊢
      obtain ⟨g, c, rfl, h1, h2, hOg, c1, f1⟩ := H1.hold hj
      have ht0 : ¬ t < 0 := by omega
      rw [show s.hs.getD j 0 = t by omega] at c1
      have c0 := H1.blk.cell 1 _ rfl
      have H2 := H1.setH rfl j (-1)
      have HR := Lib.hid (record_any H2 t 2 j 1 (3 * j + 1) hi (by omega) (by omega) hl)
      have HO1 := Lib.hid ((Only.refl O w).setCell (p := ⟨g, j, none⟩) (.inl hOg) (.int .i64 (-1)))
      have HK := Lib.hid hok2
      clear H1 H2 e1 e2 hbad hb hok hok2 hi hl hOg HM0
      go_enter Try.func17, Try.ntmps17
      go_wp2_with fail
      go_at_call 35
      refine HC.out.mono ?_
      rintro e w' ⟨rfl, rfl⟩
      go_wp2_with fail
      go_at_call 33
      refine HR.out.mono ?_
      rintro e w1 ⟨O', v, rfl, hm, ho, hO⟩
      have HM : Hid (MAt w1 O' B (say { s with hs := s.hs.set j (-1) } t 2 (3 * j + 1))) := ⟨⟨_, _, _, hm⟩, HK.out⟩
      have HD := Lib.hid (does_after HO1.out ho hO)
      clear hm ho hO
      go_wp2_with fail
      go_ret
      exact ⟨O', rfl, HM.out, HD.out⟩
set_option maxHeartbeats 1000000 in
theorem touch_any (H : MAt w O B s) (t k i : Int) (hl : s.ls.length ≤ 1000000000000) :
    Calls Try.prog 36 #[ptr B, .int .i64 t, .int .i64 k, .int .i64 i] w (Does w O B (.tuple #[]) (touchS s t k i)) := by
  have hok2 := H.2.touch t k i
  have HM0 := Lib.hid H
  obtain ⟨⟨vw, vh, vl, H1⟩, hok⟩ := H
  by_cases hi : 0 ≤ i ∧ i ≤ 1099511627776
  · have e2 : touchS s t k i = say s t k (3 * i + 2) := if_pos hi
    rw [e2] at hok2 ⊢
    have HR := Lib.hid (record_any H1 t k i 2 (3 * i + 2) hi (by omega) (by omega) hl)
    have HK := Lib.hid hok2
    obtain ⟨i0, i1⟩ := hi
    clear H1 e2 hok hok2 hl HM0
    go_enter Try.func36, Try.ntmps36
    go_wp2_with fail
    go_at_call 33
    refine HR.out.mono ?_
    rintro e w1 ⟨O', v, rfl, hm, ho, hO⟩
    have HM : Hid (MAt w1 O' B (say s t k (3 * i + 2))) := ⟨⟨_, _, _, hm⟩, HK.out⟩
    have HD : Hid (Only O w w1 ∧ ∀ j, O' j → O j ∨ w.heap.size ≤ j) := ⟨ho, hO⟩
    clear hm ho hO
    go_wp2_with fail
    go_end0
    exact ⟨O', rfl, HM.out, HD.out⟩
  · have e2 : touchS s t k i = s := if_neg hi
    rw [e2]
    clear H1 e2 hok hok2 hl
    by_cases h0 : i < 0
    · have d0 : decide (i ≥ 0) = false := by simpa using h0
      clear hi
      go_enter Try.func36, Try.ntmps36
      go_wp2_with fail
      go_end0
      exact ⟨O, rfl, HM0.out, Only.refl _ _, fun j hj => .inl hj⟩
    · have h1 : ¬ i ≤ 1099511627776 := by omega
      have h2 : 0 ≤ i := by omega
      clear hi h0
      go_enter Try.func36, Try.ntmps36
      go_wp2_with fail
      go_end0
      exact ⟨O, rfl, HM0.out, Only.refl _ _, fun j hj => .inl hj⟩
theorem read_any (H : MAt w O B s) (t i : Int) (hl : s.ls.length ≤ 1000000000000) : Calls Try.prog 19 #[ptr B, .int .i64 t, .int .i64 i] w (Does w O B (.tuple #[]) (touchS s t 5 i)) := by
  have HT := Lib.hid (touch_any H t 5 i hl)
  clear H hl
  go_enter Try.func19, Try.ntmps19
  go_wp2_with fail
  go_at_call 36
  refine HT.out.mono ?_
  rintro e w1 ⟨O', rfl, hm, ho, hO⟩
  have HD : Hid (MAt w1 O' B (touchS s t 5 i) ∧ Only O w w1 ∧ ∀ j, O' j → O j ∨ w.heap.size ≤ j) := ⟨hm, ho, hO⟩
  clear hm ho hO
  go_wp2_with fail
  go_end0
  exact ⟨O', rfl, HD.out⟩
theorem write_any (H : MAt w O B s) (t i : Int) (hl : s.ls.length ≤ 1000000000000) : Calls Try.prog 21 #[ptr B, .int .i64 t, .int .i64 i] w (Does w O B (.tuple #[]) (touchS s t 6 i)) := by
  have HT := Lib.hid (touch_any H t 6 i hl)
  clear H hl
  go_enter Try.func21, Try.ntmps21
  go_wp2_with fail
  go_at_call 36
  refine HT.out.mono ?_
  rintro e w1 ⟨O', rfl, hm, ho, hO⟩
  have HD : Hid (MAt w1 O' B (touchS s t 6 i) ∧ Only O w w1 ∧ ∀ j, O' j → O j ∨ w.heap.size ≤ j) := ⟨hm, ho, hO⟩
  clear hm ho hO
  go_wp2_with fail
  go_end0
  exact ⟨O', rfl, HD.out⟩
set_option maxHeartbeats 1000000 in
theorem more_any (H : MAt w O B s) (x : Int) (hx : 0 ≤ x ∧ x ≤ 18446744073709551615) (hl : s.ws.length < 1000000000000) :
    Calls Try.prog 9 #[ptr B, .int .u64 x] w (Does w O B (.int .i64 (s.ws.length : Int)) (moreS s x)) := by
  have hok2 := H.2.more hx hl
  obtain ⟨⟨vw, vh, vl, H1⟩, hok⟩ := H
  obtain ⟨Al, cl, rfl, hc1, hc2⟩ := H1.len0
  have c0 := H1.blk.cell 0 _ rfl
  have HH := Lib.hid H1
  have HK := Lib.hid hok2
  have HLL : Hid (s.ws.length ≤ 1000000000000) := Lib.hid (by omega)
  clear H1 hok hok2 hx
  go_enter Try.func9, Try.ntmps9
  go_wp2_with (at_builtin; refine wpList_push (s.ws.length + 1) rfl _ _ 41 27 rfl Try.underlying41 (.int .u64 0) 1 8 info_word rfl (by omega) (by omega) _ _ _ rfl HH.out.wr [.int .u64 x] rfl (by simp [Value.oneCell']) rfl rfl HLL.out ?_; intro A' c' w1 h1 h2 h3; have HB1 := HH.out.grownW h2.out; clear c0; have c0 := HB1.cell 0 _ rfl; have f0 := HB1.frozen 0; clear HB1)
  go_ret
  have HP := HH.out.pushW (x := x) h1.out h2.out h3.out
  exact ⟨_, by congr 2, ⟨⟨_, _, _, HP.1⟩, HK.out⟩, HP.2, fun j hj => hj.imp id (fun h => h.1)⟩
end
end Me
end Go.Proofs.Ytbikbccmnmbkfaa
