/- Several texts of this proof in one file, each in its own namespace. -/
import Derived.Test.YtgcnhbjoalemlaaJ32
import Derived.Test.YtgcnhbjoalemlaaJ9
import Derived.Test.YtgcnhbjoalemlaaAutU
import Derived.Test.YtgcnhbjoalemlaaJ25
/- Layer 20: the program's stripeOf, Find, Put, Remove. (Written by wip/tools/mkTabB.py.) -/
set_option linter.unusedVariables false
set_option linter.unusedSimpArgs false
set_option maxRecDepth 100000
namespace Go.Proofs.Ytgcnhbjoalemlaa
open Go.ChangeShapes Go.WideShapes Go.ChangeAt Go.RowKit Go.Mtl Go.Lib
namespace Tb
open TabM
open KeyM (isPow hashN strN)
open MemM (Ms holdV touchS)
open Me (ptr)
theorem below_box (w : World) (o : Obj) : Below w.heap.size w (w.alloc o) := (Below.refl _ w).alloc (Nat.le_refl _) o
theorem str_is {n : Nat} (hn : isPow (n : Int) = true) (k : AutM.Ke) : strN (hashN k.a k.b k.p k.q k.r) (n : Int) = ((sOf n k : Nat) : Int) := by
  rw [KeyM.strN_yes hn]
  unfold sOf
  omega
section
variable {w : Fw} {W : World} {Om Ot : Nat → Prop} {mb B : Nat} {ms : Ms} {n : Nat} {fs : List Fl}
set_option maxHeartbeats 2000000 in
theorem stripeOf_any (H : TM w Om Ot mb B ms n fs W) (t : Int) (k : AutM.Ke) (hk : k.Ok) (i : Nat) (hi : sOf n k = i) (vi ve : Int) (hv : (heldB ms t (i : Int) = true ∧ vi = (i : Int) ∧ ve = 0) ∨ (heldB ms t (i : Int) = false ∧ vi = 0 ∧ ve = 13)) :
    Calls Try.prog 36 #[ptr B, .int .i64 t, Au.kyV k] W fun e w' => e = .returned (.tuple #[.int .i64 vi, .int .i64 ve]) ∧ Below W.heap.size W w' := by
  have HST : Hid (∀ W, Calls Try.prog 50 #[.agg (Ky.kyc k.a k.b k.p k.q k.r), .int .i64 (n : Int)] W fun e w' => e = .returned (.int .i64 (i : Int)) ∧ Below W.heap.size W w') := fun W =>
    Ky.stripe_any k.a k.b k.p k.q k.r (n : Int) hk.a hk.b hk.p hk.q hk.r _ rfl _ (by rw [str_is H.tab.2.2, hi]) W
  have HX := Lib.hid (Blk.box W (Ky.kyc k.a k.b k.p k.q k.r) 37)
  have HB := Lib.hid (below_box W (.cells (Ky.kyc k.a k.b k.p k.q k.r) 37))
  have HH1 := Lib.hid (H.next (below_box W (.cells (Ky.kyc k.a k.b k.p k.q k.r) 37)))
  have hn1 : n ≤ 4096 := H.tab.pos.2
  clear H hk hi
  go_enter Try.func36, Try.ntmps36
  go_wp2_with fail
  obtain ⟨W1, hW1⟩ : ∃ v, W.alloc (.cells (Ky.kyc k.a k.b k.p k.q k.r) 37) = v := ⟨_, rfl⟩
  rw [hW1] at HX HB HH1 ⊢
  clear hW1
  obtain ⟨⟨S, M, htr⟩, _⟩ := HH1.out.tab
  have HTR := Lib.hid htr
  clear htr
  refine wp_region_held_drew (S := fun w' => Hid (Below W1.heap.size W1 w')) (by kernel_rfl) (Lib.hid (Below.refl _ W1).drew) (fun hH => ?_)
  refine wpAnyH_take (i := 0) (oi := ⟨some 11, _, _, _, _, _⟩) (v := ?v1) rfl (by kernel_rfl) (by kernel_rfl) (by kernel_rfl) (fun _ _ _ h => h) (Or.inl ⟨rfl, ?c1⟩) hH ?r1
  case c1 => (intro w' hS; obtain ⟨x0, x1, x2, x3, x4⟩ := Ky.ky_cells (HX.out.next hS.out); go_simp; (try with_reducible rfl))
  try simp only [Act.put, List.setIfInBounds_toArray, List.set_cons_zero, List.set_cons_succ]
  refine wpAnyH_take (i := 1) (oi := ⟨some 12, _, _, _, _, _⟩) (v := ?v2) rfl (by kernel_rfl) (by kernel_rfl) (by kernel_rfl) (fun _ _ _ h => h) (Or.inl ⟨rfl, ?c2⟩) hH ?r2
  case c2 => (intro w' _; go_simp; (try with_reducible rfl))
  try simp only [Act.put, List.setIfInBounds_toArray, List.set_cons_zero, List.set_cons_succ]
  refine wpAnyH_take (i := 2) (oi := ⟨some 13, _, _, _, _, _⟩) (v := ?v3) rfl (by kernel_rfl) (by kernel_rfl) (by kernel_rfl) (fun _ _ _ h => h) (Or.inl ⟨rfl, ?c3⟩) hH ?r3
  case c3 => (intro w' _; go_simp; (try with_reducible rfl))
  try simp only [Act.put, List.setIfInBounds_toArray, List.set_cons_zero, List.set_cons_succ]
  refine wpAnyH_take (i := 3) (oi := ⟨some 14, _, _, _, _, _⟩) (v := ?v4) rfl (by kernel_rfl) (by kernel_rfl) (by kernel_rfl) (fun _ _ _ h => h) (Or.inl ⟨rfl, ?c4⟩) hH ?r4
  case c4 => (intro w' _; go_simp; (try with_reducible rfl))
  try simp only [Act.put, List.setIfInBounds_toArray, List.set_cons_zero, List.set_cons_succ]
  refine wpAnyH_take (i := 4) (oi := ⟨some 15, _, _, _, _, _⟩) (v := ?v5) rfl (by kernel_rfl) (by kernel_rfl) (by kernel_rfl) (fun _ _ _ h => h) (Or.inl ⟨rfl, ?c5⟩) hH ?r5
  case c5 => (intro w' hS; have c1 := (HTR.out.next hS.out).blk.cell 1 _ rfl; go_simp; (try with_reducible rfl))
  try simp only [Act.put, List.setIfInBounds_toArray, List.set_cons_zero, List.set_cons_succ]
  refine wpAnyH_take (i := 5) (oi := ⟨some 16, _, _, _, _, _⟩) (v := ?v6) rfl (by kernel_rfl) (by kernel_rfl) (by kernel_rfl) (fun _ _ _ h => h) (Or.inl ⟨rfl, ?c6⟩) hH ?r6
  case c6 => (intro w' _; go_simp; (try with_reducible rfl))
  try simp only [Act.put, List.setIfInBounds_toArray, List.set_cons_zero, List.set_cons_succ]
  refine wpAnyH_ready (rs := [6]) (by kernel_rfl) (by simp) (AllReadyH.cons rfl (fun K hK => ?_) (AllReadyH.nil))
  go_simp
  go_at_call 50
  refine (HST.out _).mono ?_
  rintro e w2 ⟨rfl, hbp⟩
  refine hK.out _ _ (Lib.hid (hH.out.trans (hbp.mono hH.out.size))) (fun hH => ?_)
  clear hK K
  clear hbp
  try simp only [Act.put, List.setIfInBounds_toArray, List.set_cons_zero, List.set_cons_succ]
  refine wpAnyH_take (i := 7) (oi := ⟨some 8, _, _, _, _, _⟩) (v := ?v7) rfl (by kernel_rfl) (by kernel_rfl) (by kernel_rfl) (fun _ _ _ h => h) (Or.inl ⟨rfl, ?c7⟩) hH ?r7
  case c7 => (intro w' _; go_simp; (try with_reducible rfl))
  try simp only [Act.put, List.setIfInBounds_toArray, List.set_cons_zero, List.set_cons_succ]
  refine wpAnyH_done (by kernel_rfl) ?_ _
  have H2 := Lib.hid (HH1.out.next hH.out)
  have HB2 := Lib.hid (HB.out.trans (hH.out.mono HB.out.size))
  clear hH HH1 HTR HX HB
  go_wp2_with fail
  go_at_call 42
  refine (holds_any H2.out t (i : Int)).mono ?_
  rcases hv with ⟨hb, rfl, rfl⟩ | ⟨hb, rfl, rfl⟩
  · rw [hb]
    rintro e w3 ⟨rfl, rfl⟩
    clear hb
    go_wp2_with fail
    go_ret2
    exact ⟨rfl, HB2.out⟩
  · rw [hb]
    rintro e w3 ⟨rfl, rfl⟩
    clear hb
    go_wp2_with fail
    go_ret2
    exact ⟨rfl, HB2.out⟩
/-- The table at W1 with its parts, the key's box. -/
structure TQ (w : Fw) (Om Ot : Nat → Prop) (mb B : Nat) (ms : Ms) (n S : Nat) (M : Nat → Nat) (fs : List Fl) (k : AutM.Ke) (gk : Nat) (W : World) : Prop where
  tm : TM w Om Ot mb B ms n fs W
  tr : TR W Ot B mb n S M fs
  key : Blk W gk (Ky.kyc k.a k.b k.p k.q k.r) 37
  nk : ¬ Ot gk
end
section
variable {w : Fw} {W w' : World} {Om Ot O' : Nat → Prop} {mb B : Nat} {ms ms' : Ms} {n S : Nat} {M : Nat → Nat} {fs fs' : List Fl} {k : AutM.Ke} {gk : Nat}
theorem TQ.next (H : TQ w Om Ot mb B ms n S M fs k gk W) (hb : Below W.heap.size W w') : TQ w Om Ot mb B ms n S M fs k gk w' := ⟨H.tm.next hb, H.tr.next hb, H.key.next hb, H.nk⟩
theorem TQ.drew (H : TQ w Om Ot mb B ms n S M fs k gk W) : TQ w Om Ot mb B ms n S M fs k gk W.drew := H.next (Below.refl _ W).drew
theorem TM.parts (H : TM w Om Ot mb B ms n fs W) : ∃ S M, TR W Ot B mb n S M fs := H.tab.1
theorem TM.okf (H : TM w Om Ot mb B ms n fs W) : Oks fs := H.tab.2.1
end
section
variable {w : Fw} {W : World} {Om Ot : Nat → Prop} {mb B : Nat} {ms : Ms} {n : Nat} {fs : List Fl}
set_option maxHeartbeats 2000000 in
theorem find_no (H : TM w Om Ot mb B ms n fs W) (t : Int) (k : AutM.Ke) (hk : k.Ok) (i : Nat) (hi : sOf n k = i) (hh : heldB ms t (i : Int) = false) :
    Calls Try.prog 22 #[ptr B, .int .i64 t, Au.kyV k] W (Td w Ot mb B (.tuple #[.int .i64 0, .bool false, .bool false, .int .i64 13]) ms n fs) := by
  have HS : Hid (∀ W', TM w Om Ot mb B ms n fs W' → Calls Try.prog 36 #[ptr B, .int .i64 t, Au.kyV k] W' fun e w' => e = .returned (.tuple #[.int .i64 0, .int .i64 13]) ∧ Below W'.heap.size W' w') := fun W' h => stripeOf_any h t k hk i hi 0 13 (.inr ⟨hh, rfl, rfl⟩)
  have HX := Lib.hid (Blk.box W (Ky.kyc k.a k.b k.p k.q k.r) 37)
  have H1 := Lib.hid (H.next (below_box W (.cells (Ky.kyc k.a k.b k.p k.q k.r) 37)))
  clear H hk hi hh
  go_enter Try.func22, Try.ntmps22
  go_wp2_with fail
  go_at_call 36
  refine (HS.out _ H1.out).mono ?_
  rintro e w2 ⟨rfl, hb⟩
  have H2 := Lib.hid (H1.out.next hb)
  clear hb H1 HX
  go_wp2_with fail
  (try simp only [Exit.inBlock, Exit.then]); refine bodyPost_ret (results_four rfl _ _ _) rfl ?_
  exact ⟨_, rfl, H2.out⟩
set_option maxHeartbeats 2000000 in
theorem put_no (H : TM w Om Ot mb B ms n fs W) (t : Int) (k : AutM.Ke) (hk : k.Ok) (x : Int) (d : Bool) (i : Nat) (hi : sOf n k = i) (hh : heldB ms t (i : Int) = false) :
    Calls Try.prog 15 #[ptr B, .int .i64 t, Au.kyV k, .int .i64 x, .bool d] W (Td w Ot mb B (.int .i64 13) ms n fs) := by
  have HS : Hid (∀ W', TM w Om Ot mb B ms n fs W' → Calls Try.prog 36 #[ptr B, .int .i64 t, Au.kyV k] W' fun e w' => e = .returned (.tuple #[.int .i64 0, .int .i64 13]) ∧ Below W'.heap.size W' w') := fun W' h => stripeOf_any h t k hk i hi 0 13 (.inr ⟨hh, rfl, rfl⟩)
  have HX := Lib.hid (Blk.box W (Ky.kyc k.a k.b k.p k.q k.r) 37)
  have H1 := Lib.hid (H.next (below_box W (.cells (Ky.kyc k.a k.b k.p k.q k.r) 37)))
  clear H hk hi hh
  go_enter Try.func15, Try.ntmps15
  go_wp2_with fail
  go_at_call 36
  refine (HS.out _ H1.out).mono ?_
  rintro e w2 ⟨rfl, hb⟩
  have H2 := Lib.hid (H1.out.next hb)
  clear hb H1 HX
  go_wp2_with fail
  go_ret
  exact ⟨_, rfl, H2.out⟩
set_option maxHeartbeats 2000000 in
theorem remove_no (H : TM w Om Ot mb B ms n fs W) (t : Int) (k : AutM.Ke) (hk : k.Ok) (i : Nat) (hi : sOf n k = i) (hh : heldB ms t (i : Int) = false) :
    Calls Try.prog 17 #[ptr B, .int .i64 t, Au.kyV k] W (Td w Ot mb B (.int .i64 13) ms n fs) := by
  have HS : Hid (∀ W', TM w Om Ot mb B ms n fs W' → Calls Try.prog 36 #[ptr B, .int .i64 t, Au.kyV k] W' fun e w' => e = .returned (.tuple #[.int .i64 0, .int .i64 13]) ∧ Below W'.heap.size W' w') := fun W' h => stripeOf_any h t k hk i hi 0 13 (.inr ⟨hh, rfl, rfl⟩)
  have HX := Lib.hid (Blk.box W (Ky.kyc k.a k.b k.p k.q k.r) 37)
  have H1 := Lib.hid (H.next (below_box W (.cells (Ky.kyc k.a k.b k.p k.q k.r) 37)))
  clear H hk hi hh
  go_enter Try.func17, Try.ntmps17
  go_wp2_with fail
  go_at_call 36
  refine (HS.out _ H1.out).mono ?_
  rintro e w2 ⟨rfl, hb⟩
  have H2 := Lib.hid (H1.out.next hb)
  clear hb H1 HX
  go_wp2_with fail
  go_ret
  exact ⟨_, rfl, H2.out⟩
set_option maxHeartbeats 4000000 in
theorem find_yes (H : TM w Om Ot mb B ms n fs W) (hl : ms.ls.length ≤ 1000000000000) (t : Int) (k : AutM.Ke) (hk : k.Ok) (x : Int) (d b : Bool) (i : Nat) (hi : sOf n k = i) (hh : heldB ms t (i : Int) = true) (hf : (∃ f, find k fs = some f ∧ x = f.x ∧ d = f.dn ∧ b = true) ∨ (find k fs = none ∧ x = 0 ∧ d = false ∧ b = false)) :
    Calls Try.prog 22 #[ptr B, .int .i64 t, Au.kyV k] W (Td w Ot mb B (.tuple #[.int .i64 x, .bool d, .bool b, .int .i64 0]) (touchS ms t 5 (i : Int)) n fs) := by
  have HS : Hid (∀ W', TM w Om Ot mb B ms n fs W' → Calls Try.prog 36 #[ptr B, .int .i64 t, Au.kyV k] W' fun e w' => e = .returned (.tuple #[.int .i64 (i : Int), .int .i64 0]) ∧ Below W'.heap.size W' w') := fun W' h => stripeOf_any h t k hk i hi (i : Int) 0 (.inl ⟨hh, rfl, rfl⟩)
  have HX := Lib.hid (Blk.box W (Ky.kyc k.a k.b k.p k.q k.r) 37)
  have H1 := Lib.hid (H.next (below_box W (.cells (Ky.kyc k.a k.b k.p k.q k.r) 37)))
  have HOK := Lib.hid H.okf
  have hin : i < n := by have := sOf_lt (n := n) (by have := H.tab.pos; omega) k; omega
  have HI := Lib.hid hi
  have HLN := Lib.hid hl
  have HKN : Hid (¬ Ot W.heap.size) := fun e => Nat.lt_irrefl _ (H.tab.lt_ _ e)
  have HKM : Hid (¬ Om W.heap.size) := fun e => Nat.lt_irrefl _ (H.mem.lt _ e)
  have HKO := Lib.hid hk
  have HL : Hid (∀ w' m, MapAt w' m (part n i fs) → (Instr.lookup 79 (.map (some m)) (Au.kyV k) true).run Try.prog w' = .ok (.tuple #[enW x d, .bool b]) w') := fun w' m hm => by
    have hfp := find_part HOK.out (sOf n) k
    rw [hi] at hfp
    rcases hf with ⟨f, hf, rfl, rfl, rfl⟩ | ⟨hf, rfl, rfl, rfl⟩
    · exact look_some hm (oks_part HOK.out _ _) (hfp.trans hf)
    · exact look_none hm (oks_part HOK.out _ _) (hfp.trans hf)
  clear hf
  clear H hk hi hh hl
  go_enter Try.func22, Try.ntmps22
  go_wp2_with fail
  go_at_call 36
  refine (HS.out _ H1.out).mono ?_
  rintro e w2 ⟨rfl, hb⟩
  have H2 := Lib.hid (H1.out.next hb)
  have HX2 := Lib.hid (HX.out.next hb)
  clear hb H1 HX HS
  obtain ⟨⟨S, M, htr⟩, _⟩ := H2.out.tab
  have c0 := htr.blk.cell 0 _ rfl
  clear htr
  go_wp2_with fail
  clear c0
  go_at_call 43
  refine (Me.read_any H2.out.mem t (i : Int) HLN.out).mono ?_
  rintro e w3 ⟨Om2, rfl, hp, ho, hO⟩
  have H3 := Lib.hid (H2.out.left hp ho hO)
  have HX3 := Lib.hid (HX2.out.only ho HKM.out)
  clear hp ho hO H2 HX2
  obtain ⟨⟨S, M, htr⟩, _⟩ := H3.out.tab
  obtain ⟨gk, hgk⟩ : ∃ g, W.heap.size = g := ⟨_, rfl⟩
  rw [hgk] at HX3 HKN ⊢
  have HQ : Hid (TQ w Om2 Ot mb B (touchS ms t 5 (i : Int)) n S M fs k gk w3) := ⟨H3.out, htr, HX3.out, HKN.out⟩
  clear htr hgk HX3 H3
  go_wp2_with fail
  refine wp_region_held_drew (S := fun w' => Hid (TQ w Om2 Ot mb B (touchS ms t 5 (i : Int)) n S M fs k gk w')) (by kernel_rfl) (Lib.hid HQ.out.drew) (fun hH => ?_)
  refine wpAnyH_take (i := 0) (oi := ⟨some 30, _, _, _, _, _⟩) (v := ?v1) rfl (by kernel_rfl) (by kernel_rfl) (by kernel_rfl) (fun _ _ _ h => h) (Or.inl ⟨rfl, ?c1⟩) hH ?r1
  case c1 => (intro w' _; go_simp; (try with_reducible rfl))
  try simp only [Act.put, List.setIfInBounds_toArray, List.set_cons_zero, List.set_cons_succ]
  refine wpAnyH_take (i := 1) (oi := ⟨some 31, _, _, _, _, _⟩) (v := ?v2) rfl (by kernel_rfl) (by kernel_rfl) (by kernel_rfl) (fun _ _ _ h => h) (Or.inl ⟨rfl, ?c2⟩) hH ?r2
  case c2 => (intro w' _; go_simp; (try with_reducible rfl))
  try simp only [Act.put, List.setIfInBounds_toArray, List.set_cons_zero, List.set_cons_succ]
  refine wpAnyH_take (i := 2) (oi := ⟨some 32, _, _, _, _, _⟩) (v := ?v3) rfl (by kernel_rfl) (by kernel_rfl) (by kernel_rfl) (fun _ _ _ h => h) (Or.inl ⟨rfl, ?c3⟩) hH ?r3
  case c3 => (intro w' _; go_simp; (try with_reducible rfl))
  try simp only [Act.put, List.setIfInBounds_toArray, List.set_cons_zero, List.set_cons_succ]
  refine wpAnyH_take (i := 3) (oi := ⟨some 33, _, _, _, _, _⟩) (v := ?v4) rfl (by kernel_rfl) (by kernel_rfl) (by kernel_rfl) (fun _ _ _ h => h) (Or.inl ⟨rfl, ?c4⟩) hH ?r4
  case c4 => (intro w' hS; have c1 := hS.out.tr.blk.cell 1 _ rfl; go_simp; (try with_reducible rfl))
  try simp only [Act.put, List.setIfInBounds_toArray, List.set_cons_zero, List.set_cons_succ]
  refine wpAnyH_take (i := 4) (oi := ⟨some 34, _, _, _, _, _⟩) (v := ?v5) rfl (by kernel_rfl) (by kernel_rfl) (by kernel_rfl) (fun _ _ _ h => h) (Or.inl ⟨rfl, ?c5⟩) hH ?r5
  case c5 => (intro w' _; go_simp; (try with_reducible rfl))
  try simp only [Act.put, List.setIfInBounds_toArray, List.set_cons_zero, List.set_cons_succ]
  refine wpAnyH_take (i := 5) (oi := ⟨some 35, _, _, _, _, _⟩) (v := ?v6) rfl (by kernel_rfl) (by kernel_rfl) (by kernel_rfl) (fun _ _ _ h => h) (Or.inl ⟨rfl, ?c6⟩) hH ?r6
  case c6 => (intro w' hS; have hv := hin; go_simp; (try with_reducible rfl))
  try simp only [Act.put, List.setIfInBounds_toArray, List.set_cons_zero, List.set_cons_succ]
  refine wpAnyH_take (i := 6) (oi := ⟨some 36, _, _, _, _, _⟩) (v := ?v7) rfl (by kernel_rfl) (by kernel_rfl) (by kernel_rfl) (fun _ _ _ h => h) (Or.inl ⟨rfl, ?c7⟩) hH ?r7
  case c7 => (intro w' hS; have c1 := hS.out.tr.row i hin; go_simp; (try with_reducible rfl))
  try simp only [Act.put, List.setIfInBounds_toArray, List.set_cons_zero, List.set_cons_succ]
  refine wpAnyH_take (i := 7) (oi := ⟨some 37, _, _, _, _, _⟩) (v := ?v8) rfl (by kernel_rfl) (by kernel_rfl) (by kernel_rfl) (fun _ _ _ h => h) (Or.inl ⟨rfl, ?c8⟩) hH ?r8
  case c8 => (intro w' hS; obtain ⟨x0, x1, x2, x3, x4⟩ := Ky.ky_cells hS.out.key; go_simp; (try with_reducible rfl))
  try simp only [Act.put, List.setIfInBounds_toArray, List.set_cons_zero, List.set_cons_succ]
  refine wpAnyH_take (i := 8) (oi := ⟨some 38, _, _, _, _, _⟩) (v := ?v9) rfl (by kernel_rfl) (by kernel_rfl) (by kernel_rfl) (fun _ _ _ h => h) (Or.inl ⟨rfl, ?c9⟩) hH ?r9
  case c9 => (intro w' hS; go_simp; rw [HL.out w' _ (hS.out.tr.map i hin)]; simp only [Result.andThen_ok]; (try with_reducible rfl))
  try simp only [Act.put, List.setIfInBounds_toArray, List.set_cons_zero, List.set_cons_succ]
  refine wpAnyH_take (i := 9) (oi := ⟨some 29, _, _, _, _, _⟩) (v := ?v10) rfl (by kernel_rfl) (by kernel_rfl) (by kernel_rfl) (fun _ _ _ h => h) (Or.inl ⟨rfl, ?c10⟩) hH ?r10
  case c10 => (intro w' _; go_simp; (try with_reducible rfl))
  try simp only [Act.put, List.setIfInBounds_toArray, List.set_cons_zero, List.set_cons_succ]
  refine wpAnyH_take (i := 10) (oi := ⟨some 39, _, _, _, _, _⟩) (v := ?v11) rfl (by kernel_rfl) (by kernel_rfl) (by kernel_rfl) (fun _ _ _ h => h) (Or.inl ⟨rfl, ?c11⟩) hH ?r11
  case c11 => (intro w' _; go_simp; (try with_reducible rfl))
  try simp only [Act.put, List.setIfInBounds_toArray, List.set_cons_zero, List.set_cons_succ]
  refine wpAnyH_take (i := 11) (oi := ⟨some 40, _, _, _, _, _⟩) (v := ?v12) rfl (by kernel_rfl) (by kernel_rfl) (by kernel_rfl) (fun _ _ _ h => h) (Or.inl ⟨rfl, ?c12⟩) hH ?r12
  case c12 => (intro w' _; go_simp; (try with_reducible rfl))
  try simp only [Act.put, List.setIfInBounds_toArray, List.set_cons_zero, List.set_cons_succ]
  refine wpAnyH_ready (rs := [12]) (by kernel_rfl) (by simp) (AllReadyH.cons rfl (fun K hK => ?_) (AllReadyH.nil))
  go_simp
  have e0 := (Blk.box w3 #[.int .i64 0, .bool false] 91).drew.frozen 0
  have e1 := (Blk.box w3 #[.int .i64 0, .bool false] 91).drew.frozen 1
  refine hK.out _ _ (Lib.hid (hH.out.next (below_box _ _))) (fun hH => ?_)
  clear hK K
  try simp only [Act.put, List.setIfInBounds_toArray, List.set_cons_zero, List.set_cons_succ]
  refine wpAnyH_ready (rs := [13]) (by kernel_rfl) (by simp) (AllReadyH.cons rfl (fun K hK => ?_) (AllReadyH.nil))
  go_simp
  clear e0 e1
  refine hK.out _ _ (Lib.hid ((HQ.out.next (below_box _ _)).drew)) (fun hH => ?_)
  clear hK K
  have HE := Lib.hid (Blk.box w3 #[.int .i64 x, .bool d] 91).drew
  try simp only [Act.put, List.setIfInBounds_toArray, List.set_cons_zero, List.set_cons_succ]
  refine wpAnyH_take (i := 14) (oi := ⟨some 8, _, _, _, _, _⟩) (v := ?v13) rfl (by kernel_rfl) (by kernel_rfl) (by kernel_rfl) (fun _ _ _ h => h) (Or.inl ⟨rfl, ?c13⟩) hH ?r13
  case c13 => (intro w' _; go_simp; (try with_reducible rfl))
  try simp only [Act.put, List.setIfInBounds_toArray, List.set_cons_zero, List.set_cons_succ]
  refine wpAnyH_done (by kernel_rfl) ?_ _
  have HQ4 := hH
  clear hH
  obtain ⟨ge, hge⟩ : ∃ g, w3.heap.size = g := ⟨_, rfl⟩
  obtain ⟨w4, hw4⟩ : ∃ v, (w3.alloc (.cells #[.int .i64 x, .bool d] 91)).drew = v := ⟨_, rfl⟩
  rw [hge] at HE ⊢
  rw [hw4] at HE HQ4 ⊢
  clear hge hw4
  have HE4 := HE
  clear HE HQ
  go_wp2_with fail
  refine wp_region_held_drew (S := fun w' => Hid (Below w4.heap.size w4 w')) (by kernel_rfl) (Lib.hid (Below.refl _ w4).drew) (fun hH => ?_)
  refine wpAnyH_take (i := 0) (oi := ⟨some 41, _, _, _, _, _⟩) (v := ?v301) rfl (by kernel_rfl) (by kernel_rfl) (by kernel_rfl) (fun _ _ _ h => h) (Or.inl ⟨rfl, ?c301⟩) hH ?r301
  case c301 => (intro w' _; go_simp; (try with_reducible rfl))
  try simp only [Act.put, List.setIfInBounds_toArray, List.set_cons_zero, List.set_cons_succ]
  refine wpAnyH_take (i := 1) (oi := ⟨some 42, _, _, _, _, _⟩) (v := ?v302) rfl (by kernel_rfl) (by kernel_rfl) (by kernel_rfl) (fun _ _ _ h => h) (Or.inl ⟨rfl, ?c302⟩) hH ?r302
  case c302 => (intro w' hS; have y0 := HE4.out.next hS.out |>.cell 0 _ rfl; go_simp; (try with_reducible rfl))
  try simp only [Act.put, List.setIfInBounds_toArray, List.set_cons_zero, List.set_cons_succ]
  refine wpAnyH_take (i := 2) (oi := ⟨some 43, _, _, _, _, _⟩) (v := ?v303) rfl (by kernel_rfl) (by kernel_rfl) (by kernel_rfl) (fun _ _ _ h => h) (Or.inl ⟨rfl, ?c303⟩) hH ?r303
  case c303 => (intro w' _; go_simp; (try with_reducible rfl))
  try simp only [Act.put, List.setIfInBounds_toArray, List.set_cons_zero, List.set_cons_succ]
  refine wpAnyH_take (i := 3) (oi := ⟨some 44, _, _, _, _, _⟩) (v := ?v304) rfl (by kernel_rfl) (by kernel_rfl) (by kernel_rfl) (fun _ _ _ h => h) (Or.inl ⟨rfl, ?c304⟩) hH ?r304
  case c304 => (intro w' hS; have y1 := HE4.out.next hS.out |>.cell 1 _ rfl; go_simp; (try with_reducible rfl))
  try simp only [Act.put, List.setIfInBounds_toArray, List.set_cons_zero, List.set_cons_succ]
  refine wpAnyH_take (i := 4) (oi := ⟨some 45, _, _, _, _, _⟩) (v := ?v305) rfl (by kernel_rfl) (by kernel_rfl) (by kernel_rfl) (fun _ _ _ h => h) (Or.inl ⟨rfl, ?c305⟩) hH ?r305
  case c305 => (intro w' _; go_simp; (try with_reducible rfl))
  try simp only [Act.put, List.setIfInBounds_toArray, List.set_cons_zero, List.set_cons_succ]
  refine wpAnyH_take (i := 5) (oi := ⟨some 6, _, _, _, _, _⟩) (v := ?v306) rfl (by kernel_rfl) (by kernel_rfl) (by kernel_rfl) (fun _ _ _ h => h) (Or.inl ⟨rfl, ?c306⟩) hH ?r306
  case c306 => (intro w' _; go_simp; (try with_reducible rfl))
  try simp only [Act.put, List.setIfInBounds_toArray, List.set_cons_zero, List.set_cons_succ]
  refine wpAnyH_take (i := 6) (oi := ⟨some 7, _, _, _, _, _⟩) (v := ?v307) rfl (by kernel_rfl) (by kernel_rfl) (by kernel_rfl) (fun _ _ _ h => h) (Or.inl ⟨rfl, ?c307⟩) hH ?r307
  case c307 => (intro w' _; go_simp; (try with_reducible rfl))
  try simp only [Act.put, List.setIfInBounds_toArray, List.set_cons_zero, List.set_cons_succ]
  refine wpAnyH_take (i := 7) (oi := ⟨some 8, _, _, _, _, _⟩) (v := ?v308) rfl (by kernel_rfl) (by kernel_rfl) (by kernel_rfl) (fun _ _ _ h => h) (Or.inl ⟨rfl, ?c308⟩) hH ?r308
  case c308 => (intro w' _; go_simp; (try with_reducible rfl))
  try simp only [Act.put, List.setIfInBounds_toArray, List.set_cons_zero, List.set_cons_succ]
  refine wpAnyH_take (i := 8) (oi := ⟨some 9, _, _, _, _, _⟩) (v := ?v309) rfl (by kernel_rfl) (by kernel_rfl) (by kernel_rfl) (fun _ _ _ h => h) (Or.inl ⟨rfl, ?c309⟩) hH ?r309
  case c309 => (intro w' _; go_simp; (try with_reducible rfl))
  try simp only [Act.put, List.setIfInBounds_toArray, List.set_cons_zero, List.set_cons_succ]
  refine wpAnyH_done (by kernel_rfl) ?_ _
  have HR := Lib.hid (HQ4.out.tm.next hH.out)
  clear hH
  go_wp2_with fail
  (try simp only [Exit.inBlock, Exit.then])
  refine bodyPost_ret (results_four rfl _ _ _) rfl ?_
  exact ⟨_, rfl, HR.out⟩
set_option maxHeartbeats 4000000 in
theorem put_yes (H : TM w Om Ot mb B ms n fs W) (hl : ms.ls.length ≤ 1000000000000) (t : Int) (k : AutM.Ke) (hk : k.Ok) (x : Int) (d : Bool) (i : Nat) (hi : sOf n k = i) (hh : heldB ms t (i : Int) = true) (hx : -9223372036854775808 ≤ x ∧ x ≤ 9223372036854775807) :
    Calls Try.prog 15 #[ptr B, .int .i64 t, Au.kyV k, .int .i64 x, .bool d] W (Td w Ot mb B (.int .i64 0) (touchS ms t 6 (i : Int)) n (upd ⟨k, x, d⟩ fs)) := by
  have HS : Hid (∀ W', TM w Om Ot mb B ms n fs W' → Calls Try.prog 36 #[ptr B, .int .i64 t, Au.kyV k] W' fun e w' => e = .returned (.tuple #[.int .i64 (i : Int), .int .i64 0]) ∧ Below W'.heap.size W' w') := fun W' h => stripeOf_any h t k hk i hi (i : Int) 0 (.inl ⟨hh, rfl, rfl⟩)
  have HX := Lib.hid (Blk.box W (Ky.kyc k.a k.b k.p k.q k.r) 37)
  have H1 := Lib.hid (H.next (below_box W (.cells (Ky.kyc k.a k.b k.p k.q k.r) 37)))
  have HOK := Lib.hid H.okf
  have hin : i < n := by have := sOf_lt (n := n) (by have := H.tab.pos; omega) k; omega
  have HI := Lib.hid hi
  have HLN := Lib.hid hl
  have HKN : Hid (¬ Ot W.heap.size) := fun e => Nat.lt_irrefl _ (H.tab.lt_ _ e)
  have HKM : Hid (¬ Om W.heap.size) := fun e => Nat.lt_irrefl _ (H.mem.lt _ e)
  have HKO := Lib.hid hk
  have HXB := Lib.hid hx
  have HPU : Hid (∀ w1 m, MapAt w1 m (part n i fs) → ∃ w', (Instr.mapUpdate 79 (.map (some m)) (Au.kyV k) (enW x d)).run Try.prog w1 = .ok () w' ∧ MapAt w' m (part n i (upd ⟨k, x, d⟩ fs)) ∧ Only (· = m) w1 w') := fun w1 m hm => by
    have hfp := find_part HOK.out (sOf n) k
    have hpu := part_upd (c := sOf n) (g := ⟨k, x, d⟩) HOK.out
    rw [hi] at hfp
    simp only [hi] at hpu
    cases hf : find k fs with
    | some f =>
      obtain ⟨w', h1, h2, h3⟩ := run_put hm (oks_part HOK.out _ _) (g := ⟨k, x, d⟩) (f := f) (hfp.trans hf)
      rw [upd_some (g := ⟨k, x, d⟩) (hfp.trans hf)] at hpu
      exact ⟨w', h1, h2.perm hpu, h3⟩
    | none =>
      obtain ⟨w', h1, h2, h3⟩ := run_ins hm (oks_part HOK.out _ _) (g := ⟨k, x, d⟩) (hfp.trans hf)
      rw [upd_none (g := ⟨k, x, d⟩) (hfp.trans hf)] at hpu
      exact ⟨w', h1, h2.perm hpu, h3⟩
  clear hx
  clear H hk hi hh hl
  go_enter Try.func15, Try.ntmps15
  go_wp2_with fail
  go_at_call 36
  refine (HS.out _ H1.out).mono ?_
  rintro e w2 ⟨rfl, hb⟩
  have H2 := Lib.hid (H1.out.next hb)
  have HX2 := Lib.hid (HX.out.next hb)
  clear hb H1 HX HS
  obtain ⟨⟨S, M, htr⟩, _⟩ := H2.out.tab
  have c0 := htr.blk.cell 0 _ rfl
  clear htr
  go_wp2_with fail
  clear c0
  go_at_call 37
  refine (Me.write_any H2.out.mem t (i : Int) HLN.out).mono ?_
  rintro e w3 ⟨Om2, rfl, hp, ho, hO⟩
  have H3 := Lib.hid (H2.out.left hp ho hO)
  have HX3 := Lib.hid (HX2.out.only ho HKM.out)
  clear hp ho hO H2 HX2
  obtain ⟨⟨S, M, htr⟩, _⟩ := H3.out.tab
  obtain ⟨gk, hgk⟩ : ∃ g, W.heap.size = g := ⟨_, rfl⟩
  rw [hgk] at HX3 HKN ⊢
  have HQ : Hid (TQ w Om2 Ot mb B (touchS ms t 6 (i : Int)) n S M fs k gk w3) := ⟨H3.out, htr, HX3.out, HKN.out⟩
  clear htr hgk HX3 H3
  go_wp2_with fail
  refine region_e (S := fun w' => Hid (TQ w Om2 Ot mb B (touchS ms t 6 (i : Int)) n S M fs k gk w')) 11 (by kernel_rfl) (Lib.hid HQ.out.drew) (fun hH => ?_)
  refine anyE_take (i := 0) (oi := ⟨some 30, _, _, _, _, _⟩) (v := ?v1) rfl (by kernel_rfl) (by kernel_rfl) (by kernel_rfl) (by kernel_rfl) (fun _ _ _ h => h) (Or.inl ⟨rfl, ?c1⟩) hH ?r1
  case c1 => (intro w' _; go_simp; (try with_reducible rfl))
  try simp only [Act.put, List.setIfInBounds_toArray, List.set_cons_zero, List.set_cons_succ]
  refine anyE_take (i := 1) (oi := ⟨some 31, _, _, _, _, _⟩) (v := ?v2) rfl (by kernel_rfl) (by kernel_rfl) (by kernel_rfl) (by kernel_rfl) (fun _ _ _ h => h) (Or.inl ⟨rfl, ?c2⟩) hH ?r2
  case c2 => (intro w' _; go_simp; (try with_reducible rfl))
  try simp only [Act.put, List.setIfInBounds_toArray, List.set_cons_zero, List.set_cons_succ]
  refine anyE_take (i := 2) (oi := ⟨some 32, _, _, _, _, _⟩) (v := ?v3) rfl (by kernel_rfl) (by kernel_rfl) (by kernel_rfl) (by kernel_rfl) (fun _ _ _ h => h) (Or.inl ⟨rfl, ?c3⟩) hH ?r3
  case c3 => (intro w' _; go_simp; (try with_reducible rfl))
  try simp only [Act.put, List.setIfInBounds_toArray, List.set_cons_zero, List.set_cons_succ]
  refine anyE_take (i := 3) (oi := ⟨some 33, _, _, _, _, _⟩) (v := ?v4) rfl (by kernel_rfl) (by kernel_rfl) (by kernel_rfl) (by kernel_rfl) (fun _ _ _ h => h) (Or.inl ⟨rfl, ?c4⟩) hH ?r4
  case c4 => (intro w' hS; have c1 := hS.out.tr.blk.cell 1 _ rfl; go_simp; (try with_reducible rfl))
  try simp only [Act.put, List.setIfInBounds_toArray, List.set_cons_zero, List.set_cons_succ]
  refine anyE_take (i := 4) (oi := ⟨some 34, _, _, _, _, _⟩) (v := ?v5) rfl (by kernel_rfl) (by kernel_rfl) (by kernel_rfl) (by kernel_rfl) (fun _ _ _ h => h) (Or.inl ⟨rfl, ?c5⟩) hH ?r5
  case c5 => (intro w' _; go_simp; (try with_reducible rfl))
  try simp only [Act.put, List.setIfInBounds_toArray, List.set_cons_zero, List.set_cons_succ]
  refine anyE_take (i := 5) (oi := ⟨some 35, _, _, _, _, _⟩) (v := ?v6) rfl (by kernel_rfl) (by kernel_rfl) (by kernel_rfl) (by kernel_rfl) (fun _ _ _ h => h) (Or.inl ⟨rfl, ?c6⟩) hH ?r6
  case c6 => (intro w' hS; have hv := hin; go_simp; (try with_reducible rfl))
  try simp only [Act.put, List.setIfInBounds_toArray, List.set_cons_zero, List.set_cons_succ]
  refine anyE_take (i := 6) (oi := ⟨some 36, _, _, _, _, _⟩) (v := ?v7) rfl (by kernel_rfl) (by kernel_rfl) (by kernel_rfl) (by kernel_rfl) (fun _ _ _ h => h) (Or.inl ⟨rfl, ?c7⟩) hH ?r7
  case c7 => (intro w' hS; have c1 := hS.out.tr.row i hin; go_simp; (try with_reducible rfl))
  try simp only [Act.put, List.setIfInBounds_toArray, List.set_cons_zero, List.set_cons_succ]
  refine anyE_take (i := 7) (oi := ⟨some 37, _, _, _, _, _⟩) (v := ?v8) rfl (by kernel_rfl) (by kernel_rfl) (by kernel_rfl) (by kernel_rfl) (fun _ _ _ h => h) (Or.inl ⟨rfl, ?c8⟩) hH ?r8
  case c8 => (intro w' hS; obtain ⟨x0, x1, x2, x3, x4⟩ := Ky.ky_cells hS.out.key; go_simp; (try with_reducible rfl))
  try simp only [Act.put, List.setIfInBounds_toArray, List.set_cons_zero, List.set_cons_succ]
  refine anyE_take (i := 8) (oi := ⟨some 38, _, _, _, _, _⟩) (v := ?v9) rfl (by kernel_rfl) (by kernel_rfl) (by kernel_rfl) (by kernel_rfl) (fun _ _ _ h => h) (Or.inl ⟨rfl, ?c9⟩) hH ?r9
  case c9 => (intro w' _; go_simp; (try with_reducible rfl))
  try simp only [Act.put, List.setIfInBounds_toArray, List.set_cons_zero, List.set_cons_succ]
  refine anyE_take (i := 9) (oi := ⟨some 39, _, _, _, _, _⟩) (v := ?v10) rfl (by kernel_rfl) (by kernel_rfl) (by kernel_rfl) (by kernel_rfl) (fun _ _ _ h => h) (Or.inl ⟨rfl, ?c10⟩) hH ?r10
  case c10 => (intro w' _; go_simp; (try with_reducible rfl))
  try simp only [Act.put, List.setIfInBounds_toArray, List.set_cons_zero, List.set_cons_succ]
  refine anyE_take (i := 10) (oi := ⟨some 40, _, _, _, _, _⟩) (v := ?v11) rfl (by kernel_rfl) (by kernel_rfl) (by kernel_rfl) (by kernel_rfl) (fun _ _ _ h => h) (Or.inl ⟨rfl, ?c11⟩) hH ?r11
  case c11 => (intro w' _; go_simp; (try with_reducible rfl))
  try simp only [Act.put, List.setIfInBounds_toArray, List.set_cons_zero, List.set_cons_succ]
  refine anyE_ready (rs := [11]) (by kernel_rfl) (by simp) (AllE.end_ rfl (fun K hK => ?_))
  obtain ⟨w4, hrun, hm4, ho4⟩ := HPU.out _ _ (hH.out.tr.map i hin)
  have HTN := Lib.hid (TM.right hH.out.tm (fs' := upd ⟨k, x, d⟩ fs) ⟨⟨S, M, hH.out.tr.turn hin ho4 hm4 (fun j hj hne => part_upd_ne (fun e => hne (e.symm.trans HI.out)) fs)⟩, oks_upd HOK.out ⟨HKO.out, HXB.out.1, HXB.out.2⟩, hH.out.tm.tab.2.2⟩ (ho4.mono (fun j e => e ▸ hH.out.tr.om i hin)))
  go_simp
  refine hK.out _ _ ?_
  clear hK K
  try simp only [Act.put, List.setIfInBounds_toArray, List.set_cons_zero, List.set_cons_succ]
  refine anyE_done (by kernel_rfl) ?_ _
  go_wp2_with fail
  go_ret
  exact ⟨_, rfl, HTN.out⟩
set_option maxHeartbeats 4000000 in
theorem remove_yes (H : TM w Om Ot mb B ms n fs W) (hl : ms.ls.length ≤ 1000000000000) (t : Int) (k : AutM.Ke) (hk : k.Ok) (x : Int) (d b : Bool) (ve : Int) (i : Nat) (hi : sOf n k = i) (hh : heldB ms t (i : Int) = true) (hf : (∃ f, find k fs = some f ∧ x = f.x ∧ d = f.dn ∧ b = true ∧ ve = 0) ∨ (find k fs = none ∧ x = 0 ∧ d = false ∧ b = false ∧ ve = 15)) :
    Calls Try.prog 17 #[ptr B, .int .i64 t, Au.kyV k] W (Td w Ot mb B (.int .i64 ve) (touchS ms t 6 (i : Int)) n (drop k fs)) := by
  have HS : Hid (∀ W', TM w Om Ot mb B ms n fs W' → Calls Try.prog 36 #[ptr B, .int .i64 t, Au.kyV k] W' fun e w' => e = .returned (.tuple #[.int .i64 (i : Int), .int .i64 0]) ∧ Below W'.heap.size W' w') := fun W' h => stripeOf_any h t k hk i hi (i : Int) 0 (.inl ⟨hh, rfl, rfl⟩)
  have HX := Lib.hid (Blk.box W (Ky.kyc k.a k.b k.p k.q k.r) 37)
  have H1 := Lib.hid (H.next (below_box W (.cells (Ky.kyc k.a k.b k.p k.q k.r) 37)))
  have HOK := Lib.hid H.okf
  have hin : i < n := by have := sOf_lt (n := n) (by have := H.tab.pos; omega) k; omega
  have HI := Lib.hid hi
  have HLN := Lib.hid hl
  have HKN : Hid (¬ Ot W.heap.size) := fun e => Nat.lt_irrefl _ (H.tab.lt_ _ e)
  have HKM : Hid (¬ Om W.heap.size) := fun e => Nat.lt_irrefl _ (H.mem.lt _ e)
  have HKO := Lib.hid hk
  have HL : Hid (∀ w' m, MapAt w' m (part n i fs) → (Instr.lookup 79 (.map (some m)) (Au.kyV k) true).run Try.prog w' = .ok (.tuple #[enW x d, .bool b]) w') := fun w' m hm => by
    have hfp := find_part HOK.out (sOf n) k
    rw [hi] at hfp
    rcases hf with ⟨f, hf, rfl, rfl, rfl, -⟩ | ⟨hf, rfl, rfl, rfl, -⟩
    · exact look_some hm (oks_part HOK.out _ _) (hfp.trans hf)
    · exact look_none hm (oks_part HOK.out _ _) (hfp.trans hf)
  have HD : Hid (b = true → ∀ w1 m, MapAt w1 m (part n i fs) → ∃ w2, (Builtin.delete_ #[79, 37] 0 #[.map (some m), Au.kyV k]).run Try.prog w1 = .ok (.tuple #[]) w2 ∧ MapAt w2 m (part n i (drop k fs)) ∧ Only (· = m) w1 w2) := fun hb w1 m hm => by
    have hfp := find_part HOK.out (sOf n) k
    rw [hi] at hfp
    rcases hf with ⟨f, hf, -, -, -, -⟩ | ⟨-, -, -, e, -⟩
    · obtain ⟨w2, h1, h2, h3⟩ := run_drop hm (oks_part HOK.out _ _) (hfp.trans hf) 0
      exact ⟨w2, h1, by rw [show part n i (drop k fs) = drop k (part n i fs) from part_drop _ _ _ _]; exact h2, h3⟩
    · rw [hb] at e; cases e
  have HVE : Hid ((b = false → ve = 15 ∧ drop k fs = fs) ∧ (b = true → ve = 0)) := by
    rcases hf with ⟨f, hf, -, -, e, e2⟩ | ⟨hf, -, -, e, e2⟩
    · exact ⟨fun h => by (rw [h] at e; cases e), fun _ => e2⟩
    · exact ⟨fun _ => ⟨e2, drop_none hf⟩, fun h => by (rw [h] at e; cases e)⟩
  clear hf
  clear H hk hi hh hl
  go_enter Try.func17, Try.ntmps17
  go_wp2_with fail
  go_at_call 36
  refine (HS.out _ H1.out).mono ?_
  rintro e w2 ⟨rfl, hb⟩
  have H2 := Lib.hid (H1.out.next hb)
  have HX2 := Lib.hid (HX.out.next hb)
  clear hb H1 HX HS
  obtain ⟨⟨S, M, htr⟩, _⟩ := H2.out.tab
  have c0 := htr.blk.cell 0 _ rfl
  clear htr
  go_wp2_with fail
  clear c0
  go_at_call 37
  refine (Me.write_any H2.out.mem t (i : Int) HLN.out).mono ?_
  rintro e w3 ⟨Om2, rfl, hp, ho, hO⟩
  have H3 := Lib.hid (H2.out.left hp ho hO)
  have HX3 := Lib.hid (HX2.out.only ho HKM.out)
  clear hp ho hO H2 HX2
  obtain ⟨⟨S, M, htr⟩, _⟩ := H3.out.tab
  obtain ⟨gk, hgk⟩ : ∃ g, W.heap.size = g := ⟨_, rfl⟩
  rw [hgk] at HX3 HKN ⊢
  have HQ : Hid (TQ w Om2 Ot mb B (touchS ms t 6 (i : Int)) n S M fs k gk w3) := ⟨H3.out, htr, HX3.out, HKN.out⟩
  clear htr hgk HX3 H3
  go_wp2_with fail
  refine wp_region_held_drew (S := fun w' => Hid (TQ w Om2 Ot mb B (touchS ms t 6 (i : Int)) n S M fs k gk w')) (by kernel_rfl) (Lib.hid HQ.out.drew) (fun hH => ?_)
  refine wpAnyH_take (i := 0) (oi := ⟨some 29, _, _, _, _, _⟩) (v := ?v1) rfl (by kernel_rfl) (by kernel_rfl) (by kernel_rfl) (fun _ _ _ h => h) (Or.inl ⟨rfl, ?c1⟩) hH ?r1
  case c1 => (intro w' _; go_simp; (try with_reducible rfl))
  try simp only [Act.put, List.setIfInBounds_toArray, List.set_cons_zero, List.set_cons_succ]
  refine wpAnyH_take (i := 1) (oi := ⟨some 30, _, _, _, _, _⟩) (v := ?v2) rfl (by kernel_rfl) (by kernel_rfl) (by kernel_rfl) (fun _ _ _ h => h) (Or.inl ⟨rfl, ?c2⟩) hH ?r2
  case c2 => (intro w' _; go_simp; (try with_reducible rfl))
  try simp only [Act.put, List.setIfInBounds_toArray, List.set_cons_zero, List.set_cons_succ]
  refine wpAnyH_take (i := 2) (oi := ⟨some 31, _, _, _, _, _⟩) (v := ?v3) rfl (by kernel_rfl) (by kernel_rfl) (by kernel_rfl) (fun _ _ _ h => h) (Or.inl ⟨rfl, ?c3⟩) hH ?r3
  case c3 => (intro w' _; go_simp; (try with_reducible rfl))
  try simp only [Act.put, List.setIfInBounds_toArray, List.set_cons_zero, List.set_cons_succ]
  refine wpAnyH_take (i := 3) (oi := ⟨some 32, _, _, _, _, _⟩) (v := ?v4) rfl (by kernel_rfl) (by kernel_rfl) (by kernel_rfl) (fun _ _ _ h => h) (Or.inl ⟨rfl, ?c4⟩) hH ?r4
  case c4 => (intro w' hS; have c1 := hS.out.tr.blk.cell 1 _ rfl; go_simp; (try with_reducible rfl))
  try simp only [Act.put, List.setIfInBounds_toArray, List.set_cons_zero, List.set_cons_succ]
  refine wpAnyH_take (i := 4) (oi := ⟨some 33, _, _, _, _, _⟩) (v := ?v5) rfl (by kernel_rfl) (by kernel_rfl) (by kernel_rfl) (fun _ _ _ h => h) (Or.inl ⟨rfl, ?c5⟩) hH ?r5
  case c5 => (intro w' _; go_simp; (try with_reducible rfl))
  try simp only [Act.put, List.setIfInBounds_toArray, List.set_cons_zero, List.set_cons_succ]
  refine wpAnyH_take (i := 5) (oi := ⟨some 34, _, _, _, _, _⟩) (v := ?v6) rfl (by kernel_rfl) (by kernel_rfl) (by kernel_rfl) (fun _ _ _ h => h) (Or.inl ⟨rfl, ?c6⟩) hH ?r6
  case c6 => (intro w' hS; have hv := hin; go_simp; (try with_reducible rfl))
  try simp only [Act.put, List.setIfInBounds_toArray, List.set_cons_zero, List.set_cons_succ]
  refine wpAnyH_take (i := 6) (oi := ⟨some 35, _, _, _, _, _⟩) (v := ?v7) rfl (by kernel_rfl) (by kernel_rfl) (by kernel_rfl) (fun _ _ _ h => h) (Or.inl ⟨rfl, ?c7⟩) hH ?r7
  case c7 => (intro w' hS; have c1 := hS.out.tr.row i hin; go_simp; (try with_reducible rfl))
  try simp only [Act.put, List.setIfInBounds_toArray, List.set_cons_zero, List.set_cons_succ]
  refine wpAnyH_take (i := 7) (oi := ⟨some 36, _, _, _, _, _⟩) (v := ?v8) rfl (by kernel_rfl) (by kernel_rfl) (by kernel_rfl) (fun _ _ _ h => h) (Or.inl ⟨rfl, ?c8⟩) hH ?r8
  case c8 => (intro w' hS; obtain ⟨x0, x1, x2, x3, x4⟩ := Ky.ky_cells hS.out.key; go_simp; (try with_reducible rfl))
  try simp only [Act.put, List.setIfInBounds_toArray, List.set_cons_zero, List.set_cons_succ]
  refine wpAnyH_take (i := 8) (oi := ⟨some 37, _, _, _, _, _⟩) (v := ?v9) rfl (by kernel_rfl) (by kernel_rfl) (by kernel_rfl) (fun _ _ _ h => h) (Or.inl ⟨rfl, ?c9⟩) hH ?r9
  case c9 => (intro w' hS; go_simp; rw [HL.out w' _ (hS.out.tr.map i hin)]; simp only [Result.andThen_ok]; (try with_reducible rfl))
  try simp only [Act.put, List.setIfInBounds_toArray, List.set_cons_zero, List.set_cons_succ]
  refine wpAnyH_take (i := 9) (oi := ⟨some 28, _, _, _, _, _⟩) (v := ?v10) rfl (by kernel_rfl) (by kernel_rfl) (by kernel_rfl) (fun _ _ _ h => h) (Or.inl ⟨rfl, ?c10⟩) hH ?r10
  case c10 => (intro w' _; go_simp; (try with_reducible rfl))
  try simp only [Act.put, List.setIfInBounds_toArray, List.set_cons_zero, List.set_cons_succ]
  refine wpAnyH_take (i := 10) (oi := ⟨some 38, _, _, _, _, _⟩) (v := ?v11) rfl (by kernel_rfl) (by kernel_rfl) (by kernel_rfl) (fun _ _ _ h => h) (Or.inl ⟨rfl, ?c11⟩) hH ?r11
  case c11 => (intro w' _; go_simp; (try with_reducible rfl))
  try simp only [Act.put, List.setIfInBounds_toArray, List.set_cons_zero, List.set_cons_succ]
  refine wpAnyH_take (i := 11) (oi := ⟨some 39, _, _, _, _, _⟩) (v := ?v12) rfl (by kernel_rfl) (by kernel_rfl) (by kernel_rfl) (fun _ _ _ h => h) (Or.inl ⟨rfl, ?c12⟩) hH ?r12
  case c12 => (intro w' _; go_simp; (try with_reducible rfl))
  try simp only [Act.put, List.setIfInBounds_toArray, List.set_cons_zero, List.set_cons_succ]
  refine wpAnyH_ready (rs := [12]) (by kernel_rfl) (by simp) (AllReadyH.cons rfl (fun K hK => ?_) (AllReadyH.nil))
  go_simp
  have e0 := (Blk.box w3 #[.int .i64 0, .bool false] 91).drew.frozen 0
  have e1 := (Blk.box w3 #[.int .i64 0, .bool false] 91).drew.frozen 1
  refine hK.out _ _ (Lib.hid (hH.out.next (below_box _ _))) (fun hH => ?_)
  clear hK K
  try simp only [Act.put, List.setIfInBounds_toArray, List.set_cons_zero, List.set_cons_succ]
  refine wpAnyH_ready (rs := [13]) (by kernel_rfl) (by simp) (AllReadyH.cons rfl (fun K hK => ?_) (AllReadyH.nil))
  go_simp
  clear e0 e1
  refine hK.out _ _ (Lib.hid ((HQ.out.next (below_box _ _)).drew)) (fun hH => ?_)
  clear hK K
  have HE := Lib.hid (Blk.box w3 #[.int .i64 x, .bool d] 91).drew
  try simp only [Act.put, List.setIfInBounds_toArray, List.set_cons_zero, List.set_cons_succ]
  refine wpAnyH_take (i := 14) (oi := ⟨some 10, _, _, _, _, _⟩) (v := ?v13) rfl (by kernel_rfl) (by kernel_rfl) (by kernel_rfl) (fun _ _ _ h => h) (Or.inl ⟨rfl, ?c13⟩) hH ?r13
  case c13 => (intro w' _; go_simp; (try with_reducible rfl))
  try simp only [Act.put, List.setIfInBounds_toArray, List.set_cons_zero, List.set_cons_succ]
  refine wpAnyH_done (by kernel_rfl) ?_ _
  have HQ4 := hH
  clear hH HE HQ
  obtain ⟨w4, hw4⟩ : ∃ v, (w3.alloc (.cells #[.int .i64 x, .bool d] 91)).drew = v := ⟨_, rfl⟩
  rw [hw4] at HQ4 ⊢
  clear hw4
  cases b with
  | false =>
    have HV1 := Lib.hid (HVE.out.1 rfl)
    go_wp2_with fail
    go_ret
    exact ⟨_, by rw [HV1.out.1]; rfl, by rw [HV1.out.2]; exact HQ4.out.tm⟩
  | true =>
    have hBb : true = true := rfl
    go_wp2_with fail
    refine wp_region_held_drew (S := fun w' => Blk w' gk (Ky.kyc k.a k.b k.p k.q k.r) 37 ∧ w'.cell? ⟨B, 1, none⟩ = some (.slice (some ⟨S, 0, none⟩) n n) ∧ w'.cell? ⟨S, i, none⟩ = some (.map (some (M i)))) (by kernel_rfl) (⟨HQ4.out.key.drew, HQ4.out.drew.tr.blk.cell 1 _ rfl, HQ4.out.drew.tr.row i hin⟩) (fun hH => ?_)
    refine wpAnyH_take (i := 0) (oi := ⟨some 42, _, _, _, _, _⟩) (v := ?v301) rfl (by kernel_rfl) (by kernel_rfl) (by kernel_rfl) (fun _ _ _ h => h) (Or.inl ⟨rfl, ?c301⟩) hH ?r301
    case c301 => (intro w' _; go_simp; (try with_reducible rfl))
    try simp only [Act.put, List.setIfInBounds_toArray, List.set_cons_zero, List.set_cons_succ]
    refine wpAnyH_take (i := 1) (oi := ⟨some 43, _, _, _, _, _⟩) (v := ?v302) rfl (by kernel_rfl) (by kernel_rfl) (by kernel_rfl) (fun _ _ _ h => h) (Or.inl ⟨rfl, ?c302⟩) hH ?r302
    case c302 => (intro w' _; go_simp; (try with_reducible rfl))
    try simp only [Act.put, List.setIfInBounds_toArray, List.set_cons_zero, List.set_cons_succ]
    refine wpAnyH_take (i := 2) (oi := ⟨some 44, _, _, _, _, _⟩) (v := ?v303) rfl (by kernel_rfl) (by kernel_rfl) (by kernel_rfl) (fun _ _ _ h => h) (Or.inl ⟨rfl, ?c303⟩) hH ?r303
    case c303 => (intro w' _; go_simp; (try with_reducible rfl))
    try simp only [Act.put, List.setIfInBounds_toArray, List.set_cons_zero, List.set_cons_succ]
    refine wpAnyH_take (i := 3) (oi := ⟨some 45, _, _, _, _, _⟩) (v := ?v304) rfl (by kernel_rfl) (by kernel_rfl) (by kernel_rfl) (fun _ _ _ h => h) (Or.inl ⟨rfl, ?c304⟩) hH ?r304
    case c304 => (intro w' hS; have c1 := hS.2.1; go_simp; (try with_reducible rfl))
    try simp only [Act.put, List.setIfInBounds_toArray, List.set_cons_zero, List.set_cons_succ]
    refine wpAnyH_take (i := 4) (oi := ⟨some 46, _, _, _, _, _⟩) (v := ?v305) rfl (by kernel_rfl) (by kernel_rfl) (by kernel_rfl) (fun _ _ _ h => h) (Or.inl ⟨rfl, ?c305⟩) hH ?r305
    case c305 => (intro w' _; go_simp; (try with_reducible rfl))
    try simp only [Act.put, List.setIfInBounds_toArray, List.set_cons_zero, List.set_cons_succ]
    refine wpAnyH_take (i := 5) (oi := ⟨some 47, _, _, _, _, _⟩) (v := ?v306) rfl (by kernel_rfl) (by kernel_rfl) (by kernel_rfl) (fun _ _ _ h => h) (Or.inl ⟨rfl, ?c306⟩) hH ?r306
    case c306 => (intro w' hS; have hv := hin; go_simp; (try with_reducible rfl))
    try simp only [Act.put, List.setIfInBounds_toArray, List.set_cons_zero, List.set_cons_succ]
    refine wpAnyH_take (i := 6) (oi := ⟨some 48, _, _, _, _, _⟩) (v := ?v307) rfl (by kernel_rfl) (by kernel_rfl) (by kernel_rfl) (fun _ _ _ h => h) (Or.inl ⟨rfl, ?c307⟩) hH ?r307
    case c307 => (intro w' hS; have c1 := hS.2.2; go_simp; (try with_reducible rfl))
    try simp only [Act.put, List.setIfInBounds_toArray, List.set_cons_zero, List.set_cons_succ]
    refine wpAnyH_take (i := 7) (oi := ⟨some 49, _, _, _, _, _⟩) (v := ?v308) rfl (by kernel_rfl) (by kernel_rfl) (by kernel_rfl) (fun _ _ _ h => h) (Or.inl ⟨rfl, ?c308⟩) hH ?r308
    case c308 => (intro w' hS; obtain ⟨x0, x1, x2, x3, x4⟩ := Ky.ky_cells hS.1; go_simp; (try with_reducible rfl))
    try simp only [Act.put, List.setIfInBounds_toArray, List.set_cons_zero, List.set_cons_succ]
    refine wpAnyH_ready (rs := [8]) (by kernel_rfl) (by simp) (AllReadyH.cons rfl (fun K hK => ?_) (AllReadyH.nil))
    obtain ⟨w6, hrun, hm4, ho4⟩ := HD.out hBb w4.drew _ (HQ4.out.drew.tr.map i hin)
    have htr6 := HQ4.out.drew.tr.turn hin ho4 hm4 (fun j hj hne => by rw [show part n j (drop k fs) = part n j fs from part_drop_ne (fun e => hne (e.symm.trans HI.out)) fs])
    have HTN := Lib.hid (TM.right HQ4.out.drew.tm (fs' := drop k fs) ⟨⟨S, M, htr6⟩, HOK.out.drop k, HQ4.out.tm.tab.2.2⟩ (ho4.mono (fun j e => e ▸ HQ4.out.tr.om i hin)))
    have hkb := HQ4.out.drew.key.keep (ho4.block _ HQ4.out.drew.key.lt (fun e => HQ4.out.nk (e ▸ HQ4.out.tr.om i hin)))
    go_simp
    refine hK.out _ _ (⟨hkb, htr6.blk.cell 1 _ rfl, htr6.row i hin⟩) (fun hH => ?_)
    clear hK K
    clear hkb htr6 hm4 ho4 hrun
    try simp only [Act.put, List.setIfInBounds_toArray, List.set_cons_zero, List.set_cons_succ]
    refine wpAnyH_done (by kernel_rfl) ?_ _
    clear hH
    go_wp2_with fail
    go_ret
    exact ⟨_, by rw [HVE.out.2 hBb]; rfl, HTN.out⟩
end
end Tb
end Go.Proofs.Ytgcnhbjoalemlaa
/- Layer 20: the program's New. -/
set_option linter.unusedVariables false
set_option linter.unusedSimpArgs false
set_option maxRecDepth 100000
namespace Go.Proofs.Ytgcnhbjoalemlaa
open Go.ChangeShapes Go.WideShapes Go.ChangeAt Go.RowKit Go.Mtl Go.Lib
namespace Tb
open TabM
open KeyM (isPow)
open MemM (Ms)
open Me (ptr)
theorem count_ones (x : Int) (w : World) : Calls Try.prog 32 #[.int .u64 x] w fun e w' => e = .returned (.int .i64 (Au.ones x)) ∧ w = w' := by
  have HO := Lib.hid (fun W => Au.ones_any x W)
  generalize Au.ones x = y at HO
  go_enter Try.func32, Try.ntmps32
  go_wp2_with (go_at_call 49; refine (HO.out _).mono ?_; rintro e w' ⟨rfl, rfl⟩)
  go_ret
  exact ⟨rfl, rfl⟩
theorem pow_is {z : Int} (h1 : 1 ≤ z) (h2 : z ≤ 4096) : (Au.ones z == 1) = isPow z := by
  have e : z = ((⟨z.toNat, by omega⟩ : Fin 4097).val : Int) := by simp; omega
  have h := Au.ones_pow ⟨z.toNat, by omega⟩
  rwa [← e] at h
theorem flows_info : (Try.prog.info? 79).map (fun i => (i.zero, i.size, i.bytes)) = some (some (.map none), 1, 8) := by kernel_rfl
/-- The row of maps: j of n are made. -/
def mrow (n j : Nat) (M : Nat → Nat) : List Value := (List.range n).map fun i => if i < j then .map (some (M i)) else .map none
theorem mrow_at {n j : Nat} {M : Nat → Nat} {i : Nat} (hi : i < n) : (mrow n j M)[i]? = some (if i < j then .map (some (M i)) else .map none) := by
  unfold mrow
  rw [List.getElem?_map, List.getElem?_range hi]
  rfl
theorem made_maps (n : Nat) (M : Nat → Nat) : (madeCells (Value.map none).cells (n * 1)).toList = mrow n 0 M := by
  rw [show (Value.map none).cells = #[.map none] from rfl, toList_madeCells_one]
  unfold mrow
  apply List.ext_getElem?
  intro i
  simp [List.getElem?_replicate, List.getElem?_range]
  by_cases h : i < n
  · simp [h, List.getElem?_range]
  · simp [h, List.getElem?_eq_none]
def mset (M : Nat → Nat) (j m : Nat) (i : Nat) : Nat := if i = j then m else M i
theorem mrow_set {n j m : Nat} {M : Nat → Nat} (hj : j < n) : (mrow n j M).toArray.setIfInBounds j (.map (some m)) = (mrow n (j + 1) (mset M j m)).toArray := by
  rw [List.setIfInBounds_toArray]
  congr 1
  apply List.ext_getElem?
  intro i
  by_cases hi : i < n
  · rw [List.getElem?_set, mrow_at (j := j + 1) hi]
    by_cases e : j = i
    · subst e
      rw [if_pos rfl, if_pos (by unfold mrow; simpa using hj), if_pos (by omega)]
      rw [show mset M j m j = m from if_pos rfl]
    · rw [if_neg e, mrow_at hi]
      rw [show mset M j m i = M i from if_neg (fun h => e h.symm)]
      by_cases h2 : i < j
      · rw [if_pos h2, if_pos (by omega)]
      · rw [if_neg h2, if_neg (by omega)]
  · rw [List.getElem?_eq_none (by simp [mrow]; omega), List.getElem?_eq_none (by simp [mrow]; omega)]
/-- A table of which j stripes are made. -/
structure NW (w0 : World) (mb B n S : Nat) (M : Nat → Nat) (j : Nat) (W : World) : Prop where
  blk : Blk W B #[ptr mb, .slice (some ⟨S, 0, none⟩) n n] 77
  row : Blk W S (mrow n j M).toArray 79
  map : ∀ i, i < j → MapAt W (M i) []
  inj : ∀ i i', i < j → i' < j → M i = M i' → i = i'
  ns : S ≠ B
  nm : ∀ i, i < j → M i ≠ B ∧ M i ≠ S
  nb : w0.heap.size ≤ B
  nS : w0.heap.size ≤ S
  nM : ∀ i, i < j → w0.heap.size ≤ M i
  bel : Below w0.heap.size w0 W
section
variable {w0 W : World} {mb B n S j : Nat} {M : Nat → Nat}
theorem NW.step (H : NW w0 mb B n S M j W) (hj : j < n) : NW w0 mb B n S (mset M j W.heap.size) (j + 1) ((W.alloc (.map #[] 0)).setCell ⟨S, j, none⟩ (.map (some W.heap.size))) := by
  have hS := H.row.lt
  have hB := H.blk.lt
  have hset : ∀ i, i < j → mset M j W.heap.size i = M i := fun i hi => if_neg (by omega)
  have hself : mset M j W.heap.size j = W.heap.size := if_pos rfl
  have hMl : ∀ i, i < j → M i < W.heap.size := fun i hi => (H.map i hi).lt
  have ho : ∀ g, g ≠ S → ((W.alloc (.map #[] 0)).setCell ⟨S, j, none⟩ (.map (some W.heap.size))).heap[g]? = (W.alloc (.map #[] 0)).heap[g]? := fun g hg => Below.heap_setCell _ _ _ _ hg
  refine ⟨?_, ?_, fun i hi => ?_, fun i i' hi hi' e => ?_, H.ns, fun i hi => ?_, H.nb, H.nS, fun i hi => ?_, ?_⟩
  · exact (H.blk.alloc _).keep (ho B H.ns.symm)
  · have := (H.row.alloc (.map #[] 0)).set' j (.map (some W.heap.size)) (mrow_set (M := M) (m := W.heap.size) hj)
    exact this
  · by_cases e : i = j
    · subst e
      rw [hself]
      exact (MapAt.new W).keep (ho _ (by omega))
    · rw [hset i (by omega)]
      exact (H.map i (by omega)).keep ((ho _ (H.nm i (by omega)).2).trans (Below.heap_alloc _ _ _ (hMl i (by omega))))
  · by_cases e1 : i = j <;> by_cases e2 : i' = j
    · omega
    · subst e1; rw [hself, hset i' (by omega)] at e; have := hMl i' (by omega); omega
    · subst e2; rw [hself, hset i (by omega)] at e; have := hMl i (by omega); omega
    · rw [hset i (by omega), hset i' (by omega)] at e; exact H.inj i i' (by omega) (by omega) e
  · by_cases e : i = j
    · subst e; rw [hself]; omega
    · rw [hset i (by omega)]; exact H.nm i (by omega)
  · by_cases e : i = j
    · subst e; rw [hself]; exact H.bel.size
    · rw [hset i (by omega)]; exact H.nM i (by omega)
  · exact (H.bel.alloc H.bel.size _).setCell (p := ⟨S, j, none⟩) (by have := H.nS; simpa using this) _
theorem NW.done (H : NW w0 mb B n S M n W) (hn : isPow (n : Int) = true) : TAt W (fun j => w0.heap.size ≤ j ∧ j < W.heap.size) B mb n [] ∧ ∀ j, (w0.heap.size ≤ j ∧ j < W.heap.size) → w0.heap.size ≤ j := by
  refine ⟨⟨⟨S, M, H.blk, fun i hi => ?_, fun i hi => H.map i hi, H.inj, H.ns, H.nm, ⟨H.nb, H.blk.lt⟩, ⟨H.nS, H.row.lt⟩, fun i hi => ⟨H.nM i hi, (H.map i hi).lt⟩, fun j hj => hj.2⟩, Oks.nil, hn⟩, fun j hj => hj.1⟩
  have := H.row.cell i (.map (some (M i))) (by
    rw [List.getElem?_toArray, mrow_at hi, if_pos hi])
  exact this
end
theorem new_no (w : World) (mb : Nat) (z : Int) (hz : -9223372036854775808 ≤ z ∧ z ≤ 9223372036854775807) (hp : isPow z = false) : Calls Try.prog 8 #[ptr mb, .int .i64 z] w fun e w' => e = .returned (.pointer none) ∧ w = w' := by
  by_cases h1 : 1 ≤ z
  · by_cases h2 : z ≤ 4096
    · have HP := Lib.hid (pow_is h1 h2)
      have HO := Lib.hid (fun W => count_ones z W)
      have hw : IntKind.u64.wrap z = z := by simp [IntKind.wrap, IntKind.bits, IntKind.signed]; omega
      generalize Au.ones z = oz at HP HO
      have hq : (oz == 1) = false := HP.out.trans hp
      have d1 : decide (z < 1) = false := decide_eq_false (by omega)
      have d2 : decide (4096 < z) = false := decide_eq_false (by omega)
      clear hp HP
      go_enter Try.func8, Try.ntmps8
      go_wp2_with fail
      go_at_call 32
      refine (HO.out _).mono ?_
      rintro e w1 ⟨rfl, rfl⟩
      go_wp2_with fail
      go_ret
      exact ⟨rfl, rfl⟩
    · have d1 : decide (z < 1) = false := decide_eq_false (by omega)
      have d2 : decide (4096 < z) = true := decide_eq_true (by omega)
      clear h1 h2 hp
      go_enter Try.func8, Try.ntmps8
      go_wp2_with fail
      go_ret
      exact ⟨rfl, rfl⟩
  · have d1 : decide (z < 1) = true := decide_eq_true (by omega)
    clear h1 hp
    go_enter Try.func8, Try.ntmps8
    go_wp2_with fail
    go_ret
    exact ⟨rfl, rfl⟩
set_option maxHeartbeats 2000000 in
theorem new_ok (w : World) (mb n : Nat) (hp : isPow (n : Int) = true) : Calls Try.prog 8 #[ptr mb, .int .i64 (n : Int)] w fun e w' => ∃ O B, e = .returned (ptr B) ∧ TAt w' O B mb n [] ∧ Below w.heap.size w w' ∧ ∀ j, O j → w.heap.size ≤ j := by
  have hb := KeyM.isPow_bd hp
  have HP := Lib.hid (pow_is hb.1 hb.2)
  have HO := Lib.hid (fun W => count_ones (n : Int) W)
  have hw : IntKind.u64.wrap (n : Int) = n := by simp [IntKind.wrap, IntKind.bits, IntKind.signed]; omega
  generalize Au.ones (n : Int) = oz at HP HO
  have hq : (oz == 1) = true := HP.out.trans hp
  have HPW := Lib.hid hp
  obtain ⟨i0, hi0, hz0, hz1, hz2⟩ := info_parts flows_info
  have HI : Hid (Try.prog.info? 79 = some i0 ∧ i0.zero = some (.map none) ∧ i0.size = 1 ∧ i0.bytes = 8) := ⟨hi0, hz0, hz1, hz2⟩
  have d1 : decide ((n : Int) < 1) = false := decide_eq_false (by omega)
  have d2 : decide ((4096 : Int) < n) = false := decide_eq_false (by omega)
  have hn1 : n ≤ 4096 := by omega
  clear hp HP hi0 hz0 hz1 hz2 hb
  go_enter Try.func8, Try.ntmps8
  go_wp2_with fail
  go_at_call 32
  refine (HO.out _).mono ?_
  rintro e w1 ⟨rfl, rfl⟩
  go_wp2_with (at_make; refine wpList_make_full _ rfl (.tmp 24) (.tmp 24) _ rfl w.heap.size 79 i0 _ 1 Try.underlying75 HI.out.1 HI.out.2.1 HI.out.2.2.1 .i64 .i64 (n : Int) (n : Int) n rfl rfl rfl rfl (by rw [HI.out.2.2.2]; omega) (by unfold maxLen; omega) (Nat.le_refl _) ?_; intro w1 hown hgr; rw [made_maps n (fun _ => 0)] at hown; have HG := Lib.hid (Me.own_whole hown); have HB := Lib.hid ((Below.refl w.heap.size w).grown hgr (Nat.le_refl _) (fun k e => by cases e)); clear hown hgr)
  have h0 : NW w mb w1.heap.size n w.heap.size (fun _ => 0) 0 (w1.alloc (.cells #[ptr mb, .slice (some ⟨w.heap.size, 0, none⟩) n n] 77)) := by
    have hr : Blk w1 w.heap.size (mrow n 0 (fun _ => 0)).toArray 79 := HG.out
    have hlt := hr.lt
    exact ⟨Blk.box w1 _ _, hr.alloc _, fun i hi => absurd hi (by omega), fun i i' hi => absurd hi (by omega), by omega, fun i hi => absurd hi (by omega), HB.out.size, Nat.le_refl _, fun i hi => absurd hi (by omega), HB.out.alloc HB.out.size _⟩
  have H0 := Lib.hid h0
  have HC0 := Lib.hid (h0.blk.cell 1 _ rfl)
  obtain ⟨B, hB⟩ : ∃ g, w1.heap.size = g := ⟨_, rfl⟩
  obtain ⟨S, hS⟩ : ∃ g, w.heap.size = g := ⟨_, rfl⟩
  obtain ⟨w2, hw2⟩ : ∃ v, w1.alloc (.cells #[ptr mb, .slice (some ⟨w.heap.size, 0, none⟩) n n] 77) = v := ⟨_, rfl⟩
  rw [hw2] at H0 HC0 ⊢
  rw [hS] at H0 HC0 ⊢
  rw [hB] at H0 HC0 ⊢
  have HSS : Hid (w.heap.size = S) := hS
  clear hw2 hS hB h0 HG HB
  have c1 := HC0.out
  go_wp2_with fail
  go_loopw [33] (fun vi wr => ∃ (j : Nat) (M : Nat → Nat), vi = .int .i64 (j : Int) ∧ j ≤ n ∧ Hid (NW w mb B n S M j wr)) (fun vi _ => n - (RowKit.intOf vi).toNat)
  case atStart => exact ⟨0, _, rfl, Nat.zero_le _, H0⟩
  case round =>
    obtain ⟨j, M, rfl, hj, HN⟩ := hrel
    clear c1 HC0 H0
    by_cases h1 : j < n
    · have c1 := HN.out.blk.cell 1 _ rfl
      have HST := Lib.hid (HN.out.step h1)
      have HC2 := Lib.hid ((HN.out.blk.alloc (.map #[] 0)).cell 1 _ rfl)
      have hcell := (HN.out.row.alloc (.map #[] 0)).cell j (.map none) (by rw [List.getElem?_toArray, mrow_at h1, if_neg (Nat.lt_irrefl _)])
      have hfr := (HN.out.row.alloc (.map #[] 0)).frozen j
      have hmm : ∀ w, (Instr.makeMap 79 none).run Try.prog w = .ok (.map (some w.heap.size)) (w.alloc (.map #[] 0)) := fun w => rfl
      go_wp2_with fail
      go_roundw
      case rel => exact ⟨j + 1, _, by go_num, by omega, HST⟩
      case measure => simp [RowKit.intOf]; omega
    · obtain rfl : j = n := by omega
      have c1 := HN.out.blk.cell 1 _ rfl
      go_wp2_with fail
      go_ret
      exact ⟨_, B, rfl, (HN.out.done HPW.out).1, HN.out.bel, (HN.out.done HPW.out).2⟩
end Tb
end Go.Proofs.Ytgcnhbjoalemlaa
