/- Several texts of this proof in one file, each in its own namespace. -/
import Derived.Test.YtgcnhbjoalemlaaGreatDoorJ44
import Derived.Test.YtgcnhbjoalemlaaGreatDoorJ39
import Derived.Test.YtgcnhbjoalemlaaGreatDoorJ42
/- Layer 18: the reference's Act at a flow that is not there. (Written by wip/tools/mkAulJ.py.) -/
set_option linter.unusedVariables false
set_option linter.unusedSimpArgs false
set_option maxRecDepth 100000
namespace Go.Proofs.YtgcnhbjoalemlaaGreatDoor
open Go.ChangeShapes Go.WideShapes Go.ChangeAt Go.RowKit Go.Mtl Go.Lib
namespace Au
open AutM
open RulM (R)
open MatM (K fst accB idxI)
theorem Rf.rule {w : World} {O : Nat → Prop} {B : Nat} {z N : Int} {T : Nat → Int} {x : Int} {vf : Value} {vs : List Value} {hist : List (List R)} {fs : List Fl} {t : Nat → Int} {g n c : Nat} (H : Rf w O B z N T x (.slice (some ⟨g, 0, none⟩) n c) vf vs hist fs t) {i : Nat} {v : Value} (hv : vs[i]? = some v) : w.cell? ⟨g, i, none⟩ = some v := by
  obtain ⟨g', c', e, -, -, -, -, h1, -⟩ := row_cell H.rr hv
  injection e with e _ _
  injection e with e
  injection e with e
  subst e
  exact h1
theorem gate_f0 (a b c : Value) (w : World) : (Instr.field 77 (.agg #[a, b, c]) 0).run Tryz.prog w = .ok a w := by kernel_rfl
theorem less_true {a b : Ke} (ha : a.Ok) (hb : b.Ok) (h : a.num < b.num) : KeyM.lessB a.a a.b a.p a.q a.r b.a b.b b.p b.q b.r = true := by
  have e := Ke.less_is ha hb
  unfold Ke.less at e
  rw [e]; exact decide_eq_true h
theorem less_false {a b : Ke} (ha : a.Ok) (hb : b.Ok) (h : ¬ a.num < b.num) : KeyM.lessB a.a a.b a.p a.q a.r b.a b.b b.p b.q b.r = false := by
  have e := Ke.less_is ha hb
  unfold Ke.less at e
  rw [e]; exact decide_eq_false h
theorem AK.drew {w W : World} {O O1 : Nat → Prop} {B : Nat} {z N : Int} {T : Nat → Int} {x : Int} {vr vf : Value} {vs : List Value} {hist : List (List R)} {fs : List Fl} {t : Nat → Int} {p : K} {k : Ke} {gk : Nat} (H : AK w O O1 B z N T x vr vf vs hist fs t p k gk W) : AK w O O1 B z N T x vr vf vs hist fs t p k gk W.drew := H.next (Below.refl _ _).drew
theorem f7_one {f : Fl} : ∀ u ∈ f7 f, u.oneCell' = true := by
  intro u h
  simp [f7] at h
  rcases h with rfl | rfl | rfl | rfl | rfl | rfl | rfl <;> rfl
theorem rd_one (w : World) (f : Fl) : Rd (w.alloc (.cells (f7 f).toArray 90)) (w.alloc (.cells (f7 f).toArray 90)).heap.size 7 1 (.slice (some ⟨w.heap.size, 0, none⟩) 1 1) (f7 f) :=
  ⟨_, 1, rfl, Nat.le_refl _, by omega, rfl, fun _ => ⟨w.heap.size, 0, rfl, by rw [World.size_alloc]; omega, fun j u hu => by
    rw [cell_of_row _ _ _ _ 90 (0, 0) (heap_alloc_new w _), List.getElem?_toArray, Nat.zero_add]; exact hu⟩⟩
set_option maxHeartbeats 1000000 in
theorem refAct_new {w : World} {O : Nat → Prop} {B : Nat} {z N : Int} {T : Nat → Int} {s : St} (H : QAt w O B z N T s) (he : Env w) (p : K) (hp : p.Ok) (hk : find (keyP p) (delS s (keyP p)).fs = none) :
    Calls Tryz.prog 31 #[ptr B, .agg (Ma.pK p)] w fun e w' => ∃ O' : Nat → Prop, e = .returned (.int .i64 (opeV N (delS s (keyP p)) p)) ∧ QAt w' O' B z N T (opeS N T (delS s (keyP p)) p) ∧ Only O w w' ∧ ∀ j, O' j → O j ∨ w.heap.size ≤ j := by
  have HOF := Lib.hid (refOf_key p hp)
  have HENV := Lib.hid he
  have HLT := Lib.hid H.lt_
  have HH := Lib.hid H
  have HFO : Hid (∀ j, O j → Far j) := by obtain ⟨⟨_, _, _, _, h1, _⟩, _⟩ := H; exact h1.hi
  have hi1 : Inv N (delS s (keyP p)) := H.2.1.del (keyP p)
  have HINV : Hid (Inv N (opeS N T (delS s (keyP p)) p)) := hi1.ope hp hk
  have HI1 := Lib.hid hi1
  have HKO := Lib.hid (keyP_ok hp)
  have e1 : findV (keyP p) (delS s (keyP p)).fs = -1 := findV_none fun j f _ hf => find_none hk f (List.mem_of_getElem? hf)
  have HNK := Lib.hid (find_none hk)
  have HDEL : Hid (∀ W, QAt W O B z N T s → Env W → Calls Tryz.prog 27 #[ptr B, kyV (keyP p)] W fun e w' => ∃ O' : Nat → Prop, e = .returned (.bool (delB s (keyP p))) ∧ QAt w' O' B z N T (delS s (keyP p)) ∧ Only O W w' ∧ ∀ j, O' j → O j ∨ W.heap.size ≤ j) := fun W h e => refDelete_q h e (keyP p)
  have HUP : Hid (∀ W, Calls Tryz.prog 32 #[.int .u64 (GatM.gI (delS s (keyP p)).c (delS s (keyP p)).g (delS s (keyP p)).v)] W fun e w' => e = .returned (.agg (Ga.gtc (delS s (keyP p)).v (delS s (keyP p)).g (delS s (keyP p)).c)) ∧ Below W.heap.size W w') := fun W => Ga.refUnpack_any hi1.fit W
  have HFST : Hid (∀ W A n c, Rds W W.heap.size (.slice A n c) (delS s (keyP p)).rl → Calls Tryz.prog 63 #[.slice A n c, .agg (Ma.pK p)] W fun e w' => e = .returned (.tuple #[.int .i64 (idxI (fst p (delS s (keyP p)).rl)), .bool (accB (delS s (keyP p)).rl (fst p (delS s (keyP p)).rl))]) ∧ Below W.heap.size W w') := fun W A n c h => by
    obtain ⟨A', c', e, h2, h3⟩ := h.len
    injection e with _ e _
    exact Ma.refFirst_any A n c _ p hp W e.symm h hi1.rls (by omega)
  have HOP : Hid (∀ W, Calls Tryz.prog 64 #[.agg (Ma.pK p)] W fun e w' => e = .returned (.tuple #[.int .i64 (opeN p), .bool (opeB p)]) ∧ Below W.heap.size W w') := fun W => Fs.refOpen_any _ _ _ _ _ _ _ (by have := hp.fl; omega) W
  have HENT : Hid (∀ W, Calls Tryz.prog 65 #[.int .u64 (GatM.gI (delS s (keyP p)).c (delS s (keyP p)).g (delS s (keyP p)).v), .int .i64 N] W fun e w' => e = .returned (.tuple #[.int .u64 (GatM.gI (delS s (keyP p)).c (if N ≤ (delS s (keyP p)).g then (delS s (keyP p)).g else (delS s (keyP p)).g + 1) (delS s (keyP p)).v), .bool (!decide (N ≤ (delS s (keyP p)).g))]) ∧ Below W.heap.size W w') := fun W => by
    by_cases h : N ≤ (delS s (keyP p)).g
    · rw [if_pos h, decide_eq_true h]
      exact Ga.refEnter_any hi1.fit (.inr ⟨rfl, rfl, .inl h⟩) W
    · rw [if_neg h, decide_eq_false h]
      exact Ga.refEnter_any hi1.fit (.inl ⟨rfl, rfl, h, by have := hi1.cap1; omega⟩) W
  have HWD : Hid (∀ W O1 vr vf vs hist, Rf W O1 B z N T (GatM.gI (delS s (keyP p)).c (delS s (keyP p)).g (delS s (keyP p)).v) vr vf vs hist (delS s (keyP p)).fs (delS s (keyP p)).tl → Calls Tryz.prog 62 #[ptr B, .int .u64 0, .int .i64 (opeN p)] W fun e w' => e = .returned (.int .u64 (FloM.gI (Fl.clip (Fs.untN T (opeN p) (delS s (keyP p)).c)) (Fl.up 0) (opeN p % 16))) ∧ Below W.heap.size W w') := fun W O1 vr vf vs hist h =>
    refWord_any h hi1.fit H.2.2.1 (a := 0) (b := 0) (d := 0) ⟨by omega, by omega, by omega, by omega, by omega, by omega⟩ _
  have HV3 : Hid (accB (delS s (keyP p)).rl (fst p (delS s (keyP p)).rl) = false → opeV N (delS s (keyP p)) p = 3 ∧ opeS N T (delS s (keyP p)) p = delS s (keyP p)) := fun h => by
    have e : opeV N (delS s (keyP p)) p = 3 := by unfold opeV; rw [if_pos h]
    exact ⟨e, by unfold opeS; rw [e]; rfl⟩
  have HV4 : Hid (accB (delS s (keyP p)).rl (fst p (delS s (keyP p)).rl) = true → opeB p = false → opeV N (delS s (keyP p)) p = 4 ∧ opeS N T (delS s (keyP p)) p = delS s (keyP p)) := fun h h2 => by
    have e : opeV N (delS s (keyP p)) p = 4 := by unfold opeV; rw [if_neg (by rw [h]; simp), if_pos h2]
    exact ⟨e, by unfold opeS; rw [e]; rfl⟩
  have HV5 : Hid (accB (delS s (keyP p)).rl (fst p (delS s (keyP p)).rl) = true → opeB p = true → N ≤ (delS s (keyP p)).g → opeV N (delS s (keyP p)) p = 5 ∧ opeS N T (delS s (keyP p)) p = delS s (keyP p)) := fun h h2 h3 => by
    have e : opeV N (delS s (keyP p)) p = 5 := by unfold opeV; rw [if_neg (by rw [h]; simp), if_neg (by rw [h2]; simp), if_pos h3]
    exact ⟨e, by unfold opeS; rw [e]; rfl⟩
  have HV1 : Hid (accB (delS s (keyP p)).rl (fst p (delS s (keyP p)).rl) = true → opeB p = true → ¬ N ≤ (delS s (keyP p)).g → opeV N (delS s (keyP p)) p = 1 ∧ opeS N T (delS s (keyP p)) p = { delS s (keyP p) with g := (delS s (keyP p)).g + 1, fs := ins { k := keyP p, c := Fl.clip (Fs.untN T (opeN p) (delS s (keyP p)).c), n := Fl.up 0, s := opeN p % 16, dn := dnP p } (delS s (keyP p)).fs }) := fun h h2 h3 => by
    have e : opeV N (delS s (keyP p)) p = 1 := by unfold opeV; rw [if_neg (by rw [h]; simp), if_neg (by rw [h2]; simp), if_neg h3]
    exact ⟨e, by unfold opeS; rw [e]; rfl⟩
  have HE1 := Lib.hid e1
  clear hi1 e1 hk
  generalize delB s (keyP p) = db at *
  generalize delS s (keyP p) = s1 at *
  generalize keyP p = k at *
  generalize dnP p = dn at *
  generalize accB s1.rl (fst p s1.rl) = ac at *
  generalize idxI (fst p s1.rl) = ix at *
  generalize opeB p = ob at *
  generalize opeN p = on at *
  generalize opeV N s1 p = ov at *
  generalize opeS N T s1 p = os at *
  have HB := Lib.hid (below_box w (.cells (Ma.pK p) 41))
  have HX := Lib.hid (Blk.box w (Ma.pK p) 41)
  obtain ⟨p0, p1, p2, p3, p4, p5, p6⟩ := Fs.pk_cells HX.out
  clear H he hp
  go_enter Tryz.func31, Tryz.ntmps31
  go_wp2_with fail
  go_at_call 59
  refine (HOF.out _).mono ?_
  rintro e w1 ⟨rfl, hb⟩
  have HB1 := Lib.hid ((HB.out.trans (hb.mono HB.out.size)).trans ((below_box w1 (.cells (Ky.kyc k.a k.b k.p k.q k.r) 45)).mono (HB.out.trans (hb.mono HB.out.size)).size))
  have HX1 := Lib.hid ((HX.out.next hb).alloc (.cells (Ky.kyc k.a k.b k.p k.q k.r) 45))
  have HK1 := Lib.hid (Blk.box w1 (Ky.kyc k.a k.b k.p k.q k.r) 45)
  have HSZ := Lib.hid (HB.out.trans (hb.mono HB.out.size)).size
  clear hb p0 p1 p2 p3 p4 p5 p6 HB HX
  go_wp2_with fail
  go_at_call 27
  refine (HDEL.out _ (HH.out.next HB1.out) (HENV.out.below HB1.out)).mono ?_
  rintro e W2 ⟨O1, rfl, hq, ho, hO⟩
  obtain ⟨⟨vr, vf, vs, hist, hr, hrest⟩, -, hq3⟩ := hq
  obtain ⟨A, cc, rfl, hnc, hcm⟩ := hr.len2
  obtain ⟨n, hn⟩ : ∃ n, s1.fs.length = n := ⟨_, rfl⟩
  rw [hn] at hr hnc
  obtain ⟨v0, hv0⟩ := Int.eq_ofNat_of_zero_le HI1.out.fit.v0
  have hvl : vs.length = v0 + 1 := by rw [hr.vl]; have := hrest.1; omega
  obtain ⟨L, hL⟩ : ∃ L, vs.length = L := ⟨_, rfl⟩
  obtain ⟨vv, hvv⟩ : ∃ q, vs[v0]? = some q := ⟨_, List.getElem?_eq_getElem (by omega)⟩
  have hhist : hist[v0]? = some s1.rl := by have := hrest.2.1; rwa [hv0] at this
  obtain ⟨gr, cr, rfl, hlc, hlm, -⟩ := row_cell hr.rr hvv
  obtain ⟨Al, cl, rfl, hlc2, hlm2⟩ := (hr.rd v0 vv s1.rl hvv hhist).len
  rw [hL] at hr hlc hvl
  obtain ⟨nl, hnl⟩ : ∃ L, s1.rl.length = L := ⟨_, rfl⟩
  rw [hnl] at hvv
  have hA : AK w O O1 B z N T (GatM.gI s1.c s1.g s1.v) (.slice (some ⟨gr, 0, none⟩) L cr) (.slice A n cc) vs hist s1.fs s1.tl p k w1.heap.size W2 := ⟨hr, HX1.out.only ho (fun h => Nat.lt_irrefl _ (HLT.out _ h)), HK1.out.only ho (fun h => by have := HLT.out _ h; have := HSZ.out; omega), (Only.of_below HB1.out : Only O w _).trans ho (fun j e => .inl e)⟩
  have HA := Lib.hid hA
  have HOS : Hid (∀ j, O1 j → O j ∨ w.heap.size ≤ j) := fun j hj => (hO j hj).imp id (fun h => Nat.le_trans HB1.out.size h)
  have HREST := Lib.hid hrest
  have HQ3 := Lib.hid hq3
  have HVV := Lib.hid hvv
  have HHI := Lib.hid hhist
  have HN := Lib.hid hn
  have HV0 := Lib.hid hv0
  obtain ⟨gk, hgk⟩ : ∃ g, w1.heap.size = g := ⟨_, rfl⟩
  rw [hgk] at HA ⊢
  have hL2 : v0 < L := by omega
  clear hr hrest hq3 ho hO hA HX1 HK1 HSZ HDEL HH hgk HB1 hvv hhist hn hL hnl hv0 hvl
  obtain ⟨x0, x1, x2, x3, x4⟩ := Ky.ky_cells HA.out.k
  go_wp2_with fail
  clear x0 x1 x2 x3 x4
  go_at_call 57
  refine (refFind_any HA.out.r k).mono ?_
  rw [HE1.out]
  rintro e W3 ⟨rfl, hb⟩
  have HA3 := Lib.hid (HA.out.next hb)
  clear hb HA HE1
  go_wp2_with fail
  refine wp_region_held_drew (S := fun w' => Hid (AK w O O1 B z N T (GatM.gI s1.c s1.g s1.v) (.slice (some ⟨gr, 0, none⟩) L cr) (.slice A n cc) vs hist s1.fs s1.tl p k gk w')) (by kernel_rfl) (Lib.hid HA3.out.drew) (fun hH => ?_)
  refine wpAnyH_take (i := 0) (oi := ⟨some 82, _, _, _, _, _⟩) (v := ?v1) rfl (by kernel_rfl) (by kernel_rfl) (by kernel_rfl) (fun _ _ _ h => h) (Or.inl ⟨rfl, ?c1⟩) hH ?r1
  case c1 => (intro w' _; go_simp; (try with_reducible rfl))
  try simp only [Act.put, List.setIfInBounds_toArray, List.set_cons_zero, List.set_cons_succ]
  refine wpAnyH_take (i := 1) (oi := ⟨some 83, _, _, _, _, _⟩) (v := ?v2) rfl (by kernel_rfl) (by kernel_rfl) (by kernel_rfl) (fun _ _ _ h => h) (Or.inl ⟨rfl, ?c2⟩) hH ?r2
  case c2 => (intro w' _; go_simp; (try with_reducible rfl))
  try simp only [Act.put, List.setIfInBounds_toArray, List.set_cons_zero, List.set_cons_succ]
  refine wpAnyH_take (i := 2) (oi := ⟨some 84, _, _, _, _, _⟩) (v := ?v3) rfl (by kernel_rfl) (by kernel_rfl) (by kernel_rfl) (fun _ _ _ h => h) (Or.inl ⟨rfl, ?c3⟩) hH ?r3
  case c3 => (intro w' _; go_simp; (try with_reducible rfl))
  try simp only [Act.put, List.setIfInBounds_toArray, List.set_cons_zero, List.set_cons_succ]
  refine wpAnyH_take (i := 3) (oi := ⟨some 85, _, _, _, _, _⟩) (v := ?v4) rfl (by kernel_rfl) (by kernel_rfl) (by kernel_rfl) (fun _ _ _ h => h) (Or.inl ⟨rfl, ?c4⟩) hH ?r4
  case c4 => (intro w' hS; have x19 := hS.out.r.at_ 19 _ rfl; go_simp; (try with_reducible rfl))
  try simp only [Act.put, List.setIfInBounds_toArray, List.set_cons_zero, List.set_cons_succ]
  refine wpAnyH_take (i := 4) (oi := ⟨some 86, _, _, _, _, _⟩) (v := ?v5) rfl (by kernel_rfl) (by kernel_rfl) (by kernel_rfl) (fun _ _ _ h => h) (Or.inl ⟨rfl, ?c5⟩) hH ?r5
  case c5 => (intro w' _; go_simp; (try with_reducible rfl))
  try simp only [Act.put, List.setIfInBounds_toArray, List.set_cons_zero, List.set_cons_succ]
  refine wpAnyH_take (i := 5) (oi := ⟨some 87, _, _, _, _, _⟩) (v := ?v6) rfl (by kernel_rfl) (by kernel_rfl) (by kernel_rfl) (fun _ _ _ h => h) (Or.inl ⟨rfl, ?c6⟩) hH ?r6
  case c6 => (intro w' _; go_simp; (try with_reducible rfl))
  try simp only [Act.put, List.setIfInBounds_toArray, List.set_cons_zero, List.set_cons_succ]
  refine wpAnyH_take (i := 6) (oi := ⟨some 88, _, _, _, _, _⟩) (v := ?v7) rfl (by kernel_rfl) (by kernel_rfl) (by kernel_rfl) (fun _ _ _ h => h) (Or.inl ⟨rfl, ?c7⟩) hH ?r7
  case c7 => (intro w' _; go_simp; (try with_reducible rfl))
  try simp only [Act.put, List.setIfInBounds_toArray, List.set_cons_zero, List.set_cons_succ]
  refine wpAnyH_take (i := 7) (oi := ⟨some 89, _, _, _, _, _⟩) (v := ?v8) rfl (by kernel_rfl) (by kernel_rfl) (by kernel_rfl) (fun _ _ _ h => h) (Or.inl ⟨rfl, ?c8⟩) hH ?r8
  case c8 => (intro w' hS; have x18 := hS.out.r.at_ 18 _ rfl; go_simp; (try with_reducible rfl))
  try simp only [Act.put, List.setIfInBounds_toArray, List.set_cons_zero, List.set_cons_succ]
  refine wpAnyH_take (i := 12) (oi := ⟨some 94, _, _, _, _, _⟩) (v := ?v9) rfl (by kernel_rfl) (by kernel_rfl) (by kernel_rfl) (fun _ _ _ h => h) (Or.inl ⟨rfl, ?c9⟩) hH ?r9
  case c9 => (intro w' hS; obtain ⟨p0, p1, p2, p3, p4, p5, p6⟩ := Fs.pk_cells hS.out.p; go_simp; (try with_reducible rfl))
  try simp only [Act.put, List.setIfInBounds_toArray, List.set_cons_zero, List.set_cons_succ]
  refine wpAnyH_ready (rs := [8]) (by kernel_rfl) (by simp) (AllReadyH.cons rfl (fun K hK => ?_) (AllReadyH.nil))
  go_simp
  go_at_call 32
  refine (HUP.out _).mono ?_
  rintro e W4 ⟨rfl, hbp⟩
  refine hK.out _ _ (Lib.hid (hH.out.next hbp)) (fun hH => ?_)
  clear hK K
  clear hbp
  try simp only [Act.put, List.setIfInBounds_toArray, List.set_cons_zero, List.set_cons_succ]
  refine wpAnyH_take (i := 9) (oi := ⟨some 91, _, _, _, _, _⟩) (v := ?v10) rfl (by kernel_rfl) (by kernel_rfl) (by kernel_rfl) (fun _ _ _ h => h) (Or.inl ⟨rfl, ?c10⟩) hH ?r10
  case c10 => (intro w' hS; go_simp; rw [gate_f0, HV0.out]; simp only [Result.andThen_ok]; (try with_reducible rfl))
  try simp only [Act.put, List.setIfInBounds_toArray, List.set_cons_zero, List.set_cons_succ]
  refine wpAnyH_take (i := 10) (oi := ⟨some 92, _, _, _, _, _⟩) (v := ?v11) rfl (by kernel_rfl) (by kernel_rfl) (by kernel_rfl) (fun _ _ _ h => h) (Or.inl ⟨rfl, ?c11⟩) hH ?r11
  case c11 => (intro w' _; go_simp; (try with_reducible rfl))
  try simp only [Act.put, List.setIfInBounds_toArray, List.set_cons_zero, List.set_cons_succ]
  refine wpAnyH_take (i := 11) (oi := ⟨some 93, _, _, _, _, _⟩) (v := ?v12) rfl (by kernel_rfl) (by kernel_rfl) (by kernel_rfl) (fun _ _ _ h => h) (Or.inl ⟨rfl, ?c12⟩) hH ?r12
  case c12 => (intro w' hS; have xr := hS.out.r.rule HVV.out; go_simp; (try with_reducible rfl))
  try simp only [Act.put, List.setIfInBounds_toArray, List.set_cons_zero, List.set_cons_succ]
  refine wpAnyH_ready (rs := [13]) (by kernel_rfl) (by simp) (AllReadyH.cons rfl (fun K hK => ?_) (AllReadyH.nil))
  go_simp
  go_at_call 63
  refine (HFST.out _ _ _ _ (hH.out.r.rd v0 _ _ HVV.out HHI.out)).mono ?_
  rintro e W5 ⟨rfl, hbp⟩
  refine hK.out _ _ (Lib.hid (hH.out.next hbp)) (fun hH => ?_)
  clear hK K
  clear hbp
  try simp only [Act.put, List.setIfInBounds_toArray, List.set_cons_zero, List.set_cons_succ]
  refine wpAnyH_take (i := 14) (oi := ⟨some 81, _, _, _, _, _⟩) (v := ?v13) rfl (by kernel_rfl) (by kernel_rfl) (by kernel_rfl) (fun _ _ _ h => h) (Or.inl ⟨rfl, ?c13⟩) hH ?r13
  case c13 => (intro w' _; go_simp; (try with_reducible rfl))
  try simp only [Act.put, List.setIfInBounds_toArray, List.set_cons_zero, List.set_cons_succ]
  refine wpAnyH_take (i := 15) (oi := ⟨some 96, _, _, _, _, _⟩) (v := ?v14) rfl (by kernel_rfl) (by kernel_rfl) (by kernel_rfl) (fun _ _ _ h => h) (Or.inl ⟨rfl, ?c14⟩) hH ?r14
  case c14 => (intro w' _; go_simp; (try with_reducible rfl))
  try simp only [Act.put, List.setIfInBounds_toArray, List.set_cons_zero, List.set_cons_succ]
  refine wpAnyH_take (i := 16) (oi := ⟨some 97, _, _, _, _, _⟩) (v := ?v15) rfl (by kernel_rfl) (by kernel_rfl) (by kernel_rfl) (fun _ _ _ h => h) (Or.inl ⟨rfl, ?c15⟩) hH ?r15
  case c15 => (intro w' _; go_simp; (try with_reducible rfl))
  try simp only [Act.put, List.setIfInBounds_toArray, List.set_cons_zero, List.set_cons_succ]
  refine wpAnyH_take (i := 17) (oi := ⟨some 12, _, _, _, _, _⟩) (v := ?v16) rfl (by kernel_rfl) (by kernel_rfl) (by kernel_rfl) (fun _ _ _ h => h) (Or.inl ⟨rfl, ?c16⟩) hH ?r16
  case c16 => (intro w' _; go_simp; (try with_reducible rfl))
  try simp only [Act.put, List.setIfInBounds_toArray, List.set_cons_zero, List.set_cons_succ]
  refine wpAnyH_take (i := 18) (oi := ⟨some 13, _, _, _, _, _⟩) (v := ?v17) rfl (by kernel_rfl) (by kernel_rfl) (by kernel_rfl) (fun _ _ _ h => h) (Or.inl ⟨rfl, ?c17⟩) hH ?r17
  case c17 => (intro w' _; go_simp; (try with_reducible rfl))
  try simp only [Act.put, List.setIfInBounds_toArray, List.set_cons_zero, List.set_cons_succ]
  refine wpAnyH_done (by kernel_rfl) ?_ _
  have HA5 := hH
  clear hH HA3 HFST
  cases ac with
  | false =>
    have HV := Lib.hid (HV3.out (by first | trivial | rfl))
    clear HV1 HV3 HV4 HV5
    go_wp2_with fail
    go_ret
    exact ⟨O1, by rw [HV.out.1]; rfl, ⟨⟨_, _, vs, hist, by rw [HV.out.2]; exact HA5.out.r, by rw [HV.out.2]; exact HREST.out⟩, HINV.out, HQ3.out⟩, HA5.out.on, HOS.out⟩
  | true =>
    clear HV3
    obtain ⟨p0, p1, p2, p3, p4, p5, p6⟩ := Fs.pk_cells HA5.out.p
    go_wp2_with fail
    clear p0 p1 p2 p3 p4 p5 p6
    go_at_call 64
    refine (HOP.out _).mono ?_
    rintro e W6 ⟨rfl, hb⟩
    have HA6 := Lib.hid (HA5.out.next hb)
    clear hb HA5
    cases ob with
    | false =>
      have HV := Lib.hid (HV4.out (by first | trivial | rfl) (by first | trivial | rfl))
      clear HV1 HV4 HV5
      go_wp2_with fail
      go_ret
      exact ⟨O1, by rw [HV.out.1]; rfl, ⟨⟨_, _, vs, hist, by rw [HV.out.2]; exact HA6.out.r, by rw [HV.out.2]; exact HREST.out⟩, HINV.out, HQ3.out⟩, HA6.out.on, HOS.out⟩
    | true =>
      clear HV4
      go_wp2_with fail
      by_cases hN : N ≤ s1.g
      · rw [if_pos hN, decide_eq_true hN] at HENT
        have HV := Lib.hid (HV5.out (by first | trivial | rfl) (by first | trivial | rfl) hN)
        clear HV1 HV5
        refine wp_region_held_drew (S := fun w' => Hid (AK w O O1 B z N T (GatM.gI s1.c s1.g s1.v) (.slice (some ⟨gr, 0, none⟩) L cr) (.slice A n cc) vs hist s1.fs s1.tl p k gk w')) (by kernel_rfl) (Lib.hid HA6.out.drew) (fun hH => ?_)
        refine wpAnyH_take (i := 0) (oi := ⟨some 108, _, _, _, _, _⟩) (v := ?v101) rfl (by kernel_rfl) (by kernel_rfl) (by kernel_rfl) (fun _ _ _ h => h) (Or.inl ⟨rfl, ?c101⟩) hH ?r101
        case c101 => (intro w' _; go_simp; (try with_reducible rfl))
        try simp only [Act.put, List.setIfInBounds_toArray, List.set_cons_zero, List.set_cons_succ]
        refine wpAnyH_take (i := 1) (oi := ⟨some 109, _, _, _, _, _⟩) (v := ?v102) rfl (by kernel_rfl) (by kernel_rfl) (by kernel_rfl) (fun _ _ _ h => h) (Or.inl ⟨rfl, ?c102⟩) hH ?r102
        case c102 => (intro w' _; go_simp; (try with_reducible rfl))
        try simp only [Act.put, List.setIfInBounds_toArray, List.set_cons_zero, List.set_cons_succ]
        refine wpAnyH_take (i := 2) (oi := ⟨some 110, _, _, _, _, _⟩) (v := ?v103) rfl (by kernel_rfl) (by kernel_rfl) (by kernel_rfl) (fun _ _ _ h => h) (Or.inl ⟨rfl, ?c103⟩) hH ?r103
        case c103 => (intro w' _; go_simp; (try with_reducible rfl))
        try simp only [Act.put, List.setIfInBounds_toArray, List.set_cons_zero, List.set_cons_succ]
        refine wpAnyH_take (i := 3) (oi := ⟨some 111, _, _, _, _, _⟩) (v := ?v104) rfl (by kernel_rfl) (by kernel_rfl) (by kernel_rfl) (fun _ _ _ h => h) (Or.inl ⟨rfl, ?c104⟩) hH ?r104
        case c104 => (intro w' hS; have x18 := hS.out.r.at_ 18 _ rfl; go_simp; (try with_reducible rfl))
        try simp only [Act.put, List.setIfInBounds_toArray, List.set_cons_zero, List.set_cons_succ]
        refine wpAnyH_take (i := 4) (oi := ⟨some 112, _, _, _, _, _⟩) (v := ?v105) rfl (by kernel_rfl) (by kernel_rfl) (by kernel_rfl) (fun _ _ _ h => h) (Or.inl ⟨rfl, ?c105⟩) hH ?r105
        case c105 => (intro w' _; go_simp; (try with_reducible rfl))
        try simp only [Act.put, List.setIfInBounds_toArray, List.set_cons_zero, List.set_cons_succ]
        refine wpAnyH_take (i := 5) (oi := ⟨some 113, _, _, _, _, _⟩) (v := ?v106) rfl (by kernel_rfl) (by kernel_rfl) (by kernel_rfl) (fun _ _ _ h => h) (Or.inl ⟨rfl, ?c106⟩) hH ?r106
        case c106 => (intro w' _; go_simp; (try with_reducible rfl))
        try simp only [Act.put, List.setIfInBounds_toArray, List.set_cons_zero, List.set_cons_succ]
        refine wpAnyH_take (i := 6) (oi := ⟨some 114, _, _, _, _, _⟩) (v := ?v107) rfl (by kernel_rfl) (by kernel_rfl) (by kernel_rfl) (fun _ _ _ h => h) (Or.inl ⟨rfl, ?c107⟩) hH ?r107
        case c107 => (intro w' _; go_simp; (try with_reducible rfl))
        try simp only [Act.put, List.setIfInBounds_toArray, List.set_cons_zero, List.set_cons_succ]
        refine wpAnyH_take (i := 7) (oi := ⟨some 115, _, _, _, _, _⟩) (v := ?v108) rfl (by kernel_rfl) (by kernel_rfl) (by kernel_rfl) (fun _ _ _ h => h) (Or.inl ⟨rfl, ?c108⟩) hH ?r108
        case c108 => (intro w' _; go_simp; (try with_reducible rfl))
        try simp only [Act.put, List.setIfInBounds_toArray, List.set_cons_zero, List.set_cons_succ]
        refine wpAnyH_take (i := 8) (oi := ⟨some 116, _, _, _, _, _⟩) (v := ?v109) rfl (by kernel_rfl) (by kernel_rfl) (by kernel_rfl) (fun _ _ _ h => h) (Or.inl ⟨rfl, ?c109⟩) hH ?r109
        case c109 => (intro w' hS; have x1 := hS.out.r.at_ 1 _ rfl; go_simp; (try with_reducible rfl))
        try simp only [Act.put, List.setIfInBounds_toArray, List.set_cons_zero, List.set_cons_succ]
        refine wpAnyH_ready (rs := [9]) (by kernel_rfl) (by simp) (AllReadyH.cons rfl (fun K hK => ?_) (AllReadyH.nil))
        go_simp
        go_at_call 65
        refine (HENT.out _).mono ?_
        rintro e W7 ⟨rfl, hbp⟩
        refine hK.out _ _ (Lib.hid (hH.out.next hbp)) (fun hH => ?_)
        clear hK K
        clear hbp
        try simp only [Act.put, List.setIfInBounds_toArray, List.set_cons_zero, List.set_cons_succ]
        refine wpAnyH_take (i := 10) (oi := ⟨some 107, _, _, _, _, _⟩) (v := ?v110) rfl (by kernel_rfl) (by kernel_rfl) (by kernel_rfl) (fun _ _ _ h => h) (Or.inl ⟨rfl, ?c110⟩) hH ?r110
        case c110 => (intro w' _; go_simp; (try with_reducible rfl))
        try simp only [Act.put, List.setIfInBounds_toArray, List.set_cons_zero, List.set_cons_succ]
        refine wpAnyH_take (i := 11) (oi := ⟨some 118, _, _, _, _, _⟩) (v := ?v111) rfl (by kernel_rfl) (by kernel_rfl) (by kernel_rfl) (fun _ _ _ h => h) (Or.inl ⟨rfl, ?c111⟩) hH ?r111
        case c111 => (intro w' _; go_simp; (try with_reducible rfl))
        try simp only [Act.put, List.setIfInBounds_toArray, List.set_cons_zero, List.set_cons_succ]
        refine wpAnyH_take (i := 12) (oi := ⟨some 119, _, _, _, _, _⟩) (v := ?v112) rfl (by kernel_rfl) (by kernel_rfl) (by kernel_rfl) (fun _ _ _ h => h) (Or.inl ⟨rfl, ?c112⟩) hH ?r112
        case c112 => (intro w' _; go_simp; (try with_reducible rfl))
        try simp only [Act.put, List.setIfInBounds_toArray, List.set_cons_zero, List.set_cons_succ]
        refine wpAnyH_take (i := 13) (oi := ⟨some 16, _, _, _, _, _⟩) (v := ?v113) rfl (by kernel_rfl) (by kernel_rfl) (by kernel_rfl) (fun _ _ _ h => h) (Or.inl ⟨rfl, ?c113⟩) hH ?r113
        case c113 => (intro w' _; go_simp; (try with_reducible rfl))
        try simp only [Act.put, List.setIfInBounds_toArray, List.set_cons_zero, List.set_cons_succ]
        refine wpAnyH_take (i := 14) (oi := ⟨some 17, _, _, _, _, _⟩) (v := ?v114) rfl (by kernel_rfl) (by kernel_rfl) (by kernel_rfl) (fun _ _ _ h => h) (Or.inl ⟨rfl, ?c114⟩) hH ?r114
        case c114 => (intro w' _; go_simp; (try with_reducible rfl))
        try simp only [Act.put, List.setIfInBounds_toArray, List.set_cons_zero, List.set_cons_succ]
        refine wpAnyH_done (by kernel_rfl) ?_ _
        have HA7 := hH
        clear hH HA6
        go_wp2_with fail
        go_ret
        exact ⟨O1, by rw [HV.out.1]; rfl, ⟨⟨_, _, vs, hist, by rw [HV.out.2]; exact HA7.out.r, by rw [HV.out.2]; exact HREST.out⟩, HINV.out, HQ3.out⟩, HA7.out.on, HOS.out⟩
      · rw [if_neg hN, decide_eq_false hN] at HENT
        clear HV5
        refine wp_region_held_drew (S := fun w' => Hid (AK w O O1 B z N T (GatM.gI s1.c s1.g s1.v) (.slice (some ⟨gr, 0, none⟩) L cr) (.slice A n cc) vs hist s1.fs s1.tl p k gk w')) (by kernel_rfl) (Lib.hid HA6.out.drew) (fun hH => ?_)
        refine wpAnyH_take (i := 0) (oi := ⟨some 108, _, _, _, _, _⟩) (v := ?v151) rfl (by kernel_rfl) (by kernel_rfl) (by kernel_rfl) (fun _ _ _ h => h) (Or.inl ⟨rfl, ?c151⟩) hH ?r151
        case c151 => (intro w' _; go_simp; (try with_reducible rfl))
        try simp only [Act.put, List.setIfInBounds_toArray, List.set_cons_zero, List.set_cons_succ]
        refine wpAnyH_take (i := 1) (oi := ⟨some 109, _, _, _, _, _⟩) (v := ?v152) rfl (by kernel_rfl) (by kernel_rfl) (by kernel_rfl) (fun _ _ _ h => h) (Or.inl ⟨rfl, ?c152⟩) hH ?r152
        case c152 => (intro w' _; go_simp; (try with_reducible rfl))
        try simp only [Act.put, List.setIfInBounds_toArray, List.set_cons_zero, List.set_cons_succ]
        refine wpAnyH_take (i := 2) (oi := ⟨some 110, _, _, _, _, _⟩) (v := ?v153) rfl (by kernel_rfl) (by kernel_rfl) (by kernel_rfl) (fun _ _ _ h => h) (Or.inl ⟨rfl, ?c153⟩) hH ?r153
        case c153 => (intro w' _; go_simp; (try with_reducible rfl))
        try simp only [Act.put, List.setIfInBounds_toArray, List.set_cons_zero, List.set_cons_succ]
        refine wpAnyH_take (i := 3) (oi := ⟨some 111, _, _, _, _, _⟩) (v := ?v154) rfl (by kernel_rfl) (by kernel_rfl) (by kernel_rfl) (fun _ _ _ h => h) (Or.inl ⟨rfl, ?c154⟩) hH ?r154
        case c154 => (intro w' hS; have x18 := hS.out.r.at_ 18 _ rfl; go_simp; (try with_reducible rfl))
        try simp only [Act.put, List.setIfInBounds_toArray, List.set_cons_zero, List.set_cons_succ]
        refine wpAnyH_take (i := 4) (oi := ⟨some 112, _, _, _, _, _⟩) (v := ?v155) rfl (by kernel_rfl) (by kernel_rfl) (by kernel_rfl) (fun _ _ _ h => h) (Or.inl ⟨rfl, ?c155⟩) hH ?r155
        case c155 => (intro w' _; go_simp; (try with_reducible rfl))
        try simp only [Act.put, List.setIfInBounds_toArray, List.set_cons_zero, List.set_cons_succ]
        refine wpAnyH_take (i := 5) (oi := ⟨some 113, _, _, _, _, _⟩) (v := ?v156) rfl (by kernel_rfl) (by kernel_rfl) (by kernel_rfl) (fun _ _ _ h => h) (Or.inl ⟨rfl, ?c156⟩) hH ?r156
        case c156 => (intro w' _; go_simp; (try with_reducible rfl))
        try simp only [Act.put, List.setIfInBounds_toArray, List.set_cons_zero, List.set_cons_succ]
        refine wpAnyH_take (i := 6) (oi := ⟨some 114, _, _, _, _, _⟩) (v := ?v157) rfl (by kernel_rfl) (by kernel_rfl) (by kernel_rfl) (fun _ _ _ h => h) (Or.inl ⟨rfl, ?c157⟩) hH ?r157
        case c157 => (intro w' _; go_simp; (try with_reducible rfl))
        try simp only [Act.put, List.setIfInBounds_toArray, List.set_cons_zero, List.set_cons_succ]
        refine wpAnyH_take (i := 7) (oi := ⟨some 115, _, _, _, _, _⟩) (v := ?v158) rfl (by kernel_rfl) (by kernel_rfl) (by kernel_rfl) (fun _ _ _ h => h) (Or.inl ⟨rfl, ?c158⟩) hH ?r158
        case c158 => (intro w' _; go_simp; (try with_reducible rfl))
        try simp only [Act.put, List.setIfInBounds_toArray, List.set_cons_zero, List.set_cons_succ]
        refine wpAnyH_take (i := 8) (oi := ⟨some 116, _, _, _, _, _⟩) (v := ?v159) rfl (by kernel_rfl) (by kernel_rfl) (by kernel_rfl) (fun _ _ _ h => h) (Or.inl ⟨rfl, ?c159⟩) hH ?r159
        case c159 => (intro w' hS; have x1 := hS.out.r.at_ 1 _ rfl; go_simp; (try with_reducible rfl))
        try simp only [Act.put, List.setIfInBounds_toArray, List.set_cons_zero, List.set_cons_succ]
        refine wpAnyH_ready (rs := [9]) (by kernel_rfl) (by simp) (AllReadyH.cons rfl (fun K hK => ?_) (AllReadyH.nil))
        go_simp
        go_at_call 65
        refine (HENT.out _).mono ?_
        rintro e W7 ⟨rfl, hbp⟩
        refine hK.out _ _ (Lib.hid (hH.out.next hbp)) (fun hH => ?_)
        clear hK K
        clear hbp
        try simp only [Act.put, List.setIfInBounds_toArray, List.set_cons_zero, List.set_cons_succ]
        refine wpAnyH_take (i := 10) (oi := ⟨some 107, _, _, _, _, _⟩) (v := ?v160) rfl (by kernel_rfl) (by kernel_rfl) (by kernel_rfl) (fun _ _ _ h => h) (Or.inl ⟨rfl, ?c160⟩) hH ?r160
        case c160 => (intro w' _; go_simp; (try with_reducible rfl))
        try simp only [Act.put, List.setIfInBounds_toArray, List.set_cons_zero, List.set_cons_succ]
        refine wpAnyH_take (i := 11) (oi := ⟨some 118, _, _, _, _, _⟩) (v := ?v161) rfl (by kernel_rfl) (by kernel_rfl) (by kernel_rfl) (fun _ _ _ h => h) (Or.inl ⟨rfl, ?c161⟩) hH ?r161
        case c161 => (intro w' _; go_simp; (try with_reducible rfl))
        try simp only [Act.put, List.setIfInBounds_toArray, List.set_cons_zero, List.set_cons_succ]
        refine wpAnyH_take (i := 12) (oi := ⟨some 119, _, _, _, _, _⟩) (v := ?v162) rfl (by kernel_rfl) (by kernel_rfl) (by kernel_rfl) (fun _ _ _ h => h) (Or.inl ⟨rfl, ?c162⟩) hH ?r162
        case c162 => (intro w' _; go_simp; (try with_reducible rfl))
        try simp only [Act.put, List.setIfInBounds_toArray, List.set_cons_zero, List.set_cons_succ]
        refine wpAnyH_take (i := 13) (oi := ⟨some 16, _, _, _, _, _⟩) (v := ?v163) rfl (by kernel_rfl) (by kernel_rfl) (by kernel_rfl) (fun _ _ _ h => h) (Or.inl ⟨rfl, ?c163⟩) hH ?r163
        case c163 => (intro w' _; go_simp; (try with_reducible rfl))
        try simp only [Act.put, List.setIfInBounds_toArray, List.set_cons_zero, List.set_cons_succ]
        refine wpAnyH_take (i := 14) (oi := ⟨some 17, _, _, _, _, _⟩) (v := ?v164) rfl (by kernel_rfl) (by kernel_rfl) (by kernel_rfl) (fun _ _ _ h => h) (Or.inl ⟨rfl, ?c164⟩) hH ?r164
        case c164 => (intro w' _; go_simp; (try with_reducible rfl))
        try simp only [Act.put, List.setIfInBounds_toArray, List.set_cons_zero, List.set_cons_succ]
        refine wpAnyH_done (by kernel_rfl) ?_ _
        have HA7 := hH
        clear hH HA6
        have HV := Lib.hid (HV1.out (by first | trivial | rfl) (by first | trivial | rfl) (by first | exact hN | omega))
        clear HV1
        have x20 := HA7.out.r.at_ 20 _ rfl
        go_wp2_with fail
        clear x20
        go_loopw [18] (fun vi wr => ∃ m : Nat, vi = .int .i64 (m : Int) ∧ m ≤ n ∧ Hid (AK w O O1 B z N T (GatM.gI s1.c s1.g s1.v) (.slice (some ⟨gr, 0, none⟩) L cr) (.slice A n cc) vs hist s1.fs s1.tl p k gk wr) ∧ Hid (∀ j f, m ≤ j → s1.fs[j]? = some f → ¬ f.k.num < k.num)) (fun vi _ => (RowKit.intOf vi).toNat)
        case atStart => exact ⟨n, rfl, Nat.le_refl _, HA7, (show Hid _ from fun j f hj hf => absurd (List.getElem?_eq_some_iff.1 hf).1 (by rw [HN.out]; omega))⟩
        case round =>
          clear HA7
          obtain ⟨m, rfl, hm, HAl, HGE⟩ := hrel
          by_cases h0 : m = 0
          · have d1 : Hid (decide (0 < m) = false) := decide_eq_false (by omega)
            have d2 : Hid (decide ((0 : Int) < (m : Int)) = false) := decide_eq_false (by omega)
            have HRK : Hid (rank k s1.fs = m) := by show _ = _; exact HI1.out.oks.rank_of (by rw [HN.out]; exact hm) HGE.out (.inl h0)
            clear h0
            go_wp2_with fail
            refine wp_region_held_drew (S := fun w' => Hid (AK w O O1 B z N T (GatM.gI s1.c s1.g s1.v) (.slice (some ⟨gr, 0, none⟩) L cr) (.slice A n cc) vs hist s1.fs s1.tl p k gk w')) (by kernel_rfl) (Lib.hid HAl.out.drew) (fun hH => ?_)
            refine wpAnyH_take (i := 0) (oi := ⟨some 127, _, _, _, _, _⟩) (v := ?v201) rfl (by kernel_rfl) (by kernel_rfl) (by kernel_rfl) (fun _ _ _ h => h) (Or.inl ⟨rfl, ?c201⟩) hH ?r201
            case c201 => (intro w' _; go_simp; (try with_reducible rfl))
            try simp only [Act.put, List.setIfInBounds_toArray, List.set_cons_zero, List.set_cons_succ]
            refine wpAnyH_take (i := 1) (oi := ⟨some 128, _, _, _, _, _⟩) (v := ?v202) rfl (by kernel_rfl) (by kernel_rfl) (by kernel_rfl) (fun _ _ _ h => h) (Or.inl ⟨rfl, ?c202⟩) hH ?r202
            case c202 => (intro w' _; go_simp; (try simp only [d1.out, d2.out]); (try with_reducible rfl))
            try simp only [Act.put, List.setIfInBounds_toArray, List.set_cons_zero, List.set_cons_succ]
            refine wpAnyH_take (i := 2) (oi := ⟨some 129, _, _, _, _, _⟩) (v := ?v203) rfl (by kernel_rfl) (by kernel_rfl) (by kernel_rfl) (fun _ _ _ h => h) (Or.inl ⟨rfl, ?c203⟩) hH ?r203
            case c203 => (intro w' _; go_simp; (try with_reducible rfl))
            try simp only [Act.put, List.setIfInBounds_toArray, List.set_cons_zero, List.set_cons_succ]
            refine wpAnyH_take (i := 3) (oi := ⟨some 130, _, _, _, _, _⟩) (v := undef) rfl (by kernel_rfl) (by kernel_rfl) (by kernel_rfl) (fun _ _ _ h => h) (Or.inr ⟨rfl, rfl⟩) hH ?_
            try simp only [Act.put, List.setIfInBounds_toArray, List.set_cons_zero, List.set_cons_succ]
            refine wpAnyH_take (i := 4) (oi := ⟨some 131, _, _, _, _, _⟩) (v := undef) rfl (by kernel_rfl) (by kernel_rfl) (by kernel_rfl) (fun _ _ _ h => h) (Or.inr ⟨rfl, rfl⟩) hH ?_
            try simp only [Act.put, List.setIfInBounds_toArray, List.set_cons_zero, List.set_cons_succ]
            refine wpAnyH_take (i := 5) (oi := ⟨some 132, _, _, _, _, _⟩) (v := undef) rfl (by kernel_rfl) (by kernel_rfl) (by kernel_rfl) (fun _ _ _ h => h) (Or.inr ⟨rfl, rfl⟩) hH ?_
            try simp only [Act.put, List.setIfInBounds_toArray, List.set_cons_zero, List.set_cons_succ]
            refine wpAnyH_take (i := 6) (oi := ⟨some 133, _, _, _, _, _⟩) (v := undef) rfl (by kernel_rfl) (by kernel_rfl) (by kernel_rfl) (fun _ _ _ h => h) (Or.inr ⟨rfl, rfl⟩) hH ?_
            try simp only [Act.put, List.setIfInBounds_toArray, List.set_cons_zero, List.set_cons_succ]
            refine wpAnyH_take (i := 7) (oi := ⟨some 134, _, _, _, _, _⟩) (v := undef) rfl (by kernel_rfl) (by kernel_rfl) (by kernel_rfl) (fun _ _ _ h => h) (Or.inr ⟨rfl, rfl⟩) hH ?_
            try simp only [Act.put, List.setIfInBounds_toArray, List.set_cons_zero, List.set_cons_succ]
            refine wpAnyH_take (i := 8) (oi := ⟨some 135, _, _, _, _, _⟩) (v := undef) rfl (by kernel_rfl) (by kernel_rfl) (by kernel_rfl) (fun _ _ _ h => h) (Or.inr ⟨rfl, rfl⟩) hH ?_
            try simp only [Act.put, List.setIfInBounds_toArray, List.set_cons_zero, List.set_cons_succ]
            refine wpAnyH_take (i := 9) (oi := ⟨some 136, _, _, _, _, _⟩) (v := undef) rfl (by kernel_rfl) (by kernel_rfl) (by kernel_rfl) (fun _ _ _ h => h) (Or.inr ⟨rfl, rfl⟩) hH ?_
            try simp only [Act.put, List.setIfInBounds_toArray, List.set_cons_zero, List.set_cons_succ]
            refine wpAnyH_take (i := 10) (oi := ⟨some 137, _, _, _, _, _⟩) (v := undef) rfl (by kernel_rfl) (by kernel_rfl) (by kernel_rfl) (fun _ _ _ h => h) (Or.inr ⟨rfl, rfl⟩) hH ?_
            try simp only [Act.put, List.setIfInBounds_toArray, List.set_cons_zero, List.set_cons_succ]
            refine wpAnyH_take (i := 11) (oi := ⟨some 138, _, _, _, _, _⟩) (v := undef) rfl (by kernel_rfl) (by kernel_rfl) (by kernel_rfl) (fun _ _ _ h => h) (Or.inr ⟨rfl, rfl⟩) hH ?_
            try simp only [Act.put, List.setIfInBounds_toArray, List.set_cons_zero, List.set_cons_succ]
            refine wpAnyH_take (i := 12) (oi := ⟨some 139, _, _, _, _, _⟩) (v := undef) rfl (by kernel_rfl) (by kernel_rfl) (by kernel_rfl) (fun _ _ _ h => h) (Or.inr ⟨rfl, rfl⟩) hH ?_
            try simp only [Act.put, List.setIfInBounds_toArray, List.set_cons_zero, List.set_cons_succ]
            refine wpAnyH_take (i := 13) (oi := ⟨some 140, _, _, _, _, _⟩) (v := undef) rfl (by kernel_rfl) (by kernel_rfl) (by kernel_rfl) (fun _ _ _ h => h) (Or.inr ⟨rfl, rfl⟩) hH ?_
            try simp only [Act.put, List.setIfInBounds_toArray, List.set_cons_zero, List.set_cons_succ]
            refine wpAnyH_take (i := 14) (oi := ⟨some 141, _, _, _, _, _⟩) (v := ?v215) rfl (by kernel_rfl) (by kernel_rfl) (by kernel_rfl) (fun _ _ _ h => h) (Or.inl ⟨rfl, ?c215⟩) hH ?r215
            case c215 => (intro w' _; go_simp; (try with_reducible rfl))
            try simp only [Act.put, List.setIfInBounds_toArray, List.set_cons_zero, List.set_cons_succ]
            refine wpAnyH_done (by kernel_rfl) ?_ _
            have HAn := hH
            clear hH HAl HENT
            go_wp2_with fail
            obtain ⟨Wc, hWc⟩ : ∃ q, wr.drew = q := ⟨_, rfl⟩
            rw [hWc] at HAn ⊢
            have HAc := HAn
            clear hWc HAn HGE
            have HT : Hid (∀ W, Below Wc.heap.size Wc W → Rd W W.heap.size 7 m (.slice A m cc) (fvs (s1.fs.take m))) := fun W h => by
              rw [fvs_take]
              have h2 := (HAc.out.r.next h).fr
              rw [HN.out] at h2
              exact row_take h2 hm
            obtain ⟨fn, hfn⟩ : ∃ q : Fl, { k := k, c := Fl.clip (Fs.untN T on s1.c), n := Fl.up 0, s := on % 16, dn := dn } = q := ⟨_, rfl⟩
            have HFN : Hid (f7 { k := k, c := Fl.clip (Fs.untN T on s1.c), n := Fl.up 0, s := on % 16, dn := dn } = f7 fn) := by show _ = _; rw [hfn]
            rw [hfn] at HV
            have HFS : Hid ([] ++ fvs (s1.fs.take m) ++ f7 fn ++ fvs (s1.fs.drop m) = fvs (ins fn s1.fs)) := by
              show _ = _
              rw [ins_is, show rank fn.k s1.fs = m by rw [← hfn]; exact HRK.out, List.nil_append, fvs_append, List.append_assoc]
              rfl
            clear hfn HRK
            have hmc : m ≤ cc := by omega
            have hn5 : n ≤ 4095 := by have := HI1.out.cnt; have := HI1.out.cap; have := HI1.out.cap1; have := HN.out; omega
            have HD : Hid (∀ W, Below Wc.heap.size Wc W → Rd W W.heap.size 7 (n - m) (.slice (if cc = m then A else A.map (·.add (m * 7))) (n - m) (cc - m)) (fvs (s1.fs.drop m))) := fun W h => by
              rw [fvs_drop]
              have h2 := (HAc.out.r.next h).fr
              rw [HN.out] at h2
              refine row_drop h2 hm fun hp b e => ?_
              subst e
              rw [if_neg (by omega)]
              try simp [Addr.add]
              try omega
            refine region_e (S := fun w' => Hid (Below Wc.heap.size Wc w')) 26 (by kernel_rfl) (Lib.hid (Below.refl Wc.heap.size Wc).drew) (fun hH => ?_)
            refine anyE_take (i := 0) (oi := ⟨some 144, _, _, _, _, _⟩) (v := ?v301) rfl (by kernel_rfl) (by kernel_rfl) (by kernel_rfl) (by kernel_rfl) (fun _ _ _ h => h) (Or.inl ⟨rfl, ?c301⟩) hH ?r301
            case c301 => (intro w' _; go_simp; (try with_reducible rfl))
            try simp only [Act.put, List.setIfInBounds_toArray, List.set_cons_zero, List.set_cons_succ]
            refine anyE_take (i := 2) (oi := ⟨some 146, _, _, _, _, _⟩) (v := ?v302) rfl (by kernel_rfl) (by kernel_rfl) (by kernel_rfl) (by kernel_rfl) (fun _ _ _ h => h) (Or.inl ⟨rfl, ?c302⟩) hH ?r302
            case c302 => (intro w' _; go_simp; (try with_reducible rfl))
            try simp only [Act.put, List.setIfInBounds_toArray, List.set_cons_zero, List.set_cons_succ]
            refine anyE_take (i := 3) (oi := ⟨some 147, _, _, _, _, _⟩) (v := ?v303) rfl (by kernel_rfl) (by kernel_rfl) (by kernel_rfl) (by kernel_rfl) (fun _ _ _ h => h) (Or.inl ⟨rfl, ?c303⟩) hH ?r303
            case c303 => (intro w' _; go_simp; (try with_reducible rfl))
            try simp only [Act.put, List.setIfInBounds_toArray, List.set_cons_zero, List.set_cons_succ]
            refine anyE_take (i := 4) (oi := ⟨some 148, _, _, _, _, _⟩) (v := ?v304) rfl (by kernel_rfl) (by kernel_rfl) (by kernel_rfl) (by kernel_rfl) (fun _ _ _ h => h) (Or.inl ⟨rfl, ?c304⟩) hH ?r304
            case c304 => (intro w' _; go_simp; (try with_reducible rfl))
            try simp only [Act.put, List.setIfInBounds_toArray, List.set_cons_zero, List.set_cons_succ]
            refine anyE_take (i := 5) (oi := ⟨some 149, _, _, _, _, _⟩) (v := ?v305) rfl (by kernel_rfl) (by kernel_rfl) (by kernel_rfl) (by kernel_rfl) (fun _ _ _ h => h) (Or.inl ⟨rfl, ?c305⟩) hH ?r305
            case c305 => (intro w' hS; have x20 := (HAc.out.r.next hS.out).at_ 20 _ rfl; go_simp; (try with_reducible rfl))
            try simp only [Act.put, List.setIfInBounds_toArray, List.set_cons_zero, List.set_cons_succ]
            refine anyE_take (i := 6) (oi := ⟨some 150, _, _, _, _, _⟩) (v := ?v306) rfl (by kernel_rfl) (by kernel_rfl) (by kernel_rfl) (by kernel_rfl) (fun _ _ _ h => h) (Or.inl ⟨rfl, ?c306⟩) hH ?r306
            case c306 => (intro w' _; go_simp; (try with_reducible rfl))
            try simp only [Act.put, List.setIfInBounds_toArray, List.set_cons_zero, List.set_cons_succ]
            refine anyE_take (i := 7) (oi := ⟨some 151, _, _, _, _, _⟩) (v := ?v307) rfl (by kernel_rfl) (by kernel_rfl) (by kernel_rfl) (by kernel_rfl) (fun _ _ _ h => h) (Or.inl ⟨rfl, ?c307⟩) hH ?r307
            case c307 => (intro w' _; go_simp; (try rw [if_pos HIC.out]); (try with_reducible rfl))
            try simp only [Act.put, List.setIfInBounds_toArray, List.set_cons_zero, List.set_cons_succ]
            refine anyE_take (i := 9) (oi := ⟨some 153, _, _, _, _, _⟩) (v := ?v308) rfl (by kernel_rfl) (by kernel_rfl) (by kernel_rfl) (by kernel_rfl) (fun _ _ _ h => h) (Or.inl ⟨rfl, ?c308⟩) hH ?r308
            case c308 => (intro w' hS; obtain ⟨y0, y1, y2, y3, y4⟩ := Ky.ky_cells (HAc.out.k.next hS.out); go_simp; (try with_reducible rfl))
            try simp only [Act.put, List.setIfInBounds_toArray, List.set_cons_zero, List.set_cons_succ]
            refine anyE_take (i := 10) (oi := ⟨some 154, _, _, _, _, _⟩) (v := ?v309) rfl (by kernel_rfl) (by kernel_rfl) (by kernel_rfl) (by kernel_rfl) (fun _ _ _ h => h) (Or.inl ⟨rfl, ?c309⟩) hH ?r309
            case c309 => (intro w' _; go_simp; (try with_reducible rfl))
            try simp only [Act.put, List.setIfInBounds_toArray, List.set_cons_zero, List.set_cons_succ]
            refine anyE_take (i := 11) (oi := ⟨some 155, _, _, _, _, _⟩) (v := ?v310) rfl (by kernel_rfl) (by kernel_rfl) (by kernel_rfl) (by kernel_rfl) (fun _ _ _ h => h) (Or.inl ⟨rfl, ?c310⟩) hH ?r310
            case c310 => (intro w' _; go_simp; (try with_reducible rfl))
            try simp only [Act.put, List.setIfInBounds_toArray, List.set_cons_zero, List.set_cons_succ]
            refine anyE_take (i := 13) (oi := ⟨some 157, _, _, _, _, _⟩) (v := ?v311) rfl (by kernel_rfl) (by kernel_rfl) (by kernel_rfl) (by kernel_rfl) (fun _ _ _ h => h) (Or.inl ⟨rfl, ?c311⟩) hH ?r311
            case c311 => (intro w' _; go_simp; (try with_reducible rfl))
            try simp only [Act.put, List.setIfInBounds_toArray, List.set_cons_zero, List.set_cons_succ]
            refine anyE_take (i := 17) (oi := ⟨some 161, _, _, _, _, _⟩) (v := ?v312) rfl (by kernel_rfl) (by kernel_rfl) (by kernel_rfl) (by kernel_rfl) (fun _ _ _ h => h) (Or.inl ⟨rfl, ?c312⟩) hH ?r312
            case c312 => (intro w' _; go_simp; (try with_reducible rfl))
            try simp only [Act.put, List.setIfInBounds_toArray, List.set_cons_zero, List.set_cons_succ]
            refine anyE_take (i := 18) (oi := ⟨some 162, _, _, _, _, _⟩) (v := ?v313) rfl (by kernel_rfl) (by kernel_rfl) (by kernel_rfl) (by kernel_rfl) (fun _ _ _ h => h) (Or.inl ⟨rfl, ?c313⟩) hH ?r313
            case c313 => (intro w' _; go_simp; (try with_reducible rfl))
            try simp only [Act.put, List.setIfInBounds_toArray, List.set_cons_zero, List.set_cons_succ]
            refine anyE_take (i := 19) (oi := ⟨some 163, _, _, _, _, _⟩) (v := ?v314) rfl (by kernel_rfl) (by kernel_rfl) (by kernel_rfl) (by kernel_rfl) (fun _ _ _ h => h) (Or.inl ⟨rfl, ?c314⟩) hH ?r314
            case c314 => (intro w' _; go_simp; (try with_reducible rfl))
            try simp only [Act.put, List.setIfInBounds_toArray, List.set_cons_zero, List.set_cons_succ]
            refine anyE_take (i := 20) (oi := ⟨some 164, _, _, _, _, _⟩) (v := ?v315) rfl (by kernel_rfl) (by kernel_rfl) (by kernel_rfl) (by kernel_rfl) (fun _ _ _ h => h) (Or.inl ⟨rfl, ?c315⟩) hH ?r315
            case c315 => (intro w' hS; have x20 := (HAc.out.r.next hS.out).at_ 20 _ rfl; go_simp; (try with_reducible rfl))
            try simp only [Act.put, List.setIfInBounds_toArray, List.set_cons_zero, List.set_cons_succ]
            refine anyE_take (i := 21) (oi := ⟨some 165, _, _, _, _, _⟩) (v := ?v316) rfl (by kernel_rfl) (by kernel_rfl) (by kernel_rfl) (by kernel_rfl) (fun _ _ _ h => h) (Or.inl ⟨rfl, ?c316⟩) hH ?r316
            case c316 => (intro w' _; go_simp; (try with_reducible rfl))
            try simp only [Act.put, List.setIfInBounds_toArray, List.set_cons_zero, List.set_cons_succ]
            refine anyE_take (i := 22) (oi := ⟨some 166, _, _, _, _, _⟩) (v := ?v317) rfl (by kernel_rfl) (by kernel_rfl) (by kernel_rfl) (by kernel_rfl) (fun _ _ _ h => h) (Or.inl ⟨rfl, ?c317⟩) hH ?r317
            case c317 => (intro w' _; go_simp; (try rw [if_pos HIC2.out]); (try with_reducible rfl))
            try simp only [Act.put, List.setIfInBounds_toArray, List.set_cons_zero, List.set_cons_succ]
            refine anyE_ready (rs := [1]) (by kernel_rfl) (by simp) (AllE.cons rfl (fun K hK => ?_) (AllE.nil))
            go_simp
            refine hK.out _ _ (Lib.hid ((Below.refl Wc.heap.size Wc).alloc (Nat.le_refl _) _).drew) (fun hH => ?_)
            clear hK K
            have HO : Hid (((Wc.alloc (.cells #[] 90)).drew).ownsRow Wc.heap.size 90 7 (.slice (some ⟨Wc.heap.size, 0, none⟩) 0 0) 0 []) := lit7 Wc
            generalize (Wc.alloc (.cells #[] 90)).drew = w10 at hH HO ⊢
            try simp only [Act.put, List.setIfInBounds_toArray, List.set_cons_zero, List.set_cons_succ]
            refine anyE_ready (rs := [8]) (by kernel_rfl) (by simp) (AllE.cons rfl (fun K hK => ?_) (AllE.nil))
            refine step_append_rd rfl (.tmp 145) (.tmp 151) 68 90 rfl Tryz.underlying68 _ 7 32 flow_info rfl (by omega) (by omega) Wc hH.out _ 0 [] rfl HO.out _ m _ (fvs (s1.fs.take m)) rfl (HT.out _ hH.out) (fvs_one _) m (by omega) (by omega) ?_
            intro A2 c2 w11 ho11 hb11 hg11
            change K (Act.put _ (some 152) _) _
            refine hK.out _ _ (hb11) (fun hH => ?_)
            clear hK K
            clear HO hg11 hb11
            try simp only [Act.put, List.setIfInBounds_toArray, List.set_cons_zero, List.set_cons_succ]
            refine anyE_ready (rs := [12]) (by kernel_rfl) (by simp) (AllE.cons rfl (fun K hK => ?_) (AllE.nil))
            go_simp
            go_at_call 62
            refine (HWD.out _ _ _ _ _ _ (HAc.out.r.next hH.out)).mono ?_
            rintro e w12 ⟨rfl, hbp⟩
            refine hK.out _ _ (Lib.hid (hH.out.trans (hbp.mono hH.out.size))) (fun hH => ?_)
            clear hK K
            have ho12 := Lib.hid (row_keep ho11.out fun g e => hbp.block g (ho11.out.lt g e).2)
            clear hbp ho11
            try simp only [Act.put, List.setIfInBounds_toArray, List.set_cons_zero, List.set_cons_succ]
            refine anyE_take (i := 14) (oi := ⟨some 158, _, _, _, _, _⟩) (v := ?v318) rfl (by kernel_rfl) (by kernel_rfl) (by kernel_rfl) (by kernel_rfl) (fun _ _ _ h => h) (Or.inl ⟨rfl, ?c318⟩) hH ?r318
            case c318 => (intro w' _; go_simp; (try with_reducible rfl))
            try simp only [Act.put, List.setIfInBounds_toArray, List.set_cons_zero, List.set_cons_succ]
            refine anyE_ready (rs := [15]) (by kernel_rfl) (by simp) (AllE.cons rfl (fun K hK => ?_) (AllE.nil))
            go_simp
            refine hK.out _ _ (Lib.hid (hH.out.trans ((below_box w12 (.cells #[.int .u32 (k.a : Int), .int .u32 (k.b : Int), .int .u16 (k.p : Int), .int .u16 (k.q : Int), .int .u8 (k.r : Int), .int .u64 (FloM.gI (Fl.clip (Fs.untN T on s1.c)) (Fl.up 0) (on % 16)), .bool dn] 90)).mono hH.out.size))) (fun hH => ?_)
            clear hK K
            have ho13 := Lib.hid (row_keep ho12.out fun g e => (below_box w12 (.cells #[.int .u32 (k.a : Int), .int .u32 (k.b : Int), .int .u16 (k.p : Int), .int .u16 (k.q : Int), .int .u8 (k.r : Int), .int .u64 (FloM.gI (Fl.clip (Fs.untN T on s1.c)) (Fl.up 0) (on % 16)), .bool dn] 90)).block g (ho12.out.lt g e).2)
            have HRO : Hid (Rd (w12.alloc (.cells #[.int .u32 (k.a : Int), .int .u32 (k.b : Int), .int .u16 (k.p : Int), .int .u16 (k.q : Int), .int .u8 (k.r : Int), .int .u64 (FloM.gI (Fl.clip (Fs.untN T on s1.c)) (Fl.up 0) (on % 16)), .bool dn] 90)) (w12.alloc (.cells #[.int .u32 (k.a : Int), .int .u32 (k.b : Int), .int .u16 (k.p : Int), .int .u16 (k.q : Int), .int .u8 (k.r : Int), .int .u64 (FloM.gI (Fl.clip (Fs.untN T on s1.c)) (Fl.up 0) (on % 16)), .bool dn] 90)).heap.size 7 1 (.slice (some ⟨w12.heap.size, 0, none⟩) 1 1) (f7 fn)) := by
              show Rd _ _ _ _ _ _
              rw [← HFN.out]
              exact rd_one w12 _
            obtain ⟨gl, hgl⟩ : ∃ q, w12.heap.size = q := ⟨_, rfl⟩
            obtain ⟨w13, hw13⟩ : ∃ q, w12.alloc (.cells #[.int .u32 (k.a : Int), .int .u32 (k.b : Int), .int .u16 (k.p : Int), .int .u16 (k.q : Int), .int .u8 (k.r : Int), .int .u64 (FloM.gI (Fl.clip (Fs.untN T on s1.c)) (Fl.up 0) (on % 16)), .bool dn] 90) = q := ⟨_, rfl⟩
            rw [hgl] at HRO ⊢
            rw [hw13] at HRO ho13 hH ⊢
            clear ho12 hgl hw13
            try simp only [Act.put, List.setIfInBounds_toArray, List.set_cons_zero, List.set_cons_succ]
            refine anyE_ready (rs := [16]) (by kernel_rfl) (by simp) (AllE.cons rfl (fun K hK => ?_) (AllE.nil))
            refine step_append_rd rfl (.tmp 152) (.tmp 159) 68 90 rfl Tryz.underlying68 _ 7 32 flow_info rfl (by omega) (by omega) Wc hH.out _ m ([] ++ fvs (s1.fs.take m)) rfl ho13.out _ 1 _ (f7 fn) rfl HRO.out f7_one (m + 1) rfl (by omega) ?_
            intro A4 c4 w14 ho14 hb14 hg14
            change K (Act.put _ (some 160) _) _
            refine hK.out _ _ (hb14) (fun hH => ?_)
            clear hK K
            clear ho13 HRO hg14 hb14
            try simp only [Act.put, List.setIfInBounds_toArray, List.set_cons_zero, List.set_cons_succ]
            refine anyE_ready (rs := [23]) (by kernel_rfl) (by simp) (AllE.cons rfl (fun K hK => ?_) (AllE.nil))
            refine step_append_rd rfl (.tmp 160) (.tmp 166) 68 90 rfl Tryz.underlying68 _ 7 32 flow_info rfl (by omega) (by omega) Wc hH.out _ (m + 1) ([] ++ fvs (s1.fs.take m) ++ f7 fn) rfl ho14.out _ (n - m) _ (fvs (s1.fs.drop m)) rfl (HD.out _ hH.out) (fvs_one _) (n + 1) (by omega) (by omega) ?_
            intro A5 c5 w15 ho15 hb15 hg15
            change K (Act.put _ (some 167) _) _
            refine hK.out _ _ (hb15) (fun hH => ?_)
            clear hK K
            clear ho14 hg15 hb15
            try simp only [Act.put, List.setIfInBounds_toArray, List.set_cons_zero, List.set_cons_succ]
            refine anyE_ready (rs := [24]) (by kernel_rfl) (by simp) (AllE.cons rfl (fun K hK => ?_) (AllE.nil))
            go_simp
            refine hK.out _ _ (hH) (fun hH => ?_)
            clear hK K
            try simp only [Act.put, List.setIfInBounds_toArray, List.set_cons_zero, List.set_cons_succ]
            refine anyE_take (i := 25) (oi := ⟨some 169, _, _, _, _, _⟩) (v := ?v319) rfl (by kernel_rfl) (by kernel_rfl) (by kernel_rfl) (by kernel_rfl) (fun _ _ _ h => h) (Or.inl ⟨rfl, ?c319⟩) hH ?r319
            case c319 => (intro w' _; go_simp; (try with_reducible rfl))
            try simp only [Act.put, List.setIfInBounds_toArray, List.set_cons_zero, List.set_cons_succ]
            refine anyE_ready (rs := [26]) (by kernel_rfl) (by simp) (AllE.end_ rfl (fun K hK => ?_))
            have x20 := (HAc.out.r.next hH.out).at_ 20 _ rfl
            have f20 := (HAc.out.r.next hH.out).blk.frozen 20
            go_simp
            clear x20 f20
            refine hK.out _ _ ?_
            clear hK K
            try simp only [Act.put, List.setIfInBounds_toArray, List.set_cons_zero, List.set_cons_succ]
            refine anyE_done (by kernel_rfl) ?_ _
            obtain ⟨hR, hO⟩ := HAc.out.r.flows hH.out (fs' := ins fn s1.fs) (vf' := .slice A5 (n + 1) c5) (by rw [len_ins, HN.out, ← HFS.out]; exact ho15.out) (fun j hj => Env.new (HENV.out.only HAc.out.on HFO.out) hj)
            have HR := Lib.hid hR
            have HON := Lib.hid (HAc.out.on.trans hO (fun j e => HOS.out j e))
            have HOS2 : Hid (∀ j, (O1 j ∨ (Wc.heap.size ≤ j ∧ j < w15.heap.size)) → O j ∨ w.heap.size ≤ j) := fun j hj => hj.elim (HOS.out j) (fun h => .inr (Nat.le_trans HAc.out.on.size h.1))
            obtain ⟨O2, hO2⟩ : ∃ q : Nat → Prop, (fun j => O1 j ∨ (Wc.heap.size ≤ j ∧ j < w15.heap.size)) = q := ⟨_, rfl⟩
            rw [hO2] at HR
            have HOS3 : Hid (∀ j, O2 j → O j ∨ w.heap.size ≤ j) := by rw [← hO2]; exact HOS2
            obtain ⟨w16, hw16⟩ : ∃ q, w15.setCell ⟨B, 20, none⟩ (.slice A5 (n + 1) c5) = q := ⟨_, rfl⟩
            rw [hw16] at HR HON ⊢
            clear hR hO hO2 hw16 hH ho15 HAc HOS2 HT HD HWD
            generalize (if cc = m then A else _) = av
            have x18 := HR.out.at_ 18 _ rfl
            have f18 := HR.out.blk.frozen 18
            go_wp2_with fail
            go_ret
            exact ⟨O2, by rw [HV.out.1]; rfl, ⟨⟨_, _, vs, hist, by rw [HV.out.2]; exact HR.out.word _, by rw [HV.out.2]; exact HREST.out⟩, HINV.out, HQ3.out⟩, HON.out.setCell (HOS3.out _ HR.out.ob) _, HOS3.out⟩
          · have d1 : Hid (decide (0 < m) = true) := decide_eq_true (by omega)
            have d2 : Hid (decide ((0 : Int) < (m : Int)) = true) := decide_eq_true (by omega)
            obtain ⟨q, hq⟩ : ∃ q, m = q + 1 := ⟨m - 1, by omega⟩
            clear h0
            obtain ⟨f, hf⟩ : ∃ f, s1.fs[q]? = some f := ⟨_, List.getElem?_eq_getElem (by rw [HN.out]; omega)⟩
            obtain ⟨gf, c', ev, -⟩ := HAl.out.r.flow hf
            injection ev with ev e2 e3
            subst ev
            clear e2 e3
            have HFI := Lib.hid hf
            have hfo := (HI1.out.oks.ok f (List.mem_of_getElem? hf)).k
            have hn5 : n ≤ 4095 := by have := HI1.out.cnt; have := HI1.out.cap; have := HI1.out.cap1; have := HN.out; omega
            have HM1 : Hid (IntKind.i64.wrap ((m : Int) - 1) = (q : Int)) := (IntWalk.i64_in _ (by omega)).trans (by omega)
            have hqn : q < n := by omega
            have hqn2 : q < s1.fs.length := by rw [HN.out]; omega
            have HQ := Lib.hid hq
            by_cases hlt : k.num < f.k.num
            · have HLS : Hid (∀ W, Calls Tryz.prog 66 #[.agg (Ky.kyc k.a k.b k.p k.q k.r), .agg (Ky.kyc f.k.a f.k.b f.k.p f.k.q f.k.r)] W fun e w' => e = .returned (.bool true) ∧ Below W.heap.size W w') := fun W => Ky.refLess_any _ _ _ _ _ _ _ _ _ _ HKO.out.a HKO.out.b HKO.out.p HKO.out.q hfo.a hfo.b hfo.p hfo.q true (less_true HKO.out hfo hlt) W
              have HGE2 : Hid (∀ j f, q ≤ j → s1.fs[j]? = some f → ¬ f.k.num < k.num) := by
                show ∀ j f, _
                intro j g hj hg
                by_cases e : j = q
                · subst e; rw [hf] at hg; injection hg with hg; rw [← hg]; omega
                · exact HGE.out j g (by omega) hg
              clear hf hlt hfo hq
              go_wp2_with fail
              refine wp_region_held_drew (S := fun w' => Hid (AK w O O1 B z N T (GatM.gI s1.c s1.g s1.v) (.slice (some ⟨gr, 0, none⟩) L cr) (.slice (some ⟨gf, 0, none⟩) n cc) vs hist s1.fs s1.tl p k gk w')) (by kernel_rfl) (Lib.hid HAl.out.drew) (fun hH => ?_)
              refine wpAnyH_take (i := 0) (oi := ⟨some 127, _, _, _, _, _⟩) (v := ?v221) rfl (by kernel_rfl) (by kernel_rfl) (by kernel_rfl) (fun _ _ _ h => h) (Or.inl ⟨rfl, ?c221⟩) hH ?r221
              case c221 => (intro w' _; go_simp; (try with_reducible rfl))
              try simp only [Act.put, List.setIfInBounds_toArray, List.set_cons_zero, List.set_cons_succ]
              refine wpAnyH_take (i := 1) (oi := ⟨some 128, _, _, _, _, _⟩) (v := ?v222) rfl (by kernel_rfl) (by kernel_rfl) (by kernel_rfl) (fun _ _ _ h => h) (Or.inl ⟨rfl, ?c222⟩) hH ?r222
              case c222 => (intro w' _; go_simp; (try simp only [d1.out, d2.out]); (try with_reducible rfl))
              try simp only [Act.put, List.setIfInBounds_toArray, List.set_cons_zero, List.set_cons_succ]
              refine wpAnyH_take (i := 2) (oi := ⟨some 129, _, _, _, _, _⟩) (v := ?v223) rfl (by kernel_rfl) (by kernel_rfl) (by kernel_rfl) (fun _ _ _ h => h) (Or.inl ⟨rfl, ?c223⟩) hH ?r223
              case c223 => (intro w' _; go_simp; (try with_reducible rfl))
              try simp only [Act.put, List.setIfInBounds_toArray, List.set_cons_zero, List.set_cons_succ]
              refine wpAnyH_take (i := 3) (oi := ⟨some 130, _, _, _, _, _⟩) (v := ?v224) rfl (by kernel_rfl) (by kernel_rfl) (by kernel_rfl) (fun _ _ _ h => h) (Or.inl ⟨rfl, ?c224⟩) hH ?r224
              case c224 => (intro w' hS; obtain ⟨y0, y1, y2, y3, y4⟩ := Ky.ky_cells hS.out.k; go_simp; (try with_reducible rfl))
              try simp only [Act.put, List.setIfInBounds_toArray, List.set_cons_zero, List.set_cons_succ]
              refine wpAnyH_take (i := 4) (oi := ⟨some 131, _, _, _, _, _⟩) (v := ?v225) rfl (by kernel_rfl) (by kernel_rfl) (by kernel_rfl) (fun _ _ _ h => h) (Or.inl ⟨rfl, ?c225⟩) hH ?r225
              case c225 => (intro w' _; go_simp; (try with_reducible rfl))
              try simp only [Act.put, List.setIfInBounds_toArray, List.set_cons_zero, List.set_cons_succ]
              refine wpAnyH_take (i := 5) (oi := ⟨some 132, _, _, _, _, _⟩) (v := ?v226) rfl (by kernel_rfl) (by kernel_rfl) (by kernel_rfl) (fun _ _ _ h => h) (Or.inl ⟨rfl, ?c226⟩) hH ?r226
              case c226 => (intro w' _; go_simp; (try with_reducible rfl))
              try simp only [Act.put, List.setIfInBounds_toArray, List.set_cons_zero, List.set_cons_succ]
              refine wpAnyH_take (i := 6) (oi := ⟨some 133, _, _, _, _, _⟩) (v := ?v227) rfl (by kernel_rfl) (by kernel_rfl) (by kernel_rfl) (fun _ _ _ h => h) (Or.inl ⟨rfl, ?c227⟩) hH ?r227
              case c227 => (intro w' _; go_simp; (try with_reducible rfl))
              try simp only [Act.put, List.setIfInBounds_toArray, List.set_cons_zero, List.set_cons_succ]
              refine wpAnyH_take (i := 7) (oi := ⟨some 134, _, _, _, _, _⟩) (v := ?v228) rfl (by kernel_rfl) (by kernel_rfl) (by kernel_rfl) (fun _ _ _ h => h) (Or.inl ⟨rfl, ?c228⟩) hH ?r228
              case c228 => (intro w' hS; have x20 := hS.out.r.at_ 20 _ rfl; go_simp; (try with_reducible rfl))
              try simp only [Act.put, List.setIfInBounds_toArray, List.set_cons_zero, List.set_cons_succ]
              refine wpAnyH_take (i := 8) (oi := ⟨some 135, _, _, _, _, _⟩) (v := ?v229) rfl (by kernel_rfl) (by kernel_rfl) (by kernel_rfl) (fun _ _ _ h => h) (Or.inl ⟨rfl, ?c229⟩) hH ?r229
              case c229 => (intro w' _; go_simp; (try with_reducible rfl))
              try simp only [Act.put, List.setIfInBounds_toArray, List.set_cons_zero, List.set_cons_succ]
              refine wpAnyH_take (i := 9) (oi := ⟨some 136, _, _, _, _, _⟩) (v := ?v230) rfl (by kernel_rfl) (by kernel_rfl) (by kernel_rfl) (fun _ _ _ h => h) (Or.inl ⟨rfl, ?c230⟩) hH ?r230
              case c230 => (intro w' _; go_simp; rw [HM1.out]; (try with_reducible rfl))
              try simp only [Act.put, List.setIfInBounds_toArray, List.set_cons_zero, List.set_cons_succ]
              refine wpAnyH_take (i := 10) (oi := ⟨some 137, _, _, _, _, _⟩) (v := ?v231) rfl (by kernel_rfl) (by kernel_rfl) (by kernel_rfl) (fun _ _ _ h => h) (Or.inl ⟨rfl, ?c231⟩) hH ?r231
              case c231 => (intro w' _; go_simp; (try with_reducible rfl))
              try simp only [Act.put, List.setIfInBounds_toArray, List.set_cons_zero, List.set_cons_succ]
              refine wpAnyH_take (i := 11) (oi := ⟨some 138, _, _, _, _, _⟩) (v := ?v232) rfl (by kernel_rfl) (by kernel_rfl) (by kernel_rfl) (fun _ _ _ h => h) (Or.inl ⟨rfl, ?c232⟩) hH ?r232
              case c232 => (intro w' _; go_simp; (try with_reducible rfl))
              try simp only [Act.put, List.setIfInBounds_toArray, List.set_cons_zero, List.set_cons_succ]
              refine wpAnyH_take (i := 12) (oi := ⟨some 139, _, _, _, _, _⟩) (v := ?v233) rfl (by kernel_rfl) (by kernel_rfl) (by kernel_rfl) (fun _ _ _ h => h) (Or.inl ⟨rfl, ?c233⟩) hH ?r233
              case c233 => (intro w' hS; obtain ⟨y0, y1, y2, y3, y4, -, -⟩ := hS.out.r.cells_ HFI.out; go_simp; (try with_reducible rfl))
              try simp only [Act.put, List.setIfInBounds_toArray, List.set_cons_zero, List.set_cons_succ]
              refine wpAnyH_ready (rs := [13]) (by kernel_rfl) (by simp) (AllReadyH.cons rfl (fun K hK => ?_) (AllReadyH.nil))
              go_simp
              go_at_call 66
              refine (HLS.out _).mono ?_
              rintro e W9 ⟨rfl, hbp⟩
              refine hK.out _ _ (Lib.hid (hH.out.next hbp)) (fun hH => ?_)
              clear hK K
              clear hbp
              try simp only [Act.put, List.setIfInBounds_toArray, List.set_cons_zero, List.set_cons_succ]
              refine wpAnyH_take (i := 14) (oi := ⟨some 141, _, _, _, _, _⟩) (v := ?v234) rfl (by kernel_rfl) (by kernel_rfl) (by kernel_rfl) (fun _ _ _ h => h) (Or.inl ⟨rfl, ?c234⟩) hH ?r234
              case c234 => (intro w' _; go_simp; (try with_reducible rfl))
              try simp only [Act.put, List.setIfInBounds_toArray, List.set_cons_zero, List.set_cons_succ]
              refine wpAnyH_done (by kernel_rfl) ?_ _
              have HA9 := hH
              clear hH HAl
              go_wp2_with fail
              go_roundw
              case rel => exact ⟨q, (by have h := HQ.out; simp only [Value.int.injEq, true_and]; omega), by have h := HQ.out; omega, HA9, HGE2⟩
              case measure => have := HQ.out; simp [RowKit.intOf]; omega
            · have HLS : Hid (∀ W, Calls Tryz.prog 66 #[.agg (Ky.kyc k.a k.b k.p k.q k.r), .agg (Ky.kyc f.k.a f.k.b f.k.p f.k.q f.k.r)] W fun e w' => e = .returned (.bool false) ∧ Below W.heap.size W w') := fun W => Ky.refLess_any _ _ _ _ _ _ _ _ _ _ HKO.out.a HKO.out.b HKO.out.p HKO.out.q hfo.a hfo.b hfo.p hfo.q false (less_false HKO.out hfo hlt) W
              have HRK : Hid (rank k s1.fs = m) := by
                show _ = _
                refine HI1.out.oks.rank_of (by rw [HN.out]; exact hm) HGE.out (.inr ⟨f, by rw [hq]; exact hf, ?_⟩)
                rcases Nat.lt_trichotomy f.k.num k.num with c | c | c
                · exact c
                · exact absurd (Ke.num_inj hfo HKO.out c) (HNK.out f (List.mem_of_getElem? hf))
                · exact absurd c hlt
              clear hf hlt hfo hq
              go_wp2_with fail
              refine wp_region_held_drew (S := fun w' => Hid (AK w O O1 B z N T (GatM.gI s1.c s1.g s1.v) (.slice (some ⟨gr, 0, none⟩) L cr) (.slice (some ⟨gf, 0, none⟩) n cc) vs hist s1.fs s1.tl p k gk w')) (by kernel_rfl) (Lib.hid HAl.out.drew) (fun hH => ?_)
              refine wpAnyH_take (i := 0) (oi := ⟨some 127, _, _, _, _, _⟩) (v := ?v241) rfl (by kernel_rfl) (by kernel_rfl) (by kernel_rfl) (fun _ _ _ h => h) (Or.inl ⟨rfl, ?c241⟩) hH ?r241
              case c241 => (intro w' _; go_simp; (try with_reducible rfl))
              try simp only [Act.put, List.setIfInBounds_toArray, List.set_cons_zero, List.set_cons_succ]
              refine wpAnyH_take (i := 1) (oi := ⟨some 128, _, _, _, _, _⟩) (v := ?v242) rfl (by kernel_rfl) (by kernel_rfl) (by kernel_rfl) (fun _ _ _ h => h) (Or.inl ⟨rfl, ?c242⟩) hH ?r242
              case c242 => (intro w' _; go_simp; (try simp only [d1.out, d2.out]); (try with_reducible rfl))
              try simp only [Act.put, List.setIfInBounds_toArray, List.set_cons_zero, List.set_cons_succ]
              refine wpAnyH_take (i := 2) (oi := ⟨some 129, _, _, _, _, _⟩) (v := ?v243) rfl (by kernel_rfl) (by kernel_rfl) (by kernel_rfl) (fun _ _ _ h => h) (Or.inl ⟨rfl, ?c243⟩) hH ?r243
              case c243 => (intro w' _; go_simp; (try with_reducible rfl))
              try simp only [Act.put, List.setIfInBounds_toArray, List.set_cons_zero, List.set_cons_succ]
              refine wpAnyH_take (i := 3) (oi := ⟨some 130, _, _, _, _, _⟩) (v := ?v244) rfl (by kernel_rfl) (by kernel_rfl) (by kernel_rfl) (fun _ _ _ h => h) (Or.inl ⟨rfl, ?c244⟩) hH ?r244
              case c244 => (intro w' hS; obtain ⟨y0, y1, y2, y3, y4⟩ := Ky.ky_cells hS.out.k; go_simp; (try with_reducible rfl))
              try simp only [Act.put, List.setIfInBounds_toArray, List.set_cons_zero, List.set_cons_succ]
              refine wpAnyH_take (i := 4) (oi := ⟨some 131, _, _, _, _, _⟩) (v := ?v245) rfl (by kernel_rfl) (by kernel_rfl) (by kernel_rfl) (fun _ _ _ h => h) (Or.inl ⟨rfl, ?c245⟩) hH ?r245
              case c245 => (intro w' _; go_simp; (try with_reducible rfl))
              try simp only [Act.put, List.setIfInBounds_toArray, List.set_cons_zero, List.set_cons_succ]
              refine wpAnyH_take (i := 5) (oi := ⟨some 132, _, _, _, _, _⟩) (v := ?v246) rfl (by kernel_rfl) (by kernel_rfl) (by kernel_rfl) (fun _ _ _ h => h) (Or.inl ⟨rfl, ?c246⟩) hH ?r246
              case c246 => (intro w' _; go_simp; (try with_reducible rfl))
              try simp only [Act.put, List.setIfInBounds_toArray, List.set_cons_zero, List.set_cons_succ]
              refine wpAnyH_take (i := 6) (oi := ⟨some 133, _, _, _, _, _⟩) (v := ?v247) rfl (by kernel_rfl) (by kernel_rfl) (by kernel_rfl) (fun _ _ _ h => h) (Or.inl ⟨rfl, ?c247⟩) hH ?r247
              case c247 => (intro w' _; go_simp; (try with_reducible rfl))
              try simp only [Act.put, List.setIfInBounds_toArray, List.set_cons_zero, List.set_cons_succ]
              refine wpAnyH_take (i := 7) (oi := ⟨some 134, _, _, _, _, _⟩) (v := ?v248) rfl (by kernel_rfl) (by kernel_rfl) (by kernel_rfl) (fun _ _ _ h => h) (Or.inl ⟨rfl, ?c248⟩) hH ?r248
              case c248 => (intro w' hS; have x20 := hS.out.r.at_ 20 _ rfl; go_simp; (try with_reducible rfl))
              try simp only [Act.put, List.setIfInBounds_toArray, List.set_cons_zero, List.set_cons_succ]
              refine wpAnyH_take (i := 8) (oi := ⟨some 135, _, _, _, _, _⟩) (v := ?v249) rfl (by kernel_rfl) (by kernel_rfl) (by kernel_rfl) (fun _ _ _ h => h) (Or.inl ⟨rfl, ?c249⟩) hH ?r249
              case c249 => (intro w' _; go_simp; (try with_reducible rfl))
              try simp only [Act.put, List.setIfInBounds_toArray, List.set_cons_zero, List.set_cons_succ]
              refine wpAnyH_take (i := 9) (oi := ⟨some 136, _, _, _, _, _⟩) (v := ?v250) rfl (by kernel_rfl) (by kernel_rfl) (by kernel_rfl) (fun _ _ _ h => h) (Or.inl ⟨rfl, ?c250⟩) hH ?r250
              case c250 => (intro w' _; go_simp; rw [HM1.out]; (try with_reducible rfl))
              try simp only [Act.put, List.setIfInBounds_toArray, List.set_cons_zero, List.set_cons_succ]
              refine wpAnyH_take (i := 10) (oi := ⟨some 137, _, _, _, _, _⟩) (v := ?v251) rfl (by kernel_rfl) (by kernel_rfl) (by kernel_rfl) (fun _ _ _ h => h) (Or.inl ⟨rfl, ?c251⟩) hH ?r251
              case c251 => (intro w' _; go_simp; (try with_reducible rfl))
              try simp only [Act.put, List.setIfInBounds_toArray, List.set_cons_zero, List.set_cons_succ]
              refine wpAnyH_take (i := 11) (oi := ⟨some 138, _, _, _, _, _⟩) (v := ?v252) rfl (by kernel_rfl) (by kernel_rfl) (by kernel_rfl) (fun _ _ _ h => h) (Or.inl ⟨rfl, ?c252⟩) hH ?r252
              case c252 => (intro w' _; go_simp; (try with_reducible rfl))
              try simp only [Act.put, List.setIfInBounds_toArray, List.set_cons_zero, List.set_cons_succ]
              refine wpAnyH_take (i := 12) (oi := ⟨some 139, _, _, _, _, _⟩) (v := ?v253) rfl (by kernel_rfl) (by kernel_rfl) (by kernel_rfl) (fun _ _ _ h => h) (Or.inl ⟨rfl, ?c253⟩) hH ?r253
              case c253 => (intro w' hS; obtain ⟨y0, y1, y2, y3, y4, -, -⟩ := hS.out.r.cells_ HFI.out; go_simp; (try with_reducible rfl))
              try simp only [Act.put, List.setIfInBounds_toArray, List.set_cons_zero, List.set_cons_succ]
              refine wpAnyH_ready (rs := [13]) (by kernel_rfl) (by simp) (AllReadyH.cons rfl (fun K hK => ?_) (AllReadyH.nil))
              go_simp
              go_at_call 66
              refine (HLS.out _).mono ?_
              rintro e W9 ⟨rfl, hbp⟩
              refine hK.out _ _ (Lib.hid (hH.out.next hbp)) (fun hH => ?_)
              clear hK K
              clear hbp
              try simp only [Act.put, List.setIfInBounds_toArray, List.set_cons_zero, List.set_cons_succ]
              refine wpAnyH_take (i := 14) (oi := ⟨some 141, _, _, _, _, _⟩) (v := ?v254) rfl (by kernel_rfl) (by kernel_rfl) (by kernel_rfl) (fun _ _ _ h => h) (Or.inl ⟨rfl, ?c254⟩) hH ?r254
              case c254 => (intro w' _; go_simp; (try with_reducible rfl))
              try simp only [Act.put, List.setIfInBounds_toArray, List.set_cons_zero, List.set_cons_succ]
              refine wpAnyH_done (by kernel_rfl) ?_ _
              have HAn := hH
              clear hH HAl HENT
              go_wp2_with fail
              obtain ⟨Wc, hWc⟩ : ∃ q, W9 = q := ⟨_, rfl⟩
              rw [hWc] at HAn ⊢
              have HAc := HAn
              clear hWc HAn HGE
              have HT : Hid (∀ W, Below Wc.heap.size Wc W → Rd W W.heap.size 7 m (.slice (some ⟨gf, 0, none⟩) m cc) (fvs (s1.fs.take m))) := fun W h => by
                rw [fvs_take]
                have h2 := (HAc.out.r.next h).fr
                rw [HN.out] at h2
                exact row_take h2 hm
              obtain ⟨fn, hfn⟩ : ∃ q : Fl, { k := k, c := Fl.clip (Fs.untN T on s1.c), n := Fl.up 0, s := on % 16, dn := dn } = q := ⟨_, rfl⟩
              have HFN : Hid (f7 { k := k, c := Fl.clip (Fs.untN T on s1.c), n := Fl.up 0, s := on % 16, dn := dn } = f7 fn) := by show _ = _; rw [hfn]
              rw [hfn] at HV
              have HFS : Hid ([] ++ fvs (s1.fs.take m) ++ f7 fn ++ fvs (s1.fs.drop m) = fvs (ins fn s1.fs)) := by
                show _ = _
                rw [ins_is, show rank fn.k s1.fs = m by rw [← hfn]; exact HRK.out, List.nil_append, fvs_append, List.append_assoc]
                rfl
              clear hfn HRK
              have hmc : m ≤ cc := by omega
              have hn5 : n ≤ 4095 := by have := HI1.out.cnt; have := HI1.out.cap; have := HI1.out.cap1; have := HN.out; omega
              have HD : Hid (∀ W, Below Wc.heap.size Wc W → Rd W W.heap.size 7 (n - m) (.slice (if cc = m then some ⟨gf, 0, none⟩ else some ⟨gf, m * 7, none⟩) (n - m) (cc - m)) (fvs (s1.fs.drop m))) := fun W h => by
                rw [fvs_drop]
                have h2 := (HAc.out.r.next h).fr
                rw [HN.out] at h2
                refine row_drop h2 hm fun hp b e => ?_
                injection e with e
                injection e with e
                subst e
                rw [if_neg (by omega)]
                try simp [Addr.add]
                try omega
              refine region_e (S := fun w' => Hid (Below Wc.heap.size Wc w')) 26 (by kernel_rfl) (Lib.hid (Below.refl Wc.heap.size Wc).drew) (fun hH => ?_)
              refine anyE_take (i := 0) (oi := ⟨some 144, _, _, _, _, _⟩) (v := ?v501) rfl (by kernel_rfl) (by kernel_rfl) (by kernel_rfl) (by kernel_rfl) (fun _ _ _ h => h) (Or.inl ⟨rfl, ?c501⟩) hH ?r501
              case c501 => (intro w' _; go_simp; (try with_reducible rfl))
              try simp only [Act.put, List.setIfInBounds_toArray, List.set_cons_zero, List.set_cons_succ]
              refine anyE_take (i := 2) (oi := ⟨some 146, _, _, _, _, _⟩) (v := ?v502) rfl (by kernel_rfl) (by kernel_rfl) (by kernel_rfl) (by kernel_rfl) (fun _ _ _ h => h) (Or.inl ⟨rfl, ?c502⟩) hH ?r502
              case c502 => (intro w' _; go_simp; (try with_reducible rfl))
              try simp only [Act.put, List.setIfInBounds_toArray, List.set_cons_zero, List.set_cons_succ]
              refine anyE_take (i := 3) (oi := ⟨some 147, _, _, _, _, _⟩) (v := ?v503) rfl (by kernel_rfl) (by kernel_rfl) (by kernel_rfl) (by kernel_rfl) (fun _ _ _ h => h) (Or.inl ⟨rfl, ?c503⟩) hH ?r503
              case c503 => (intro w' _; go_simp; (try with_reducible rfl))
              try simp only [Act.put, List.setIfInBounds_toArray, List.set_cons_zero, List.set_cons_succ]
              refine anyE_take (i := 4) (oi := ⟨some 148, _, _, _, _, _⟩) (v := ?v504) rfl (by kernel_rfl) (by kernel_rfl) (by kernel_rfl) (by kernel_rfl) (fun _ _ _ h => h) (Or.inl ⟨rfl, ?c504⟩) hH ?r504
              case c504 => (intro w' _; go_simp; (try with_reducible rfl))
              try simp only [Act.put, List.setIfInBounds_toArray, List.set_cons_zero, List.set_cons_succ]
              refine anyE_take (i := 5) (oi := ⟨some 149, _, _, _, _, _⟩) (v := ?v505) rfl (by kernel_rfl) (by kernel_rfl) (by kernel_rfl) (by kernel_rfl) (fun _ _ _ h => h) (Or.inl ⟨rfl, ?c505⟩) hH ?r505
              case c505 => (intro w' hS; have x20 := (HAc.out.r.next hS.out).at_ 20 _ rfl; go_simp; (try with_reducible rfl))
              try simp only [Act.put, List.setIfInBounds_toArray, List.set_cons_zero, List.set_cons_succ]
              refine anyE_take (i := 6) (oi := ⟨some 150, _, _, _, _, _⟩) (v := ?v506) rfl (by kernel_rfl) (by kernel_rfl) (by kernel_rfl) (by kernel_rfl) (fun _ _ _ h => h) (Or.inl ⟨rfl, ?c506⟩) hH ?r506
              case c506 => (intro w' _; go_simp; (try with_reducible rfl))
              try simp only [Act.put, List.setIfInBounds_toArray, List.set_cons_zero, List.set_cons_succ]
              refine anyE_take (i := 7) (oi := ⟨some 151, _, _, _, _, _⟩) (v := ?v507) rfl (by kernel_rfl) (by kernel_rfl) (by kernel_rfl) (by kernel_rfl) (fun _ _ _ h => h) (Or.inl ⟨rfl, ?c507⟩) hH ?r507
              case c507 => (intro w' _; go_simp; (try rw [if_pos HIC.out]); (try with_reducible rfl))
              try simp only [Act.put, List.setIfInBounds_toArray, List.set_cons_zero, List.set_cons_succ]
              refine anyE_take (i := 9) (oi := ⟨some 153, _, _, _, _, _⟩) (v := ?v508) rfl (by kernel_rfl) (by kernel_rfl) (by kernel_rfl) (by kernel_rfl) (fun _ _ _ h => h) (Or.inl ⟨rfl, ?c508⟩) hH ?r508
              case c508 => (intro w' hS; obtain ⟨y0, y1, y2, y3, y4⟩ := Ky.ky_cells (HAc.out.k.next hS.out); go_simp; (try with_reducible rfl))
              try simp only [Act.put, List.setIfInBounds_toArray, List.set_cons_zero, List.set_cons_succ]
              refine anyE_take (i := 10) (oi := ⟨some 154, _, _, _, _, _⟩) (v := ?v509) rfl (by kernel_rfl) (by kernel_rfl) (by kernel_rfl) (by kernel_rfl) (fun _ _ _ h => h) (Or.inl ⟨rfl, ?c509⟩) hH ?r509
              case c509 => (intro w' _; go_simp; (try with_reducible rfl))
              try simp only [Act.put, List.setIfInBounds_toArray, List.set_cons_zero, List.set_cons_succ]
              refine anyE_take (i := 11) (oi := ⟨some 155, _, _, _, _, _⟩) (v := ?v510) rfl (by kernel_rfl) (by kernel_rfl) (by kernel_rfl) (by kernel_rfl) (fun _ _ _ h => h) (Or.inl ⟨rfl, ?c510⟩) hH ?r510
              case c510 => (intro w' _; go_simp; (try with_reducible rfl))
              try simp only [Act.put, List.setIfInBounds_toArray, List.set_cons_zero, List.set_cons_succ]
              refine anyE_take (i := 13) (oi := ⟨some 157, _, _, _, _, _⟩) (v := ?v511) rfl (by kernel_rfl) (by kernel_rfl) (by kernel_rfl) (by kernel_rfl) (fun _ _ _ h => h) (Or.inl ⟨rfl, ?c511⟩) hH ?r511
              case c511 => (intro w' _; go_simp; (try with_reducible rfl))
              try simp only [Act.put, List.setIfInBounds_toArray, List.set_cons_zero, List.set_cons_succ]
              refine anyE_take (i := 17) (oi := ⟨some 161, _, _, _, _, _⟩) (v := ?v512) rfl (by kernel_rfl) (by kernel_rfl) (by kernel_rfl) (by kernel_rfl) (fun _ _ _ h => h) (Or.inl ⟨rfl, ?c512⟩) hH ?r512
              case c512 => (intro w' _; go_simp; (try with_reducible rfl))
              try simp only [Act.put, List.setIfInBounds_toArray, List.set_cons_zero, List.set_cons_succ]
              refine anyE_take (i := 18) (oi := ⟨some 162, _, _, _, _, _⟩) (v := ?v513) rfl (by kernel_rfl) (by kernel_rfl) (by kernel_rfl) (by kernel_rfl) (fun _ _ _ h => h) (Or.inl ⟨rfl, ?c513⟩) hH ?r513
              case c513 => (intro w' _; go_simp; (try with_reducible rfl))
              try simp only [Act.put, List.setIfInBounds_toArray, List.set_cons_zero, List.set_cons_succ]
              refine anyE_take (i := 19) (oi := ⟨some 163, _, _, _, _, _⟩) (v := ?v514) rfl (by kernel_rfl) (by kernel_rfl) (by kernel_rfl) (by kernel_rfl) (fun _ _ _ h => h) (Or.inl ⟨rfl, ?c514⟩) hH ?r514
              case c514 => (intro w' _; go_simp; (try with_reducible rfl))
              try simp only [Act.put, List.setIfInBounds_toArray, List.set_cons_zero, List.set_cons_succ]
              refine anyE_take (i := 20) (oi := ⟨some 164, _, _, _, _, _⟩) (v := ?v515) rfl (by kernel_rfl) (by kernel_rfl) (by kernel_rfl) (by kernel_rfl) (fun _ _ _ h => h) (Or.inl ⟨rfl, ?c515⟩) hH ?r515
              case c515 => (intro w' hS; have x20 := (HAc.out.r.next hS.out).at_ 20 _ rfl; go_simp; (try with_reducible rfl))
              try simp only [Act.put, List.setIfInBounds_toArray, List.set_cons_zero, List.set_cons_succ]
              refine anyE_take (i := 21) (oi := ⟨some 165, _, _, _, _, _⟩) (v := ?v516) rfl (by kernel_rfl) (by kernel_rfl) (by kernel_rfl) (by kernel_rfl) (fun _ _ _ h => h) (Or.inl ⟨rfl, ?c516⟩) hH ?r516
              case c516 => (intro w' _; go_simp; (try with_reducible rfl))
              try simp only [Act.put, List.setIfInBounds_toArray, List.set_cons_zero, List.set_cons_succ]
              refine anyE_take (i := 22) (oi := ⟨some 166, _, _, _, _, _⟩) (v := ?v517) rfl (by kernel_rfl) (by kernel_rfl) (by kernel_rfl) (by kernel_rfl) (fun _ _ _ h => h) (Or.inl ⟨rfl, ?c517⟩) hH ?r517
              case c517 => (intro w' _; go_simp; (try rw [if_pos HIC2.out]); (try with_reducible rfl))
              try simp only [Act.put, List.setIfInBounds_toArray, List.set_cons_zero, List.set_cons_succ]
              refine anyE_ready (rs := [1]) (by kernel_rfl) (by simp) (AllE.cons rfl (fun K hK => ?_) (AllE.nil))
              go_simp
              refine hK.out _ _ (Lib.hid ((Below.refl Wc.heap.size Wc).alloc (Nat.le_refl _) _).drew) (fun hH => ?_)
              clear hK K
              have HO : Hid (((Wc.alloc (.cells #[] 90)).drew).ownsRow Wc.heap.size 90 7 (.slice (some ⟨Wc.heap.size, 0, none⟩) 0 0) 0 []) := lit7 Wc
              generalize (Wc.alloc (.cells #[] 90)).drew = w10 at hH HO ⊢
              try simp only [Act.put, List.setIfInBounds_toArray, List.set_cons_zero, List.set_cons_succ]
              refine anyE_ready (rs := [8]) (by kernel_rfl) (by simp) (AllE.cons rfl (fun K hK => ?_) (AllE.nil))
              refine step_append_rd rfl (.tmp 145) (.tmp 151) 68 90 rfl Tryz.underlying68 _ 7 32 flow_info rfl (by omega) (by omega) Wc hH.out _ 0 [] rfl HO.out _ m _ (fvs (s1.fs.take m)) rfl (HT.out _ hH.out) (fvs_one _) m (by omega) (by omega) ?_
              intro A2 c2 w11 ho11 hb11 hg11
              change K (Act.put _ (some 152) _) _
              refine hK.out _ _ (hb11) (fun hH => ?_)
              clear hK K
              clear HO hg11 hb11
              try simp only [Act.put, List.setIfInBounds_toArray, List.set_cons_zero, List.set_cons_succ]
              refine anyE_ready (rs := [12]) (by kernel_rfl) (by simp) (AllE.cons rfl (fun K hK => ?_) (AllE.nil))
              go_simp
              go_at_call 62
              refine (HWD.out _ _ _ _ _ _ (HAc.out.r.next hH.out)).mono ?_
              rintro e w12 ⟨rfl, hbp⟩
              refine hK.out _ _ (Lib.hid (hH.out.trans (hbp.mono hH.out.size))) (fun hH => ?_)
              clear hK K
              have ho12 := Lib.hid (row_keep ho11.out fun g e => hbp.block g (ho11.out.lt g e).2)
              clear hbp ho11
              try simp only [Act.put, List.setIfInBounds_toArray, List.set_cons_zero, List.set_cons_succ]
              refine anyE_take (i := 14) (oi := ⟨some 158, _, _, _, _, _⟩) (v := ?v518) rfl (by kernel_rfl) (by kernel_rfl) (by kernel_rfl) (by kernel_rfl) (fun _ _ _ h => h) (Or.inl ⟨rfl, ?c518⟩) hH ?r518
              case c518 => (intro w' _; go_simp; (try with_reducible rfl))
              try simp only [Act.put, List.setIfInBounds_toArray, List.set_cons_zero, List.set_cons_succ]
              refine anyE_ready (rs := [15]) (by kernel_rfl) (by simp) (AllE.cons rfl (fun K hK => ?_) (AllE.nil))
              go_simp
              refine hK.out _ _ (Lib.hid (hH.out.trans ((below_box w12 (.cells #[.int .u32 (k.a : Int), .int .u32 (k.b : Int), .int .u16 (k.p : Int), .int .u16 (k.q : Int), .int .u8 (k.r : Int), .int .u64 (FloM.gI (Fl.clip (Fs.untN T on s1.c)) (Fl.up 0) (on % 16)), .bool dn] 90)).mono hH.out.size))) (fun hH => ?_)
              clear hK K
              have ho13 := Lib.hid (row_keep ho12.out fun g e => (below_box w12 (.cells #[.int .u32 (k.a : Int), .int .u32 (k.b : Int), .int .u16 (k.p : Int), .int .u16 (k.q : Int), .int .u8 (k.r : Int), .int .u64 (FloM.gI (Fl.clip (Fs.untN T on s1.c)) (Fl.up 0) (on % 16)), .bool dn] 90)).block g (ho12.out.lt g e).2)
              have HRO : Hid (Rd (w12.alloc (.cells #[.int .u32 (k.a : Int), .int .u32 (k.b : Int), .int .u16 (k.p : Int), .int .u16 (k.q : Int), .int .u8 (k.r : Int), .int .u64 (FloM.gI (Fl.clip (Fs.untN T on s1.c)) (Fl.up 0) (on % 16)), .bool dn] 90)) (w12.alloc (.cells #[.int .u32 (k.a : Int), .int .u32 (k.b : Int), .int .u16 (k.p : Int), .int .u16 (k.q : Int), .int .u8 (k.r : Int), .int .u64 (FloM.gI (Fl.clip (Fs.untN T on s1.c)) (Fl.up 0) (on % 16)), .bool dn] 90)).heap.size 7 1 (.slice (some ⟨w12.heap.size, 0, none⟩) 1 1) (f7 fn)) := by
                show Rd _ _ _ _ _ _
                rw [← HFN.out]
                exact rd_one w12 _
              obtain ⟨gl, hgl⟩ : ∃ q, w12.heap.size = q := ⟨_, rfl⟩
              obtain ⟨w13, hw13⟩ : ∃ q, w12.alloc (.cells #[.int .u32 (k.a : Int), .int .u32 (k.b : Int), .int .u16 (k.p : Int), .int .u16 (k.q : Int), .int .u8 (k.r : Int), .int .u64 (FloM.gI (Fl.clip (Fs.untN T on s1.c)) (Fl.up 0) (on % 16)), .bool dn] 90) = q := ⟨_, rfl⟩
              rw [hgl] at HRO ⊢
              rw [hw13] at HRO ho13 hH ⊢
              clear ho12 hgl hw13
              try simp only [Act.put, List.setIfInBounds_toArray, List.set_cons_zero, List.set_cons_succ]
              refine anyE_ready (rs := [16]) (by kernel_rfl) (by simp) (AllE.cons rfl (fun K hK => ?_) (AllE.nil))
              refine step_append_rd rfl (.tmp 152) (.tmp 159) 68 90 rfl Tryz.underlying68 _ 7 32 flow_info rfl (by omega) (by omega) Wc hH.out _ m ([] ++ fvs (s1.fs.take m)) rfl ho13.out _ 1 _ (f7 fn) rfl HRO.out f7_one (m + 1) rfl (by omega) ?_
              intro A4 c4 w14 ho14 hb14 hg14
              change K (Act.put _ (some 160) _) _
              refine hK.out _ _ (hb14) (fun hH => ?_)
              clear hK K
              clear ho13 HRO hg14 hb14
              try simp only [Act.put, List.setIfInBounds_toArray, List.set_cons_zero, List.set_cons_succ]
              refine anyE_ready (rs := [23]) (by kernel_rfl) (by simp) (AllE.cons rfl (fun K hK => ?_) (AllE.nil))
              refine step_append_rd rfl (.tmp 160) (.tmp 166) 68 90 rfl Tryz.underlying68 _ 7 32 flow_info rfl (by omega) (by omega) Wc hH.out _ (m + 1) ([] ++ fvs (s1.fs.take m) ++ f7 fn) rfl ho14.out _ (n - m) _ (fvs (s1.fs.drop m)) rfl (HD.out _ hH.out) (fvs_one _) (n + 1) (by omega) (by omega) ?_
              intro A5 c5 w15 ho15 hb15 hg15
              change K (Act.put _ (some 167) _) _
              refine hK.out _ _ (hb15) (fun hH => ?_)
              clear hK K
              clear ho14 hg15 hb15
              try simp only [Act.put, List.setIfInBounds_toArray, List.set_cons_zero, List.set_cons_succ]
              refine anyE_ready (rs := [24]) (by kernel_rfl) (by simp) (AllE.cons rfl (fun K hK => ?_) (AllE.nil))
              go_simp
              refine hK.out _ _ (hH) (fun hH => ?_)
              clear hK K
              try simp only [Act.put, List.setIfInBounds_toArray, List.set_cons_zero, List.set_cons_succ]
              refine anyE_take (i := 25) (oi := ⟨some 169, _, _, _, _, _⟩) (v := ?v519) rfl (by kernel_rfl) (by kernel_rfl) (by kernel_rfl) (by kernel_rfl) (fun _ _ _ h => h) (Or.inl ⟨rfl, ?c519⟩) hH ?r519
              case c519 => (intro w' _; go_simp; (try with_reducible rfl))
              try simp only [Act.put, List.setIfInBounds_toArray, List.set_cons_zero, List.set_cons_succ]
              refine anyE_ready (rs := [26]) (by kernel_rfl) (by simp) (AllE.end_ rfl (fun K hK => ?_))
              have x20 := (HAc.out.r.next hH.out).at_ 20 _ rfl
              have f20 := (HAc.out.r.next hH.out).blk.frozen 20
              go_simp
              clear x20 f20
              refine hK.out _ _ ?_
              clear hK K
              try simp only [Act.put, List.setIfInBounds_toArray, List.set_cons_zero, List.set_cons_succ]
              refine anyE_done (by kernel_rfl) ?_ _
              obtain ⟨hR, hO⟩ := HAc.out.r.flows hH.out (fs' := ins fn s1.fs) (vf' := .slice A5 (n + 1) c5) (by rw [len_ins, HN.out, ← HFS.out]; exact ho15.out) (fun j hj => Env.new (HENV.out.only HAc.out.on HFO.out) hj)
              have HR := Lib.hid hR
              have HON := Lib.hid (HAc.out.on.trans hO (fun j e => HOS.out j e))
              have HOS2 : Hid (∀ j, (O1 j ∨ (Wc.heap.size ≤ j ∧ j < w15.heap.size)) → O j ∨ w.heap.size ≤ j) := fun j hj => hj.elim (HOS.out j) (fun h => .inr (Nat.le_trans HAc.out.on.size h.1))
              obtain ⟨O2, hO2⟩ : ∃ q : Nat → Prop, (fun j => O1 j ∨ (Wc.heap.size ≤ j ∧ j < w15.heap.size)) = q := ⟨_, rfl⟩
              rw [hO2] at HR
              have HOS3 : Hid (∀ j, O2 j → O j ∨ w.heap.size ≤ j) := by rw [← hO2]; exact HOS2
              obtain ⟨w16, hw16⟩ : ∃ q, w15.setCell ⟨B, 20, none⟩ (.slice A5 (n + 1) c5) = q := ⟨_, rfl⟩
              rw [hw16] at HR HON ⊢
              clear hR hO hO2 hw16 hH ho15 HAc HOS2 HT HD HWD
              generalize (if cc = m then some (⟨gf, 0, none⟩ : Addr) else some ⟨gf, m * 7, none⟩) = av
              have x18 := HR.out.at_ 18 _ rfl
              have f18 := HR.out.blk.frozen 18
              go_wp2_with fail
              go_ret
              exact ⟨O2, by rw [HV.out.1]; rfl, ⟨⟨_, _, vs, hist, by rw [HV.out.2]; exact HR.out.word _, by rw [HV.out.2]; exact HREST.out⟩, HINV.out, HQ3.out⟩, HON.out.setCell (HOS3.out _ HR.out.ob) _, HOS3.out⟩

end Au
end Go.Proofs.YtgcnhbjoalemlaaGreatDoor
/- Layer 18: the reference's Act, whole; its Count. (Written by wip/tools/mkAulL.py.) -/
set_option linter.unusedVariables false
set_option linter.unusedSimpArgs false
set_option maxRecDepth 100000
namespace Go.Proofs.YtgcnhbjoalemlaaGreatDoor
open Go.ChangeShapes Go.WideShapes Go.ChangeAt Go.RowKit Go.Mtl Go.Lib
namespace Au
open AutM
open RulM (R)
open MatM (K)
theorem refAct_q {w : World} {O : Nat → Prop} {B : Nat} {z N : Int} {T : Nat → Int} {s : St} (H : QAt w O B z N T s) (he : Env w) (p : K) (hp : p.Ok) :
    Calls Tryz.prog 31 #[ptr B, .agg (Ma.pK p)] w fun e w' => ∃ O' : Nat → Prop, e = .returned (.int .i64 (actV N s p)) ∧ QAt w' O' B z N T (actS N T s p) ∧ Only O w w' ∧ ∀ j, O' j → O j ∨ w.heap.size ≤ j := by
  unfold actV actS
  cases hf : find (keyP p) (delS s (keyP p)).fs with
  | some f => exact refAct_known H he p hp f hf
  | none => exact refAct_new H he p hp hf
section
variable {w : World} {O : Nat → Prop} {B : Nat} {z N : Int} {T : Nat → Int} {x : Int} {vr vf : Value} {vs : List Value} {hist : List (List R)} {fs : List Fl} {t : Nat → Int}

set_option maxHeartbeats 1000000 in
theorem refCount_1 (H : Rf w O B z N T x vr vf vs hist fs t) (ht : 0 ≤ t 1 ∧ t 1 < 18446744073709551616) (hm : t 1 ≠ 18446744073709551615) :
    Calls Tryz.prog 30 #[ptr B, .int .i64 1] w fun e w' => e = .returned (.tuple #[]) ∧ Rf w' O B z N T x vr vf vs hist fs (tlN t 1) ∧ Only O w w' := by
  have cj := H.at_ 22 _ rfl
  have HH := Lib.hid H
  have hw : IntKind.u64.wrap (t 1 + 1) = t 1 + 1 := by simp [IntKind.wrap, IntKind.bits, IntKind.signed]; omega
  have dm : (t 1 + 1 != 0) = true := by simp; omega
  clear H hm ht
  go_enter Tryz.func30, Tryz.ntmps30
  go_wp2_with fail
  clear cj dm
  refine region_e (S := fun w' => Hid (Rf w' O B z N T x vr vf vs hist fs t)) 10 (by kernel_rfl) (Lib.hid (HH.out.next (Below.refl _ w).drew)) (fun hH => ?_)
  refine anyE_take (i := 0) (oi := ⟨some 20, _, _, _, _, _⟩) (v := ?v1) rfl (by kernel_rfl) (by kernel_rfl) (by kernel_rfl) (by kernel_rfl) (fun _ _ _ h => h) (Or.inl ⟨rfl, ?c1⟩) hH ?r1
  case c1 => (intro w' _; go_simp; (try with_reducible rfl))
  try simp only [Act.put, List.setIfInBounds_toArray, List.set_cons_zero, List.set_cons_succ]
  refine anyE_take (i := 1) (oi := ⟨some 21, _, _, _, _, _⟩) (v := ?v2) rfl (by kernel_rfl) (by kernel_rfl) (by kernel_rfl) (by kernel_rfl) (fun _ _ _ h => h) (Or.inl ⟨rfl, ?c2⟩) hH ?r2
  case c2 => (intro w' _; go_simp; (try with_reducible rfl))
  try simp only [Act.put, List.setIfInBounds_toArray, List.set_cons_zero, List.set_cons_succ]
  refine anyE_take (i := 2) (oi := ⟨some 22, _, _, _, _, _⟩) (v := ?v3) rfl (by kernel_rfl) (by kernel_rfl) (by kernel_rfl) (by kernel_rfl) (fun _ _ _ h => h) (Or.inl ⟨rfl, ?c3⟩) hH ?r3
  case c3 => (intro w' _; go_simp; (try with_reducible rfl))
  try simp only [Act.put, List.setIfInBounds_toArray, List.set_cons_zero, List.set_cons_succ]
  refine anyE_take (i := 3) (oi := ⟨some 23, _, _, _, _, _⟩) (v := ?v4) rfl (by kernel_rfl) (by kernel_rfl) (by kernel_rfl) (by kernel_rfl) (fun _ _ _ h => h) (Or.inl ⟨rfl, ?c4⟩) hH ?r4
  case c4 => (intro w' _; go_simp; (try with_reducible rfl))
  try simp only [Act.put, List.setIfInBounds_toArray, List.set_cons_zero, List.set_cons_succ]
  refine anyE_take (i := 4) (oi := ⟨some 24, _, _, _, _, _⟩) (v := ?v5) rfl (by kernel_rfl) (by kernel_rfl) (by kernel_rfl) (by kernel_rfl) (fun _ _ _ h => h) (Or.inl ⟨rfl, ?c5⟩) hH ?r5
  case c5 => (intro w' _; go_simp; (try with_reducible rfl))
  try simp only [Act.put, List.setIfInBounds_toArray, List.set_cons_zero, List.set_cons_succ]
  refine anyE_take (i := 5) (oi := ⟨some 25, _, _, _, _, _⟩) (v := ?v6) rfl (by kernel_rfl) (by kernel_rfl) (by kernel_rfl) (by kernel_rfl) (fun _ _ _ h => h) (Or.inl ⟨rfl, ?c6⟩) hH ?r6
  case c6 => (intro w' hS; have c9 := hS.out.at_ 22 _ rfl; go_simp; (try with_reducible rfl))
  try simp only [Act.put, List.setIfInBounds_toArray, List.set_cons_zero, List.set_cons_succ]
  refine anyE_take (i := 6) (oi := ⟨some 26, _, _, _, _, _⟩) (v := ?v7) rfl (by kernel_rfl) (by kernel_rfl) (by kernel_rfl) (by kernel_rfl) (fun _ _ _ h => h) (Or.inl ⟨rfl, ?c7⟩) hH ?r7
  case c7 => (intro w' _; go_simp; (try with_reducible rfl))
  try simp only [Act.put, List.setIfInBounds_toArray, List.set_cons_zero, List.set_cons_succ]
  refine anyE_ready (rs := [7]) (by kernel_rfl) (by simp) (AllE.cons rfl (fun K hK => ?_) (AllE.nil))
  go_simp
  refine hK.out _ _ (hH) (fun hH => ?_)
  clear hK K
  try simp only [Act.put, List.setIfInBounds_toArray, List.set_cons_zero, List.set_cons_succ]
  refine anyE_ready (rs := [8]) (by kernel_rfl) (by simp) (AllE.cons rfl (fun K hK => ?_) (AllE.nil))
  go_simp
  refine hK.out _ _ (hH) (fun hH => ?_)
  clear hK K
  try simp only [Act.put, List.setIfInBounds_toArray, List.set_cons_zero, List.set_cons_succ]
  refine anyE_take (i := 9) (oi := ⟨some 29, _, _, _, _, _⟩) (v := ?v8) rfl (by kernel_rfl) (by kernel_rfl) (by kernel_rfl) (by kernel_rfl) (fun _ _ _ h => h) (Or.inl ⟨rfl, ?c8⟩) hH ?r8
  case c8 => (intro w' _; go_simp; (try with_reducible rfl))
  try simp only [Act.put, List.setIfInBounds_toArray, List.set_cons_zero, List.set_cons_succ]
  refine anyE_ready (rs := [10]) (by kernel_rfl) (by simp) (AllE.end_ rfl (fun K hK => ?_))
  have f9 := HH.out.blk.frozen 22
  have c9 := HH.out.at_ 22 _ rfl
  have f9 : w.drew.frozen? ⟨B, 22, none⟩ = false := f9
  have c9 : w.drew.cell? ⟨B, 22, none⟩ = _ := c9
  go_simp
  clear f9 c9
  refine hK.out _ _ ?_
  clear hK K
  try simp only [Act.put, List.setIfInBounds_toArray, List.set_cons_zero, List.set_cons_succ]
  refine anyE_done (by kernel_rfl) ?_ _
  clear hH
  go_wp2_with fail
  go_end0
  have HS := (HH.out.next (Below.refl _ w).drew).set 22 (.int .u64 (t 1 + 1)) (x' := x) (t' := tlN t 1) (by simp [tlN])
  exact ⟨rfl, HS, ((Only.refl O w).next (Below.refl _ w).drew).setCell (.inl HH.out.ob) _⟩

set_option maxHeartbeats 1000000 in
theorem refCount_2 (H : Rf w O B z N T x vr vf vs hist fs t) (ht : 0 ≤ t 2 ∧ t 2 < 18446744073709551616) (hm : t 2 ≠ 18446744073709551615) :
    Calls Tryz.prog 30 #[ptr B, .int .i64 2] w fun e w' => e = .returned (.tuple #[]) ∧ Rf w' O B z N T x vr vf vs hist fs (tlN t 2) ∧ Only O w w' := by
  have cj := H.at_ 23 _ rfl
  have HH := Lib.hid H
  have hw : IntKind.u64.wrap (t 2 + 1) = t 2 + 1 := by simp [IntKind.wrap, IntKind.bits, IntKind.signed]; omega
  have dm : (t 2 + 1 != 0) = true := by simp; omega
  clear H hm ht
  go_enter Tryz.func30, Tryz.ntmps30
  go_wp2_with fail
  clear cj dm
  refine region_e (S := fun w' => Hid (Rf w' O B z N T x vr vf vs hist fs t)) 10 (by kernel_rfl) (Lib.hid (HH.out.next (Below.refl _ w).drew)) (fun hH => ?_)
  refine anyE_take (i := 0) (oi := ⟨some 20, _, _, _, _, _⟩) (v := ?v1) rfl (by kernel_rfl) (by kernel_rfl) (by kernel_rfl) (by kernel_rfl) (fun _ _ _ h => h) (Or.inl ⟨rfl, ?c1⟩) hH ?r1
  case c1 => (intro w' _; go_simp; (try with_reducible rfl))
  try simp only [Act.put, List.setIfInBounds_toArray, List.set_cons_zero, List.set_cons_succ]
  refine anyE_take (i := 1) (oi := ⟨some 21, _, _, _, _, _⟩) (v := ?v2) rfl (by kernel_rfl) (by kernel_rfl) (by kernel_rfl) (by kernel_rfl) (fun _ _ _ h => h) (Or.inl ⟨rfl, ?c2⟩) hH ?r2
  case c2 => (intro w' _; go_simp; (try with_reducible rfl))
  try simp only [Act.put, List.setIfInBounds_toArray, List.set_cons_zero, List.set_cons_succ]
  refine anyE_take (i := 2) (oi := ⟨some 22, _, _, _, _, _⟩) (v := ?v3) rfl (by kernel_rfl) (by kernel_rfl) (by kernel_rfl) (by kernel_rfl) (fun _ _ _ h => h) (Or.inl ⟨rfl, ?c3⟩) hH ?r3
  case c3 => (intro w' _; go_simp; (try with_reducible rfl))
  try simp only [Act.put, List.setIfInBounds_toArray, List.set_cons_zero, List.set_cons_succ]
  refine anyE_take (i := 3) (oi := ⟨some 23, _, _, _, _, _⟩) (v := ?v4) rfl (by kernel_rfl) (by kernel_rfl) (by kernel_rfl) (by kernel_rfl) (fun _ _ _ h => h) (Or.inl ⟨rfl, ?c4⟩) hH ?r4
  case c4 => (intro w' _; go_simp; (try with_reducible rfl))
  try simp only [Act.put, List.setIfInBounds_toArray, List.set_cons_zero, List.set_cons_succ]
  refine anyE_take (i := 4) (oi := ⟨some 24, _, _, _, _, _⟩) (v := ?v5) rfl (by kernel_rfl) (by kernel_rfl) (by kernel_rfl) (by kernel_rfl) (fun _ _ _ h => h) (Or.inl ⟨rfl, ?c5⟩) hH ?r5
  case c5 => (intro w' _; go_simp; (try with_reducible rfl))
  try simp only [Act.put, List.setIfInBounds_toArray, List.set_cons_zero, List.set_cons_succ]
  refine anyE_take (i := 5) (oi := ⟨some 25, _, _, _, _, _⟩) (v := ?v6) rfl (by kernel_rfl) (by kernel_rfl) (by kernel_rfl) (by kernel_rfl) (fun _ _ _ h => h) (Or.inl ⟨rfl, ?c6⟩) hH ?r6
  case c6 => (intro w' hS; have c9 := hS.out.at_ 23 _ rfl; go_simp; (try with_reducible rfl))
  try simp only [Act.put, List.setIfInBounds_toArray, List.set_cons_zero, List.set_cons_succ]
  refine anyE_take (i := 6) (oi := ⟨some 26, _, _, _, _, _⟩) (v := ?v7) rfl (by kernel_rfl) (by kernel_rfl) (by kernel_rfl) (by kernel_rfl) (fun _ _ _ h => h) (Or.inl ⟨rfl, ?c7⟩) hH ?r7
  case c7 => (intro w' _; go_simp; (try with_reducible rfl))
  try simp only [Act.put, List.setIfInBounds_toArray, List.set_cons_zero, List.set_cons_succ]
  refine anyE_ready (rs := [7]) (by kernel_rfl) (by simp) (AllE.cons rfl (fun K hK => ?_) (AllE.nil))
  go_simp
  refine hK.out _ _ (hH) (fun hH => ?_)
  clear hK K
  try simp only [Act.put, List.setIfInBounds_toArray, List.set_cons_zero, List.set_cons_succ]
  refine anyE_ready (rs := [8]) (by kernel_rfl) (by simp) (AllE.cons rfl (fun K hK => ?_) (AllE.nil))
  go_simp
  refine hK.out _ _ (hH) (fun hH => ?_)
  clear hK K
  try simp only [Act.put, List.setIfInBounds_toArray, List.set_cons_zero, List.set_cons_succ]
  refine anyE_take (i := 9) (oi := ⟨some 29, _, _, _, _, _⟩) (v := ?v8) rfl (by kernel_rfl) (by kernel_rfl) (by kernel_rfl) (by kernel_rfl) (fun _ _ _ h => h) (Or.inl ⟨rfl, ?c8⟩) hH ?r8
  case c8 => (intro w' _; go_simp; (try with_reducible rfl))
  try simp only [Act.put, List.setIfInBounds_toArray, List.set_cons_zero, List.set_cons_succ]
  refine anyE_ready (rs := [10]) (by kernel_rfl) (by simp) (AllE.end_ rfl (fun K hK => ?_))
  have f9 := HH.out.blk.frozen 23
  have c9 := HH.out.at_ 23 _ rfl
  have f9 : w.drew.frozen? ⟨B, 23, none⟩ = false := f9
  have c9 : w.drew.cell? ⟨B, 23, none⟩ = _ := c9
  go_simp
  clear f9 c9
  refine hK.out _ _ ?_
  clear hK K
  try simp only [Act.put, List.setIfInBounds_toArray, List.set_cons_zero, List.set_cons_succ]
  refine anyE_done (by kernel_rfl) ?_ _
  clear hH
  go_wp2_with fail
  go_end0
  have HS := (HH.out.next (Below.refl _ w).drew).set 23 (.int .u64 (t 2 + 1)) (x' := x) (t' := tlN t 2) (by simp [tlN])
  exact ⟨rfl, HS, ((Only.refl O w).next (Below.refl _ w).drew).setCell (.inl HH.out.ob) _⟩

set_option maxHeartbeats 1000000 in
theorem refCount_3 (H : Rf w O B z N T x vr vf vs hist fs t) (ht : 0 ≤ t 3 ∧ t 3 < 18446744073709551616) (hm : t 3 ≠ 18446744073709551615) :
    Calls Tryz.prog 30 #[ptr B, .int .i64 3] w fun e w' => e = .returned (.tuple #[]) ∧ Rf w' O B z N T x vr vf vs hist fs (tlN t 3) ∧ Only O w w' := by
  have cj := H.at_ 24 _ rfl
  have HH := Lib.hid H
  have hw : IntKind.u64.wrap (t 3 + 1) = t 3 + 1 := by simp [IntKind.wrap, IntKind.bits, IntKind.signed]; omega
  have dm : (t 3 + 1 != 0) = true := by simp; omega
  clear H hm ht
  go_enter Tryz.func30, Tryz.ntmps30
  go_wp2_with fail
  clear cj dm
  refine region_e (S := fun w' => Hid (Rf w' O B z N T x vr vf vs hist fs t)) 10 (by kernel_rfl) (Lib.hid (HH.out.next (Below.refl _ w).drew)) (fun hH => ?_)
  refine anyE_take (i := 0) (oi := ⟨some 20, _, _, _, _, _⟩) (v := ?v1) rfl (by kernel_rfl) (by kernel_rfl) (by kernel_rfl) (by kernel_rfl) (fun _ _ _ h => h) (Or.inl ⟨rfl, ?c1⟩) hH ?r1
  case c1 => (intro w' _; go_simp; (try with_reducible rfl))
  try simp only [Act.put, List.setIfInBounds_toArray, List.set_cons_zero, List.set_cons_succ]
  refine anyE_take (i := 1) (oi := ⟨some 21, _, _, _, _, _⟩) (v := ?v2) rfl (by kernel_rfl) (by kernel_rfl) (by kernel_rfl) (by kernel_rfl) (fun _ _ _ h => h) (Or.inl ⟨rfl, ?c2⟩) hH ?r2
  case c2 => (intro w' _; go_simp; (try with_reducible rfl))
  try simp only [Act.put, List.setIfInBounds_toArray, List.set_cons_zero, List.set_cons_succ]
  refine anyE_take (i := 2) (oi := ⟨some 22, _, _, _, _, _⟩) (v := ?v3) rfl (by kernel_rfl) (by kernel_rfl) (by kernel_rfl) (by kernel_rfl) (fun _ _ _ h => h) (Or.inl ⟨rfl, ?c3⟩) hH ?r3
  case c3 => (intro w' _; go_simp; (try with_reducible rfl))
  try simp only [Act.put, List.setIfInBounds_toArray, List.set_cons_zero, List.set_cons_succ]
  refine anyE_take (i := 3) (oi := ⟨some 23, _, _, _, _, _⟩) (v := ?v4) rfl (by kernel_rfl) (by kernel_rfl) (by kernel_rfl) (by kernel_rfl) (fun _ _ _ h => h) (Or.inl ⟨rfl, ?c4⟩) hH ?r4
  case c4 => (intro w' _; go_simp; (try with_reducible rfl))
  try simp only [Act.put, List.setIfInBounds_toArray, List.set_cons_zero, List.set_cons_succ]
  refine anyE_take (i := 4) (oi := ⟨some 24, _, _, _, _, _⟩) (v := ?v5) rfl (by kernel_rfl) (by kernel_rfl) (by kernel_rfl) (by kernel_rfl) (fun _ _ _ h => h) (Or.inl ⟨rfl, ?c5⟩) hH ?r5
  case c5 => (intro w' _; go_simp; (try with_reducible rfl))
  try simp only [Act.put, List.setIfInBounds_toArray, List.set_cons_zero, List.set_cons_succ]
  refine anyE_take (i := 5) (oi := ⟨some 25, _, _, _, _, _⟩) (v := ?v6) rfl (by kernel_rfl) (by kernel_rfl) (by kernel_rfl) (by kernel_rfl) (fun _ _ _ h => h) (Or.inl ⟨rfl, ?c6⟩) hH ?r6
  case c6 => (intro w' hS; have c9 := hS.out.at_ 24 _ rfl; go_simp; (try with_reducible rfl))
  try simp only [Act.put, List.setIfInBounds_toArray, List.set_cons_zero, List.set_cons_succ]
  refine anyE_take (i := 6) (oi := ⟨some 26, _, _, _, _, _⟩) (v := ?v7) rfl (by kernel_rfl) (by kernel_rfl) (by kernel_rfl) (by kernel_rfl) (fun _ _ _ h => h) (Or.inl ⟨rfl, ?c7⟩) hH ?r7
  case c7 => (intro w' _; go_simp; (try with_reducible rfl))
  try simp only [Act.put, List.setIfInBounds_toArray, List.set_cons_zero, List.set_cons_succ]
  refine anyE_ready (rs := [7]) (by kernel_rfl) (by simp) (AllE.cons rfl (fun K hK => ?_) (AllE.nil))
  go_simp
  refine hK.out _ _ (hH) (fun hH => ?_)
  clear hK K
  try simp only [Act.put, List.setIfInBounds_toArray, List.set_cons_zero, List.set_cons_succ]
  refine anyE_ready (rs := [8]) (by kernel_rfl) (by simp) (AllE.cons rfl (fun K hK => ?_) (AllE.nil))
  go_simp
  refine hK.out _ _ (hH) (fun hH => ?_)
  clear hK K
  try simp only [Act.put, List.setIfInBounds_toArray, List.set_cons_zero, List.set_cons_succ]
  refine anyE_take (i := 9) (oi := ⟨some 29, _, _, _, _, _⟩) (v := ?v8) rfl (by kernel_rfl) (by kernel_rfl) (by kernel_rfl) (by kernel_rfl) (fun _ _ _ h => h) (Or.inl ⟨rfl, ?c8⟩) hH ?r8
  case c8 => (intro w' _; go_simp; (try with_reducible rfl))
  try simp only [Act.put, List.setIfInBounds_toArray, List.set_cons_zero, List.set_cons_succ]
  refine anyE_ready (rs := [10]) (by kernel_rfl) (by simp) (AllE.end_ rfl (fun K hK => ?_))
  have f9 := HH.out.blk.frozen 24
  have c9 := HH.out.at_ 24 _ rfl
  have f9 : w.drew.frozen? ⟨B, 24, none⟩ = false := f9
  have c9 : w.drew.cell? ⟨B, 24, none⟩ = _ := c9
  go_simp
  clear f9 c9
  refine hK.out _ _ ?_
  clear hK K
  try simp only [Act.put, List.setIfInBounds_toArray, List.set_cons_zero, List.set_cons_succ]
  refine anyE_done (by kernel_rfl) ?_ _
  clear hH
  go_wp2_with fail
  go_end0
  have HS := (HH.out.next (Below.refl _ w).drew).set 24 (.int .u64 (t 3 + 1)) (x' := x) (t' := tlN t 3) (by simp [tlN])
  exact ⟨rfl, HS, ((Only.refl O w).next (Below.refl _ w).drew).setCell (.inl HH.out.ob) _⟩

set_option maxHeartbeats 1000000 in
theorem refCount_4 (H : Rf w O B z N T x vr vf vs hist fs t) (ht : 0 ≤ t 4 ∧ t 4 < 18446744073709551616) (hm : t 4 ≠ 18446744073709551615) :
    Calls Tryz.prog 30 #[ptr B, .int .i64 4] w fun e w' => e = .returned (.tuple #[]) ∧ Rf w' O B z N T x vr vf vs hist fs (tlN t 4) ∧ Only O w w' := by
  have cj := H.at_ 25 _ rfl
  have HH := Lib.hid H
  have hw : IntKind.u64.wrap (t 4 + 1) = t 4 + 1 := by simp [IntKind.wrap, IntKind.bits, IntKind.signed]; omega
  have dm : (t 4 + 1 != 0) = true := by simp; omega
  clear H hm ht
  go_enter Tryz.func30, Tryz.ntmps30
  go_wp2_with fail
  clear cj dm
  refine region_e (S := fun w' => Hid (Rf w' O B z N T x vr vf vs hist fs t)) 10 (by kernel_rfl) (Lib.hid (HH.out.next (Below.refl _ w).drew)) (fun hH => ?_)
  refine anyE_take (i := 0) (oi := ⟨some 20, _, _, _, _, _⟩) (v := ?v1) rfl (by kernel_rfl) (by kernel_rfl) (by kernel_rfl) (by kernel_rfl) (fun _ _ _ h => h) (Or.inl ⟨rfl, ?c1⟩) hH ?r1
  case c1 => (intro w' _; go_simp; (try with_reducible rfl))
  try simp only [Act.put, List.setIfInBounds_toArray, List.set_cons_zero, List.set_cons_succ]
  refine anyE_take (i := 1) (oi := ⟨some 21, _, _, _, _, _⟩) (v := ?v2) rfl (by kernel_rfl) (by kernel_rfl) (by kernel_rfl) (by kernel_rfl) (fun _ _ _ h => h) (Or.inl ⟨rfl, ?c2⟩) hH ?r2
  case c2 => (intro w' _; go_simp; (try with_reducible rfl))
  try simp only [Act.put, List.setIfInBounds_toArray, List.set_cons_zero, List.set_cons_succ]
  refine anyE_take (i := 2) (oi := ⟨some 22, _, _, _, _, _⟩) (v := ?v3) rfl (by kernel_rfl) (by kernel_rfl) (by kernel_rfl) (by kernel_rfl) (fun _ _ _ h => h) (Or.inl ⟨rfl, ?c3⟩) hH ?r3
  case c3 => (intro w' _; go_simp; (try with_reducible rfl))
  try simp only [Act.put, List.setIfInBounds_toArray, List.set_cons_zero, List.set_cons_succ]
  refine anyE_take (i := 3) (oi := ⟨some 23, _, _, _, _, _⟩) (v := ?v4) rfl (by kernel_rfl) (by kernel_rfl) (by kernel_rfl) (by kernel_rfl) (fun _ _ _ h => h) (Or.inl ⟨rfl, ?c4⟩) hH ?r4
  case c4 => (intro w' _; go_simp; (try with_reducible rfl))
  try simp only [Act.put, List.setIfInBounds_toArray, List.set_cons_zero, List.set_cons_succ]
  refine anyE_take (i := 4) (oi := ⟨some 24, _, _, _, _, _⟩) (v := ?v5) rfl (by kernel_rfl) (by kernel_rfl) (by kernel_rfl) (by kernel_rfl) (fun _ _ _ h => h) (Or.inl ⟨rfl, ?c5⟩) hH ?r5
  case c5 => (intro w' _; go_simp; (try with_reducible rfl))
  try simp only [Act.put, List.setIfInBounds_toArray, List.set_cons_zero, List.set_cons_succ]
  refine anyE_take (i := 5) (oi := ⟨some 25, _, _, _, _, _⟩) (v := ?v6) rfl (by kernel_rfl) (by kernel_rfl) (by kernel_rfl) (by kernel_rfl) (fun _ _ _ h => h) (Or.inl ⟨rfl, ?c6⟩) hH ?r6
  case c6 => (intro w' hS; have c9 := hS.out.at_ 25 _ rfl; go_simp; (try with_reducible rfl))
  try simp only [Act.put, List.setIfInBounds_toArray, List.set_cons_zero, List.set_cons_succ]
  refine anyE_take (i := 6) (oi := ⟨some 26, _, _, _, _, _⟩) (v := ?v7) rfl (by kernel_rfl) (by kernel_rfl) (by kernel_rfl) (by kernel_rfl) (fun _ _ _ h => h) (Or.inl ⟨rfl, ?c7⟩) hH ?r7
  case c7 => (intro w' _; go_simp; (try with_reducible rfl))
  try simp only [Act.put, List.setIfInBounds_toArray, List.set_cons_zero, List.set_cons_succ]
  refine anyE_ready (rs := [7]) (by kernel_rfl) (by simp) (AllE.cons rfl (fun K hK => ?_) (AllE.nil))
  go_simp
  refine hK.out _ _ (hH) (fun hH => ?_)
  clear hK K
  try simp only [Act.put, List.setIfInBounds_toArray, List.set_cons_zero, List.set_cons_succ]
  refine anyE_ready (rs := [8]) (by kernel_rfl) (by simp) (AllE.cons rfl (fun K hK => ?_) (AllE.nil))
  go_simp
  refine hK.out _ _ (hH) (fun hH => ?_)
  clear hK K
  try simp only [Act.put, List.setIfInBounds_toArray, List.set_cons_zero, List.set_cons_succ]
  refine anyE_take (i := 9) (oi := ⟨some 29, _, _, _, _, _⟩) (v := ?v8) rfl (by kernel_rfl) (by kernel_rfl) (by kernel_rfl) (by kernel_rfl) (fun _ _ _ h => h) (Or.inl ⟨rfl, ?c8⟩) hH ?r8
  case c8 => (intro w' _; go_simp; (try with_reducible rfl))
  try simp only [Act.put, List.setIfInBounds_toArray, List.set_cons_zero, List.set_cons_succ]
  refine anyE_ready (rs := [10]) (by kernel_rfl) (by simp) (AllE.end_ rfl (fun K hK => ?_))
  have f9 := HH.out.blk.frozen 25
  have c9 := HH.out.at_ 25 _ rfl
  have f9 : w.drew.frozen? ⟨B, 25, none⟩ = false := f9
  have c9 : w.drew.cell? ⟨B, 25, none⟩ = _ := c9
  go_simp
  clear f9 c9
  refine hK.out _ _ ?_
  clear hK K
  try simp only [Act.put, List.setIfInBounds_toArray, List.set_cons_zero, List.set_cons_succ]
  refine anyE_done (by kernel_rfl) ?_ _
  clear hH
  go_wp2_with fail
  go_end0
  have HS := (HH.out.next (Below.refl _ w).drew).set 25 (.int .u64 (t 4 + 1)) (x' := x) (t' := tlN t 4) (by simp [tlN])
  exact ⟨rfl, HS, ((Only.refl O w).next (Below.refl _ w).drew).setCell (.inl HH.out.ob) _⟩

set_option maxHeartbeats 1000000 in
theorem refCount_5 (H : Rf w O B z N T x vr vf vs hist fs t) (ht : 0 ≤ t 5 ∧ t 5 < 18446744073709551616) (hm : t 5 ≠ 18446744073709551615) :
    Calls Tryz.prog 30 #[ptr B, .int .i64 5] w fun e w' => e = .returned (.tuple #[]) ∧ Rf w' O B z N T x vr vf vs hist fs (tlN t 5) ∧ Only O w w' := by
  have cj := H.at_ 26 _ rfl
  have HH := Lib.hid H
  have hw : IntKind.u64.wrap (t 5 + 1) = t 5 + 1 := by simp [IntKind.wrap, IntKind.bits, IntKind.signed]; omega
  have dm : (t 5 + 1 != 0) = true := by simp; omega
  clear H hm ht
  go_enter Tryz.func30, Tryz.ntmps30
  go_wp2_with fail
  clear cj dm
  refine region_e (S := fun w' => Hid (Rf w' O B z N T x vr vf vs hist fs t)) 10 (by kernel_rfl) (Lib.hid (HH.out.next (Below.refl _ w).drew)) (fun hH => ?_)
  refine anyE_take (i := 0) (oi := ⟨some 20, _, _, _, _, _⟩) (v := ?v1) rfl (by kernel_rfl) (by kernel_rfl) (by kernel_rfl) (by kernel_rfl) (fun _ _ _ h => h) (Or.inl ⟨rfl, ?c1⟩) hH ?r1
  case c1 => (intro w' _; go_simp; (try with_reducible rfl))
  try simp only [Act.put, List.setIfInBounds_toArray, List.set_cons_zero, List.set_cons_succ]
  refine anyE_take (i := 1) (oi := ⟨some 21, _, _, _, _, _⟩) (v := ?v2) rfl (by kernel_rfl) (by kernel_rfl) (by kernel_rfl) (by kernel_rfl) (fun _ _ _ h => h) (Or.inl ⟨rfl, ?c2⟩) hH ?r2
  case c2 => (intro w' _; go_simp; (try with_reducible rfl))
  try simp only [Act.put, List.setIfInBounds_toArray, List.set_cons_zero, List.set_cons_succ]
  refine anyE_take (i := 2) (oi := ⟨some 22, _, _, _, _, _⟩) (v := ?v3) rfl (by kernel_rfl) (by kernel_rfl) (by kernel_rfl) (by kernel_rfl) (fun _ _ _ h => h) (Or.inl ⟨rfl, ?c3⟩) hH ?r3
  case c3 => (intro w' _; go_simp; (try with_reducible rfl))
  try simp only [Act.put, List.setIfInBounds_toArray, List.set_cons_zero, List.set_cons_succ]
  refine anyE_take (i := 3) (oi := ⟨some 23, _, _, _, _, _⟩) (v := ?v4) rfl (by kernel_rfl) (by kernel_rfl) (by kernel_rfl) (by kernel_rfl) (fun _ _ _ h => h) (Or.inl ⟨rfl, ?c4⟩) hH ?r4
  case c4 => (intro w' _; go_simp; (try with_reducible rfl))
  try simp only [Act.put, List.setIfInBounds_toArray, List.set_cons_zero, List.set_cons_succ]
  refine anyE_take (i := 4) (oi := ⟨some 24, _, _, _, _, _⟩) (v := ?v5) rfl (by kernel_rfl) (by kernel_rfl) (by kernel_rfl) (by kernel_rfl) (fun _ _ _ h => h) (Or.inl ⟨rfl, ?c5⟩) hH ?r5
  case c5 => (intro w' _; go_simp; (try with_reducible rfl))
  try simp only [Act.put, List.setIfInBounds_toArray, List.set_cons_zero, List.set_cons_succ]
  refine anyE_take (i := 5) (oi := ⟨some 25, _, _, _, _, _⟩) (v := ?v6) rfl (by kernel_rfl) (by kernel_rfl) (by kernel_rfl) (by kernel_rfl) (fun _ _ _ h => h) (Or.inl ⟨rfl, ?c6⟩) hH ?r6
  case c6 => (intro w' hS; have c9 := hS.out.at_ 26 _ rfl; go_simp; (try with_reducible rfl))
  try simp only [Act.put, List.setIfInBounds_toArray, List.set_cons_zero, List.set_cons_succ]
  refine anyE_take (i := 6) (oi := ⟨some 26, _, _, _, _, _⟩) (v := ?v7) rfl (by kernel_rfl) (by kernel_rfl) (by kernel_rfl) (by kernel_rfl) (fun _ _ _ h => h) (Or.inl ⟨rfl, ?c7⟩) hH ?r7
  case c7 => (intro w' _; go_simp; (try with_reducible rfl))
  try simp only [Act.put, List.setIfInBounds_toArray, List.set_cons_zero, List.set_cons_succ]
  refine anyE_ready (rs := [7]) (by kernel_rfl) (by simp) (AllE.cons rfl (fun K hK => ?_) (AllE.nil))
  go_simp
  refine hK.out _ _ (hH) (fun hH => ?_)
  clear hK K
  try simp only [Act.put, List.setIfInBounds_toArray, List.set_cons_zero, List.set_cons_succ]
  refine anyE_ready (rs := [8]) (by kernel_rfl) (by simp) (AllE.cons rfl (fun K hK => ?_) (AllE.nil))
  go_simp
  refine hK.out _ _ (hH) (fun hH => ?_)
  clear hK K
  try simp only [Act.put, List.setIfInBounds_toArray, List.set_cons_zero, List.set_cons_succ]
  refine anyE_take (i := 9) (oi := ⟨some 29, _, _, _, _, _⟩) (v := ?v8) rfl (by kernel_rfl) (by kernel_rfl) (by kernel_rfl) (by kernel_rfl) (fun _ _ _ h => h) (Or.inl ⟨rfl, ?c8⟩) hH ?r8
  case c8 => (intro w' _; go_simp; (try with_reducible rfl))
  try simp only [Act.put, List.setIfInBounds_toArray, List.set_cons_zero, List.set_cons_succ]
  refine anyE_ready (rs := [10]) (by kernel_rfl) (by simp) (AllE.end_ rfl (fun K hK => ?_))
  have f9 := HH.out.blk.frozen 26
  have c9 := HH.out.at_ 26 _ rfl
  have f9 : w.drew.frozen? ⟨B, 26, none⟩ = false := f9
  have c9 : w.drew.cell? ⟨B, 26, none⟩ = _ := c9
  go_simp
  clear f9 c9
  refine hK.out _ _ ?_
  clear hK K
  try simp only [Act.put, List.setIfInBounds_toArray, List.set_cons_zero, List.set_cons_succ]
  refine anyE_done (by kernel_rfl) ?_ _
  clear hH
  go_wp2_with fail
  go_end0
  have HS := (HH.out.next (Below.refl _ w).drew).set 26 (.int .u64 (t 5 + 1)) (x' := x) (t' := tlN t 5) (by simp [tlN])
  exact ⟨rfl, HS, ((Only.refl O w).next (Below.refl _ w).drew).setCell (.inl HH.out.ob) _⟩
end
set_option maxHeartbeats 1000000 in
theorem refCount_q {w : World} {O : Nat → Prop} {B : Nat} {z N : Int} {T : Nat → Int} {s : St} (H : QAt w O B z N T s) (v : Int) (hv : -9223372036854775808 ≤ v ∧ v ≤ 9223372036854775807) :
    Calls Tryz.prog 30 #[ptr B, .int .i64 v] w fun e w' => e = .returned (.tuple #[]) ∧ QAt w' O B z N T (countS s v) ∧ Only O w w' := by
  have hd := H.2.1.count v
  obtain ⟨⟨vr, vf, vs, hist, H, h2⟩, hi, h3⟩ := H
  unfold countS at hd ⊢
  by_cases h : 1 ≤ v ∧ v ≤ 5
  · by_cases hm : s.tl v.toNat ≠ 18446744073709551615
    · rw [if_pos ⟨h.1, h.2, hm⟩] at hd ⊢
      obtain rfl | rfl | rfl | rfl | rfl : v = 1 ∨ v = 2 ∨ v = 3 ∨ v = 4 ∨ v = 5 := by omega
      · exact (refCount_1 H (hi.tl _) hm).mono fun e w' ⟨he, hr, ho⟩ => ⟨he, ⟨⟨vr, vf, vs, hist, hr, h2⟩, hd, h3⟩, ho⟩
      · exact (refCount_2 H (hi.tl _) hm).mono fun e w' ⟨he, hr, ho⟩ => ⟨he, ⟨⟨vr, vf, vs, hist, hr, h2⟩, hd, h3⟩, ho⟩
      · exact (refCount_3 H (hi.tl _) hm).mono fun e w' ⟨he, hr, ho⟩ => ⟨he, ⟨⟨vr, vf, vs, hist, hr, h2⟩, hd, h3⟩, ho⟩
      · exact (refCount_4 H (hi.tl _) hm).mono fun e w' ⟨he, hr, ho⟩ => ⟨he, ⟨⟨vr, vf, vs, hist, hr, h2⟩, hd, h3⟩, ho⟩
      · exact (refCount_5 H (hi.tl _) hm).mono fun e w' ⟨he, hr, ho⟩ => ⟨he, ⟨⟨vr, vf, vs, hist, hr, h2⟩, hd, h3⟩, ho⟩
    · rw [if_neg (fun e => hm e.2.2)] at hd ⊢
      have hm : s.tl v.toNat = 18446744073709551615 := Decidable.not_not.1 hm
      have c22 := H.at_ 22 (.int .u64 (s.tl 1)) rfl
      have c23 := H.at_ 23 (.int .u64 (s.tl 2)) rfl
      have c24 := H.at_ 24 (.int .u64 (s.tl 3)) rfl
      have c25 := H.at_ 25 (.int .u64 (s.tl 4)) rfl
      have c26 := H.at_ 26 (.int .u64 (s.tl 5)) rfl
      have HH := Lib.hid H
      have HI := Lib.hid hi
      have H2 := Lib.hid h2
      have H3 := Lib.hid h3
      obtain rfl | rfl | rfl | rfl | rfl : v = 1 ∨ v = 2 ∨ v = 3 ∨ v = 4 ∨ v = 5 := by omega
      all_goals
        first | (have hm1 : s.tl 1 = 18446744073709551615 := hm; rw [hm1] at c22) | (have hm1 : s.tl 2 = 18446744073709551615 := hm; rw [hm1] at c23) | (have hm1 : s.tl 3 = 18446744073709551615 := hm; rw [hm1] at c24) | (have hm1 : s.tl 4 = 18446744073709551615 := hm; rw [hm1] at c25) | (have hm1 : s.tl 5 = 18446744073709551615 := hm; rw [hm1] at c26)
        clear H hi h hd hm h2 h3 hv
        go_enter Tryz.func30, Tryz.ntmps30
        go_wp2_with fail
        go_end0
        exact ⟨rfl, ⟨⟨vr, vf, vs, hist, HH.out, H2.out⟩, HI.out, H3.out⟩, Only.refl _ _⟩
  · rw [if_neg (fun e => h ⟨e.1, e.2.1⟩)] at hd ⊢
    have HH := Lib.hid H
    have HI := Lib.hid hi
    have H2 := Lib.hid h2
    have H3 := Lib.hid h3
    have hc : v < 1 ∨ (¬ v < 1 ∧ 5 < v) := by omega
    clear H hi h hd h2 h3
    rcases hc with hc | ⟨hc, hc2⟩
    · go_enter Tryz.func30, Tryz.ntmps30
      go_wp2_with fail
      go_end0
      exact ⟨rfl, ⟨⟨vr, vf, vs, hist, HH.out, H2.out⟩, HI.out, H3.out⟩, Only.refl _ _⟩
    · go_enter Tryz.func30, Tryz.ntmps30
      go_wp2_with fail
      go_end0
      exact ⟨rfl, ⟨⟨vr, vf, vs, hist, HH.out, H2.out⟩, HI.out, H3.out⟩, Only.refl _ _⟩
end Au
end Go.Proofs.YtgcnhbjoalemlaaGreatDoor
