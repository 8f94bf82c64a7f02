/- Layer 9: the walk of PackBuilds. -/
import Derived.Test.YtapcjjhbdhkhhaaDoorPacP
import Derived.Test.YtapcjjhbdhkhhaaDoorPacC
set_option linter.unusedVariables false
set_option linter.unusedSimpArgs false
namespace Go.Proofs.YtapcjjhbdhkhhaaDoor
open Go.ChangeShapes Go.WideShapes Go.ChangeAt Go.RowKit Go.Mtl
namespace Pa
open PacM (goodB inner whole mx errP out)
open Wi (Pk pkt wV)
open Ip (ret_int Row)

/-- What the last region keeps: a packet's block, two texts, the table of flags. -/
structure RQ (U w' : World) (g : Nat) (a b c d e f h : Int) (A1 : Option Addr) (n1 : Nat) (l1 : List UInt8) (A2 : Option Addr) (n2 : Nat) (l2 : List UInt8) : Prop where
  pk : Pk w' g a b c d e f h
  bel : Below U.heap.size U w'
  t1 : Bts w' U.heap.size A1 n1 l1
  t2 : Bts w' U.heap.size A2 n2 l2
  env : Tc.Env w'
abbrev SQ (U w' : World) (g : Nat) (a b c d e f h : Int) (A1 : Option Addr) (n1 : Nat) (l1 : List UInt8) (A2 : Option Addr) (n2 : Nat) (l2 : List UInt8) : Prop :=
  w'.cell? ⟨g, 0, none⟩ = some (.int .u8 a) ∧ w'.cell? ⟨g, 1, none⟩ = some (.int .u32 b) ∧ w'.cell? ⟨g, 2, none⟩ = some (.int .u32 c) ∧ w'.cell? ⟨g, 3, none⟩ = some (.int .u16 d) ∧
  w'.cell? ⟨g, 4, none⟩ = some (.int .u16 e) ∧ w'.cell? ⟨g, 5, none⟩ = some (.int .u8 f) ∧ w'.cell? ⟨g, 6, none⟩ = some (.int .u8 h) ∧ Hid (RQ U w' g a b c d e f h A1 n1 l1 A2 n2 l2)
section
variable {U w' w2 : World} {g : Nat} {a b c d e f h : Int} {A1 : Option Addr} {n1 : Nat} {l1 : List UInt8} {A2 : Option Addr} {n2 : Nat} {l2 : List UInt8}
theorem RQ.next (H : RQ U w' g a b c d e f h A1 n1 l1 A2 n2 l2) (hb : Below w'.heap.size w' w2) : RQ U w2 g a b c d e f h A1 n1 l1 A2 n2 l2 :=
  ⟨H.pk.next hb, H.bel.trans (hb.mono H.bel.size), H.t1.below (hb.mono H.bel.size), H.t2.below (hb.mono H.bel.size), H.env.below hb (Nat.le_refl _)⟩
theorem RQ.drew (H : RQ U w' g a b c d e f h A1 n1 l1 A2 n2 l2) : RQ U w'.drew g a b c d e f h A1 n1 l1 A2 n2 l2 := ⟨H.pk, H.bel.drew, H.t1.drew, H.t2.drew, ⟨H.env.c0, H.env.c1, H.env.c2, H.env.c3, H.env.c4, H.env.c5⟩⟩
theorem SQ.mk (H : Hid (RQ U w' g a b c d e f h A1 n1 l1 A2 n2 l2)) : SQ U w' g a b c d e f h A1 n1 l1 A2 n2 l2 := by
  obtain ⟨h0, h1, h2, h3, h4, h5, h6⟩ := H.out.pk.cells
  exact ⟨h0, h1, h2, h3, h4, h5, h6, H⟩
theorem SQ.rq (H : SQ U w' g a b c d e f h A1 n1 l1 A2 n2 l2) : RQ U w' g a b c d e f h A1 n1 l1 A2 n2 l2 := H.2.2.2.2.2.2.2.out
end

set_option maxHeartbeats 2000000 in
theorem packBuilds_core (pr sr ds sp dp f kd : Nat) (A : Option Addr) (n c m : Nat) (bs : List UInt8) (W : World) (hmc : m ≤ c) (hm : c ≤ 9223372036854775807)
    (hpr : pr < 256) (hsr : sr < 4294967296) (hds : ds < 4294967296) (hsp : sp < 65536) (hdp : dp < 65536) (hf : f < 256) (hk : kd < 256)
    (hsh : ∀ W, Calls Tryd.prog 7 #[.slice A n c] W fun e w' => e = .returned (.slice A m c) ∧ W = w') (hb : Bts W W.heap.size A m bs) (he : Tc.Env W) :
    Calls Tryd.prog 3 #[.agg (pkt pr sr ds sp dp f kd), .slice A n c] W fun e w' => e = .returned (.bool true) ∧ Below W.heap.size W w' := by
  obtain ⟨er, her⟩ : ∃ er, errP pr sp dp f kd m = er := ⟨_, rfl⟩
  obtain ⟨l, hl⟩ : ∃ l, out pr sr ds sp dp f kd bs = l := ⟨_, rfl⟩
  obtain ⟨N, hN⟩ : ∃ N, l.length = N := ⟨_, rfl⟩
  obtain ⟨g, hg⟩ : ∃ g, goodB pr sp dp f kd = g := ⟨_, rfl⟩
  have hN1 : N ≤ 1500 := by rw [← hN, ← hl]; exact PacM.out_len _ _ _ _ _ _ _ _
  have her2 : er ≤ 2 := by rw [← her]; exact PacM.errP_le _ _ _ _ _ _
  have P1 := Lib.hid (fun W' (hb : Bts W' W.heap.size A m bs) hB he => build_any pr sr ds sp dp f kd A m c bs W.heap.size W' hb hB he hmc hm hpr hsr hds hsp hdp hf hk er N l her hl hN)
  have P2 := Lib.hid (fun W' (hb : Bts W' W.heap.size A m bs) hB => refBuild_any pr sr ds sp dp f kd A m c bs W.heap.size W' hb hB hmc hm hpr hsr hds hsp hdp hf hk er N l her hl hN)
  have G1 := Lib.hid (fun W he => good_any pr sp dp f kd sr ds hf g hg W he)
  have G2 := Lib.hid (fun W => refGood_any pr sp dp f kd sr ds hf g hg W)
  have H0 := Lib.hid hsh
  have HX := Lib.hid (Pk.box W pr sr ds sp dp f kd)
  have HE := Lib.hid (he.alloc (.cells (pkt pr sr ds sp dp f kd) 25))
  have HT := Lib.hid (hb.alloc (Nat.le_refl _) (.cells (pkt pr sr ds sp dp f kd) 25))
  have HB := Lib.hid ((Below.refl _ W).alloc (Nat.le_refl _) (.cells (pkt pr sr ds sp dp f kd) 25))
  clear hsh hb he her hl hN hg
  go_enter Tryd.func3, Tryd.ntmps3
  go_wp2_with fail
  obtain ⟨U, hU⟩ : ∃ U, W.alloc (.cells (pkt pr sr ds sp dp f kd) 25) = U := ⟨_, rfl⟩
  rw [hU] at HX HE HT HB ⊢
  clear hU
  have HS0 := Lib.hid (SP.start HX.out)
  obtain ⟨s0, s1, s2, s3, s4, s5, s6, HSh⟩ := HS0.out
  go_region_held3 (fun w' => w'.cell? ⟨W.heap.size, 0, none⟩ = some (.int .u8 pr) ∧ w'.cell? ⟨W.heap.size, 1, none⟩ = some (.int .u32 sr) ∧ w'.cell? ⟨W.heap.size, 2, none⟩ = some (.int .u32 ds) ∧ w'.cell? ⟨W.heap.size, 3, none⟩ = some (.int .u16 sp) ∧
    w'.cell? ⟨W.heap.size, 4, none⟩ = some (.int .u16 dp) ∧ w'.cell? ⟨W.heap.size, 5, none⟩ = some (.int .u8 f) ∧ w'.cell? ⟨W.heap.size, 6, none⟩ = some (.int .u8 kd) ∧ Hid (Pk w' W.heap.size pr sr ds sp dp f kd ∧ Below (U).heap.size (U) w'))
    (first | exact SP.drew HS0.out | exact SP.next (by assumption) (by assumption) | go_keep)
    (first
      | (go_at_call 7; refine (H0.out _).mono ?_; rintro e w' ⟨rfl, rfl⟩)
      | (go_at_call 6; refine (P1.out _ (HT.out.below ((SP.bel (by assumption)).mono HB.out.size)) (Nat.le_trans HB.out.size (SP.bel (by assumption)).size) (HE.out.below (SP.bel (by assumption)) (Nat.le_refl _))).mono ?_; rintro e w1 ⟨A1, c1, rfl, HT1, HC1, hb1⟩))
  have HS1 : Hid (SP U w1 W.heap.size pr sr ds sp dp f kd) := by assumption
  clear s0 s1 s2 s3 s4 s5 s6 HSh hb1
  go_wp2_with fail
  have HX1 := Lib.hid HS1.out.pk
  have HE1 := Lib.hid (HE.out.below HS1.out.bel (Nat.le_refl _))
  have HB1 := Lib.hid (HB.out.trans (HS1.out.bel.mono HB.out.size))
  have HA1 := Lib.hid (HT.out.below (HS1.out.bel.mono HB.out.size))
  clear HX HE HB HT HC1 HS0 HS1
  have HS0 := Lib.hid (SP.start HX1.out)
  obtain ⟨s0, s1, s2, s3, s4, s5, s6, HSh⟩ := HS0.out
  go_region_held3 (fun w' => w'.cell? ⟨W.heap.size, 0, none⟩ = some (.int .u8 pr) ∧ w'.cell? ⟨W.heap.size, 1, none⟩ = some (.int .u32 sr) ∧ w'.cell? ⟨W.heap.size, 2, none⟩ = some (.int .u32 ds) ∧ w'.cell? ⟨W.heap.size, 3, none⟩ = some (.int .u16 sp) ∧
    w'.cell? ⟨W.heap.size, 4, none⟩ = some (.int .u16 dp) ∧ w'.cell? ⟨W.heap.size, 5, none⟩ = some (.int .u8 f) ∧ w'.cell? ⟨W.heap.size, 6, none⟩ = some (.int .u8 kd) ∧ Hid (Pk w' W.heap.size pr sr ds sp dp f kd ∧ Below (w1).heap.size (w1) w'))
    (first | exact SP.drew HS0.out | exact SP.next (by assumption) (by assumption) | go_keep)
    (first
      | (go_at_call 7; refine (H0.out _).mono ?_; rintro e w' ⟨rfl, rfl⟩)
      | (go_at_call 8; refine (P2.out _ (HA1.out.below ((SP.bel (by assumption)).mono HB1.out.size)) (Nat.le_trans HB1.out.size (SP.bel (by assumption)).size)).mono ?_; rintro e w2 ⟨A2, c2, rfl, HT2, HC2, hb2⟩))
  have HS2 : Hid (SP w1 w2 W.heap.size pr sr ds sp dp f kd) := by assumption
  clear s0 s1 s2 s3 s4 s5 s6 HSh hb2
  have HT1 := Lib.hid (HT1.out.below HS2.out.bel)
  have hs2 := HS2.out.bel.size
  have HX2 := Lib.hid HS2.out.pk
  have HE2 := Lib.hid (HE1.out.below HS2.out.bel (Nat.le_refl _))
  have HB2 := Lib.hid (HB1.out.trans (HS2.out.bel.mono HB1.out.size))
  clear HX1 HE1 HB1 HA1 HC2 HS0 HS2
  go_wp2_with fail
  have HQ : Hid (RQ w2 w2 W.heap.size pr sr ds sp dp f kd A1 N l A2 N l) := ⟨HX2.out, Below.refl _ _, HT1.out.more hs2, HT2.out, HE2.out⟩
  clear HX2 HE2 HT1 HT2 hs2
  -- region: by mkPacQ.py
  refine wp_region_held_drew (S := (fun w' => w'.cell? ⟨W.heap.size, 0, none⟩ = some (.int .u8 pr) ∧ w'.cell? ⟨W.heap.size, 1, none⟩ = some (.int .u32 sr) ∧ w'.cell? ⟨W.heap.size, 2, none⟩ = some (.int .u32 ds) ∧ w'.cell? ⟨W.heap.size, 3, none⟩ = some (.int .u16 sp) ∧ w'.cell? ⟨W.heap.size, 4, none⟩ = some (.int .u16 dp) ∧ w'.cell? ⟨W.heap.size, 5, none⟩ = some (.int .u8 f) ∧ w'.cell? ⟨W.heap.size, 6, none⟩ = some (.int .u8 kd) ∧ Hid (RQ w2 w' W.heap.size pr sr ds sp dp f kd A1 N l A2 N l))) (by kernel_rfl) (SQ.mk (Lib.hid HQ.out.drew)) (fun hH => ?_)
  refine wpAnyH_ready (rs := [0]) (by kernel_rfl) (by simp) (AllReadyH.cons rfl (fun K hK => ?_) (AllReadyH.nil))
  go_simp
  go_at_call 9
  refine (awake_any _ (SQ.rq hH).env).mono ?_
  rintro e w5 ⟨rfl, hbp⟩
  refine hK.out _ _ (SQ.mk (Lib.hid ((SQ.rq hH).next hbp))) (fun hH => ?_)
  clear hK K
  clear hbp
  try simp only [Act.put, List.setIfInBounds_toArray, List.set_cons_zero, List.set_cons_succ]
  refine wpAnyH_take (i := 1) (oi := ⟨some 24, _, _, _, _, _⟩) (v := ?v1) rfl (by kernel_rfl) (by kernel_rfl) (by kernel_rfl) (fun _ _ _ h => h) (Or.inl ⟨rfl, ?c1⟩) hH ?r1
  case c1 => (intro w' _; go_simp; (try with_reducible rfl))
  try simp only [Act.put, List.setIfInBounds_toArray, List.set_cons_zero, List.set_cons_succ]
  refine wpAnyH_take (i := 2) (oi := ⟨some 25, _, _, _, _, _⟩) (v := ?v2) rfl (by kernel_rfl) (by kernel_rfl) (by kernel_rfl) (fun _ _ _ h => h) (Or.inl ⟨rfl, ?c2⟩) hH ?r2
  case c2 => (intro w' _; go_simp; (try with_reducible rfl))
  try simp only [Act.put, List.setIfInBounds_toArray, List.set_cons_zero, List.set_cons_succ]
  refine wpAnyH_take (i := 3) (oi := ⟨some 26, _, _, _, _, _⟩) (v := ?v3) rfl (by kernel_rfl) (by kernel_rfl) (by kernel_rfl) (fun _ _ _ h => h) (Or.inl ⟨rfl, ?c3⟩) hH ?r3
  case c3 => (intro w' hS; (have hcv := Ip.text_at (c := c1) (SQ.rq hS).t1 (Below.refl _ _)); go_simp; (try with_reducible rfl))
  try simp only [Act.put, List.setIfInBounds_toArray, List.set_cons_zero, List.set_cons_succ]
  refine wpAnyH_take (i := 4) (oi := ⟨some 27, _, _, _, _, _⟩) (v := ?v4) rfl (by kernel_rfl) (by kernel_rfl) (by kernel_rfl) (fun _ _ _ h => h) (Or.inl ⟨rfl, ?c4⟩) hH ?r4
  case c4 => (intro w' _; go_simp; (try with_reducible rfl))
  try simp only [Act.put, List.setIfInBounds_toArray, List.set_cons_zero, List.set_cons_succ]
  refine wpAnyH_take (i := 5) (oi := ⟨some 28, _, _, _, _, _⟩) (v := ?v5) rfl (by kernel_rfl) (by kernel_rfl) (by kernel_rfl) (fun _ _ _ h => h) (Or.inl ⟨rfl, ?c5⟩) hH ?r5
  case c5 => (intro w' hS; (have hcv := Ip.text_at (c := c2) (SQ.rq hS).t2 (Below.refl _ _)); go_simp; (try with_reducible rfl))
  try simp only [Act.put, List.setIfInBounds_toArray, List.set_cons_zero, List.set_cons_succ]
  refine wpAnyH_take (i := 6) (oi := ⟨some 29, _, _, _, _, _⟩) (v := ?v6) rfl (by kernel_rfl) (by kernel_rfl) (by kernel_rfl) (fun _ _ _ h => h) (Or.inl ⟨rfl, ?c6⟩) hH ?r6
  case c6 => (intro w' _; go_simp; (try with_reducible rfl))
  try simp only [Act.put, List.setIfInBounds_toArray, List.set_cons_zero, List.set_cons_succ]
  refine wpAnyH_take (i := 7) (oi := ⟨some 30, _, _, _, _, _⟩) (v := ?v7) rfl (by kernel_rfl) (by kernel_rfl) (by kernel_rfl) (fun _ _ _ h => h) (Or.inl ⟨rfl, ?c7⟩) hH ?r7
  case c7 => (intro w' _; go_simp; (try with_reducible rfl))
  try simp only [Act.put, List.setIfInBounds_toArray, List.set_cons_zero, List.set_cons_succ]
  refine wpAnyH_take (i := 8) (oi := ⟨some 31, _, _, _, _, _⟩) (v := ?v8) rfl (by kernel_rfl) (by kernel_rfl) (by kernel_rfl) (fun _ _ _ h => h) (Or.inl ⟨rfl, ?c8⟩) hH ?r8
  case c8 => (intro w' _; go_simp; (try with_reducible rfl))
  try simp only [Act.put, List.setIfInBounds_toArray, List.set_cons_zero, List.set_cons_succ]
  refine wpAnyH_take (i := 9) (oi := ⟨some 32, _, _, _, _, _⟩) (v := ?v9) rfl (by kernel_rfl) (by kernel_rfl) (by kernel_rfl) (fun _ _ _ h => h) (Or.inl ⟨rfl, ?c9⟩) hH ?r9
  case c9 => (intro w' _; go_simp; (try with_reducible rfl))
  try simp only [Act.put, List.setIfInBounds_toArray, List.set_cons_zero, List.set_cons_succ]
  refine wpAnyH_take (i := 10) (oi := ⟨some 33, _, _, _, _, _⟩) (v := ?v10) rfl (by kernel_rfl) (by kernel_rfl) (by kernel_rfl) (fun _ _ _ h => h) (Or.inl ⟨rfl, ?c10⟩) hH ?r10
  case c10 => (intro w' _; go_simp; (try with_reducible rfl))
  try simp only [Act.put, List.setIfInBounds_toArray, List.set_cons_zero, List.set_cons_succ]
  refine wpAnyH_take (i := 11) (oi := ⟨some 34, _, _, _, _, _⟩) (v := ?v11) rfl (by kernel_rfl) (by kernel_rfl) (by kernel_rfl) (fun _ _ _ h => h) (Or.inl ⟨rfl, ?c11⟩) hH ?r11
  case c11 => (intro w' _; go_simp; (try with_reducible rfl))
  try simp only [Act.put, List.setIfInBounds_toArray, List.set_cons_zero, List.set_cons_succ]
  refine wpAnyH_take (i := 12) (oi := ⟨some 35, _, _, _, _, _⟩) (v := ?v12) rfl (by kernel_rfl) (by kernel_rfl) (by kernel_rfl) (fun _ _ _ h => h) (Or.inl ⟨rfl, ?c12⟩) hH ?r12
  case c12 => (intro w' _; go_simp; (try with_reducible rfl))
  try simp only [Act.put, List.setIfInBounds_toArray, List.set_cons_zero, List.set_cons_succ]
  refine wpAnyH_take (i := 13) (oi := ⟨some 36, _, _, _, _, _⟩) (v := ?v13) rfl (by kernel_rfl) (by kernel_rfl) (by kernel_rfl) (fun _ _ _ h => h) (Or.inl ⟨rfl, ?c13⟩) hH ?r13
  case c13 => (intro w' _; go_simp; (try with_reducible rfl))
  try simp only [Act.put, List.setIfInBounds_toArray, List.set_cons_zero, List.set_cons_succ]
  refine wpAnyH_take (i := 14) (oi := ⟨some 37, _, _, _, _, _⟩) (v := ?v14) rfl (by kernel_rfl) (by kernel_rfl) (by kernel_rfl) (fun _ _ _ h => h) (Or.inl ⟨rfl, ?c14⟩) hH ?r14
  case c14 => (intro w' hS; (obtain ⟨s0, s1, s2, s3, s4, s5, s6, -⟩ := hS); go_simp; (try with_reducible rfl))
  try simp only [Act.put, List.setIfInBounds_toArray, List.set_cons_zero, List.set_cons_succ]
  refine wpAnyH_take (i := 16) (oi := ⟨some 39, _, _, _, _, _⟩) (v := ?v15) rfl (by kernel_rfl) (by kernel_rfl) (by kernel_rfl) (fun _ _ _ h => h) (Or.inl ⟨rfl, ?c15⟩) hH ?r15
  case c15 => (intro w' hS; (obtain ⟨s0, s1, s2, s3, s4, s5, s6, -⟩ := hS); go_simp; (try with_reducible rfl))
  try simp only [Act.put, List.setIfInBounds_toArray, List.set_cons_zero, List.set_cons_succ]
  refine wpAnyH_ready (rs := [15]) (by kernel_rfl) (by simp) (AllReadyH.cons rfl (fun K hK => ?_) (AllReadyH.nil))
  go_simp
  go_at_call 10
  refine (G1.out _ (SQ.rq hH).env).mono ?_
  rintro e w6 ⟨rfl, hbp⟩
  refine hK.out _ _ (SQ.mk (Lib.hid ((SQ.rq hH).next hbp))) (fun hH => ?_)
  clear hK K
  clear hbp
  try simp only [Act.put, List.setIfInBounds_toArray, List.set_cons_zero, List.set_cons_succ]
  refine wpAnyH_ready (rs := [17]) (by kernel_rfl) (by simp) (AllReadyH.cons rfl (fun K hK => ?_) (AllReadyH.nil))
  go_simp
  go_at_call 11
  refine (G2.out _).mono ?_
  rintro e w7 ⟨rfl, hbp⟩
  refine hK.out _ _ (SQ.mk (Lib.hid ((SQ.rq hH).next hbp))) (fun hH => ?_)
  clear hK K
  clear hbp
  try simp only [Act.put, List.setIfInBounds_toArray, List.set_cons_zero, List.set_cons_succ]
  refine wpAnyH_take (i := 18) (oi := ⟨some 41, _, _, _, _, _⟩) (v := ?v16) rfl (by kernel_rfl) (by kernel_rfl) (by kernel_rfl) (fun _ _ _ h => h) (Or.inl ⟨rfl, ?c16⟩) hH ?r16
  case c16 => (intro w' _; go_simp; (try with_reducible rfl))
  try simp only [Act.put, List.setIfInBounds_toArray, List.set_cons_zero, List.set_cons_succ]
  refine wpAnyH_take (i := 19) (oi := ⟨some 42, _, _, _, _, _⟩) (v := ?v17) rfl (by kernel_rfl) (by kernel_rfl) (by kernel_rfl) (fun _ _ _ h => h) (Or.inl ⟨rfl, ?c17⟩) hH ?r17
  case c17 => (intro w' _; go_simp; (try with_reducible rfl))
  try simp only [Act.put, List.setIfInBounds_toArray, List.set_cons_zero, List.set_cons_succ]
  refine wpAnyH_take (i := 20) (oi := ⟨some 4, _, _, _, _, _⟩) (v := ?v18) rfl (by kernel_rfl) (by kernel_rfl) (by kernel_rfl) (fun _ _ _ h => h) (Or.inl ⟨rfl, ?c18⟩) hH ?r18
  case c18 => (intro w' _; go_simp; (try with_reducible rfl))
  try simp only [Act.put, List.setIfInBounds_toArray, List.set_cons_zero, List.set_cons_succ]
  refine wpAnyH_done (by kernel_rfl) ?_ _
  go_wp2_with fail
  go_ret
  exact ⟨rfl, HB2.out.trans ((SQ.rq hH).bel.mono HB2.out.size)⟩
  -- end of region

theorem packBuilds_walk (p0 p1 p2 p3 p4 p5 p6 : Int) (a1 : Option Addr) (n1 c1 : Nat) (b1 : List UInt8) (w : World) (he : Tc.Env w)
    (hp : (0 ≤ p0 ∧ p0 ≤ 255) ∧ (0 ≤ p1 ∧ p1 ≤ 4294967295) ∧ (0 ≤ p2 ∧ p2 ≤ 4294967295) ∧ (0 ≤ p3 ∧ p3 ≤ 65535) ∧ (0 ≤ p4 ∧ p4 ≤ 65535) ∧ (0 ≤ p5 ∧ p5 ≤ 255) ∧ (0 ≤ p6 ∧ p6 ≤ 255))
    (w1 : Bts w w.heap.size a1 n1 b1) (hc1 : n1 ≤ c1) (hm1 : c1 ≤ maxLen) :
    Calls Tryd.prog 3 #[.agg (pkt p0 p1 p2 p3 p4 p5 p6), .slice a1 n1 c1] w fun e w' => e = .returned (.bool true) ∧ Below w.heap.size w w' := by
  unfold maxLen at hm1
  obtain ⟨h0, h1, h2, h3, h4, h5, h6⟩ := hp
  obtain ⟨pr, rfl⟩ := Int.eq_ofNat_of_zero_le h0.1
  obtain ⟨sr, rfl⟩ := Int.eq_ofNat_of_zero_le h1.1
  obtain ⟨ds, rfl⟩ := Int.eq_ofNat_of_zero_le h2.1
  obtain ⟨sp, rfl⟩ := Int.eq_ofNat_of_zero_le h3.1
  obtain ⟨dp, rfl⟩ := Int.eq_ofNat_of_zero_le h4.1
  obtain ⟨f, rfl⟩ := Int.eq_ofNat_of_zero_le h5.1
  obtain ⟨kd, rfl⟩ := Int.eq_ofNat_of_zero_le h6.1
  exact packBuilds_core pr sr ds sp dp f kd a1 n1 c1 _ _ w (by omega) (by omega) (by omega) (by omega) (by omega) (by omega) (by omega) (by omega) (by omega) (fun W => short_any a1 n1 c1 hc1 (by omega) W) (w1.take 1600) he

end Pa
end Go.Proofs.YtapcjjhbdhkhhaaDoor
