/- Layer 6: the contract of the reference's Parse. -/
import Derived.Test.YtjbdjplliieelaaDoorUdpB
set_option linter.unusedVariables false
set_option linter.unusedSimpArgs false
namespace Go.Proofs.YtjbdjplliieelaaDoor
open Go.ChangeShapes Go.WideShapes Go.ChangeAt Go.RowKit Go.Mtl
namespace Ud
open TcpM (psB psN psN_le)
open UdpM (totU totU_le errU errU_le datB dat ckU fullN two)
open SumM (add add_le)
open IpM (word word_lt twoB fourB)
open Ip (ret_int MadeO Row But u8_info own_bts own_lit)

theorem refParse_early (sr ds : Nat) (A : Option Addr) (n c : Nat) (bs : List UInt8) (B : Nat) (W : World) (hb : Bts W B A n bs) (hc : n ≤ c) (hm : c ≤ 9223372036854775807) (h : n < 8 ∨ word bs 4 < 8 ∨ n < word bs 4) :
    Calls Tryd.prog 16 #[.int .u32 (sr : Int), .int .u32 (ds : Int), .slice A n c] W fun e w' => e = .returned (badV (errU sr ds bs)) ∧ Below W.heap.size W w' := by
  have hl := hb.len
  by_cases h8 : n < 8
  · have HF : Hid (errU sr ds bs = 4) := by show _ = _; unfold errU; rw [if_pos (by omega)]
    clear hb hl h
    go_enter Tryd.func16, Tryd.ntmps16
    go_wp2_with fail
    exact bodyPost_ret (v := badV 4) (by simp [results, Tryd.results16, go_sem]) rfl ⟨by rw [HF.out], Below.refl _ _⟩
  · have HB := Lib.hid hb
    have HW4 := Lib.hid (Tc.two_int A n c bs B 4 W hb hc hm (by omega) (by omega))
    have v4 := word_lt bs 4
    have HE : Hid (errU sr ds bs = if word bs 4 < 8 then 6 else if n < word bs 4 then 4 else if word bs 6 = 0 then 0 else if totU sr ds (bs.take (word bs 4)) = 65535 then 0 else 7) := by
      show _ = _; unfold errU; rw [if_neg (by omega), hl]
    have e4 : word bs (4 : Int).toNat = word bs 4 := rfl
    rw [e4] at HW4
    clear hb hl e4
    generalize totU sr ds (bs.take (word bs 4)) = t at HE
    generalize word bs 4 = v at HW4 v4 HE h
    by_cases h5 : v < 8
    · have HF : Hid (errU sr ds bs = 6) := by show _ = _; rw [HE.out, if_pos h5]
      clear h
      go_enter Tryd.func16, Tryd.ntmps16
      go_wp2_with fail
      go_at_call 25
      refine HW4.out.mono ?_
      rintro e w1 ⟨rfl, k, rfl⟩
      go_wp2_with fail
      exact bodyPost_ret (v := badV 6) (by simp [results, Tryd.results16, go_sem]) rfl ⟨by rw [HF.out], below_drewN' (Below.refl _ _) _⟩
    · have h6 : n < v := by omega
      have HF : Hid (errU sr ds bs = 4) := by show _ = _; rw [HE.out, if_neg h5, if_pos h6]
      clear h
      go_enter Tryd.func16, Tryd.ntmps16
      go_wp2_with fail
      go_at_call 25
      refine HW4.out.mono ?_
      rintro e w1 ⟨rfl, k, rfl⟩
      go_wp2_with fail
      exact bodyPost_ret (v := badV 4) (by simp [results, Tryd.results16, go_sem]) rfl ⟨by rw [HF.out], below_drewN' (Below.refl _ _) _⟩

/-- What the region of the sum keeps. -/
def PAt (W : World) (B : Nat) (A : Option Addr) (n : Nat) (bs : List UInt8) (w : World) : Prop := Bts w B A n bs ∧ Below W.heap.size W w ∧ B ≤ w.heap.size
theorem PAt.go {W w w' : World} {B : Nat} {A : Option Addr} {n : Nat} {bs : List UInt8} (h : PAt W B A n bs w) (hb : Below w.heap.size w w') : PAt W B A n bs w' :=
  ⟨h.1.below (hb.mono h.2.2), h.2.1.trans (hb.mono h.2.1.size), Nat.le_trans h.2.2 hb.size⟩
theorem PAt.drewN {W w : World} {B : Nat} {A : Option Addr} {n : Nat} {bs : List UInt8} (h : PAt W B A n bs w) (k : Nat) : PAt W B A n bs (w.drewN k) :=
  ⟨h.1.drewN k, below_drewN' h.2.1 k, h.2.2⟩
theorem PAt.drew {W w : World} {B : Nat} {A : Option Addr} {n : Nat} {bs : List UInt8} (h : PAt W B A n bs w) : PAt W B A n bs w.drew := ⟨h.1.drew, below_drewN' h.2.1 1, h.2.2⟩
theorem PAt.some {W w w' : World} {B : Nat} {A : Option Addr} {n : Nat} {bs : List UInt8} (h : PAt W B A n bs w) (hw : ∃ k, w' = w.drewN k) : PAt W B A n bs w' := by
  obtain ⟨k, rfl⟩ := hw
  exact h.drewN k

set_option maxHeartbeats 4000000 in
theorem refParse_late (sr ds : Nat) (A : Option Addr) (n c : Nat) (bs : List UInt8) (B : Nat) (W : World) (hb : Bts W B A n bs) (hB : B ≤ W.heap.size) (hc : n ≤ c) (hm : c ≤ 9223372036854775807) (hn : n ≤ 1000000) (hsr : sr < 4294967296) (hds : ds < 4294967296) (h8 : ¬ n < 8) (h5 : ¬ word bs 4 < 8) (h6 : ¬ n < word bs 4) :
    Calls Tryd.prog 16 #[.int .u32 (sr : Int), .int .u32 (ds : Int), .slice A n c] W fun e w' => e = .returned (pV (errU sr ds bs) bs) ∧ Below W.heap.size W w' := by
  have HB := Lib.hid (show PAt W B A n bs W from ⟨hb, Below.refl _ _, hB⟩)
  have hl := hb.len
  obtain ⟨b, off, rfl, hlt, -⟩ := hb.at_ (by omega)
  have HW4 := Lib.hid (fun W (hb : Bts W B (some ⟨b, off, none⟩) n bs) => Tc.two_int (some ⟨b, off, none⟩) n c bs B 4 W hb hc hm (by omega) (by omega))
  have HW6 := Lib.hid (fun W (hb : Bts W B (some ⟨b, off, none⟩) n bs) => Tc.two_int (some ⟨b, off, none⟩) n c bs B 6 W hb hc hm (by omega) (by omega))
  have HW0 := Lib.hid (fun W (hb : Bts W B (some ⟨b, off, none⟩) n bs) => Tc.two_int (some ⟨b, off, none⟩) n c bs B 0 W hb hc hm (by omega) (by omega))
  have HW2 := Lib.hid (fun W (hb : Bts W B (some ⟨b, off, none⟩) n bs) => Tc.two_int (some ⟨b, off, none⟩) n c bs B 2 W hb hc hm (by omega) (by omega))
  have v4 := word_lt bs 4
  have v6 := word_lt bs 6
  have w0 := word_lt bs 0
  have w2 := word_lt bs 2
  have HE : Hid (errU sr ds bs = if word bs 6 = 0 then 0 else if totU sr ds (bs.take (word bs 4)) = 65535 then 0 else 7) := by
    show _ = _; unfold errU; rw [if_neg (by omega), hl, if_neg h5, if_neg h6]
  have hps := psN_le 17 sr ds (word bs 4)
  have HS : Hid (∀ W, Calls Tryd.prog 28 #[.int .u8 17, .int .u32 (sr : Int), .int .u32 (ds : Int), .int .i64 (word bs 4 : Int)] W fun e w' => e = .returned (.int .i64 (psN 17 sr ds (word bs 4) : Int)) ∧ Below W.heap.size W w') :=
    fun W => Tc.refPseudo_any 17 sr ds (word bs 4 : Int) (word bs 4) (by omega) hsr hds (by omega) (Tc.len_wrap _ (by omega)) W
  have HT : Hid (∀ W, Bts W B (some ⟨b, off, none⟩) n bs → Calls Tryd.prog 26 #[.int .i64 (psN 17 sr ds (word bs 4) : Int), .slice (some ⟨b, off, none⟩) (word bs 4) c] W fun e w' => e = .returned (.int .i64 (totU sr ds (bs.take (word bs 4)) : Int)) ∧ W = w') := by
    intro W hb
    have h := Sm.refAdd_any (psN 17 sr ds (word bs 4)) (some ⟨b, off, none⟩) (word bs 4) c (bs.take (word bs 4)) W B (hb.front _ (by omega)) hps (by omega) (by omega) hm
    have e : add (psN 17 sr ds (word bs 4)) (bs.take (word bs 4)) = totU sr ds (bs.take (word bs 4)) := by
      unfold totU; rw [List.length_take, Nat.min_eq_left (by omega)]
    rw [e] at h
    exact h
  have htl := totU_le sr ds (bs.take (word bs 4))
  have e4 : word bs (4 : Int).toNat = word bs 4 := rfl
  have e6 : word bs (6 : Int).toNat = word bs 6 := rfl
  have e0 : word bs (0 : Int).toNat = word bs 0 := rfl
  have e2 : word bs (2 : Int).toNat = word bs 2 := rfl
  rw [e4] at HW4
  rw [e6] at HW6
  rw [e0] at HW0
  rw [e2] at HW2
  clear hb hl e4 e6 e0 e2
  generalize totU sr ds (bs.take (word bs 4)) = t at HE HT htl
  generalize psN 17 sr ds (word bs 4) = q at HS HT hps
  generalize word bs 4 = v at HW4 v4 HT HS h5 h6
  generalize word bs 6 = u at HW6 v6 HE
  have hvc : v ≤ c := by omega
  by_cases h7 : u = 0
  · have HF : Hid (errU sr ds bs = 0) := by show _ = _; rw [HE.out, if_pos h7]
    have d6 : ((u : Int) != 0) = false := by simp; omega
    clear h7 HE
    go_enter Tryd.func16, Tryd.ntmps16
    go_wp2_with fail
    go_at_call 25
    refine (HW4.out _ HB.out.1).mono ?_
    rintro e w1 ⟨rfl, k, rfl⟩
    go_wp2_with fail
    -- region: no checksum, by mkUdpC.py
    refine wp_region_held_drew (S := (fun w' => Hid (PAt W B (some ⟨b, off, none⟩) n bs w'))) (by kernel_rfl) (Lib.hid (HB.out.drewN k).drew) (fun hH => ?_)
    refine wpAnyH_take (i := 0) (oi := ⟨some 21, _, _, _, _, _⟩) (v := ?v12) rfl (by kernel_rfl) (by kernel_rfl) (by kernel_rfl) (fun _ _ _ h => h) (Or.inl ⟨rfl, ?c12⟩) hH ?r12
    case c12 => (intro w' _; go_simp; (try with_reducible rfl))
    try simp only [Act.put, List.setIfInBounds_toArray, List.set_cons_zero, List.set_cons_succ]
    refine wpAnyH_ready (rs := [1]) (by kernel_rfl) (by simp) (AllReadyH.cons rfl (fun K hK => ?_) (AllReadyH.nil))
    go_simp
    go_at_call 25
    refine (HW6.out _ hH.out.1).mono ?_
    rintro e w3 ⟨rfl, hw3⟩
    refine hK.out _ _ (Lib.hid (hH.out.some hw3)) (fun hH => ?_)
    clear hK K
    clear hw3
    try simp only [Act.put, List.setIfInBounds_toArray, List.set_cons_zero, List.set_cons_succ]
    refine wpAnyH_take (i := 2) (oi := ⟨some 23, _, _, _, _, _⟩) (v := ?v13) rfl (by kernel_rfl) (by kernel_rfl) (by kernel_rfl) (fun _ _ _ h => h) (Or.inl ⟨rfl, ?c13⟩) hH ?r13
    case c13 => (intro w' _; go_simp; (try with_reducible rfl))
    try simp only [Act.put, List.setIfInBounds_toArray, List.set_cons_zero, List.set_cons_succ]
    refine wpAnyH_take (i := 3) (oi := ⟨some 24, _, _, _, _, _⟩) (v := ?v14) rfl (by kernel_rfl) (by kernel_rfl) (by kernel_rfl) (fun _ _ _ h => h) (Or.inl ⟨rfl, ?c14⟩) hH ?r14
    case c14 => (intro w' _; go_simp; (try with_reducible rfl))
    try simp only [Act.put, List.setIfInBounds_toArray, List.set_cons_zero, List.set_cons_succ]
    refine wpAnyH_take (i := 4) (oi := ⟨some 25, _, _, _, _, _⟩) (v := undef) rfl (by kernel_rfl) (by kernel_rfl) (by kernel_rfl) (fun _ _ _ h => h) (Or.inr ⟨rfl, rfl⟩) hH ?_
    try simp only [Act.put, List.setIfInBounds_toArray, List.set_cons_zero, List.set_cons_succ]
    refine wpAnyH_take (i := 5) (oi := ⟨some 26, _, _, _, _, _⟩) (v := undef) rfl (by kernel_rfl) (by kernel_rfl) (by kernel_rfl) (fun _ _ _ h => h) (Or.inr ⟨rfl, rfl⟩) hH ?_
    try simp only [Act.put, List.setIfInBounds_toArray, List.set_cons_zero, List.set_cons_succ]
    refine wpAnyH_take (i := 6) (oi := ⟨some 27, _, _, _, _, _⟩) (v := undef) rfl (by kernel_rfl) (by kernel_rfl) (by kernel_rfl) (fun _ _ _ h => h) (Or.inr ⟨rfl, rfl⟩) hH ?_
    try simp only [Act.put, List.setIfInBounds_toArray, List.set_cons_zero, List.set_cons_succ]
    refine wpAnyH_take (i := 7) (oi := ⟨some 28, _, _, _, _, _⟩) (v := undef) rfl (by kernel_rfl) (by kernel_rfl) (by kernel_rfl) (fun _ _ _ h => h) (Or.inr ⟨rfl, rfl⟩) hH ?_
    try simp only [Act.put, List.setIfInBounds_toArray, List.set_cons_zero, List.set_cons_succ]
    refine wpAnyH_take (i := 8) (oi := ⟨some 29, _, _, _, _, _⟩) (v := undef) rfl (by kernel_rfl) (by kernel_rfl) (by kernel_rfl) (fun _ _ _ h => h) (Or.inr ⟨rfl, rfl⟩) hH ?_
    try simp only [Act.put, List.setIfInBounds_toArray, List.set_cons_zero, List.set_cons_succ]
    refine wpAnyH_take (i := 9) (oi := ⟨some 30, _, _, _, _, _⟩) (v := undef) rfl (by kernel_rfl) (by kernel_rfl) (by kernel_rfl) (fun _ _ _ h => h) (Or.inr ⟨rfl, rfl⟩) hH ?_
    try simp only [Act.put, List.setIfInBounds_toArray, List.set_cons_zero, List.set_cons_succ]
    refine wpAnyH_take (i := 10) (oi := ⟨some 31, _, _, _, _, _⟩) (v := undef) rfl (by kernel_rfl) (by kernel_rfl) (by kernel_rfl) (fun _ _ _ h => h) (Or.inr ⟨rfl, rfl⟩) hH ?_
    try simp only [Act.put, List.setIfInBounds_toArray, List.set_cons_zero, List.set_cons_succ]
    refine wpAnyH_take (i := 11) (oi := ⟨some 32, _, _, _, _, _⟩) (v := undef) rfl (by kernel_rfl) (by kernel_rfl) (by kernel_rfl) (fun _ _ _ h => h) (Or.inr ⟨rfl, rfl⟩) hH ?_
    try simp only [Act.put, List.setIfInBounds_toArray, List.set_cons_zero, List.set_cons_succ]
    refine wpAnyH_take (i := 12) (oi := ⟨some 33, _, _, _, _, _⟩) (v := undef) rfl (by kernel_rfl) (by kernel_rfl) (by kernel_rfl) (fun _ _ _ h => h) (Or.inr ⟨rfl, rfl⟩) hH ?_
    try simp only [Act.put, List.setIfInBounds_toArray, List.set_cons_zero, List.set_cons_succ]
    refine wpAnyH_take (i := 13) (oi := ⟨some 34, _, _, _, _, _⟩) (v := ?v24) rfl (by kernel_rfl) (by kernel_rfl) (by kernel_rfl) (fun _ _ _ h => h) (Or.inl ⟨rfl, ?c24⟩) hH ?r24
    case c24 => (intro w' _; go_simp; (try with_reducible rfl))
    try simp only [Act.put, List.setIfInBounds_toArray, List.set_cons_zero, List.set_cons_succ]
    refine wpAnyH_done (by kernel_rfl) ?_ _
    go_wp2_with fail
    go_at_call 25
    refine (HW0.out _ hH.out.1).mono ?_
    rintro e w1 ⟨rfl, k2, rfl⟩
    go_wp2_with fail
    go_at_call 25
    refine (HW2.out _ (hH.out.1.drewN _)).mono ?_
    rintro e w1 ⟨rfl, k3, rfl⟩
    go_wp2_with fail
    exact bodyPost_ret (v := okV bs) (by simp [results, Tryd.results16, go_sem]) rfl ⟨by rw [pV_ok bs HF.out], below_drewN' hH.out.2.1 _⟩
    -- end of region, no checksum
  · have d6 : ((u : Int) != 0) = true := by simp; omega
    have HE2 : Hid (errU sr ds bs = if t = 65535 then 0 else 7) := by show _ = _; rw [HE.out, if_neg h7]
    clear HE h7
    go_enter Tryd.func16, Tryd.ntmps16
    go_wp2_with fail
    go_at_call 25
    refine (HW4.out _ HB.out.1).mono ?_
    rintro e w1 ⟨rfl, k, rfl⟩
    go_wp2_with fail
    -- region: by mkUdpC.py
    refine wp_region_held_drew (S := (fun w' => Hid (PAt W B (some ⟨b, off, none⟩) n bs w'))) (by kernel_rfl) (Lib.hid (HB.out.drewN k).drew) (fun hH => ?_)
    refine wpAnyH_take (i := 0) (oi := ⟨some 21, _, _, _, _, _⟩) (v := ?v1) rfl (by kernel_rfl) (by kernel_rfl) (by kernel_rfl) (fun _ _ _ h => h) (Or.inl ⟨rfl, ?c1⟩) hH ?r1
    case c1 => (intro w' _; go_simp; (try with_reducible rfl))
    try simp only [Act.put, List.setIfInBounds_toArray, List.set_cons_zero, List.set_cons_succ]
    refine wpAnyH_ready (rs := [1]) (by kernel_rfl) (by simp) (AllReadyH.cons rfl (fun K hK => ?_) (AllReadyH.nil))
    go_simp
    go_at_call 25
    refine (HW6.out _ hH.out.1).mono ?_
    rintro e w3 ⟨rfl, hw3⟩
    refine hK.out _ _ (Lib.hid (hH.out.some hw3)) (fun hH => ?_)
    clear hK K
    clear hw3
    try simp only [Act.put, List.setIfInBounds_toArray, List.set_cons_zero, List.set_cons_succ]
    refine wpAnyH_take (i := 2) (oi := ⟨some 23, _, _, _, _, _⟩) (v := ?v2) rfl (by kernel_rfl) (by kernel_rfl) (by kernel_rfl) (fun _ _ _ h => h) (Or.inl ⟨rfl, ?c2⟩) hH ?r2
    case c2 => (intro w' _; go_simp; (try with_reducible rfl))
    try simp only [Act.put, List.setIfInBounds_toArray, List.set_cons_zero, List.set_cons_succ]
    refine wpAnyH_take (i := 3) (oi := ⟨some 24, _, _, _, _, _⟩) (v := ?v3) rfl (by kernel_rfl) (by kernel_rfl) (by kernel_rfl) (fun _ _ _ h => h) (Or.inl ⟨rfl, ?c3⟩) hH ?r3
    case c3 => (intro w' _; go_simp; (try with_reducible rfl))
    try simp only [Act.put, List.setIfInBounds_toArray, List.set_cons_zero, List.set_cons_succ]
    refine wpAnyH_take (i := 4) (oi := ⟨some 25, _, _, _, _, _⟩) (v := ?v4) rfl (by kernel_rfl) (by kernel_rfl) (by kernel_rfl) (fun _ _ _ h => h) (Or.inl ⟨rfl, ?c4⟩) hH ?r4
    case c4 => (intro w' _; go_simp; (try with_reducible rfl))
    try simp only [Act.put, List.setIfInBounds_toArray, List.set_cons_zero, List.set_cons_succ]
    refine wpAnyH_take (i := 5) (oi := ⟨some 26, _, _, _, _, _⟩) (v := ?v5) rfl (by kernel_rfl) (by kernel_rfl) (by kernel_rfl) (fun _ _ _ h => h) (Or.inl ⟨rfl, ?c5⟩) hH ?r5
    case c5 => (intro w' _; go_simp; (try with_reducible rfl))
    try simp only [Act.put, List.setIfInBounds_toArray, List.set_cons_zero, List.set_cons_succ]
    refine wpAnyH_take (i := 6) (oi := ⟨some 27, _, _, _, _, _⟩) (v := ?v6) rfl (by kernel_rfl) (by kernel_rfl) (by kernel_rfl) (fun _ _ _ h => h) (Or.inl ⟨rfl, ?c6⟩) hH ?r6
    case c6 => (intro w' _; go_simp; (try with_reducible rfl))
    try simp only [Act.put, List.setIfInBounds_toArray, List.set_cons_zero, List.set_cons_succ]
    refine wpAnyH_take (i := 8) (oi := ⟨some 29, _, _, _, _, _⟩) (v := ?v7) rfl (by kernel_rfl) (by kernel_rfl) (by kernel_rfl) (fun _ _ _ h => h) (Or.inl ⟨rfl, ?c7⟩) hH ?r7
    case c7 => (intro w' _; go_simp; (try with_reducible rfl))
    try simp only [Act.put, List.setIfInBounds_toArray, List.set_cons_zero, List.set_cons_succ]
    refine wpAnyH_take (i := 9) (oi := ⟨some 30, _, _, _, _, _⟩) (v := ?v8) rfl (by kernel_rfl) (by kernel_rfl) (by kernel_rfl) (fun _ _ _ h => h) (Or.inl ⟨rfl, ?c8⟩) hH ?r8
    case c8 => (intro w' _; go_simp; (try with_reducible rfl))
    try simp only [Act.put, List.setIfInBounds_toArray, List.set_cons_zero, List.set_cons_succ]
    refine wpAnyH_take (i := 10) (oi := ⟨some 31, _, _, _, _, _⟩) (v := ?v9) rfl (by kernel_rfl) (by kernel_rfl) (by kernel_rfl) (fun _ _ _ h => h) (Or.inl ⟨rfl, ?c9⟩) hH ?r9
    case c9 => (intro w' _; go_simp; (try with_reducible rfl))
    try simp only [Act.put, List.setIfInBounds_toArray, List.set_cons_zero, List.set_cons_succ]
    refine wpAnyH_ready (rs := [7]) (by kernel_rfl) (by simp) (AllReadyH.cons rfl (fun K hK => ?_) (AllReadyH.nil))
    go_simp
    go_at_call 28
    refine (HS.out _).mono ?_
    rintro e w4 ⟨rfl, hbp⟩
    refine hK.out _ _ (Lib.hid (hH.out.go hbp)) (fun hH => ?_)
    clear hK K
    clear hbp
    try simp only [Act.put, List.setIfInBounds_toArray, List.set_cons_zero, List.set_cons_succ]
    refine wpAnyH_ready (rs := [11]) (by kernel_rfl) (by simp) (AllReadyH.cons rfl (fun K hK => ?_) (AllReadyH.nil))
    go_simp
    go_at_call 26
    refine (HT.out _ hH.out.1).mono ?_
    rintro e w5 ⟨rfl, rfl⟩
    refine hK.out _ _ (hH) (fun hH => ?_)
    clear hK K
    try simp only [Act.put, List.setIfInBounds_toArray, List.set_cons_zero, List.set_cons_succ]
    refine wpAnyH_take (i := 12) (oi := ⟨some 33, _, _, _, _, _⟩) (v := ?v10) rfl (by kernel_rfl) (by kernel_rfl) (by kernel_rfl) (fun _ _ _ h => h) (Or.inl ⟨rfl, ?c10⟩) hH ?r10
    case c10 => (intro w' _; go_simp; (try with_reducible rfl))
    try simp only [Act.put, List.setIfInBounds_toArray, List.set_cons_zero, List.set_cons_succ]
    refine wpAnyH_take (i := 13) (oi := ⟨some 34, _, _, _, _, _⟩) (v := ?v11) rfl (by kernel_rfl) (by kernel_rfl) (by kernel_rfl) (fun _ _ _ h => h) (Or.inl ⟨rfl, ?c11⟩) hH ?r11
    case c11 => (intro w' _; go_simp; (try with_reducible rfl))
    try simp only [Act.put, List.setIfInBounds_toArray, List.set_cons_zero, List.set_cons_succ]
    refine wpAnyH_done (by kernel_rfl) ?_ _
    by_cases h9 : t = 65535
    · have d7 : ((t : Int) != 65535) = false := by simp; omega
      have HF : Hid (errU sr ds bs = 0) := by show _ = _; rw [HE2.out, if_pos h9]
      clear h9 HE2
      go_wp2_with fail
      go_at_call 25
      refine (HW0.out _ hH.out.1).mono ?_
      rintro e w1 ⟨rfl, k2, rfl⟩
      go_wp2_with fail
      go_at_call 25
      refine (HW2.out _ (hH.out.1.drewN _)).mono ?_
      rintro e w1 ⟨rfl, k3, rfl⟩
      go_wp2_with fail
      exact bodyPost_ret (v := okV bs) (by simp [results, Tryd.results16, go_sem]) rfl ⟨by rw [pV_ok bs HF.out], below_drewN' hH.out.2.1 _⟩
    · have d7 : ((t : Int) != 65535) = true := by simp; omega
      have HF : Hid (errU sr ds bs = 7) := by show _ = _; rw [HE2.out, if_neg h9]
      clear h9 HE2
      go_wp2_with fail
      exact bodyPost_ret (v := badV 7) (by simp [results, Tryd.results16, go_sem]) rfl ⟨by rw [pV_bad bs (by rw [HF.out]; omega), HF.out], hH.out.2.1⟩
    -- end of region

theorem refParse_any (sr ds : Nat) (A : Option Addr) (n c : Nat) (bs : List UInt8) (B : Nat) (W : World) (hb : Bts W B A n bs) (hB : B ≤ W.heap.size) (hc : n ≤ c) (hm : c ≤ 9223372036854775807) (hn : n ≤ 1000000) (hsr : sr < 4294967296) (hds : ds < 4294967296) :
    Calls Tryd.prog 16 #[.int .u32 (sr : Int), .int .u32 (ds : Int), .slice A n c] W fun e w' => e = .returned (pV (errU sr ds bs) bs) ∧ Below W.heap.size W w' := by
  by_cases h : n < 8 ∨ word bs 4 < 8 ∨ n < word bs 4
  · rw [pV_bad bs (by have hl := hb.len; unfold errU; rcases h with h | h | h <;> ((repeat' split) <;> omega))]
    exact refParse_early sr ds A n c bs B W hb hc hm h
  · exact refParse_late sr ds A n c bs B W hb hB hc hm hn hsr hds (by omega) (by omega) (by omega)

end Ud
end Go.Proofs.YtjbdjplliieelaaDoor
