/- Layer 4: the walk of IpBuilds. -/
import Derived.Test.YtcncnakjdfcggaaIpP
import Derived.Test.YtcncnakjdfcggaaIpE
import Derived.Deep.RegionHeld3
set_option linter.unusedVariables false
namespace Go.Proofs.Ytcncnakjdfcggaa
open Go.ChangeShapes Go.WideShapes Go.ChangeAt Go.RowKit Go.Mtl
namespace Ip
open IpM (packB)

abbrev SB (w w' : World) (pr sr ds sz ln tt id : Int) : Prop :=
  w'.cell? ⟨w.heap.size, 0, none⟩ = some (.int .u8 pr) ∧ w'.cell? ⟨w.heap.size, 1, none⟩ = some (.int .u32 sr) ∧ w'.cell? ⟨w.heap.size, 2, none⟩ = some (.int .u32 ds) ∧ w'.cell? ⟨w.heap.size, 3, none⟩ = some (.int .i64 sz) ∧
  w'.cell? ⟨w.heap.size, 4, none⟩ = some (.int .i64 ln) ∧ w'.cell? ⟨w.heap.size, 5, none⟩ = some (.int .u8 tt) ∧ w'.cell? ⟨w.heap.size, 6, none⟩ = some (.int .u16 id) ∧ Hid (Hd w' w.heap.size pr sr ds sz ln tt id ∧ Below w.heap.size w w')
section
variable {w w' w2 : World} {pr sr ds sz ln tt id : Int}
theorem SB.mk (h : Hid (Hd w' w.heap.size pr sr ds sz ln tt id ∧ Below w.heap.size w w')) : SB w w' pr sr ds sz ln tt id := by
  obtain ⟨h0, h1, h2, h3, h4, h5, h6⟩ := h.out.1.cells
  exact ⟨h0, h1, h2, h3, h4, h5, h6, h⟩
theorem SB.box (w : World) (pr sr ds sz ln tt id : Int) : SB w (w.alloc (.cells (cells7 pr sr ds sz ln tt id) 26)) pr sr ds sz ln tt id := SB.mk ⟨Hd.box w pr sr ds sz ln tt id, (Below.refl _ w).alloc (Nat.le_refl _) _⟩
theorem SB.drew (h : SB w w' pr sr ds sz ln tt id) : SB w w'.drew pr sr ds sz ln tt id := SB.mk ⟨h.2.2.2.2.2.2.2.out.1.drew, h.2.2.2.2.2.2.2.out.2.drew⟩
theorem SB.next (h : SB w w' pr sr ds sz ln tt id) (hb : Below w'.heap.size w' w2) : SB w w2 pr sr ds sz ln tt id :=
  SB.mk ⟨h.2.2.2.2.2.2.2.out.1.next hb, h.2.2.2.2.2.2.2.out.2.trans (hb.mono h.2.2.2.2.2.2.2.out.2.size)⟩
theorem SB.bel (h : SB w w' pr sr ds sz ln tt id) : Below w.heap.size w w' := h.2.2.2.2.2.2.2.out.2
end

theorem built_n {W w' : World} {id tt pr sr ds N : Nat} {x : List UInt8} {e : Ending} (hN : 20 + x.length = N) (h : Built W id tt pr sr ds x e w') :
    ∃ g, e = .returned (.tuple #[.slice (some ⟨g, 0, none⟩) N N, .int .i64 0]) ∧ Row w' g (packB id tt pr sr ds x) ∧ W.heap.size ≤ g ∧ Below W.heap.size W w' := by subst hN; exact h
theorem rbuilt_n {W w' : World} {id tt pr sr ds N : Nat} {x : List UInt8} {e : Ending} (hN : 20 + x.length = N) (h : RBuilt W id tt pr sr ds x e w') :
    ∃ A c, e = .returned (.tuple #[.slice A N c, .int .i64 0]) ∧ Bts w' w'.heap.size A N (packB id tt pr sr ds x) ∧ Below W.heap.size W w' := by
  subst hN
  obtain ⟨A, c, h1, h2, _, h3⟩ := h
  exact ⟨A, c, h1, h2, h3⟩

set_option maxHeartbeats 4000000 in
theorem ipBuilds_ok (a1 : Option Addr) (n1 c1 m : Nat) (x : List UInt8) (pr sr ds tt id : Nat) (sz ln : Int) (w : World) (hmc : m ≤ c1) (hc : c1 ≤ 9223372036854775807) (hsh : ∀ W, Calls Try.prog 8 #[.slice a1 n1 c1] W fun e w' => e = .returned (.slice a1 m c1) ∧ W = w')
    (hb : Bts w w.heap.size a1 m x) (hm : m ≤ 1480)
    (hpr : pr < 256) (hsr : sr < 4294967296) (hds : ds < 4294967296) (htt : tt < 256) (hid : id < 65536) :
    Calls Try.prog 4 #[.agg (cells7 pr sr ds sz ln tt id), .slice a1 n1 c1] w fun e w' => e = .returned (.bool true) ∧ Below w.heap.size w w' := by
  have H0 := Lib.hid hsh
  have HB := Lib.hid hb
  obtain ⟨N, hN⟩ : ∃ N, 20 + x.length = N := ⟨_, rfl⟩
  have P1 := Lib.hid (fun W (hb : Bts W w.heap.size a1 m x) h => (build_ok a1 m c1 x pr sr ds tt id sz ln w.heap.size W hb h hmc hc hm hpr hsr hds htt hid).mono fun _ _ hp => built_n hN hp)
  have P2 := Lib.hid (fun W (hb : Bts W w.heap.size a1 m x) h => (refBuild_ok a1 m c1 x pr sr ds tt id sz ln w.heap.size W hb h hmc hc hm hpr hsr hds htt hid).mono fun _ _ hp => rbuilt_n hN hp)
  have HN : Hid (20 + x.length = N) := hN
  have HS0 := Lib.hid (SB.box w pr sr ds sz ln tt id)
  obtain ⟨s0, s1, s2, s3, s4, s5, s6, HSh⟩ := HS0.out
  clear hsh hb hN
  go_enter Try.func4, Try.ntmps4
  go_wp2_with fail
  go_region_held3 (fun w' => w'.cell? ⟨w.heap.size, 0, none⟩ = some (.int .u8 pr) ∧ w'.cell? ⟨w.heap.size, 1, none⟩ = some (.int .u32 sr) ∧ w'.cell? ⟨w.heap.size, 2, none⟩ = some (.int .u32 ds) ∧ w'.cell? ⟨w.heap.size, 3, none⟩ = some (.int .i64 sz) ∧
    w'.cell? ⟨w.heap.size, 4, none⟩ = some (.int .i64 ln) ∧ w'.cell? ⟨w.heap.size, 5, none⟩ = some (.int .u8 tt) ∧ w'.cell? ⟨w.heap.size, 6, none⟩ = some (.int .u16 id) ∧ Hid (Hd w' w.heap.size pr sr ds sz ln tt id ∧ Below w.heap.size w w'))
    (first | exact SB.drew HS0.out | exact SB.next (by assumption) (by assumption) | go_keep)
    (first
      | (go_at_call 8; refine (H0.out _).mono ?_; rintro e w' ⟨rfl, rfl⟩)
      | (go_at_call 11; refine (P1.out _ (HB.out.below (SB.bel (by assumption))) (SB.bel (by assumption)).size).mono ?_; rintro e w1 ⟨g, rfl, hr1, hg1, hb1⟩))
  have HS1 : Hid (SB w w1 pr sr ds sz ln tt id) := by assumption
  have HR1 := Lib.hid hr1
  clear hr1 hg1 s0 s1 s2 s3 s4 s5 s6
  go_wp2_with fail
  obtain ⟨s0, s1, s2, s3, s4, s5, s6, HSh⟩ := HS1.out
  go_region_held3 (fun w' => w'.cell? ⟨w.heap.size, 0, none⟩ = some (.int .u8 pr) ∧ w'.cell? ⟨w.heap.size, 1, none⟩ = some (.int .u32 sr) ∧ w'.cell? ⟨w.heap.size, 2, none⟩ = some (.int .u32 ds) ∧ w'.cell? ⟨w.heap.size, 3, none⟩ = some (.int .i64 sz) ∧
    w'.cell? ⟨w.heap.size, 4, none⟩ = some (.int .i64 ln) ∧ w'.cell? ⟨w.heap.size, 5, none⟩ = some (.int .u8 tt) ∧ w'.cell? ⟨w.heap.size, 6, none⟩ = some (.int .u16 id) ∧ Hid (Hd w' w.heap.size pr sr ds sz ln tt id ∧ Below w.heap.size w w'))
    (first | exact SB.drew HS1.out | exact SB.next (by assumption) (by assumption) | go_keep)
    (first
      | (go_at_call 8; refine (H0.out _).mono ?_; rintro e w' ⟨rfl, rfl⟩)
      | (go_at_call 12; refine (P2.out _ (HB.out.below (SB.bel (by assumption))) (SB.bel (by assumption)).size).mono ?_; rintro e w2 ⟨A2, c2, rfl, hr2, hb2⟩))
  have HS2 : Hid (SB w w2 pr sr ds sz ln tt id) := by assumption
  clear s0 s1 s2 s3 s4 s5 s6
  go_wp2_with fail
  go_at_call 10
  refine (awake_any _).mono ?_
  rintro e w4 ⟨rfl, hb4⟩
  have bel := HS2.out.bel.trans (hb4.mono HS2.out.bel.size)
  have hbt := HR1.out.bts
  rw [IpM.packB_len, HN.out] at hbt
  have hb24 : Below w1.heap.size w1 w4 := (show Below w1.heap.size w1 w2 from ⟨hb2.os, hb2.tape, hb2.output, hb2.size, hb2.block⟩).trans (hb4.mono hb2.size)
  have hcv := text_at (c := N) hbt hb24
  have hcv2 := text_at (c := c2) hr2 hb4
  go_wp2_with fail
  go_ret
  exact ⟨rfl, bel⟩

set_option maxHeartbeats 4000000 in
theorem ipBuilds_long (a1 : Option Addr) (n1 c1 m : Nat) (x : List UInt8) (pr sr ds sz ln tt id : Int) (w : World) (hmc : m ≤ c1) (hc : c1 ≤ 9223372036854775807) (hsh : ∀ W, Calls Try.prog 8 #[.slice a1 n1 c1] W fun e w' => e = .returned (.slice a1 m c1) ∧ W = w')
    (hm : 1480 < m) :
    Calls Try.prog 4 #[.agg (cells7 pr sr ds sz ln tt id), .slice a1 n1 c1] w fun e w' => e = .returned (.bool true) ∧ Below w.heap.size w w' := by
  have H0 := Lib.hid hsh
  have P1 := Lib.hid (fun W => build_long a1 m c1 pr sr ds sz ln tt id W hmc hc hm)
  have P2 := Lib.hid (fun W => refBuild_long a1 m c1 pr sr ds sz ln tt id W hmc hc hm)
  have HS0 := Lib.hid (SB.box w pr sr ds sz ln tt id)
  obtain ⟨s0, s1, s2, s3, s4, s5, s6, HSh⟩ := HS0.out
  clear hsh
  go_enter Try.func4, Try.ntmps4
  go_wp2_with fail
  go_region_held3 (fun w' => w'.cell? ⟨w.heap.size, 0, none⟩ = some (.int .u8 pr) ∧ w'.cell? ⟨w.heap.size, 1, none⟩ = some (.int .u32 sr) ∧ w'.cell? ⟨w.heap.size, 2, none⟩ = some (.int .u32 ds) ∧ w'.cell? ⟨w.heap.size, 3, none⟩ = some (.int .i64 sz) ∧
    w'.cell? ⟨w.heap.size, 4, none⟩ = some (.int .i64 ln) ∧ w'.cell? ⟨w.heap.size, 5, none⟩ = some (.int .u8 tt) ∧ w'.cell? ⟨w.heap.size, 6, none⟩ = some (.int .u16 id) ∧ Hid (Hd w' w.heap.size pr sr ds sz ln tt id ∧ Below w.heap.size w w'))
    (first | exact SB.drew HS0.out | exact SB.next (by assumption) (by assumption) | go_keep)
    (first
      | (go_at_call 8; refine (H0.out _).mono ?_; rintro e w' ⟨rfl, rfl⟩)
      | (go_at_call 11; refine (P1.out _).mono ?_; rintro e w1 ⟨rfl, hb1⟩))
  have HS1 : Hid (SB w w1 pr sr ds sz ln tt id) := by assumption
  clear s0 s1 s2 s3 s4 s5 s6
  go_wp2_with fail
  obtain ⟨s0, s1, s2, s3, s4, s5, s6, HSh⟩ := HS1.out
  go_region_held3 (fun w' => w'.cell? ⟨w.heap.size, 0, none⟩ = some (.int .u8 pr) ∧ w'.cell? ⟨w.heap.size, 1, none⟩ = some (.int .u32 sr) ∧ w'.cell? ⟨w.heap.size, 2, none⟩ = some (.int .u32 ds) ∧ w'.cell? ⟨w.heap.size, 3, none⟩ = some (.int .i64 sz) ∧
    w'.cell? ⟨w.heap.size, 4, none⟩ = some (.int .i64 ln) ∧ w'.cell? ⟨w.heap.size, 5, none⟩ = some (.int .u8 tt) ∧ w'.cell? ⟨w.heap.size, 6, none⟩ = some (.int .u16 id) ∧ Hid (Hd w' w.heap.size pr sr ds sz ln tt id ∧ Below w.heap.size w w'))
    (first | exact SB.drew HS1.out | exact SB.next (by assumption) (by assumption) | go_keep)
    (first
      | (go_at_call 8; refine (H0.out _).mono ?_; rintro e w' ⟨rfl, rfl⟩)
      | (go_at_call 12; refine (P2.out _).mono ?_; rintro e w2 ⟨rfl, hb2⟩))
  have HS2 : Hid (SB w w2 pr sr ds sz ln tt id) := by assumption
  clear s0 s1 s2 s3 s4 s5 s6
  go_wp2_with fail
  go_at_call 10
  refine (awake_any _).mono ?_
  rintro e w4 ⟨rfl, hb4⟩
  have bel := HS2.out.bel.trans (hb4.mono HS2.out.bel.size)
  have hcv := text_at (c := 0) (Bts.empty w4 0 none) (Below.refl _ _)
  go_wp2_with fail
  go_ret
  exact ⟨rfl, bel⟩

theorem ipBuilds_walk (p0 p1 p2 p3 p4 p5 p6 : Int) (a1 : Option Addr) (n1 c1 : Nat) (b1 : List UInt8) (w : World) (hp : (0 ≤ p0 ∧ p0 ≤ 255) ∧ (0 ≤ p1 ∧ p1 ≤ 4294967295) ∧ (0 ≤ p2 ∧ p2 ≤ 4294967295) ∧ (-9223372036854775808 ≤ p3 ∧ p3 ≤ 9223372036854775807) ∧ (-9223372036854775808 ≤ p4 ∧ p4 ≤ 9223372036854775807) ∧ (0 ≤ p5 ∧ p5 ≤ 255) ∧ (0 ≤ p6 ∧ p6 ≤ 65535))
    (w0 : Bts w w.heap.size a1 n1 b1) (hc0 : n1 ≤ c1) (hm0 : c1 ≤ maxLen) :
    Calls Try.prog 4 #[.agg #[.int .u8 p0, .int .u32 p1, .int .u32 p2, .int .i64 p3, .int .i64 p4, .int .u8 p5, .int .u16 p6], .slice a1 n1 c1] w fun e w' => e = .returned (.bool true) ∧ Below w.heap.size w w' := by
  unfold maxLen at hm0
  obtain ⟨h0, h1, h2, h3, h4, h5, h6⟩ := hp
  obtain ⟨pr, rfl⟩ := Int.eq_ofNat_of_zero_le h0.1
  obtain ⟨sr, rfl⟩ := Int.eq_ofNat_of_zero_le h1.1
  obtain ⟨ds, rfl⟩ := Int.eq_ofNat_of_zero_le h2.1
  obtain ⟨tt, rfl⟩ := Int.eq_ofNat_of_zero_le h5.1
  obtain ⟨id, rfl⟩ := Int.eq_ofNat_of_zero_le h6.1
  have hb := w0.take 1600
  have C0 := fun W => short_any a1 n1 c1 hc0 (by omega) W
  by_cases h : min n1 1600 ≤ 1480
  · exact ipBuilds_ok a1 n1 c1 _ _ pr sr ds tt id p3 p4 w (by omega) (by omega) C0 hb h (by omega) (by omega) (by omega) (by omega) (by omega)
  · exact ipBuilds_long a1 n1 c1 _ (b1.take 1600) pr sr ds p3 p4 tt id w (by omega) (by omega) C0 (by omega)

end Ip
end Go.Proofs.Ytcncnakjdfcggaa
