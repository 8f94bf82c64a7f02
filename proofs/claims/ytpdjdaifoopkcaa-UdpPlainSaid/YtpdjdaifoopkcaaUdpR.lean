/- Layer 6: the walk of UdpPlain. -/
import Derived.Test.YtpdjdaifoopkcaaUdpP
set_option linter.unusedVariables false
set_option linter.unusedSimpArgs false
namespace Go.Proofs.Ytpdjdaifoopkcaa
open Go.ChangeShapes Go.WideShapes Go.ChangeAt Go.RowKit Go.Mtl
namespace Ud
open TcpM (psB psN psN_le)
open UdpM (totU totU_le errU errU_le datB dat ckU ckU_le fullN)
open SumM (add add_le turn)
open IpM (word word_lt twoB fourB)
open Ip (ret_int MadeO Row But u8_info own_bts own_lit row_of_own)

theorem lit8 (w : World) (fr to N : Nat) (x0 x1 x2 x3 x4 x5 : Int) (h0 : x0 = ((UInt8.ofNat (fr / 256)).toNat : Int)) (h1 : x1 = ((UInt8.ofNat fr).toNat : Int)) (h2 : x2 = ((UInt8.ofNat (to / 256)).toNat : Int)) (h3 : x3 = ((UInt8.ofNat to).toNat : Int)) (h4 : x4 = ((UInt8.ofNat (N / 256)).toNat : Int)) (h5 : x5 = ((UInt8.ofNat N).toNat : Int)) :
    (w.alloc (.cells #[.int .u8 x0, .int .u8 x1, .int .u8 x2, .int .u8 x3, .int .u8 x4, .int .u8 x5, .int .u8 0, .int .u8 0] 5)).ownsRow w.heap.size 5 1 (.slice (some ⟨w.heap.size, 0, none⟩) 8 8) 8 (bvs (twoB fr ++ twoB to ++ twoB N ++ [0, 0])) :=
  own_lit w (twoB fr ++ twoB to ++ twoB N ++ [0, 0]) 8 rfl (by omega) _ (by subst h0 h1 h2 h3 h4 h5; rfl)

set_option maxHeartbeats 4000000 in
theorem udpPlain_core (sr ds fr to : Nat) (A : Option Addr) (n c m : Nat) (x : List UInt8) (W : World) (hmc : m ≤ c) (hm : c ≤ 9223372036854775807) (hm6 : m ≤ 1600) (hsr : sr < 4294967296) (hds : ds < 4294967296) (hfr : fr < 65536) (hto : to < 65536)
    (hsh : ∀ W, Calls Try.prog 8 #[.slice A n c] W fun e w' => e = .returned (.slice A m c) ∧ W = w') (hb : Bts W W.heap.size A m x) :
    Calls Try.prog 6 #[.int .u32 (sr : Int), .int .u32 (ds : Int), .int .u16 (fr : Int), .int .u16 (to : Int), .slice A n c] W fun e w' => e = .returned (.bool true) ∧ Below W.heap.size W w' := by
  obtain ⟨i0, hi0, hz0, hz1, hz2⟩ := info_parts u8_info
  have H0 := Lib.hid hsh
  have HX := Lib.hid hb
  have e0 : (8 : Int) + m = ((8 + m : Nat) : Int) := by omega
  obtain ⟨N, hN⟩ : ∃ N, 8 + m = N := ⟨_, rfl⟩
  have HN := Lib.hid hN
  have HXN : Hid (8 + x.length = N) := by show _ = _; rw [hb.len]; exact hN
  rw [hN] at e0
  have hN1 : 8 ≤ N := by omega
  have hN2 : N ≤ 1608 := by omega
  have HD : Hid (twoB fr ++ twoB to ++ twoB N ++ [0, 0] ++ x = datB 0 fr to x) := by show _ = _; rw [← HXN.out]; rfl
  have P1 : Hid (∀ (g c : Nat) (W : World), Bts W W.heap.size (some ⟨g, 0, none⟩) N (datB 0 fr to x) → N ≤ c → c ≤ 9223372036854775807 → Calls Try.prog 7 #[.int .u32 (sr : Int), .int .u32 (ds : Int), .slice (some ⟨g, 0, none⟩) N c] W fun e w' => e = .returned (.tuple #[.int .u16 (fr : Int), .int .u16 (to : Int), .int .i64 0]) ∧ Below W.heap.size W w') := by
    intro g c W hb hc hm
    have hp := parse_ok sr ds (some ⟨g, 0, none⟩) N c _ W.heap.size W hb (Nat.le_refl _) hc hm hsr hds (UdpM.plain_err sr ds fr to x (by have := HXN.out; omega))
    unfold okV at hp
    rw [UdpM.dat_from _ _ _ _ hfr, UdpM.dat_to _ _ _ _ hto] at hp
    exact hp
  have P2 : Hid (∀ (g c : Nat) (W : World), Bts W W.heap.size (some ⟨g, 0, none⟩) N (((datB 0 fr to x).set 4 0).set 5 7) → N ≤ c → c ≤ 9223372036854775807 → Calls Try.prog 7 #[.int .u32 (sr : Int), .int .u32 (ds : Int), .slice (some ⟨g, 0, none⟩) N c] W fun e w' => e = .returned (badV 6) ∧ Below W.heap.size W w') := by
    intro g c W hb hc hm
    have he := UdpM.small_err sr ds (datB 0 fr to x) (by rw [UdpM.datB_len]; omega)
    have hp := parse_bad sr ds (some ⟨g, 0, none⟩) N c _ W.heap.size W hb (Nat.le_refl _) hc hm hsr hds (by rw [he]; omega)
    rw [he] at hp
    exact hp
  clear hsh hb hN
  go_enter Try.func6, Try.ntmps6
  go_wp2_with (first
    | (go_at_call 8; refine (H0.out _).mono ?_; rintro e w' ⟨rfl, rfl⟩)
    | (refine at_slot 42 ?_
       refine wpList_append_hid (W0 := W) N rfl (.tmp 40) (.tmp 41) _ rfl 5 i0 Try.underlying23 hi0 hz0 hz1 hz2 _ 8 _ rfl (lit8 W fr to N _ _ _ _ _ _ (by first | (simp; done) | (simp; omega)) (by first | (simp; done) | (simp; omega)) (by first | (simp; done) | (simp; omega)) (by first | (simp; done) | (simp; omega)) (by first | (simp; done) | (simp; omega)) (by first | (simp; done) | (simp; omega))) ((Below.refl _ W).alloc (Nat.le_refl _) _) W.heap.size A m c x rfl (HX.out.alloc (Nat.le_refl _) _) HN.out (by omega) ?_
       intro A1 c1 w1 H1 HB1 _ HC1
       have h1 := H1.out
       rw [HD.out] at h1
       obtain ⟨g, rfl, ho1, hg⟩ := Sm.own_at h1 (by omega)
       have HO1 := Lib.hid ho1
       clear h1 ho1 H1))
  go_at_call 7
  refine (P1.out g c1 w1 (Sm.own_bts HO1.out) HC1.out.1 HC1.out.2).mono ?_
  rintro e w2 ⟨rfl, hb2⟩
  have HO2 := Lib.hid (own_below HO1.out hb2)
  have HB2 := Lib.hid (HB1.out.trans (hb2.mono HB1.out.size))
  clear HO1 HB1 hb2
  have k4 := own_cell HO2.out 4 (by omega)
  have k5 := own_cell HO2.out 5 (by omega)
  have l4 := HO2.out.frozenAt 4
  have l5 := HO2.out.frozenAt 5
  have j4 : (4 : Int) < N := by omega
  have j5 : (5 : Int) < N := by omega
  go_wp2_with fail
  go_at_call 7
  have HO3 := Lib.hid (own_set (own_set HO2.out 4 0 0 rfl) 5 7 7 rfl)
  have HB3 := Lib.hid ((HB2.out.setCell (p := ⟨g, 4, none⟩) hg (.int .u8 0)).setCell (p := ⟨g, 5, none⟩) hg (.int .u8 7))
  clear k4 k5 l4 l5 HO2 HB2
  generalize (w2.setCell ⟨g, 4, none⟩ (.int .u8 0)).setCell ⟨g, 5, none⟩ (.int .u8 7) = w3 at HO3 HB3 ⊢
  refine (P2.out g c1 w3 (Sm.own_bts HO3.out) HC1.out.1 HC1.out.2).mono ?_
  rintro e w4 ⟨rfl, hb4⟩
  have HB4 := Lib.hid (HB3.out.trans (hb4.mono HB3.out.size))
  clear hb4 HO3 HB3
  go_wp2_with fail
  go_at_call 10
  refine (awake_any _).mono ?_
  rintro e w5 ⟨rfl, hb5⟩
  have HB5 := Lib.hid (HB4.out.trans (hb5.mono HB4.out.size))
  clear hb5 HB4
  go_wp2_with fail
  go_ret
  exact ⟨rfl, HB5.out⟩

theorem udpPlain_walk (a0 a1 a2 a3 : Int) (A : Option Addr) (n c : Nat) (bs : List UInt8) (w : World) (w0 : 0 ≤ a0 ∧ a0 ≤ 4294967295) (w1 : 0 ≤ a1 ∧ a1 ≤ 4294967295) (w2 : 0 ≤ a2 ∧ a2 ≤ 65535) (w3 : 0 ≤ a3 ∧ a3 ≤ 65535) (w4 : Bts w w.heap.size A n bs) (hc : n ≤ c) (hm : c ≤ maxLen) :
    Calls Try.prog 6 #[.int .u32 a0, .int .u32 a1, .int .u16 a2, .int .u16 a3, .slice A n c] w fun e w' => e = .returned (.bool true) ∧ Below w.heap.size w w' := by
  unfold maxLen at hm
  obtain ⟨sr, rfl⟩ := Int.eq_ofNat_of_zero_le w0.1
  obtain ⟨ds, rfl⟩ := Int.eq_ofNat_of_zero_le w1.1
  obtain ⟨fr, rfl⟩ := Int.eq_ofNat_of_zero_le w2.1
  obtain ⟨to, rfl⟩ := Int.eq_ofNat_of_zero_le w3.1
  exact udpPlain_core sr ds fr to A n c (min n 1600) (bs.take 1600) w (by omega) (by omega) (by omega) (by omega) (by omega) (by omega) (by omega) (fun W => short_any A n c hc (by omega) W) (w4.take 1600)

end Ud
end Go.Proofs.Ytpdjdaifoopkcaa
