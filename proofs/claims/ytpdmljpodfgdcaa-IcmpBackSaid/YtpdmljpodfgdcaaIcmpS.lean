/- Layer 7: the walk of IcmpBack. -/
import Derived.Test.YtpdmljpodfgdcaaIcmpP
set_option linter.unusedVariables false
set_option linter.unusedSimpArgs false
namespace Go.Proofs.Ytpdmljpodfgdcaa
open Go.ChangeShapes Go.WideShapes Go.ChangeAt Go.RowKit Go.Mtl
namespace Ic
open IcM (echoB echo_yes echo_no errI errI_le msgB msg ckI ckI_le)
open SumM (add add_le turn)
open IpM (word word_lt twoB)
open Ip (ret_int MadeO Row But u8_info own_bts own_lit row_of_own)

/-- The kind that a reply has, or not. -/
def kindN (r : Bool) : Nat := if r = true then 0 else 8
theorem kind_echo (r : Bool) : echoB (kindN r) = true := by cases r <;> rfl

set_option maxHeartbeats 2000000 in
theorem icmpBack_long (r : Bool) (id bt : Nat) (A : Option Addr) (n c m : Nat) (W : World) (hmc : m ≤ c) (hm : c ≤ 9223372036854775807)
    (hsh : ∀ W, Calls Try.prog 7 #[.slice A n c] W fun e w' => e = .returned (.slice A m c) ∧ W = w') (hl : 1472 < m) :
    Calls Try.prog 5 #[.bool r, .int .u16 (id : Int), .slice A n c, .int .u16 (bt : Int)] W fun e w' => e = .returned (.bool true) ∧ Below W.heap.size W w' := by
  have H0 := Lib.hid hsh
  have P1 := Lib.hid (build_long (kindN r) id A m c W (kind_echo r) hmc hm hl)
  have hl2 : (1472 : Int) < m := by omega
  clear hsh
  cases r
  all_goals
    go_enter Try.func5, Try.ntmps5
    go_wp2_with (go_at_call 7; refine (H0.out _).mono ?_; rintro e w' ⟨rfl, rfl⟩)
    go_at_call 10
    refine P1.out.mono ?_
    rintro e w1 ⟨rfl, hb1⟩
    have HB1 := Lib.hid hb1
    clear hb1
    go_wp2_with fail
    go_at_call 9
    refine (awake_any _).mono ?_
    rintro e w3 ⟨rfl, hb3⟩
    have HB3 := Lib.hid (HB1.out.trans (hb3.mono HB1.out.size))
    clear hb3 HB1
    go_wp2_with fail
    go_ret
    exact ⟨rfl, HB3.out⟩

set_option maxHeartbeats 8000000 in
theorem icmpBack_ok (r : Bool) (id bt : Nat) (A : Option Addr) (n c m : Nat) (bs : List UInt8) (W : World) (hmc : m ≤ c) (hm : c ≤ 9223372036854775807) (hid : id < 65536) (hbt : bt < 65536)
    (hsh : ∀ W, Calls Try.prog 7 #[.slice A n c] W fun e w' => e = .returned (.slice A m c) ∧ W = w') (hb : Bts W W.heap.size A m bs) (hl : m ≤ 1472) :
    Calls Try.prog 5 #[.bool r, .int .u16 (id : Int), .slice A n c, .int .u16 (bt : Int)] W fun e w' => e = .returned (.bool true) ∧ Below W.heap.size W w' := by
  have H0 := Lib.hid hsh
  have hbl := hb.len
  obtain ⟨N, hN⟩ : ∃ N, 8 + m = N := ⟨_, rfl⟩
  have hN3 : 8 + bs.length = N := by rw [hbl]; exact hN
  have hN1 : 8 ≤ N := by omega
  have hN2 : N ≤ 1480 := by omega
  obtain ⟨j, hj, hj2⟩ : ∃ j : Nat, (bt : Int) / 8 % N = (j : Int) ∧ j = bt / 8 % N := ⟨bt / 8 % N, by simp, rfl⟩
  obtain ⟨p, hp, hp2⟩ : ∃ p : Nat, (bt : Int) % 8 = (p : Int) ∧ p = bt % 8 := ⟨bt % 8, by omega, rfl⟩
  have hjN : j < N := by rw [hj2]; exact Nat.mod_lt _ (by omega)
  have hp8 : p < 8 := by omega
  have hk : kindN r < 256 := by cases r <;> decide
  have P1 : Hid (Calls Try.prog 10 #[.int .u8 (kindN r : Int), .int .u16 (id : Int), .slice A m c] W fun e w' =>
      ∃ g, e = .returned (.tuple #[.slice (some ⟨g, 0, none⟩) N N, .int .i64 0]) ∧ Hid (Row w' g (msg (kindN r) id bs)) ∧ W.heap.size ≤ g ∧ Below W.heap.size W w') := by
    subst hN3
    exact (build_ok (kindN r) id A m c bs W.heap.size W (kind_echo r) hb (Nat.le_refl _) hmc hm hl hk hid).mono fun e w' ⟨g, h1, h2, h3, h4⟩ => ⟨g, h1, h2, h3, h4⟩
  have P2 : Hid (∀ (g : Nat) (W : World), Row W g (msg (kindN r) id bs) → Calls Try.prog 6 #[.slice (some ⟨g, 0, none⟩) N N] W fun e w' => e = .returned (.tuple #[.int .u8 (kindN r : Int), .int .u16 (id : Int), .int .i64 0]) ∧ Below W.heap.size W w') := by
    intro g W hr
    have hb := hr.bts
    rw [IcM.msg_len, hN3] at hb
    have hp := parse_ok (some ⟨g, 0, none⟩) N N _ W.heap.size W hb (Nat.le_refl _) (Nat.le_refl _) (by omega) (IcM.msg_err (kindN r) id bs hk (kind_echo r))
    unfold okV msg at hp
    rw [IcM.msg_kind _ _ _ _ hk, IcM.msg_id _ _ _ _ hid] at hp
    exact hp
  have he := IcM.turn_err (kindN r) id bs j p (by omega) hp8
  have hLS : (msg (kindN r) id bs).length = N := by rw [IcM.msg_len, hN3]
  have HLS := Lib.hid hLS
  generalize msg (kindN r) id bs = S at P1 P2 he HLS
  have HLT : Hid ((turn S j p).length = N) := by show _ = _; rw [SumM.turn_len, HLS.out]
  have hys := byt_lt S j
  have HX := Lib.hid (Sm.xor_turn (byt S j) p hys hp8)
  have P4 : Hid (∀ W g, Row W g (turn S j p) → Calls Try.prog 6 #[.slice (some ⟨g, 0, none⟩) N N] W fun e w' => e = .returned (.tuple #[.int .u8 0, .int .u16 0, .int .i64 7]) ∧ Below W.heap.size W w') := by
    intro W' g hr
    have hb := hr.bts
    rw [HLT.out] at hb
    have h := parse_bad (some ⟨g, 0, none⟩) N N _ W'.heap.size W' hb (Nat.le_refl _) (Nat.le_refl _) (by omega) (by rw [he]; omega)
    rw [he] at h
    exact h
  have hjI : (j : Int) < N := by omega
  have e0 : (8 : Int) + m = N := by omega
  clear hsh hN hN3 hj2 hp2 hLS hb hbl he hk
  cases r
  all_goals
    go_enter Try.func5, Try.ntmps5
    go_wp2_with (go_at_call 7; refine (H0.out _).mono ?_; rintro e w' ⟨rfl, rfl⟩)
    go_at_call 10
    refine P1.out.mono ?_
    rintro e w1 ⟨g, rfl, HR1, hg, hb1⟩
    have HB1 := Lib.hid hb1
    clear hb1 P1
    go_wp2_with fail
    go_at_call 6
    refine (P2.out g w1 HR1.out).mono ?_
    rintro e w5 ⟨rfl, hb5⟩
    have HR5 : Hid (Row w5 g S) := (hb5.block g HR1.out.lt).trans HR1.out
    have HB5 := Lib.hid (HB1.out.trans (hb5.mono HB1.out.size))
    clear hb5 HR1 HB1 P2
    have k0 := HR5.out.cell j (by rw [HLS.out]; omega)
    have k1 := HR5.out.frozen j
    go_wp2_with fail
    go_at_call 6
    have hr6 := HR5.out.set j _ (UInt8.ofNat (byt S j ^^^ 2 ^ p)) HX.out
    have HR6 : Hid (Row _ g (turn S j p)) := hr6
    have HB6 := Lib.hid (HB5.out.setCell (p := ⟨g, j, none⟩) hg (.int .u8 (bits .xor .u8 (byt S j : Int) (2 ^ p % 256))))
    clear hr6 k0 k1 HR5 HB5
    generalize w5.setCell ⟨g, j, none⟩ (.int .u8 (bits .xor .u8 (byt S j : Int) (2 ^ p % 256))) = w6 at HR6 HB6 ⊢
    refine (P4.out _ g HR6.out).mono ?_
    rintro e w7 ⟨rfl, hb7⟩
    have HB7 := Lib.hid (HB6.out.trans (hb7.mono HB6.out.size))
    clear hb7 HB6 HR6 P4
    go_wp2_with fail
    go_at_call 9
    refine (awake_any _).mono ?_
    rintro e w8 ⟨rfl, hb8⟩
    have HB8 := Lib.hid (HB7.out.trans (hb8.mono HB7.out.size))
    clear hb8 HB7
    go_wp2_with fail
    go_ret
    exact ⟨rfl, HB8.out⟩

theorem icmpBack_walk (r : Bool) (a1 : Int) (A : Option Addr) (n c : Nat) (bs : List UInt8) (a6 : Int) (w : World) (w2 : 0 ≤ a1 ∧ a1 ≤ 65535) (w4 : Bts w w.heap.size A n bs) (hc : n ≤ c) (hm : c ≤ maxLen) (w6 : 0 ≤ a6 ∧ a6 ≤ 65535) :
    Calls Try.prog 5 #[.bool r, .int .u16 a1, .slice A n c, .int .u16 a6] w fun e w' => e = .returned (.bool true) ∧ Below w.heap.size w w' := by
  unfold maxLen at hm
  obtain ⟨id, rfl⟩ := Int.eq_ofNat_of_zero_le w2.1
  obtain ⟨bt, rfl⟩ := Int.eq_ofNat_of_zero_le w6.1
  by_cases hl : 1472 < min n 1600
  · exact icmpBack_long r id bt A n c (min n 1600) w (by omega) (by omega) (fun W => short_any A n c hc (by omega) W) hl
  · exact icmpBack_ok r id bt A n c (min n 1600) (bs.take 1600) w (by omega) (by omega) (by omega) (by omega) (fun W => short_any A n c hc (by omega) W) (w4.take 1600) (by omega)

end Ic
end Go.Proofs.Ytpdmljpodfgdcaa
