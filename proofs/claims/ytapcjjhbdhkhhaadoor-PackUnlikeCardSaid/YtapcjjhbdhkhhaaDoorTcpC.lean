/- Layer 5: contracts of tcp's check and Parse, and of the reference's Parse. -/
import Derived.Test.YtapcjjhbdhkhhaaDoorTcpB
import Derived.Deep.QuietTactic
set_option linter.unusedVariables false
set_option linter.unusedSimpArgs false
namespace Go.Proofs.YtapcjjhbdhkhhaaDoor
open Go.ChangeShapes Go.WideShapes Go.ChangeAt Go.RowKit Go.Mtl
namespace Tc
open TcpM (saneB psB psN totN psN_le totN_le errT)
open SumM (add add_le)
open IpM (word word_lt twoB fourB)
open Ip (ret_int MadeO Row But u8_info own_bts own_lit)

set_option maxHeartbeats 2000000 in
theorem check_any (sr ds : Nat) (A : Option Addr) (n c : Nat) (bs : List UInt8) (B : Nat) (W : World) (hb : Bts W B A n bs) (hB : B ≤ W.heap.size) (hc : n ≤ c) (hm : c ≤ 9223372036854775807) (hsr : sr < 4294967296) (hds : ds < 4294967296) (he : Env W) :
    Calls Tryd.prog 37 #[.int .u32 (sr : Int), .int .u32 (ds : Int), .slice A n c] W fun e w' => e = .returned (.int .i64 (errT sr ds bs : Int)) ∧ Below W.heap.size W w' := by
  have hl := hb.len
  by_cases h20 : n < 20
  · have HF : Hid (errT sr ds bs = 4) := by show _ = _; unfold errT; rw [if_pos (by omega)]
    clear hb hl
    go_enter Tryd.func37, Tryd.ntmps37
    go_wp2_with fail
    go_ret
    exact ⟨ret_int (by rw [HF.out]; rfl), Below.refl _ _⟩
  · obtain ⟨b, off, rfl, hlt, hcell⟩ := hb.at_ (by omega)
    have c12 := hcell 12 (by omega)
    have c13 := hcell 13 (by omega)
    have i12 : (12 : Int) < n := by omega
    have i13 : (13 : Int) < n := by omega
    have y12 := byt_lt bs 12
    have y13 := byt_lt bs 13
    have HB := Lib.hid hb
    have HL := Lib.hid hl
    clear hb hl hcell
    by_cases h5 : byt bs 12 / 16 < 5
    · have HF : Hid (errT sr ds bs = 6) := by show _ = _; unfold errT; rw [if_neg (by have := HL.out; omega), if_pos h5]
      go_enter Tryd.func37, Tryd.ntmps37
      go_wp2_with fail
      go_ret
      exact ⟨ret_int (by rw [HF.out]; rfl), Below.refl _ _⟩
    · by_cases h6 : n < byt bs 12 / 16 * 4
      · have HF : Hid (errT sr ds bs = 4) := by show _ = _; unfold errT; rw [if_neg (by have := HL.out; omega), if_neg h5, if_pos (by have := HL.out; omega)]
        go_enter Tryd.func37, Tryd.ntmps37
        go_wp2_with fail
        go_ret
        exact ⟨ret_int (by rw [HF.out]; rfl), Below.refl _ _⟩
      · have HF : Hid (errT sr ds bs = if totN sr ds bs ≠ 65535 then 7 else if saneB (byt bs 13) = true then 0 else 11) := by
          show _ = _; unfold errT; rw [if_neg (by have := HL.out; omega), if_neg h5, if_neg (by have := HL.out; omega)]
        have HT := Lib.hid (total_any sr ds (some ⟨b, off, none⟩) n c bs B W HB.out hB hc hm hsr hds)
        have htl := totN_le sr ds bs
        generalize totN sr ds bs = r at HT htl HF
        go_enter Tryd.func37, Tryd.ntmps37
        go_wp2_with fail
        go_at_call 43
        refine HT.out.mono ?_
        rintro e w1 ⟨rfl, hb1⟩
        have HW1 := Lib.hid hb1
        have HE1 := Lib.hid (he.below hb1 (Nat.le_refl _))
        have d13 := (hb1.cell (p := ⟨b, off + 13, none⟩) (by show b < _; omega)).trans c13
        clear hb1 HT c12 c13
        by_cases h7 : r = 65535
        · have d7 : ((r : Int) != 65535) = false := by simp; omega
          rw [h7] at HF
          have HF2 : Hid (errT sr ds bs = if saneB (byt bs 13) = true then 0 else 11) := by show _ = _; rw [HF.out, if_neg (by omega)]
          clear h7 HF
          cases hs : saneB (byt bs 13)
          · have HF3 : Hid (errT sr ds bs = 11) := by show _ = _; rw [HF2.out, hs]; rfl
            have HS := Lib.hid (sane_any (byt bs 13) y13 false hs w1 HE1.out)
            clear hs HF2
            go_wp2_with fail
            go_at_call 19
            refine HS.out.mono ?_
            rintro e w2 ⟨rfl, hb2⟩
            have bel := HW1.out.trans (hb2.mono HW1.out.size)
            clear hb2
            go_wp2_with fail
            go_ret
            exact ⟨ret_int (by rw [HF3.out]; rfl), bel⟩
          · have HF3 : Hid (errT sr ds bs = 0) := by show _ = _; rw [HF2.out, hs]; rfl
            have HS := Lib.hid (sane_any (byt bs 13) y13 true hs w1 HE1.out)
            clear hs HF2
            go_wp2_with fail
            go_at_call 19
            refine HS.out.mono ?_
            rintro e w2 ⟨rfl, hb2⟩
            have bel := HW1.out.trans (hb2.mono HW1.out.size)
            clear hb2
            go_wp2_with fail
            go_ret
            exact ⟨ret_int (by rw [HF3.out]; rfl), bel⟩
        · have d7 : ((r : Int) != 65535) = true := by simp; omega
          have HF3 : Hid (errT sr ds bs = 7) := by show _ = _; rw [HF.out, if_pos (by omega)]
          clear h7 HF
          go_wp2_with fail
          go_ret
          exact ⟨ret_int (by rw [HF3.out]; rfl), HW1.out⟩

theorem and63 (x : Nat) (h : x < 256) : bits .and .u8 (x : Int) 63 = (x : Int) % 64 := by
  have h1 := and_u8 x 63 h (by omega)
  have h2 : x &&& 63 = x % 64 := Nat.and_two_pow_sub_one_eq_mod x 6
  rw [h2] at h1
  exact h1.trans (by omega)

/-- What Parse answers. -/
abbrev badV (e : Nat) : Value := .tuple #[.int .u16 0, .int .u16 0, .int .u8 0, .int .i64 (e : Int)]
abbrev okV (bs : List UInt8) : Value := .tuple #[.int .u16 (word bs 0 : Int), .int .u16 (word bs 2 : Int), .int .u8 ((byt bs 13 : Int) % 64), .int .i64 0]

def pV (e : Nat) (bs : List UInt8) : Value := if e = 0 then okV bs else badV e
theorem pV_ok {e : Nat} (bs : List UInt8) (h : e = 0) : pV e bs = okV bs := by unfold pV; rw [if_pos h]
theorem pV_bad {e : Nat} (bs : List UInt8) (h : e ≠ 0) : pV e bs = badV e := by unfold pV; rw [if_neg h]

theorem parse_bad (sr ds : Nat) (A : Option Addr) (n c : Nat) (bs : List UInt8) (B : Nat) (W : World) (hb : Bts W B A n bs) (hB : B ≤ W.heap.size) (hc : n ≤ c) (hm : c ≤ 9223372036854775807) (hsr : sr < 4294967296) (hds : ds < 4294967296) (he : Env W) (h0 : errT sr ds bs ≠ 0) :
    Calls Tryd.prog 23 #[.int .u32 (sr : Int), .int .u32 (ds : Int), .slice A n c] W fun e w' => e = .returned (badV (errT sr ds bs)) ∧ Below W.heap.size W w' := by
  have HC := Lib.hid (check_any sr ds A n c bs B W hb hB hc hm hsr hds he)
  have d : ((errT sr ds bs : Int) != 0) = true := by simp; omega
  generalize errT sr ds bs = er at HC d
  clear hb h0
  go_enter Tryd.func23, Tryd.ntmps23
  go_wp2_with fail
  go_at_call 37
  refine HC.out.mono ?_
  rintro e w1 ⟨rfl, hb1⟩
  have HW1 := Lib.hid hb1
  clear hb1
  go_wp2_with fail
  exact bodyPost_ret (v := badV er) (by simp [results, Tryd.results23, go_sem]) rfl ⟨rfl, HW1.out⟩

theorem port_int (A : Option Addr) (n c : Nat) (bs : List UInt8) (B : Nat) (a : Int) (W : World) (hb : Bts W B A n bs) (hc : n ≤ c) (hm : c ≤ 9223372036854775807) (h0 : 0 ≤ a) (h3 : a + 2 ≤ n) :
    Calls Tryd.prog 38 #[.slice A n c, .int .i64 a] W fun e w' => e = .returned (.int .u16 (word bs a.toNat : Int)) ∧ w' = W := by
  obtain ⟨a, rfl⟩ := Int.eq_ofNat_of_zero_le h0
  exact (port_any A n c bs B a W hb hc hm (by omega)).mono fun _ _ ⟨h1, h2⟩ => ⟨h1, h2.symm⟩

set_option maxHeartbeats 1000000 in
theorem parse_ok (sr ds : Nat) (A : Option Addr) (n c : Nat) (bs : List UInt8) (B : Nat) (W : World) (hb : Bts W B A n bs) (hB : B ≤ W.heap.size) (hc : n ≤ c) (hm : c ≤ 9223372036854775807) (hsr : sr < 4294967296) (hds : ds < 4294967296) (he : Env W) (h0 : errT sr ds bs = 0) :
    Calls Tryd.prog 23 #[.int .u32 (sr : Int), .int .u32 (ds : Int), .slice A n c] W fun e w' => e = .returned (okV bs) ∧ Below W.heap.size W w' := by
  have HC := Lib.hid (check_any sr ds A n c bs B W hb hB hc hm hsr hds he)
  have h20 := TcpM.errT_len h0
  rw [hb.len] at h20
  rw [h0] at HC
  have HB := Lib.hid hb
  have w0 := word_lt bs 0
  have w2 := word_lt bs 2
  have y13 := byt_lt bs 13
  have i13 : (13 : Int) < n := by omega
  have a63 := and63 (byt bs 13) y13
  clear hb h0
  go_enter Tryd.func23, Tryd.ntmps23
  go_wp2_with fail
  go_at_call 37
  refine HC.out.mono ?_
  rintro e w1 ⟨rfl, hb1⟩
  have HW1 := Lib.hid hb1
  have HB1 := HB.out.below (hb1.mono hB)
  obtain ⟨b, off, rfl, -, hcell⟩ := HB1.at_ (by omega)
  have c13 := hcell 13 (by omega)
  have HB1 := Lib.hid HB1
  clear hb1 hcell HC
  go_wp2_with fail
  go_quiet ((go_at_call 38; exact Calls.quiet_of_same (port_int (some ⟨b, off, none⟩) n c bs B _ _ (HB1.out.drewN _) hc hm (by omega) (by omega))))
  go_wp2_with fail
  exact bodyPost_ret (v := okV bs) (by simp [results, Tryd.results23, go_sem]) rfl ⟨rfl, below_drewN' HW1.out _⟩

/-- Both, whatever is wrong. -/
theorem parse_any (sr ds : Nat) (A : Option Addr) (n c : Nat) (bs : List UInt8) (B : Nat) (W : World) (hb : Bts W B A n bs) (hB : B ≤ W.heap.size) (hc : n ≤ c) (hm : c ≤ 9223372036854775807) (hsr : sr < 4294967296) (hds : ds < 4294967296) (he : Env W) :
    Calls Tryd.prog 23 #[.int .u32 (sr : Int), .int .u32 (ds : Int), .slice A n c] W fun e w' => e = .returned (pV (errT sr ds bs) bs) ∧ Below W.heap.size W w' := by
  by_cases h0 : errT sr ds bs = 0
  · rw [pV_ok bs h0]; exact parse_ok sr ds A n c bs B W hb hB hc hm hsr hds he h0
  · rw [pV_bad bs h0]; exact parse_bad sr ds A n c bs B W hb hB hc hm hsr hds he h0
end Tc
end Go.Proofs.YtapcjjhbdhkhhaaDoor
