/- Layer 6: contracts of udp's check and Parse. -/
import Derived.Test.YtapcjjhbdhkhhaaDoorUdpA
import Derived.Deep.QuietTactic
set_option linter.unusedVariables false
set_option linter.unusedSimpArgs false
namespace Go.Proofs.YtapcjjhbdhkhhaaDoor
open Go.ChangeShapes Go.WideShapes Go.ChangeAt Go.RowKit Go.Mtl
namespace Ud
open TcpM (psB psN psN_le)
open UdpM (totU totU_le errU errU_le datB dat ckU fullN two)
open SumM (add add_le)
open IpM (word word_lt twoB fourB)
open Ip (ret_int MadeO Row But u8_info own_bts own_lit)

set_option maxHeartbeats 2000000 in
theorem check_any (sr ds : Nat) (A : Option Addr) (n c : Nat) (bs : List UInt8) (B : Nat) (W : World) (hb : Bts W B A n bs) (hB : B ≤ W.heap.size) (hc : n ≤ c) (hm : c ≤ 9223372036854775807) (hsr : sr < 4294967296) (hds : ds < 4294967296) :
    Calls Tryd.prog 39 #[.int .u32 (sr : Int), .int .u32 (ds : Int), .slice A n c] W fun e w' => e = .returned (.int .i64 (errU sr ds bs : Int)) ∧ Below W.heap.size W w' := by
  have hl := hb.len
  by_cases h8 : n < 8
  · have HF : Hid (errU sr ds bs = 4) := by show _ = _; unfold errU; rw [if_pos (by omega)]
    clear hb hl
    go_enter Tryd.func39, Tryd.ntmps39
    go_wp2_with fail
    go_ret
    exact ⟨ret_int (by rw [HF.out]; rfl), Below.refl _ _⟩
  · obtain ⟨b, off, rfl, hlt, hcell⟩ := hb.at_ (by omega)
    have HB := Lib.hid hb
    have HL := Lib.hid hl
    have HW4 := Lib.hid (fun W (hb : Bts W B (some ⟨b, off, none⟩) n bs) => word_int (some ⟨b, off, none⟩) n c bs B 4 W hb hc hm (by omega) (by omega))
    have HW6 := Lib.hid (fun W (hb : Bts W B (some ⟨b, off, none⟩) n bs) => word_int (some ⟨b, off, none⟩) n c bs B 6 W hb hc hm (by omega) (by omega))
    have v4 := word_lt bs 4
    have v6 := word_lt bs 6
    have HE : Hid (errU sr ds bs = if word bs 4 < 8 then 6 else if n < word bs 4 then 4 else if word bs 6 = 0 then 0 else if totU sr ds (bs.take (word bs 4)) = 65535 then 0 else 7) := by
      show _ = _; unfold errU; rw [if_neg (by omega), hl]
    have HT := Lib.hid (fun W (hb : Bts W B (some ⟨b, off, none⟩) n bs) (hB : B ≤ W.heap.size) (hk : word bs 4 ≤ n) => total_any sr ds (some ⟨b, off, none⟩) (word bs 4) c (bs.take (word bs 4)) B W (hb.front _ hk) hB (by omega) hm hsr hds)
    have htl := totU_le sr ds (bs.take (word bs 4))
    clear hb hl hcell
    have e4 : word bs (4 : Int).toNat = word bs 4 := rfl
    have e6 : word bs (6 : Int).toNat = word bs 6 := rfl
    rw [e4] at HW4
    rw [e6] at HW6
    generalize totU sr ds (bs.take (word bs 4)) = t at HE HT htl
    generalize word bs 4 = v at HW4 v4 HE HT
    generalize word bs 6 = u at HW6 v6 HE
    by_cases h5 : v < 8
    · have HF : Hid (errU sr ds bs = 6) := by show _ = _; rw [HE.out, if_pos h5]
      go_enter Tryd.func39, Tryd.ntmps39
      go_wp2_with fail
      go_at_call 40
      refine (HW4.out _ HB.out).mono ?_
      rintro e w1 ⟨rfl, k, rfl⟩
      go_wp2_with fail
      go_ret
      exact ⟨ret_int (by rw [HF.out]; rfl), below_drewN' (Below.refl _ _) _⟩
    · by_cases h6 : n < v
      · have HF : Hid (errU sr ds bs = 4) := by show _ = _; rw [HE.out, if_neg h5, if_pos h6]
        go_enter Tryd.func39, Tryd.ntmps39
        go_wp2_with fail
        go_at_call 40
        refine (HW4.out _ HB.out).mono ?_
        rintro e w1 ⟨rfl, k, rfl⟩
        go_wp2_with fail
        go_ret
        exact ⟨ret_int (by rw [HF.out]; rfl), below_drewN' (Below.refl _ _) _⟩
      · by_cases h7 : u = 0
        · have HF : Hid (errU sr ds bs = 0) := by show _ = _; rw [HE.out, if_neg h5, if_neg h6, if_pos h7]
          subst h7
          go_enter Tryd.func39, Tryd.ntmps39
          go_wp2_with fail
          go_at_call 40
          refine (HW4.out _ HB.out).mono ?_
          rintro e w1 ⟨rfl, k, rfl⟩
          go_wp2_with fail
          go_at_call 40
          refine (HW6.out _ (HB.out.drewN _)).mono ?_
          rintro e w1 ⟨rfl, k2, rfl⟩
          go_wp2_with fail
          go_ret
          exact ⟨ret_int (by rw [HF.out]; rfl), below_drewN' (Below.refl _ _) _⟩
        · have d6 : ((u : Int) != 0) = true := by simp; omega
          have HE2 : Hid (errU sr ds bs = if t = 65535 then 0 else 7) := by show _ = _; rw [HE.out, if_neg h5, if_neg h6, if_neg h7]
          clear HE
          go_enter Tryd.func39, Tryd.ntmps39
          go_wp2_with fail
          go_at_call 40
          refine (HW4.out _ HB.out).mono ?_
          rintro e w1 ⟨rfl, k, rfl⟩
          go_wp2_with fail
          go_at_call 40
          refine (HW6.out _ (HB.out.drewN _)).mono ?_
          rintro e w1 ⟨rfl, k2, rfl⟩
          go_wp2_with fail
          go_at_call 53
          refine (HT.out _ (HB.out.drewN _) hB (by omega)).mono ?_
          rintro e w3 ⟨rfl, hb3⟩
          have HW3 := Lib.hid ((below_drewN' (Below.refl _ W) (k + k2)).trans hb3)
          clear hb3 HT HW4 HW6
          by_cases h9 : t = 65535
          · have d7 : ((t : Int) != 65535) = false := by simp; omega
            have HF : Hid (errU sr ds bs = 0) := by show _ = _; rw [HE2.out, if_pos h9]
            clear h9 HE2
            go_wp2_with fail
            go_ret
            exact ⟨ret_int (by rw [HF.out]; rfl), HW3.out⟩
          · have d7 : ((t : Int) != 65535) = true := by simp; omega
            have HF : Hid (errU sr ds bs = 7) := by show _ = _; rw [HE2.out, if_neg h9]
            clear h9 HE2
            go_wp2_with fail
            go_ret
            exact ⟨ret_int (by rw [HF.out]; rfl), HW3.out⟩

/-- What Parse answers. -/
abbrev badV (e : Nat) : Value := .tuple #[.int .u16 0, .int .u16 0, .int .i64 (e : Int)]
abbrev okV (bs : List UInt8) : Value := .tuple #[.int .u16 (word bs 0 : Int), .int .u16 (word bs 2 : Int), .int .i64 0]
def pV (e : Nat) (bs : List UInt8) : Value := if e = 0 then okV bs else badV e
theorem pV_ok {e : Nat} (bs : List UInt8) (h : e = 0) : pV e bs = okV bs := by unfold pV; rw [if_pos h]
theorem pV_bad {e : Nat} (bs : List UInt8) (h : e ≠ 0) : pV e bs = badV e := by unfold pV; rw [if_neg h]

theorem parse_bad (sr ds : Nat) (A : Option Addr) (n c : Nat) (bs : List UInt8) (B : Nat) (W : World) (hb : Bts W B A n bs) (hB : B ≤ W.heap.size) (hc : n ≤ c) (hm : c ≤ 9223372036854775807) (hsr : sr < 4294967296) (hds : ds < 4294967296) (h0 : errU sr ds bs ≠ 0) :
    Calls Tryd.prog 24 #[.int .u32 (sr : Int), .int .u32 (ds : Int), .slice A n c] W fun e w' => e = .returned (badV (errU sr ds bs)) ∧ Below W.heap.size W w' := by
  have HC := Lib.hid (check_any sr ds A n c bs B W hb hB hc hm hsr hds)
  have d : ((errU sr ds bs : Int) != 0) = true := by simp; omega
  generalize errU sr ds bs = er at HC d
  clear hb h0
  go_enter Tryd.func24, Tryd.ntmps24
  go_wp2_with fail
  go_at_call 39
  refine HC.out.mono ?_
  rintro e w1 ⟨rfl, hb1⟩
  have HW1 := Lib.hid hb1
  clear hb1
  go_wp2_with fail
  exact bodyPost_ret (v := badV er) (by simp [results, Tryd.results24, go_sem]) rfl ⟨rfl, HW1.out⟩

set_option maxHeartbeats 1000000 in
theorem parse_ok (sr ds : Nat) (A : Option Addr) (n c : Nat) (bs : List UInt8) (B : Nat) (W : World) (hb : Bts W B A n bs) (hB : B ≤ W.heap.size) (hc : n ≤ c) (hm : c ≤ 9223372036854775807) (hsr : sr < 4294967296) (hds : ds < 4294967296) (h0 : errU sr ds bs = 0) :
    Calls Tryd.prog 24 #[.int .u32 (sr : Int), .int .u32 (ds : Int), .slice A n c] W fun e w' => e = .returned (okV bs) ∧ Below W.heap.size W w' := by
  have HC := Lib.hid (check_any sr ds A n c bs B W hb hB hc hm hsr hds)
  have h8 := UdpM.errU_len h0
  rw [hb.len] at h8
  rw [h0] at HC
  have HB := Lib.hid hb
  have w0 := word_lt bs 0
  have w2 := word_lt bs 2
  clear hb h0
  go_enter Tryd.func24, Tryd.ntmps24
  go_wp2_with fail
  go_at_call 39
  refine HC.out.mono ?_
  rintro e w1 ⟨rfl, hb1⟩
  have HW1 := Lib.hid hb1
  have HB1 := Lib.hid (HB.out.below (hb1.mono hB))
  clear hb1 HC
  go_wp2_with fail
  go_at_call 40
  refine (word_int A n c bs B 0 w1 HB1.out hc hm (by omega) (by omega)).mono ?_
  rintro e w' ⟨rfl, k, rfl⟩
  go_wp2_with fail
  go_at_call 40
  refine (word_int A n c bs B 2 _ (HB1.out.drewN k) hc hm (by omega) (by omega)).mono ?_
  rintro e w' ⟨rfl, k2, rfl⟩
  go_wp2_with fail
  exact bodyPost_ret (v := okV bs) (by simp [results, Tryd.results24, go_sem]) rfl ⟨rfl, below_drewN' HW1.out _⟩

theorem parse_any (sr ds : Nat) (A : Option Addr) (n c : Nat) (bs : List UInt8) (B : Nat) (W : World) (hb : Bts W B A n bs) (hB : B ≤ W.heap.size) (hc : n ≤ c) (hm : c ≤ 9223372036854775807) (hsr : sr < 4294967296) (hds : ds < 4294967296) :
    Calls Tryd.prog 24 #[.int .u32 (sr : Int), .int .u32 (ds : Int), .slice A n c] W fun e w' => e = .returned (pV (errU sr ds bs) bs) ∧ Below W.heap.size W w' := by
  by_cases h0 : errU sr ds bs = 0
  · rw [pV_ok bs h0]; exact parse_ok sr ds A n c bs B W hb hB hc hm hsr hds h0
  · rw [pV_bad bs h0]; exact parse_bad sr ds A n c bs B W hb hB hc hm hsr hds h0

end Ud
end Go.Proofs.YtapcjjhbdhkhhaaDoor
