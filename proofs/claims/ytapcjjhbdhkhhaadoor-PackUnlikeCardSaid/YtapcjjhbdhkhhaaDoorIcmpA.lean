/- Layer 7: contracts of icmp's isEcho, put, check and Parse. -/
import Derived.Test.YtapcjjhbdhkhhaaDoorSumD
import Derived.Test.YtapcjjhbdhkhhaaDoorIpE
import Derived.Test.YtapcjjhbdhkhhaaDoorComW
import Derived.Test.YtapcjjhbdhkhhaaDoorIcmpM
set_option linter.unusedVariables false
set_option linter.unusedSimpArgs false
namespace Go.Proofs.YtapcjjhbdhkhhaaDoor
open Go.ChangeShapes Go.WideShapes Go.ChangeAt Go.RowKit Go.Mtl
namespace Ic
open IcM (echoB echo_yes echo_no errI errI_le msgB msg ckI two)
open SumM (add add_le)
open IpM (word word_lt twoB)
open Ip (ret_int MadeO Row But u8_info own_bts own_lit)

theorem isEcho_any (kd : Nat) (b : Bool) (hb : echoB kd = b) (W : World) :
    Calls Tryd.prog 46 #[.int .u8 (kd : Int)] W fun e w' => e = .returned (.bool b) ∧ W = w' := by
  cases b
  · obtain ⟨h8, h0⟩ := echo_no hb
    have d8 : ((kd : Int) == 8) = false := by simp; omega
    have d0 : ((kd : Int) == 0) = false := by simp; omega
    clear hb h8 h0
    go_enter Tryd.func46, Tryd.ntmps46
    go_wp2_with fail
    go_ret
    exact ⟨rfl, rfl⟩
  · rcases echo_yes hb with rfl | rfl
    · go_enter Tryd.func46, Tryd.ntmps46
      go_wp2_with fail
      go_ret
      exact ⟨rfl, rfl⟩
    · go_enter Tryd.func46, Tryd.ntmps46
      go_wp2_with fail
      go_ret
      exact ⟨rfl, rfl⟩

theorem put_any (g N : Nat) (l : List UInt8) (a v : Nat) (W : World) (hg : Row W g l) (hl : l.length = N) (hN : N ≤ 1000000) (h3 : a + 2 ≤ N) (hv : v < 65536) :
    Calls Tryd.prog 47 #[.slice (some ⟨g, 0, none⟩) N N, .int .i64 (a : Int), .int .u16 (v : Int)] W fun e w' => e = .returned (.tuple #[]) ∧ Row w' g (two l a v) ∧ But g W w' := by
  have c0 := hg.cell a (by omega)
  have c1 := hg.cell (a + 1) (by omega)
  have f0 := hg.frozen a
  have f1 := hg.frozen (a + 1)
  have i0 : (a : Int) < N := by omega
  have i1 : (a : Int) + 1 < N := by omega
  have HR : Hid (∀ x y : Int, x = ((UInt8.ofNat (v / 256)).toNat : Int) → y = ((UInt8.ofNat v).toNat : Int) → Row ((W.setCell ⟨g, a, none⟩ (.int .u8 x)).setCell ⟨g, a + 1, none⟩ (.int .u8 y)) g (two l a v) ∧ But g W ((W.setCell ⟨g, a, none⟩ (.int .u8 x)).setCell ⟨g, a + 1, none⟩ (.int .u8 y))) := by
    intro x y hx hy
    refine ⟨(hg.set a x _ hx).set (a + 1) y _ hy, rfl, rfl, rfl, by simp [World.setCell], fun k _ hk => ?_⟩
    exact (Below.heap_setCell _ ⟨g, a + 1, none⟩ _ k (fun e => hk (by rw [e]))).trans (Below.heap_setCell W ⟨g, a, none⟩ _ k (fun e => hk (by rw [e])))
  clear hg hl
  go_enter Tryd.func47, Tryd.ntmps47
  go_wp2_with fail
  go_end0
  exact ⟨rfl, HR.out _ _ (by simp; omega) (by simp)⟩

set_option maxHeartbeats 2000000 in
theorem check_any (A : Option Addr) (n c : Nat) (bs : List UInt8) (B : Nat) (W : World) (hb : Bts W B A n bs) (hB : B ≤ W.heap.size) (hc : n ≤ c) (hm : c ≤ 9223372036854775807) :
    Calls Tryd.prog 41 #[.slice A n c] W fun e w' => e = .returned (.int .i64 (errI bs : Int)) ∧ W = w' := by
  have hl := hb.len
  by_cases h8 : n < 8
  · have HF : Hid (errI bs = 4) := by show _ = _; unfold errI; rw [if_pos (by omega)]
    clear hb hl
    go_enter Tryd.func41, Tryd.ntmps41
    go_wp2_with fail
    go_ret
    exact ⟨ret_int (by rw [HF.out]; rfl), rfl⟩
  · have HT := Lib.hid (Sm.add0_any A n c bs W B hb hc hm)
    obtain ⟨b, off, rfl, hlt, hcell⟩ := hb.at_ (by omega)
    have c0 : W.cell? ⟨b, off, none⟩ = _ := hcell 0 (by omega)
    have c1 := hcell 1 (by omega)
    have y0 := byt_lt bs 0
    have y1 := byt_lt bs 1
    have htl := add_le 0 bs
    have HE : Hid (errI bs = if add 0 bs = 65535 then (if echoB (byt bs 0) = true then (if byt bs 1 = 0 then 0 else 10) else 10) else 7) := by show _ = _; unfold errI; rw [if_neg (by omega)]
    have HK := Lib.hid (fun W b h => isEcho_any (byt bs 0) b h W)
    clear hb hl hcell
    generalize add 0 bs = t at HE HT htl
    generalize byt bs 0 = k at *
    generalize byt bs 1 = cd at *
    by_cases h9 : t = 65535
    · have d7 : ((t : Int) != 65535) = false := by simp; omega
      cases hk : echoB k
      · have HF : Hid (errI bs = 10) := by show _ = _; rw [HE.out, if_pos h9, hk]; rfl
        have HK := Lib.hid (HK.out W false hk)
        clear h9 HE hk
        go_enter Tryd.func41, Tryd.ntmps41
        go_wp2_with fail
        go_at_call 49
        refine HT.out.mono ?_
        rintro e w1 ⟨rfl, rfl⟩
        go_wp2_with fail
        go_at_call 46
        refine HK.out.mono ?_
        rintro e w1 ⟨rfl, rfl⟩
        go_wp2_with fail
        go_ret
        exact ⟨ret_int (by rw [HF.out]; rfl), rfl⟩
      · have HK := Lib.hid (HK.out W true hk)
        by_cases hcd : cd = 0
        · have HF : Hid (errI bs = 0) := by show _ = _; rw [HE.out, if_pos h9, if_pos hk, if_pos hcd]
          have d0 : ((cd : Int) != 0) = false := by simp; omega
          clear h9 HE hk hcd
          go_enter Tryd.func41, Tryd.ntmps41
          go_wp2_with fail
          go_at_call 49
          refine HT.out.mono ?_
          rintro e w1 ⟨rfl, rfl⟩
          go_wp2_with fail
          go_at_call 46
          refine HK.out.mono ?_
          rintro e w1 ⟨rfl, rfl⟩
          go_wp2_with fail
          go_ret
          exact ⟨ret_int (by rw [HF.out]; rfl), rfl⟩
        · have HF : Hid (errI bs = 10) := by show _ = _; rw [HE.out, if_pos h9, if_pos hk, if_neg hcd]
          have d0 : ((cd : Int) != 0) = true := by simp; omega
          clear h9 HE hk hcd
          go_enter Tryd.func41, Tryd.ntmps41
          go_wp2_with fail
          go_at_call 49
          refine HT.out.mono ?_
          rintro e w1 ⟨rfl, rfl⟩
          go_wp2_with fail
          go_at_call 46
          refine HK.out.mono ?_
          rintro e w1 ⟨rfl, rfl⟩
          go_wp2_with fail
          go_ret
          exact ⟨ret_int (by rw [HF.out]; rfl), rfl⟩
    · have d7 : ((t : Int) != 65535) = true := by simp; omega
      have HF : Hid (errI bs = 7) := by show _ = _; rw [HE.out, if_neg h9]
      clear h9 HE
      go_enter Tryd.func41, Tryd.ntmps41
      go_wp2_with fail
      go_at_call 49
      refine HT.out.mono ?_
      rintro e w1 ⟨rfl, rfl⟩
      go_wp2_with fail
      go_ret
      exact ⟨ret_int (by rw [HF.out]; rfl), rfl⟩

/-- What Parse answers. -/
abbrev badV (e : Nat) : Value := .tuple #[.int .u8 0, .int .u16 0, .int .i64 (e : Int)]
abbrev okV (bs : List UInt8) : Value := .tuple #[.int .u8 (byt bs 0 : Int), .int .u16 (word bs 4 : Int), .int .i64 0]
def pV (e : Nat) (bs : List UInt8) : Value := if e = 0 then okV bs else badV e
theorem pV_ok {e : Nat} (bs : List UInt8) (h : e = 0) : pV e bs = okV bs := by unfold pV; rw [if_pos h]
theorem pV_bad {e : Nat} (bs : List UInt8) (h : e ≠ 0) : pV e bs = badV e := by unfold pV; rw [if_neg h]

theorem or_word (a b : Nat) (ha : a < 256) (hb : b < 256) : bits .or .u16 ((a : Int) * 256) (b : Int) = ((a * 256 + b : Nat) : Int) := by
  have e : (a : Int) * 256 = ((a * 256 : Nat) : Int) := by omega
  rw [e]
  show IntKind.u16.wrap ((BitVec.ofInt 16 ((a * 256 : Nat) : Int) ||| BitVec.ofInt 16 (b : Int)).toNat : Int) = _
  rw [BitVec.ofInt_natCast, BitVec.ofInt_natCast, BitVec.toNat_or, BitVec.toNat_ofNat, BitVec.toNat_ofNat, Nat.mod_eq_of_lt (by omega), Nat.mod_eq_of_lt (by omega)]
  have h := Nat.shiftLeft_add_eq_or_of_lt (i := 8) (by omega : b < 2 ^ 8) a
  rw [Nat.shiftLeft_eq, show 2 ^ 8 = 256 from rfl] at h
  rw [← h]
  simp [IntKind.wrap, IntKind.bits, IntKind.signed]
  omega

theorem parse_bad (A : Option Addr) (n c : Nat) (bs : List UInt8) (B : Nat) (W : World) (hb : Bts W B A n bs) (hB : B ≤ W.heap.size) (hc : n ≤ c) (hm : c ≤ 9223372036854775807) (h0 : errI bs ≠ 0) :
    Calls Tryd.prog 25 #[.slice A n c] W fun e w' => e = .returned (badV (errI bs)) ∧ Below W.heap.size W w' := by
  have HC := Lib.hid (check_any A n c bs B W hb hB hc hm)
  have d : ((errI bs : Int) != 0) = true := by simp; omega
  generalize errI bs = er at HC d
  clear hb h0
  go_enter Tryd.func25, Tryd.ntmps25
  go_wp2_with fail
  go_at_call 41
  refine HC.out.mono ?_
  rintro e w1 ⟨rfl, rfl⟩
  go_wp2_with fail
  exact bodyPost_ret (v := badV er) (by simp [results, Tryd.results25, go_sem]) rfl ⟨rfl, Below.refl _ _⟩

set_option maxHeartbeats 1000000 in
theorem parse_ok (A : Option Addr) (n c : Nat) (bs : List UInt8) (B : Nat) (W : World) (hb : Bts W B A n bs) (hB : B ≤ W.heap.size) (hc : n ≤ c) (hm : c ≤ 9223372036854775807) (h0 : errI bs = 0) :
    Calls Tryd.prog 25 #[.slice A n c] W fun e w' => e = .returned (okV bs) ∧ Below W.heap.size W w' := by
  have HC := Lib.hid (check_any A n c bs B W hb hB hc hm)
  have h8 := IcM.errI_len h0
  rw [hb.len] at h8
  rw [h0] at HC
  obtain ⟨b, off, rfl, hlt, hcell⟩ := hb.at_ (by omega)
  have c0 : W.cell? ⟨b, off, none⟩ = _ := hcell 0 (by omega)
  have c4 := hcell 4 (by omega)
  have c5 := hcell 5 (by omega)
  have y0 := byt_lt bs 0
  have y4 := byt_lt bs 4
  have y5 := byt_lt bs 5
  have HW : Hid (bits .or .u16 ((byt bs 4 : Int) * 256) (byt bs 5 : Int) = (word bs 4 : Int)) := or_word _ _ y4 y5
  clear hb h0 hcell
  go_enter Tryd.func25, Tryd.ntmps25
  go_wp2_with fail
  go_at_call 41
  refine HC.out.mono ?_
  rintro e w1 ⟨rfl, rfl⟩
  clear HC
  go_wp2_with fail
  go_quiet (fail)
  go_wp2_with fail
  exact bodyPost_ret (v := okV bs) (by simp [results, Tryd.results25, go_sem, HW.out]) rfl ⟨rfl, below_drewN' (Below.refl _ _) _⟩

theorem parse_any (A : Option Addr) (n c : Nat) (bs : List UInt8) (B : Nat) (W : World) (hb : Bts W B A n bs) (hB : B ≤ W.heap.size) (hc : n ≤ c) (hm : c ≤ 9223372036854775807) :
    Calls Tryd.prog 25 #[.slice A n c] W fun e w' => e = .returned (pV (errI bs) bs) ∧ Below W.heap.size W w' := by
  by_cases h0 : errI bs = 0
  · rw [pV_ok bs h0]; exact parse_ok A n c bs B W hb hB hc hm h0
  · rw [pV_bad bs h0]; exact parse_bad A n c bs B W hb hB hc hm h0

end Ic
end Go.Proofs.YtapcjjhbdhkhhaaDoor
