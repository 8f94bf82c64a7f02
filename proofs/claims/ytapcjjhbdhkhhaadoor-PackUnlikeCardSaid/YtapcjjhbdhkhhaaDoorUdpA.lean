/- Layer 6: contracts of udp's word, put, total, checksum, check and Parse. -/
import Derived.Test.YtapcjjhbdhkhhaaDoorTcpE
import Derived.Test.YtapcjjhbdhkhhaaDoorUdpM
set_option linter.unusedVariables false
set_option linter.unusedSimpArgs false
namespace Go.Proofs.YtapcjjhbdhkhhaaDoor
open Go.ChangeShapes Go.WideShapes Go.ChangeAt Go.RowKit Go.Mtl
namespace Ud
open TcpM (psB psN psN_le)
open UdpM (totU totU_le errU errU_le datB dat ckU fullN two)
open SumM (add add_le)
open IpM (word word_lt twoB fourB)
open Ip (ret_int MadeO Row But u8_info own_bts own_lit)

theorem or_word (a b : Nat) (ha : a < 256) (hb : b < 256) : bits .or .u16 ((a : Int) * 256) (b : Int) = ((a * 256 + b : Nat) : Int) := by
  have e : (a : Int) * 256 = ((a * 256 : Nat) : Int) := by omega
  rw [e]
  show IntKind.u16.wrap ((BitVec.ofInt 16 ((a * 256 : Nat) : Int) ||| BitVec.ofInt 16 (b : Int)).toNat : Int) = _
  rw [BitVec.ofInt_natCast, BitVec.ofInt_natCast, BitVec.toNat_or, BitVec.toNat_ofNat, BitVec.toNat_ofNat, Nat.mod_eq_of_lt (by omega), Nat.mod_eq_of_lt (by omega)]
  have h := Nat.shiftLeft_add_eq_or_of_lt (i := 8) (by omega : b < 2 ^ 8) a
  rw [Nat.shiftLeft_eq, show 2 ^ 8 = 256 from rfl] at h
  rw [← h]
  simp [IntKind.wrap, IntKind.bits, IntKind.signed]
  omega

theorem word_any (A : Option Addr) (n c : Nat) (bs : List UInt8) (B : Nat) (a : Nat) (W : World) (hb : Bts W B A n bs) (hc : n ≤ c) (hm : c ≤ 9223372036854775807) (h2 : a + 2 ≤ n) :
    Calls Tryd.prog 40 #[.slice A n c, .int .i64 (a : Int)] W fun e w' => e = .returned (.int .u16 (word bs a : Int)) ∧ ∃ k, w' = W.drewN k := by
  obtain ⟨b, off, rfl, hlt, hcell⟩ := hb.at_ (by omega)
  have c0 := hcell a (by omega)
  have c1 := hcell (a + 1) (by omega)
  have y0 := byt_lt bs a
  have y1 := byt_lt bs (a + 1)
  have HF : Hid (bits .or .u16 ((byt bs a : Int) * 256) (byt bs (a + 1) : Int) = (word bs a : Int)) := or_word _ _ y0 y1
  have i0 : (a : Int) < n := by omega
  have i1 : (a : Int) + 1 < n := by omega
  have i2 : a < n := by omega
  clear hb hcell
  go_enter Tryd.func40, Tryd.ntmps40
  go_wp2
  go_quiet (fail)
  go_wp2
  go_ret
  exact ⟨ret_int (by rw [← HF.out]), _, rfl⟩

theorem word_int (A : Option Addr) (n c : Nat) (bs : List UInt8) (B : Nat) (a : Int) (W : World) (hb : Bts W B A n bs) (hc : n ≤ c) (hm : c ≤ 9223372036854775807) (h0 : 0 ≤ a) (h3 : a + 2 ≤ n) :
    Calls Tryd.prog 40 #[.slice A n c, .int .i64 a] W fun e w' => e = .returned (.int .u16 (word bs a.toNat : Int)) ∧ ∃ k, w' = W.drewN k := by
  obtain ⟨a, rfl⟩ := Int.eq_ofNat_of_zero_le h0
  exact word_any A n c bs B a W hb hc hm (by omega)

theorem put_any (g N : Nat) (l : List UInt8) (a v : Nat) (W : World) (hg : Row W g l) (hl : l.length = N) (hN : N ≤ 1000000) (h3 : a + 2 ≤ N) (hv : v < 65536) :
    Calls Tryd.prog 44 #[.slice (some ⟨g, 0, none⟩) N N, .int .i64 (a : Int), .int .u16 (v : Int)] W fun e w' => e = .returned (.tuple #[]) ∧ Row w' g (two l a v) ∧ But g W w' := by
  have c0 := hg.cell a (by omega)
  have c1 := hg.cell (a + 1) (by omega)
  have f0 := hg.frozen a
  have f1 := hg.frozen (a + 1)
  have i0 : (a : Int) < N := by omega
  have i1 : (a : Int) + 1 < N := by omega
  have HR : Hid (∀ x y : Int, x = ((UInt8.ofNat (v / 256)).toNat : Int) → y = ((UInt8.ofNat v).toNat : Int) → Row ((W.setCell ⟨g, a, none⟩ (.int .u8 x)).setCell ⟨g, a + 1, none⟩ (.int .u8 y)) g (two l a v) ∧ But g W ((W.setCell ⟨g, a, none⟩ (.int .u8 x)).setCell ⟨g, a + 1, none⟩ (.int .u8 y))) := by
    intro x y hx hy
    refine ⟨(hg.set a x _ hx).set (a + 1) y _ hy, rfl, rfl, rfl, by simp [World.setCell], fun k _ hk => ?_⟩
    exact (Below.heap_setCell _ ⟨g, a + 1, none⟩ _ k (fun e => hk (by rw [e]))).trans (Below.heap_setCell W ⟨g, a, none⟩ _ k (fun e => hk (by rw [e])))
  clear hg hl
  go_enter Tryd.func44, Tryd.ntmps44
  go_wp2_with fail
  go_end0
  exact ⟨rfl, HR.out _ _ (by simp; omega) (by simp)⟩

theorem total_any (sr ds : Nat) (A : Option Addr) (n c : Nat) (bs : List UInt8) (B : Nat) (W : World) (hb : Bts W B A n bs) (hB : B ≤ W.heap.size) (hc : n ≤ c) (hm : c ≤ 9223372036854775807) (hsr : sr < 4294967296) (hds : ds < 4294967296) :
    Calls Tryd.prog 53 #[.int .u32 (sr : Int), .int .u32 (ds : Int), .slice A n c] W fun e w' => e = .returned (.int .u16 (totU sr ds bs : Int)) ∧ Below W.heap.size W w' := by
  have HT : Hid (add (psN 17 sr ds n) bs = totU sr ds bs) := by show _ = _; rw [← hb.len]; rfl
  have HB := Lib.hid hb
  clear hb
  go_enter Tryd.func53, Tryd.ntmps53
  go_wp2_with fail
  go_at_call 54
  refine (Tc.pseudo_any 17 sr ds (n : Int) n (by omega) hsr hds (by omega) (Tc.len_wrap n (by omega)) W).mono ?_
  rintro e w1 ⟨rfl, hb1⟩
  have HB1 := Lib.hid (HB.out.below (hb1.mono hB))
  have HW1 := Lib.hid hb1
  have hp := psN_le 17 sr ds n
  clear hb1
  go_wp2_with fail
  go_at_call 49
  refine (Sm.add_any (psN 17 sr ds n) A n c bs w1 B HB1.out hp hc hm).mono ?_
  rintro e w' ⟨rfl, rfl⟩
  go_wp2_with fail
  go_ret
  exact ⟨ret_int (by rw [HT.out]), HW1.out⟩

theorem checksum_any (sr ds : Nat) (A : Option Addr) (n c : Nat) (bs : List UInt8) (B : Nat) (W : World) (hb : Bts W B A n bs) (hB : B ≤ W.heap.size) (hc : n ≤ c) (hm : c ≤ 9223372036854775807) (hsr : sr < 4294967296) (hds : ds < 4294967296) :
    Calls Tryd.prog 45 #[.int .u32 (sr : Int), .int .u32 (ds : Int), .slice A n c] W fun e w' => e = .returned (.int .u16 (fullN (totU sr ds bs) : Int)) ∧ Below W.heap.size W w' := by
  have HT := Lib.hid (total_any sr ds A n c bs B W hb hB hc hm hsr hds)
  have htl := totU_le sr ds bs
  generalize totU sr ds bs = t at HT htl
  clear hb
  by_cases h : t = 65535
  · have HF : Hid (fullN t = 65535) := by show _ = _; unfold fullN; rw [if_pos (by omega)]
    have d : ((65535 : Int) - (t : Int) == 0) = true := by simp; omega
    go_enter Tryd.func45, Tryd.ntmps45
    go_wp2_with fail
    go_at_call 53
    refine HT.out.mono ?_
    rintro e w1 ⟨rfl, hb1⟩
    go_wp2_with fail
    go_ret
    exact ⟨ret_int (by rw [HF.out]; rfl), hb1⟩
  · have HF : Hid (fullN t = 65535 - t) := by show _ = _; unfold fullN; rw [if_neg (by omega)]
    have d : ((65535 : Int) - (t : Int) == 0) = false := by simp; omega
    go_enter Tryd.func45, Tryd.ntmps45
    go_wp2_with fail
    go_at_call 53
    refine HT.out.mono ?_
    rintro e w1 ⟨rfl, hb1⟩
    go_wp2_with fail
    go_ret
    exact ⟨ret_int (by rw [HF.out]; omega), hb1⟩

end Ud
end Go.Proofs.YtapcjjhbdhkhhaaDoor
