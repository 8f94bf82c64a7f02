/- Layer 5: contracts of field.Cut (its row is the call's own), tcp.put, Pseudo, total, port, and of the reference's Sane and Pseudo. -/
import Derived.Test.YtapcjjhbdhkhhaaDoorTcpA
import Derived.Test.YtapcjjhbdhkhhaaDoorComV
set_option linter.unusedVariables false
set_option linter.unusedSimpArgs false
namespace Go.Proofs.YtapcjjhbdhkhhaaDoor
open Go.ChangeShapes Go.WideShapes Go.ChangeAt Go.RowKit Go.Mtl
namespace Tc
open TcpM (saneB psB psN totN psN_le totN_le)
open SumM (add add_le)
open IpM (word word_lt twoB fourB)
open Ip (ret_int MadeO Row But u8_info own_bts own_lit)

theorem cutAt_own {W wr : World} {v s g : Nat} (hs : s ≤ 9223372036854775807) (h : Fld.CutAt W v s g s wr) (e : Ending) (he : e = .returned (.slice (some ⟨g, 0, none⟩) s s)) : MadeO W s (FldM.cutN v s) e wr := by
  obtain ⟨hb, l, hl, hby, ho⟩ := h
  have : l = FldM.cutN v s := eq_of_byt (by rw [FldM.cutN_len, hl]) (fun j hj => hby j (by omega))
  subst this
  exact ⟨_, _, he, ho, hb, Nat.le_refl _, hs⟩

theorem cut_own (v : Int) (s : Nat) (hv0 : 0 ≤ v) (hv : v < 18446744073709551616) (h1 : 1 ≤ s) (h2 : s ≤ 8) (W : World) :
    Calls Tryd.prog 48 #[.int .u64 v, .int .i64 (s : Int)] W (MadeO W s (FldM.cutN v.toNat s)) := by
  obtain ⟨i0, hi0, hz0, hz1, hz2⟩ := info_parts u8_info
  go_enter Tryd.func48, Tryd.ntmps48
  go_wp2_with (at_make; refine wpList_make_full _ rfl (.tmp 13) (.tmp 13) _ rfl W.heap.size 5 i0 _ 1 Tryd.underlying26 hi0 hz0 hz1 .i64 .i64 (s : Int) (s : Int) s rfl rfl rfl rfl (by rw [hz2]; omega) (by unfold maxLen; omega) (Nat.le_refl _) ?_; intro w1 hown hgr; rw [bvs_zeros] at hown)
  go_loopw [6, 17] (fun _ i w' => ∃ k : Nat, k ≤ s ∧ i = .int .i64 (k : Int) ∧ Fld.CutAt W v.toNat s W.heap.size k w') (fun _ i _ => s - (intOf i).toNat)
  case atStart => exact ⟨0, by omega, rfl, (Below.refl _ _).grown hgr (Nat.le_refl _) (by simp), List.replicate s 0, by simp, fun j h => absurd h (by omega), hown⟩
  case round =>
    obtain ⟨k, hk, rfl, hbel, l, hl, hby, ho⟩ := hrel
    clear hown hgr
    by_cases hlt : k < s
    · have hc1 := ho.cellAt k (by omega)
      rw [bvs_at l k (by omega)] at hc1
      have hf1 := ho.frozenAt k
      have HB := Lib.hid (Fld.cut_byte v s k hv0 hlt)
      have HO := Lib.hid ho
      have HY := Lib.hid hby
      have HL := Lib.hid hl
      clear ho hby hl
      go_wp2
      go_roundw
      case rel => exact ⟨k + 1, by omega, by go_num, Fld.cutAt_step (Nat.le_refl _) hlt l _ HB.out hbel HL.out HY.out HO.out⟩
      case measure => simp [intOf]; omega
    · have hK : k = s := by omega
      subst hK
      have HC := Lib.hid (cutAt_own (W := W) (v := v.toNat) (by omega) ⟨hbel, l, hl, hby, ho⟩)
      clear ho hby hl
      go_wp2
      go_ret
      exact HC.out _ rfl

theorem cut4_any (n : Nat) (hn : n < 4294967296) (W : World) :
    Calls Tryd.prog 48 #[.int .u64 (n : Int), .int .i64 4] W (MadeO W 4 (fourB n)) := by
  have h := cut_own (n : Int) 4 (by omega) (by omega) (by omega) (by omega) W
  rw [Int.toNat_natCast, IpM.cut_four] at h
  exact h
theorem cut2_any (n : Nat) (hn : n < 18446744073709551616) (W : World) :
    Calls Tryd.prog 48 #[.int .u64 (n : Int), .int .i64 2] W (MadeO W 2 (twoB n)) := by
  have h := cut_own (n : Int) 2 (by omega) (by omega) (by omega) (by omega) W
  rw [Int.toNat_natCast, IpM.cut_two] at h
  exact h

theorem port_any (A : Option Addr) (n c : Nat) (bs : List UInt8) (B : Nat) (a : Nat) (W : World) (hb : Bts W B A n bs) (hc : n ≤ c) (hm : c ≤ 9223372036854775807) (h3 : a + 2 ≤ n) :
    Calls Tryd.prog 38 #[.slice A n c, .int .i64 (a : Int)] W fun e w' => e = .returned (.int .u16 (word bs a : Int)) ∧ W = w' := by
  obtain ⟨b, off, rfl, hlt, hcell⟩ := hb.at_ (by omega)
  have hv := Ip.num_word bs a (by rw [hb.len]; omega)
  have C := Fld.num_yes b off n c bs a 2 hb.len hc hm (by omega) (by omega) h3 W hcell
  rw [hv] at C
  have HC := Lib.hid C
  have hw := word_lt bs a
  clear C hcell hv hb
  go_enter Tryd.func38, Tryd.ntmps38
  go_wp2_with (go_at_call 52; refine HC.out.mono ?_; rintro e w' ⟨rfl, rfl⟩)
  go_ret
  exact ⟨rfl, rfl⟩

theorem refSane_any (f : Nat) (hf : f < 256) (b : Bool) (hb : saneB f = b) (W : World) :
    Calls Tryd.prog 21 #[.int .u8 (f : Int)] W fun e w' => e = .returned (.bool b) ∧ W = w' := by
  unfold saneB at hb
  have HB := Lib.hid hb
  clear hb
  go_enter Tryd.func21, Tryd.ntmps21
  go_wp2_with fail
  all_goals
    go_ret
    refine ⟨?_, rfl⟩
    rw [← HB.out]
    refine congrArg (fun b => Ending.returned (.bool b)) (?_ : _ = (_ : Bool))
    first | (rw [Bool.eq_iff_iff]; simp; omega) | trace_state

theorem lit2 (w : World) (x y : Nat) (hx : x < 256) (hy : y < 256) : Bts (w.alloc (.cells #[.int .u8 (x : Int), .int .u8 (y : Int)] 5)) (w.alloc (.cells #[.int .u8 (x : Int), .int .u8 (y : Int)] 5)).heap.size (some ⟨w.heap.size, 0, none⟩) 2 [UInt8.ofNat x, UInt8.ofNat y] :=
  own_bts (own_lit w [UInt8.ofNat x, UInt8.ofNat y] 2 rfl (by omega) _ (by simp [bvs]; omega))

theorem lit2v (w : World) (a b : UInt8) (x y : Int) (hx : x = (a.toNat : Int)) (hy : y = (b.toNat : Int)) : Bts (w.alloc (.cells #[.int .u8 x, .int .u8 y] 5)) (w.alloc (.cells #[.int .u8 x, .int .u8 y] 5)).heap.size (some ⟨w.heap.size, 0, none⟩) 2 [a, b] :=
  own_bts (own_lit w [a, b] 2 rfl (by omega) _ (by subst hx; subst hy; rfl))

set_option maxHeartbeats 2000000 in
theorem pseudo_any (pr sr ds : Nat) (n : Int) (v : Nat) (hpr : pr < 256) (hsr : sr < 4294967296) (hds : ds < 4294967296) (hv : v < 18446744073709551616) (hn : IntKind.u64.wrap n = (v : Int)) (W : World) :
    Calls Tryd.prog 54 #[.int .u8 (pr : Int), .int .u32 (sr : Int), .int .u32 (ds : Int), .int .i64 n] W fun e w' => e = .returned (.int .u16 (psN pr sr ds v : Int)) ∧ Below W.heap.size W w' := by
  obtain ⟨i0, hi0, hz0, hz1, hz2⟩ := info_parts u8_info
  have HN := Lib.hid hn
  clear hn
  go_enter Tryd.func54, Tryd.ntmps54
  go_wp2_with fail
  go_at_call 48
  refine (cut4_any sr hsr W).mono ?_
  rintro e w1 ⟨A1, c1, rfl, ho1, hb1, hc1⟩
  have H1 := Lib.hid ho1
  clear ho1
  go_wp2_with fail
  go_at_call 48
  refine (cut4_any ds hds w1).mono ?_
  rintro e w2 ⟨A2, c2, rfl, ho2, hb2, hc2⟩
  have hs1 := hb1.size
  have hs2 := hb2.size
  have H2 := Lib.hid ho2
  have H3 := Lib.hid (own_below H1.out hb2)
  have HB2 := Lib.hid (hb1.trans (hb2.mono hs1))
  clear ho2 H1 hb1 hb2
  go_wp2_with (first
    | (refine at_slot 17 ?_
       refine wpList_append_hid (W0 := W) 8 rfl (.tmp 13) (.tmp 16) _ rfl 5 i0 Tryd.underlying26 hi0 hz0 hz1 hz2 _ 4 _ rfl H3.out HB2.out _ A2 4 c2 _ rfl (own_bts H2.out) rfl (by omega) ?_
       intro A3 c3 w3 H4 HB3 _ _
       clear H2 H3 HB2)
    | (refine at_slot 21 ?_
       refine wpList_append_hid (W0 := W) 10 rfl (.tmp 18) (.tmp 20) _ rfl 5 i0 Tryd.underlying26 hi0 hz0 hz1 hz2 _ 8 _ rfl (H4.out.alloc _) (HB3.out.alloc HB3.out.size _) _ (some ⟨w3.heap.size, 0, none⟩) 2 2 _ rfl (lit2 w3 0 pr (by omega) hpr) rfl (by omega) ?_
       intro A4 c4 w4 H5 HB4 _ _
       clear H4 HB3))
  go_at_call 48
  rw [HN.out]
  refine (cut2_any v hv w4).mono ?_
  rintro e w5 ⟨A5, c5, rfl, ho5, hb5, hc5⟩
  have H6 := Lib.hid ho5
  have H7 := Lib.hid (own_below H5.out (hb5.mono (Nat.le_refl _)))
  have HB5 := Lib.hid (HB4.out.trans (hb5.mono HB4.out.size))
  clear ho5 hb5 H5 HB4
  go_wp2_with (refine at_slot 26 ?_
               refine wpList_append_hid (W0 := W) 12 rfl (.tmp 22) (.tmp 25) _ rfl 5 i0 Tryd.underlying26 hi0 hz0 hz1 hz2 _ 10 _ rfl H7.out HB5.out _ A5 2 c5 _ rfl (own_bts H6.out) rfl (by omega) ?_
               intro A6 c6 w6 H8 HB6 _ HC6
               clear H6 H7 HB5)
  go_at_call 49
  refine (Sm.add_any 0 A6 12 c6 (psB pr sr ds v) w6 w6.heap.size (own_bts H8.out) (by omega) HC6.out.1 HC6.out.2).mono ?_
  rintro e w' ⟨rfl, rfl⟩
  go_wp2_with fail
  go_ret
  exact ⟨rfl, HB6.out⟩

set_option maxHeartbeats 2000000 in
theorem refPseudo_any (pr sr ds : Nat) (n : Int) (v : Nat) (hpr : pr < 256) (hsr : sr < 4294967296) (hds : ds < 4294967296) (hv : v < 18446744073709551616) (hn : IntKind.u64.wrap n = (v : Int)) (W : World) :
    Calls Tryd.prog 33 #[.int .u8 (pr : Int), .int .u32 (sr : Int), .int .u32 (ds : Int), .int .i64 n] W fun e w' => e = .returned (.int .i64 (psN pr sr ds v : Int)) ∧ Below W.heap.size W w' := by
  obtain ⟨i0, hi0, hz0, hz1, hz2⟩ := info_parts u8_info
  have HN := Lib.hid hn
  clear hn
  go_enter Tryd.func33, Tryd.ntmps33
  go_wp2_with fail
  go_at_call 34
  refine (Ip.wide_any sr hsr W).mono ?_
  rintro e w1 ⟨A1, c1, rfl, ho1, hb1, hc1⟩
  have H1 := Lib.hid ho1
  clear ho1
  go_wp2_with fail
  go_at_call 34
  refine (Ip.wide_any ds hds w1).mono ?_
  rintro e w2 ⟨A2, c2, rfl, ho2, hb2, hc2⟩
  have hs1 := hb1.size
  have hs2 := hb2.size
  have H2 := Lib.hid ho2
  have H3 := Lib.hid (own_below H1.out hb2)
  have HB2 := Lib.hid (hb1.trans (hb2.mono hs1))
  clear ho2 H1 hb1 hb2
  go_wp2_with (first
    | (refine at_slot 14 ?_
       refine wpList_append_hid (W0 := W) 8 rfl (.tmp 11) (.tmp 13) _ rfl 5 i0 Tryd.underlying26 hi0 hz0 hz1 hz2 _ 4 _ rfl H3.out HB2.out _ A2 4 c2 _ rfl (own_bts H2.out) rfl (by omega) ?_
       intro A3 c3 w3 H4 HB3 _ _
       clear H2 H3 HB2)
    | (refine at_slot 17 ?_
       refine wpList_append_hid (W0 := W) 10 rfl (.tmp 14) (.tmp 16) _ rfl 5 i0 Tryd.underlying26 hi0 hz0 hz1 hz2 _ 8 _ rfl (H4.out.alloc _) (HB3.out.alloc HB3.out.size _) _ (some ⟨w3.heap.size, 0, none⟩) 2 2 _ rfl (lit2 w3 0 pr (by omega) hpr) rfl (by omega) ?_
       intro A4 c4 w4 H5 HB4 _ _
       have hn := HN.out
       clear H4 HB3)
    | (refine at_slot 27 ?_
       refine wpList_append_hid (W0 := W) 12 rfl (.tmp 18) (.tmp 26) _ rfl 5 i0 Tryd.underlying26 hi0 hz0 hz1 hz2 _ 10 _ rfl (H5.out.alloc _) (HB4.out.alloc HB4.out.size _) _ (some ⟨w4.heap.size, 0, none⟩) 2 2 _ rfl (lit2v w4 (UInt8.ofNat (v / 256)) (UInt8.ofNat v) _ _ (by simp) (by simp)) rfl (by omega) ?_
       intro A6 c6 w6 H8 HB6 _ HC6
       clear H5 HB4 hn))
  go_at_call 32
  refine (Sm.refAdd_any 0 A6 12 c6 (psB pr sr ds v) w6 w6.heap.size (own_bts H8.out) (by omega) HC6.out.1 (by omega) HC6.out.2).mono ?_
  rintro e w' ⟨rfl, rfl⟩
  go_wp2_with fail
  go_ret
  exact ⟨rfl, HB6.out⟩

theorem len_wrap (n : Nat) (h : n ≤ 9223372036854775807) : IntKind.u64.wrap (n : Int) = (n : Int) := by simp [IntKind.wrap, IntKind.bits, IntKind.signed]; omega

theorem total_any (sr ds : Nat) (A : Option Addr) (n c : Nat) (bs : List UInt8) (B : Nat) (W : World) (hb : Bts W B A n bs) (hB : B ≤ W.heap.size) (hc : n ≤ c) (hm : c ≤ 9223372036854775807) (hsr : sr < 4294967296) (hds : ds < 4294967296) :
    Calls Tryd.prog 43 #[.int .u32 (sr : Int), .int .u32 (ds : Int), .slice A n c] W fun e w' => e = .returned (.int .u16 (totN sr ds bs : Int)) ∧ Below W.heap.size W w' := by
  have HT : Hid (add (psN 6 sr ds n) bs = totN sr ds bs) := by show _ = _; rw [← hb.len]; rfl
  have HB := Lib.hid hb
  clear hb
  go_enter Tryd.func43, Tryd.ntmps43
  go_wp2_with fail
  go_at_call 54
  refine (pseudo_any 6 sr ds (n : Int) n (by omega) hsr hds (by omega) (len_wrap n (by omega)) W).mono ?_
  rintro e w1 ⟨rfl, hb1⟩
  have HB1 := Lib.hid (HB.out.below (hb1.mono hB))
  have HW1 := Lib.hid hb1
  have hp := psN_le 6 sr ds n
  clear hb1
  go_wp2_with fail
  go_at_call 49
  refine (Sm.add_any (psN 6 sr ds n) A n c bs w1 B HB1.out hp hc hm).mono ?_
  rintro e w' ⟨rfl, rfl⟩
  go_wp2_with fail
  go_ret
  exact ⟨ret_int (by rw [HT.out]), HW1.out⟩

set_option maxHeartbeats 2000000 in
theorem put_any (g N : Nat) (l : List UInt8) (a : Nat) (v : Nat) (W : World) (hg : Row W g l) (hl : l.length = N) (hN : N ≤ 1000000) (h3 : a + 2 ≤ N) (hv : v < 65536) :
    Calls Tryd.prog 42 #[.slice (some ⟨g, 0, none⟩) N N, .int .i64 (a : Int), .int .u16 (v : Int)] W fun e w' => e = .returned (.tuple #[]) ∧ Row w' g (over l a (FldM.cutN v 2)) ∧ But g W w' := by
  have C := Lib.hid (fun W => Fld.cut_yes (v : Int) 2 (by omega) (by omega) (by omega) (by omega) W)
  have hlt := hg.lt
  have i1 : (a : Int) ≤ N := by omega
  have i2 : ¬ N = a := by omega
  have HG := Lib.hid hg
  have HL := Lib.hid hl
  have wv : IntKind.u64.wrap (v : Int) = (v : Int) := by simp [IntKind.wrap, IntKind.bits, IntKind.signed]; omega
  clear hg hl
  go_enter Tryd.func42, Tryd.ntmps42
  go_wp2_with fail
  go_region_held_law (fun _ => True) (first | trivial) (first
    | (go_at_call 48; refine (C.out _).mono ?_; rintro e w2 ⟨A, n, c, rfl, hb, hc, hbel⟩)
    | (refine step_copy_bts rfl (.tmp 8) (.tmp 11) _ _ rfl 5 Tryd.underlying26 (by kernel_rfl) _ A g a _ _ n c w2.heap.size rfl rfl l _ 5 ((hbel.block g hlt).trans HG.out) hb (by have h1 := hb.len; rw [FldM.cutN_len] at h1; omega) (by have h1 := hb.len; have h2 := HL.out; rw [FldM.cutN_len] at h1; omega) (fun _ => rfl) ?_
       intro w3 hg3 hgr3))
  all_goals
    go_end0
    have hs := hbel.size
    refine ⟨rfl, hg3, hgr3.os.trans hbel.os, hgr3.tape.trans hbel.tape, hgr3.output.trans hbel.output, Nat.le_trans hs hgr3.size, fun k hk hne => (hgr3.block k (Nat.lt_of_lt_of_le hk hs) hne).trans (hbel.block k hk)⟩

end Tc
end Go.Proofs.YtapcjjhbdhkhhaaDoor
