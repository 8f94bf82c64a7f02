/- Layer 6: the contract of the reference's Build. -/
import Derived.Test.YtapcjjhbdhkhhaaDoorUdpD
import Derived.Test.YtapcjjhbdhkhhaaDoorTcpE
set_option linter.unusedVariables false
set_option linter.unusedSimpArgs false
namespace Go.Proofs.YtapcjjhbdhkhhaaDoor
open Go.ChangeShapes Go.WideShapes Go.ChangeAt Go.RowKit Go.Mtl
namespace Ud
open TcpM (psB psN psN_le)
open UdpM (totU totU_le errU errU_le datB dat ckU ckU_le fullN two two_len row1)
open SumM (add add_le)
open IpM (word word_lt twoB fourB)
open Ip (ret_int MadeO Row But u8_info own_bts own_lit row_of_own)

/-- What the reference's Build answers. -/
def RBuilt (W : World) (sr ds fr to : Nat) (x : List UInt8) (e : Ending) (w' : World) : Prop :=
  ∃ A c, e = .returned (.tuple #[.slice A (8 + x.length) c, .int .i64 0]) ∧ Bts w' w'.heap.size A (8 + x.length) (dat sr ds fr to x) ∧ Below W.heap.size W w'

/-- With room for what lies behind it. -/
def RBuiltC (W : World) (sr ds fr to : Nat) (x : List UInt8) (e : Ending) (w' : World) : Prop :=
  ∃ A c, e = .returned (.tuple #[.slice A (8 + x.length) c, .int .i64 0]) ∧ Bts w' w'.heap.size A (8 + x.length) (dat sr ds fr to x) ∧ (8 + x.length ≤ c ∧ c ≤ 9223372036854775807) ∧ Below W.heap.size W w'

theorem refBuild_long (sr ds fr to : Int) (A : Option Addr) (n c : Nat) (W : World) (hc : n ≤ c) (hm : c ≤ 9223372036854775807) (hn : 1472 < n) :
    Calls Tryd.prog 16 #[.int .u32 sr, .int .u32 ds, .int .u16 fr, .int .u16 to, .slice A n c] W fun e w' => e = .returned (.tuple #[.slice none 0 0, .int .i64 2]) ∧ Below W.heap.size W w' := by
  go_enter Tryd.func16, Tryd.ntmps16
  go_wp2_with fail
  go_ret2
  exact ⟨rfl, Below.refl _ _⟩

theorem dat0_is (fr to N : Nat) (x : List UInt8) (h : 8 + x.length = N) : [] ++ (twoB fr ++ twoB to ++ twoB N) ++ [0, 0] ++ x = datB 0 fr to x := by subst h; simp [datB, twoB]
theorem datK_is (K fr to N : Nat) (x : List UInt8) (h : 8 + x.length = N) : twoB fr ++ twoB to ++ twoB N ++ twoB K ++ x = datB K fr to x := by subst h; rfl

set_option maxHeartbeats 8000000 in
theorem refBuild_cap (sr ds fr to : Nat) (A : Option Addr) (n c : Nat) (x : List UInt8) (B : Nat) (W : World) (hb : Bts W B A n x) (hB : B ≤ W.heap.size) (hc : n ≤ c) (hm : c ≤ 9223372036854775807) (hn : n ≤ 1472)
    (hsr : sr < 4294967296) (hds : ds < 4294967296) (hfr : fr < 65536) (hto : to < 65536) :
    Calls Tryd.prog 16 #[.int .u32 (sr : Int), .int .u32 (ds : Int), .int .u16 (fr : Int), .int .u16 (to : Int), .slice A n c] W (RBuiltC W sr ds fr to x) := by
  obtain ⟨i0, hi0, hz0, hz1, hz2⟩ := info_parts u8_info
  have HL := Lib.hid hb.len
  have HX := Lib.hid hb
  have HX0 := Lib.hid hb
  clear hb
  have e0 : (8 : Int) + n = ((8 + n : Nat) : Int) := by omega
  obtain ⟨N, hN⟩ : ∃ N, 8 + n = N := ⟨_, rfl⟩
  have HN := Lib.hid hN
  rw [hN] at e0
  have hN1 : 8 ≤ N := by omega
  have hN2 : N ≤ 1480 := by omega
  have HXN : Hid (8 + x.length = N) := by show _ = _; rw [HL.out]; exact HN.out
  clear hN
  go_enter Tryd.func16, Tryd.ntmps16
  go_wp2_with fail
  go_at_call 31
  refine (Ip.refPut_any fr hfr W).mono ?_
  rintro e w1 ⟨A1, c1, rfl, ho1, hb1, hc1⟩
  have H1 := Lib.hid ho1
  clear ho1
  go_wp2_with fail
  go_at_call 31
  refine (Ip.refPut_any to hto w1).mono ?_
  rintro e w2 ⟨A2, c2, rfl, ho2, hb2, hc2⟩
  have hs1 := hb1.size
  have hs2 := hb2.size
  have H2 := Lib.hid ho2
  have H3 := Lib.hid (own_below H1.out hb2)
  have HB2 := Lib.hid (hb1.trans (hb2.mono hs1))
  clear ho2 H1 hb1 hb2 hc1 hc2
  go_wp2_with (refine at_slot 23 ?_
               refine wpList_append_hid (W0 := W) 4 rfl (.tmp 19) (.tmp 22) _ rfl 5 i0 Tryd.underlying26 hi0 hz0 hz1 hz2 _ 2 _ rfl H3.out HB2.out _ A2 2 c2 _ rfl (own_bts H2.out) rfl (by omega) ?_
               intro A3 c3 w3 H4 HB3 _ _
               clear H2 H3 HB2)
  go_at_call 31
  refine (Ip.refPut_any N (by omega) w3).mono ?_
  rintro e w4 ⟨A4, c4, rfl, ho4, hb4, hc4⟩
  have H5 := Lib.hid ho4
  have H6 := Lib.hid (own_below H4.out hb4)
  have HB4 := Lib.hid (HB3.out.trans (hb4.mono HB3.out.size))
  clear ho4 H4 hb4 HB3 hc4
  go_wp2_with (refine at_slot 28 ?_
               refine wpList_append_hid (W0 := W) 6 rfl (.tmp 23) (.tmp 27) _ rfl 5 i0 Tryd.underlying26 hi0 hz0 hz1 hz2 _ 4 _ rfl H6.out HB4.out _ A4 2 c4 _ rfl (own_bts H5.out) rfl (by omega) ?_
               intro A5 c5 w5 H7 HB5 _ _
               clear H5 H6 HB4)
  go_at_call 33
  refine (Tc.refPseudo_any 17 sr ds (N : Int) N (by omega) hsr hds (by omega) (Tc.len_wrap N (by omega)) w5).mono ?_
  rintro e w6 ⟨rfl, hb6⟩
  have H8 := Lib.hid (own_below H7.out hb6)
  have HB6 := Lib.hid (HB5.out.trans (hb6.mono HB5.out.size))
  have hpl := psN_le 17 sr ds N
  have HA : Hid (add (psN 17 sr ds N) (datB 0 fr to x) = totU sr ds (datB 0 fr to x)) := by
    show _ = _
    unfold totU
    rw [UdpM.datB_len, HXN.out]
  have htl := totU_le sr ds (datB 0 fr to x)
  have HK : Hid (fullN (totU sr ds (datB 0 fr to x)) = ckU sr ds fr to x) := by show _ = _; rfl
  generalize totU sr ds (datB 0 fr to x) = t at HA htl HK
  clear hb6 H7 HB5
  go_wp2_with (first
    | (refine at_slot 37 ?_
       refine wpList_append_hid (W0 := w6) 6 rfl (.tmp 35) (.tmp 36) _ rfl 5 i0 Tryd.underlying26 hi0 hz0 hz1 hz2 _ 0 _ rfl (Tc.no_lit w6) ((Below.refl _ w6).alloc (Nat.le_refl _) _) w6.heap.size A5 6 c5 _ rfl ((own_bts H8.out).alloc (Nat.le_refl _) _) rfl (by omega) ?_
       intro A7 c7 w7 H9 HB7 _ _)
    | (refine at_slot 39 ?_
       refine wpList_append_hid (W0 := w6) 8 rfl (.tmp 37) (.tmp 38) _ rfl 5 i0 Tryd.underlying26 hi0 hz0 hz1 hz2 _ 6 _ rfl (H9.out.alloc _) (HB7.out.alloc HB7.out.size _) _ (some ⟨w7.heap.size, 0, none⟩) 2 2 _ rfl (own_bts (Tc.zero_lit w7)) rfl (by omega) ?_
       intro A8 c8 w8 H10 HB8 _ _
       clear H9 HB7)
    | (refine at_slot 41 ?_
       refine wpList_append_hid (W0 := w6) N rfl (.tmp 39) (.tmp 40) _ rfl 5 i0 Tryd.underlying26 hi0 hz0 hz1 hz2 _ 8 _ rfl H10.out HB8.out B A n c x rfl ((HX.out.below (HB6.out.mono hB)).below (HB8.out.mono (Nat.le_trans hB HB6.out.size))) HN.out (by omega) ?_
       intro A9 c9 w9 H11 HB9 _ HC9
       clear H10 HB8))
  go_at_call 32
  refine (Sm.refAdd_any (psN 17 sr ds N) A9 N c9 (datB 0 fr to x) w9 w9.heap.size (by have h := own_bts H11.out; rw [dat0_is fr to N x HXN.out] at h; exact h) hpl HC9.out.1 (by omega) HC9.out.2).mono ?_
  rintro e w' ⟨rfl, rfl⟩
  rw [HA.out]
  have H12 := Lib.hid (own_below H8.out HB9.out)
  have HB10 := Lib.hid (HB6.out.trans (HB9.out.mono HB6.out.size))
  clear HA H8 H11 HB9 HB6 HC9 HX
  by_cases h : t = 65535
  · have d : ((65535 : Int) - (t : Int) == 0) = true := by simp; omega
    have HF : Hid (datB 65535 fr to x = dat sr ds fr to x) := by
      show _ = _
      unfold dat
      rw [← HK.out]
      unfold fullN
      rw [if_pos (by omega)]
    clear HK h
    go_wp2_with fail
    go_at_call 31
    refine (Ip.refPut_any 65535 (by omega) w9).mono ?_
    rintro e w11 ⟨A11, c11, rfl, ho11, hb11, hc11⟩
    have HK11 := Lib.hid ho11
    have H13 := Lib.hid (own_below H12.out hb11)
    have HB11 := Lib.hid (HB10.out.trans (hb11.mono HB10.out.size))
    clear ho11 hb11 hc11 H12 HB10 htl
    go_wp2_with (first
      | (refine at_slot 49 ?_
         refine wpList_append_hid (W0 := W) 8 rfl (.tmp 46) (.tmp 48) _ rfl 5 i0 Tryd.underlying26 hi0 hz0 hz1 hz2 (.slice A5 6 c5) 6 _ rfl H13.out HB11.out _ A11 2 c11 _ rfl (own_bts HK11.out) rfl (by omega) ?_
         intro A12 c12 w12 H14 HB12 HG12 _
         clear H13)
      | (refine at_slot 51 ?_
         refine wpList_append_hid (W0 := W) N rfl (.tmp 49) (.tmp 50) _ rfl 5 i0 Tryd.underlying26 hi0 hz0 hz1 hz2 _ 8 _ rfl H14.out HB12.out B A n c x rfl (HX0.out.below (HB12.out.mono hB)) HN.out (by omega) ?_
         intro A13 c13 w13 H15 HB13 _ HC13
         clear H14))
    go_ret2
    have hfin := own_bts H15.out
    rw [datK_is _ fr to N x HXN.out, HF.out] at hfin
    exact ⟨A13, c13, by rw [HXN.out]; rfl, by rw [HXN.out]; exact hfin, by rw [HXN.out]; exact HC13.out, HB13.out⟩
  · have d : ((65535 : Int) - (t : Int) == 0) = false := by simp; omega
    obtain ⟨K, hK⟩ : ∃ K : Nat, (65535 : Int) - (t : Int) = (K : Int) := ⟨65535 - t, by omega⟩
    have HF : Hid (datB K fr to x = dat sr ds fr to x) := by
      show _ = _
      unfold dat
      rw [← HK.out]
      unfold fullN
      rw [if_neg (by omega), show K = 65535 - t by omega]
    rw [hK] at d
    have hK2 : K < 65536 := by omega
    clear HK h
    go_wp2_with fail
    go_at_call 31
    refine (Ip.refPut_any K (by omega) w9).mono ?_
    rintro e w11 ⟨A11, c11, rfl, ho11, hb11, hc11⟩
    have HK11 := Lib.hid ho11
    have H13 := Lib.hid (own_below H12.out hb11)
    have HB11 := Lib.hid (HB10.out.trans (hb11.mono HB10.out.size))
    clear ho11 hb11 hc11 H12 HB10 htl
    go_wp2_with (first
      | (refine at_slot 49 ?_
         refine wpList_append_hid (W0 := W) 8 rfl (.tmp 46) (.tmp 48) _ rfl 5 i0 Tryd.underlying26 hi0 hz0 hz1 hz2 (.slice A5 6 c5) 6 _ rfl H13.out HB11.out _ A11 2 c11 _ rfl (own_bts HK11.out) rfl (by omega) ?_
         intro A12 c12 w12 H14 HB12 HG12 _
         clear H13)
      | (refine at_slot 51 ?_
         refine wpList_append_hid (W0 := W) N rfl (.tmp 49) (.tmp 50) _ rfl 5 i0 Tryd.underlying26 hi0 hz0 hz1 hz2 _ 8 _ rfl H14.out HB12.out B A n c x rfl (HX0.out.below (HB12.out.mono hB)) HN.out (by omega) ?_
         intro A13 c13 w13 H15 HB13 _ HC13
         clear H14))
    go_ret2
    have hfin := own_bts H15.out
    rw [datK_is _ fr to N x HXN.out, HF.out] at hfin
    exact ⟨A13, c13, by rw [HXN.out]; rfl, by rw [HXN.out]; exact hfin, by rw [HXN.out]; exact HC13.out, HB13.out⟩

theorem refBuild_ok (sr ds fr to : Nat) (A : Option Addr) (n c : Nat) (x : List UInt8) (B : Nat) (W : World) (hb : Bts W B A n x) (hB : B ≤ W.heap.size) (hc : n ≤ c) (hm : c ≤ 9223372036854775807) (hn : n ≤ 1472)
    (hsr : sr < 4294967296) (hds : ds < 4294967296) (hfr : fr < 65536) (hto : to < 65536) :
    Calls Tryd.prog 16 #[.int .u32 (sr : Int), .int .u32 (ds : Int), .int .u16 (fr : Int), .int .u16 (to : Int), .slice A n c] W (RBuilt W sr ds fr to x) :=
  (refBuild_cap sr ds fr to A n c x B W hb hB hc hm hn hsr hds hfr hto).mono fun e w' ⟨A, c, h1, h2, _, h4⟩ => ⟨A, c, h1, h2, h4⟩

end Ud
end Go.Proofs.YtapcjjhbdhkhhaaDoor
