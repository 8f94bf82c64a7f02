/- Layer 5: the contract of the reference's Build. -/
import Derived.Test.YtapcjjhbdhkhhaaDoorTcpD
set_option linter.unusedVariables false
set_option linter.unusedSimpArgs false
namespace Go.Proofs.YtapcjjhbdhkhhaaDoor
open Go.ChangeShapes Go.WideShapes Go.ChangeAt Go.RowKit Go.Mtl
namespace Tc
open TcpM (saneB psB psN totN psN_le totN_le errT segB seg ckN row1)
open SumM (add add_le)
open IpM (word word_lt twoB fourB)
open Ip (ret_int MadeO Row But u8_info own_bts own_lit)

/-- A row of the call's own, while another row grows. -/
theorem own_other {w w' : World} {base n : Nat} {v u : Value} {xs : List Value} (h : w.ownsRow base 5 1 v n xs) (hg : w.grownBy w' u.ownBlock) (hne : ∀ k, u.ownBlock = some k → k < base) : w'.ownsRow base 5 1 v n xs := by
  refine h.kept hg ?_
  cases hv : v.ownBlock with
  | none => exact .inl rfl
  | some k =>
    refine .inr fun e => ?_
    have h3 := (h.lt k hv).1
    have h4 := hne k e.symm
    omega

/-- What the reference's Build answers. -/
def RBuilt (W : World) (sr ds fr to fl : Nat) (x : List UInt8) (e : Ending) (w' : World) : Prop :=
  ∃ A c, e = .returned (.tuple #[.slice A (20 + x.length) c, .int .i64 0]) ∧ Bts w' w'.heap.size A (20 + x.length) (seg sr ds fr to fl x) ∧ Below W.heap.size W w'

/-- With room for what lies behind it. -/
def RBuiltC (W : World) (sr ds fr to fl : Nat) (x : List UInt8) (e : Ending) (w' : World) : Prop :=
  ∃ A c, e = .returned (.tuple #[.slice A (20 + x.length) c, .int .i64 0]) ∧ Bts w' w'.heap.size A (20 + x.length) (seg sr ds fr to fl x) ∧ (20 + x.length ≤ c ∧ c ≤ 9223372036854775807) ∧ Below W.heap.size W w'

theorem refBuild_bad (sr ds fr to fl : Int) (A : Option Addr) (n c : Nat) (f : Nat) (hf : f < 256) (hfl : fl = (f : Int)) (W : World) (h : saneB f = false ∨ 64 ≤ f) :
    Calls Tryd.prog 15 #[.int .u32 sr, .int .u32 ds, .int .u16 fr, .int .u16 to, .int .u8 fl, .slice A n c] W fun e w' => e = .returned (.tuple #[.slice none 0 0, .int .i64 11]) ∧ Below W.heap.size W w' := by
  subst hfl
  cases hs : saneB f
  · have HS := Lib.hid (refSane_any f hf false hs W)
    clear h hs
    go_enter Tryd.func15, Tryd.ntmps15
    go_wp2_with fail
    go_at_call 21
    refine HS.out.mono ?_
    rintro e w1 ⟨rfl, rfl⟩
    go_wp2_with fail
    go_ret2
    exact ⟨rfl, Below.refl _ _⟩
  · have HS := Lib.hid (refSane_any f hf true hs W)
    have h64 : (63 : Int) < f := by
      rcases h with h | h
      · rw [hs] at h; cases h
      · omega
    clear h hs
    go_enter Tryd.func15, Tryd.ntmps15
    go_wp2_with fail
    go_at_call 21
    refine HS.out.mono ?_
    rintro e w1 ⟨rfl, rfl⟩
    go_wp2_with fail
    go_ret2
    exact ⟨rfl, Below.refl _ _⟩

theorem refBuild_long (sr ds fr to fl : Int) (A : Option Addr) (n c : Nat) (f : Nat) (hf : f < 64) (hfl : fl = (f : Int)) (W : World) (h : saneB f = true) (hc : n ≤ c) (hm : c ≤ 9223372036854775807) (hn : 1460 < n) :
    Calls Tryd.prog 15 #[.int .u32 sr, .int .u32 ds, .int .u16 fr, .int .u16 to, .int .u8 fl, .slice A n c] W fun e w' => e = .returned (.tuple #[.slice none 0 0, .int .i64 2]) ∧ Below W.heap.size W w' := by
  subst hfl
  have HS := Lib.hid (refSane_any f (by omega) true h W)
  clear h
  go_enter Tryd.func15, Tryd.ntmps15
  go_wp2_with fail
  go_at_call 21
  refine HS.out.mono ?_
  rintro e w1 ⟨rfl, rfl⟩
  go_wp2_with fail
  go_ret2
  exact ⟨rfl, Below.refl _ _⟩

/-- The bytes in the middle. -/
def midB (f : Nat) : List UInt8 := [0, 0, 0, 0, 0, 0, 0, 0, 80, UInt8.ofNat f, 0, 0]
theorem mid_lit (w : World) (f : Nat) (hf : f < 256) : Bts (w.alloc (.cells #[.int .u8 0, .int .u8 0, .int .u8 0, .int .u8 0, .int .u8 0, .int .u8 0, .int .u8 0, .int .u8 0, .int .u8 80, .int .u8 (f : Int), .int .u8 0, .int .u8 0] 5))
    (w.alloc (.cells #[.int .u8 0, .int .u8 0, .int .u8 0, .int .u8 0, .int .u8 0, .int .u8 0, .int .u8 0, .int .u8 0, .int .u8 80, .int .u8 (f : Int), .int .u8 0, .int .u8 0] 5)).heap.size (some ⟨w.heap.size, 0, none⟩) 12 (midB f) :=
  own_bts (own_lit w (midB f) 12 rfl (by omega) _ (by simp [bvs, midB]; omega))
theorem zero_lit (w : World) : (w.alloc (.cells #[.int .u8 0, .int .u8 0] 5)).ownsRow w.heap.size 5 1 (.slice (some ⟨w.heap.size, 0, none⟩) 2 2) 2 (bvs [0, 0]) :=
  own_lit w [0, 0] 2 rfl (by omega) _ rfl
theorem no_lit (w : World) : (w.alloc (.cells #[] 5)).ownsRow w.heap.size 5 1 (.slice (some ⟨w.heap.size, 0, none⟩) 0 0) 0 (bvs []) :=
  own_lit w [] 0 rfl (by omega) _ rfl

theorem seg0_is (fr to f : Nat) (x : List UInt8) : [] ++ (twoB fr ++ twoB to ++ midB f) ++ [0, 0] ++ ([0, 0] ++ x) = segB 0 fr to f x := by simp [segB, midB, twoB]
theorem segK_is (K fr to f : Nat) (x : List UInt8) : twoB fr ++ twoB to ++ midB f ++ twoB K ++ ([0, 0] ++ x) = segB K fr to f x := by simp [segB, midB]

set_option maxHeartbeats 8000000 in
theorem refBuild_cap (sr ds fr to f : Nat) (A : Option Addr) (n c : Nat) (x : List UInt8) (B : Nat) (W : World) (hb : Bts W B A n x) (hB : B ≤ W.heap.size) (hc : n ≤ c) (hm : c ≤ 9223372036854775807) (hn : n ≤ 1460)
    (hsr : sr < 4294967296) (hds : ds < 4294967296) (hfr : fr < 65536) (hto : to < 65536) (hf : f < 64) (h : saneB f = true) :
    Calls Tryd.prog 15 #[.int .u32 (sr : Int), .int .u32 (ds : Int), .int .u16 (fr : Int), .int .u16 (to : Int), .int .u8 (f : Int), .slice A n c] W (RBuiltC W sr ds fr to f x) := by
  obtain ⟨i0, hi0, hz0, hz1, hz2⟩ := info_parts u8_info
  have HL := Lib.hid hb.len
  have HX := Lib.hid hb
  have HS := Lib.hid (refSane_any f (by omega) true h W)
  obtain ⟨T, hT⟩ : ∃ T, 2 + n = T := ⟨_, rfl⟩
  obtain ⟨N, hN⟩ : ∃ N, 18 + T = N := ⟨_, rfl⟩
  have hT1 : T ≤ 1462 := by omega
  have hT2 : 2 ≤ T := by omega
  have hN1 : N ≤ 1480 := by omega
  have hN2 : 20 ≤ N := by omega
  have HTT := Lib.hid hT
  have HNN := Lib.hid hN
  clear h hb hT hN
  go_enter Tryd.func15, Tryd.ntmps15
  go_wp2_with fail
  go_at_call 21
  refine HS.out.mono ?_
  rintro e w1 ⟨rfl, rfl⟩
  clear HS
  go_wp2_with fail
  go_at_call 31
  refine (Ip.refPut_any fr hfr W).mono ?_
  rintro e w1 ⟨A1, c1, rfl, ho1, hb1, hc1⟩
  have H1 := Lib.hid ho1
  clear ho1
  go_wp2_with fail
  go_at_call 31
  refine (Ip.refPut_any to hto w1).mono ?_
  rintro e w2 ⟨A2, c2, rfl, ho2, hb2, hc2⟩
  have hs1 := hb1.size
  have hs2 := hb2.size
  have H2 := Lib.hid ho2
  have H3 := Lib.hid (own_below H1.out hb2)
  have HB2 := Lib.hid (hb1.trans (hb2.mono hs1))
  clear ho2 H1 hb1 hb2 hc1 hc2
  go_wp2_with (first
    | (refine at_slot 34 ?_
       refine wpList_append_hid (W0 := W) 4 rfl (.tmp 30) (.tmp 33) _ rfl 5 i0 Tryd.underlying26 hi0 hz0 hz1 hz2 _ 2 _ rfl H3.out HB2.out _ A2 2 c2 _ rfl (own_bts H2.out) rfl (by omega) ?_
       intro A3 c3 w3 H4 HB3 _ _
       clear H2 H3 HB2)
    | (refine at_slot 38 ?_
       refine wpList_append_hid (W0 := W) 16 rfl (.tmp 35) (.tmp 37) _ rfl 5 i0 Tryd.underlying26 hi0 hz0 hz1 hz2 _ 4 _ rfl (H4.out.alloc _) (HB3.out.alloc HB3.out.size _) _ (some ⟨w3.heap.size, 0, none⟩) 12 12 _ rfl (mid_lit w3 f (by omega)) rfl (by omega) ?_
       intro A4 c4 w4 H5 HB4 _ _
       clear H4 HB3)
    | (refine at_slot 41 ?_
       refine wpList_append_hid (W0 := w4) T rfl (.tmp 39) (.tmp 40) _ rfl 5 i0 Tryd.underlying26 hi0 hz0 hz1 hz2 _ 2 _ rfl (zero_lit w4) ((Below.refl _ w4).alloc (Nat.le_refl _) _) B A n c x rfl ((HX.out.below (HB4.out.mono hB)).alloc (Nat.le_trans hB HB4.out.size) _) HTT.out (by omega) ?_
       intro A5 c5 w5 H6 HB5 _ _)
    | (refine at_slot 44 ?_
       refine wpList_append_hid (W0 := w5) 16 rfl (.tmp 42) (.tmp 43) _ rfl 5 i0 Tryd.underlying26 hi0 hz0 hz1 hz2 _ 0 _ rfl (no_lit w5) ((Below.refl _ w5).alloc (Nat.le_refl _) _) w5.heap.size A4 16 c4 _ rfl ((own_bts (own_below H5.out HB5.out)).alloc (Nat.le_refl _) _) rfl (by omega) ?_
       intro A6 c6 w6 H7 HB6 _ _)
    | (refine at_slot 46 ?_
       refine wpList_append_hid (W0 := w5) 18 rfl (.tmp 44) (.tmp 45) _ rfl 5 i0 Tryd.underlying26 hi0 hz0 hz1 hz2 _ 16 _ rfl (H7.out.alloc _) (HB6.out.alloc HB6.out.size _) _ (some ⟨w6.heap.size, 0, none⟩) 2 2 _ rfl (own_bts (zero_lit w6)) rfl (by omega) ?_
       intro A7 c7 w7 H8 HB7 _ _
       clear H7 HB6)
    | (refine at_slot 48 ?_
       refine wpList_append_hid (W0 := w5) N rfl (.tmp 46) (.tmp 47) _ rfl 5 i0 Tryd.underlying26 hi0 hz0 hz1 hz2 _ 18 _ rfl H8.out HB7.out _ A5 T c5 _ rfl (own_bts (own_below H6.out HB7.out)) HNN.out (by omega) ?_
       intro A8 c8 w8 H9 HB8 _ HC8
       clear H8 HB7))
  refine (refPseudo_any 6 sr ds (N : Int) N (by omega) hsr hds (by omega) (len_wrap N (by omega)) w8).mono ?_
  rintro e w9 ⟨rfl, hb9⟩
  have HB9 := Lib.hid hb9
  have HW9 : Hid (Bts w9 w8.heap.size A8 N (segB 0 fr to f x)) := by
    have h := (own_bts H9.out).below hb9
    rw [seg0_is] at h
    exact h
  have hpl := psN_le 6 sr ds N
  have HXN : Hid (20 + x.length = N) := by have h1 := HL.out; have h2 := HTT.out; have h3 := HNN.out; show _ = _; omega
  have HA : Hid (add (psN 6 sr ds N) (segB 0 fr to f x) = totN sr ds (segB 0 fr to f x)) := by
    show _ = _
    unfold totN
    rw [TcpM.segB_len, HXN.out]
  have htl := totN_le sr ds (segB 0 fr to f x)
  obtain ⟨K, hK⟩ : ∃ K : Nat, (65535 : Int) - (totN sr ds (segB 0 fr to f x) : Int) = (K : Int) := ⟨65535 - totN sr ds (segB 0 fr to f x), by omega⟩
  have hK2 : K < 65536 := by omega
  have HK : Hid (K = ckN sr ds fr to f x) := by show _ = _; unfold ckN; omega
  clear hb9
  go_wp2_with fail
  go_at_call 32
  refine (Sm.refAdd_any (psN 6 sr ds N) A8 N c8 (segB 0 fr to f x) w9 w8.heap.size HW9.out hpl HC8.out.1 (by omega) HC8.out.2).mono ?_
  rintro e w' ⟨rfl, rfl⟩
  rw [HA.out]
  clear HW9 HA H9
  go_wp2_with fail
  go_at_call 31
  refine (Ip.refPut_any K hK2 w9).mono ?_
  rintro e w11 ⟨A11, c11, rfl, ho11, hb11, hc11⟩
  have HK11 := Lib.hid ho11
  have HO := Lib.hid (own_below (own_below (own_below (own_below H5.out HB5.out) (HB8.out.mono (Nat.le_refl _))) HB9.out) hb11)
  have HTl := Lib.hid (own_below (own_below (own_below H6.out HB8.out) HB9.out) hb11)
  have hs5 := HB5.out.size
  have hs8 := HB8.out.size
  have hs9 := HB9.out.size
  have hs4 := HB4.out.size
  have HW11 := Lib.hid (((HB4.out.trans (HB5.out.mono hs4)).trans (HB8.out.mono (Nat.le_trans hs4 hs5))).trans ((HB9.out.trans (hb11.mono hs9)).mono (Nat.le_trans (Nat.le_trans hs4 hs5) hs8)))
  have HLT := Lib.hid (fun k h => (H5.out.lt k h).2)
  clear ho11 hb11 hc11 H5 H6 HB5 HB8 HB9 hK htl
  go_wp2_with (first
    | (refine at_slot 60 ?_
       refine wpList_append_hid (W0 := W) 18 rfl (.tmp 57) (.tmp 59) _ rfl 5 i0 Tryd.underlying26 hi0 hz0 hz1 hz2 (.slice A4 16 c4) 16 _ rfl HO.out HW11.out _ A11 2 c11 _ rfl (own_bts HK11.out) rfl (by omega) ?_
       intro A12 c12 w12 H12 HB12 HG12 _
       have HT12 := Lib.hid (own_other HTl.out HG12.out HLT.out)
       clear HO HK11 HTl)
    | (refine at_slot 62 ?_
       refine wpList_append_hid (W0 := W) N rfl (.tmp 60) (.tmp 61) _ rfl 5 i0 Tryd.underlying26 hi0 hz0 hz1 hz2 _ 18 _ rfl H12.out HB12.out _ A5 T c5 _ rfl (own_bts HT12.out) HNN.out (by omega) ?_
       intro A13 c13 w13 H13 HB13 _ HC13
       clear H12 HT12))
  go_ret2
  have hfin := own_bts H13.out
  rw [segK_is, HK.out] at hfin
  exact ⟨A13, c13, by rw [HXN.out]; rfl, by rw [HXN.out]; exact hfin, by rw [HXN.out]; exact HC13.out, HB13.out⟩

theorem refBuild_ok (sr ds fr to f : Nat) (A : Option Addr) (n c : Nat) (x : List UInt8) (B : Nat) (W : World) (hb : Bts W B A n x) (hB : B ≤ W.heap.size) (hc : n ≤ c) (hm : c ≤ 9223372036854775807) (hn : n ≤ 1460)
    (hsr : sr < 4294967296) (hds : ds < 4294967296) (hfr : fr < 65536) (hto : to < 65536) (hf : f < 64) (h : saneB f = true) :
    Calls Tryd.prog 15 #[.int .u32 (sr : Int), .int .u32 (ds : Int), .int .u16 (fr : Int), .int .u16 (to : Int), .int .u8 (f : Int), .slice A n c] W (RBuilt W sr ds fr to f x) :=
  (refBuild_cap sr ds fr to f A n c x B W hb hB hc hm hn hsr hds hfr hto hf h).mono fun e w' ⟨A, c, h1, h2, _, h4⟩ => ⟨A, c, h1, h2, h4⟩

end Tc
end Go.Proofs.YtapcjjhbdhkhhaaDoor
