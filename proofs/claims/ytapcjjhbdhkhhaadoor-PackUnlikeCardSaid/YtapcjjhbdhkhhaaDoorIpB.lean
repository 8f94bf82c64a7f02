/- Layer 4: contracts of package ip's check and Parse. -/
import Derived.Test.YtapcjjhbdhkhhaaDoorIpA
set_option linter.unusedVariables false
namespace Go.Proofs.YtapcjjhbdhkhhaaDoor
open Go.ChangeShapes Go.WideShapes Go.ChangeAt Go.RowKit Go.Mtl
namespace Ip
open IpM (word four hs tl word_lt four_lt errC errN body hs_le tl_lt)
open SumM (add add_le)

theorem and_frag (x : Nat) (h : x < 65536) : bits .and .u64 (x : Int) 16383 = ((x % 16384 : Nat) : Int) := by
  have := u64_and (x : Int) 16383 (by omega) (by omega) (by omega) (by omega)
  rw [this]
  have : x &&& 16383 = x % 16384 := Nat.and_two_pow_sub_one_eq_mod x 14
  simp only [Int.toNat_natCast]
  rw [show (16383 : Int).toNat = 16383 from rfl, this]

set_option maxHeartbeats 2000000 in
theorem check_any (A : Option Addr) (n c : Nat) (bs : List UInt8) (B : Nat) (W : World) (hb : Bts W B A n bs) (hB : B ≤ W.heap.size) (hc : n ≤ c) (hm : c ≤ 9223372036854775807) (h20 : 20 ≤ n) :
    Calls Tryd.prog 36 #[.agg (cells7 (byt bs 9) (four bs 12) (four bs 16) (hs bs) (tl bs) (byt bs 8) (word bs 4)), .slice A n c] W fun e w' => e = .returned (.int .i64 (errC bs : Int)) ∧ Below W.heap.size W w' := by
  obtain ⟨b, off, rfl, hlt, -⟩ := hb.at_ (by omega)
  have hl := hb.len
  have HB := Lib.hid (hb.alloc hB (.cells (cells7 (byt bs 9) (four bs 12) (four bs 16) (hs bs) (tl bs) (byt bs 8) (word bs 4)) 42))
  obtain ⟨b', off', e', -, hcell⟩ := HB.out.at_ (by omega)
  obtain ⟨rfl, rfl⟩ : b = b' ∧ off = off' := by injection e' with e'; injection e' with e1 e2; exact ⟨e1, e2⟩
  have c0 := hcell 0 (by omega)
  rw [Nat.add_zero] at c0
  have bel := (Below.refl _ W).alloc (Nat.le_refl _) (.cells (cells7 (byt bs 9) (four bs 12) (four bs 16) (hs bs) (tl bs) (byt bs 8) (word bs 4)) 42)
  have HZ := Lib.hid (Hd.box W (byt bs 9) (four bs 12) (four bs 16) (hs bs) (tl bs) (byt bs 8) (word bs 4))
  obtain ⟨z0, z1, z2, z3, z4, z5, z6⟩ := HZ.out.cells
  have i0 : 0 < n := by omega
  have y0 := byt_lt bs 0
  have hsl := hs_le bs
  have htl := tl_lt bs
  have HL := Lib.hid hl
  clear hb hl e' hcell
  by_cases h1 : byt bs 0 / 16 = 4
  · have d1 : ((byt bs 0 : Int) / 16 != 4) = false := by simp; omega
    by_cases h2 : hs bs < 20
    · have HF : Hid (errC bs = 6) := by show _ = _; unfold errC; rw [if_neg (by omega), if_pos h2]
      clear h1
      go_enter Tryd.func36, Tryd.ntmps36
      go_wp2_with fail
      go_ret
      exact ⟨ret_int (by rw [HF.out]; rfl), bel⟩
    · by_cases h3 : n < hs bs
      · have HF : Hid (errC bs = 4) := by show _ = _; unfold errC; rw [if_neg (by omega), if_neg (by omega), if_pos (by have := HL.out; omega)]
        clear h1
        go_enter Tryd.func36, Tryd.ntmps36
        go_wp2_with fail
        go_ret
        exact ⟨ret_int (by rw [HF.out]; rfl), bel⟩
      · by_cases h4 : tl bs < hs bs
        · have HF : Hid (errC bs = 4) := by show _ = _; unfold errC; rw [if_neg (by omega), if_neg (by omega), if_pos (by have := HL.out; omega)]
          clear h1
          go_enter Tryd.func36, Tryd.ntmps36
          go_wp2_with fail
          go_ret
          exact ⟨ret_int (by rw [HF.out]; rfl), bel⟩
        · by_cases h5 : n < tl bs
          · have HF : Hid (errC bs = 4) := by show _ = _; unfold errC; rw [if_neg (by omega), if_neg (by omega), if_pos (by have := HL.out; omega)]
            clear h1
            go_enter Tryd.func36, Tryd.ntmps36
            go_wp2_with fail
            go_ret
            exact ⟨ret_int (by rw [HF.out]; rfl), bel⟩
          · have HA := Lib.hid (fun W' (hb : Bts W' B (some ⟨b, off, none⟩) n bs) => Sm.add_any 0 (some ⟨b, off, none⟩) (hs bs) c (bs.take (hs bs)) W' B (hb.front (hs bs) (by omega)) (by omega) (by omega) hm)
            have hal := add_le 0 (bs.take (hs bs))
            have HN := Lib.hid (fun W' (hb : Bts W' B (some ⟨b, off, none⟩) n bs) => number_any (some ⟨b, off, none⟩) n c bs B 6 2 _ W' hb hc hm (by omega) (by omega) (by omega) (num_word bs 6 (by have := HL.out; omega)))
            have HW := Lib.hid (and_frag (word bs 6) (word_lt bs 6))
            have HE : Hid (errC bs = if add 0 (bs.take (hs bs)) ≠ 65535 then 7 else if word bs 6 % 16384 ≠ 0 then 8 else 0) := by
              show _ = _; unfold errC; rw [if_neg (by omega), if_neg (by omega), if_neg (by have := HL.out; omega)]
            generalize add 0 (bs.take (hs bs)) = r at HA hal HE
            clear h1
            go_enter Tryd.func36, Tryd.ntmps36
            go_wp2_with fail
            go_at_call 49
            refine (HA.out _ HB.out).mono ?_
            rintro e w' ⟨rfl, rfl⟩
            by_cases h6 : r = 65535
            · have d6 : ((r : Int) != 65535) = false := by simp; omega
              by_cases h7 : word bs 6 % 16384 = 0
              · have d7 : (((word bs 6 % 16384 : Nat) : Int) != 0) = false := by simp; omega
                have HF : Hid (errC bs = 0) := by show _ = _; rw [HE.out, if_neg (by omega), if_neg (by omega)]
                clear h6 h7
                go_wp2_with fail
                go_at_call 51
                refine (HN.out _ HB.out).mono ?_
                rintro e w' ⟨rfl, rfl⟩
                have hw := HW.out
                go_wp2_with fail
                go_ret
                exact ⟨ret_int (by rw [HF.out]; rfl), bel⟩
              · have d7 : (((word bs 6 % 16384 : Nat) : Int) != 0) = true := by simp; omega
                have HF : Hid (errC bs = 8) := by show _ = _; rw [HE.out, if_neg (by omega), if_pos (by omega)]
                clear h6 h7
                go_wp2_with fail
                go_at_call 51
                refine (HN.out _ HB.out).mono ?_
                rintro e w' ⟨rfl, rfl⟩
                have hw := HW.out
                go_wp2_with fail
                go_ret
                exact ⟨ret_int (by rw [HF.out]; rfl), bel⟩
            · have d6 : ((r : Int) != 65535) = true := by simp; omega
              have HF : Hid (errC bs = 7) := by show _ = _; rw [HE.out, if_pos (by omega)]
              clear h6
              go_wp2_with fail
              go_ret
              exact ⟨ret_int (by rw [HF.out]; rfl), bel⟩
  · have d1 : ((byt bs 0 : Int) / 16 != 4) = true := by simp; omega
    have HF : Hid (errC bs = 5) := by show _ = _; unfold errC; rw [if_pos h1]
    clear h1
    go_enter Tryd.func36, Tryd.ntmps36
    go_wp2_with fail
    go_ret
    exact ⟨ret_int (by rw [HF.out]; rfl), bel⟩

/-- The zero header. -/
abbrev zeroV : Value := .agg (cells7 0 0 0 0 0 0 0)
abbrev badV (e : Nat) : Value := .tuple #[zeroV, .slice none 0 0, .int .i64 (e : Int)]

theorem parse_long (A : Option Addr) (n c : Nat) (bs : List UInt8) (B : Nat) (W : World) (hb : Bts W B A n bs) (hc : n ≤ c) (hm : c ≤ 9223372036854775807) (h : 1500 < n) :
    Calls Tryd.prog 22 #[.slice A n c] W fun e w' => e = .returned (badV 2) ∧ Below W.heap.size W w' := by
  have HZ := Lib.hid (Hd.box W 0 0 0 0 0 0 0)
  obtain ⟨f0, f1, f2, f3, f4, f5, f6⟩ := HZ.out.frozen
  obtain ⟨z0, z1, z2, z3, z4, z5, z6⟩ := HZ.out.cells
  have bel := (Below.refl _ W).alloc (Nat.le_refl _) (.cells (cells7 0 0 0 0 0 0 0) 42)
  clear hb
  go_enter Tryd.func22, Tryd.ntmps22
  go_wp2_with fail
  exact bodyPost_ret (v := badV 2) (by simp [results, Tryd.results22, go_sem, badV, zeroV, z0, z1, z2, z3, z4, z5, z6]) rfl ⟨rfl, bel⟩

theorem parse_short (A : Option Addr) (n c : Nat) (bs : List UInt8) (B : Nat) (W : World) (hb : Bts W B A n bs) (hc : n ≤ c) (hm : c ≤ 9223372036854775807) (h : n < 20) :
    Calls Tryd.prog 22 #[.slice A n c] W fun e w' => e = .returned (badV 4) ∧ Below W.heap.size W w' := by
  have HZ := Lib.hid (Hd.box W 0 0 0 0 0 0 0)
  obtain ⟨f0, f1, f2, f3, f4, f5, f6⟩ := HZ.out.frozen
  obtain ⟨z0, z1, z2, z3, z4, z5, z6⟩ := HZ.out.cells
  have bel := (Below.refl _ W).alloc (Nat.le_refl _) (.cells (cells7 0 0 0 0 0 0 0) 42)
  clear hb
  go_enter Tryd.func22, Tryd.ntmps22
  go_wp2_with fail
  exact bodyPost_ret (v := badV 4) (by simp [results, Tryd.results22, go_sem, badV, zeroV, z0, z1, z2, z3, z4, z5, z6]) rfl ⟨rfl, bel⟩

set_option maxHeartbeats 2000000 in
theorem parse_bad (A : Option Addr) (n c : Nat) (bs : List UInt8) (B : Nat) (W : World) (hb : Bts W B A n bs) (hB : B ≤ W.heap.size) (hc : n ≤ c) (hm : c ≤ 9223372036854775807) (h20 : 20 ≤ n) (h1500 : n ≤ 1500) (he : errC bs ≠ 0) :
    Calls Tryd.prog 22 #[.slice A n c] W fun e w' => e = .returned (badV (errC bs)) ∧ Below W.heap.size W w' := by
  have HB := Lib.hid (hb.alloc hB (.cells (cells7 0 0 0 0 0 0 0) 42))
  have HZ := Lib.hid (Hd.box W 0 0 0 0 0 0 0)
  have HBel := Lib.hid ((Below.refl _ W).alloc (Nat.le_refl _) (.cells (cells7 0 0 0 0 0 0 0) 42))
  have HH := Lib.hid (fun W' hb hB => head_any A n c bs B W' hb hB hc hm h20)
  have HC := Lib.hid (fun W' hb hB => check_any A n c bs B W' hb hB hc hm h20)
  have d : ((errC bs : Int) != 0) = true := by simp; omega
  clear hb he
  go_enter Tryd.func22, Tryd.ntmps22
  go_wp2_with fail
  go_at_call 35
  refine (HH.out _ HB.out (by simp; omega)).mono ?_
  rintro e w2 ⟨rfl, hb2⟩
  have HZ2 := Lib.hid (HZ.out.next hb2)
  have HB2 := Lib.hid (HB.out.below (hb2.mono (by simp; omega)))
  have HBel2 := Lib.hid (HBel.out.trans (hb2.mono (by simp)))
  have hs2 := hb2.size
  simp only [World.size_alloc] at hs2
  have HX := Lib.hid (Hd.box w2 0 0 0 0 0 0 0)
  obtain ⟨x0, x1, x2, x3, x4, x5, x6⟩ := HX.out.cells
  obtain ⟨g0, g1, g2, g3, g4, g5, g6⟩ := HX.out.frozen
  clear hb2
  go_wp2_with fail
  go_at_call 36
  have HB3 := Lib.hid (HB2.out.alloc (by omega) (.cells (cells7 (byt bs 9) (four bs 12) (four bs 16) (hs bs) (tl bs) (byt bs 8) (word bs 4)) 42))
  refine (HC.out _ HB3.out (by simp; omega)).mono ?_
  rintro e w3 ⟨rfl, hb3⟩
  have bel3 := HBel2.out.trans ((((Below.refl _ w2).alloc (Nat.le_refl _) (.cells (cells7 (byt bs 9) (four bs 12) (four bs 16) (hs bs) (tl bs) (byt bs 8) (word bs 4)) 42)).trans (hb3.mono (by simp))).mono (by omega))
  have HZ3 := Lib.hid ((HZ2.out.next ((Below.refl _ w2).alloc (Nat.le_refl _) (.cells (cells7 (byt bs 9) (four bs 12) (four bs 16) (hs bs) (tl bs) (byt bs 8) (word bs 4)) 42))).next hb3)
  clear hb3 x0 x1 x2 x3 x4 x5 x6 g0 g1 g2 g3 g4 g5 g6 hs2
  obtain ⟨z0, z1, z2, z3, z4, z5, z6⟩ := HZ3.out.cells
  obtain ⟨f0, f1, f2, f3, f4, f5, f6⟩ := HZ3.out.frozen
  go_wp2_with fail
  obtain ⟨r0, r1, r2, r3, r4, r5, r6⟩ := (HZ3.out.store 0 0 0 0 0 0 0).cells
  exact bodyPost_ret (v := badV (errC bs)) (by simp [results, Tryd.results22, go_sem, r0, r1, r2, r3, r4, r5, r6]) rfl ⟨rfl, below_store7 bel3 (Nat.le_refl _) _ _ _ _ _ _ _⟩

theorem row_of_own {w : World} {base g n : Nat} {bs : List UInt8} (h : w.ownsRow base 5 1 (.slice (some ⟨g, 0, none⟩) n n) n (bvs bs)) : Row w g bs := by
  rcases h.2 with ⟨h', _⟩ | ⟨g', cap', cur, h', _, hg, _, _, hcs, htake⟩
  · simp at h'
  · simp only [Value.slice.injEq, Option.some.injEq, Addr.mk.injEq, and_true, true_and] at h'
    obtain ⟨rfl, rfl⟩ := h'
    rw [List.take_of_length_le (by simp [hcs])] at htake
    unfold Row
    rw [← htake]
    exact hg

theorem body_bts {w : World} {B n b off m : Nat} {bs : List UInt8} (hb : Bts w B (some ⟨b, off, none⟩) n bs) (hm : tl bs - hs bs = m) (h : hs bs + m ≤ n) (sp : Option Addr) (hsp : 0 < tl bs - hs bs → sp = some ⟨b, off + hs bs, none⟩) :
    Bts w B sp (tl bs - hs bs) (body bs) := by
  rcases Nat.eq_zero_or_pos m with h0 | h0
  · rw [hm, h0]
    have : body bs = [] := by unfold body; rw [hm, h0]; simp
    rw [this]
    exact Bts.empty _ _ _
  · rw [hsp (by omega), hm]
    obtain ⟨b', off', e, h1⟩ := hb.cut (hs bs) m h0 (by omega)
    injection e with e
    injection e with e1 e2
    subst e1; subst e2
    unfold body
    rw [hm]
    exact h1

/-- What Parse answers where nothing is wrong. -/
def Parsed (W : World) (bs : List UInt8) (e : Ending) (w' : World) : Prop :=
  ∃ A c, e = .returned (.tuple #[headV bs, .slice A (tl bs - hs bs) c, .int .i64 0]) ∧ Bts w' w'.heap.size A (tl bs - hs bs) (body bs) ∧ (tl bs - hs bs ≤ c ∧ c ≤ 9223372036854775807) ∧ Below W.heap.size W w'

/-- .. in memory that the call made. -/
def ParsedN (W : World) (bs : List UInt8) (e : Ending) (w' : World) : Prop :=
  ∃ A c, e = .returned (.tuple #[headV bs, .slice A (tl bs - hs bs) c, .int .i64 0]) ∧ Bts w' w'.heap.size A (tl bs - hs bs) (body bs) ∧ (tl bs - hs bs ≤ c ∧ c ≤ 9223372036854775807) ∧ Below W.heap.size W w' ∧ ∀ p, A = some p → W.heap.size ≤ p.block
theorem ParsedN.plain {W w' : World} {bs : List UInt8} {e : Ending} (h : ParsedN W bs e w') : Parsed W bs e w' := by
  obtain ⟨A, c, h1, h2, h3, h4, _⟩ := h
  exact ⟨A, c, h1, h2, h3, h4⟩

set_option maxHeartbeats 2000000 in
theorem parse_okN (A : Option Addr) (n c : Nat) (bs : List UInt8) (B : Nat) (W : World) (hb : Bts W B A n bs) (hB : B ≤ W.heap.size) (hc : n ≤ c) (hm : c ≤ 9223372036854775807) (h20 : 20 ≤ n) (h1500 : n ≤ 1500) (he : errC bs = 0) :
    Calls Tryd.prog 22 #[.slice A n c] W (ParsedN W bs) := by
  obtain ⟨i0, hi0, hz0, hz1, hz2⟩ := info_parts u8_info
  obtain ⟨b, off, rfl, hlt, -⟩ := hb.at_ (by omega)
  obtain ⟨q1, q2, q3, q4, q5, q6, q7⟩ := IpM.errC_zero he
  have HBL := Lib.hid (IpM.body_len he)
  rw [hb.len] at q3 q5
  obtain ⟨m, hmm⟩ : ∃ m, tl bs = hs bs + m := ⟨tl bs - hs bs, by omega⟩
  have HM : Hid (tl bs - hs bs = m) := by show _ = _; omega
  have em : (tl bs : Int) - (hs bs : Int) = (m : Int) := by omega
  have m1 : hs bs + m ≤ n := by omega
  have HB := Lib.hid (hb.alloc hB (.cells (cells7 0 0 0 0 0 0 0) 42))
  have HZ := Lib.hid (Hd.box W 0 0 0 0 0 0 0)
  have HBel := Lib.hid ((Below.refl _ W).alloc (Nat.le_refl _) (.cells (cells7 0 0 0 0 0 0 0) 42))
  have HH := Lib.hid (fun W' hb hB => head_any (some ⟨b, off, none⟩) n c bs B W' hb hB hc hm h20)
  have HC := Lib.hid (fun W' hb hB => check_any (some ⟨b, off, none⟩) n c bs B W' hb hB hc hm h20)
  rw [he] at HC
  have hsl := hs_le bs
  have htl := tl_lt bs
  clear hb he hmm q1 q6 q7
  go_enter Tryd.func22, Tryd.ntmps22
  go_wp2_with fail
  go_at_call 35
  refine (HH.out _ HB.out (by simp; omega)).mono ?_
  rintro e w2 ⟨rfl, hb2⟩
  have HZ2 := Lib.hid (HZ.out.next hb2)
  have HB2 := Lib.hid (HB.out.below (hb2.mono (by simp; omega)))
  have HBel2 := Lib.hid (HBel.out.trans (hb2.mono (by simp)))
  have hs2 := hb2.size
  simp only [World.size_alloc] at hs2
  have HX := Lib.hid (Hd.box w2 0 0 0 0 0 0 0)
  obtain ⟨x0, x1, x2, x3, x4, x5, x6⟩ := HX.out.cells
  obtain ⟨g0, g1, g2, g3, g4, g5, g6⟩ := HX.out.frozen
  clear hb2
  go_wp2_with fail
  go_at_call 36
  have HB3 := Lib.hid (HB2.out.alloc (by omega) (.cells (cells7 (byt bs 9) (four bs 12) (four bs 16) (hs bs) (tl bs) (byt bs 8) (word bs 4)) 42))
  refine (HC.out _ HB3.out (by simp; omega)).mono ?_
  rintro e w3 ⟨rfl, hb3⟩
  have bel3 := HBel2.out.trans ((((Below.refl _ w2).alloc (Nat.le_refl _) (.cells (cells7 (byt bs 9) (four bs 12) (four bs 16) (hs bs) (tl bs) (byt bs 8) (word bs 4)) 42)).trans (hb3.mono (by simp))).mono (by omega))
  have HZ3 := Lib.hid ((HZ2.out.next ((Below.refl _ w2).alloc (Nat.le_refl _) (.cells (cells7 (byt bs 9) (four bs 12) (four bs 16) (hs bs) (tl bs) (byt bs 8) (word bs 4)) 42))).next hb3)
  have HY3 := Lib.hid ((Hd.box w2 (byt bs 9) (four bs 12) (four bs 16) (hs bs) (tl bs) (byt bs 8) (word bs 4)).next hb3)
  have HB4 := Lib.hid (HB3.out.below (hb3.mono (by simp; omega)))
  have hs3 := hb3.size
  simp only [World.size_alloc] at hs3
  clear hb3 x0 x1 x2 x3 x4 x5 x6 g0 g1 g2 g3 g4 g5 g6
  obtain ⟨y0, y1, y2, y3, y4, y5, y6⟩ := HY3.out.cells
  have HBD := Lib.hid (fun (w : World) (hb : Bts w B (some ⟨b, off, none⟩) n bs) => body_bts hb HM.out m1)
  have HBL2 : Hid ((body bs).length = m) := by show _ = _; rw [HBL.out]; exact HM.out
  go_wp2_with (first
    | (at_make; refine wpList_make_full _ rfl (.tmp 29) (.tmp 29) _ rfl w3.heap.size 5 i0 _ 1 Tryd.underlying26 hi0 hz0 hz1 .i64 .i64 (m : Int) (m : Int) m rfl rfl rfl rfl (by rw [hz2]; omega) (by unfold maxLen; omega) (Nat.le_refl _) ?_
       intro w4 hown hgr
       rw [bvs_zeros] at hown
       have hb4 := (Below.refl w3.heap.size w3).grown hgr (Nat.le_refl _) (by simp)
       have HR4 := Lib.hid (row_of_own hown)
       have HY4 := Lib.hid (HY3.out.next hb4)
       have HZ4 := Lib.hid (HZ3.out.next hb4)
       have HB5 := Lib.hid (HB4.out.below (hb4.mono (by omega)))
       have bel4 := bel3.trans (hb4.mono (by omega))
       have hs4 := hb4.size
       clear hown hgr hb4 y0 y1 y2 y3 y4 y5 y6
       obtain ⟨y0, y1, y2, y3, y4, y5, y6⟩ := HY4.out.cells)
    | (refine at_slot 38 ?_
       refine wpList_copy_bts rfl (.tmp 31) (.tmp 37) _ _ rfl 5 Tryd.underlying26 (by kernel_rfl) (some ⟨w3.heap.size, 0, none⟩) (if c = hs bs then some ⟨b, off, none⟩ else some ⟨b, off + hs bs, none⟩) w3.heap.size 0 m m (tl bs - hs bs) (c - hs bs) B rfl rfl (List.replicate m 0) (body bs) 5 HR4.out (HBD.out _ HB5.out _ (fun h => if_neg (by have := HM.out; omega))) (by have := HM.out; omega) (by have := HM.out; rw [List.length_replicate]; omega) (fun _ => rfl) ?_
       intro w5 hr5 hg5
       have HR5 := Lib.hid hr5
       clear y0 y1 y2 y3 y4 y5 y6 hr5
       have HY5 := Lib.hid (HY4.out.keep (hg5.block _ (by omega) (by simp; omega)))
       have HZ5 := Lib.hid (HZ4.out.keep (hg5.block _ (by omega) (by simp; omega)))
       have bel5 := bel4.grown hg5 (by omega) (by intro k hk; injection hk with hk; omega)
       obtain ⟨y0, y1, y2, y3, y4, y5, y6⟩ := HY5.out.cells
       obtain ⟨z0, z1, z2, z3, z4, z5, z6⟩ := HZ5.out.cells
       obtain ⟨f0, f1, f2, f3, f4, f5, f6⟩ := HZ5.out.frozen))
  all_goals
    have hrow : (store7 w5 W.heap.size (byt bs 9) (four bs 12) (four bs 16) (hs bs) (tl bs) (byt bs 8) (word bs 4)).heap[w3.heap.size]? = some (.cells (bvs (body bs)).toArray 5 (0, 0)) := by
      rw [store7_block _ _ _ (by omega), HR5.out, over_all _ _ (by rw [List.length_replicate]; exact HBL2.out.symm)]
    have hbt := bts_row _ _ _ _ _ hrow rfl
    rw [HBL2.out] at hbt
    obtain ⟨r0, r1, r2, r3, r4, r5, r6⟩ := (HZ5.out.store (byt bs 9) (four bs 12) (four bs 16) (hs bs) (tl bs) (byt bs 8) (word bs 4)).cells
    exact bodyPost_ret (v := .tuple #[headV bs, .slice (some ⟨w3.heap.size, 0, none⟩) m m, .int .i64 0]) (by simp [results, Tryd.results22, go_sem, r0, r1, r2, r3, r4, r5, r6]) rfl
      ⟨some ⟨w3.heap.size, 0, none⟩, m, by rw [HM.out], by rw [HM.out]; exact hbt, by rw [HM.out]; omega, below_store7 bel5 (Nat.le_refl _) _ _ _ _ _ _ _, fun p hp => by injection hp with hp; subst hp; simp; omega⟩
theorem parse_ok (A : Option Addr) (n c : Nat) (bs : List UInt8) (B : Nat) (W : World) (hb : Bts W B A n bs) (hB : B ≤ W.heap.size) (hc : n ≤ c) (hm : c ≤ 9223372036854775807) (h20 : 20 ≤ n) (h1500 : n ≤ 1500) (he : errC bs = 0) :
    Calls Tryd.prog 22 #[.slice A n c] W (Parsed W bs) := (parse_okN A n c bs B W hb hB hc hm h20 h1500 he).mono fun _ _ h => h.plain

end Ip
end Go.Proofs.YtapcjjhbdhkhhaaDoor
