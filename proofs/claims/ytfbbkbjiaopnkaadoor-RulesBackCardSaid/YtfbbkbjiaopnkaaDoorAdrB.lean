/- Layer 3: the contracts of addr.Parse and addr.Print. -/
import Derived.Test.YtfbbkbjiaopnkaaDoorAdrA
import Derived.Test.YtfbbkbjiaopnkaaDoorAdrK
set_option linter.unusedVariables false
set_option linter.unusedSimpArgs false
namespace Go.Proofs.YtfbbkbjiaopnkaaDoor
open Go.ChangeShapes Go.WideShapes Go.ChangeAt Go.RowKit Go.Mtl Go.Shelf Go.Sort Go.Lib
namespace Ad
open AdrM (byteS byteS_some byteS_le pieces parseS fold printS b3 b2 b1 b0)

/-- What Parse answers. -/
def parseRes (l : List UInt8) : Value := match parseS l with
  | some a => .tuple #[.int .u32 (a : Int), .int .i64 0]
  | none => .tuple #[.int .u32 0, .int .i64 3]
theorem parseRes_some {l : List UInt8} {a : Nat} (h : parseS l = some a) : parseRes l = .tuple #[.int .u32 (a : Int), .int .i64 0] := by unfold parseRes; rw [h]
theorem parseRes_none {l : List UInt8} (h : parseS l = none) : parseRes l = .tuple #[.int .u32 0, .int .i64 3] := by unfold parseRes; rw [h]

theorem size_len (s : ByteArray) : s.size = s.data.toList.length := Array.length_toList.symm
abbrev dot : ByteArray := ⟨#[46]⟩
theorem row_of (w : World) (o : Obj) : (w.alloc o).heap[w.heap.size]? = some o := heap_alloc_new w o

theorem ret_u32 {a b : Int} (h : a = b) : Value.int .u32 a = Value.int .u32 b := by rw [h]
theorem or_is (x n : Nat) (hx : x < 16777216) (hn : n ≤ 255) : bits .or .u32 ((x : Int) * 256) (n : Int) = ((x * 256 + n : Nat) : Int) := by
  rw [show (x : Int) * 256 = ((x * 256 : Nat) : Int) by omega, u32_or_nat _ _ (by omega) (by omega)]
  have := AdrM.or_low x n hx (by omega)
  rw [Nat.mod_eq_of_lt (by omega)] at this
  rw [this]

set_option maxHeartbeats 2000000 in
theorem parse_any (s : ByteArray) (hs : s.size ≤ 1000000) (w : World) (he : Env w) :
    Calls Tryd.prog 41 #[.string s] w fun e w' => e = .returned (parseRes s.data.toList) ∧ Below w.heap.size w w' := by
  obtain ⟨m, hm⟩ := he.max
  have HS := Lib.hid (Tryd.strings_Split s dot m w (by omega) hm (by decide))
  have HL := Lib.hid (AdrM.countB_pieces s dot 46 rfl)
  have HP := Lib.hid (AdrM.splitB_pieces s dot 46 rfl)
  have HF := Lib.hid (AdrM.parseS_fold s.data.toList)
  clear hm
  by_cases h4 : (pieces 46 s.data.toList).length = 4
  · have HN : Hid (countB s dot + 1 = 4) := by show _ = 4; rw [HL.out, h4]
    have HFF : Hid (parseS s.data.toList = fold 0 (pieces 46 s.data.toList)) := by show _ = _; rw [HF.out, if_pos h4]
    have H4 := Lib.hid h4
    clear h4
    rw [HN.out] at HS
    generalize hps : splitB dot 0 (countB s dot) s = ps at HS HP
    clear HL HF HN hps
    have HE := Lib.hid (he.alloc (.cells (ps.map Value.string).toArray 9))
    have HSZ : Hid (∀ (k : Nat) (p : ByteArray), ps[k]? = some p → p.size ≤ 1000000) := by
      intro k p hk
      have h1 := AdrM.pieces_len 46 s.data.toList p.data.toList (by rw [← HP.out]; exact List.mem_map.2 ⟨p, List.mem_of_getElem? hk, rfl⟩)
      have e1 := size_len s
      have e2 := size_len p
      omega
    clear he
    go_enter Tryd.func41, Tryd.ntmps41
    go_wp2_with fail
    go_at_call 24
    refine HS.out.mono ?_
    rintro e w1 ⟨rfl, hw1⟩
    have hc : ∀ (k : Nat) (p : ByteArray), ps[k]? = some p → w1.cell? ⟨w.heap.size, k, none⟩ = some (.string p) := by
      intro k p hk
      rw [hw1, cell_of_row _ _ _ _ _ _ (row_of _ _)]
      simp [hk]
    have hb0 : Below w.heap.size w w1 := by rw [hw1]; exact (Below.refl _ _).alloc (Nat.le_refl _) _
    have hz : w.heap.size < w1.heap.size := by rw [hw1]; simp
    rw [← hw1] at HE
    have HC := Lib.hid hc
    have HB0 := Lib.hid hb0
    clear hw1 hc hb0
    go_wp2_with fail
    go_loopw [5, 17] (fun a i wr => ∃ (k x : Nat), k ≤ 4 ∧ i = .int .i64 (k : Int) ∧ a = .int .u32 (x : Int) ∧ x < 256 ^ k ∧ Hid (fold 0 (pieces 46 s.data.toList) = fold x ((pieces 46 s.data.toList).drop k)) ∧ Below w1.heap.size w1 wr) (fun _ i _ => 4 - (RowKit.intOf i).toNat)
    case atStart => exact ⟨0, 0, by omega, rfl, rfl, by simp, by show _ = _; rw [List.drop_zero], Below.refl _ _⟩
    case round =>
      obtain ⟨k, x, hk, rfl, rfl, hx, hf, hb⟩ := hrel
      by_cases hlt : k < 4
      · obtain ⟨p, hp⟩ : ∃ p, ps[k]? = some p := by
          have : ps.length = 4 := by
            have := congrArg List.length HP.out
            rw [List.length_map, H4.out] at this
            exact this
          exact ⟨_, List.getElem?_eq_getElem (by omega)⟩
        have hcell : wr.cell? ⟨w.heap.size, k, none⟩ = some (.string p) := (hb.cell hz).trans (HC.out k p hp)
        have hpp : (pieces 46 s.data.toList)[k]? = some p.data.toList := by rw [← HP.out, List.getElem?_map, hp]; rfl
        have HPP := Lib.hid hpp
        have HNUM := Lib.hid (number_any p (HSZ.out k p hp) wr (HE.out.below hb))
        clear hp hpp
        have hx24 : x < 16777216 := Nat.lt_of_lt_of_le hx (Nat.le_trans (Nat.pow_le_pow_right (by omega) (show k ≤ 3 by omega)) (by decide))
        cases hn : byteS p.data.toList with
        | none =>
          rw [numRes_none hn] at HNUM
          have HN2 := Lib.hid hn
          clear hn
          go_wp2_with fail
          go_at_call 42
          refine HNUM.out.mono ?_
          rintro e w2 ⟨rfl, hb2⟩
          go_wp2_with fail
          go_ret2
          refine ⟨?_, HB0.out.trans ((hb.trans (hb2.mono hb.size)).mono (by omega))⟩
          rw [parseRes_none (HFF.out.trans (hf.out.trans (AdrM.fold_stop HPP.out HN2.out)))]
          rfl
        | some n =>
          have hn8 := byteS_le hn
          rw [numRes_some hn] at HNUM
          have HN2 := Lib.hid hn
          clear hn
          go_wp2_with fail
          go_at_call 42
          refine HNUM.out.mono ?_
          rintro e w2 ⟨rfl, hb2⟩
          go_wp2_with fail
          go_roundw
          case rel =>
            refine ⟨k + 1, x * 256 + n, by omega, by go_num, ret_u32 (or_is x n hx24 hn8), ?_, ?_, hb.trans (hb2.mono hb.size)⟩
            · rw [Nat.pow_succ]; omega
            · exact hf.out.trans (AdrM.fold_step HPP.out HN2.out)
          case measure => simp [RowKit.intOf]; omega
      · obtain rfl : k = 4 := by omega
        have hx32 : x < 4294967296 := Nat.lt_of_lt_of_le hx (by decide)
        go_wp2_with fail
        go_ret2
        refine ⟨?_, HB0.out.trans (hb.mono (by omega))⟩
        rw [parseRes_some (HFF.out.trans (hf.out.trans (AdrM.fold_end (by rw [H4.out]; exact Nat.le_refl _))))]
        rfl
  · have HN : Hid (parseS s.data.toList = none) := by show _ = _; rw [HF.out, if_neg h4]
    have hc : Hid (countB s dot + 1 ≠ 4) := by show _ ≠ _; rw [HL.out]; exact h4
    have hcl : countB s dot ≤ 1000000 := by
      have h1 := HL.out
      rw [AdrM.pieces_count] at h1
      have h2 := List.count_le_length (a := (46 : UInt8)) (l := s.data.toList)
      have h3 := size_len s
      omega
    clear h4 HL HF HP he
    generalize countB s dot = cnt at HS hc hcl
    have hd : ((cnt : Int) + 1 != 4) = true := by have := hc.out; simp; omega
    go_enter Tryd.func41, Tryd.ntmps41
    go_wp2_with fail
    go_at_call 24
    refine HS.out.mono ?_
    rintro e w1 ⟨rfl, hw1⟩
    have hb0 : Below w.heap.size w w1 := by rw [hw1]; exact (Below.refl _ _).alloc (Nat.le_refl _) _
    have HB0 := Lib.hid hb0
    clear hw1 hb0
    go_wp2_with fail
    go_ret2
    exact ⟨by rw [parseRes_none HN.out]; rfl, HB0.out⟩


/-- Of Print's four bytes the first k, with the dots between them. -/
def upto (a : Nat) : Nat → List UInt8
  | 0 => []
  | 1 => decDigits (b3 a)
  | 2 => decDigits (b3 a) ++ (46 :: decDigits (b2 a))
  | 3 => decDigits (b3 a) ++ (46 :: (decDigits (b2 a) ++ (46 :: decDigits (b1 a))))
  | _ => printS a
theorem upto_len (a k : Nat) (ha : a < 4294967296) : (upto a k).length ≤ 15 := by
  have h := AdrM.print_len a ha
  unfold printS at h
  unfold upto
  simp at h
  split <;> (try simp) <;> try omega
  unfold printS; simp; omega
theorem u8_info : (Tryd.prog.info? 5).map (fun i => (i.zero, i.size, i.bytes)) = some (some (.int .u8 0), 1, 1) := by kernel_rfl

/-- v is a row of the call's own (behind world w) that holds the bytes l. -/
def Row (w : World) (l : List UInt8) (v : Value) (wr : World) : Prop := wr.ownsRow w.heap.size 5 1 v l.length (bvs l) ∧ Below w.heap.size w wr
theorem row_dot {w wr w2 : World} {l : List UInt8} {v v2 : Value} (h : Row w l v wr) (c : UInt8)
    (ho2 : w2.ownsRow w.heap.size 5 1 v2 (l.length + 1) (bvs l ++ [.int .u8 (c.toNat : Int)])) (hg : (wr.alloc (.cells #[.int .u8 (c.toNat : Int)] 5)).grownBy w2 v.ownBlock) : Row w (l ++ [c]) v2 w2 := by
  refine ⟨?_, (h.2.alloc h.2.size _).grown hg (by simp; have := h.2.size; omega) (fun b hb => (h.1.lt b hb).1)⟩
  rw [← bvs_snoc, List.length_append]
  exact ho2
theorem appendUint_any {w wr : World} {l : List UInt8} {v : Value} (he : Env w) (h : Row w l v wr) (hl : l.length ≤ 1000) (x : Int) (u : Nat) (hx : x = (u : Int)) (hu : u ≤ 255) :
    Calls Tryd.prog 45 #[v, .int .u64 x, .int .i64 10] wr fun e w' => ∃ v', e = .returned v' ∧ Row w (l ++ decDigits u) v' w' := by
  subst hx
  have HC := Lib.hid (Tryd.internal_strconv_AppendUint_10 w.heap.size l.length u (by omega) v (bvs l) wr h.1 h.2.size (by omega) (he.below h.2).tab)
  have HR := Lib.hid h
  clear h he
  go_enter Tryd.func45, Tryd.ntmps45
  go_wp2_with fail
  go_at_call 56
  refine HC.out.mono ?_
  rintro e w2 ⟨v2, rfl, ho2, hb2, -⟩
  have HR2 : Hid (Row w (l ++ decDigits u) v2 w2) := by
    refine ⟨?_, HR.out.2.trans hb2⟩
    rw [List.length_append]
    have : bvs (l ++ decDigits u) = bvs l ++ byteCells (decDigits u) := by simp [bvs, byteCells]
    rw [this]
    exact ho2
  clear ho2 hb2
  go_wp2_with fail
  go_ret
  exact ⟨_, rfl, HR2.out⟩

set_option maxRecDepth 100000 in
set_option maxHeartbeats 2000000 in
theorem print_any (a : Nat) (ha : a < 4294967296) (w : World) (he : Env w) :
    Calls Tryd.prog 31 #[.int .u32 (a : Int)] w fun e w' => e = .returned (.string ⟨(printS a).toArray⟩) ∧ Below w.heap.size w w' := by
  obtain ⟨i0, hi0, hz0, hz1, hz2⟩ := info_parts u8_info
  have HE := Lib.hid he
  clear he
  go_enter Tryd.func31, Tryd.ntmps31
  go_wp2_with fail
  go_loopw [3, 6] (fun v i wr => ∃ (k : Nat), k ≤ 4 ∧ i = .int .i64 (k : Int) ∧ Hid (Row w (upto a k) v wr)) (fun _ i _ => 4 - (RowKit.intOf i).toNat)
  case atStart => exact ⟨0, by omega, rfl, World.ownsRow_nil _ _ _ _, Below.refl _ _⟩
  case round =>
    obtain ⟨k, hk, rfl, hown⟩ := hrel
    have HLE : Hid ((upto a k).length ≤ 15) := upto_len a k ha
    by_cases hlt : k < 4
    · obtain rfl | rfl | rfl | rfl : k = 0 ∨ k = 1 ∨ k = 2 ∨ k = 3 := by omega
      · go_wp2_with fail
        go_at_call 45
        refine (appendUint_any HE.out hown.out (by have := HLE.out; omega) _ (b3 a) (by unfold b3; omega) (by unfold b3; omega)).mono ?_
        rintro e w3 ⟨v3, rfl, hr3⟩
        have HR3 := Lib.hid hr3
        clear hr3
        go_wp2_with fail
        go_roundw
        case rel => exact ⟨1, by omega, rfl, HR3.out⟩
        case measure => simp [RowKit.intOf]
      · go_wp2_with (at_builtin; (refine wpList_append_byte _ rfl (.tmp 11) (.tmp 12) _ rfl w.heap.size 5 i0 Tryd.underlying32 hi0 hz0 hz1 hz2 _ _ _ _ rfl hown.out.1 rfl (by have := HLE.out; omega) hown.out.2.size ?_; intro o2 w2 ho2 hg2; have HO2 := Lib.hid (row_dot hown.out 46 ho2 hg2); clear ho2 hg2))
        go_at_call 45
        refine (appendUint_any HE.out HO2.out (by have := HLE.out; simp; omega) _ (b2 a) (by unfold b2; omega) (by unfold b2; omega)).mono ?_
        rintro e w3 ⟨v3, rfl, hr3⟩
        have HR3 : Hid (Row w (upto a 2) v3 w3) := by show Row _ _ _ _; simpa [upto] using hr3
        clear hr3
        go_wp2_with fail
        go_roundw
        case rel => exact ⟨2, by omega, rfl, HR3.out⟩
        case measure => simp [RowKit.intOf]
      · go_wp2_with (at_builtin; (refine wpList_append_byte _ rfl (.tmp 11) (.tmp 12) _ rfl w.heap.size 5 i0 Tryd.underlying32 hi0 hz0 hz1 hz2 _ _ _ _ rfl hown.out.1 rfl (by have := HLE.out; omega) hown.out.2.size ?_; intro o2 w2 ho2 hg2; have HO2 := Lib.hid (row_dot hown.out 46 ho2 hg2); clear ho2 hg2))
        go_at_call 45
        refine (appendUint_any HE.out HO2.out (by have := HLE.out; simp; omega) _ (b1 a) (by unfold b1; omega) (by unfold b1; omega)).mono ?_
        rintro e w3 ⟨v3, rfl, hr3⟩
        have HR3 : Hid (Row w (upto a 3) v3 w3) := by show Row _ _ _ _; simpa [upto] using hr3
        clear hr3
        go_wp2_with fail
        go_roundw
        case rel => exact ⟨3, by omega, rfl, HR3.out⟩
        case measure => simp [RowKit.intOf]
      · go_wp2_with (at_builtin; (refine wpList_append_byte _ rfl (.tmp 11) (.tmp 12) _ rfl w.heap.size 5 i0 Tryd.underlying32 hi0 hz0 hz1 hz2 _ _ _ _ rfl hown.out.1 rfl (by have := HLE.out; omega) hown.out.2.size ?_; intro o2 w2 ho2 hg2; have HO2 := Lib.hid (row_dot hown.out 46 ho2 hg2); clear ho2 hg2))
        go_at_call 45
        refine (appendUint_any HE.out HO2.out (by have := HLE.out; simp; omega) _ (b0 a) (by unfold b0; omega) (by unfold b0; omega)).mono ?_
        rintro e w3 ⟨v3, rfl, hr3⟩
        have HR3 : Hid (Row w (upto a 4) v3 w3) := by show Row _ _ _ _; simpa [upto, printS] using hr3
        clear hr3
        go_wp2_with fail
        go_roundw
        case rel => exact ⟨4, by omega, rfl, HR3.out⟩
        case measure => simp [RowKit.intOf]
    · obtain rfl : k = 4 := by omega
      have hne : 0 < (upto a 4).length := by
        simp [upto, printS]; omega
      obtain ⟨g, cap, rfl, _, _⟩ := hown.out.1.form hne
      have ht := run_text (P := Tryd.prog) 32 9 5 Tryd.underlying32 Tryd.underlying5 Tryd.underlying9 (c := cap) (bts_of_own hown.out.1 rfl)
      clear hne
      go_wp2_with fail
      go_ret
      exact ⟨rfl, hown.out.2⟩

end Ad
end Go.Proofs.YtfbbkbjiaopnkaaDoor
