/- Layer 3: the contracts of the reference's Num, Number, Parse, Print. -/
import Derived.Test.YtfbbkbjiaopnkaaGreatDoorAdrC
set_option linter.unusedVariables false
set_option linter.unusedSimpArgs false
namespace Go.Proofs.YtfbbkbjiaopnkaaGreatDoor
open Go.ChangeShapes Go.WideShapes Go.ChangeAt Go.RowKit Go.Mtl Go.Shelf Go.Sort Go.Lib
namespace Ad
open AdrM (byteS byteS_some byteS_le numS parseS printS validS showS hasS netS pieces fold dval isDig refNum)

/-- 'string([]byte{x})' of a byte x, in the world behind the literal. -/
theorem conv_byte (c : UInt8) (x : Int) (hx : x = (c.toNat : Int)) (W : World) :
    (convert 61 9 (.slice (some ⟨W.heap.size, 0, none⟩) 1 1)).run Tryz.prog (W.alloc (.cells #[.int .u8 x] 5)) = .ok (.string ⟨[c].toArray⟩) (W.alloc (.cells #[.int .u8 x] 5)) := by
  subst hx
  exact run_text (P := Tryz.prog) 61 9 5 Tryz.underlying61 Tryz.underlying5 Tryz.underlying9 (c := 1) (bts_row (W.alloc (.cells #[.int .u8 (c.toNat : Int)] 5)) W.heap.size _ _ [c] (heap_alloc_new _ _) rfl)
theorem digit_is (u : Nat) : (48 + (u : Int) % 10) = ((UInt8.ofNat (48 + u % 10)).toNat : Int) := by
  rw [AdrM.dig_toNat _ (by omega)]; omega
theorem digit_is0 (u : Nat) (h : u < 10) : (48 + (u : Int)) = ((UInt8.ofNat (48 + u)).toNat : Int) := by
  rw [AdrM.dig_toNat _ (by omega)]; omega

set_option maxRecDepth 100000 in
set_option maxHeartbeats 1000000 in
theorem num_any (n : Nat) (hn : n < 4294967296) (w : World) :
    Calls Tryz.prog 55 #[.int .i64 (n : Int)] w fun e w' => e = .returned (.string ⟨(decDigits n).toArray⟩) ∧ Below w.heap.size w w' := by
  have HL := Lib.hid (AdrM.decDigits_len_le 9 n (by omega))
  go_enter Tryz.func55, Tryz.ntmps55
  go_wp2_with fail
  go_loopw [3, 4] (fun u s wr => ∃ (k : Nat) (t : List UInt8), u = .int .u64 (k : Int) ∧ s = .string ⟨t.toArray⟩ ∧ k ≤ n ∧ Hid (decDigits n = decDigits k ++ t) ∧ Below w.heap.size w wr) (fun u _ _ => (RowKit.intOf u).toNat)
  case atStart => exact ⟨n, [], rfl, rfl, Nat.le_refl _, by show _ = _; simp, Below.refl _ _⟩
  case round =>
    obtain ⟨k, t, rfl, rfl, hk, hd, hb⟩ := hrel
    have htl : t.length ≤ 10 := by have := congrArg List.length hd.out; rw [List.length_append] at this; have := HL.out; omega
    by_cases h9 : 9 < k
    · have HS := Lib.hid (show decDigits k = decDigits (k / 10) ++ [UInt8.ofNat (48 + k % 10)] by rw [decDigits, dif_neg (by omega)])
      have hcv := conv_byte _ _ (digit_is k) wr
      have hA := fun W => add_text (P := Tryz.prog) [UInt8.ofNat (48 + k % 10)] t (by simp) (by omega) W
      generalize UInt8.ofNat (48 + k % 10) = c at HS hcv hA
      clear htl
      go_wp2_with fail
      go_roundw
      case rel => exact ⟨k / 10, c :: t, by go_num, rfl, by omega, by show _ = _; rw [hd.out, HS.out]; simp, (hb.alloc hb.size _)⟩
      case measure => simp [RowKit.intOf]; omega
    · have HS := Lib.hid (show decDigits k = [UInt8.ofNat (48 + k)] by rw [decDigits, dif_pos (by omega)])
      have hcv := conv_byte _ _ (digit_is0 k (by omega)) wr
      have hA := fun W => add_text (P := Tryz.prog) [UInt8.ofNat (48 + k)] t (by simp) (by omega) W
      generalize UInt8.ofNat (48 + k) = c at HS hcv hA
      clear htl
      go_wp2_with fail
      go_ret
      exact ⟨by rw [hd.out, HS.out]; rfl, (hb.alloc hb.size _)⟩

set_option maxRecDepth 100000 in
set_option maxHeartbeats 1000000 in
theorem refNumber_any (s : ByteArray) (hs : s.size ≤ 1000000) (w : World) :
    Calls Tryz.prog 37 #[.string s] w fun e w' => e = .returned (.int .i64 (refNum s.data.toList)) ∧ Below w.heap.size w w' := by
  go_enter Tryz.func37, Tryz.ntmps37
  go_wp2_with fail
  go_loop [3, 4] (fun n i => ∃ k x : Nat, k ≤ s.size ∧ k ≤ 9 ∧ i = .int .i64 (k : Int) ∧ n = .int .i64 (x : Int) ∧ Hid (x = dval 0 (s.data.toList.take k)) ∧ Hid ((s.data.toList.take k).all isDig = true)) (fun _ i => 9 - (RowKit.intOf i).toNat)
  case atStart => exact ⟨0, 0, by omega, by omega, rfl, rfl, rfl, rfl⟩
  case round =>
    obtain ⟨k, x, hk, hk9, rfl, rfl, hx, hd⟩ := hrel
    by_cases hgo : k < s.size ∧ k < 9
    · obtain ⟨hlt, hlt9⟩ := hgo
      have HAT := Lib.hid (data_getElem? s k hlt)
      have hx8 : x < 100000000 := by rw [hx.out]; exact AdrM.dval_lt8 hd.out (by omega)
      have hby := s[k].toNat_lt
      by_cases hc : 48 ≤ s[k].toNat ∧ s[k].toNat ≤ 57
      · have hc1 := hc.1
        have hc2 := hc.2
        have HST : Hid (((10 * x + (s[k].toNat - 48) : Nat) : Int) = 10 * (x : Int) + ((s[k].toNat : Int) - 48)) := by show _ = _; omega
        have HC := Lib.hid hc
        clear hc
        go_wp2_with fail
        go_round
        case rel =>
          exact ⟨k + 1, 10 * x + (s[k].toNat - 48), by omega, by omega, by go_num, by rw [HST.out], by show _ = _; rw [AdrM.dval_step HAT.out, hx.out], AdrM.all_step HAT.out hd.out HC.out⟩
        case measure => simp [RowKit.intOf]; omega
      · have HB := Lib.hid (AdrM.refNum_bad HAT.out hc)
        by_cases hc1 : s[k].toNat < 48
        · clear hc
          go_wp2_with fail
          go_ret
          exact ⟨by rw [HB.out]; rfl, Below.refl _ _⟩
        · have hc2 : 57 < s[k].toNat := by omega
          have hc1' : 48 ≤ s[k].toNat := by omega
          clear hc hc1
          go_wp2_with fail
          go_ret
          exact ⟨by rw [HB.out]; rfl, Below.refl _ _⟩
    · have HE := Lib.hid (AdrM.refNum_end hk9 hd.out (by have := size_len s; omega))
      rw [← hx.out] at HE
      have hx9 : x < 1000000000 := by rw [hx.out]; exact AdrM.dval_lt9 hd.out hk9
      have HN := Lib.hid (fun W => num_any x (by omega) W)
      by_cases hlt : k < s.size
      · have hn9 : k = 9 := by omega
        subst hn9
        clear hgo
        go_wp2_with fail
        go_at_call 55
        refine (HN.out _).mono ?_
        rintro e w1 ⟨rfl, hb1⟩
        go_wp2_with fail
        · have h1 : (!decDigits x == s.toList) = true := by assumption
          rw [ByteArray.toList_eq] at h1
          have h2 := HE.out
          rw [if_neg (by simpa using h1)] at h2
          go_ret
          exact ⟨by rw [h2]; rfl, hb1⟩
        · have h1 : (!decDigits x == s.toList) = false := by assumption
          rw [ByteArray.toList_eq] at h1
          have h2 := HE.out
          rw [if_pos (by simpa using h1)] at h2
          go_ret
          exact ⟨by rw [h2]; rfl, hb1⟩
      · clear hgo
        go_wp2_with fail
        go_at_call 55
        refine (HN.out _).mono ?_
        rintro e w1 ⟨rfl, hb1⟩
        go_wp2_with fail
        · have h1 : (!decDigits x == s.toList) = true := by assumption
          rw [ByteArray.toList_eq] at h1
          have h2 := HE.out
          rw [if_neg (by simpa using h1)] at h2
          go_ret
          exact ⟨by rw [h2]; rfl, hb1⟩
        · have h1 : (!decDigits x == s.toList) = false := by assumption
          rw [ByteArray.toList_eq] at h1
          have h2 := HE.out
          rw [if_pos (by simpa using h1)] at h2
          go_ret
          exact ⟨by rw [h2]; rfl, hb1⟩


/-- What the reference makes of pieces, from an accumulator of 32 bits and a count: the address and the count, or none. -/
def refFold : Nat → Nat → List (List UInt8) → Option (Nat × Nat)
  | a, m, [] => some (a, m)
  | a, m, p :: ps => match byteS p with
    | some n => refFold ((a * 256 + n) % 4294967296) (m + 1) ps
    | none => none
theorem refFold_is : ∀ (ps : List (List UInt8)) (a m : Nat), a < 256 ^ m → (m + ps.length ≤ 4 → refFold a m ps = (fold a ps).map (·, m + ps.length)) := by
  intro ps
  induction ps with
  | nil => intro a m _ _; rfl
  | cons p ps ih =>
    intro a m ha hm
    rw [List.length_cons] at hm
    unfold refFold fold
    cases hp : byteS p with
    | none => rfl
    | some n =>
      have hn := byteS_le hp
      have h1 : a * 256 + n < 256 ^ (m + 1) := by rw [Nat.pow_succ]; omega
      have h2 : 256 ^ (m + 1) ≤ 256 ^ 4 := Nat.pow_le_pow_right (by omega) (by omega)
      simp only []
      rw [Nat.mod_eq_of_lt (by omega), ih _ _ h1 (by omega), List.length_cons]
      rw [show m + 1 + ps.length = m + (ps.length + 1) by omega]
theorem refFold_len : ∀ (ps : List (List UInt8)) (a m : Nat) (x : Nat × Nat), refFold a m ps = some x → x.2 = m + ps.length := by
  intro ps
  induction ps with
  | nil => intro a m x h; cases h; rfl
  | cons p ps ih =>
    intro a m x h
    unfold refFold at h
    cases hp : byteS p with
    | none => rw [hp] at h; cases h
    | some n => rw [hp] at h; have := ih _ _ _ h; rw [this, List.length_cons]; omega
/-- The reference's answer out of its fold. -/
theorem refParse_is (l : List UInt8) : parseRes l = (match refFold 0 0 (pieces 46 l) with
    | some (a, 4) => .tuple #[.int .u32 (a : Int), .int .i64 0]
    | _ => .tuple #[.int .u32 0, .int .i64 3]) := by
  by_cases h4 : (pieces 46 l).length = 4
  · have h1 := refFold_is (pieces 46 l) 0 0 (by simp) (by omega)
    rw [h1]
    cases hf : fold 0 (pieces 46 l) with
    | none => rw [parseRes_none (by rw [AdrM.parseS_fold, if_pos h4]; exact hf)]; rfl
    | some a => rw [parseRes_some (a := a) (by rw [AdrM.parseS_fold, if_pos h4]; exact hf), h4]; rfl
  · rw [parseRes_none (by rw [AdrM.parseS_fold, if_neg h4])]
    cases hf : refFold 0 0 (pieces 46 l) with
    | none => rfl
    | some x =>
      have := refFold_len _ _ _ _ hf
      obtain ⟨a, m⟩ := x
      simp only [] at this
      split
      · rename_i e; cases e; omega
      · rfl
theorem refFold_step {ps qs : List (List UInt8)} {p : List UInt8} {a m n : Nat} (h : ps = p :: qs) (hn : byteS p = some n) : refFold a m ps = refFold ((a * 256 + n) % 4294967296) (m + 1) qs := by
  subst h; conv => lhs; unfold refFold
  rw [hn]
theorem refFold_stop {ps qs : List (List UInt8)} {p : List UInt8} {a m : Nat} (h : ps = p :: qs) (hn : byteS p = none) : refFold a m ps = none := by
  subst h; unfold refFold; rw [hn]

theorem refNum_byte {l : List UInt8} {n : Nat} (h : byteS l = some n) : refNum l = (n : Int) := by
  obtain ⟨e, hn⟩ := byteS_some.1 h
  unfold refNum
  rw [AdrM.numS_some.2 e]
  show (if n < 1000000000 then _ else _) = _
  rw [if_pos (by omega)]
theorem refNum_none {l : List UInt8} (h : byteS l = none) : refNum l < 0 ∨ 255 < refNum l := by
  unfold refNum
  cases hn : numS l with
  | none => exact .inl (by show (-1 : Int) < 0; omega)
  | some n =>
    have h255 : 255 < n := by
      rcases Nat.lt_or_ge 255 n with h1 | h1
      · exact h1
      · rw [byteS_some.2 ⟨AdrM.numS_some.1 hn, h1⟩] at h; cases h
    show (if n < 1000000000 then (n : Int) else -1) < 0 ∨ 255 < (if n < 1000000000 then (n : Int) else -1)
    by_cases h9 : n < 1000000000
    · rw [if_pos h9]; omega
    · rw [if_neg h9]; omega
theorem refNum_ge (l : List UInt8) : -1 ≤ refNum l ∧ refNum l < 1000000000 := by
  unfold refNum
  cases numS l with
  | none => exact ⟨by show (-1 : Int) ≤ -1; omega, by show (-1 : Int) < _; omega⟩
  | some n =>
    show -1 ≤ (if n < 1000000000 then (n : Int) else -1) ∧ (if n < 1000000000 then (n : Int) else -1) < 1000000000
    by_cases h9 : n < 1000000000
    · rw [if_pos h9]; omega
    · rw [if_neg h9]; omega

/-- The pieces from place f on; none behind the end. -/
def rest (l : List UInt8) (f : Nat) : List (List UInt8) := if f ≤ l.length then pieces 46 (l.drop f) else []
theorem extract_list (s : ByteArray) (a b : Nat) : (s.extract a b).data.toList = (s.data.toList.drop a).take (b - a) := by
  simp [ByteArray.data_extract, List.extract_eq_take_drop]
def noDot (l : List UInt8) (f i : Nat) : Prop := ∀ j c, f ≤ j → j < i → l[j]? = some c → c ≠ 46
theorem noDot_piece {l : List UInt8} {f i : Nat} (h : noDot l f i) : (46 : UInt8) ∉ (l.drop f).take (i - f) := by
  intro hm
  obtain ⟨j, hj⟩ := List.getElem?_of_mem hm
  have hlt : j < i - f := by
    have := (List.getElem?_eq_some_iff.1 hj).1
    simp at this; omega
  rw [List.getElem?_take_of_lt hlt, List.getElem?_drop] at hj
  exact h (f + j) 46 (by omega) (by omega) hj rfl
theorem rest_dot {l : List UInt8} {f i : Nat} (hf : f ≤ i) (h : noDot l f i) (hi : l[i]? = some 46) : rest l f = (l.drop f).take (i - f) :: rest l (i + 1) := by
  have hlt := (List.getElem?_eq_some_iff.1 hi).1
  have e : l.drop f = (l.drop f).take (i - f) ++ 46 :: l.drop (i + 1) := by
    conv => lhs; rw [← List.take_append_drop (i - f) (l.drop f)]
    congr 1
    rw [List.drop_drop, show f + (i - f) = i by omega, List.drop_eq_getElem_cons hlt]
    congr 1
    exact (List.getElem?_eq_some_iff.1 hi).2
  unfold rest
  rw [if_pos (by omega), if_pos (by omega)]
  conv => lhs; rw [e]
  exact AdrM.pieces_hit 46 _ _ (noDot_piece h)
theorem rest_end {l : List UInt8} {f : Nat} (hf : f ≤ l.length) (h : noDot l f l.length) : rest l f = (l.drop f).take (l.length - f) :: rest l (l.length + 1) := by
  have h1 := noDot_piece h
  unfold rest
  rw [if_pos hf, if_neg (by omega)]
  have e : (l.drop f).take (l.length - f) = l.drop f := List.take_of_length_le (by simp)
  rw [e] at h1 ⊢
  exact AdrM.pieces_miss 46 _ h1

set_option maxRecDepth 100000 in
set_option maxHeartbeats 2000000 in
theorem refParse_any (s : ByteArray) (hs : s.size ≤ 1000000) (w : World) :
    Calls Tryz.prog 36 #[.string s] w fun e w' => e = .returned (parseRes s.data.toList) ∧ Below w.heap.size w w' := by
  have HR := Lib.hid (refParse_is s.data.toList)
  have HSZ := Lib.hid (size_len s)
  go_enter Tryz.func36, Tryz.ntmps36
  go_wp2_with fail
  go_loopw [4, 5, 6, 7] (fun a f m i wr => ∃ x from' many k : Nat, a = .int .u32 (x : Int) ∧ f = .int .i64 (from' : Int) ∧ m = .int .i64 (many : Int) ∧ i = .int .i64 (k : Int) ∧ k ≤ s.size + 1 ∧ from' ≤ k ∧ many ≤ k ∧ x < 4294967296 ∧
      Hid (k = s.size + 1 → from' = k) ∧ Hid (noDot s.data.toList from' k) ∧ Hid (refFold 0 0 (pieces 46 s.data.toList) = refFold x many (rest s.data.toList from')) ∧ Below w.heap.size w wr) (fun _ _ _ i _ => s.size + 1 - (RowKit.intOf i).toNat)
  case atStart => exact ⟨0, 0, 0, 0, rfl, rfl, rfl, rfl, by omega, by omega, by omega, by omega, fun h => by omega, fun j c _ h => by omega, by show _ = _; unfold rest; rw [if_pos (by omega)]; rfl, Below.refl _ _⟩
  case round =>
    obtain ⟨x, f, m, k, rfl, rfl, rfl, rfl, hk, hf, hm, hx, hend, hnd, hfold, hb⟩ := hrel
    by_cases hlt : k < s.size
    · have HAT := Lib.hid (data_getElem? s k hlt)
      by_cases hd : s[k] = 46
      · have heq : ((s[k].toNat : Int) != 46) = false := by
          have : s[k].toNat = 46 := by rw [hd]; rfl
          simp; omega
        have HPC := Lib.hid (rest_dot hf hnd.out (by rw [HAT.out, hd]))
        have HNUM := Lib.hid (fun W => refNumber_any (s.extract f k) (by simp [ByteArray.size_extract]; omega) W)
        have hge := refNum_ge (s.extract f k).data.toList
        have HX := Lib.hid (extract_list s f k)
        clear hd
        cases hbs : byteS (s.extract f k).data.toList with
        | none =>
          have HBN : Hid (byteS ((s.data.toList.drop f).take (k - f)) = none) := by show _ = _; rw [← HX.out]; exact hbs
          have hno := refNum_none hbs
          clear hbs
          generalize refNum (s.extract f k).data.toList = v at HNUM hge hno
          by_cases hv0 : v < 0
          · clear hno
            go_wp2_with fail
            go_at_call 37
            refine (HNUM.out _).mono ?_
            rintro e w2 ⟨rfl, hb2⟩
            go_wp2_with fail
            go_ret2
            refine ⟨?_, hb.trans (hb2.mono hb.size)⟩
            rw [HR.out, hfold.out, refFold_stop HPC.out HBN.out]; rfl
          · have hv1 : 255 < v := by omega
            have hv2 : 0 ≤ v := by omega
            clear hno hv0
            go_wp2_with fail
            go_at_call 37
            refine (HNUM.out _).mono ?_
            rintro e w2 ⟨rfl, hb2⟩
            go_wp2_with fail
            go_ret2
            refine ⟨?_, hb.trans (hb2.mono hb.size)⟩
            rw [HR.out, hfold.out, refFold_stop HPC.out HBN.out]; rfl
        | some n =>
          have HBN : Hid (byteS ((s.data.toList.drop f).take (k - f)) = some n) := by show _ = _; rw [← HX.out]; exact hbs
          have hn8 := byteS_le hbs
          rw [refNum_byte hbs] at HNUM
          clear hbs hge
          go_wp2_with fail
          go_at_call 37
          refine (HNUM.out _).mono ?_
          rintro e w2 ⟨rfl, hb2⟩
          go_wp2_with fail
          go_roundw
          case rel =>
            exact ⟨(x * 256 + n) % 4294967296, k + 1, m + 1, k + 1, ret_u32 (by omega), by go_num, by go_num, by go_num, by omega, by omega, by omega, by omega, fun _ => rfl, fun j c h1 h2 _ => by omega, hfold.out.trans (refFold_step HPC.out HBN.out), hb.trans (hb2.mono hb.size)⟩
          case measure => simp [RowKit.intOf]; omega
      · have hne : ((s[k].toNat : Int) != 46) = true := by
          have : s[k].toNat ≠ 46 := fun e => hd (UInt8.toNat_inj.1 e)
          simp; omega
        have HND : Hid (noDot s.data.toList f (k + 1)) := fun j c h1 h2 h3 => by
          rcases Nat.lt_or_ge j k with h4 | h4
          · exact hnd.out j c h1 h4 h3
          · obtain rfl : j = k := by omega
            rw [HAT.out] at h3
            cases h3; exact hd
        clear hd
        go_wp2_with fail
        go_roundw
        case rel => exact ⟨x, f, m, k + 1, rfl, rfl, rfl, by go_num, by omega, by omega, by omega, hx, fun h => by omega, HND.out, hfold.out, hb⟩
        case measure => simp [RowKit.intOf]; omega
    · by_cases hks : k = s.size
      · have hkl : Hid (k = s.data.toList.length) := hks.trans HSZ.out
        have HPC : Hid (rest s.data.toList f = (s.data.toList.drop f).take (k - f) :: rest s.data.toList (k + 1)) := by
          show _ = _
          rw [hkl.out]
          rw [hkl.out] at hf hnd
          exact rest_end hf hnd.out
        have hlt' : (k : Int) ≤ (s.size : Int) := by omega
        clear hks
        have HNUM := Lib.hid (fun W => refNumber_any (s.extract f k) (by simp [ByteArray.size_extract]; omega) W)
        have hge := refNum_ge (s.extract f k).data.toList
        have HX := Lib.hid (extract_list s f k)
        cases hbs : byteS (s.extract f k).data.toList with
        | none =>
          have HBN : Hid (byteS ((s.data.toList.drop f).take (k - f)) = none) := by show _ = _; rw [← HX.out]; exact hbs
          have hno := refNum_none hbs
          clear hbs
          generalize refNum (s.extract f k).data.toList = v at HNUM hge hno
          by_cases hv0 : v < 0
          · clear hno
            go_wp2_with fail
            go_at_call 37
            refine (HNUM.out _).mono ?_
            rintro e w2 ⟨rfl, hb2⟩
            go_wp2_with fail
            go_ret2
            refine ⟨?_, hb.trans (hb2.mono hb.size)⟩
            rw [HR.out, hfold.out, refFold_stop HPC.out HBN.out]; rfl
          · have hv1 : 255 < v := by omega
            have hv2 : 0 ≤ v := by omega
            clear hno hv0
            go_wp2_with fail
            go_at_call 37
            refine (HNUM.out _).mono ?_
            rintro e w2 ⟨rfl, hb2⟩
            go_wp2_with fail
            go_ret2
            refine ⟨?_, hb.trans (hb2.mono hb.size)⟩
            rw [HR.out, hfold.out, refFold_stop HPC.out HBN.out]; rfl
        | some n =>
          have HBN : Hid (byteS ((s.data.toList.drop f).take (k - f)) = some n) := by show _ = _; rw [← HX.out]; exact hbs
          have hn8 := byteS_le hbs
          rw [refNum_byte hbs] at HNUM
          clear hbs hge
          go_wp2_with fail
          go_at_call 37
          refine (HNUM.out _).mono ?_
          rintro e w2 ⟨rfl, hb2⟩
          go_wp2_with fail
          go_roundw
          case rel =>
            exact ⟨(x * 256 + n) % 4294967296, k + 1, m + 1, k + 1, ret_u32 (by omega), by go_num, by go_num, by go_num, by omega, by omega, by omega, by omega, fun _ => rfl, fun j c h1 h2 _ => by omega, hfold.out.trans (refFold_step HPC.out HBN.out), hb.trans (hb2.mono hb.size)⟩
          case measure => simp [RowKit.intOf]; omega
      · obtain rfl : k = s.size + 1 := by omega
        have HFF : Hid (refFold 0 0 (pieces 46 s.data.toList) = some (x, m)) := by
          show _ = _
          rw [hfold.out, hend.out rfl]
          unfold rest
          rw [if_neg (by have := HSZ.out; omega)]
          rfl
        by_cases h4 : m = 4
        · subst h4
          clear hks hlt
          go_wp2_with fail
          go_ret2
          exact ⟨by rw [HR.out, HFF.out]; rfl, hb⟩
        · have hm4 : ((m : Int) != 4) = true := by simp; omega
          have HNO : Hid (parseRes s.data.toList = .tuple #[.int .u32 0, .int .i64 3]) := by
            show _ = _
            rw [HR.out, HFF.out]
            split
            · rename_i e; cases e; exact absurd rfl h4
            · rfl
          clear hks hlt h4
          go_wp2_with fail
          go_ret2
          exact ⟨by rw [HNO.out]; rfl, hb⟩

end Ad
end Go.Proofs.YtfbbkbjiaopnkaaGreatDoor
