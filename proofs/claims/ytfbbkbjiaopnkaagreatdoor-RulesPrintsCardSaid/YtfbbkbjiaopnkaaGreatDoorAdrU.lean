/- Layer 3: the contract of the reference's Net. -/
import Derived.Test.YtfbbkbjiaopnkaaGreatDoorAdrT
set_option linter.unusedVariables false
set_option linter.unusedSimpArgs false
namespace Go.Proofs.YtfbbkbjiaopnkaaGreatDoor
open Go.ChangeShapes Go.WideShapes Go.ChangeAt Go.RowKit Go.Mtl Go.Shelf Go.Sort Go.Lib
namespace Ad
open AdrM (byteS byteS_some byteS_le numS parseS printS validS showS hasS netS netP left right anyL pieces fold dval isDig refNum)

def noSlash (l : List UInt8) (k : Nat) : Prop := ∀ j c, j < k → l[j]? = some c → c ≠ 47
theorem noSlash_take {l : List UInt8} {k : Nat} (h : noSlash l k) : (47 : UInt8) ∉ l.take k := by
  intro hm
  obtain ⟨j, hj⟩ := List.getElem?_of_mem hm
  have hlt : j < k := by have := (List.getElem?_eq_some_iff.1 hj).1; simp at this; omega
  rw [List.getElem?_take_of_lt hlt] at hj
  exact h j 47 hlt hj rfl
theorem part_slash {l : List UInt8} {k : Nat} (h : noSlash l k) (hk : l[k]? = some 47) : left l = l.take k ∧ right l = l.drop (k + 1) ∧ l = l.take k ++ 47 :: l.drop (k + 1) := by
  have hlt := (List.getElem?_eq_some_iff.1 hk).1
  have e : l = l.take k ++ 47 :: l.drop (k + 1) := by
    conv => lhs; rw [← List.take_append_drop k l]
    congr 1
    rw [List.drop_eq_getElem_cons hlt]
    congr 1
    exact (List.getElem?_eq_some_iff.1 hk).2
  obtain ⟨h1, h2⟩ := AdrM.takeWhile_hit (l.take k) (l.drop (k + 1)) (noSlash_take h)
  rw [← e] at h1 h2
  exact ⟨h1, by unfold right; rw [h2]; rfl, e⟩
theorem part_none {l : List UInt8} (h : noSlash l l.length) : netP (left l) (right l) = none := by
  have h1 := noSlash_take h
  rw [List.take_length] at h1
  obtain ⟨h2, h3⟩ := AdrM.takeWhile_miss l h1
  have : right l = [] := by unfold right; rw [h3]; rfl
  rw [this]
  unfold netP
  rw [AdrM.byteS_nil]
  cases parseS (left l) <;> rfl
theorem refNum_pos {r : List UInt8} (h : 0 ≤ refNum r) : r = decDigits (refNum r).toNat ∧ (refNum r).toNat < 1000000000 := by
  unfold refNum at h ⊢
  cases hn : numS r with
  | none => rw [hn] at h; exact absurd h (by show ¬ (0 : Int) ≤ -1; omega)
  | some n =>
    rw [hn] at h
    have h' : 0 ≤ (if n < 1000000000 then (n : Int) else -1) := h
    show r = decDigits (if n < 1000000000 then (n : Int) else -1).toNat ∧ (if n < 1000000000 then (n : Int) else -1).toNat < 1000000000
    by_cases h9 : n < 1000000000
    · rw [if_pos h9]
      have := AdrM.numS_some.1 hn
      exact ⟨by simpa using this, by simpa using h9⟩
    · rw [if_neg h9] at h'; omega
theorem netP_bad {p r : List UInt8} {a : Nat} (hp : parseS p = some a) (h : validS a (refNum r) = false ∨ refNum r = 0) : netP p r = none := by
  unfold netP
  rw [hp]
  cases hb : byteS r with
  | none => rfl
  | some n =>
    rw [refNum_byte hb] at h
    show (if n ≠ 0 ∧ validS a (n : Int) = true then some (a, n) else none) = none
    rw [if_neg]
    rintro ⟨h1, h2⟩
    rcases h with h | h
    · rw [h2] at h; cases h
    · omega
theorem netP_good {p r : List UInt8} {a : Nat} (hp : parseS p = some a) (hv : validS a (refNum r) = true) (h0 : refNum r ≠ 0) : netP p r = some (a, (refNum r).toNat) ∧ r = decDigits (refNum r).toNat := by
  have h32 := (AdrM.validS_mk.1 hv).1
  obtain ⟨h1, h2⟩ := refNum_pos (r := r) h32.1
  refine ⟨?_, h1⟩
  have hb : byteS r = some (refNum r).toNat := byteS_some.2 ⟨h1, by omega⟩
  unfold netP
  rw [hp, hb]
  show (if (refNum r).toNat ≠ 0 ∧ validS a ((refNum r).toNat : Int) = true then some (a, (refNum r).toNat) else none) = _
  rw [if_pos ⟨by omega, by rw [show (((refNum r).toNat : Nat) : Int) = refNum r by omega]; exact hv⟩]

theorem netVal_is {a : Nat} {v : Int} (h : ((v.toNat : Nat) : Int) = v) : Value.tuple #[.agg #[.int .u32 (a : Int), .int .i64 v], .int .i64 0] = netVal (some (a, v.toNat)) := by
  show _ = Value.tuple #[.agg #[.int .u32 (a : Int), .int .i64 ((v.toNat : Nat) : Int)], .int .i64 0]
  rw [h]
theorem refNet_any0 (s : ByteArray) (hs : s.data.toList = anyL) (w : World) :
    Calls Tryz.prog 18 #[.string s] w fun e w' => e = .returned (netVal (some (0, 0))) ∧ Below w.heap.size w w' := by
  have ht : (s.toList == [97, 110, 121]) = true := by rw [ByteArray.toList_eq, hs]; rfl
  clear hs
  go_enter Tryz.func18, Tryz.ntmps18
  go_wp2_with fail
  exact bodyPost_ret (v := netVal (some (0, 0))) (by simp [results, Tryz.results18, go_sem, netVal]) rfl ⟨rfl, (Below.refl _ _).alloc (Nat.le_refl _) _⟩

set_option maxRecDepth 100000 in
set_option maxHeartbeats 4000000 in
theorem refNet_any1 (s : ByteArray) (hs : s.size ≤ 1000000) (hne : s.data.toList ≠ anyL) (w : World) :
    Calls Tryz.prog 18 #[.string s] w fun e w' => e = .returned (netVal (netP (left s.data.toList) (right s.data.toList))) ∧ Below w.heap.size w w' := by
  have ht : (s.toList == [97, 110, 121]) = false := by rw [ByteArray.toList_eq]; simpa [anyL] using hne
  have HSZ := Lib.hid (size_len s)
  have HN := Lib.hid (zero_box w)
  have HNE := Lib.hid hne
  clear hne
  go_enter Tryz.func18, Tryz.ntmps18
  go_wp2_with fail
  clear ht
  go_loop [4] (fun i => ∃ k : Nat, k ≤ s.size ∧ i = .int .i64 (k : Int) ∧ Hid (noSlash s.data.toList k)) (fun i => s.size - (RowKit.intOf i).toNat)
  case atStart => exact ⟨0, by omega, rfl, fun j c h => by omega⟩
  case round =>
    obtain ⟨k, hk, rfl, hns⟩ := hrel
    by_cases hlt : k < s.size
    · have HAT := Lib.hid (data_getElem? s k hlt)
      by_cases hd : s[k] = 47
      · have heq : ((s[k].toNat : Int) != 47) = false := by
          have : s[k].toNat = 47 := by rw [hd]; rfl
          simp; omega
        have HPT := Lib.hid (part_slash hns.out (by rw [HAT.out, hd]))
        have hx1 := extract_list s 0 k
        have hx2 := extract_list s (k + 1) s.size
        rw [List.drop_zero, Nat.sub_zero] at hx1
        have hx2' : (s.extract (k + 1) s.size).data.toList = s.data.toList.drop (k + 1) := by
          rw [hx2]; exact List.take_of_length_le (by rw [List.length_drop, ← HSZ.out]; omega)
        have HP := Lib.hid (fun W => refParse_any (s.extract 0 k) (by simp [ByteArray.size_extract]; omega) W)
        have HR := Lib.hid (fun W => refNumber_any (s.extract (k + 1) s.size) (by simp [ByteArray.size_extract]; omega) W)
        rw [hx1] at HP
        rw [hx2'] at HR
        clear hx1 hx2 hx2' hd
        cases hp : parseS (s.data.toList.take k) with
        | none =>
          rw [parseRes_none hp] at HP
          have HRES : Hid (netP (left s.data.toList) (right s.data.toList) = none) := by
            show _ = _
            rw [HPT.out.1]; unfold netP; rw [hp]
          clear hp
          go_wp2_with fail
          go_at_call 36
          refine (HP.out _).mono ?_
          rintro e w2 ⟨rfl, hb2⟩
          have HZ2 := Lib.hid (HN.out.next hb2)
          obtain ⟨hc0, hc1, hf0, hf1, -, -⟩ := HZ2.out
          clear hb2
          go_wp2_with fail
          obtain ⟨hr0, hr1⟩ := HZ2.out.read (.int .u32 0) (.int .i64 0)
          exact bodyPost_ret (v := netVal none) (by simp [results, Tryz.results18, go_sem, netVal, hr0, hr1]) rfl ⟨by rw [HRES.out], HZ2.out.done _ _⟩
        | some a =>
          rw [parseRes_some hp] at HP
          have ha := AdrM.parseS_lt hp
          have hge := refNum_ge (s.data.toList.drop (k + 1))
          have HS := Lib.hid (fun W => refShow_any a (refNum (s.data.toList.drop (k + 1))) ha W)
          have hbad := netP_bad (r := s.data.toList.drop (k + 1)) hp
          have hgood := netP_good (r := s.data.toList.drop (k + 1)) hp
          have hpp := AdrM.print_parse hp
          have hr1 := refNum_pos (r := s.data.toList.drop (k + 1))
          rw [← HPT.out.1, ← HPT.out.2.1] at hbad hgood
          rw [← HPT.out.2.1] at HR HS hge hr1
          generalize hvv : refNum (right s.data.toList) = v at HR HS hge hbad hgood hr1
          clear hp hvv
          cases hv : validS a v with
          | false =>
            rw [showRes_bad hv] at HS
            have HRES := Lib.hid (hbad (.inl hv))
            clear hv hbad hgood hr1 hpp
            go_wp2_with fail
            go_at_call 36
            refine (HP.out _).mono ?_
            rintro e w2 ⟨rfl, hb2⟩
            have HZ2 := Lib.hid (HN.out.next hb2)
            clear hb2
            go_wp2_with fail
            go_at_call 37
            refine (HR.out _).mono ?_
            rintro e w3 ⟨rfl, hb3⟩
            have HZ3 := Lib.hid (HZ2.out.next hb3)
            have HZ4 := Lib.hid (HZ3.out.alloc (.cells #[.int .u32 (a : Int), .int .i64 v] 33))
            have HNN := Lib.hid (netAt_box w3 a v)
            clear hb3
            go_wp2_with fail
            go_at_call 38
            refine (HS.out _).mono ?_
            rintro e w4 ⟨rfl, hb4⟩
            obtain ⟨hd0, hd1, -, -⟩ := HNN.out.next hb4
            have HZ5 := Lib.hid (HZ4.out.next hb4)
            obtain ⟨hc0, hc1, hf0, hf1, -, -⟩ := HZ5.out
            clear hb4
            go_wp2_with fail
            obtain ⟨hr0, hr1⟩ := HZ5.out.read (.int .u32 0) (.int .i64 0)
            exact bodyPost_ret (v := netVal none) (by simp [results, Tryz.results18, go_sem, netVal, hr0, hr1]) rfl ⟨by rw [HRES.out], HZ5.out.done _ _⟩
          | true =>
            by_cases h0 : v = 0
            · subst h0
              rw [showRes_any hv] at HS
              have HRES := Lib.hid (hbad (.inr rfl))
              have HAN : Hid ((anyL == s.toList) = false) := by
                show _ = _
                rw [ByteArray.toList_eq]
                have := HNE.out
                rw [Bool.eq_false_iff]; intro e; exact this (by simpa using (beq_iff_eq.1 e).symm)
              clear hv hbad hgood hr1 hpp
              go_wp2_with fail
              go_at_call 36
              refine (HP.out _).mono ?_
              rintro e w2 ⟨rfl, hb2⟩
              have HZ2 := Lib.hid (HN.out.next hb2)
              clear hb2
              go_wp2_with fail
              go_at_call 37
              refine (HR.out _).mono ?_
              rintro e w3 ⟨rfl, hb3⟩
              have HZ3 := Lib.hid (HZ2.out.next hb3)
              have HZ4 := Lib.hid (HZ3.out.alloc (.cells #[.int .u32 (a : Int), .int .i64 0] 33))
              have HNN := Lib.hid (netAt_box w3 a 0)
              clear hb3
              go_wp2_with fail
              go_at_call 38
              refine (HS.out _).mono ?_
              rintro e w4 ⟨rfl, hb4⟩
              obtain ⟨hd0, hd1, -, -⟩ := HNN.out.next hb4
              have HZ5 := Lib.hid (HZ4.out.next hb4)
              obtain ⟨hc0, hc1, hf0, hf1, -, -⟩ := HZ5.out
              have han := HAN.out
              clear hb4
              go_wp2_with fail
              obtain ⟨hr0, hr1⟩ := HZ5.out.read (.int .u32 0) (.int .i64 0)
              exact bodyPost_ret (v := netVal none) (by simp [results, Tryz.results18, go_sem, netVal, hr0, hr1]) rfl ⟨by rw [HRES.out], HZ5.out.done _ _⟩
            · rw [showRes_net hv h0] at HS
              obtain ⟨hres, hrv⟩ := hgood hv h0
              have h32 := (AdrM.validS_mk.1 hv).1
              have HRES := Lib.hid hres
              have HVN : Hid (((v.toNat : Nat) : Int) = v) := by show _ = _; omega
              have HTX : Hid ((printS a ++ 47 :: decDigits v.toNat == s.toList) = true) := by
                show _ = _
                rw [ByteArray.toList_eq, beq_iff_eq, ← hrv, hpp]
                have h3 := HPT.out.2.2
                rw [← HPT.out.2.1] at h3
                exact h3.symm
              clear hv hbad hgood hr1 hpp hres hrv
              go_wp2_with fail
              go_at_call 36
              refine (HP.out _).mono ?_
              rintro e w2 ⟨rfl, hb2⟩
              have HZ2 := Lib.hid (HN.out.next hb2)
              clear hb2
              go_wp2_with fail
              go_at_call 37
              refine (HR.out _).mono ?_
              rintro e w3 ⟨rfl, hb3⟩
              have HZ3 := Lib.hid (HZ2.out.next hb3)
              have HZ4 := Lib.hid (HZ3.out.alloc (.cells #[.int .u32 (a : Int), .int .i64 v] 33))
              have HNN := Lib.hid (netAt_box w3 a v)
              clear hb3
              go_wp2_with fail
              go_at_call 38
              refine (HS.out _).mono ?_
              rintro e w4 ⟨rfl, hb4⟩
              obtain ⟨hd0, hd1, -, -⟩ := HNN.out.next hb4
              have HZ5 := Lib.hid (HZ4.out.next hb4)
              obtain ⟨hc0, hc1, hf0, hf1, -, -⟩ := HZ5.out
              have htx := HTX.out
              clear hb4
              go_wp2_with fail
              obtain ⟨hr0, hr1⟩ := HZ5.out.read (.int .u32 (a : Int)) (.int .i64 v)
              exact bodyPost_ret (v := .tuple #[.agg #[.int .u32 (a : Int), .int .i64 v], .int .i64 0]) (by simp [results, Tryz.results18, go_sem, hr0, hr1]) rfl ⟨by rw [HRES.out]; exact congrArg Ending.returned (netVal_is HVN.out), HZ5.out.done _ _⟩
      · have hne : ((s[k].toNat : Int) != 47) = true := by
          have : s[k].toNat ≠ 47 := fun e => hd (UInt8.toNat_inj.1 e)
          simp; omega
        have HNS : Hid (noSlash s.data.toList (k + 1)) := fun j c h1 h3 => by
          rcases Nat.lt_or_ge j k with h4 | h4
          · exact hns.out j c h4 h3
          · obtain rfl : j = k := by omega
            rw [HAT.out] at h3
            cases h3; exact hd
        clear hd
        go_wp2_with fail
        go_round
        case rel => exact ⟨k + 1, by omega, by go_num, HNS.out⟩
        case measure => simp [RowKit.intOf]; omega
    · have hks : k = s.size := by omega
      have HRES : Hid (netP (left s.data.toList) (right s.data.toList) = none) := part_none (by rw [← HSZ.out, ← hks]; exact hns.out)
      have hke : ((k : Int) == (s.size : Int)) = true := by simp; omega
      clear hks
      have HP := Lib.hid (fun W => refParse_any (s.extract 0 k) (by simp [ByteArray.size_extract]; omega) W)
      cases hp : parseS (s.extract 0 k).data.toList with
      | none =>
        rw [parseRes_none hp] at HP
        clear hp
        go_wp2_with fail
        go_at_call 36
        refine (HP.out _).mono ?_
        rintro e w2 ⟨rfl, hb2⟩
        have HZ2 := Lib.hid (HN.out.next hb2)
        obtain ⟨hc0, hc1, hf0, hf1, -, -⟩ := HZ2.out
        clear hb2
        go_wp2_with fail
        obtain ⟨hr0, hr1⟩ := HZ2.out.read (.int .u32 0) (.int .i64 0)
        exact bodyPost_ret (v := netVal none) (by simp [results, Tryz.results18, go_sem, netVal, hr0, hr1]) rfl ⟨by rw [HRES.out], HZ2.out.done _ _⟩
      | some a =>
        rw [parseRes_some hp] at HP
        clear hp
        go_wp2_with fail
        go_at_call 36
        refine (HP.out _).mono ?_
        rintro e w2 ⟨rfl, hb2⟩
        have HZ2 := Lib.hid (HN.out.next hb2)
        obtain ⟨hc0, hc1, hf0, hf1, -, -⟩ := HZ2.out
        clear hb2
        go_wp2_with fail
        obtain ⟨hr0, hr1⟩ := HZ2.out.read (.int .u32 0) (.int .i64 0)
        exact bodyPost_ret (v := netVal none) (by simp [results, Tryz.results18, go_sem, netVal, hr0, hr1]) rfl ⟨by rw [HRES.out], HZ2.out.done _ _⟩

theorem refNet_any (s : ByteArray) (hs : s.size ≤ 1000000) (w : World) :
    Calls Tryz.prog 18 #[.string s] w fun e w' => e = .returned (netVal (netS s.data.toList)) ∧ Below w.heap.size w w' := by
  unfold netS
  by_cases h : s.data.toList = anyL
  · rw [if_pos h]; exact refNet_any0 s h w
  · rw [if_neg h]; exact refNet_any1 s hs h w

end Ad
end Go.Proofs.YtfbbkbjiaopnkaaGreatDoor
