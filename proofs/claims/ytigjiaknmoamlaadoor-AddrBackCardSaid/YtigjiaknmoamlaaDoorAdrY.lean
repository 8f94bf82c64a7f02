/- Layer 3: the walk of AddrBack. -/
import Derived.Test.YtigjiaknmoamlaaDoorAdrX
set_option linter.unusedVariables false
set_option linter.unusedSimpArgs false
namespace Go.Proofs.YtigjiaknmoamlaaDoor
open Go.ChangeShapes Go.WideShapes Go.ChangeAt Go.RowKit Go.Mtl Go.Shelf Go.Sort Go.Lib
namespace Ad
open AdrM (byteS byteS_some byteS_le numS parseS printS validS showS hasS netS netP left right anyL pieces fold dval isDig refNum)

theorem netVal_none : netVal none = .tuple #[.agg #[.int .u32 0, .int .i64 0], .int .i64 3] := rfl
theorem netVal_some (a n : Nat) : netVal (some (a, n)) = .tuple #[.agg #[.int .u32 (a : Int), .int .i64 (n : Int)], .int .i64 0] := rfl
theorem ba_list (s : ByteArray) : (⟨s.data.toList.toArray⟩ : ByteArray) = s := by cases s; simp
theorem net_of_show (b : Nat) (n : Int) (hb : b < 4294967296) (hv : validS b n = true) : ∃ t : List UInt8, showRes b n = .tuple #[.string ⟨t.toArray⟩, .int .i64 0] ∧ t.length ≤ 30 ∧ netVal (netS t) = .tuple #[.agg #[.int .u32 (b : Int), .int .i64 n], .int .i64 0] := by
  have h01 := (AdrM.validS_mk.1 hv).1
  obtain ⟨t, ht⟩ : ∃ t, showS b n = some t := by unfold showS; rw [if_pos hv]; exact ⟨_, rfl⟩
  refine ⟨t, by unfold showRes; rw [ht], ?_, ?_⟩
  · unfold showS at ht
    rw [if_pos hv] at ht
    by_cases h0 : n = 0
    · rw [if_pos h0] at ht; cases ht; decide
    · rw [if_neg h0] at ht
      cases ht
      have h1 := AdrM.print_len b hb
      have h2 := AdrM.decDigits_len_le 1 n.toNat (by omega)
      simp; omega
  · rw [AdrM.net_show hb ht]
    show Value.tuple #[.agg #[.int .u32 (b : Int), .int .i64 ((n.toNat : Nat) : Int)], .int .i64 0] = _
    rw [show ((n.toNat : Nat) : Int) = n by omega]

set_option maxRecDepth 100000 in
set_option maxHeartbeats 8000000 in
theorem addrBack_walk (a : Nat) (b : Nat) (n : Int) (s : ByteArray) (w : World) (he : Env w) (ha : a < 4294967296) (hb : b < 4294967296) :
    Calls Tryd.prog 5 #[.int .u32 (a : Int), .agg #[.int .u32 (b : Int), .int .i64 n], .string s] w fun e w' => e = .returned (.bool true) ∧ Below w.heap.size w w' := by
  have hsz := shortB_le s
  have C0 := Lib.hid (fun W => short_any s W)
  have C1 := Lib.hid (fun W h => print_any a ha W h)
  have C2 := Lib.hid (fun W h => parse_any ⟨(printS a).toArray⟩ (by have := AdrM.print_len a ha; simp [ByteArray.size]; omega) W h)
  simp only [List.toList_toArray] at C2
  rw [parseRes_some (AdrM.parse_print ha)] at C2
  have C3 := Lib.hid (fun W h => show_any b n hb W h)
  have C4 := Lib.hid (fun W h => parse_any (shortB s) hsz W h)
  have C5 := Lib.hid (fun W h => net_any (shortB s) hsz W h)

  have HPR : Hid (∀ c, parseS (shortB s).data.toList = some c → printS c = (shortB s).data.toList ∧ c < 4294967296) := fun c h => ⟨AdrM.print_parse h, AdrM.parseS_lt h⟩
  have HNR : Hid (∀ x k, netS (shortB s).data.toList = some (x, k) → showS x (k : Int) = some (shortB s).data.toList ∧ x < 4294967296 ∧ k ≤ 32) := fun x k h => AdrM.show_net h
  have HE := Lib.hid he
  have HN := Lib.hid (netAt_box w b n)
  clear he hsz
  generalize shortB s = t at C0 C4 C5 HPR HNR
  go_enter Tryd.func5, Tryd.ntmps5
  go_wp2_with fail
  go_at_call 15
  refine (C1.out _ (HE.out.below HN.out.2.2.1)).mono ?_
  rintro e w1 ⟨rfl, hb1⟩
  have HN1 := Lib.hid (HN.out.next hb1)
  clear hb1
  go_wp2_with fail
  go_at_call 7
  refine (C2.out _ (HE.out.below HN1.out.2.2.1)).mono ?_
  rintro e w2 ⟨rfl, hb2⟩
  obtain ⟨hc0, hc1, HN2⟩ := NetAt.go HN1 hb2
  clear hb2
  cases hv : validS b n with
  | false =>
    rw [showRes_bad hv] at C3
    clear hv
    go_wp2_with fail
    go_at_call 13
    refine (C3.out _ (HE.out.below HN2.out.2.2.1)).mono ?_
    rintro e w3 ⟨rfl, hb3⟩
    have HNZ := Lib.hid (HN2.out.next hb3)
    clear hb3 hc0 hc1
    cases hp : parseS t.data.toList with
    | none =>
      rw [parseRes_none hp] at C4
      clear hp
      go_wp2_with (go_at_call 8; refine (C0.out _).mono ?_; rintro e w' ⟨rfl, rfl⟩)
      go_at_call 7
      refine (C4.out _ (HE.out.below HNZ.out.2.2.1)).mono ?_
      rintro e w5 ⟨rfl, hb5⟩
      have HB5 := Lib.hid (HNZ.out.2.2.1.trans (hb5.mono HNZ.out.2.2.1.size))
      clear hb5
      cases hn : netS t.data.toList with
      | none =>
        rw [hn, netVal_none] at C5
        clear hn
        go_wp2_with (go_at_call 8; refine (C0.out _).mono ?_; rintro e w' ⟨rfl, rfl⟩)
        go_at_call 10
        refine (C5.out _ (HE.out.below HB5.out)).mono ?_
        rintro e w6 ⟨rfl, hb6⟩
        have HB6 := Lib.hid (HB5.out.trans (hb6.mono HB5.out.size))
        have HX := Lib.hid (netAt_box w6 0 0)
        have HB7 := Lib.hid (HB6.out.trans (HX.out.2.2.1.mono HB6.out.size))
        have C7 := Lib.hid (fun W h => show_any 0 0 (by omega) W h)
        rw [showRes_any (show validS 0 0 = true by decide)] at C7
        clear hb6
        go_wp2_with fail
        go_at_call 13
        refine (C7.out _ (HE.out.below HB7.out)).mono ?_
        rintro e w7 ⟨rfl, hb7⟩
        have HB8 := Lib.hid (HB7.out.trans (hb7.mono HB7.out.size))
        clear hb7
        go_wp2_with fail
        go_at_call 12
        refine (awake_any _ (HE.out.below HB8.out)).mono ?_
        rintro e w8 ⟨rfl, hb8⟩
        have HB9 := Lib.hid (HB8.out.trans (hb8.mono HB8.out.size))
        clear hb8
        go_wp2_with fail
        go_ret
        exact ⟨rfl, HB9.out⟩
      | some y =>
        obtain ⟨x, k⟩ := y
        rw [hn, netVal_some] at C5
        obtain ⟨h1, h2, h3⟩ := HNR.out x k hn
        have C7 := Lib.hid (fun W h => show_any x (k : Int) h2 W h)
        rw [show showRes x (k : Int) = .tuple #[.string t, .int .i64 0] by unfold showRes; rw [h1]] at C7
        clear hn h1 h3
        go_wp2_with (go_at_call 8; refine (C0.out _).mono ?_; rintro e w' ⟨rfl, rfl⟩)
        go_at_call 10
        refine (C5.out _ (HE.out.below HB5.out)).mono ?_
        rintro e w6 ⟨rfl, hb6⟩
        have HB6 := Lib.hid (HB5.out.trans (hb6.mono HB5.out.size))
        have HX := Lib.hid (netAt_box w6 (x : Int) (k : Int))
        have HB7 := Lib.hid (HB6.out.trans (HX.out.2.2.1.mono HB6.out.size))
        clear hb6
        go_wp2_with fail
        go_at_call 13
        refine (C7.out _ (HE.out.below HB7.out)).mono ?_
        rintro e w7 ⟨rfl, hb7⟩
        have HB8 := Lib.hid (HB7.out.trans (hb7.mono HB7.out.size))
        clear hb7
        go_wp2_with fail
        go_at_call 12
        refine (awake_any _ (HE.out.below HB8.out)).mono ?_
        rintro e w8 ⟨rfl, hb8⟩
        have HB9 := Lib.hid (HB8.out.trans (hb8.mono HB8.out.size))
        clear hb8
        go_wp2_with (go_at_call 8; refine (C0.out _).mono ?_; rintro e w' ⟨rfl, rfl⟩)
        go_ret
        exact ⟨rfl, HB9.out⟩
    | some c =>
      rw [parseRes_some hp] at C4
      obtain ⟨h1, h2⟩ := HPR.out c hp
      have C8 := Lib.hid (fun W h => print_any c h2 W h)
      rw [h1, ba_list] at C8
      clear hp h1
      go_wp2_with (go_at_call 8; refine (C0.out _).mono ?_; rintro e w' ⟨rfl, rfl⟩)
      go_at_call 7
      refine (C4.out _ (HE.out.below HNZ.out.2.2.1)).mono ?_
      rintro e w5 ⟨rfl, hb5⟩
      have HB5 := Lib.hid (HNZ.out.2.2.1.trans (hb5.mono HNZ.out.2.2.1.size))
      clear hb5
      go_wp2_with fail
      go_at_call 15
      refine (C8.out _ (HE.out.below HB5.out)).mono ?_
      rintro e w51 ⟨rfl, hb51⟩
      have HB51 := Lib.hid (HB5.out.trans (hb51.mono HB5.out.size))
      clear hb51
      cases hn : netS t.data.toList with
      | none =>
        rw [hn, netVal_none] at C5
        clear hn
        go_wp2_with (go_at_call 8; refine (C0.out _).mono ?_; rintro e w' ⟨rfl, rfl⟩)
        go_at_call 10
        refine (C5.out _ (HE.out.below HB51.out)).mono ?_
        rintro e w6 ⟨rfl, hb6⟩
        have HB6 := Lib.hid (HB51.out.trans (hb6.mono HB51.out.size))
        have HX := Lib.hid (netAt_box w6 0 0)
        have HB7 := Lib.hid (HB6.out.trans (HX.out.2.2.1.mono HB6.out.size))
        have C7 := Lib.hid (fun W h => show_any 0 0 (by omega) W h)
        rw [showRes_any (show validS 0 0 = true by decide)] at C7
        clear hb6
        go_wp2_with fail
        go_at_call 13
        refine (C7.out _ (HE.out.below HB7.out)).mono ?_
        rintro e w7 ⟨rfl, hb7⟩
        have HB8 := Lib.hid (HB7.out.trans (hb7.mono HB7.out.size))
        clear hb7
        go_wp2_with fail
        go_at_call 12
        refine (awake_any _ (HE.out.below HB8.out)).mono ?_
        rintro e w8 ⟨rfl, hb8⟩
        have HB9 := Lib.hid (HB8.out.trans (hb8.mono HB8.out.size))
        clear hb8
        go_wp2_with fail
        go_ret
        exact ⟨rfl, HB9.out⟩
      | some y =>
        obtain ⟨x, k⟩ := y
        rw [hn, netVal_some] at C5
        obtain ⟨h1, h2, h3⟩ := HNR.out x k hn
        have C7 := Lib.hid (fun W h => show_any x (k : Int) h2 W h)
        rw [show showRes x (k : Int) = .tuple #[.string t, .int .i64 0] by unfold showRes; rw [h1]] at C7
        clear hn h1 h3
        go_wp2_with (go_at_call 8; refine (C0.out _).mono ?_; rintro e w' ⟨rfl, rfl⟩)
        go_at_call 10
        refine (C5.out _ (HE.out.below HB51.out)).mono ?_
        rintro e w6 ⟨rfl, hb6⟩
        have HB6 := Lib.hid (HB51.out.trans (hb6.mono HB51.out.size))
        have HX := Lib.hid (netAt_box w6 (x : Int) (k : Int))
        have HB7 := Lib.hid (HB6.out.trans (HX.out.2.2.1.mono HB6.out.size))
        clear hb6
        go_wp2_with fail
        go_at_call 13
        refine (C7.out _ (HE.out.below HB7.out)).mono ?_
        rintro e w7 ⟨rfl, hb7⟩
        have HB8 := Lib.hid (HB7.out.trans (hb7.mono HB7.out.size))
        clear hb7
        go_wp2_with fail
        go_at_call 12
        refine (awake_any _ (HE.out.below HB8.out)).mono ?_
        rintro e w8 ⟨rfl, hb8⟩
        have HB9 := Lib.hid (HB8.out.trans (hb8.mono HB8.out.size))
        clear hb8
        go_wp2_with (go_at_call 8; refine (C0.out _).mono ?_; rintro e w' ⟨rfl, rfl⟩)
        go_ret
        exact ⟨rfl, HB9.out⟩
  | true =>
    obtain ⟨q, hq1, hq2, hq3⟩ := net_of_show b n hb hv
    have C6 := Lib.hid (fun W h => net_any ⟨q.toArray⟩ (by simp [ByteArray.size]; omega) W h)
    simp only [List.toList_toArray] at C6
    rw [hq3] at C6
    rw [hq1] at C3
    clear hv hq1 hq2 hq3
    go_wp2_with fail
    go_at_call 13
    refine (C3.out _ (HE.out.below HN2.out.2.2.1)).mono ?_
    rintro e w3 ⟨rfl, hb3⟩
    have HN3 := Lib.hid (HN2.out.next hb3)
    clear hb3 hc0 hc1
    go_wp2_with fail
    go_at_call 10
    refine (C6.out _ (HE.out.below HN3.out.2.2.1)).mono ?_
    rintro e w4 ⟨rfl, hb4⟩
    have HN4 := Lib.hid (HN3.out.next hb4)
    have HNZ := Lib.hid (HN4.out.next ((Below.refl _ _).alloc (Nat.le_refl _) (.cells #[.int .u32 (b : Int), .int .i64 n] 30)))
    have hc0 := HNZ.out.1
    have hc1 := HNZ.out.2.1
    clear hb4
    cases hp : parseS t.data.toList with
    | none =>
      rw [parseRes_none hp] at C4
      clear hp
      go_wp2_with (go_at_call 8; refine (C0.out _).mono ?_; rintro e w' ⟨rfl, rfl⟩)
      go_at_call 7
      refine (C4.out _ (HE.out.below HNZ.out.2.2.1)).mono ?_
      rintro e w5 ⟨rfl, hb5⟩
      have HB5 := Lib.hid (HNZ.out.2.2.1.trans (hb5.mono HNZ.out.2.2.1.size))
      clear hb5
      cases hn : netS t.data.toList with
      | none =>
        rw [hn, netVal_none] at C5
        clear hn
        go_wp2_with (go_at_call 8; refine (C0.out _).mono ?_; rintro e w' ⟨rfl, rfl⟩)
        go_at_call 10
        refine (C5.out _ (HE.out.below HB5.out)).mono ?_
        rintro e w6 ⟨rfl, hb6⟩
        have HB6 := Lib.hid (HB5.out.trans (hb6.mono HB5.out.size))
        have HX := Lib.hid (netAt_box w6 0 0)
        have HB7 := Lib.hid (HB6.out.trans (HX.out.2.2.1.mono HB6.out.size))
        have C7 := Lib.hid (fun W h => show_any 0 0 (by omega) W h)
        rw [showRes_any (show validS 0 0 = true by decide)] at C7
        clear hb6
        go_wp2_with fail
        go_at_call 13
        refine (C7.out _ (HE.out.below HB7.out)).mono ?_
        rintro e w7 ⟨rfl, hb7⟩
        have HB8 := Lib.hid (HB7.out.trans (hb7.mono HB7.out.size))
        clear hb7
        go_wp2_with fail
        go_at_call 12
        refine (awake_any _ (HE.out.below HB8.out)).mono ?_
        rintro e w8 ⟨rfl, hb8⟩
        have HB9 := Lib.hid (HB8.out.trans (hb8.mono HB8.out.size))
        clear hb8
        go_wp2_with fail
        go_ret
        exact ⟨rfl, HB9.out⟩
      | some y =>
        obtain ⟨x, k⟩ := y
        rw [hn, netVal_some] at C5
        obtain ⟨h1, h2, h3⟩ := HNR.out x k hn
        have C7 := Lib.hid (fun W h => show_any x (k : Int) h2 W h)
        rw [show showRes x (k : Int) = .tuple #[.string t, .int .i64 0] by unfold showRes; rw [h1]] at C7
        clear hn h1 h3
        go_wp2_with (go_at_call 8; refine (C0.out _).mono ?_; rintro e w' ⟨rfl, rfl⟩)
        go_at_call 10
        refine (C5.out _ (HE.out.below HB5.out)).mono ?_
        rintro e w6 ⟨rfl, hb6⟩
        have HB6 := Lib.hid (HB5.out.trans (hb6.mono HB5.out.size))
        have HX := Lib.hid (netAt_box w6 (x : Int) (k : Int))
        have HB7 := Lib.hid (HB6.out.trans (HX.out.2.2.1.mono HB6.out.size))
        clear hb6
        go_wp2_with fail
        go_at_call 13
        refine (C7.out _ (HE.out.below HB7.out)).mono ?_
        rintro e w7 ⟨rfl, hb7⟩
        have HB8 := Lib.hid (HB7.out.trans (hb7.mono HB7.out.size))
        clear hb7
        go_wp2_with fail
        go_at_call 12
        refine (awake_any _ (HE.out.below HB8.out)).mono ?_
        rintro e w8 ⟨rfl, hb8⟩
        have HB9 := Lib.hid (HB8.out.trans (hb8.mono HB8.out.size))
        clear hb8
        go_wp2_with (go_at_call 8; refine (C0.out _).mono ?_; rintro e w' ⟨rfl, rfl⟩)
        go_ret
        exact ⟨rfl, HB9.out⟩
    | some c =>
      rw [parseRes_some hp] at C4
      obtain ⟨h1, h2⟩ := HPR.out c hp
      have C8 := Lib.hid (fun W h => print_any c h2 W h)
      rw [h1, ba_list] at C8
      clear hp h1
      go_wp2_with (go_at_call 8; refine (C0.out _).mono ?_; rintro e w' ⟨rfl, rfl⟩)
      go_at_call 7
      refine (C4.out _ (HE.out.below HNZ.out.2.2.1)).mono ?_
      rintro e w5 ⟨rfl, hb5⟩
      have HB5 := Lib.hid (HNZ.out.2.2.1.trans (hb5.mono HNZ.out.2.2.1.size))
      clear hb5
      go_wp2_with fail
      go_at_call 15
      refine (C8.out _ (HE.out.below HB5.out)).mono ?_
      rintro e w51 ⟨rfl, hb51⟩
      have HB51 := Lib.hid (HB5.out.trans (hb51.mono HB5.out.size))
      clear hb51
      cases hn : netS t.data.toList with
      | none =>
        rw [hn, netVal_none] at C5
        clear hn
        go_wp2_with (go_at_call 8; refine (C0.out _).mono ?_; rintro e w' ⟨rfl, rfl⟩)
        go_at_call 10
        refine (C5.out _ (HE.out.below HB51.out)).mono ?_
        rintro e w6 ⟨rfl, hb6⟩
        have HB6 := Lib.hid (HB51.out.trans (hb6.mono HB51.out.size))
        have HX := Lib.hid (netAt_box w6 0 0)
        have HB7 := Lib.hid (HB6.out.trans (HX.out.2.2.1.mono HB6.out.size))
        have C7 := Lib.hid (fun W h => show_any 0 0 (by omega) W h)
        rw [showRes_any (show validS 0 0 = true by decide)] at C7
        clear hb6
        go_wp2_with fail
        go_at_call 13
        refine (C7.out _ (HE.out.below HB7.out)).mono ?_
        rintro e w7 ⟨rfl, hb7⟩
        have HB8 := Lib.hid (HB7.out.trans (hb7.mono HB7.out.size))
        clear hb7
        go_wp2_with fail
        go_at_call 12
        refine (awake_any _ (HE.out.below HB8.out)).mono ?_
        rintro e w8 ⟨rfl, hb8⟩
        have HB9 := Lib.hid (HB8.out.trans (hb8.mono HB8.out.size))
        clear hb8
        go_wp2_with fail
        go_ret
        exact ⟨rfl, HB9.out⟩
      | some y =>
        obtain ⟨x, k⟩ := y
        rw [hn, netVal_some] at C5
        obtain ⟨h1, h2, h3⟩ := HNR.out x k hn
        have C7 := Lib.hid (fun W h => show_any x (k : Int) h2 W h)
        rw [show showRes x (k : Int) = .tuple #[.string t, .int .i64 0] by unfold showRes; rw [h1]] at C7
        clear hn h1 h3
        go_wp2_with (go_at_call 8; refine (C0.out _).mono ?_; rintro e w' ⟨rfl, rfl⟩)
        go_at_call 10
        refine (C5.out _ (HE.out.below HB51.out)).mono ?_
        rintro e w6 ⟨rfl, hb6⟩
        have HB6 := Lib.hid (HB51.out.trans (hb6.mono HB51.out.size))
        have HX := Lib.hid (netAt_box w6 (x : Int) (k : Int))
        have HB7 := Lib.hid (HB6.out.trans (HX.out.2.2.1.mono HB6.out.size))
        clear hb6
        go_wp2_with fail
        go_at_call 13
        refine (C7.out _ (HE.out.below HB7.out)).mono ?_
        rintro e w7 ⟨rfl, hb7⟩
        have HB8 := Lib.hid (HB7.out.trans (hb7.mono HB7.out.size))
        clear hb7
        go_wp2_with fail
        go_at_call 12
        refine (awake_any _ (HE.out.below HB8.out)).mono ?_
        rintro e w8 ⟨rfl, hb8⟩
        have HB9 := Lib.hid (HB8.out.trans (hb8.mono HB8.out.size))
        clear hb8
        go_wp2_with (go_at_call 8; refine (C0.out _).mono ?_; rintro e w' ⟨rfl, rfl⟩)
        go_ret
        exact ⟨rfl, HB9.out⟩

end Ad
end Go.Proofs.YtigjiaknmoamlaaDoor
