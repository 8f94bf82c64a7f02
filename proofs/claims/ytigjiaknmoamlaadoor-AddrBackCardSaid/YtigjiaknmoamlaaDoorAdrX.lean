/- Layer 3: the walks of AddrReads and AddrTells. -/
import Derived.Test.YtigjiaknmoamlaaDoorAdrV
set_option linter.unusedVariables false
set_option linter.unusedSimpArgs false
namespace Go.Proofs.YtigjiaknmoamlaaDoor
open Go.ChangeShapes Go.WideShapes Go.ChangeAt Go.RowKit Go.Mtl Go.Shelf Go.Sort Go.Lib
namespace Ad
open AdrM (byteS byteS_some byteS_le numS parseS printS validS showS hasS netS netP left right anyL pieces fold dval isDig refNum)

theorem parseRes_form (l : List UInt8) : ∃ a e : Int, parseRes l = .tuple #[.int .u32 a, .int .i64 e] := by
  unfold parseRes
  split
  · exact ⟨_, _, rfl⟩
  · exact ⟨_, _, rfl⟩
theorem netVal_form (o : Option (Nat × Nat)) : ∃ a n e : Int, netVal o = .tuple #[.agg #[.int .u32 a, .int .i64 n], .int .i64 e] := by
  unfold netVal
  split
  · exact ⟨_, _, _, rfl⟩
  · exact ⟨_, _, _, rfl⟩
theorem showRes_form (a : Nat) (n : Int) : ∃ (t : ByteArray) (e : Int), showRes a n = .tuple #[.string t, .int .i64 e] := by
  unfold showRes
  split
  · exact ⟨_, _, rfl⟩
  · exact ⟨_, _, rfl⟩

set_option maxRecDepth 100000 in
set_option maxHeartbeats 4000000 in
theorem addrReads_walk (s : ByteArray) (w : World) (he : Env w) :
    Calls Tryd.prog 3 #[.string s] w fun e w' => e = .returned (.bool true) ∧ Below w.heap.size w w' := by
  obtain ⟨a, e, hp⟩ := parseRes_form (shortB s).data.toList
  obtain ⟨x, n, g, hn⟩ := netVal_form (netS (shortB s).data.toList)
  have C0 := Lib.hid (fun W => short_any s W)
  have hsz := shortB_le s
  have C1 := Lib.hid (fun W h => parse_any (shortB s) hsz W h)
  have C2 := Lib.hid (fun W => refParse_any (shortB s) hsz W)
  have C3 := Lib.hid (fun W h => net_any (shortB s) hsz W h)
  have C4 := Lib.hid (fun W => refNet_any (shortB s) hsz W)
  rw [hp] at C1 C2
  rw [hn] at C3 C4
  have HE := Lib.hid he
  clear hp hn hsz he
  generalize shortB s = t at C0 C1 C2 C3 C4
  go_enter Tryd.func3, Tryd.ntmps3
  go_wp2_with (go_at_call 8; refine (C0.out _).mono ?_; rintro e w' ⟨rfl, rfl⟩)
  go_at_call 7
  refine (C1.out _ HE.out).mono ?_
  rintro e w1 ⟨rfl, hb1⟩
  have HB1 := Lib.hid hb1
  clear hb1
  go_wp2_with (go_at_call 8; refine (C0.out _).mono ?_; rintro e w' ⟨rfl, rfl⟩)
  go_at_call 9
  refine (C2.out _).mono ?_
  rintro e w2 ⟨rfl, hb2⟩
  have HB2 := Lib.hid (HB1.out.trans (hb2.mono HB1.out.size))
  clear hb2
  go_wp2_with (go_at_call 8; refine (C0.out _).mono ?_; rintro e w' ⟨rfl, rfl⟩)
  go_at_call 10
  refine (C3.out _ (HE.out.below HB2.out)).mono ?_
  rintro e w3 ⟨rfl, hb3⟩
  have HB3 := Lib.hid (HB2.out.trans (hb3.mono HB2.out.size))
  have HN := Lib.hid (netAt_box w3 x n)
  clear hb3
  go_wp2_with (go_at_call 8; refine (C0.out _).mono ?_; rintro e w' ⟨rfl, rfl⟩)
  go_at_call 11
  refine (C4.out _).mono ?_
  rintro e w4 ⟨rfl, hb4⟩
  have HN4 := Lib.hid (HN.out.next hb4)
  have HM := Lib.hid (netAt_box w4 x n)
  have HN5 := Lib.hid (HN4.out.next ((Below.refl _ _).alloc (Nat.le_refl _) (.cells #[.int .u32 x, .int .i64 n] 30)))
  have HB5 := Lib.hid (HB3.out.trans (HN5.out.2.2.1.mono HB3.out.size))
  clear hb4
  go_wp2_with fail
  go_at_call 12
  refine (awake_any _ (HE.out.below HB5.out)).mono ?_
  rintro e w5 ⟨rfl, hb5⟩
  obtain ⟨hc0, hc1, -, -⟩ := HN5.out.next hb5
  obtain ⟨hd0, hd1, -, -⟩ := HM.out.next hb5
  have HB6 := Lib.hid (HB5.out.trans (hb5.mono HB5.out.size))
  clear hb5
  go_wp2_with fail
  go_ret
  exact ⟨rfl, HB6.out⟩

set_option maxRecDepth 100000 in
set_option maxHeartbeats 4000000 in
theorem addrTells_walk (a : Nat) (b : Nat) (n : Int) (w : World) (he : Env w) (ha : a < 4294967296) (hb : b < 4294967296) :
    Calls Tryd.prog 4 #[.int .u32 (a : Int), .agg #[.int .u32 (b : Int), .int .i64 n]] w fun e w' => e = .returned (.bool true) ∧ Below w.heap.size w w' := by
  obtain ⟨t, e, hs⟩ := showRes_form b n
  have C1 := Lib.hid (fun W h => show_any b n hb W h)
  have C2 := Lib.hid (fun W => refShow_any b n hb W)
  rw [hs] at C1 C2
  clear hs
  have C3 := Lib.hid (fun W (h : W.cell? ⟨w.heap.size, 0, none⟩ = some (.int .u32 (b : Int)) ∧ W.cell? ⟨w.heap.size, 1, none⟩ = some (.int .i64 n) ∧ Hid (NetAt w b n W)) => print_any a ha W (he.below h.2.2.out.2.2.1))
  have C4 := Lib.hid (fun W => refPrint_any a ha W)
  have C5 := Lib.hid (fun W => has_any b a n hb ha W)
  have C6 := Lib.hid (fun W => refHas_any b a n hb ha W)
  have C7 := Lib.hid (fun W (h : W.cell? ⟨w.heap.size, 0, none⟩ = some (.int .u32 (b : Int)) ∧ W.cell? ⟨w.heap.size, 1, none⟩ = some (.int .i64 n) ∧ Hid (NetAt w b n W)) => awake_any W (he.below h.2.2.out.2.2.1))
  have HE := Lib.hid he
  have HN := Lib.hid (netAt_box w b n)
  clear he
  generalize hasS b n a = h at C5 C6
  generalize (printS a) = p at C3 C4
  go_enter Tryd.func4, Tryd.ntmps4
  go_wp2_with fail
  go_at_call 13
  refine (C1.out _ (HE.out.below HN.out.2.2.1)).mono ?_
  rintro e w1 ⟨rfl, hb1⟩
  obtain ⟨hc0, hc1, HN1⟩ := NetAt.go HN hb1
  clear hb1
  go_wp2_with fail
  go_at_call 14
  refine (C2.out _).mono ?_
  rintro e w2 ⟨rfl, hb2⟩
  clear hc0 hc1
  obtain ⟨hc0, hc1, HN2⟩ := NetAt.go HN1 hb2
  clear hb2
  go_wp2_with fail
  go_region_held3 (fun w' => w'.cell? ⟨w.heap.size, 0, none⟩ = some (.int .u32 b) ∧ w'.cell? ⟨w.heap.size, 1, none⟩ = some (.int .i64 n) ∧ Hid (NetAt w b n w')) (first | exact NetAt.god (by assumption) | exact NetAt.goh (by assumption) (by assumption) | go_keep)
    (first
      | (go_at_call 12; refine (C7.out _ (by assumption)).mono ?_; rintro e w3 ⟨rfl, hbp⟩)
      | (go_at_call 15; refine (C3.out _ (by assumption)).mono ?_; rintro e w3 ⟨rfl, hbp⟩)
      | (go_at_call 16; refine (C4.out _).mono ?_; rintro e w3 ⟨rfl, hbp⟩)
      | (go_at_call 17; refine (C5.out _).mono ?_; rintro e w3 ⟨rfl, hbp⟩)
      | (go_at_call 18; refine (C6.out _).mono ?_; rintro e w3 ⟨rfl, hbp⟩))
  all_goals
    go_wp2_with fail
    go_ret
    exact ⟨rfl, NetAt.fin (by assumption)⟩

end Ad
end Go.Proofs.YtigjiaknmoamlaaDoor
