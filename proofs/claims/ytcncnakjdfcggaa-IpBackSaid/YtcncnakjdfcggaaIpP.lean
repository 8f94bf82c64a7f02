/- Layer 4: short, awake; Parse in both its answers. -/
import Derived.Test.YtcncnakjdfcggaaIpB
import Derived.Test.YtcncnakjdfcggaaIpD
import Derived.Test.YtcncnakjdfcggaaIpO
set_option linter.unusedVariables false
namespace Go.Proofs.Ytcncnakjdfcggaa
open Go.ChangeShapes Go.WideShapes Go.ChangeAt Go.RowKit Go.Mtl
namespace Ip
open IpM (word four hs tl word_lt four_lt errC errN body packB)

theorem text_at {w w2 : World} {B n c : Nat} {A : Option Addr} {bs : List UInt8} (h : Bts w B A n bs) (h2 : Below B w w2) :
    (convert 22 9 (.slice A n c)).run Try.prog w2 = .ok (.string (textOf bs)) w2 :=
  run_text _ _ 5 Try.underlying22 Try.underlying5 Try.underlying9 (h.below h2)

theorem short_any (A : Option Addr) (n c : Nat) (hc : n ≤ c) (hm : c ≤ 9223372036854775807) (W : World) :
    Calls Try.prog 8 #[.slice A n c] W fun e w' => e = .returned (.slice A (min n 1600) c) ∧ W = w' := by
  by_cases h : 1600 < n
  · have HM : Hid (min n 1600 = 1600) := by show min n 1600 = 1600; omega
    go_enter Try.func8, Try.ntmps8
    go_wp2
    go_ret
    exact ⟨by rw [HM.out]; rfl, rfl⟩
  · have HM : Hid (min n 1600 = n) := by show min n 1600 = n; omega
    go_enter Try.func8, Try.ntmps8
    go_wp2
    go_ret
    exact ⟨by rw [HM.out]; rfl, rfl⟩

theorem parse_wrong (A : Option Addr) (n c : Nat) (bs : List UInt8) (B : Nat) (W : World) (hb : Bts W B A n bs) (hB : B ≤ W.heap.size) (hc : n ≤ c) (hm : c ≤ 9223372036854775807) (he : errN bs ≠ 0) :
    Calls Try.prog 7 #[.slice A n c] W fun e w' => e = .returned (badV (errN bs)) ∧ Below W.heap.size W w' := by
  have hl := hb.len
  unfold errN at he ⊢
  by_cases h1 : 1500 < bs.length
  · rw [if_pos h1]; exact parse_long A n c bs B W hb hc hm (by omega)
  · rw [if_neg h1] at he ⊢
    by_cases h2 : bs.length < 20
    · rw [if_pos h2]; exact parse_short A n c bs B W hb hc hm (by omega)
    · rw [if_neg h2] at he ⊢; exact parse_bad A n c bs B W hb hB hc hm (by omega) (by omega) he
theorem parse_right (A : Option Addr) (n c : Nat) (bs : List UInt8) (B : Nat) (W : World) (hb : Bts W B A n bs) (hB : B ≤ W.heap.size) (hc : n ≤ c) (hm : c ≤ 9223372036854775807) (he : errN bs = 0) :
    Calls Try.prog 7 #[.slice A n c] W (Parsed W bs) := by
  obtain ⟨h1, h2, h3⟩ := IpM.errN_zero he
  rw [hb.len] at h1 h2
  exact parse_ok A n c bs B W hb hB hc hm h2 h1 h3

theorem parse_rightN (A : Option Addr) (n c : Nat) (bs : List UInt8) (B : Nat) (W : World) (hb : Bts W B A n bs) (hB : B ≤ W.heap.size) (hc : n ≤ c) (hm : c ≤ 9223372036854775807) (he : errN bs = 0) :
    Calls Try.prog 7 #[.slice A n c] W (ParsedN W bs) := by
  obtain ⟨h1, h2, h3⟩ := IpM.errN_zero he
  rw [hb.len] at h1 h2
  exact parse_okN A n c bs B W hb hB hc hm h2 h1 h3

/-- A packet that was built, parsed, whatever is behind it. -/
theorem parse_pack (A : Option Addr) (n c : Nat) (id tt pr sr ds : Nat) (x y : List UInt8) (B : Nat) (W : World) (hb : Bts W B A n (packB id tt pr sr ds x ++ y)) (hB : B ≤ W.heap.size) (hc : n ≤ c) (hm : c ≤ 9223372036854775807)
    (hpr : pr < 256) (hsr : sr < 4294967296) (hds : ds < 4294967296) (htt : tt < 256) (hid : id < 65536) (hxy : 20 + x.length + y.length ≤ 1500) (N m : Nat) (hN : 20 + x.length = N) (hm' : x.length = m) :
    Calls Try.prog 7 #[.slice A n c] W fun e w' => ∃ A' c', e = .returned (.tuple #[.agg (cells7 pr sr ds 20 N tt id), .slice A' m c', .int .i64 0]) ∧ Bts w' w'.heap.size A' m x ∧ (m ≤ c' ∧ c' ≤ 9223372036854775807) ∧ Below W.heap.size W w' ∧ ∀ p, A' = some p → W.heap.size ≤ p.block := by
  refine (parse_rightN A n c _ B W hb hB hc hm (IpM.pack_err id tt pr sr ds x y hxy)).mono ?_
  rintro e w' ⟨A', c', he, hb', hc', hbel, hnew⟩
  have htl := IpM.pack_tl id tt pr sr ds x y (by omega)
  have hhs := IpM.pack_hs id tt pr sr ds x y
  have e1 : tl (packB id tt pr sr ds x ++ y) - hs (packB id tt pr sr ds x ++ y) = m := by rw [htl, hhs]; omega
  rw [e1] at he hb' hc'
  rw [IpM.pack_body id tt pr sr ds x y (by omega)] at hb'
  refine ⟨A', c', ?_, hb', hc', hbel, hnew⟩
  rw [he]
  unfold headV
  rw [IpM.pack_pr _ _ _ _ _ _ _ hpr, IpM.pack_src _ _ _ _ _ _ _ hsr, IpM.pack_dst _ _ _ _ _ _ _ hds, htl, hhs, IpM.pack_tt _ _ _ _ _ _ _ htt, IpM.pack_id _ _ _ _ _ _ _ hid, hN]
  rfl

theorem build_aw (g0 : Nat) (w : World) (h : Row w g0 [7]) :
    Calls Try.prog 11 #[.agg (cells7 17 167772161 167772162 0 0 64 0), .slice (some ⟨g0, 0, none⟩) 1 1] w fun e w' =>
      ∃ g, e = .returned (.tuple #[.slice (some ⟨g, 0, none⟩) 21 21, .int .i64 0]) ∧ Row w' g (packB 0 64 17 167772161 167772162 [7]) ∧ Below w.heap.size w w' :=
  (build_ok (some ⟨g0, 0, none⟩) 1 1 [7] 17 167772161 167772162 64 0 0 0 w.heap.size w h.bts (Nat.le_refl _) (by omega) (by omega) (by omega) (by omega) (by omega) (by omega) (by omega) (by omega)).mono fun e w' ⟨g, he, hr, _, hb⟩ => ⟨g, he, hr, hb⟩
theorem parse_aw (g : Nat) (w : World) (h : Row w g (packB 0 64 17 167772161 167772162 [7])) :
    Calls Try.prog 7 #[.slice (some ⟨g, 0, none⟩) 21 21] w fun e w' =>
      ∃ b off c, e = .returned (.tuple #[.agg (cells7 17 167772161 167772162 20 21 64 0), .slice (some ⟨b, off, none⟩) 1 c, .int .i64 0]) ∧ Hid (Bts w' w'.heap.size (some ⟨b, off, none⟩) 1 [7]) ∧ Below w.heap.size w w' := by
  refine (parse_pack (some ⟨g, 0, none⟩) 21 21 0 64 17 167772161 167772162 [7] [] w.heap.size w (by rw [List.append_nil]; exact h.bts) (Nat.le_refl _) (by omega) (by omega) (by omega) (by omega) (by omega) (by omega) (by omega) (by simp) 21 1 rfl rfl).mono ?_
  rintro e w' ⟨A', c', he, hb', _, hbel, _⟩
  obtain ⟨b, off, rfl, _, _⟩ := hb'.at_ (by omega)
  exact ⟨b, off, c', he, hb', hbel⟩
theorem parse_aw1 (g : Nat) (w : World) (h : Row w g [69]) :
    Calls Try.prog 7 #[.slice (some ⟨g, 0, none⟩) 1 1] w fun e w' => e = .returned (badV 4) ∧ Below w.heap.size w w' :=
  parse_short (some ⟨g, 0, none⟩) 1 1 [69] w.heap.size w h.bts (by omega) (by omega) (by omega)

set_option maxHeartbeats 2000000 in
theorem awake_any (W : World) : Calls Try.prog 10 #[] W fun e w' => e = .returned (.bool true) ∧ Below W.heap.size W w' := by
  go_enter Try.func10, Try.ntmps10
  go_wp2_with fail
  go_at_call 11
  have bel := (Below.refl _ W).alloc (Nat.le_refl _) (.cells #[.int .u8 7] 5)
  refine (build_aw W.heap.size _ (heap_alloc_new W _)).mono ?_
  rintro e w1 ⟨g, rfl, hr1, hb1⟩
  have bel1 := bel.trans (hb1.mono (by simp))
  have HR1 := Lib.hid hr1
  clear hb1 hr1 bel
  go_wp2_with fail
  go_at_call 7
  refine (parse_aw g _ HR1.out).mono ?_
  rintro e w2 ⟨b, off, c, rfl, HB2, hb2⟩
  have bel2 := bel1.trans (hb2.mono bel1.size)
  have HX := Lib.hid (Hd.box w2 0 0 0 0 0 0 0)
  obtain ⟨x0, x1, x2, x3, x4, x5, x6⟩ := HX.out.cells
  obtain ⟨g0, g1, g2, g3, g4, g5, g6⟩ := HX.out.frozen
  clear hb2 bel1 HR1
  go_wp2_with fail
  go_at_call 7
  have HD2 := Lib.hid (Hd.box w2 17 167772161 167772162 20 21 64 0)
  have hr3 : Row ((w2.alloc (.cells (cells7 17 167772161 167772162 20 21 64 0) 26)).alloc (.cells #[.int .u8 69] 5)) (w2.heap.size + 1) [69] := by
    have := heap_alloc_new (w2.alloc (.cells (cells7 17 167772161 167772162 20 21 64 0) 26)) (.cells #[.int .u8 69] 5)
    rw [World.size_alloc] at this
    exact this
  have hb23 := ((Below.refl _ w2).alloc (Nat.le_refl _) (.cells (cells7 17 167772161 167772162 20 21 64 0) 26)).alloc (by simp) (.cells #[.int .u8 69] 5)
  have HD3 := Lib.hid (HD2.out.next ((Below.refl _ _).alloc (Nat.le_refl _) (.cells #[.int .u8 69] 5)))
  refine (parse_aw1 (w2.heap.size + 1) _ hr3).mono ?_
  rintro e w3 ⟨rfl, hb3⟩
  have hb23' := hb23.trans (hb3.mono (by simp; omega))
  have bel3 := bel2.trans (hb23'.mono bel2.size)
  have HB3 := Lib.hid (HB2.out.below hb23')
  have HD4 := Lib.hid (HD3.out.next hb3)
  have HX3 := Lib.hid (Hd.box w3 0 0 0 0 0 0 0)
  have hbx := (Below.refl _ w3).alloc (Nat.le_refl _) (.cells (cells7 0 0 0 0 0 0 0) 26)
  have HD5 := Lib.hid (HD4.out.next hbx)
  have HB5 := Lib.hid (HB3.out.below (hbx.mono hb23'.size))
  have bel5 := bel3.alloc bel3.size (.cells (cells7 0 0 0 0 0 0 0) 26)
  clear hr3 hb3 hb23 hb23' bel2 bel3 HB2 HB3 HD2 HD3 HD4 hbx x0 x1 x2 x3 x4 x5 x6 g0 g1 g2 g3 g4 g5 g6
  obtain ⟨x0, x1, x2, x3, x4, x5, x6⟩ := HX3.out.cells
  obtain ⟨g0, g1, g2, g3, g4, g5, g6⟩ := HX3.out.frozen
  obtain ⟨y0, y1, y2, y3, y4, y5, y6⟩ := HD5.out.cells
  obtain ⟨b', off', e', -, hcell⟩ := HB5.out.at_ (by omega)
  obtain ⟨rfl, rfl⟩ : b = b' ∧ off = off' := by injection e' with e'; injection e' with e1 e2; exact ⟨e1, e2⟩
  have k0 : (w3.alloc (.cells (cells7 0 0 0 0 0 0 0) 26)).cell? ⟨b, off, none⟩ = some (.int .u8 7) := hcell 0 (by omega)
  clear hcell e'
  go_wp2_with fail
  go_ret
  exact ⟨rfl, bel5⟩

end Ip
end Go.Proofs.Ytcncnakjdfcggaa
