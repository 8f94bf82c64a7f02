/- Layer 24: the walk of RaceAlone. (Written by wip/tools/mkRacQ.py.) -/
import Derived.Test.YtalclmfnalmphaaRacO
set_option linter.unusedVariables false
set_option linter.unusedSimpArgs false
set_option maxRecDepth 100000
namespace Go.Proofs.Ytalclmfnalmphaa
open Go.ChangeShapes Go.WideShapes Go.ChangeAt Go.RowKit Go.Mtl Go.Lib
namespace Rc
open RcM
set_option maxHeartbeats 4000000 in
theorem raceAlone_walk (A0 : Option Addr) (len cap : Nat) (rs : List (List Int)) (L : Int) (W : World) (hd : rs.length = len ∧ Sts W W.heap.size ak (.slice A0 len cap) rs ∧ ∀ r ∈ rs, Fits ak r) (hL : 0 ≤ L ∧ L ≤ 255) :
    Calls Try.prog 5 #[.slice A0 len cap, .int .u8 L] W fun e w' => e = .returned (.bool true) ∧ Below W.heap.size W w' := by
  obtain ⟨l0, hl0, hr0, hcl, -⟩ := lg_of hd
  obtain ⟨l, hlq⟩ : ∃ l, l0.take 60 = l := ⟨_, rfl⟩
  obtain ⟨n, hnq⟩ : ∃ n, min len 60 = n := ⟨_, rfl⟩
  have hr : Rd W W.heap.size 3 n (.slice A0 n cap) (avs l) := by rw [← hnq, ← hlq]; exact Lg.cut hr0 hl0
  have hl : l.length = n := by rw [← hlq, List.length_take, hl0]; omega
  have hn60 : n ≤ 60 := by omega
  obtain ⟨h1, h2⟩ := hcl
  have HSH := Lib.hid (short_any A0 len cap h1 h2 W)
  rw [hnq] at HSH
  have h3 : n ≤ cap := by omega
  have HR := Lib.hid hr
  have HL := Lib.hid hl
  have eL : IntKind.i64.wrap L = L := by simp [IntKind.wrap, IntKind.bits, IntKind.signed]; omega
  clear hd hr0 hr hl hl0 hlq hnq h1
  go_in
  go_wp2_with fail
  refine HSH.out.mono ?_
  rintro e w1 ⟨rfl, hb1⟩
  have HN := Lib.hid (R3.new W w1 hb1)
  clear hb1 HSH
  go_wp2_with fail
  generalize ((w1.alloc (.cells #[] 32)).alloc (.cells #[] 32)).alloc (.cells #[] 32) = w2 at *
  go_loopw [6, 7, 8, 9, 10, 11] (fun v1 v2 v3 vi _ _ wr => ∃ (i : Nat) (l1 l2 l3 : List A), vi = .int .i64 (i : Int) ∧ i ≤ n ∧ Hid (R3 W wr v1 v2 v3 l1 l2 l3 ∧ H3 L i l1 l2 l3)) (fun _ _ _ vi _ _ _ => n - (RowKit.intOf vi).toNat)
  case atStart => exact ⟨0, [], [], [], rfl, by omega, (show Hid _ from ⟨HN.out, H3.new L⟩)⟩
  case round =>
    obtain ⟨i, l1, l2, l3, rfl, hi, HX⟩ := hrel
    clear HN
    by_cases hlt : i < n
    · obtain ⟨⟨t, k, p⟩, lb, off, hx, rfl, hlb, y0, y1, y2⟩ := Lg.at_ (HR.out.below HX.out.1.bel) HL.out hlt
      dsimp only at y0 y1 y2
      obtain ⟨un, hun⟩ : ∃ u : Nat, IntKind.u64.wrap t = (u : Int) := ⟨(IntKind.u64.wrap t).toNat, by simp [IntKind.wrap, IntKind.bits, IntKind.signed]; omega⟩
      have e2 : (un : Int).tmod 64 = ((un % 64 : Nat) : Int) := by rw [Int.tmod_eq_emod_of_nonneg (by omega)]; rfl
      have e3 : IntKind.i64.wrap ((un % 64 : Nat) : Int) = ((un % 64 : Nat) : Int) := by simp [IntKind.wrap, IntKind.bits, IntKind.signed]; omega
      have HLN : Hid (l1.length ≤ 60 ∧ l2.length ≤ 60 ∧ l3.length ≤ 180) := by
        have := HX.out.2.n1
        have := HX.out.2.n2
        have := HX.out.2.n3
        show _ ∧ _
        omega
      have HS1 := Lib.hid (HX.out.1.box ⟨7, k, p⟩)
      have hT : 0 ≤ (un : Int) % 64 ∧ (un : Int) % 64 ≤ 63 := by omega
      have HT := Lib.hid hT
      have HXX := Lib.hid HX.out.2
      clear hx hlb hT
      by_cases k6 : k = 6
      · subst k6
        have HW4 : Hid True := trivial
        go_wp2_with (first | (refine at_dst 42 ?_; refine wpList_pushm 1 (l1.length + 1) rfl (.tmp 39) (.tmp 41) 22 32 rfl Try.underlying22 (.agg (acc ⟨0, 0, 0⟩)) 3 24 acc_info rfl (by omega) (by omega) _ l1.length (avs l1) rfl HS1.out.r.o1.row [.int .i64 7, .int .i64 6, .int .i64 p] rfl (by intro u hu; simp at hu; rcases hu with rfl | rfl | rfl <;> rfl) (by first | rfl | (rw [World.size_alloc]; rfl) | (simp; done) | (simp; rfl)) rfl (by have := HLN.out; omega) ?_; intro A42 c42 w42 hown hgr hfr; have HS2 := Lib.hid (HS1.out.push (ys := [⟨7, 6, p⟩]) hown.out hgr.out hfr.out); have f0 := HS2.out.x.frozen 0; have x0 := HS2.out.x.cell 0 _ rfl; have HS3 := Lib.hid (HS2.out.thread ((un : Int) % 64)); have z0 := HS3.out.x.cell 0 _ rfl; have z1 := HS3.out.x.cell 1 _ rfl; have z2 := HS3.out.x.cell 2 _ rfl; have HV4 := Lib.hid HS3.out.rot.rot; clear hown hgr hfr y0 y1 y2) | (refine at_dst 71 ?_; refine wpList_pushm 3 (l3.length + 3) rfl (.tmp 60) (.tmp 70) 22 32 rfl Try.underlying22 (.agg (acc ⟨0, 0, 0⟩)) 3 24 acc_info rfl (by omega) (by omega) _ l3.length (avs l3) rfl HV4.out.r.o1.row [.int .i64 (((un : Int) % 64)), .int .i64 1, .int .i64 L, .int .i64 (((un : Int) % 64)), .int .i64 6, .int .i64 p, .int .i64 (((un : Int) % 64)), .int .i64 2, .int .i64 L] rfl (by intro u hu; simp at hu; rcases hu with rfl | rfl | rfl | rfl | rfl | rfl | rfl | rfl | rfl <;> rfl) (by first | rfl | (rw [World.size_alloc]; rfl) | (simp; done) | (simp; rfl)) rfl (by have := HLN.out; omega) ?_; intro A71 c71 w71 hown hgr hfr; have HU5 := Lib.hid (HV4.out.push (ys := [⟨((un : Int) % 64), 1, L⟩, ⟨((un : Int) % 64), 6, p⟩, ⟨((un : Int) % 64), 2, L⟩]) hown.out hgr.out hfr.out); have HG := Lib.hid HU5.out.rot; clear hown hgr hfr))
        go_roundw
        case rel => exact ⟨i + 1, _, _, _, by go_num, by omega, (show Hid _ from ⟨HG.out.r, by simpa only [List.append_nil] using HXX.out.step (k := 6) (p := p) HT.out (.inl rfl) (.inr rfl)⟩)⟩
        case measure => simp [RowKit.intOf]; omega
      by_cases k5 : k = 5
      · subst k5
        go_wp2_with (first | (refine at_dst 42 ?_; refine wpList_pushm 1 (l1.length + 1) rfl (.tmp 39) (.tmp 41) 22 32 rfl Try.underlying22 (.agg (acc ⟨0, 0, 0⟩)) 3 24 acc_info rfl (by omega) (by omega) _ l1.length (avs l1) rfl HS1.out.r.o1.row [.int .i64 7, .int .i64 5, .int .i64 p] rfl (by intro u hu; simp at hu; rcases hu with rfl | rfl | rfl <;> rfl) (by first | rfl | (rw [World.size_alloc]; rfl) | (simp; done) | (simp; rfl)) rfl (by have := HLN.out; omega) ?_; intro A42 c42 w42 hown hgr hfr; have HS2 := Lib.hid (HS1.out.push (ys := [⟨7, 5, p⟩]) hown.out hgr.out hfr.out); have f0 := HS2.out.x.frozen 0; have x0 := HS2.out.x.cell 0 _ rfl; have HS3 := Lib.hid (HS2.out.thread ((un : Int) % 64)); have z0 := HS3.out.x.cell 0 _ rfl; have z1 := HS3.out.x.cell 1 _ rfl; have z2 := HS3.out.x.cell 2 _ rfl; have HU3 := Lib.hid HS3.out.rot; clear hown hgr hfr y0 y1 y2) | (refine at_dst 51 ?_; refine wpList_pushm 1 (l2.length + 1) rfl (.tmp 48) (.tmp 50) 22 32 rfl Try.underlying22 (.agg (acc ⟨0, 0, 0⟩)) 3 24 acc_info rfl (by omega) (by omega) _ l2.length (avs l2) rfl HU3.out.r.o1.row [.int .i64 (((un : Int) % 64)), .int .i64 5, .int .i64 p] rfl (by intro u hu; simp at hu; rcases hu with rfl | rfl | rfl <;> rfl) (by first | rfl | (rw [World.size_alloc]; rfl) | (simp; done) | (simp; rfl)) rfl (by have := HLN.out; omega) ?_; intro A51 c51 w51 hown hgr hfr; have HU4 := Lib.hid (HU3.out.push (ys := [⟨((un : Int) % 64), 5, p⟩]) hown.out hgr.out hfr.out); have q0 := HU4.out.x.cell 0 _ rfl; have q1 := HU4.out.x.cell 1 _ rfl; have q2 := HU4.out.x.cell 2 _ rfl; have HV4 := Lib.hid HU4.out.rot; have HF := Lib.hid HU4.out.rot.rot; clear hown hgr hfr) | (refine at_dst 71 ?_; refine wpList_pushm 3 (l3.length + 3) rfl (.tmp 60) (.tmp 70) 22 32 rfl Try.underlying22 (.agg (acc ⟨0, 0, 0⟩)) 3 24 acc_info rfl (by omega) (by omega) _ l3.length (avs l3) rfl HV4.out.r.o1.row [.int .i64 (((un : Int) % 64)), .int .i64 1, .int .i64 L, .int .i64 (((un : Int) % 64)), .int .i64 5, .int .i64 p, .int .i64 (((un : Int) % 64)), .int .i64 2, .int .i64 L] rfl (by intro u hu; simp at hu; rcases hu with rfl | rfl | rfl | rfl | rfl | rfl | rfl | rfl | rfl <;> rfl) (by first | rfl | (rw [World.size_alloc]; rfl) | (simp; done) | (simp; rfl)) rfl (by have := HLN.out; omega) ?_; intro A71 c71 w71 hown hgr hfr; have HU5 := Lib.hid (HV4.out.push (ys := [⟨((un : Int) % 64), 1, L⟩, ⟨((un : Int) % 64), 5, p⟩, ⟨((un : Int) % 64), 2, L⟩]) hown.out hgr.out hfr.out); have HG := Lib.hid HU5.out.rot; clear hown hgr hfr))
        go_roundw
        case rel => exact ⟨i + 1, _, _, _, by go_num, by omega, (show Hid _ from ⟨HG.out.r, by simpa only [List.append_nil] using HXX.out.step (k := 5) (p := p) HT.out (.inr ⟨rfl, k6⟩) (.inr rfl)⟩)⟩
        case measure => simp [RowKit.intOf]; omega
      · have d5 : (k == 5) = false := by simpa using k5
        have d6 : (k == 6) = false := by simpa using k6
        have d6' : (k != 6) = true := by simpa using k6
        go_wp2_with (first | (refine at_dst 42 ?_; refine wpList_pushm 1 (l1.length + 1) rfl (.tmp 39) (.tmp 41) 22 32 rfl Try.underlying22 (.agg (acc ⟨0, 0, 0⟩)) 3 24 acc_info rfl (by omega) (by omega) _ l1.length (avs l1) rfl HS1.out.r.o1.row [.int .i64 7, .int .i64 k, .int .i64 p] rfl (by intro u hu; simp at hu; rcases hu with rfl | rfl | rfl <;> rfl) (by first | rfl | (rw [World.size_alloc]; rfl) | (simp; done) | (simp; rfl)) rfl (by have := HLN.out; omega) ?_; intro A42 c42 w42 hown hgr hfr; have HS2 := Lib.hid (HS1.out.push (ys := [⟨7, k, p⟩]) hown.out hgr.out hfr.out); have f0 := HS2.out.x.frozen 0; have x0 := HS2.out.x.cell 0 _ rfl; have HS3 := Lib.hid (HS2.out.thread ((un : Int) % 64)); have z0 := HS3.out.x.cell 0 _ rfl; have z1 := HS3.out.x.cell 1 _ rfl; have z2 := HS3.out.x.cell 2 _ rfl; have HU3 := Lib.hid HS3.out.rot; clear hown hgr hfr y0 y1 y2) | (refine at_dst 51 ?_; refine wpList_pushm 1 (l2.length + 1) rfl (.tmp 48) (.tmp 50) 22 32 rfl Try.underlying22 (.agg (acc ⟨0, 0, 0⟩)) 3 24 acc_info rfl (by omega) (by omega) _ l2.length (avs l2) rfl HU3.out.r.o1.row [.int .i64 (((un : Int) % 64)), .int .i64 k, .int .i64 p] rfl (by intro u hu; simp at hu; rcases hu with rfl | rfl | rfl <;> rfl) (by first | rfl | (rw [World.size_alloc]; rfl) | (simp; done) | (simp; rfl)) rfl (by have := HLN.out; omega) ?_; intro A51 c51 w51 hown hgr hfr; have HU4 := Lib.hid (HU3.out.push (ys := [⟨((un : Int) % 64), k, p⟩]) hown.out hgr.out hfr.out); have q0 := HU4.out.x.cell 0 _ rfl; have q1 := HU4.out.x.cell 1 _ rfl; have q2 := HU4.out.x.cell 2 _ rfl; have HV4 := Lib.hid HU4.out.rot; have HF := Lib.hid HU4.out.rot.rot; clear hown hgr hfr))
        go_roundw
        case rel => exact ⟨i + 1, _, _, _, by go_num, by omega, (show Hid _ from ⟨HF.out.r, by simpa only [List.append_nil] using HXX.out.step (k := k) (p := p) HT.out (.inr ⟨rfl, k6⟩) (.inl rfl)⟩)⟩
        case measure => simp [RowKit.intOf]; omega
    · obtain rfl : i = n := by omega
      obtain ⟨t1, t2, t3⟩ := HX.out.2.tells
      have HT1 := Lib.hid t1
      have HT2 := Lib.hid t2
      have HT3 := Lib.hid t3
      have HR1 := Lib.hid HX.out.1
      clear t1 t2 t3 HX
      go_wp2_with fail
      go_at_call 7
      refine (find_any _ l1 _ HR1.out.o1.read).mono ?_
      rintro e w4 ⟨x, d, rfl, ht, hb4⟩
      obtain ⟨rfl, rfl⟩ := ht.one HT1.out
      have HR2 := Lib.hid (HR1.out.next hb4)
      clear ht hb4
      go_wp2_with fail
      go_at_call 7
      refine (find_any _ l2 _ HR2.out.o2.read).mono ?_
      rintro e w5 ⟨x, d, rfl, ht, hb5⟩
      obtain ⟨rfl, rfl⟩ := ht.one HT2.out
      have HR3 := Lib.hid (HR2.out.next hb5)
      clear ht hb5
      go_wp2_with fail
      go_at_call 7
      refine (find_any _ l3 _ HR3.out.o3.read).mono ?_
      rintro e w6 ⟨x, d, rfl, ht, hb6⟩
      obtain ⟨rfl, rfl⟩ := ht.one HT3.out
      have HB6 := Lib.hid (HR3.out.next hb6).bel
      clear ht hb6
      go_wp2_with fail
      go_at_call 9
      refine (awake_any _).mono ?_
      rintro e w7 ⟨rfl, hb7⟩
      have HB7 := Lib.hid (HB6.out.trans (hb7.mono HB6.out.size))
      clear hb7
      go_wp2_with fail
      go_ret
      exact ⟨rfl, HB7.out⟩
end Rc
end Go.Proofs.Ytalclmfnalmphaa
