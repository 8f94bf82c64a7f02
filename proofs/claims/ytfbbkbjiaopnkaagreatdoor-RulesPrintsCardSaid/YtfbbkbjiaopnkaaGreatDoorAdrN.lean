/- Layer 3: the contract of addr.Net. -/
import Derived.Test.YtfbbkbjiaopnkaaGreatDoorAdrC
set_option linter.unusedVariables false
set_option linter.unusedSimpArgs false
namespace Go.Proofs.YtfbbkbjiaopnkaaGreatDoor
open Go.ChangeShapes Go.WideShapes Go.ChangeAt Go.RowKit Go.Mtl Go.Shelf Go.Sort Go.Lib
namespace Ad
open AdrM (byteS byteS_some byteS_le parseS printS validS showS hasS netS netP left right anyL)

/-- What Net answers. -/
def netVal (o : Option (Nat × Nat)) : Value := match o with
  | some (a, n) => .tuple #[.agg #[.int .u32 (a : Int), .int .i64 (n : Int)], .int .i64 0]
  | none => .tuple #[.agg #[.int .u32 0, .int .i64 0], .int .i64 3]
abbrev slash : ByteArray := ⟨#[47]⟩

theorem cut_any (s : ByteArray) (hs : s.size ≤ 1000000) (w : World) (he : Env w) :
    Calls Tryz.prog 49 #[.string s, .string slash] w fun e w' => ∃ b : Bool, e = .returned (.tuple #[.string ⟨(left s.data.toList).toArray⟩, .string ⟨(right s.data.toList).toArray⟩, .bool b]) ∧ ∃ k, w' = w.drewN k := by
  obtain ⟨m, hm⟩ := he.max
  have h := Tryz.strings_Cut s slash m w (by omega) hm
  have e : slash.data.toList = [47] := rfl
  rw [e, (AdrM.cut_left _).1, (AdrM.cut_left _).2] at h
  exact h.mono fun _ _ ⟨he, hw⟩ => ⟨_, he, hw⟩

theorem net_ok (s : ByteArray) (hs : s.data.toList = anyL) (w : World) :
    Calls Tryz.prog 33 #[.string s] w fun e w' => e = .returned (netVal (some (0, 0))) ∧ Below w.heap.size w w' := by
  have ht : (s.toList == [97, 110, 121]) = true := by rw [ByteArray.toList_eq, hs]; rfl
  clear hs
  go_enter Tryz.func33, Tryz.ntmps33
  go_wp2_with fail
  exact bodyPost_ret (v := netVal (some (0, 0))) (by simp [results, Tryz.results33, go_sem, netVal]) rfl ⟨rfl, (Below.refl _ _).alloc (Nat.le_refl _) _⟩

/-- In block w.heap.size lies the zero network, writable; what was there before is as it was. -/
structure Zero (w w1 : World) : Prop where
  c0 : w1.cell? ⟨w.heap.size, 0, none⟩ = some (.int .u32 0)
  c1 : w1.cell? ⟨w.heap.size, 1, none⟩ = some (.int .i64 0)
  f0 : w1.frozen? ⟨w.heap.size, 0, none⟩ = false
  f1 : w1.frozen? ⟨w.heap.size, 1, none⟩ = false
  bel : Below w.heap.size w w1
  lt : w.heap.size < w1.heap.size
theorem zero_box (w : World) : Zero w (boxed w 0 0) :=
  ⟨(netAt_box w 0 0).1, (netAt_box w 0 0).2.1, World.frozen?_alloc_new _ _ _ _, World.frozen?_alloc_new _ _ _ _, (netAt_box w 0 0).2.2.1, (netAt_box w 0 0).2.2.2⟩
theorem Zero.next {w w1 w2 : World} (h : Zero w w1) (hb : Below w1.heap.size w1 w2) : Zero w w2 :=
  ⟨(hb.cell h.lt).trans h.c0, (hb.cell h.lt).trans h.c1, (hb.frozen h.lt).trans h.f0, (hb.frozen h.lt).trans h.f1, h.bel.trans (hb.mono (by have := h.lt; omega)), by have := h.lt; have := hb.size; omega⟩
theorem Zero.alloc {w w1 : World} (h : Zero w w1) (o : Obj) : Zero w (w1.alloc o) := h.next ((Below.refl _ _).alloc (Nat.le_refl _) o)
theorem Zero.done {w w1 : World} (h : Zero w w1) (u v : Value) : Below w.heap.size w ((w1.setCell ⟨w.heap.size, 0, none⟩ u).setCell ⟨w.heap.size, 1, none⟩ v) :=
  (h.bel.setCell (p := ⟨w.heap.size, 0, none⟩) (Nat.le_refl _) u).setCell (p := ⟨w.heap.size, 1, none⟩) (Nat.le_refl _) v
theorem Zero.read {w w1 : World} (h : Zero w w1) (u v : Value) :
    ((w1.setCell ⟨w.heap.size, 0, none⟩ u).setCell ⟨w.heap.size, 1, none⟩ v).cell? ⟨w.heap.size, 0, none⟩ = some u ∧
    ((w1.setCell ⟨w.heap.size, 0, none⟩ u).setCell ⟨w.heap.size, 1, none⟩ v).cell? ⟨w.heap.size, 1, none⟩ = some v := by
  refine ⟨?_, ?_⟩
  · rw [World.cell?_setCell_other _ _ _ _ (by simp)]
    exact World.cell?_setCell_same _ _ _ h.c0
  · exact World.cell?_setCell_same _ _ _ ((World.cell?_setCell_other w1 ⟨w.heap.size, 0, none⟩ ⟨w.heap.size, 1, none⟩ u (by simp)).trans h.c1)

set_option maxHeartbeats 4000000 in
theorem net_bad (s : ByteArray) (hs : s.size ≤ 1000000) (hne : s.data.toList ≠ anyL) (w : World) (he : Env w) (hn : netP (left s.data.toList) (right s.data.toList) = none) :
    Calls Tryz.prog 33 #[.string s] w fun e w' => e = .returned (netVal none) ∧ Below w.heap.size w w' := by
  have ht : (s.toList == [97, 110, 121]) = false := by rw [ByteArray.toList_eq]; simpa [anyL] using hne
  have hl : (left s.data.toList).length ≤ 1000000 ∧ (right s.data.toList).length ≤ 1000000 := by
    have h1 := size_len s
    rcases (AdrM.split_at s.data.toList).2 with ⟨h2, h3, _⟩ | h2
    · rw [h3, ← h2]; simp; omega
    · have := congrArg List.length h2; simp at this; omega
  have HC := Lib.hid (fun W (h : Env W) => cut_any s hs W h)
  clear hne
  generalize left s.data.toList = p at hl hn HC
  generalize right s.data.toList = r at hl hn HC
  have HP := Lib.hid (fun W (h : Env W) => parse_any ⟨p.toArray⟩ (by simp [ByteArray.size]; omega) W h)
  have HR := Lib.hid (fun W (h : Env W) => number_any ⟨r.toArray⟩ (by simp [ByteArray.size]; omega) W h)
  simp only [List.toList_toArray] at HP HR
  have HE := Lib.hid he
  have HN := Lib.hid (zero_box w)
  clear hl he
  cases hp : parseS p with
  | none =>
    rw [parseRes_none hp] at HP
    clear hp hn
    cases hb : byteS r with
    | none =>
      rw [numRes_none hb] at HR
      clear hb
      go_enter Tryz.func33, Tryz.ntmps33
      go_wp2_with fail
      go_at_call 49
      refine (HC.out _ (HE.out.alloc _)).mono ?_
      rintro e w1 ⟨b, rfl, k, rfl⟩
      go_wp2_with fail
      go_at_call 51
      refine (HP.out _ ((HE.out.alloc _).drewN k)).mono ?_
      rintro e w2 ⟨rfl, hb2⟩
      have HZ2 := Lib.hid ((HN.out.next (below_drewN _ k)).next hb2)
      clear hb2
      go_wp2_with fail
      go_at_call 52
      refine (HR.out _ (HE.out.below HZ2.out.bel)).mono ?_
      rintro e w3 ⟨rfl, hb3⟩
      have HZ3 := Lib.hid (HZ2.out.next hb3)
      clear hb3
      have HZ4 := Lib.hid (HZ3.out.alloc (.cells #[.int .u32 0, .int .i64 0] 33))
      obtain ⟨hc0, hc1, hf0, hf1, -, -⟩ := HZ4.out
      go_wp2_with fail
      obtain ⟨hr0, hr1⟩ := HZ4.out.read (.int .u32 0) (.int .i64 0)
      exact bodyPost_ret (v := netVal none) (by simp [results, Tryz.results33, go_sem, netVal, hr0, hr1]) rfl ⟨rfl, HZ4.out.done _ _⟩
    | some n =>
      rw [numRes_some hb] at HR
      have hn8 := byteS_le hb
      clear hb
      go_enter Tryz.func33, Tryz.ntmps33
      go_wp2_with fail
      go_at_call 49
      refine (HC.out _ (HE.out.alloc _)).mono ?_
      rintro e w1 ⟨b, rfl, k, rfl⟩
      go_wp2_with fail
      go_at_call 51
      refine (HP.out _ ((HE.out.alloc _).drewN k)).mono ?_
      rintro e w2 ⟨rfl, hb2⟩
      have HZ2 := Lib.hid ((HN.out.next (below_drewN _ k)).next hb2)
      clear hb2
      go_wp2_with fail
      go_at_call 52
      refine (HR.out _ (HE.out.below HZ2.out.bel)).mono ?_
      rintro e w3 ⟨rfl, hb3⟩
      have HZ3 := Lib.hid (HZ2.out.next hb3)
      clear hb3
      have HZ4 := Lib.hid (HZ3.out.alloc (.cells #[.int .u32 0, .int .i64 (n : Int)] 33))
      obtain ⟨hc0, hc1, hf0, hf1, -, -⟩ := HZ4.out
      go_wp2_with fail
      obtain ⟨hr0, hr1⟩ := HZ4.out.read (.int .u32 0) (.int .i64 0)
      exact bodyPost_ret (v := netVal none) (by simp [results, Tryz.results33, go_sem, netVal, hr0, hr1]) rfl ⟨rfl, HZ4.out.done _ _⟩
  | some a =>
    rw [parseRes_some hp] at HP
    have ha := AdrM.parseS_lt hp
    cases hb : byteS r with
    | none =>
      rw [numRes_none hb] at HR
      clear hb hp hn
      go_enter Tryz.func33, Tryz.ntmps33
      go_wp2_with fail
      go_at_call 49
      refine (HC.out _ (HE.out.alloc _)).mono ?_
      rintro e w1 ⟨b, rfl, k, rfl⟩
      go_wp2_with fail
      go_at_call 51
      refine (HP.out _ ((HE.out.alloc _).drewN k)).mono ?_
      rintro e w2 ⟨rfl, hb2⟩
      have HZ2 := Lib.hid ((HN.out.next (below_drewN _ k)).next hb2)
      clear hb2
      go_wp2_with fail
      go_at_call 52
      refine (HR.out _ (HE.out.below HZ2.out.bel)).mono ?_
      rintro e w3 ⟨rfl, hb3⟩
      have HZ3 := Lib.hid (HZ2.out.next hb3)
      clear hb3
      have HZ4 := Lib.hid (HZ3.out.alloc (.cells #[.int .u32 (a : Int), .int .i64 0] 33))
      obtain ⟨hc0, hc1, hf0, hf1, -, -⟩ := HZ4.out
      go_wp2_with fail
      obtain ⟨hr0, hr1⟩ := HZ4.out.read (.int .u32 0) (.int .i64 0)
      exact bodyPost_ret (v := netVal none) (by simp [results, Tryz.results33, go_sem, netVal, hr0, hr1]) rfl ⟨rfl, HZ4.out.done _ _⟩
    | some n =>
      rw [numRes_some hb] at HR
      have hn8 := byteS_le hb
      by_cases h0 : n = 0
      · subst h0
        clear hb hp hn
        go_enter Tryz.func33, Tryz.ntmps33
        go_wp2_with fail
        go_at_call 49
        refine (HC.out _ (HE.out.alloc _)).mono ?_
        rintro e w1 ⟨b, rfl, k, rfl⟩
        go_wp2_with fail
        go_at_call 51
        refine (HP.out _ ((HE.out.alloc _).drewN k)).mono ?_
        rintro e w2 ⟨rfl, hb2⟩
        have HZ2 := Lib.hid ((HN.out.next (below_drewN _ k)).next hb2)
        clear hb2
        go_wp2_with fail
        go_at_call 52
        refine (HR.out _ (HE.out.below HZ2.out.bel)).mono ?_
        rintro e w3 ⟨rfl, hb3⟩
        have HZ3 := Lib.hid (HZ2.out.next hb3)
        clear hb3
        have HZ4 := Lib.hid (HZ3.out.alloc (.cells #[.int .u32 (a : Int), .int .i64 0] 33))
        obtain ⟨hc0, hc1, hf0, hf1, -, -⟩ := HZ4.out
        go_wp2_with fail
        obtain ⟨hr0, hr1⟩ := HZ4.out.read (.int .u32 0) (.int .i64 0)
        exact bodyPost_ret (v := netVal none) (by simp [results, Tryz.results33, go_sem, netVal, hr0, hr1]) rfl ⟨rfl, HZ4.out.done _ _⟩
      · have hv : validS a (n : Int) = false := by
          cases hv : validS a (n : Int) with
          | false => rfl
          | true => unfold netP at hn; rw [hp, hb] at hn; simp [h0, hv] at hn
        have HV := Lib.hid (fun W => valid_any a n ha W)
        rw [hv] at HV
        have hd : ((n : Int) == 0) = false := by simp; exact h0
        clear hb hp hn hv h0
        go_enter Tryz.func33, Tryz.ntmps33
        go_wp2_with fail
        go_at_call 49
        refine (HC.out _ (HE.out.alloc _)).mono ?_
        rintro e w1 ⟨b, rfl, k, rfl⟩
        go_wp2_with fail
        go_at_call 51
        refine (HP.out _ ((HE.out.alloc _).drewN k)).mono ?_
        rintro e w2 ⟨rfl, hb2⟩
        have HZ2 := Lib.hid ((HN.out.next (below_drewN _ k)).next hb2)
        clear hb2
        go_wp2_with fail
        go_at_call 52
        refine (HR.out _ (HE.out.below HZ2.out.bel)).mono ?_
        rintro e w3 ⟨rfl, hb3⟩
        have HZ3 := Lib.hid (HZ2.out.next hb3)
        clear hb3
        have HZ4 := Lib.hid (HZ3.out.alloc (.cells #[.int .u32 (a : Int), .int .i64 (n : Int)] 33))
        go_wp2_with fail
        go_at_call 53
        have HNN := Lib.hid (netAt_box w3 (a : Int) (n : Int))
        refine (HV.out _).mono ?_
        rintro e w4 ⟨rfl, hb4⟩
        obtain ⟨hd0, hd1, -, -⟩ := HNN.out.next hb4
        have HZ5 := Lib.hid (HZ4.out.next hb4)
        obtain ⟨hc0, hc1, hf0, hf1, -, -⟩ := HZ5.out
        clear hb4
        go_wp2_with fail
        obtain ⟨hr0, hr1⟩ := HZ5.out.read (.int .u32 0) (.int .i64 0)
        exact bodyPost_ret (v := netVal none) (by simp [results, Tryz.results33, go_sem, netVal, hr0, hr1]) rfl ⟨rfl, HZ5.out.done _ _⟩

set_option maxHeartbeats 4000000 in
theorem net_good (s : ByteArray) (hs : s.size ≤ 1000000) (hne : s.data.toList ≠ anyL) (w : World) (he : Env w) (a n : Nat) (hn : netP (left s.data.toList) (right s.data.toList) = some (a, n)) :
    Calls Tryz.prog 33 #[.string s] w fun e w' => e = .returned (netVal (some (a, n))) ∧ Below w.heap.size w w' := by
  have ht : (s.toList == [97, 110, 121]) = false := by rw [ByteArray.toList_eq]; simpa [anyL] using hne
  have hl : (left s.data.toList).length ≤ 1000000 ∧ (right s.data.toList).length ≤ 1000000 := by
    have h1 := size_len s
    rcases (AdrM.split_at s.data.toList).2 with ⟨h2, h3, _⟩ | h2
    · rw [h3, ← h2]; simp; omega
    · have := congrArg List.length h2; simp at this; omega
  have HC := Lib.hid (fun W (h : Env W) => cut_any s hs W h)
  clear hne
  generalize left s.data.toList = p at hl hn HC
  generalize right s.data.toList = r at hl hn HC
  have HP := Lib.hid (fun W (h : Env W) => parse_any ⟨p.toArray⟩ (by simp [ByteArray.size]; omega) W h)
  have HR := Lib.hid (fun W (h : Env W) => number_any ⟨r.toArray⟩ (by simp [ByteArray.size]; omega) W h)
  simp only [List.toList_toArray] at HP HR
  have HE := Lib.hid he
  have HN := Lib.hid (zero_box w)
  clear hl he
  obtain ⟨hp, hb, h0, hv⟩ := AdrM.netP_some hn
  rw [parseRes_some hp] at HP
  have ha := AdrM.parseS_lt hp
  rw [numRes_some hb] at HR
  have hn8 := byteS_le hb
  have HV := Lib.hid (fun W => valid_any a n ha W)
  rw [hv] at HV
  have hd : ((n : Int) == 0) = false := by simp; exact h0
  clear hb hp hn hv h0
  go_enter Tryz.func33, Tryz.ntmps33
  go_wp2_with fail
  go_at_call 49
  refine (HC.out _ (HE.out.alloc _)).mono ?_
  rintro e w1 ⟨b, rfl, k, rfl⟩
  go_wp2_with fail
  go_at_call 51
  refine (HP.out _ ((HE.out.alloc _).drewN k)).mono ?_
  rintro e w2 ⟨rfl, hb2⟩
  have HZ2 := Lib.hid ((HN.out.next (below_drewN _ k)).next hb2)
  clear hb2
  go_wp2_with fail
  go_at_call 52
  refine (HR.out _ (HE.out.below HZ2.out.bel)).mono ?_
  rintro e w3 ⟨rfl, hb3⟩
  have HZ3 := Lib.hid (HZ2.out.next hb3)
  clear hb3
  have HZ4 := Lib.hid (HZ3.out.alloc (.cells #[.int .u32 (a : Int), .int .i64 (n : Int)] 33))
  go_wp2_with fail
  go_at_call 53
  have HNN := Lib.hid (netAt_box w3 (a : Int) (n : Int))
  refine (HV.out _).mono ?_
  rintro e w4 ⟨rfl, hb4⟩
  obtain ⟨hd0, hd1, -, -⟩ := HNN.out.next hb4
  have HZ5 := Lib.hid (HZ4.out.next hb4)
  obtain ⟨hc0, hc1, hf0, hf1, -, -⟩ := HZ5.out
  clear hb4
  go_wp2_with fail
  obtain ⟨hr0, hr1⟩ := HZ5.out.read (.int .u32 (a : Int)) (.int .i64 (n : Int))
  exact bodyPost_ret (v := netVal (some (a, n))) (by simp [results, Tryz.results33, go_sem, netVal, hr0, hr1]) rfl ⟨rfl, HZ5.out.done _ _⟩

theorem net_any (s : ByteArray) (hs : s.size ≤ 1000000) (w : World) (he : Env w) :
    Calls Tryz.prog 33 #[.string s] w fun e w' => e = .returned (netVal (netS s.data.toList)) ∧ Below w.heap.size w w' := by
  unfold netS
  by_cases h : s.data.toList = anyL
  · rw [if_pos h]; exact net_ok s h w
  · rw [if_neg h]
    cases hn : netP (left s.data.toList) (right s.data.toList) with
    | none => exact net_bad s hs h w he hn
    | some x => exact net_good s hs h w he x.1 x.2 hn

end Ad
end Go.Proofs.YtfbbkbjiaopnkaaGreatDoor
