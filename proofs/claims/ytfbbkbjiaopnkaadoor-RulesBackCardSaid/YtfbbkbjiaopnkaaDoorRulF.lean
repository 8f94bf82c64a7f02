/- Layer 12: what is found in the map of protocols; the contracts of parsePort and parseSpan. (Written by wip/tools/mkRulF.py.) -/
import Derived.Test.YtfbbkbjiaopnkaaDoorRulC
import Derived.IntWalk
set_option linter.unusedVariables false
set_option linter.unusedSimpArgs false
namespace Go.Proofs.YtfbbkbjiaopnkaaDoor
open Go.ChangeShapes Go.WideShapes Go.ChangeAt Go.RowKit Go.Mtl Go.Shelf Go.Lib
namespace Ru
open RulM (R wordS known protoP spanS spanP portN lowS highS icmpL tcpL udpL)
open AdrM (anyL)
open TxtM (okN valN)

theorem beq_list (s t : ByteArray) : (s == t) = decide (s.data.toList = t.data.toList) := by
  rw [Bool.eq_iff_iff, MapKept.bytes_beq, decide_eq_true_iff]
  exact ⟨fun e => by rw [e], fun e => Ad.ba_eq e⟩
/-- What a word is found as. -/
def protoN (l : List UInt8) : Nat := (protoP l).getD 0
def protoB (l : List UInt8) : Bool := (protoP l).isSome
theorem zero_u8 (W : World) : (zeroValue 5).run Tryd.prog W = .ok (.int .u8 0) W := by
  obtain ⟨i0, hi0, hz0, _, _⟩ := info_parts Ad.u8_info
  simp [zeroValue, typeInfo, hi0, hz0]
theorem look_any (s : ByteArray) (W : World) (b : Nat) (hb : W.heap[b]? = some (.map pm 4)) :
    (Instr.lookup 72 (.map (some b)) (.string s) true).run Tryd.prog W = .ok (.tuple #[.int .u8 (protoN s.data.toList : Int), .bool (protoB s.data.toList)]) W := by
  have hf : ∃ a, Instr.findNow .string (.string s) pm.toList 0 = some a ∧ ((a = none ∧ protoP s.data.toList = none) ∨ ∃ j p : Nat, a = some (j, .int .u8 (p : Int)) ∧ protoP s.data.toList = some p) := by
    have e1 : (s == kAny) = decide (s.data.toList = anyL) := beq_list s kAny
    have e2 : (s == kIcmp) = decide (s.data.toList = icmpL) := beq_list s kIcmp
    have e3 : (s == kTcp) = decide (s.data.toList = tcpL) := beq_list s kTcp
    have e4 : (s == kUdp) = decide (s.data.toList = udpL) := beq_list s kUdp
    unfold protoP
    have hpm : pm.toList = [{ key := .string kAny, val := .int .u8 0, born := 0 }, { key := .string kIcmp, val := .int .u8 1, born := 1 }, { key := .string kTcp, val := .int .u8 6, born := 2 }, { key := .string kUdp, val := .int .u8 17, born := 3 }] := rfl
    rw [hpm]
    by_cases h1 : s.data.toList = anyL
    · have b1 : _ = true := e1.trans (decide_eq_true h1)
      rw [if_pos h1]
      exact ⟨some (0, .int .u8 0), by simp only [Instr.findNow, Instr.sameNow, b1], .inr ⟨0, 0, rfl, rfl⟩⟩
    · have b1 : _ = false := e1.trans (decide_eq_false h1)
      by_cases h2 : s.data.toList = icmpL
      · have b2 : _ = true := e2.trans (decide_eq_true h2)
        rw [if_neg h1, if_pos h2]
        exact ⟨some (1, .int .u8 1), by simp only [Instr.findNow, Instr.sameNow, b1, b2], .inr ⟨1, 1, rfl, rfl⟩⟩
      · have b2 : _ = false := e2.trans (decide_eq_false h2)
        by_cases h3 : s.data.toList = tcpL
        · have b3 : _ = true := e3.trans (decide_eq_true h3)
          rw [if_neg h1, if_neg h2, if_pos h3]
          exact ⟨some (2, .int .u8 6), by simp only [Instr.findNow, Instr.sameNow, b1, b2, b3], .inr ⟨2, 6, rfl, rfl⟩⟩
        · have b3 : _ = false := e3.trans (decide_eq_false h3)
          by_cases h4 : s.data.toList = udpL
          · have b4 : _ = true := e4.trans (decide_eq_true h4)
            rw [if_neg h1, if_neg h2, if_neg h3, if_pos h4]
            exact ⟨some (3, .int .u8 17), by simp only [Instr.findNow, Instr.sameNow, b1, b2, b3, b4], .inr ⟨3, 17, rfl, rfl⟩⟩
          · have b4 : _ = false := e4.trans (decide_eq_false h4)
            rw [if_neg h1, if_neg h2, if_neg h3, if_neg h4]
            exact ⟨none, by simp only [Instr.findNow, Instr.sameNow, b1, b2, b3, b4], .inl ⟨rfl, rfl⟩⟩
  obtain ⟨a, ha, hcase⟩ := hf
  have hk := MapKept.run_findKey (P := Tryd.prog) (w := W) Tryd.underlying9 ha
  have hck := MapKept.run_checkKey (P := Tryd.prog) (w := W) Tryd.underlying9 (k := .string s) trivial
  rcases hcase with ⟨rfl, hp⟩ | ⟨j, p, rfl, hp⟩
  · simp [Instr.lookup, run_underlying Tryd.underlying72, MapKept.run_getObj_map hb, hck, hk, zero_u8, Result.andThen, protoN, protoB, hp]
  · simp [Instr.lookup, run_underlying Tryd.underlying72, MapKept.run_getObj_map hb, hck, hk, Result.andThen, protoN, protoB, hp]

/-- What parsePort answers. -/
def portV (o : Option Nat) : Value := match o with
  | some n => .tuple #[.int .u16 (n : Int), .bool true]
  | none => .tuple #[.int .u16 0, .bool false]
set_option maxRecDepth 100000 in
theorem port_any (l : List UInt8) (w : World) (hl : l.length ≤ 1000000) :
    Calls Tryd.prog 43 #[.string ⟨l.toArray⟩] w fun e w' => e = .returned (portV (portN l)) ∧ w' = w := by
  have e0 : (⟨l.toArray⟩ : ByteArray).data.toList = l := by simp
  have HN := Lib.hid (Tx.number_any ⟨l.toArray⟩ w (by unfold maxLen; simp [ByteArray.size]; omega))
  rw [e0] at HN
  obtain ⟨V, hV⟩ : ∃ V, portV (portN l) = V := ⟨_, rfl⟩
  rw [hV]
  unfold RulM.portN at hV
  clear e0 hl
  cases hk : okN l with
  | false =>
    rw [hk] at HN hV
    have HP : Hid (V = .tuple #[.int .u16 0, .bool false]) := by show _ = _; rw [← hV, if_neg (by simp)]; rfl
    clear hk hV
    generalize valN l = n at *
    go_enter Tryd.func43, Tryd.ntmps43
    go_wp2_with fail
    go_at_call 55
    refine HN.out.mono ?_
    rintro e w1 ⟨rfl, rfl⟩
    go_wp2_with fail
    go_ret2
    exact ⟨by rw [HP.out]; rfl, rfl⟩
  | true =>
    rw [hk] at HN hV
    clear hk
    generalize valN l = n at *
    by_cases h : n ≤ 65535
    · have HP : Hid (V = .tuple #[.int .u16 (n : Int), .bool true]) := by show _ = _; rw [← hV, if_pos ⟨rfl, h⟩]; rfl
      have hc : IntKind.u16.wrap (n : Int) = (n : Int) := IntWalk.u16_in _ (by omega)
      clear hV
      go_enter Tryd.func43, Tryd.ntmps43
      go_wp2_with fail
      go_at_call 55
      refine HN.out.mono ?_
      rintro e w1 ⟨rfl, rfl⟩
      go_wp2_with fail
      go_ret2
      exact ⟨by rw [HP.out]; rfl, rfl⟩
    · have HP : Hid (V = .tuple #[.int .u16 0, .bool false]) := by show _ = _; rw [← hV, if_neg (fun e => h e.2)]; rfl
      clear hV
      go_enter Tryd.func43, Tryd.ntmps43
      go_wp2_with fail
      go_at_call 55
      refine HN.out.mono ?_
      rintro e w1 ⟨rfl, rfl⟩
      go_wp2_with fail
      go_ret2
      exact ⟨by rw [HP.out]; rfl, rfl⟩


theorem cut_len (c : UInt8) (l : List UInt8) : (cut l [c]).1.length ≤ l.length ∧ (cut l [c]).2.1.length ≤ l.length := by
  by_cases h : c ∈ l
  · obtain ⟨p, r, e, hp⟩ := AdrM.part_at c l h
    rw [e, RulM.cut_hit c p r hp]
    simp; omega
  · rw [RulM.cut_miss c l h]; simp
theorem portV_none : portV none = .tuple #[.int .u16 0, .bool false] := rfl
theorem portV_some (n : Nat) : portV (some n) = .tuple #[.int .u16 (n : Int), .bool true] := rfl
theorem portV_form (o : Option Nat) : ∃ (x : Int) (y : Bool), portV o = .tuple #[.int .u16 x, .bool y] := by
  cases o with
  | none => exact ⟨_, _, rfl⟩
  | some n => exact ⟨_, _, rfl⟩
/-- What parseSpan answers. -/
def spanV (o : Option (Nat × Nat)) : Value := match o with
  | some (a, b) => .tuple #[.agg #[.int .u16 (a : Int), .int .u16 (b : Int)], .bool true]
  | none => .tuple #[.agg #[.int .u16 0, .int .u16 0], .bool false]
/-- A block of two cells, and what was there before. -/
structure SAt (w : World) (g : Nat) (x y : Value) (W : World) : Prop where
  blk : Blk W g #[x, y] 40
  bel : Below w.heap.size w W
  le : w.heap.size ≤ g
theorem SAt.box {w W : World} (x y : Value) (hb : Below w.heap.size w W) : SAt w W.heap.size x y (W.alloc (.cells #[x, y] 40)) := ⟨Blk.box _ _ _, hb.alloc hb.size _, hb.size⟩
theorem SAt.next {w W W' : World} {g : Nat} {x y : Value} (h : SAt w g x y W) (hb : Below W.heap.size W W') : SAt w g x y W' := ⟨h.blk.next hb, below_then h.bel hb, h.le⟩
theorem SAt.c0 {w W : World} {g : Nat} {x y : Value} (h : SAt w g x y W) : W.cell? ⟨g, 0, none⟩ = some x := h.blk.cell 0 _ rfl
theorem SAt.c1 {w W : World} {g : Nat} {x y : Value} (h : SAt w g x y W) : W.cell? ⟨g, 1, none⟩ = some y := h.blk.cell 1 _ rfl
theorem SAt.f {w W : World} {g : Nat} {x y : Value} (h : SAt w g x y W) (i : Nat) : W.frozen? ⟨g, i, none⟩ = false := h.blk.frozen i
theorem SAt.put {w W : World} {g : Nat} {x y : Value} (h : SAt w g x y W) (u v : Value) : SAt w g u v ((W.setCell ⟨g, 0, none⟩ u).setCell ⟨g, 1, none⟩ v) :=
  ⟨(h.blk.set 0 u).set' 1 v rfl, (h.bel.setCell (p := ⟨g, 0, none⟩) h.le u).setCell (p := ⟨g, 1, none⟩) h.le v, h.le⟩
theorem cut_dash (l : List UInt8) (hl : l.length ≤ 4096) (w : World) (he : Ad.Env w) :
    Calls Tryd.prog 39 #[.string ⟨l.toArray⟩, .string ⟨#[45]⟩] w fun e w' => e = .returned (.tuple #[.string ⟨(cut l [45]).1.toArray⟩, .string ⟨(cut l [45]).2.1.toArray⟩, .bool (cut l [45]).2.2]) ∧ ∃ k, w' = w.drewN k := by
  obtain ⟨m, hm⟩ := he.max
  have h := Tryd.strings_Cut ⟨l.toArray⟩ ⟨#[45]⟩ m w (by simp [ByteArray.size]; omega) hm
  have e : (⟨#[45]⟩ : ByteArray).data.toList = [45] := rfl
  have e0 : (⟨l.toArray⟩ : ByteArray).data.toList = l := by simp
  rw [e, e0] at h
  exact h
set_option maxRecDepth 100000 in
theorem span_parse_any (w : World) : Calls Tryd.prog 28 #[.string ⟨#[97, 110, 121]⟩] w fun e w' => e = .returned (spanV (some (0, 65535))) ∧ Below w.heap.size w w' := by
  have HZ := Lib.hid (SAt.box (.int .u16 0) (.int .u16 0) (Below.refl w.heap.size w))
  go_enter Tryd.func28, Tryd.ntmps28
  go_wp2_with fail
  exact bodyPost_ret (v := spanV (some (0, 65535))) (by simp [results, Tryd.results28, go_sem, spanV]) rfl ⟨rfl, below_box _ _⟩

set_option maxRecDepth 100000 in
set_option maxHeartbeats 1000000 in
theorem span_true_1 (l p q : List UInt8) (hl : l.length ≤ 4096) (hne : l ≠ anyL) (w : World) (he : Ad.Env w) (hp : p.length ≤ 4096) (hq : q.length ≤ 4096) (hc : cut l [45] = (p, q, true)) (h1 : portN p = none) :
    Calls Tryd.prog 28 #[.string ⟨l.toArray⟩] w fun e w' => e = .returned (spanV none) ∧ Below w.heap.size w w' := by
  have ht : (l == [97, 110, 121]) = false := by simpa [anyL] using hne
  have HZ := Lib.hid (SAt.box (.int .u16 0) (.int .u16 0) (Below.refl w.heap.size w))
  have HC := Lib.hid (cut_dash l hl (w.alloc (.cells #[.int .u16 0, .int .u16 0] 40)) (he.alloc _))
  rw [hc] at HC
  have HL := Lib.hid (fun W => port_any p W (by omega))
  rw [h1, portV_none] at HL
  have HH := Lib.hid (fun W => port_any q W (by omega))
  obtain ⟨x2, y2, e2⟩ := portV_form (portN q)
  rw [e2] at HH
  clear e2
  clear hl hne he hp hq hc h1
  go_enter Tryd.func28, Tryd.ntmps28
  go_wp2_with fail
  go_at_call 39
  refine HC.out.mono ?_
  rintro e w1 ⟨rfl, k, rfl⟩
  have HZ1 := Lib.hid (HZ.out.next (below_drewN _ k))
  clear HZ HC
  generalize (w.alloc (.cells #[.int .u16 0, .int .u16 0] 40)).drewN k = w1 at *
  go_wp2_with fail
  go_at_call 43
  refine (HL.out _).mono ?_
  rintro e w2 ⟨rfl, rfl⟩
  go_wp2_with fail
  go_at_call 43
  refine (HH.out _).mono ?_
  rintro e w3 ⟨rfl, rfl⟩
  have HZ2 := Lib.hid (HZ1.out.next (below_box w3 (.cells #[.int .u16 0, .int .u16 x2] 40)))
  have c0 := HZ2.out.c0
  have c1 := HZ2.out.c1
  have f0 := HZ2.out.f 0
  have f1 := HZ2.out.f 1
  go_wp2_with fail
  have HY := Lib.hid (HZ2.out.put (.int .u16 0) (.int .u16 0))
  have r0 := HY.out.c0
  have r1 := HY.out.c1
  exact bodyPost_ret (v := spanV none) (by simp [results, Tryd.results28, go_sem, spanV, r0, r1]) rfl ⟨rfl, HY.out.bel⟩
set_option maxRecDepth 100000 in
set_option maxHeartbeats 1000000 in
theorem span_true_2 (l p q : List UInt8) (hl : l.length ≤ 4096) (hne : l ≠ anyL) (w : World) (he : Ad.Env w) (hp : p.length ≤ 4096) (hq : q.length ≤ 4096) (hc : cut l [45] = (p, q, true)) (a : Nat) (h1 : portN p = some a) (h2 : portN q = none) :
    Calls Tryd.prog 28 #[.string ⟨l.toArray⟩] w fun e w' => e = .returned (spanV none) ∧ Below w.heap.size w w' := by
  have ht : (l == [97, 110, 121]) = false := by simpa [anyL] using hne
  have HZ := Lib.hid (SAt.box (.int .u16 0) (.int .u16 0) (Below.refl w.heap.size w))
  have HC := Lib.hid (cut_dash l hl (w.alloc (.cells #[.int .u16 0, .int .u16 0] 40)) (he.alloc _))
  rw [hc] at HC
  have HL := Lib.hid (fun W => port_any p W (by omega))
  rw [h1, portV_some] at HL
  have HH := Lib.hid (fun W => port_any q W (by omega))
  rw [h2, portV_none] at HH
  clear hl hne he hp hq hc h1 h2
  go_enter Tryd.func28, Tryd.ntmps28
  go_wp2_with fail
  go_at_call 39
  refine HC.out.mono ?_
  rintro e w1 ⟨rfl, k, rfl⟩
  have HZ1 := Lib.hid (HZ.out.next (below_drewN _ k))
  clear HZ HC
  generalize (w.alloc (.cells #[.int .u16 0, .int .u16 0] 40)).drewN k = w1 at *
  go_wp2_with fail
  go_at_call 43
  refine (HL.out _).mono ?_
  rintro e w2 ⟨rfl, rfl⟩
  go_wp2_with fail
  go_at_call 43
  refine (HH.out _).mono ?_
  rintro e w3 ⟨rfl, rfl⟩
  have HZ2 := Lib.hid (HZ1.out.next (below_box w3 (.cells #[.int .u16 (a : Int), .int .u16 0] 40)))
  have c0 := HZ2.out.c0
  have c1 := HZ2.out.c1
  have f0 := HZ2.out.f 0
  have f1 := HZ2.out.f 1
  go_wp2_with fail
  have HY := Lib.hid (HZ2.out.put (.int .u16 0) (.int .u16 0))
  have r0 := HY.out.c0
  have r1 := HY.out.c1
  exact bodyPost_ret (v := spanV none) (by simp [results, Tryd.results28, go_sem, spanV, r0, r1]) rfl ⟨rfl, HY.out.bel⟩
set_option maxRecDepth 100000 in
set_option maxHeartbeats 1000000 in
theorem span_true_3 (l p q : List UInt8) (hl : l.length ≤ 4096) (hne : l ≠ anyL) (w : World) (he : Ad.Env w) (hp : p.length ≤ 4096) (hq : q.length ≤ 4096) (hc : cut l [45] = (p, q, true)) (a b : Nat) (h1 : portN p = some a) (h2 : portN q = some b) (h3 : ¬ a ≤ b) :
    Calls Tryd.prog 28 #[.string ⟨l.toArray⟩] w fun e w' => e = .returned (spanV none) ∧ Below w.heap.size w w' := by
  have ht : (l == [97, 110, 121]) = false := by simpa [anyL] using hne
  have HZ := Lib.hid (SAt.box (.int .u16 0) (.int .u16 0) (Below.refl w.heap.size w))
  have HC := Lib.hid (cut_dash l hl (w.alloc (.cells #[.int .u16 0, .int .u16 0] 40)) (he.alloc _))
  rw [hc] at HC
  have HL := Lib.hid (fun W => port_any p W (by omega))
  rw [h1, portV_some] at HL
  have HH := Lib.hid (fun W => port_any q W (by omega))
  rw [h2, portV_some] at HH
  have b1 : a ≤ 65535 := (RulM.portN_some.1 h1).2
  have b2 : b ≤ 65535 := (RulM.portN_some.1 h2).2
  have HS := Lib.hid (fun W => isSpan_any a b W)
  rw [decide_eq_false h3] at HS
  clear hl hne he hp hq hc h1 h2 h3
  go_enter Tryd.func28, Tryd.ntmps28
  go_wp2_with fail
  go_at_call 39
  refine HC.out.mono ?_
  rintro e w1 ⟨rfl, k, rfl⟩
  have HZ1 := Lib.hid (HZ.out.next (below_drewN _ k))
  clear HZ HC
  generalize (w.alloc (.cells #[.int .u16 0, .int .u16 0] 40)).drewN k = w1 at *
  go_wp2_with fail
  go_at_call 43
  refine (HL.out _).mono ?_
  rintro e w2 ⟨rfl, rfl⟩
  go_wp2_with fail
  go_at_call 43
  refine (HH.out _).mono ?_
  rintro e w3 ⟨rfl, rfl⟩
  have HX := Lib.hid (SAt.box (.int .u16 (a : Int)) (.int .u16 (b : Int)) HZ1.out.bel)
  have HZ2 := Lib.hid (HZ1.out.next (below_box w3 (.cells #[.int .u16 (a : Int), .int .u16 (b : Int)] 40)))
  go_wp2_with fail
  go_at_call 16
  refine (HS.out _).mono ?_
  rintro e w4 ⟨rfl, hb⟩
  have HZ3 := Lib.hid (HZ2.out.next hb)
  have HX3 := Lib.hid (HX.out.next hb)
  clear hb HZ2 HX
  have c0 := HZ3.out.c0
  have c1 := HZ3.out.c1
  have f0 := HZ3.out.f 0
  have f1 := HZ3.out.f 1
  go_wp2_with fail
  have HY := Lib.hid (HZ3.out.put (.int .u16 0) (.int .u16 0))
  have r0 := HY.out.c0
  have r1 := HY.out.c1
  exact bodyPost_ret (v := spanV none) (by simp [results, Tryd.results28, go_sem, spanV, r0, r1]) rfl ⟨rfl, HY.out.bel⟩
set_option maxRecDepth 100000 in
set_option maxHeartbeats 1000000 in
theorem span_true_4 (l p q : List UInt8) (hl : l.length ≤ 4096) (hne : l ≠ anyL) (w : World) (he : Ad.Env w) (hp : p.length ≤ 4096) (hq : q.length ≤ 4096) (hc : cut l [45] = (p, q, true)) (a b : Nat) (h1 : portN p = some a) (h2 : portN q = some b) (h3 : a ≤ b) (h4 : spanS a b ≠ l) :
    Calls Tryd.prog 28 #[.string ⟨l.toArray⟩] w fun e w' => e = .returned (spanV none) ∧ Below w.heap.size w w' := by
  have ht : (l == [97, 110, 121]) = false := by simpa [anyL] using hne
  have HZ := Lib.hid (SAt.box (.int .u16 0) (.int .u16 0) (Below.refl w.heap.size w))
  have HC := Lib.hid (cut_dash l hl (w.alloc (.cells #[.int .u16 0, .int .u16 0] 40)) (he.alloc _))
  rw [hc] at HC
  have HL := Lib.hid (fun W => port_any p W (by omega))
  rw [h1, portV_some] at HL
  have HH := Lib.hid (fun W => port_any q W (by omega))
  rw [h2, portV_some] at HH
  have b1 : a ≤ 65535 := (RulM.portN_some.1 h1).2
  have b2 : b ≤ 65535 := (RulM.portN_some.1 h2).2
  have HS := Lib.hid (fun W => isSpan_any a b W)
  rw [decide_eq_true h3] at HS
  have HW := Lib.hid (fun W (h : Below w.heap.size w W) => showSpan_any a b (by omega) (by omega) W (he.below h))
  have hq2 : (spanS a b == l) = false := by rw [beq_eq_false_iff_ne]; exact h4
  clear h4
  clear hl hne he hp hq hc h1 h2 h3
  go_enter Tryd.func28, Tryd.ntmps28
  go_wp2_with fail
  go_at_call 39
  refine HC.out.mono ?_
  rintro e w1 ⟨rfl, k, rfl⟩
  have HZ1 := Lib.hid (HZ.out.next (below_drewN _ k))
  clear HZ HC
  generalize (w.alloc (.cells #[.int .u16 0, .int .u16 0] 40)).drewN k = w1 at *
  go_wp2_with fail
  go_at_call 43
  refine (HL.out _).mono ?_
  rintro e w2 ⟨rfl, rfl⟩
  go_wp2_with fail
  go_at_call 43
  refine (HH.out _).mono ?_
  rintro e w3 ⟨rfl, rfl⟩
  have HX := Lib.hid (SAt.box (.int .u16 (a : Int)) (.int .u16 (b : Int)) HZ1.out.bel)
  have HZ2 := Lib.hid (HZ1.out.next (below_box w3 (.cells #[.int .u16 (a : Int), .int .u16 (b : Int)] 40)))
  go_wp2_with fail
  go_at_call 16
  refine (HS.out _).mono ?_
  rintro e w4 ⟨rfl, hb⟩
  have HZ3 := Lib.hid (HZ2.out.next hb)
  have HX3 := Lib.hid (HX.out.next hb)
  clear hb HZ2 HX
  have g0 := HX3.out.c0
  have g1 := HX3.out.c1
  go_wp2_with fail
  go_at_call 19
  refine (HW.out _ HZ3.out.bel).mono ?_
  rintro e w5 ⟨rfl, hb⟩
  have HZ4 := Lib.hid (HZ3.out.next hb)
  have HX4 := Lib.hid (HX3.out.next hb)
  clear hb HZ3 HX3 g0 g1
  have c0 := HZ4.out.c0
  have c1 := HZ4.out.c1
  have f0 := HZ4.out.f 0
  have f1 := HZ4.out.f 1
  go_wp2_with fail
  have HY := Lib.hid (HZ4.out.put (.int .u16 0) (.int .u16 0))
  have r0 := HY.out.c0
  have r1 := HY.out.c1
  exact bodyPost_ret (v := spanV none) (by simp [results, Tryd.results28, go_sem, spanV, r0, r1]) rfl ⟨rfl, HY.out.bel⟩
set_option maxRecDepth 100000 in
set_option maxHeartbeats 1000000 in
theorem span_true_5 (l p q : List UInt8) (hl : l.length ≤ 4096) (hne : l ≠ anyL) (w : World) (he : Ad.Env w) (hp : p.length ≤ 4096) (hq : q.length ≤ 4096) (hc : cut l [45] = (p, q, true)) (a b : Nat) (h1 : portN p = some a) (h2 : portN q = some b) (h3 : a ≤ b) (h4 : spanS a b = l) :
    Calls Tryd.prog 28 #[.string ⟨l.toArray⟩] w fun e w' => e = .returned (spanV (some (a, b))) ∧ Below w.heap.size w w' := by
  have ht : (l == [97, 110, 121]) = false := by simpa [anyL] using hne
  have HZ := Lib.hid (SAt.box (.int .u16 0) (.int .u16 0) (Below.refl w.heap.size w))
  have HC := Lib.hid (cut_dash l hl (w.alloc (.cells #[.int .u16 0, .int .u16 0] 40)) (he.alloc _))
  rw [hc] at HC
  have HL := Lib.hid (fun W => port_any p W (by omega))
  rw [h1, portV_some] at HL
  have HH := Lib.hid (fun W => port_any q W (by omega))
  rw [h2, portV_some] at HH
  have b1 : a ≤ 65535 := (RulM.portN_some.1 h1).2
  have b2 : b ≤ 65535 := (RulM.portN_some.1 h2).2
  have HS := Lib.hid (fun W => isSpan_any a b W)
  rw [decide_eq_true h3] at HS
  have HW := Lib.hid (fun W (h : Below w.heap.size w W) => showSpan_any a b (by omega) (by omega) W (he.below h))
  have hq2 : (spanS a b == l) = true := by rw [beq_iff_eq]; exact h4
  clear h4
  clear hl hne he hp hq hc h1 h2 h3
  go_enter Tryd.func28, Tryd.ntmps28
  go_wp2_with fail
  go_at_call 39
  refine HC.out.mono ?_
  rintro e w1 ⟨rfl, k, rfl⟩
  have HZ1 := Lib.hid (HZ.out.next (below_drewN _ k))
  clear HZ HC
  generalize (w.alloc (.cells #[.int .u16 0, .int .u16 0] 40)).drewN k = w1 at *
  go_wp2_with fail
  go_at_call 43
  refine (HL.out _).mono ?_
  rintro e w2 ⟨rfl, rfl⟩
  go_wp2_with fail
  go_at_call 43
  refine (HH.out _).mono ?_
  rintro e w3 ⟨rfl, rfl⟩
  have HX := Lib.hid (SAt.box (.int .u16 (a : Int)) (.int .u16 (b : Int)) HZ1.out.bel)
  have HZ2 := Lib.hid (HZ1.out.next (below_box w3 (.cells #[.int .u16 (a : Int), .int .u16 (b : Int)] 40)))
  go_wp2_with fail
  go_at_call 16
  refine (HS.out _).mono ?_
  rintro e w4 ⟨rfl, hb⟩
  have HZ3 := Lib.hid (HZ2.out.next hb)
  have HX3 := Lib.hid (HX.out.next hb)
  clear hb HZ2 HX
  have g0 := HX3.out.c0
  have g1 := HX3.out.c1
  go_wp2_with fail
  go_at_call 19
  refine (HW.out _ HZ3.out.bel).mono ?_
  rintro e w5 ⟨rfl, hb⟩
  have HZ4 := Lib.hid (HZ3.out.next hb)
  have HX4 := Lib.hid (HX3.out.next hb)
  clear hb HZ3 HX3 g0 g1
  have g0 := HX4.out.c0
  have g1 := HX4.out.c1
  have c0 := HZ4.out.c0
  have c1 := HZ4.out.c1
  have f0 := HZ4.out.f 0
  have f1 := HZ4.out.f 1
  go_wp2_with fail
  have HY := Lib.hid (HZ4.out.put (.int .u16 (a : Int)) (.int .u16 (b : Int)))
  have r0 := HY.out.c0
  have r1 := HY.out.c1
  exact bodyPost_ret (v := spanV (some (a, b))) (by simp [results, Tryd.results28, go_sem, spanV, r0, r1]) rfl ⟨rfl, HY.out.bel⟩
set_option maxRecDepth 100000 in
set_option maxHeartbeats 1000000 in
theorem span_false_1 (l p q : List UInt8) (hl : l.length ≤ 4096) (hne : l ≠ anyL) (w : World) (he : Ad.Env w) (hp : p.length ≤ 4096) (hq : q.length ≤ 4096) (hc : cut l [45] = (p, q, false)) (h1 : portN p = none) :
    Calls Tryd.prog 28 #[.string ⟨l.toArray⟩] w fun e w' => e = .returned (spanV none) ∧ Below w.heap.size w w' := by
  have ht : (l == [97, 110, 121]) = false := by simpa [anyL] using hne
  have HZ := Lib.hid (SAt.box (.int .u16 0) (.int .u16 0) (Below.refl w.heap.size w))
  have HC := Lib.hid (cut_dash l hl (w.alloc (.cells #[.int .u16 0, .int .u16 0] 40)) (he.alloc _))
  rw [hc] at HC
  have HL := Lib.hid (fun W => port_any p W (by omega))
  rw [h1, portV_none] at HL
  have HH := Lib.hid (fun W => port_any p W (by omega))
  rw [h1, portV_none] at HH
  clear hl hne he hp hq hc h1
  go_enter Tryd.func28, Tryd.ntmps28
  go_wp2_with fail
  go_at_call 39
  refine HC.out.mono ?_
  rintro e w1 ⟨rfl, k, rfl⟩
  have HZ1 := Lib.hid (HZ.out.next (below_drewN _ k))
  clear HZ HC
  generalize (w.alloc (.cells #[.int .u16 0, .int .u16 0] 40)).drewN k = w1 at *
  go_wp2_with fail
  go_at_call 43
  refine (HL.out _).mono ?_
  rintro e w2 ⟨rfl, rfl⟩
  go_wp2_with fail
  go_at_call 43
  refine (HH.out _).mono ?_
  rintro e w3 ⟨rfl, rfl⟩
  have HZ2 := Lib.hid (HZ1.out.next (below_box w3 (.cells #[.int .u16 0, .int .u16 0] 40)))
  have c0 := HZ2.out.c0
  have c1 := HZ2.out.c1
  have f0 := HZ2.out.f 0
  have f1 := HZ2.out.f 1
  go_wp2_with fail
  have HY := Lib.hid (HZ2.out.put (.int .u16 0) (.int .u16 0))
  have r0 := HY.out.c0
  have r1 := HY.out.c1
  exact bodyPost_ret (v := spanV none) (by simp [results, Tryd.results28, go_sem, spanV, r0, r1]) rfl ⟨rfl, HY.out.bel⟩
set_option maxRecDepth 100000 in
set_option maxHeartbeats 1000000 in
theorem span_false_2 (l p q : List UInt8) (hl : l.length ≤ 4096) (hne : l ≠ anyL) (w : World) (he : Ad.Env w) (hp : p.length ≤ 4096) (hq : q.length ≤ 4096) (hc : cut l [45] = (p, q, false)) (a : Nat) (h1 : portN p = some a) (h2 : portN p = none) :
    Calls Tryd.prog 28 #[.string ⟨l.toArray⟩] w fun e w' => e = .returned (spanV none) ∧ Below w.heap.size w w' := by
  have ht : (l == [97, 110, 121]) = false := by simpa [anyL] using hne
  have HZ := Lib.hid (SAt.box (.int .u16 0) (.int .u16 0) (Below.refl w.heap.size w))
  have HC := Lib.hid (cut_dash l hl (w.alloc (.cells #[.int .u16 0, .int .u16 0] 40)) (he.alloc _))
  rw [hc] at HC
  have HL := Lib.hid (fun W => port_any p W (by omega))
  rw [h1, portV_some] at HL
  have HH := Lib.hid (fun W => port_any p W (by omega))
  rw [h2, portV_none] at HH
  clear hl hne he hp hq hc h1 h2
  go_enter Tryd.func28, Tryd.ntmps28
  go_wp2_with fail
  go_at_call 39
  refine HC.out.mono ?_
  rintro e w1 ⟨rfl, k, rfl⟩
  have HZ1 := Lib.hid (HZ.out.next (below_drewN _ k))
  clear HZ HC
  generalize (w.alloc (.cells #[.int .u16 0, .int .u16 0] 40)).drewN k = w1 at *
  go_wp2_with fail
  go_at_call 43
  refine (HL.out _).mono ?_
  rintro e w2 ⟨rfl, rfl⟩
  go_wp2_with fail
  go_at_call 43
  refine (HH.out _).mono ?_
  rintro e w3 ⟨rfl, rfl⟩
  have HZ2 := Lib.hid (HZ1.out.next (below_box w3 (.cells #[.int .u16 (a : Int), .int .u16 0] 40)))
  have c0 := HZ2.out.c0
  have c1 := HZ2.out.c1
  have f0 := HZ2.out.f 0
  have f1 := HZ2.out.f 1
  go_wp2_with fail
  have HY := Lib.hid (HZ2.out.put (.int .u16 0) (.int .u16 0))
  have r0 := HY.out.c0
  have r1 := HY.out.c1
  exact bodyPost_ret (v := spanV none) (by simp [results, Tryd.results28, go_sem, spanV, r0, r1]) rfl ⟨rfl, HY.out.bel⟩
set_option maxRecDepth 100000 in
set_option maxHeartbeats 1000000 in
theorem span_false_3 (l p q : List UInt8) (hl : l.length ≤ 4096) (hne : l ≠ anyL) (w : World) (he : Ad.Env w) (hp : p.length ≤ 4096) (hq : q.length ≤ 4096) (hc : cut l [45] = (p, q, false)) (a b : Nat) (h1 : portN p = some a) (h2 : portN p = some b) (h3 : ¬ a ≤ b) :
    Calls Tryd.prog 28 #[.string ⟨l.toArray⟩] w fun e w' => e = .returned (spanV none) ∧ Below w.heap.size w w' := by
  have ht : (l == [97, 110, 121]) = false := by simpa [anyL] using hne
  have HZ := Lib.hid (SAt.box (.int .u16 0) (.int .u16 0) (Below.refl w.heap.size w))
  have HC := Lib.hid (cut_dash l hl (w.alloc (.cells #[.int .u16 0, .int .u16 0] 40)) (he.alloc _))
  rw [hc] at HC
  have HL := Lib.hid (fun W => port_any p W (by omega))
  rw [h1, portV_some] at HL
  have HH := Lib.hid (fun W => port_any p W (by omega))
  rw [h2, portV_some] at HH
  have b1 : a ≤ 65535 := (RulM.portN_some.1 h1).2
  have b2 : b ≤ 65535 := (RulM.portN_some.1 h2).2
  have HS := Lib.hid (fun W => isSpan_any a b W)
  rw [decide_eq_false h3] at HS
  clear hl hne he hp hq hc h1 h2 h3
  go_enter Tryd.func28, Tryd.ntmps28
  go_wp2_with fail
  go_at_call 39
  refine HC.out.mono ?_
  rintro e w1 ⟨rfl, k, rfl⟩
  have HZ1 := Lib.hid (HZ.out.next (below_drewN _ k))
  clear HZ HC
  generalize (w.alloc (.cells #[.int .u16 0, .int .u16 0] 40)).drewN k = w1 at *
  go_wp2_with fail
  go_at_call 43
  refine (HL.out _).mono ?_
  rintro e w2 ⟨rfl, rfl⟩
  go_wp2_with fail
  go_at_call 43
  refine (HH.out _).mono ?_
  rintro e w3 ⟨rfl, rfl⟩
  have HX := Lib.hid (SAt.box (.int .u16 (a : Int)) (.int .u16 (b : Int)) HZ1.out.bel)
  have HZ2 := Lib.hid (HZ1.out.next (below_box w3 (.cells #[.int .u16 (a : Int), .int .u16 (b : Int)] 40)))
  go_wp2_with fail
  go_at_call 16
  refine (HS.out _).mono ?_
  rintro e w4 ⟨rfl, hb⟩
  have HZ3 := Lib.hid (HZ2.out.next hb)
  have HX3 := Lib.hid (HX.out.next hb)
  clear hb HZ2 HX
  have c0 := HZ3.out.c0
  have c1 := HZ3.out.c1
  have f0 := HZ3.out.f 0
  have f1 := HZ3.out.f 1
  go_wp2_with fail
  have HY := Lib.hid (HZ3.out.put (.int .u16 0) (.int .u16 0))
  have r0 := HY.out.c0
  have r1 := HY.out.c1
  exact bodyPost_ret (v := spanV none) (by simp [results, Tryd.results28, go_sem, spanV, r0, r1]) rfl ⟨rfl, HY.out.bel⟩
set_option maxRecDepth 100000 in
set_option maxHeartbeats 1000000 in
theorem span_false_4 (l p q : List UInt8) (hl : l.length ≤ 4096) (hne : l ≠ anyL) (w : World) (he : Ad.Env w) (hp : p.length ≤ 4096) (hq : q.length ≤ 4096) (hc : cut l [45] = (p, q, false)) (a b : Nat) (h1 : portN p = some a) (h2 : portN p = some b) (h3 : a ≤ b) (h4 : spanS a b ≠ l) :
    Calls Tryd.prog 28 #[.string ⟨l.toArray⟩] w fun e w' => e = .returned (spanV none) ∧ Below w.heap.size w w' := by
  have ht : (l == [97, 110, 121]) = false := by simpa [anyL] using hne
  have HZ := Lib.hid (SAt.box (.int .u16 0) (.int .u16 0) (Below.refl w.heap.size w))
  have HC := Lib.hid (cut_dash l hl (w.alloc (.cells #[.int .u16 0, .int .u16 0] 40)) (he.alloc _))
  rw [hc] at HC
  have HL := Lib.hid (fun W => port_any p W (by omega))
  rw [h1, portV_some] at HL
  have HH := Lib.hid (fun W => port_any p W (by omega))
  rw [h2, portV_some] at HH
  have b1 : a ≤ 65535 := (RulM.portN_some.1 h1).2
  have b2 : b ≤ 65535 := (RulM.portN_some.1 h2).2
  have HS := Lib.hid (fun W => isSpan_any a b W)
  rw [decide_eq_true h3] at HS
  have HW := Lib.hid (fun W (h : Below w.heap.size w W) => showSpan_any a b (by omega) (by omega) W (he.below h))
  have hq2 : (spanS a b == l) = false := by rw [beq_eq_false_iff_ne]; exact h4
  clear h4
  clear hl hne he hp hq hc h1 h2 h3
  go_enter Tryd.func28, Tryd.ntmps28
  go_wp2_with fail
  go_at_call 39
  refine HC.out.mono ?_
  rintro e w1 ⟨rfl, k, rfl⟩
  have HZ1 := Lib.hid (HZ.out.next (below_drewN _ k))
  clear HZ HC
  generalize (w.alloc (.cells #[.int .u16 0, .int .u16 0] 40)).drewN k = w1 at *
  go_wp2_with fail
  go_at_call 43
  refine (HL.out _).mono ?_
  rintro e w2 ⟨rfl, rfl⟩
  go_wp2_with fail
  go_at_call 43
  refine (HH.out _).mono ?_
  rintro e w3 ⟨rfl, rfl⟩
  have HX := Lib.hid (SAt.box (.int .u16 (a : Int)) (.int .u16 (b : Int)) HZ1.out.bel)
  have HZ2 := Lib.hid (HZ1.out.next (below_box w3 (.cells #[.int .u16 (a : Int), .int .u16 (b : Int)] 40)))
  go_wp2_with fail
  go_at_call 16
  refine (HS.out _).mono ?_
  rintro e w4 ⟨rfl, hb⟩
  have HZ3 := Lib.hid (HZ2.out.next hb)
  have HX3 := Lib.hid (HX.out.next hb)
  clear hb HZ2 HX
  have g0 := HX3.out.c0
  have g1 := HX3.out.c1
  go_wp2_with fail
  go_at_call 19
  refine (HW.out _ HZ3.out.bel).mono ?_
  rintro e w5 ⟨rfl, hb⟩
  have HZ4 := Lib.hid (HZ3.out.next hb)
  have HX4 := Lib.hid (HX3.out.next hb)
  clear hb HZ3 HX3 g0 g1
  have c0 := HZ4.out.c0
  have c1 := HZ4.out.c1
  have f0 := HZ4.out.f 0
  have f1 := HZ4.out.f 1
  go_wp2_with fail
  have HY := Lib.hid (HZ4.out.put (.int .u16 0) (.int .u16 0))
  have r0 := HY.out.c0
  have r1 := HY.out.c1
  exact bodyPost_ret (v := spanV none) (by simp [results, Tryd.results28, go_sem, spanV, r0, r1]) rfl ⟨rfl, HY.out.bel⟩
set_option maxRecDepth 100000 in
set_option maxHeartbeats 1000000 in
theorem span_false_5 (l p q : List UInt8) (hl : l.length ≤ 4096) (hne : l ≠ anyL) (w : World) (he : Ad.Env w) (hp : p.length ≤ 4096) (hq : q.length ≤ 4096) (hc : cut l [45] = (p, q, false)) (a b : Nat) (h1 : portN p = some a) (h2 : portN p = some b) (h3 : a ≤ b) (h4 : spanS a b = l) :
    Calls Tryd.prog 28 #[.string ⟨l.toArray⟩] w fun e w' => e = .returned (spanV (some (a, b))) ∧ Below w.heap.size w w' := by
  have ht : (l == [97, 110, 121]) = false := by simpa [anyL] using hne
  have HZ := Lib.hid (SAt.box (.int .u16 0) (.int .u16 0) (Below.refl w.heap.size w))
  have HC := Lib.hid (cut_dash l hl (w.alloc (.cells #[.int .u16 0, .int .u16 0] 40)) (he.alloc _))
  rw [hc] at HC
  have HL := Lib.hid (fun W => port_any p W (by omega))
  rw [h1, portV_some] at HL
  have HH := Lib.hid (fun W => port_any p W (by omega))
  rw [h2, portV_some] at HH
  have b1 : a ≤ 65535 := (RulM.portN_some.1 h1).2
  have b2 : b ≤ 65535 := (RulM.portN_some.1 h2).2
  have HS := Lib.hid (fun W => isSpan_any a b W)
  rw [decide_eq_true h3] at HS
  have HW := Lib.hid (fun W (h : Below w.heap.size w W) => showSpan_any a b (by omega) (by omega) W (he.below h))
  have hq2 : (spanS a b == l) = true := by rw [beq_iff_eq]; exact h4
  clear h4
  clear hl hne he hp hq hc h1 h2 h3
  go_enter Tryd.func28, Tryd.ntmps28
  go_wp2_with fail
  go_at_call 39
  refine HC.out.mono ?_
  rintro e w1 ⟨rfl, k, rfl⟩
  have HZ1 := Lib.hid (HZ.out.next (below_drewN _ k))
  clear HZ HC
  generalize (w.alloc (.cells #[.int .u16 0, .int .u16 0] 40)).drewN k = w1 at *
  go_wp2_with fail
  go_at_call 43
  refine (HL.out _).mono ?_
  rintro e w2 ⟨rfl, rfl⟩
  go_wp2_with fail
  go_at_call 43
  refine (HH.out _).mono ?_
  rintro e w3 ⟨rfl, rfl⟩
  have HX := Lib.hid (SAt.box (.int .u16 (a : Int)) (.int .u16 (b : Int)) HZ1.out.bel)
  have HZ2 := Lib.hid (HZ1.out.next (below_box w3 (.cells #[.int .u16 (a : Int), .int .u16 (b : Int)] 40)))
  go_wp2_with fail
  go_at_call 16
  refine (HS.out _).mono ?_
  rintro e w4 ⟨rfl, hb⟩
  have HZ3 := Lib.hid (HZ2.out.next hb)
  have HX3 := Lib.hid (HX.out.next hb)
  clear hb HZ2 HX
  have g0 := HX3.out.c0
  have g1 := HX3.out.c1
  go_wp2_with fail
  go_at_call 19
  refine (HW.out _ HZ3.out.bel).mono ?_
  rintro e w5 ⟨rfl, hb⟩
  have HZ4 := Lib.hid (HZ3.out.next hb)
  have HX4 := Lib.hid (HX3.out.next hb)
  clear hb HZ3 HX3 g0 g1
  have g0 := HX4.out.c0
  have g1 := HX4.out.c1
  have c0 := HZ4.out.c0
  have c1 := HZ4.out.c1
  have f0 := HZ4.out.f 0
  have f1 := HZ4.out.f 1
  go_wp2_with fail
  have HY := Lib.hid (HZ4.out.put (.int .u16 (a : Int)) (.int .u16 (b : Int)))
  have r0 := HY.out.c0
  have r1 := HY.out.c1
  exact bodyPost_ret (v := spanV (some (a, b))) (by simp [results, Tryd.results28, go_sem, spanV, r0, r1]) rfl ⟨rfl, HY.out.bel⟩
theorem spanP_none {l : List UInt8} (hne : l ≠ anyL) (h : ∀ a b, portN (lowS l) = some a → portN (highS l) = some b → a ≤ b → spanS a b = l → False) : spanP l = none := by
  cases hs : spanP l with
  | none => rfl
  | some x =>
    exfalso
    obtain ⟨a, b⟩ := x
    unfold RulM.spanP at hs
    rw [if_neg hne] at hs
    split at hs
    · rename_i a' b' h1 h2
      split at hs
      · rename_i hh; exact h a' b' h1 h2 hh.1 hh.2
      · cases hs
    · cases hs
theorem spanP_yes {l : List UInt8} {a b : Nat} (h1 : portN (lowS l) = some a) (h2 : portN (highS l) = some b) (h3 : a ≤ b) (h4 : spanS a b = l) : spanP l = some (a, b) :=
  RulM.spanP_some.2 ⟨h3, (RulM.portN_some.1 h2).2, h4⟩
theorem parseSpan_any (l : List UInt8) (hl : l.length ≤ 4096) (w : World) (he : Ad.Env w) :
    Calls Tryd.prog 28 #[.string ⟨l.toArray⟩] w fun e w' => e = .returned (spanV (spanP l)) ∧ Below w.heap.size w w' := by
  by_cases hne : l = anyL
  · subst hne
    rw [RulM.spanP_any]
    exact span_parse_any w
  · obtain ⟨p, q, t, hc⟩ : ∃ p q t, cut l [45] = (p, q, t) := ⟨_, _, _, rfl⟩
    have hn := cut_len 45 l
    rw [hc] at hn
    have hlo : lowS l = p := by unfold RulM.lowS; rw [hc]
    have hhi : highS l = if t = true then q else p := by unfold RulM.highS; rw [hc]
    have hp : p.length ≤ 4096 := Nat.le_trans hn.1 hl
    have hq : q.length ≤ 4096 := Nat.le_trans hn.2 hl
    cases t with
    | true =>
      have hh : highS l = q := hhi
      cases h1 : portN p with
      | none => rw [spanP_none hne (fun a b e1 _ _ _ => by rw [hlo, h1] at e1; cases e1)]; exact span_true_1 l p q hl hne w he hp hq hc h1
      | some a =>
        cases h2 : portN q with
        | none => rw [spanP_none hne (fun a b _ e2 _ _ => by rw [hh, h2] at e2; cases e2)]; exact span_true_2 l p q hl hne w he hp hq hc a h1 h2
        | some b =>
          by_cases h3 : a ≤ b
          · by_cases h4 : spanS a b = l
            · rw [spanP_yes (by rw [hlo]; exact h1) (by rw [hh]; exact h2) h3 h4]; exact span_true_5 l p q hl hne w he hp hq hc a b h1 h2 h3 h4
            · rw [spanP_none hne (fun a' b' e1 e2 _ e4 => by rw [hlo, h1] at e1; rw [hh, h2] at e2; cases e1; cases e2; exact h4 e4)]; exact span_true_4 l p q hl hne w he hp hq hc a b h1 h2 h3 h4
          · rw [spanP_none hne (fun a' b' e1 e2 e3 _ => by rw [hlo, h1] at e1; rw [hh, h2] at e2; cases e1; cases e2; exact h3 e3)]; exact span_true_3 l p q hl hne w he hp hq hc a b h1 h2 h3
    | false =>
      have hh : highS l = p := hhi
      cases h1 : portN p with
      | none => rw [spanP_none hne (fun a b e1 _ _ _ => by rw [hlo, h1] at e1; cases e1)]; exact span_false_1 l p q hl hne w he hp hq hc h1
      | some a =>
        cases h2 : portN p with
        | none => rw [spanP_none hne (fun a b _ e2 _ _ => by rw [hh, h2] at e2; cases e2)]; exact span_false_2 l p q hl hne w he hp hq hc a h1 h2
        | some b =>
          by_cases h3 : a ≤ b
          · by_cases h4 : spanS a b = l
            · rw [spanP_yes (by rw [hlo]; exact h1) (by rw [hh]; exact h2) h3 h4]; exact span_false_5 l p q hl hne w he hp hq hc a b h1 h2 h3 h4
            · rw [spanP_none hne (fun a' b' e1 e2 _ e4 => by rw [hlo, h1] at e1; rw [hh, h2] at e2; cases e1; cases e2; exact h4 e4)]; exact span_false_4 l p q hl hne w he hp hq hc a b h1 h2 h3 h4
          · rw [spanP_none hne (fun a' b' e1 e2 e3 _ => by rw [hlo, h1] at e1; rw [hh, h2] at e2; cases e1; cases e2; exact h3 e3)]; exact span_false_3 l p q hl hne w he hp hq hc a b h1 h2 h3
end Ru
end Go.Proofs.YtfbbkbjiaopnkaaDoor
