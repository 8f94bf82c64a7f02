/- Layer 12: what the walks of parse stand on. (Written by wip/tools/mkRulG.py.) -/
import Derived.Test.YtfbbkbjiaopnkaaGreatDoorRulF
import Derived.Test.YtfbbkbjiaopnkaaGreatDoorRulD
set_option linter.unusedVariables false
set_option linter.unusedSimpArgs false
namespace Go.Proofs.YtfbbkbjiaopnkaaGreatDoor
open Go.ChangeShapes Go.WideShapes Go.ChangeAt Go.RowKit Go.Mtl Go.Shelf Go.Lib
namespace Ru
open RulM (R wordS known protoP spanS spanP parseW acceptL dropL)
open AdrM (anyL netS)

/-- A rule's ten cells in a block of the call's own, and what was there before. -/
structure TenAt (w : World) (g : Nat) (cs : Array Value) (W : World) : Prop where
  blk : Blk W g cs 38
  bel : Below w.heap.size w W
  le : w.heap.size ≤ g
theorem TenAt.box (w : World) (cs : Array Value) : TenAt w w.heap.size cs (w.alloc (.cells cs 38)) := ⟨Blk.box _ _ _, below_box _ _, Nat.le_refl _⟩
theorem TenAt.next {w W W' : World} {g : Nat} {cs : Array Value} (h : TenAt w g cs W) (hb : Below W.heap.size W W') : TenAt w g cs W' := ⟨h.blk.next hb, below_then h.bel hb, h.le⟩
theorem TenAt.put {w W : World} {g : Nat} {a0 a1 a2 a3 a4 a5 a6 a7 a8 a9 : Value} (h : TenAt w g #[a0, a1, a2, a3, a4, a5, a6, a7, a8, a9] W) (v0 v1 v2 v3 v4 v5 v6 v7 v8 v9 : Value) :
    TenAt w g #[v0, v1, v2, v3, v4, v5, v6, v7, v8, v9] ((((((((((W.setCell ⟨g, 0, none⟩ v0).setCell ⟨g, 1, none⟩ v1).setCell ⟨g, 2, none⟩ v2).setCell ⟨g, 3, none⟩ v3).setCell ⟨g, 4, none⟩ v4).setCell ⟨g, 5, none⟩ v5).setCell ⟨g, 6, none⟩ v6).setCell ⟨g, 7, none⟩ v7).setCell ⟨g, 8, none⟩ v8).setCell ⟨g, 9, none⟩ v9) := by
  have h0 : Blk (W.setCell ⟨g, 0, none⟩ v0) g #[v0, a1, a2, a3, a4, a5, a6, a7, a8, a9] 38 := h.blk.set' 0 v0 rfl
  have h1 : Blk ((W.setCell ⟨g, 0, none⟩ v0).setCell ⟨g, 1, none⟩ v1) g #[v0, v1, a2, a3, a4, a5, a6, a7, a8, a9] 38 := h0.set' 1 v1 rfl
  have h2 : Blk (((W.setCell ⟨g, 0, none⟩ v0).setCell ⟨g, 1, none⟩ v1).setCell ⟨g, 2, none⟩ v2) g #[v0, v1, v2, a3, a4, a5, a6, a7, a8, a9] 38 := h1.set' 2 v2 rfl
  have h3 : Blk ((((W.setCell ⟨g, 0, none⟩ v0).setCell ⟨g, 1, none⟩ v1).setCell ⟨g, 2, none⟩ v2).setCell ⟨g, 3, none⟩ v3) g #[v0, v1, v2, v3, a4, a5, a6, a7, a8, a9] 38 := h2.set' 3 v3 rfl
  have h4 : Blk (((((W.setCell ⟨g, 0, none⟩ v0).setCell ⟨g, 1, none⟩ v1).setCell ⟨g, 2, none⟩ v2).setCell ⟨g, 3, none⟩ v3).setCell ⟨g, 4, none⟩ v4) g #[v0, v1, v2, v3, v4, a5, a6, a7, a8, a9] 38 := h3.set' 4 v4 rfl
  have h5 : Blk ((((((W.setCell ⟨g, 0, none⟩ v0).setCell ⟨g, 1, none⟩ v1).setCell ⟨g, 2, none⟩ v2).setCell ⟨g, 3, none⟩ v3).setCell ⟨g, 4, none⟩ v4).setCell ⟨g, 5, none⟩ v5) g #[v0, v1, v2, v3, v4, v5, a6, a7, a8, a9] 38 := h4.set' 5 v5 rfl
  have h6 : Blk (((((((W.setCell ⟨g, 0, none⟩ v0).setCell ⟨g, 1, none⟩ v1).setCell ⟨g, 2, none⟩ v2).setCell ⟨g, 3, none⟩ v3).setCell ⟨g, 4, none⟩ v4).setCell ⟨g, 5, none⟩ v5).setCell ⟨g, 6, none⟩ v6) g #[v0, v1, v2, v3, v4, v5, v6, a7, a8, a9] 38 := h5.set' 6 v6 rfl
  have h7 : Blk ((((((((W.setCell ⟨g, 0, none⟩ v0).setCell ⟨g, 1, none⟩ v1).setCell ⟨g, 2, none⟩ v2).setCell ⟨g, 3, none⟩ v3).setCell ⟨g, 4, none⟩ v4).setCell ⟨g, 5, none⟩ v5).setCell ⟨g, 6, none⟩ v6).setCell ⟨g, 7, none⟩ v7) g #[v0, v1, v2, v3, v4, v5, v6, v7, a8, a9] 38 := h6.set' 7 v7 rfl
  have h8 : Blk (((((((((W.setCell ⟨g, 0, none⟩ v0).setCell ⟨g, 1, none⟩ v1).setCell ⟨g, 2, none⟩ v2).setCell ⟨g, 3, none⟩ v3).setCell ⟨g, 4, none⟩ v4).setCell ⟨g, 5, none⟩ v5).setCell ⟨g, 6, none⟩ v6).setCell ⟨g, 7, none⟩ v7).setCell ⟨g, 8, none⟩ v8) g #[v0, v1, v2, v3, v4, v5, v6, v7, v8, a9] 38 := h7.set' 8 v8 rfl
  have h9 : Blk ((((((((((W.setCell ⟨g, 0, none⟩ v0).setCell ⟨g, 1, none⟩ v1).setCell ⟨g, 2, none⟩ v2).setCell ⟨g, 3, none⟩ v3).setCell ⟨g, 4, none⟩ v4).setCell ⟨g, 5, none⟩ v5).setCell ⟨g, 6, none⟩ v6).setCell ⟨g, 7, none⟩ v7).setCell ⟨g, 8, none⟩ v8).setCell ⟨g, 9, none⟩ v9) g #[v0, v1, v2, v3, v4, v5, v6, v7, v8, v9] 38 := h8.set' 9 v9 rfl
  exact ⟨h9, ((((((((((h.bel.setCell (p := ⟨g, 0, none⟩) h.le v0).setCell (p := ⟨g, 1, none⟩) h.le v1).setCell (p := ⟨g, 2, none⟩) h.le v2).setCell (p := ⟨g, 3, none⟩) h.le v3).setCell (p := ⟨g, 4, none⟩) h.le v4).setCell (p := ⟨g, 5, none⟩) h.le v5).setCell (p := ⟨g, 6, none⟩) h.le v6).setCell (p := ⟨g, 7, none⟩) h.le v7).setCell (p := ⟨g, 8, none⟩) h.le v8).setCell (p := ⟨g, 9, none⟩) h.le v9), h.le⟩
abbrev zR : Array Value := #[.bool false, .int .u8 0, .int .u32 0, .int .i64 0, .int .u32 0, .int .i64 0, .int .u16 0, .int .u16 0, .int .u16 0, .int .u16 0]
/-- What parse answers. -/
def ruleV (o : Option R) : Value := match o with
  | some r => .tuple #[.agg (cR r), .bool true]
  | none => .tuple #[.agg zR, .bool false]
/-- Six words in a block. -/
structure Wds (g : Nat) (v p s sp d dp : List UInt8) (W : World) : Prop where
  lt : g < W.heap.size
  c0 : W.cell? ⟨g, 0, none⟩ = some (.string ⟨v.toArray⟩)
  c1 : W.cell? ⟨g, 1, none⟩ = some (.string ⟨p.toArray⟩)
  c2 : W.cell? ⟨g, 2, none⟩ = some (.string ⟨s.toArray⟩)
  c3 : W.cell? ⟨g, 3, none⟩ = some (.string ⟨sp.toArray⟩)
  c4 : W.cell? ⟨g, 4, none⟩ = some (.string ⟨d.toArray⟩)
  c5 : W.cell? ⟨g, 5, none⟩ = some (.string ⟨dp.toArray⟩)
theorem Wds.next {g : Nat} {v p s sp d dp : List UInt8} {W W' : World} (h : Wds g v p s sp d dp W) (hb : Below W.heap.size W W') : Wds g v p s sp d dp W' :=
  ⟨Nat.lt_of_lt_of_le h.lt hb.size, (hb.cell h.lt).trans h.c0, (hb.cell h.lt).trans h.c1, (hb.cell h.lt).trans h.c2, (hb.cell h.lt).trans h.c3, (hb.cell h.lt).trans h.c4, (hb.cell h.lt).trans h.c5⟩
/-- Both. -/
structure PX (w : World) (g : Nat) (v p s sp d dp : List UInt8) (W : World) : Prop where
  ten : TenAt w w.heap.size zR W
  wds : Wds g v p s sp d dp W
theorem PX.next {w W W' : World} {g : Nat} {v p s sp d dp : List UInt8} (h : PX w g v p s sp d dp W) (hb : Below W.heap.size W W') : PX w g v p s sp d dp W' := ⟨h.ten.next hb, h.wds.next hb⟩
theorem spanV_form (o : Option (Nat × Nat)) : ∃ (x y : Int) (b : Bool), spanV o = .tuple #[.agg #[.int .u16 x, .int .u16 y], .bool b] := by
  cases o with
  | none => exact ⟨_, _, _, rfl⟩
  | some n => exact ⟨_, _, _, rfl⟩
theorem netV_form (o : Option (Nat × Nat)) : ∃ (a n e : Int), Ad.netVal o = .tuple #[.agg #[.int .u32 a, .int .i64 n], .int .i64 e] := by
  cases o with
  | none => exact ⟨_, _, _, rfl⟩
  | some n => exact ⟨_, _, _, rfl⟩
theorem netV_none : Ad.netVal none = .tuple #[.agg #[.int .u32 0, .int .i64 0], .int .i64 3] := rfl
theorem netV_some (a n : Nat) : Ad.netVal (some (a, n)) = .tuple #[.agg #[.int .u32 (a : Int), .int .i64 (n : Int)], .int .i64 0] := rfl
theorem spanV_none : spanV none = .tuple #[.agg #[.int .u16 0, .int .u16 0], .bool false] := rfl
theorem spanV_some (a b : Nat) : spanV (some (a, b)) = .tuple #[.agg #[.int .u16 (a : Int), .int .u16 (b : Int)], .bool true] := rfl
theorem net_list (l : List UInt8) (hl : l.length ≤ 4096) (w : World) (he : Ad.Env w) :
    Calls Tryz.prog 33 #[.string ⟨l.toArray⟩] w fun e w' => e = .returned (Ad.netVal (netS l)) ∧ Below w.heap.size w w' := by
  have h := Ad.net_any ⟨l.toArray⟩ (by simp [ByteArray.size]; omega) w he
  have e0 : (⟨l.toArray⟩ : ByteArray).data.toList = l := by simp
  rw [e0] at h
  exact h
theorem look_list (l : List UInt8) (W : World) (b : Nat) (hb : W.heap[b]? = some (.map pm 4)) :
    (Instr.lookup 79 (.map (some b)) (.string ⟨l.toArray⟩) true).run Tryz.prog W = .ok (.tuple #[.int .u8 (protoN l : Int), .bool (protoB l)]) W := by
  have h := look_any ⟨l.toArray⟩ W b hb
  have e0 : (⟨l.toArray⟩ : ByteArray).data.toList = l := by simp
  rw [e0] at h
  exact h
end Ru
end Go.Proofs.YtfbbkbjiaopnkaaGreatDoor
