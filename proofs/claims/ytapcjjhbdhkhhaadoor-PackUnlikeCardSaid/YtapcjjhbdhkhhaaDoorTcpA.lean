/- Layer 5: the table of flags (Env), and the contracts of tcp.Sane and of the reference's. -/
import Derived.Test.YtapcjjhbdhkhhaaDoorTcpM
import Derived.Test.YtapcjjhbdhkhhaaDoorIpA
import Derived.FnData
set_option linter.unusedVariables false
namespace Go.Proofs.YtapcjjhbdhkhhaaDoor
open Go.ChangeShapes Go.WideShapes Go.ChangeAt Go.RowKit Go.Mtl
namespace Tc
open TcpM (saneB)
open Ip (ret_int)

theorem gCon : Tryd.prog.globalNamed "mantlet/tcp.consistent" = some 0 := by kernel_rfl

/-- What the table of flags holds. -/
structure Env (w : World) : Prop where
  c0 : w.cell? ⟨0, 0, none⟩ = some (.int .u8 7)
  c1 : w.cell? ⟨0, 1, none⟩ = some (.int .u8 2)
  c2 : w.cell? ⟨0, 2, none⟩ = some (.int .u8 7)
  c3 : w.cell? ⟨0, 3, none⟩ = some (.int .u8 4)
  c4 : w.cell? ⟨0, 4, none⟩ = some (.int .u8 22)
  c5 : w.cell? ⟨0, 5, none⟩ = some (.int .u8 16)
theorem Env.lt {w : World} (h : Env w) : 0 < w.heap.size := World.block_lt_of_cell? _ _ h.c0
theorem Env.below {w w' : World} (h : Env w) {B : Nat} (hb : Below B w w') (hB : w.heap.size ≤ B) : Env w' := by
  have hlt := h.lt
  have k : ∀ i, w'.cell? ⟨0, i, none⟩ = w.cell? ⟨0, i, none⟩ := fun i => hb.cell (Nat.lt_of_lt_of_le hlt hB)
  exact ⟨(k 0).trans h.c0, (k 1).trans h.c1, (k 2).trans h.c2, (k 3).trans h.c3, (k 4).trans h.c4, (k 5).trans h.c5⟩
theorem Env.alloc {w : World} (h : Env w) (o : Obj) : Env (w.alloc o) := h.below ((Below.refl _ _).alloc (Nat.le_refl _) o) (Nat.le_refl _)

theorem and_u8 (x y : Nat) (hx : x < 256) (hy : y < 256) : bits .and .u8 (x : Int) (y : Int) = ((x &&& y : Nat) : Int) := by
  have h : ∀ a : Fin 256, ∀ b : Fin 256, bits .and .u8 (a.val : Int) (b.val : Int) = ((a.val &&& b.val : Nat) : Int) := by
    intro a b
    show IntKind.u8.wrap ((BitVec.ofInt 8 (a.val : Int) &&& BitVec.ofInt 8 (b.val : Int)).toNat : Int) = _
    rw [BitVec.ofInt_natCast, BitVec.ofInt_natCast, BitVec.toNat_and, BitVec.toNat_ofNat, BitVec.toNat_ofNat, Nat.mod_eq_of_lt (by omega), Nat.mod_eq_of_lt (by omega)]
    have : a.val &&& b.val ≤ a.val := Nat.and_le_left
    simp [IntKind.wrap, IntKind.bits, IntKind.signed]
    omega
  exact h ⟨x, hx⟩ ⟨y, hy⟩

theorem pat_size : (Tryd.prog.info? 67).map (·.size) = some 2 := by kernel_rfl
theorem idx_con (v0 v1 v2 v3 v4 v5 x y : Value) (k : Int) (hk : 0 ≤ k ∧ k < 3) (h : (([v0, v1, v2, v3, v4, v5].drop (k.toNat * 2)).take 2) = [x, y]) (w : World) :
    (Instr.index 68 (.agg #[v0, v1, v2, v3, v4, v5]) (.int .i64 k)).run Tryd.prog w = .ok (.agg #[x, y]) w := by
  have hu := Tryd.underlying68
  obtain ⟨i, hi, hs⟩ := Option.map_eq_some_iff.1 pat_size
  simp [Instr.index, run_underlying hu, asIntOf, hk, go_sem, sizeOf, typeInfo, hs, part, hi, h]
/-- Before round k of Sane: none of the patterns so far fits. -/
def SaneAt (a c : Nat) (k : Nat) : Prop := (0 < k → a ≠ 2) ∧ (1 < k → a ≠ 4) ∧ (2 < k → c ≠ 16)
set_option maxHeartbeats 1000000 in
theorem sane_any (f : Nat) (hf : f < 256) (b : Bool) (hb : saneB f = b) (W : World) (he : Env W) :
    Calls Tryd.prog 19 #[.int .u8 (f : Int)] W fun e w' => e = .returned (.bool b) ∧ Below W.heap.size W w' := by
  obtain ⟨c0, c1, c2, c3, c4, c5⟩ := he
  rw [TcpM.sane_bits f hf] at hb
  have a7 := and_u8 f 7 hf (by omega)
  have a22 := and_u8 f 22 hf (by omega)
  generalize f &&& 7 = a at a7 hb
  generalize f &&& 22 = c at a22 hb
  have a7' : bits .and .u8 (f : Int) 7 = (a : Int) := a7
  have a22' : bits .and .u8 (f : Int) 22 = (c : Int) := a22
  have HB := Lib.hid hb
  clear a7 a22 hb
  go_enter Tryd.func19, Tryd.ntmps19
  go_wp2_with fail
  go_loopw [6] (fun i w' => ∃ k : Nat, k ≤ 3 ∧ i = .int .i64 (k : Int) ∧ SaneAt a c k ∧ Below W.heap.size W w') (fun i _ => 3 - (intOf i).toNat)
  case atStart => exact ⟨0, by omega, rfl, ⟨fun h => by omega, fun h => by omega, fun h => by omega⟩, Below.refl _ _⟩
  case round =>
    obtain ⟨k, hk, rfl, hs, hbel⟩ := hrel
    have hq : k = 0 ∨ k = 1 ∨ k = 2 ∨ k = 3 := by omega
    rcases hq with rfl | rfl | rfl | rfl
    · have X := idx_con (.int .u8 7) (.int .u8 2) (.int .u8 7) (.int .u8 4) (.int .u8 22) (.int .u8 16) _ _ 0 (by omega) rfl
      by_cases h : a = 2
      · have d : ((a : Int) == 2) = true := by simp; omega
        have HF : Hid (b = true) := by show _ = _; rw [← HB.out, h]; simp
        clear h
        go_wp2_with fail
        go_ret
        exact ⟨by rw [HF.out]; rfl, (hbel.alloc hbel.size _)⟩
      · have d : ((a : Int) == 2) = false := by simp; omega
        have HH := Lib.hid h
        clear h
        go_wp2_with fail
        go_roundw
        case rel => exact ⟨1, by omega, by go_num, ⟨fun _ => HH.out, fun h => by omega, fun h => by omega⟩, hbel.alloc hbel.size _⟩
        case measure => simp [intOf]
    · have X := idx_con (.int .u8 7) (.int .u8 2) (.int .u8 7) (.int .u8 4) (.int .u8 22) (.int .u8 16) _ _ 1 (by omega) rfl
      by_cases h : a = 4
      · have d : ((a : Int) == 4) = true := by simp; omega
        have HF : Hid (b = true) := by show _ = _; rw [← HB.out, h]; simp
        clear h
        go_wp2_with fail
        go_ret
        exact ⟨by rw [HF.out]; rfl, (hbel.alloc hbel.size _)⟩
      · have d : ((a : Int) == 4) = false := by simp; omega
        have HH := Lib.hid h
        clear h
        go_wp2_with fail
        go_roundw
        case rel => exact ⟨2, by omega, by go_num, ⟨fun _ => hs.1 (by omega), fun _ => HH.out, fun h => by omega⟩, hbel.alloc hbel.size _⟩
        case measure => simp [intOf]
    · have X := idx_con (.int .u8 7) (.int .u8 2) (.int .u8 7) (.int .u8 4) (.int .u8 22) (.int .u8 16) _ _ 2 (by omega) rfl
      by_cases h : c = 16
      · have d : ((c : Int) == 16) = true := by simp; omega
        have HF : Hid (b = true) := by show _ = _; rw [← HB.out, h]; simp
        clear h
        go_wp2_with fail
        go_ret
        exact ⟨by rw [HF.out]; rfl, (hbel.alloc hbel.size _)⟩
      · have d : ((c : Int) == 16) = false := by simp; omega
        have HH := Lib.hid h
        clear h
        go_wp2_with fail
        go_roundw
        case rel => exact ⟨3, by omega, by go_num, ⟨fun _ => hs.1 (by omega), fun _ => hs.2.1 (by omega), fun _ => HH.out⟩, hbel.alloc hbel.size _⟩
        case measure => simp [intOf]
    · have HF : Hid (b = false) := by
        show _ = _
        have h1 := hs.1 (by omega)
        have h2 := hs.2.1 (by omega)
        have h3 := hs.2.2 (by omega)
        rw [← HB.out]; simp [h1, h2, h3]
      go_wp2_with fail
      go_ret
      exact ⟨by rw [HF.out]; rfl, hbel⟩
end Tc
end Go.Proofs.YtapcjjhbdhkhhaaDoor
