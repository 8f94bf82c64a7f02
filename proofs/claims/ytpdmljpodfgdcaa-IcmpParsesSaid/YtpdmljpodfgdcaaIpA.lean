/- Layer 4: contracts of package ip's number, head, and of the reference's Two, Four, Put, Wide. -/
import Derived.Test.YtpdmljpodfgdcaaIpM
import Derived.Test.YtpdmljpodfgdcaaFldB
import Derived.Test.YtpdmljpodfgdcaaSumA
import Derived.Test.YtpdmljpodfgdcaaComS
import Derived.Laws.CopyOwn
import Derived.Deep.RegionLaw
import Derived.Deep.RegionHeldLaw
set_option linter.unusedVariables false
namespace Go.Proofs.Ytpdmljpodfgdcaa
open Go.ChangeShapes Go.WideShapes Go.ChangeAt Go.RowKit Go.Mtl
namespace Ip
open IpM (word four hs tl word_lt four_lt errC errN body)
open Fld (numI numI_zero numI_step)

theorem ret_int {k : IntKind} {a b : Int} (h : a = b) : Ending.returned (.int k a) = .returned (.int k b) := by rw [h]

theorem num_word (bs : List UInt8) (a : Nat) (h : a + 2 ≤ bs.length) : numI bs a 2 = (word bs a : Nat) := by
  rw [numI_step _ _ 1 (by omega), numI_step _ _ 0 (by omega), numI_zero]; unfold word; simp
theorem num_four (bs : List UInt8) (a : Nat) (h : a + 4 ≤ bs.length) : numI bs a 4 = (four bs a : Nat) := by
  rw [numI_step _ _ 3 (by omega), numI_step _ _ 2 (by omega), num_word _ _ (by omega)]; unfold four word; simp [Nat.add_assoc]; omega

/-- The number of s bytes. -/
def numB (bs : List UInt8) (a s : Nat) : Nat := (numI bs a s).toNat
/-- The header that bytes say. -/
abbrev headV (bs : List UInt8) : Value := .agg #[.int .u8 (byt bs 9 : Int), .int .u32 (four bs 12 : Int), .int .u32 (four bs 16 : Int), .int .i64 (hs bs : Int), .int .i64 (tl bs : Int), .int .u8 (byt bs 8 : Int), .int .u16 (word bs 4 : Int)]
/-- The seven fields of a header in block g. -/
abbrev cells7 (a b c d e f h : Int) : Array Value := #[.int .u8 a, .int .u32 b, .int .u32 c, .int .i64 d, .int .i64 e, .int .u8 f, .int .u16 h]
section
variable {w w' : World} {g : Nat} {a b c d e f h : Int}
/-- All seven stored anew, as the walk writes it. -/
abbrev store7 (w : World) (g : Nat) (a b c d e f h : Int) : World :=
  ((((((w.setCell ⟨g, 0, none⟩ (.int .u8 a)).setCell ⟨g, 1, none⟩ (.int .u32 b)).setCell ⟨g, 2, none⟩ (.int .u32 c)).setCell ⟨g, 3, none⟩ (.int .i64 d)).setCell ⟨g, 4, none⟩ (.int .i64 e)).setCell ⟨g, 5, none⟩ (.int .u8 f)).setCell ⟨g, 6, none⟩ (.int .u16 h)
theorem store7_block (w : World) (g k : Nat) (hk : k ≠ g) (a b c d e f h : Int) : (store7 w g a b c d e f h).heap[k]? = w.heap[k]? := by
  unfold store7
  repeat rw [Below.heap_setCell _ _ _ _ hk]
theorem store7_size (w : World) (g : Nat) (a b c d e f h : Int) : (store7 w g a b c d e f h).heap.size = w.heap.size := by
  unfold store7; simp
theorem grown_trans {w1 w2 w3 : World} {r : Option Nat} (h : w1.grownBy w2 r) (k : w2.grownBy w3 r) : w1.grownBy w3 r :=
  ⟨k.os.trans h.os, k.tape.trans h.tape, k.output.trans h.output, Nat.le_trans h.size k.size, fun i hi hr => (k.block i (Nat.lt_of_lt_of_le hi h.size) hr).trans (h.block i hi hr)⟩
theorem grown_setCell (w : World) (g i : Nat) (u : Value) : w.grownBy (w.setCell ⟨g, i, none⟩ u) (some g) :=
  ⟨rfl, rfl, rfl, by simp [World.setCell], fun k _ hk => Below.heap_setCell w ⟨g, i, none⟩ u k (fun e => hk (by rw [e]))⟩
theorem grown_store7 (w : World) (g : Nat) (a b c d e f h : Int) : w.grownBy (store7 w g a b c d e f h) (some g) :=
  grown_trans (grown_trans (grown_trans (grown_trans (grown_trans (grown_trans (grown_setCell w g 0 (.int .u8 a)) (grown_setCell _ g 1 (.int .u32 b))) (grown_setCell _ g 2 (.int .u32 c))) (grown_setCell _ g 3 (.int .i64 d))) (grown_setCell _ g 4 (.int .i64 e))) (grown_setCell _ g 5 (.int .u8 f))) (grown_setCell _ g 6 (.int .u16 h))
theorem below_store7 {B : Nat} {w0 w : World} {g : Nat} (hb : Below B w0 w) (hg : B ≤ g) (a b c d e f h : Int) : Below B w0 (store7 w g a b c d e f h) :=
  ((((((hb.setCell (p := ⟨g, 0, none⟩) hg _).setCell (p := ⟨g, 1, none⟩) hg _).setCell (p := ⟨g, 2, none⟩) hg _).setCell (p := ⟨g, 3, none⟩) hg _).setCell (p := ⟨g, 4, none⟩) hg _).setCell (p := ⟨g, 5, none⟩) hg _).setCell (p := ⟨g, 6, none⟩) hg _
end

theorem two_any (A : Option Addr) (n c : Nat) (bs : List UInt8) (B : Nat) (a : Nat) (W : World) (hb : Bts W B A n bs) (hc : n ≤ c) (hm : c ≤ 9223372036854775807) (h2 : a + 2 ≤ n) :
    Calls Try.prog 14 #[.slice A n c, .int .i64 (a : Int)] W fun e w' => e = .returned (.int .i64 (word bs a : Int)) ∧ ∃ k, w' = W.drewN k := by
  obtain ⟨b, off, rfl, hlt, hcell⟩ := hb.at_ (by omega)
  have c0 := hcell a (by omega)
  have c1 := hcell (a + 1) (by omega)
  have y0 := byt_lt bs a
  have y1 := byt_lt bs (a + 1)
  have HF : Hid ((256 * (byt bs a : Int) + (byt bs (a + 1) : Int)) = (word bs a : Int)) := by show _ = _; unfold word; omega
  have i0 : (a : Int) < n := by omega
  have i1 : (a : Int) + 1 < n := by omega
  have i2 : a < n := by omega
  clear hb hcell
  go_enter Try.func14, Try.ntmps14
  go_wp2
  go_quiet (fail)
  go_wp2
  go_ret
  exact ⟨ret_int (by rw [← HF.out]), _, rfl⟩

theorem u8_info : (Try.prog.info? 5).map (fun i => (i.zero, i.size, i.bytes)) = some (some (.int .u8 0), 1, 1) := by kernel_rfl
/-- A slice of the call's own, n bytes long, that reads as bs. -/
def MadeO (w : World) (n : Nat) (bs : List UInt8) (e : Ending) (w' : World) : Prop :=
  ∃ A c, e = .returned (.slice A n c) ∧ w'.ownsRow w.heap.size 5 1 (.slice A n c) n (bvs bs) ∧ Below w.heap.size w w' ∧ (n ≤ c ∧ c ≤ 9223372036854775807)
theorem own_bts {w : World} {base n c : Nat} {A : Option Addr} {bs : List UInt8} (h : w.ownsRow base 5 1 (.slice A n c) n (bvs bs)) : Bts w w.heap.size A n bs := bts_of_own h rfl
theorem own_lit (w : World) (cs : List UInt8) (n : Nat) (hn : cs.length = n) (hm : n ≤ 1000000) (vs : Array Value) (hv : vs = (bvs cs).toArray) :
    (w.alloc (.cells vs 5)).ownsRow w.heap.size 5 1 (.slice (some ⟨w.heap.size, 0, none⟩) n n) n (bvs cs) := by
  subst hv
  simpa using World.ownsRow_lit (e := 5) (size := 1) (base := w.heap.size) w (bvs cs).toArray n (Nat.le_refl _) (by unfold maxLen; omega) (by simp [bvs_len, hn])
theorem byte_val (x : Nat) : ((UInt8.ofNat x).toNat : Int) = (x : Int) % 256 := by simp

theorem refPut_any (n : Nat) (hn : n < 65536) (W : World) :
    Calls Try.prog 18 #[.int .i64 (n : Int)] W (MadeO W 2 (IpM.twoB n)) := by
  have HF : Hid (∀ vs, vs = (bvs (IpM.twoB n)).toArray → MadeO W 2 (IpM.twoB n) (.returned (.slice (some ⟨W.heap.size, 0, none⟩) 2 2)) (W.alloc (.cells vs 5))) := fun vs hv =>
    ⟨_, _, rfl, own_lit W _ 2 rfl (by omega) vs hv, (Below.refl _ _).alloc (Nat.le_refl _) _, by omega⟩
  go_enter Try.func18, Try.ntmps18
  go_wp2_with fail
  go_ret
  refine HF.out _ ?_
  simp [bvs, IpM.twoB]

/-- A block that holds just these bytes. -/
def Row (w : World) (g : Nat) (bs : List UInt8) : Prop := w.heap[g]? = some (.cells (bvs bs).toArray 5 (0, 0))
theorem Row.lt {w : World} {g : Nat} {bs : List UInt8} (h : Row w g bs) : g < w.heap.size := by
  rcases Nat.lt_or_ge g w.heap.size with hlt | hge
  · exact hlt
  · unfold Row at h; rw [Array.getElem?_eq_none hge] at h; cases h
theorem Row.bts {w : World} {g : Nat} {bs : List UInt8} (h : Row w g bs) : Bts w w.heap.size (some ⟨g, 0, none⟩) bs.length bs := bts_row w g _ _ bs h rfl
/-- Nothing but block g has turned, and new blocks may have come. -/
def But (g : Nat) (w w' : World) : Prop := w.grownBy w' (some g)

end Ip
end Go.Proofs.Ytpdmljpodfgdcaa