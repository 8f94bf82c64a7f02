/- Layer 4: contracts of package ip's number, head, and of the reference's Two, Four, Put, Wide. -/
import Derived.Test.YtapcjjhbdhkhhaaDoorIpM
import Derived.Test.YtapcjjhbdhkhhaaDoorFldB
import Derived.Test.YtapcjjhbdhkhhaaDoorSumA
import Derived.Test.YtapcjjhbdhkhhaaDoorComS
import Derived.Laws.CopyOwn
import Derived.Deep.RegionLaw
import Derived.Deep.RegionHeldLaw
set_option linter.unusedVariables false
namespace Go.Proofs.YtapcjjhbdhkhhaaDoor
open Go.ChangeShapes Go.WideShapes Go.ChangeAt Go.RowKit Go.Mtl
namespace Ip
open IpM (word four hs tl word_lt four_lt errC errN body)
open Fld (numI numI_zero numI_step)

theorem ret_int {k : IntKind} {a b : Int} (h : a = b) : Ending.returned (.int k a) = .returned (.int k b) := by rw [h]

theorem num_word (bs : List UInt8) (a : Nat) (h : a + 2 ≤ bs.length) : numI bs a 2 = (word bs a : Nat) := by
  rw [numI_step _ _ 1 (by omega), numI_step _ _ 0 (by omega), numI_zero]; unfold word; simp
theorem num_four (bs : List UInt8) (a : Nat) (h : a + 4 ≤ bs.length) : numI bs a 4 = (four bs a : Nat) := by
  rw [numI_step _ _ 3 (by omega), numI_step _ _ 2 (by omega), num_word _ _ (by omega)]; unfold four word; simp [Nat.add_assoc]; omega

/-- The number of s bytes. -/
def numB (bs : List UInt8) (a s : Nat) : Nat := (numI bs a s).toNat
theorem number_any (A : Option Addr) (n c : Nat) (bs : List UInt8) (B : Nat) (a s : Nat) (v : Nat) (W : World) (hb : Bts W B A n bs) (hc : n ≤ c) (hm : c ≤ 9223372036854775807) (h1 : 1 ≤ s) (h2 : s ≤ 8) (h3 : a + s ≤ n) (hv : numI bs a s = (v : Int)) :
    Calls Tryd.prog 51 #[.slice A n c, .int .i64 (a : Int), .int .i64 (s : Int)] W fun e w' => e = .returned (.int .u64 (v : Int)) ∧ W = w' := by
  obtain ⟨b, off, rfl, hlt, hcell⟩ := hb.at_ (by omega)
  have C := Fld.num_yes b off n c bs a s hb.len hc hm h1 h2 h3 W hcell
  rw [hv] at C
  have HC := Lib.hid C
  clear C hcell hv hb
  go_enter Tryd.func51, Tryd.ntmps51
  go_wp2_with (go_at_call 52; refine HC.out.mono ?_; rintro e w' ⟨rfl, rfl⟩)
  go_ret
  exact ⟨rfl, rfl⟩

/-- The header that bytes say. -/
abbrev headV (bs : List UInt8) : Value := .agg #[.int .u8 (byt bs 9 : Int), .int .u32 (four bs 12 : Int), .int .u32 (four bs 16 : Int), .int .i64 (hs bs : Int), .int .i64 (tl bs : Int), .int .u8 (byt bs 8 : Int), .int .u16 (word bs 4 : Int)]
/-- The seven fields of a header in block g. -/
abbrev cells7 (a b c d e f h : Int) : Array Value := #[.int .u8 a, .int .u32 b, .int .u32 c, .int .i64 d, .int .i64 e, .int .u8 f, .int .u16 h]
def Hd (w : World) (g : Nat) (a b c d e f h : Int) : Prop := w.heap[g]? = some (.cells (cells7 a b c d e f h) 42 (0, 0))
section
variable {w w' : World} {g : Nat} {a b c d e f h : Int}
theorem Hd.box (w : World) (a b c d e f h : Int) : Hd (w.alloc (.cells (cells7 a b c d e f h) 42)) w.heap.size a b c d e f h := heap_alloc_new w _
theorem Hd.lt (H : Hd w g a b c d e f h) : g < w.heap.size := by
  rcases Nat.lt_or_ge g w.heap.size with hlt | hge
  · exact hlt
  · unfold Hd at H; rw [Array.getElem?_eq_none hge] at H; cases H
theorem Hd.keep (H : Hd w g a b c d e f h) (hk : w'.heap[g]? = w.heap[g]?) : Hd w' g a b c d e f h := hk.trans H
theorem Hd.below (H : Hd w g a b c d e f h) {B : Nat} (hb : Below B w w') (hg : g < B) : Hd w' g a b c d e f h := H.keep (hb.block g hg)
theorem Hd.next (H : Hd w g a b c d e f h) (hb : Below w.heap.size w w') : Hd w' g a b c d e f h := H.keep (hb.block g H.lt)
theorem Hd.drew (H : Hd w g a b c d e f h) : Hd w.drew g a b c d e f h := H
theorem Hd.cells (H : Hd w g a b c d e f h) : w.cell? ⟨g, 0, none⟩ = some (.int .u8 a) ∧ w.cell? ⟨g, 1, none⟩ = some (.int .u32 b) ∧ w.cell? ⟨g, 2, none⟩ = some (.int .u32 c) ∧ w.cell? ⟨g, 3, none⟩ = some (.int .i64 d) ∧
    w.cell? ⟨g, 4, none⟩ = some (.int .i64 e) ∧ w.cell? ⟨g, 5, none⟩ = some (.int .u8 f) ∧ w.cell? ⟨g, 6, none⟩ = some (.int .u16 h) := by
  refine ⟨?_, ?_, ?_, ?_, ?_, ?_, ?_⟩ <;> exact (cell_of_row w g _ _ _ _ H).trans rfl
theorem Hd.frozen (H : Hd w g a b c d e f h) : w.frozen? ⟨g, 0, none⟩ = false ∧ w.frozen? ⟨g, 1, none⟩ = false ∧ w.frozen? ⟨g, 2, none⟩ = false ∧ w.frozen? ⟨g, 3, none⟩ = false ∧
    w.frozen? ⟨g, 4, none⟩ = false ∧ w.frozen? ⟨g, 5, none⟩ = false ∧ w.frozen? ⟨g, 6, none⟩ = false := by
  refine ⟨?_, ?_, ?_, ?_, ?_, ?_, ?_⟩ <;> exact frozen_of_row w g _ _ _ H
/-- All seven stored anew, as the walk writes it. -/
abbrev store7 (w : World) (g : Nat) (a b c d e f h : Int) : World :=
  ((((((w.setCell ⟨g, 0, none⟩ (.int .u8 a)).setCell ⟨g, 1, none⟩ (.int .u32 b)).setCell ⟨g, 2, none⟩ (.int .u32 c)).setCell ⟨g, 3, none⟩ (.int .i64 d)).setCell ⟨g, 4, none⟩ (.int .i64 e)).setCell ⟨g, 5, none⟩ (.int .u8 f)).setCell ⟨g, 6, none⟩ (.int .u16 h)
theorem Hd.store (H : Hd w g a b c d e f h) (a' b' c' d' e' f' h' : Int) : Hd (store7 w g a' b' c' d' e' f' h') g a' b' c' d' e' f' h' := by
  have h0 := heap_setCell_same w g 0 _ _ (.int .u8 a') H
  have h1 := heap_setCell_same _ g 1 _ _ (.int .u32 b') h0
  have h2 := heap_setCell_same _ g 2 _ _ (.int .u32 c') h1
  have h3 := heap_setCell_same _ g 3 _ _ (.int .i64 d') h2
  have h4 := heap_setCell_same _ g 4 _ _ (.int .i64 e') h3
  have h5 := heap_setCell_same _ g 5 _ _ (.int .u8 f') h4
  have h6 := heap_setCell_same _ g 6 _ _ (.int .u16 h') h5
  simpa [Hd] using h6
theorem store7_block (w : World) (g k : Nat) (hk : k ≠ g) (a b c d e f h : Int) : (store7 w g a b c d e f h).heap[k]? = w.heap[k]? := by
  unfold store7
  repeat rw [Below.heap_setCell _ _ _ _ hk]
theorem store7_size (w : World) (g : Nat) (a b c d e f h : Int) : (store7 w g a b c d e f h).heap.size = w.heap.size := by
  unfold store7; simp
theorem grown_trans {w1 w2 w3 : World} {r : Option Nat} (h : w1.grownBy w2 r) (k : w2.grownBy w3 r) : w1.grownBy w3 r :=
  ⟨k.os.trans h.os, k.tape.trans h.tape, k.output.trans h.output, Nat.le_trans h.size k.size, fun i hi hr => (k.block i (Nat.lt_of_lt_of_le hi h.size) hr).trans (h.block i hi hr)⟩
theorem grown_setCell (w : World) (g i : Nat) (u : Value) : w.grownBy (w.setCell ⟨g, i, none⟩ u) (some g) :=
  ⟨rfl, rfl, rfl, by simp [World.setCell], fun k _ hk => Below.heap_setCell w ⟨g, i, none⟩ u k (fun e => hk (by rw [e]))⟩
theorem grown_store7 (w : World) (g : Nat) (a b c d e f h : Int) : w.grownBy (store7 w g a b c d e f h) (some g) :=
  grown_trans (grown_trans (grown_trans (grown_trans (grown_trans (grown_trans (grown_setCell w g 0 (.int .u8 a)) (grown_setCell _ g 1 (.int .u32 b))) (grown_setCell _ g 2 (.int .u32 c))) (grown_setCell _ g 3 (.int .i64 d))) (grown_setCell _ g 4 (.int .i64 e))) (grown_setCell _ g 5 (.int .u8 f))) (grown_setCell _ g 6 (.int .u16 h))
theorem below_store7 {B : Nat} {w0 w : World} {g : Nat} (hb : Below B w0 w) (hg : B ≤ g) (a b c d e f h : Int) : Below B w0 (store7 w g a b c d e f h) :=
  ((((((hb.setCell (p := ⟨g, 0, none⟩) hg _).setCell (p := ⟨g, 1, none⟩) hg _).setCell (p := ⟨g, 2, none⟩) hg _).setCell (p := ⟨g, 3, none⟩) hg _).setCell (p := ⟨g, 4, none⟩) hg _).setCell (p := ⟨g, 5, none⟩) hg _).setCell (p := ⟨g, 6, none⟩) hg _
end

theorem head_any (A : Option Addr) (n c : Nat) (bs : List UInt8) (B : Nat) (W : World) (hb : Bts W B A n bs) (hB : B ≤ W.heap.size) (hc : n ≤ c) (hm : c ≤ 9223372036854775807) (h20 : 20 ≤ n) :
    Calls Tryd.prog 35 #[.slice A n c] W fun e w' => e = .returned (headV bs) ∧ Below W.heap.size W w' := by
  obtain ⟨b, off, rfl, hlt, -⟩ := hb.at_ (by omega)
  have hl := hb.len
  have N1 := Lib.hid (fun W hb => number_any (some ⟨b, off, none⟩) n c bs B 12 4 _ W hb hc hm (by omega) (by omega) (by omega) (num_four bs 12 (by omega)))
  have N2 := Lib.hid (fun W hb => number_any (some ⟨b, off, none⟩) n c bs B 16 4 _ W hb hc hm (by omega) (by omega) (by omega) (num_four bs 16 (by omega)))
  have N3 := Lib.hid (fun W hb => number_any (some ⟨b, off, none⟩) n c bs B 2 2 _ W hb hc hm (by omega) (by omega) (by omega) (num_word bs 2 (by omega)))
  have N4 := Lib.hid (fun W hb => number_any (some ⟨b, off, none⟩) n c bs B 4 2 _ W hb hc hm (by omega) (by omega) (by omega) (num_word bs 4 (by omega)))
  have HN := Lib.hid hl
  have HB0 := Lib.hid hb
  have i0 : 0 < n := by omega
  have i8 : (8 : Int) < n := by omega
  have i9 : (9 : Int) < n := by omega
  clear hb hl
  go_enter Tryd.func35, Tryd.ntmps35
  go_wp2
  have HB := Lib.hid ((HB0.out.alloc hB (.cells (cells7 0 0 0 0 0 0 0) 42)).drew)
  have HZ := Lib.hid (Hd.box W 0 0 0 0 0 0 0).drew
  have bel := ((Below.refl _ W).alloc (Nat.le_refl _) (.cells (cells7 0 0 0 0 0 0 0) 42)).drew
  obtain ⟨w1, hw1⟩ : ∃ w1, w1 = (W.alloc (.cells (cells7 0 0 0 0 0 0 0) 42)).drew := ⟨_, rfl⟩
  refine region_still_tail 25 (by kernel_rfl) (by kernel_rfl) w1 hw1 ?_
  rw [← hw1] at HB HZ bel
  clear hw1
  simp only [List.take_succ_cons, List.take_zero, List.drop_succ_cons, List.drop_zero]
  obtain ⟨b', off', e', -, hcell⟩ := HB.out.at_ (by omega)
  obtain ⟨rfl, rfl⟩ : b = b' ∧ off = off' := by injection e' with e'; injection e' with e1 e2; exact ⟨e1, e2⟩
  have c9 := hcell 9 (by omega)
  have c0 := hcell 0 (by omega)
  rw [Nat.add_zero] at c0
  have c8 := hcell 8 (by omega)
  have n1 := Lib.hid (still_of (N1.out w1 HB.out))
  have n2 := Lib.hid (still_of (N2.out w1 HB.out))
  have n3 := Lib.hid (still_of (N3.out w1 HB.out))
  have n4 := Lib.hid (still_of (N4.out w1 HB.out))
  have hf := four_lt bs 12
  have hf2 := four_lt bs 16
  have hw2 := word_lt bs 2
  have hw4 := word_lt bs 4
  obtain ⟨z0, z1, z2, z3, z4, z5, z6⟩ := HZ.out.cells
  obtain ⟨f0, f1, f2, f3, f4, f5, f6⟩ := HZ.out.frozen
  have hnb := HN.out
  have w1e : IntKind.u32.wrap (four bs 12 : Int) = (four bs 12 : Int) := by simp [IntKind.wrap, IntKind.bits, IntKind.signed]; omega
  have w2e : IntKind.u32.wrap (four bs 16 : Int) = (four bs 16 : Int) := by simp [IntKind.wrap, IntKind.bits, IntKind.signed]; omega
  have w3e : IntKind.i64.wrap (word bs 2 : Int) = (tl bs : Int) := IntWalk.i64_in _ (by omega)
  have w4e : IntKind.u16.wrap (word bs 4 : Int) = (word bs 4 : Int) := by simp [IntKind.wrap, IntKind.bits, IntKind.signed]; omega
  have w0e : bits .and .u8 (byt bs 0 : Int) 15 = (byt bs 0 : Int) % 16 := by have := byt_lt bs 0; exact u8_and15 (x := (byt bs 0 : Int)) (by omega) (by omega)
  have w5e : IntKind.i64.wrap ((byt bs 0 : Int) % 16) = (byt bs 0 : Int) % 16 := IntWalk.i64_in _ (by omega)
  have w6e : IntKind.i64.wrap ((byt bs 0 : Int) % 16 * 4) = (hs bs : Int) := by rw [IntWalk.i64_in _ (by omega)]; unfold hs; omega
  clear e' hcell N1 N2 N3 N4 hnb
  repeat still_step
  still_call (n1.out)
  repeat still_step
  still_call (n2.out)
  repeat still_step
  still_call (n3.out)
  repeat still_step
  still_call (n4.out)
  repeat still_step
  refine wpStill_nil ?_
  go_wp2
  have hr := HZ.out.store (byt bs 9) (four bs 12) (four bs 16) (hs bs) (tl bs) (byt bs 8) (word bs 4)
  obtain ⟨r0, r1, r2, r3, r4, r5, r6⟩ := hr.cells
  exact bodyPost_ret (v := headV bs) (by simp [results, Tryd.results35, go_sem, headV, r0, r1, r2, r3, r4, r5, r6]) rfl ⟨rfl, below_store7 bel (Nat.le_refl _) _ _ _ _ _ _ _⟩

theorem u8_info : (Tryd.prog.info? 5).map (fun i => (i.zero, i.size, i.bytes)) = some (some (.int .u8 0), 1, 1) := by kernel_rfl
/-- A slice of the call's own, n bytes long, that reads as bs. -/
def MadeO (w : World) (n : Nat) (bs : List UInt8) (e : Ending) (w' : World) : Prop :=
  ∃ A c, e = .returned (.slice A n c) ∧ w'.ownsRow w.heap.size 5 1 (.slice A n c) n (bvs bs) ∧ Below w.heap.size w w' ∧ (n ≤ c ∧ c ≤ 9223372036854775807)
theorem own_bts {w : World} {base n c : Nat} {A : Option Addr} {bs : List UInt8} (h : w.ownsRow base 5 1 (.slice A n c) n (bvs bs)) : Bts w w.heap.size A n bs := bts_of_own h rfl
theorem own_lit (w : World) (cs : List UInt8) (n : Nat) (hn : cs.length = n) (hm : n ≤ 1000000) (vs : Array Value) (hv : vs = (bvs cs).toArray) :
    (w.alloc (.cells vs 5)).ownsRow w.heap.size 5 1 (.slice (some ⟨w.heap.size, 0, none⟩) n n) n (bvs cs) := by
  subst hv
  simpa using World.ownsRow_lit (e := 5) (size := 1) (base := w.heap.size) w (bvs cs).toArray n (Nat.le_refl _) (by unfold maxLen; omega) (by simp [bvs_len, hn])
theorem byte_val (x : Nat) : ((UInt8.ofNat x).toNat : Int) = (x : Int) % 256 := by simp

theorem refPut_any (n : Nat) (hn : n < 65536) (W : World) :
    Calls Tryd.prog 31 #[.int .i64 (n : Int)] W (MadeO W 2 (IpM.twoB n)) := by
  have HF : Hid (∀ vs, vs = (bvs (IpM.twoB n)).toArray → MadeO W 2 (IpM.twoB n) (.returned (.slice (some ⟨W.heap.size, 0, none⟩) 2 2)) (W.alloc (.cells vs 5))) := fun vs hv =>
    ⟨_, _, rfl, own_lit W _ 2 rfl (by omega) vs hv, (Below.refl _ _).alloc (Nat.le_refl _) _, by omega⟩
  go_enter Tryd.func31, Tryd.ntmps31
  go_wp2_with fail
  go_ret
  refine HF.out _ ?_
  simp [bvs, IpM.twoB]

theorem wide_any (n : Nat) (hn : n < 4294967296) (W : World) :
    Calls Tryd.prog 34 #[.int .u32 (n : Int)] W (MadeO W 4 (IpM.fourB n)) := by
  obtain ⟨i0, hi0, hz0, hz1, hz2⟩ := info_parts u8_info
  have P1 := Lib.hid (fun W => refPut_any (n / 65536) (by omega) W)
  have P2 := Lib.hid (fun W => refPut_any (n % 65536) (by omega) W)
  go_enter Tryd.func34, Tryd.ntmps34
  go_wp2_with fail
  go_at_call 31
  refine (P1.out _).mono ?_
  rintro e w1 ⟨A1, c1, rfl, ho1, hb1, hc1⟩
  have H1 := Lib.hid ho1
  clear ho1
  go_wp2_with fail
  go_at_call 31
  refine (P2.out _).mono ?_
  rintro e w2 ⟨A2, c2, rfl, ho2, hb2, hc2⟩
  have hs1 := hb1.size
  have hs2 := hb2.size
  have H2 := Lib.hid ho2
  have H3 := Lib.hid (own_below H1.out hb2)
  clear ho2 H1
  go_wp2_with (at_builtin; refine wpList_append_bts rfl (.tmp 6) (.tmp 10) _ rfl W.heap.size 5 i0 Tryd.underlying26 hi0 hz0 hz1 hz2 _ 2 _ rfl H3.out _ A2 2 c2 _ rfl (own_bts H2.out) (by omega) (by omega) ?_; intro A3 c3 w3 ho3 hg3 hc3; have H4 := Lib.hid ho3; clear ho3)
  go_ret
  have hb3 : Below W.heap.size W w3 := (hb1.trans (hb2.mono hs1)).grown hg3 (by omega) (fun k h => (H3.out.lt k h).1)
  exact ⟨_, _, rfl, H4.out, hb3, hc3⟩

/-- A block that holds just these bytes. -/
def Row (w : World) (g : Nat) (bs : List UInt8) : Prop := w.heap[g]? = some (.cells (bvs bs).toArray 5 (0, 0))
theorem Row.lt {w : World} {g : Nat} {bs : List UInt8} (h : Row w g bs) : g < w.heap.size := by
  rcases Nat.lt_or_ge g w.heap.size with hlt | hge
  · exact hlt
  · unfold Row at h; rw [Array.getElem?_eq_none hge] at h; cases h
theorem Row.bts {w : World} {g : Nat} {bs : List UInt8} (h : Row w g bs) : Bts w w.heap.size (some ⟨g, 0, none⟩) bs.length bs := bts_row w g _ _ bs h rfl
/-- Nothing but block g has turned, and new blocks may have come. -/
def But (g : Nat) (w w' : World) : Prop := w.grownBy w' (some g)

set_option maxHeartbeats 2000000 in
theorem put_any (g N : Nat) (l : List UInt8) (a s : Nat) (v : Nat) (W : World) (hg : Row W g l) (hl : l.length = N) (hN : N ≤ 1000000) (h1 : 1 ≤ s) (h2 : s ≤ 8) (h3 : a + s ≤ N) (hv : v < 18446744073709551616) :
    Calls Tryd.prog 29 #[.slice (some ⟨g, 0, none⟩) N N, .int .i64 (a : Int), .int .i64 (s : Int), .int .u64 (v : Int)] W fun e w' => e = .returned (.tuple #[]) ∧ Row w' g (over l a (FldM.cutN v s)) ∧ But g W w' := by
  have C := Lib.hid (fun W => Fld.cut_yes (v : Int) s (by omega) (by omega) h1 h2 W)
  have hlt := hg.lt
  have i1 : (a : Int) ≤ N := by omega
  have i2 : ¬ N = a := by omega
  have HG := Lib.hid hg
  have HL := Lib.hid hl
  clear hg hl
  go_enter Tryd.func29, Tryd.ntmps29
  go_wp2_with fail
  go_region_held_law (fun _ => True) (first | trivial) (first
    | (go_at_call 48; refine (C.out _).mono ?_; rintro e w2 ⟨A, n, c, rfl, hb, hc, hbel⟩)
    | (refine step_copy_bts rfl (.tmp 10) (.tmp 13) _ _ rfl 5 Tryd.underlying26 (by kernel_rfl) _ A g a _ _ n c w2.heap.size rfl rfl l _ 5 ((hbel.block g hlt).trans HG.out) hb (by have h1 := hb.len; rw [FldM.cutN_len] at h1; omega) (by have h1 := hb.len; have h2 := HL.out; rw [FldM.cutN_len] at h1; omega) (fun _ => rfl) ?_
       intro w3 hg3 hgr3))
  all_goals
    go_end0
    have hs := hbel.size
    refine ⟨rfl, hg3, hgr3.os.trans hbel.os, hgr3.tape.trans hbel.tape, hgr3.output.trans hbel.output, Nat.le_trans hs hgr3.size, fun k hk hne => (hgr3.block k (Nat.lt_of_lt_of_le hk hs) hne).trans (hbel.block k hk)⟩

end Ip
end Go.Proofs.YtapcjjhbdhkhhaaDoor