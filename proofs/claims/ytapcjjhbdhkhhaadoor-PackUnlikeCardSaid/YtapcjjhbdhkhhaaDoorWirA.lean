/- Layer 8: a packet's block (Pk), and the contract of wire.Parse. -/
import Derived.Test.YtapcjjhbdhkhhaaDoorWirM
import Derived.Test.YtapcjjhbdhkhhaaDoorIpP
import Derived.Test.YtapcjjhbdhkhhaaDoorTcpC
import Derived.Test.YtapcjjhbdhkhhaaDoorUdpB
import Derived.Test.YtapcjjhbdhkhhaaDoorIcmpA
set_option linter.unusedVariables false
set_option linter.unusedSimpArgs false
namespace Go.Proofs.YtapcjjhbdhkhhaaDoor
open Go.ChangeShapes Go.WideShapes Go.ChangeAt Go.RowKit Go.Mtl
namespace Wi
open IpM (word four hs tl tl_lt word_lt four_lt errC errN body)
open TcpM (errT)
open UdpM (errU)
open IcM (errI)
open WirM (errW spN dpN flN kdN)
open Ip (Hd)

/-- The seven fields of a packet in block g. -/
abbrev pkt (a b c d e f h : Int) : Array Value := #[.int .u8 a, .int .u32 b, .int .u32 c, .int .u16 d, .int .u16 e, .int .u8 f, .int .u8 h]
def Pk (w : World) (g : Nat) (a b c d e f h : Int) : Prop := w.heap[g]? = some (.cells (pkt a b c d e f h) 25 (0, 0))
section
variable {w w' : World} {g : Nat} {a b c d e f h : Int}
theorem Pk.box (w : World) (a b c d e f h : Int) : Pk (w.alloc (.cells (pkt a b c d e f h) 25)) w.heap.size a b c d e f h := heap_alloc_new w _
theorem Pk.lt (H : Pk w g a b c d e f h) : g < w.heap.size := by
  rcases Nat.lt_or_ge g w.heap.size with hlt | hge
  · exact hlt
  · unfold Pk at H; rw [Array.getElem?_eq_none hge] at H; cases H
theorem Pk.keep (H : Pk w g a b c d e f h) (hk : w'.heap[g]? = w.heap[g]?) : Pk w' g a b c d e f h := hk.trans H
theorem Pk.next (H : Pk w g a b c d e f h) (hb : Below w.heap.size w w') : Pk w' g a b c d e f h := H.keep (hb.block g H.lt)
theorem Pk.drewN (H : Pk w g a b c d e f h) (k : Nat) : Pk (w.drewN k) g a b c d e f h := H
theorem Pk.other (H : Pk w g a b c d e f h) (k i : Nat) (hk : g ≠ k) (v : Value) : Pk (w.setCell ⟨k, i, none⟩ v) g a b c d e f h := H.keep (Below.heap_setCell _ _ _ _ hk)
theorem Pk.cells (H : Pk w g a b c d e f h) : w.cell? ⟨g, 0, none⟩ = some (.int .u8 a) ∧ w.cell? ⟨g, 1, none⟩ = some (.int .u32 b) ∧ w.cell? ⟨g, 2, none⟩ = some (.int .u32 c) ∧ w.cell? ⟨g, 3, none⟩ = some (.int .u16 d) ∧
    w.cell? ⟨g, 4, none⟩ = some (.int .u16 e) ∧ w.cell? ⟨g, 5, none⟩ = some (.int .u8 f) ∧ w.cell? ⟨g, 6, none⟩ = some (.int .u8 h) := by
  refine ⟨?_, ?_, ?_, ?_, ?_, ?_, ?_⟩ <;> exact (cell_of_row w g _ _ _ _ H).trans rfl
theorem Pk.frozen (H : Pk w g a b c d e f h) : w.frozen? ⟨g, 0, none⟩ = false ∧ w.frozen? ⟨g, 1, none⟩ = false ∧ w.frozen? ⟨g, 2, none⟩ = false ∧ w.frozen? ⟨g, 3, none⟩ = false ∧
    w.frozen? ⟨g, 4, none⟩ = false ∧ w.frozen? ⟨g, 5, none⟩ = false ∧ w.frozen? ⟨g, 6, none⟩ = false := by
  refine ⟨?_, ?_, ?_, ?_, ?_, ?_, ?_⟩ <;> exact frozen_of_row w g _ _ _ H
/-- All seven stored anew, as the walk writes it. -/
abbrev storeP (w : World) (g : Nat) (a b c d e f h : Int) : World :=
  ((((((w.setCell ⟨g, 0, none⟩ (.int .u8 a)).setCell ⟨g, 1, none⟩ (.int .u32 b)).setCell ⟨g, 2, none⟩ (.int .u32 c)).setCell ⟨g, 3, none⟩ (.int .u16 d)).setCell ⟨g, 4, none⟩ (.int .u16 e)).setCell ⟨g, 5, none⟩ (.int .u8 f)).setCell ⟨g, 6, none⟩ (.int .u8 h)
theorem Pk.store (H : Pk w g a b c d e f h) (a' b' c' d' e' f' h' : Int) : Pk (storeP w g a' b' c' d' e' f' h') g a' b' c' d' e' f' h' := by
  have h0 := heap_setCell_same w g 0 _ _ (.int .u8 a') H
  have h1 := heap_setCell_same _ g 1 _ _ (.int .u32 b') h0
  have h2 := heap_setCell_same _ g 2 _ _ (.int .u32 c') h1
  have h3 := heap_setCell_same _ g 3 _ _ (.int .u16 d') h2
  have h4 := heap_setCell_same _ g 4 _ _ (.int .u16 e') h3
  have h5 := heap_setCell_same _ g 5 _ _ (.int .u8 f') h4
  have h6 := heap_setCell_same _ g 6 _ _ (.int .u8 h') h5
  simpa [Pk] using h6
theorem Pk.set3 (H : Pk w g a b c d e f h) (x : Int) : Pk (w.setCell ⟨g, 3, none⟩ (.int .u16 x)) g a b c x e f h := by simpa [Pk] using heap_setCell_same w g 3 _ _ (.int .u16 x) H
theorem Pk.set4 (H : Pk w g a b c d e f h) (x : Int) : Pk (w.setCell ⟨g, 4, none⟩ (.int .u16 x)) g a b c d x f h := by simpa [Pk] using heap_setCell_same w g 4 _ _ (.int .u16 x) H
theorem Pk.set5 (H : Pk w g a b c d e f h) (x : Int) : Pk (w.setCell ⟨g, 5, none⟩ (.int .u8 x)) g a b c d e x h := by simpa [Pk] using heap_setCell_same w g 5 _ _ (.int .u8 x) H
theorem Pk.set6 (H : Pk w g a b c d e f h) (x : Int) : Pk (w.setCell ⟨g, 6, none⟩ (.int .u8 x)) g a b c d e f x := by simpa [Pk] using heap_setCell_same w g 6 _ _ (.int .u8 x) H
theorem storeP_block (w : World) (g k : Nat) (hk : k ≠ g) (a b c d e f h : Int) : (storeP w g a b c d e f h).heap[k]? = w.heap[k]? := by
  unfold storeP
  repeat rw [Below.heap_setCell _ _ _ _ hk]
theorem below_storeP {B : Nat} {w0 w : World} {g : Nat} (hb : Below B w0 w) (hg : B ≤ g) (a b c d e f h : Int) : Below B w0 (storeP w g a b c d e f h) :=
  ((((((hb.setCell (p := ⟨g, 0, none⟩) hg _).setCell (p := ⟨g, 1, none⟩) hg _).setCell (p := ⟨g, 2, none⟩) hg _).setCell (p := ⟨g, 3, none⟩) hg _).setCell (p := ⟨g, 4, none⟩) hg _).setCell (p := ⟨g, 5, none⟩) hg _).setCell (p := ⟨g, 6, none⟩) hg _
end

/-- What Parse answers. -/
abbrev zeroV : Value := .agg (pkt 0 0 0 0 0 0 0)
abbrev badV (e : Nat) : Value := .tuple #[zeroV, .int .i64 (e : Int)]
abbrev packV (bs : List UInt8) : Value := .agg (pkt (byt bs 9 : Int) (four bs 12 : Int) (four bs 16 : Int) (spN bs : Int) (dpN bs : Int) (flN bs : Int) (kdN bs : Int))
abbrev okV (bs : List UInt8) : Value := .tuple #[packV bs, .int .i64 0]
def wV (bs : List UInt8) : Value := if errW bs = 0 then okV bs else badV (errW bs)
theorem wV_ok {bs : List UInt8} (h : errW bs = 0) : wV bs = okV bs := by unfold wV; rw [if_pos h]
theorem wV_bad {bs : List UInt8} (h : errW bs ≠ 0) : wV bs = badV (errW bs) := by unfold wV; rw [if_neg h]
theorem wV_tcp {bs : List UInt8} (h : errN bs = 0) (h9 : byt bs 9 = 6) (h0 : errT (four bs 12) (four bs 16) (body bs) = 0) :
    wV bs = .tuple #[.agg (pkt 6 (four bs 12 : Int) (four bs 16 : Int) (word (body bs) 0 : Int) (word (body bs) 2 : Int) ((byt (body bs) 13 : Int) % 64) 0), .int .i64 0] := by
  rw [wV_ok ((WirM.errW_tcp h h9).trans h0)]
  unfold okV packV spN dpN flN kdN
  rw [if_neg (by omega), if_neg (by omega), if_pos h9, if_neg (by omega), h9]
  rfl
theorem wV_udp {bs : List UInt8} (h : errN bs = 0) (h9 : byt bs 9 = 17) (h0 : errU (four bs 12) (four bs 16) (body bs) = 0) :
    wV bs = .tuple #[.agg (pkt 17 (four bs 12 : Int) (four bs 16 : Int) (word (body bs) 0 : Int) (word (body bs) 2 : Int) 0 0), .int .i64 0] := by
  rw [wV_ok ((WirM.errW_udp h h9).trans h0)]
  unfold okV packV spN dpN flN kdN
  rw [if_neg (by omega), if_neg (by omega), if_neg (by omega), if_neg (by omega), h9]
  rfl
theorem wV_icmp {bs : List UInt8} (h : errN bs = 0) (h9 : byt bs 9 = 1) (h0 : errI (body bs) = 0) :
    wV bs = .tuple #[.agg (pkt 1 (four bs 12 : Int) (four bs 16 : Int) (word (body bs) 4 : Int) (word (body bs) 4 : Int) 0 (byt (body bs) 0 : Int)), .int .i64 0] := by
  rw [wV_ok ((WirM.errW_icmp h h9).trans h0)]
  unfold okV packV spN dpN flN kdN
  rw [if_pos h9, if_pos h9, if_neg (by omega), if_pos h9, h9]
  rfl
theorem wV_err {bs : List UInt8} {e : Nat} (h : errW bs = e) (h0 : e ≠ 0) : wV bs = badV e := by subst h; exact wV_bad h0
theorem ret_v {a b : Value} (h : a = b) : Ending.returned a = .returned b := by rw [h]
theorem Bts.own {w w' : World} {B n : Nat} {A : Option Addr} {bs : List UInt8} (h : Bts w w.heap.size A n bs) (hb : Below w.heap.size w w') : Bts w' w.heap.size A n bs := h.below hb


theorem parse_ipbad (A : Option Addr) (n c : Nat) (bs : List UInt8) (B : Nat) (W : World) (hb : Bts W B A n bs) (hB : B ≤ W.heap.size) (hc : n ≤ c) (hm : c ≤ 9223372036854775807) (he : errN bs ≠ 0) :
    Calls Tryd.prog 12 #[.slice A n c] W fun e w' => e = .returned (wV bs) ∧ Below W.heap.size W w' := by
  have HF := Lib.hid (wV_err (WirM.errW_ip he) he)
  have HB := Lib.hid (hb.alloc hB (.cells (pkt 0 0 0 0 0 0 0) 25))
  have HZ := Lib.hid (Pk.box W 0 0 0 0 0 0 0)
  have HBel := Lib.hid ((Below.refl _ W).alloc (Nat.le_refl _) (.cells (pkt 0 0 0 0 0 0 0) 25))
  have HP := Lib.hid (fun W' (hb : Bts W' B A n bs) hB => Ip.parse_wrong A n c bs B W' hb hB hc hm he)
  have d : ((errN bs : Int) != 0) = true := by simp; omega
  generalize errN bs = er at HF HP d
  clear hb he
  go_enter Tryd.func12, Tryd.ntmps12
  go_wp2_with fail
  go_at_call 22
  refine (HP.out _ HB.out (by simp; omega)).mono ?_
  rintro e w1 ⟨rfl, hb1⟩
  have hbx := (Below.refl _ w1).alloc (Nat.le_refl _) (.cells (Ip.cells7 0 0 0 0 0 0 0) 42)
  have HX := Lib.hid (Hd.box w1 0 0 0 0 0 0 0)
  have HZ1 := Lib.hid ((HZ.out.next hb1).next hbx)
  have hbel1 := HBel.out.trans (hb1.mono (by simp))
  have HBel1 := Lib.hid (hbel1.trans (hbx.mono hbel1.size))
  clear hb1 hbx hbel1
  obtain ⟨x0, x1, x2, x3, x4, x5, x6⟩ := HX.out.cells
  obtain ⟨g0, g1, g2, g3, g4, g5, g6⟩ := HX.out.frozen
  obtain ⟨z0, z1, z2, z3, z4, z5, z6⟩ := HZ1.out.cells
  obtain ⟨f0, f1, f2, f3, f4, f5, f6⟩ := HZ1.out.frozen
  go_wp2_with fail
  obtain ⟨r0, r1, r2, r3, r4, r5, r6⟩ := (HZ1.out.store 0 0 0 0 0 0 0).cells
  exact bodyPost_ret (v := .tuple #[.agg (pkt 0 0 0 0 0 0 0), .int .i64 (er : Int)]) (by simp [results, Tryd.results12, go_sem, r0, r1, r2, r3, r4, r5, r6]) rfl ⟨ret_v HF.out.symm, below_storeP HBel1.out (Nat.le_refl _) _ _ _ _ _ _ _⟩

set_option maxHeartbeats 2000000 in
theorem parse_tcpOk (A : Option Addr) (n c : Nat) (bs : List UInt8) (B : Nat) (W : World) (hb : Bts W B A n bs) (hB : B ≤ W.heap.size) (hc : n ≤ c) (hm : c ≤ 9223372036854775807) (he : Tc.Env W) (h0 : errN bs = 0) (h9 : byt bs 9 = 6) (h1 : errT (four bs 12) (four bs 16) (body bs) = 0) :
    Calls Tryd.prog 12 #[.slice A n c] W fun e w' => e = .returned (wV bs) ∧ Below W.heap.size W w' := by
  have HF := Lib.hid (wV_tcp h0 h9 h1)
  obtain ⟨m, hm1⟩ : ∃ m, tl bs - hs bs = m := ⟨_, rfl⟩
  have hm2 : m ≤ 1000000 := by have := tl_lt bs; omega
  have HB := Lib.hid (hb.alloc hB (.cells (pkt 0 0 0 0 0 0 0) 25))
  have HZ := Lib.hid (Pk.box W 0 0 0 0 0 0 0)
  have HBel := Lib.hid ((Below.refl _ W).alloc (Nat.le_refl _) (.cells (pkt 0 0 0 0 0 0 0) 25))
  have HE := Lib.hid (he.alloc (.cells (pkt 0 0 0 0 0 0 0) 25))
  have HP := Lib.hid (fun W' (hb : Bts W' B A n bs) hB => Ip.parse_rightN A n c bs B W' hb hB hc hm h0)
  unfold Ip.ParsedN at HP
  rw [hm1] at HP
  have hs12 := four_lt bs 12
  have hs16 := four_lt bs 16
  have P2 := Lib.hid (fun W' A1 c1 B2 (hb : Bts W' B2 A1 m (body bs)) hB hc hm he => Tc.parse_any (four bs 12) (four bs 16) A1 m c1 (body bs) B2 W' hb hB hc hm hs12 hs16 he)
  rw [h1] at P2
  simp only [Tc.pV_ok (body bs) rfl] at P2
  clear hb he h0 hm1
  go_enter Tryd.func12, Tryd.ntmps12
  go_wp2_with fail
  go_at_call 22
  refine (HP.out _ HB.out (by simp; omega)).mono ?_
  rintro e w1 ⟨A1, c1, rfl, ht1, hcc, hb1, -⟩
  have hbx := (Below.refl _ w1).alloc (Nat.le_refl _) (.cells (Ip.cells7 6 (four bs 12) (four bs 16) (hs bs) (tl bs) (byt bs 8) (word bs 4)) 42)
  have HX := Lib.hid (Hd.box w1 0 0 0 0 0 0 0)
  have HY := Lib.hid (Hd.box w1 6 (four bs 12) (four bs 16) (hs bs) (tl bs) (byt bs 8) (word bs 4))
  have HT := Lib.hid (ht1.below hbx)
  have HE1 := Lib.hid ((HE.out.below hb1 (Nat.le_refl _)).below hbx (Nat.le_refl _))
  have HZ1 := Lib.hid ((HZ.out.next hb1).next hbx)
  have hbel1 := HBel.out.trans (hb1.mono (by simp))
  have HBel1 := Lib.hid (hbel1.trans (hbx.mono hbel1.size))
  clear hb1 hbx hbel1 ht1
  obtain ⟨x0, x1, x2, x3, x4, x5, x6⟩ := HX.out.cells
  obtain ⟨g0, g1, g2, g3, g4, g5, g6⟩ := HX.out.frozen
  obtain ⟨y0, y1, y2, y3, y4, y5, y6⟩ := HY.out.cells
  go_wp2_with fail
  go_at_call 23
  have HQ := Lib.hid (Pk.box (w1.alloc (.cells (Ip.cells7 6 (four bs 12) (four bs 16) (hs bs) (tl bs) (byt bs 8) (word bs 4)) 42)) 6 (four bs 12) (four bs 16) 0 0 0 0)
  have hbq := (Below.refl _ (w1.alloc (.cells (Ip.cells7 6 (four bs 12) (four bs 16) (hs bs) (tl bs) (byt bs 8) (word bs 4)) 42))).alloc (Nat.le_refl _) (.cells (pkt 6 (four bs 12) (four bs 16) 0 0 0 0) 25)
  have HZ2 := Lib.hid (HZ1.out.next hbq)
  have HBel2 := Lib.hid (HBel1.out.trans (hbq.mono HBel1.out.size))
  have hlt := HZ1.out.lt
  rw [World.size_alloc] at HQ hlt
  have HT2 := Lib.hid (HT.out.below (hbq.mono (by simp)))
  have HE2 := Lib.hid (HE1.out.below hbq (Nat.le_refl _))
  clear HZ1 HT HE1 HBel1 hbq x0 x1 x2 x3 x4 x5 x6 g0 g1 g2 g3 g4 g5 g6 y0 y1 y2 y3 y4 y5 y6
  refine (P2.out _ _ _ _ HT2.out (by simp; omega) hcc.1 hcc.2 HE2.out).mono ?_
  rintro e w2 ⟨rfl, hb2⟩
  have HZ3 := Lib.hid (HZ2.out.next hb2)
  have HQ3 := Lib.hid (HQ.out.next hb2)
  have HBel3 := Lib.hid (HBel2.out.trans (hb2.mono HBel2.out.size))
  clear hb2 HZ2 HQ HBel2 HT2
  obtain ⟨q0, q1, q2, q3, q4, q5, q6⟩ := HQ3.out.cells
  obtain ⟨k0, k1, k2, k3, k4, k5, k6⟩ := HQ3.out.frozen
  obtain ⟨z0, z1, z2, z3, z4, z5, z6⟩ := HZ3.out.cells
  obtain ⟨f0, f1, f2, f3, f4, f5, f6⟩ := HZ3.out.frozen
  have hne : W.heap.size ≠ w1.heap.size + 1 := by omega
  have hne' : w1.heap.size + 1 ≠ W.heap.size := by omega
  have hle : W.heap.size ≤ w1.heap.size + 1 := by omega
  go_wp2_with fail
  obtain ⟨r0, r1, r2, r3, r4, r5, r6⟩ := ((((HZ3.out.other (w1.heap.size + 1) 3 hne (.int .u16 (word (body bs) 0 : Int))).other (w1.heap.size + 1) 4 hne (.int .u16 (word (body bs) 2 : Int))).other (w1.heap.size + 1) 5 hne (.int .u8 ((byt (body bs) 13 : Int) % 64))).store 6 (four bs 12) (four bs 16) (word (body bs) 0) (word (body bs) 2) ((byt (body bs) 13 : Int) % 64) 0).cells
  exact bodyPost_ret (v := .tuple #[.agg (pkt 6 (four bs 12) (four bs 16) (word (body bs) 0) (word (body bs) 2) ((byt (body bs) 13 : Int) % 64) 0), .int .i64 0]) (by simp [results, Tryd.results12, go_sem, r0, r1, r2, r3, r4, r5, r6]) rfl ⟨ret_v HF.out.symm, below_storeP (((HBel3.out.setCell (p := ⟨w1.heap.size + 1, 3, none⟩) hle (.int .u16 (word (body bs) 0 : Int))).setCell (p := ⟨w1.heap.size + 1, 4, none⟩) hle (.int .u16 (word (body bs) 2 : Int))).setCell (p := ⟨w1.heap.size + 1, 5, none⟩) hle (.int .u8 ((byt (body bs) 13 : Int) % 64))) (Nat.le_refl _) _ _ _ _ _ _ _⟩

set_option maxHeartbeats 2000000 in
theorem parse_tcpBad (A : Option Addr) (n c : Nat) (bs : List UInt8) (B : Nat) (W : World) (hb : Bts W B A n bs) (hB : B ≤ W.heap.size) (hc : n ≤ c) (hm : c ≤ 9223372036854775807) (he : Tc.Env W) (h0 : errN bs = 0) (h9 : byt bs 9 = 6) (h1 : errT (four bs 12) (four bs 16) (body bs) ≠ 0) :
    Calls Tryd.prog 12 #[.slice A n c] W fun e w' => e = .returned (wV bs) ∧ Below W.heap.size W w' := by
  have HF := Lib.hid (wV_err (WirM.errW_tcp h0 h9) h1)
  obtain ⟨m, hm1⟩ : ∃ m, tl bs - hs bs = m := ⟨_, rfl⟩
  have hm2 : m ≤ 1000000 := by have := tl_lt bs; omega
  have HB := Lib.hid (hb.alloc hB (.cells (pkt 0 0 0 0 0 0 0) 25))
  have HZ := Lib.hid (Pk.box W 0 0 0 0 0 0 0)
  have HBel := Lib.hid ((Below.refl _ W).alloc (Nat.le_refl _) (.cells (pkt 0 0 0 0 0 0 0) 25))
  have HE := Lib.hid (he.alloc (.cells (pkt 0 0 0 0 0 0 0) 25))
  have HP := Lib.hid (fun W' (hb : Bts W' B A n bs) hB => Ip.parse_rightN A n c bs B W' hb hB hc hm h0)
  unfold Ip.ParsedN at HP
  rw [hm1] at HP
  have hs12 := four_lt bs 12
  have hs16 := four_lt bs 16
  have P2 := Lib.hid (fun W' A1 c1 B2 (hb : Bts W' B2 A1 m (body bs)) hB hc hm he => Tc.parse_any (four bs 12) (four bs 16) A1 m c1 (body bs) B2 W' hb hB hc hm hs12 hs16 he)
  simp only [Tc.pV_bad (body bs) h1] at P2
  have d : ((errT (four bs 12) (four bs 16) (body bs) : Int) != 0) = true := by simp; omega
  generalize errT (four bs 12) (four bs 16) (body bs) = er at HF P2 d
  clear hb he h0 hm1
  go_enter Tryd.func12, Tryd.ntmps12
  go_wp2_with fail
  go_at_call 22
  refine (HP.out _ HB.out (by simp; omega)).mono ?_
  rintro e w1 ⟨A1, c1, rfl, ht1, hcc, hb1, -⟩
  have hbx := (Below.refl _ w1).alloc (Nat.le_refl _) (.cells (Ip.cells7 6 (four bs 12) (four bs 16) (hs bs) (tl bs) (byt bs 8) (word bs 4)) 42)
  have HX := Lib.hid (Hd.box w1 0 0 0 0 0 0 0)
  have HY := Lib.hid (Hd.box w1 6 (four bs 12) (four bs 16) (hs bs) (tl bs) (byt bs 8) (word bs 4))
  have HT := Lib.hid (ht1.below hbx)
  have HE1 := Lib.hid ((HE.out.below hb1 (Nat.le_refl _)).below hbx (Nat.le_refl _))
  have HZ1 := Lib.hid ((HZ.out.next hb1).next hbx)
  have hbel1 := HBel.out.trans (hb1.mono (by simp))
  have HBel1 := Lib.hid (hbel1.trans (hbx.mono hbel1.size))
  clear hb1 hbx hbel1 ht1
  obtain ⟨x0, x1, x2, x3, x4, x5, x6⟩ := HX.out.cells
  obtain ⟨g0, g1, g2, g3, g4, g5, g6⟩ := HX.out.frozen
  obtain ⟨y0, y1, y2, y3, y4, y5, y6⟩ := HY.out.cells
  go_wp2_with fail
  go_at_call 23
  have HQ := Lib.hid (Pk.box (w1.alloc (.cells (Ip.cells7 6 (four bs 12) (four bs 16) (hs bs) (tl bs) (byt bs 8) (word bs 4)) 42)) 6 (four bs 12) (four bs 16) 0 0 0 0)
  have hbq := (Below.refl _ (w1.alloc (.cells (Ip.cells7 6 (four bs 12) (four bs 16) (hs bs) (tl bs) (byt bs 8) (word bs 4)) 42))).alloc (Nat.le_refl _) (.cells (pkt 6 (four bs 12) (four bs 16) 0 0 0 0) 25)
  have HZ2 := Lib.hid (HZ1.out.next hbq)
  have HBel2 := Lib.hid (HBel1.out.trans (hbq.mono HBel1.out.size))
  have hlt := HZ1.out.lt
  rw [World.size_alloc] at HQ hlt
  have HT2 := Lib.hid (HT.out.below (hbq.mono (by simp)))
  have HE2 := Lib.hid (HE1.out.below hbq (Nat.le_refl _))
  clear HZ1 HT HE1 HBel1 hbq x0 x1 x2 x3 x4 x5 x6 g0 g1 g2 g3 g4 g5 g6 y0 y1 y2 y3 y4 y5 y6
  refine (P2.out _ _ _ _ HT2.out (by simp; omega) hcc.1 hcc.2 HE2.out).mono ?_
  rintro e w2 ⟨rfl, hb2⟩
  have HZ3 := Lib.hid (HZ2.out.next hb2)
  have HQ3 := Lib.hid (HQ.out.next hb2)
  have HBel3 := Lib.hid (HBel2.out.trans (hb2.mono HBel2.out.size))
  clear hb2 HZ2 HQ HBel2 HT2
  obtain ⟨q0, q1, q2, q3, q4, q5, q6⟩ := HQ3.out.cells
  obtain ⟨k0, k1, k2, k3, k4, k5, k6⟩ := HQ3.out.frozen
  obtain ⟨z0, z1, z2, z3, z4, z5, z6⟩ := HZ3.out.cells
  obtain ⟨f0, f1, f2, f3, f4, f5, f6⟩ := HZ3.out.frozen
  have hne : W.heap.size ≠ w1.heap.size + 1 := by omega
  have hne' : w1.heap.size + 1 ≠ W.heap.size := by omega
  have hle : W.heap.size ≤ w1.heap.size + 1 := by omega
  go_wp2_with fail
  obtain ⟨r0, r1, r2, r3, r4, r5, r6⟩ := ((((HZ3.out.other (w1.heap.size + 1) 3 hne (.int .u16 0)).other (w1.heap.size + 1) 4 hne (.int .u16 0)).other (w1.heap.size + 1) 5 hne (.int .u8 0)).store 0 0 0 0 0 0 0).cells
  exact bodyPost_ret (v := .tuple #[.agg (pkt 0 0 0 0 0 0 0), .int .i64 (er : Int)]) (by simp [results, Tryd.results12, go_sem, r0, r1, r2, r3, r4, r5, r6]) rfl ⟨ret_v HF.out.symm, below_storeP (((HBel3.out.setCell (p := ⟨w1.heap.size + 1, 3, none⟩) hle (.int .u16 0)).setCell (p := ⟨w1.heap.size + 1, 4, none⟩) hle (.int .u16 0)).setCell (p := ⟨w1.heap.size + 1, 5, none⟩) hle (.int .u8 0)) (Nat.le_refl _) _ _ _ _ _ _ _⟩

set_option maxHeartbeats 2000000 in
theorem parse_udpOk (A : Option Addr) (n c : Nat) (bs : List UInt8) (B : Nat) (W : World) (hb : Bts W B A n bs) (hB : B ≤ W.heap.size) (hc : n ≤ c) (hm : c ≤ 9223372036854775807) (he : Tc.Env W) (h0 : errN bs = 0) (h9 : byt bs 9 = 17) (h1 : errU (four bs 12) (four bs 16) (body bs) = 0) :
    Calls Tryd.prog 12 #[.slice A n c] W fun e w' => e = .returned (wV bs) ∧ Below W.heap.size W w' := by
  have HF := Lib.hid (wV_udp h0 h9 h1)
  obtain ⟨m, hm1⟩ : ∃ m, tl bs - hs bs = m := ⟨_, rfl⟩
  have hm2 : m ≤ 1000000 := by have := tl_lt bs; omega
  have HB := Lib.hid (hb.alloc hB (.cells (pkt 0 0 0 0 0 0 0) 25))
  have HZ := Lib.hid (Pk.box W 0 0 0 0 0 0 0)
  have HBel := Lib.hid ((Below.refl _ W).alloc (Nat.le_refl _) (.cells (pkt 0 0 0 0 0 0 0) 25))
  have HE := Lib.hid (he.alloc (.cells (pkt 0 0 0 0 0 0 0) 25))
  have HP := Lib.hid (fun W' (hb : Bts W' B A n bs) hB => Ip.parse_rightN A n c bs B W' hb hB hc hm h0)
  unfold Ip.ParsedN at HP
  rw [hm1] at HP
  have hs12 := four_lt bs 12
  have hs16 := four_lt bs 16
  have P2 := Lib.hid (fun W' A1 c1 B2 (hb : Bts W' B2 A1 m (body bs)) hB hc hm => Ud.parse_any (four bs 12) (four bs 16) A1 m c1 (body bs) B2 W' hb hB hc hm hs12 hs16)
  rw [h1] at P2
  simp only [Ud.pV_ok (body bs) rfl] at P2
  clear hb he h0 hm1
  go_enter Tryd.func12, Tryd.ntmps12
  go_wp2_with fail
  go_at_call 22
  refine (HP.out _ HB.out (by simp; omega)).mono ?_
  rintro e w1 ⟨A1, c1, rfl, ht1, hcc, hb1, -⟩
  have hbx := (Below.refl _ w1).alloc (Nat.le_refl _) (.cells (Ip.cells7 17 (four bs 12) (four bs 16) (hs bs) (tl bs) (byt bs 8) (word bs 4)) 42)
  have HX := Lib.hid (Hd.box w1 0 0 0 0 0 0 0)
  have HY := Lib.hid (Hd.box w1 17 (four bs 12) (four bs 16) (hs bs) (tl bs) (byt bs 8) (word bs 4))
  have HT := Lib.hid (ht1.below hbx)
  have HE1 := Lib.hid ((HE.out.below hb1 (Nat.le_refl _)).below hbx (Nat.le_refl _))
  have HZ1 := Lib.hid ((HZ.out.next hb1).next hbx)
  have hbel1 := HBel.out.trans (hb1.mono (by simp))
  have HBel1 := Lib.hid (hbel1.trans (hbx.mono hbel1.size))
  clear hb1 hbx hbel1 ht1
  obtain ⟨x0, x1, x2, x3, x4, x5, x6⟩ := HX.out.cells
  obtain ⟨g0, g1, g2, g3, g4, g5, g6⟩ := HX.out.frozen
  obtain ⟨y0, y1, y2, y3, y4, y5, y6⟩ := HY.out.cells
  go_wp2_with fail
  go_at_call 24
  have HQ := Lib.hid (Pk.box (w1.alloc (.cells (Ip.cells7 17 (four bs 12) (four bs 16) (hs bs) (tl bs) (byt bs 8) (word bs 4)) 42)) 17 (four bs 12) (four bs 16) 0 0 0 0)
  have hbq := (Below.refl _ (w1.alloc (.cells (Ip.cells7 17 (four bs 12) (four bs 16) (hs bs) (tl bs) (byt bs 8) (word bs 4)) 42))).alloc (Nat.le_refl _) (.cells (pkt 17 (four bs 12) (four bs 16) 0 0 0 0) 25)
  have HZ2 := Lib.hid (HZ1.out.next hbq)
  have HBel2 := Lib.hid (HBel1.out.trans (hbq.mono HBel1.out.size))
  have hlt := HZ1.out.lt
  rw [World.size_alloc] at HQ hlt
  have HT2 := Lib.hid (HT.out.below (hbq.mono (by simp)))
  have HE2 := Lib.hid (HE1.out.below hbq (Nat.le_refl _))
  clear HZ1 HT HE1 HBel1 hbq x0 x1 x2 x3 x4 x5 x6 g0 g1 g2 g3 g4 g5 g6 y0 y1 y2 y3 y4 y5 y6
  refine (P2.out _ _ _ _ HT2.out (by simp; omega) hcc.1 hcc.2).mono ?_
  rintro e w2 ⟨rfl, hb2⟩
  have HZ3 := Lib.hid (HZ2.out.next hb2)
  have HQ3 := Lib.hid (HQ.out.next hb2)
  have HBel3 := Lib.hid (HBel2.out.trans (hb2.mono HBel2.out.size))
  clear hb2 HZ2 HQ HBel2 HT2
  obtain ⟨q0, q1, q2, q3, q4, q5, q6⟩ := HQ3.out.cells
  obtain ⟨k0, k1, k2, k3, k4, k5, k6⟩ := HQ3.out.frozen
  obtain ⟨z0, z1, z2, z3, z4, z5, z6⟩ := HZ3.out.cells
  obtain ⟨f0, f1, f2, f3, f4, f5, f6⟩ := HZ3.out.frozen
  have hne : W.heap.size ≠ w1.heap.size + 1 := by omega
  have hne' : w1.heap.size + 1 ≠ W.heap.size := by omega
  have hle : W.heap.size ≤ w1.heap.size + 1 := by omega
  go_wp2_with fail
  obtain ⟨r0, r1, r2, r3, r4, r5, r6⟩ := (((HZ3.out.other (w1.heap.size + 1) 3 hne (.int .u16 (word (body bs) 0 : Int))).other (w1.heap.size + 1) 4 hne (.int .u16 (word (body bs) 2 : Int))).store 17 (four bs 12) (four bs 16) (word (body bs) 0) (word (body bs) 2) 0 0).cells
  exact bodyPost_ret (v := .tuple #[.agg (pkt 17 (four bs 12) (four bs 16) (word (body bs) 0) (word (body bs) 2) 0 0), .int .i64 0]) (by simp [results, Tryd.results12, go_sem, r0, r1, r2, r3, r4, r5, r6]) rfl ⟨ret_v HF.out.symm, below_storeP ((HBel3.out.setCell (p := ⟨w1.heap.size + 1, 3, none⟩) hle (.int .u16 (word (body bs) 0 : Int))).setCell (p := ⟨w1.heap.size + 1, 4, none⟩) hle (.int .u16 (word (body bs) 2 : Int))) (Nat.le_refl _) _ _ _ _ _ _ _⟩

set_option maxHeartbeats 2000000 in
theorem parse_udpBad (A : Option Addr) (n c : Nat) (bs : List UInt8) (B : Nat) (W : World) (hb : Bts W B A n bs) (hB : B ≤ W.heap.size) (hc : n ≤ c) (hm : c ≤ 9223372036854775807) (he : Tc.Env W) (h0 : errN bs = 0) (h9 : byt bs 9 = 17) (h1 : errU (four bs 12) (four bs 16) (body bs) ≠ 0) :
    Calls Tryd.prog 12 #[.slice A n c] W fun e w' => e = .returned (wV bs) ∧ Below W.heap.size W w' := by
  have HF := Lib.hid (wV_err (WirM.errW_udp h0 h9) h1)
  obtain ⟨m, hm1⟩ : ∃ m, tl bs - hs bs = m := ⟨_, rfl⟩
  have hm2 : m ≤ 1000000 := by have := tl_lt bs; omega
  have HB := Lib.hid (hb.alloc hB (.cells (pkt 0 0 0 0 0 0 0) 25))
  have HZ := Lib.hid (Pk.box W 0 0 0 0 0 0 0)
  have HBel := Lib.hid ((Below.refl _ W).alloc (Nat.le_refl _) (.cells (pkt 0 0 0 0 0 0 0) 25))
  have HE := Lib.hid (he.alloc (.cells (pkt 0 0 0 0 0 0 0) 25))
  have HP := Lib.hid (fun W' (hb : Bts W' B A n bs) hB => Ip.parse_rightN A n c bs B W' hb hB hc hm h0)
  unfold Ip.ParsedN at HP
  rw [hm1] at HP
  have hs12 := four_lt bs 12
  have hs16 := four_lt bs 16
  have P2 := Lib.hid (fun W' A1 c1 B2 (hb : Bts W' B2 A1 m (body bs)) hB hc hm => Ud.parse_any (four bs 12) (four bs 16) A1 m c1 (body bs) B2 W' hb hB hc hm hs12 hs16)
  simp only [Ud.pV_bad (body bs) h1] at P2
  have d : ((errU (four bs 12) (four bs 16) (body bs) : Int) != 0) = true := by simp; omega
  generalize errU (four bs 12) (four bs 16) (body bs) = er at HF P2 d
  clear hb he h0 hm1
  go_enter Tryd.func12, Tryd.ntmps12
  go_wp2_with fail
  go_at_call 22
  refine (HP.out _ HB.out (by simp; omega)).mono ?_
  rintro e w1 ⟨A1, c1, rfl, ht1, hcc, hb1, -⟩
  have hbx := (Below.refl _ w1).alloc (Nat.le_refl _) (.cells (Ip.cells7 17 (four bs 12) (four bs 16) (hs bs) (tl bs) (byt bs 8) (word bs 4)) 42)
  have HX := Lib.hid (Hd.box w1 0 0 0 0 0 0 0)
  have HY := Lib.hid (Hd.box w1 17 (four bs 12) (four bs 16) (hs bs) (tl bs) (byt bs 8) (word bs 4))
  have HT := Lib.hid (ht1.below hbx)
  have HE1 := Lib.hid ((HE.out.below hb1 (Nat.le_refl _)).below hbx (Nat.le_refl _))
  have HZ1 := Lib.hid ((HZ.out.next hb1).next hbx)
  have hbel1 := HBel.out.trans (hb1.mono (by simp))
  have HBel1 := Lib.hid (hbel1.trans (hbx.mono hbel1.size))
  clear hb1 hbx hbel1 ht1
  obtain ⟨x0, x1, x2, x3, x4, x5, x6⟩ := HX.out.cells
  obtain ⟨g0, g1, g2, g3, g4, g5, g6⟩ := HX.out.frozen
  obtain ⟨y0, y1, y2, y3, y4, y5, y6⟩ := HY.out.cells
  go_wp2_with fail
  go_at_call 24
  have HQ := Lib.hid (Pk.box (w1.alloc (.cells (Ip.cells7 17 (four bs 12) (four bs 16) (hs bs) (tl bs) (byt bs 8) (word bs 4)) 42)) 17 (four bs 12) (four bs 16) 0 0 0 0)
  have hbq := (Below.refl _ (w1.alloc (.cells (Ip.cells7 17 (four bs 12) (four bs 16) (hs bs) (tl bs) (byt bs 8) (word bs 4)) 42))).alloc (Nat.le_refl _) (.cells (pkt 17 (four bs 12) (four bs 16) 0 0 0 0) 25)
  have HZ2 := Lib.hid (HZ1.out.next hbq)
  have HBel2 := Lib.hid (HBel1.out.trans (hbq.mono HBel1.out.size))
  have hlt := HZ1.out.lt
  rw [World.size_alloc] at HQ hlt
  have HT2 := Lib.hid (HT.out.below (hbq.mono (by simp)))
  have HE2 := Lib.hid (HE1.out.below hbq (Nat.le_refl _))
  clear HZ1 HT HE1 HBel1 hbq x0 x1 x2 x3 x4 x5 x6 g0 g1 g2 g3 g4 g5 g6 y0 y1 y2 y3 y4 y5 y6
  refine (P2.out _ _ _ _ HT2.out (by simp; omega) hcc.1 hcc.2).mono ?_
  rintro e w2 ⟨rfl, hb2⟩
  have HZ3 := Lib.hid (HZ2.out.next hb2)
  have HQ3 := Lib.hid (HQ.out.next hb2)
  have HBel3 := Lib.hid (HBel2.out.trans (hb2.mono HBel2.out.size))
  clear hb2 HZ2 HQ HBel2 HT2
  obtain ⟨q0, q1, q2, q3, q4, q5, q6⟩ := HQ3.out.cells
  obtain ⟨k0, k1, k2, k3, k4, k5, k6⟩ := HQ3.out.frozen
  obtain ⟨z0, z1, z2, z3, z4, z5, z6⟩ := HZ3.out.cells
  obtain ⟨f0, f1, f2, f3, f4, f5, f6⟩ := HZ3.out.frozen
  have hne : W.heap.size ≠ w1.heap.size + 1 := by omega
  have hne' : w1.heap.size + 1 ≠ W.heap.size := by omega
  have hle : W.heap.size ≤ w1.heap.size + 1 := by omega
  go_wp2_with fail
  obtain ⟨r0, r1, r2, r3, r4, r5, r6⟩ := (((HZ3.out.other (w1.heap.size + 1) 3 hne (.int .u16 0)).other (w1.heap.size + 1) 4 hne (.int .u16 0)).store 0 0 0 0 0 0 0).cells
  exact bodyPost_ret (v := .tuple #[.agg (pkt 0 0 0 0 0 0 0), .int .i64 (er : Int)]) (by simp [results, Tryd.results12, go_sem, r0, r1, r2, r3, r4, r5, r6]) rfl ⟨ret_v HF.out.symm, below_storeP ((HBel3.out.setCell (p := ⟨w1.heap.size + 1, 3, none⟩) hle (.int .u16 0)).setCell (p := ⟨w1.heap.size + 1, 4, none⟩) hle (.int .u16 0)) (Nat.le_refl _) _ _ _ _ _ _ _⟩

set_option maxHeartbeats 2000000 in
theorem parse_icmpOk (A : Option Addr) (n c : Nat) (bs : List UInt8) (B : Nat) (W : World) (hb : Bts W B A n bs) (hB : B ≤ W.heap.size) (hc : n ≤ c) (hm : c ≤ 9223372036854775807) (he : Tc.Env W) (h0 : errN bs = 0) (h9 : byt bs 9 = 1) (h1 : errI (body bs) = 0) :
    Calls Tryd.prog 12 #[.slice A n c] W fun e w' => e = .returned (wV bs) ∧ Below W.heap.size W w' := by
  have HF := Lib.hid (wV_icmp h0 h9 h1)
  obtain ⟨m, hm1⟩ : ∃ m, tl bs - hs bs = m := ⟨_, rfl⟩
  have hm2 : m ≤ 1000000 := by have := tl_lt bs; omega
  have HB := Lib.hid (hb.alloc hB (.cells (pkt 0 0 0 0 0 0 0) 25))
  have HZ := Lib.hid (Pk.box W 0 0 0 0 0 0 0)
  have HBel := Lib.hid ((Below.refl _ W).alloc (Nat.le_refl _) (.cells (pkt 0 0 0 0 0 0 0) 25))
  have HE := Lib.hid (he.alloc (.cells (pkt 0 0 0 0 0 0 0) 25))
  have HP := Lib.hid (fun W' (hb : Bts W' B A n bs) hB => Ip.parse_rightN A n c bs B W' hb hB hc hm h0)
  unfold Ip.ParsedN at HP
  rw [hm1] at HP
  have hs12 := four_lt bs 12
  have hs16 := four_lt bs 16
  have P2 := Lib.hid (fun W' A1 c1 B2 (hb : Bts W' B2 A1 m (body bs)) hB hc hm => Ic.parse_any A1 m c1 (body bs) B2 W' hb hB hc hm)
  rw [h1] at P2
  simp only [Ic.pV_ok (body bs) rfl] at P2
  clear hb he h0 hm1
  go_enter Tryd.func12, Tryd.ntmps12
  go_wp2_with fail
  go_at_call 22
  refine (HP.out _ HB.out (by simp; omega)).mono ?_
  rintro e w1 ⟨A1, c1, rfl, ht1, hcc, hb1, -⟩
  have hbx := (Below.refl _ w1).alloc (Nat.le_refl _) (.cells (Ip.cells7 1 (four bs 12) (four bs 16) (hs bs) (tl bs) (byt bs 8) (word bs 4)) 42)
  have HX := Lib.hid (Hd.box w1 0 0 0 0 0 0 0)
  have HY := Lib.hid (Hd.box w1 1 (four bs 12) (four bs 16) (hs bs) (tl bs) (byt bs 8) (word bs 4))
  have HT := Lib.hid (ht1.below hbx)
  have HE1 := Lib.hid ((HE.out.below hb1 (Nat.le_refl _)).below hbx (Nat.le_refl _))
  have HZ1 := Lib.hid ((HZ.out.next hb1).next hbx)
  have hbel1 := HBel.out.trans (hb1.mono (by simp))
  have HBel1 := Lib.hid (hbel1.trans (hbx.mono hbel1.size))
  clear hb1 hbx hbel1 ht1
  obtain ⟨x0, x1, x2, x3, x4, x5, x6⟩ := HX.out.cells
  obtain ⟨g0, g1, g2, g3, g4, g5, g6⟩ := HX.out.frozen
  obtain ⟨y0, y1, y2, y3, y4, y5, y6⟩ := HY.out.cells
  go_wp2_with fail
  go_at_call 25
  have HQ := Lib.hid (Pk.box (w1.alloc (.cells (Ip.cells7 1 (four bs 12) (four bs 16) (hs bs) (tl bs) (byt bs 8) (word bs 4)) 42)) 1 (four bs 12) (four bs 16) 0 0 0 0)
  have hbq := (Below.refl _ (w1.alloc (.cells (Ip.cells7 1 (four bs 12) (four bs 16) (hs bs) (tl bs) (byt bs 8) (word bs 4)) 42))).alloc (Nat.le_refl _) (.cells (pkt 1 (four bs 12) (four bs 16) 0 0 0 0) 25)
  have HZ2 := Lib.hid (HZ1.out.next hbq)
  have HBel2 := Lib.hid (HBel1.out.trans (hbq.mono HBel1.out.size))
  have hlt := HZ1.out.lt
  rw [World.size_alloc] at HQ hlt
  have HT2 := Lib.hid (HT.out.below (hbq.mono (by simp)))
  have HE2 := Lib.hid (HE1.out.below hbq (Nat.le_refl _))
  clear HZ1 HT HE1 HBel1 hbq x0 x1 x2 x3 x4 x5 x6 g0 g1 g2 g3 g4 g5 g6 y0 y1 y2 y3 y4 y5 y6
  refine (P2.out _ _ _ _ HT2.out (by simp; omega) hcc.1 hcc.2).mono ?_
  rintro e w2 ⟨rfl, hb2⟩
  have HZ3 := Lib.hid (HZ2.out.next hb2)
  have HQ3 := Lib.hid (HQ.out.next hb2)
  have HBel3 := Lib.hid (HBel2.out.trans (hb2.mono HBel2.out.size))
  clear hb2 HZ2 HQ HBel2 HT2
  obtain ⟨q0, q1, q2, q3, q4, q5, q6⟩ := HQ3.out.cells
  obtain ⟨k0, k1, k2, k3, k4, k5, k6⟩ := HQ3.out.frozen
  obtain ⟨z0, z1, z2, z3, z4, z5, z6⟩ := HZ3.out.cells
  obtain ⟨f0, f1, f2, f3, f4, f5, f6⟩ := HZ3.out.frozen
  have hne : W.heap.size ≠ w1.heap.size + 1 := by omega
  have hne' : w1.heap.size + 1 ≠ W.heap.size := by omega
  have hle : W.heap.size ≤ w1.heap.size + 1 := by omega
  go_wp2_with fail
  obtain ⟨r0, r1, r2, r3, r4, r5, r6⟩ := ((((HZ3.out.other (w1.heap.size + 1) 6 hne (.int .u8 (byt (body bs) 0 : Int))).other (w1.heap.size + 1) 3 hne (.int .u16 (word (body bs) 4 : Int))).other (w1.heap.size + 1) 4 hne (.int .u16 (word (body bs) 4 : Int))).store 1 (four bs 12) (four bs 16) (word (body bs) 4) (word (body bs) 4) 0 (byt (body bs) 0)).cells
  exact bodyPost_ret (v := .tuple #[.agg (pkt 1 (four bs 12) (four bs 16) (word (body bs) 4) (word (body bs) 4) 0 (byt (body bs) 0)), .int .i64 0]) (by simp [results, Tryd.results12, go_sem, r0, r1, r2, r3, r4, r5, r6]) rfl ⟨ret_v HF.out.symm, below_storeP (((HBel3.out.setCell (p := ⟨w1.heap.size + 1, 6, none⟩) hle (.int .u8 (byt (body bs) 0 : Int))).setCell (p := ⟨w1.heap.size + 1, 3, none⟩) hle (.int .u16 (word (body bs) 4 : Int))).setCell (p := ⟨w1.heap.size + 1, 4, none⟩) hle (.int .u16 (word (body bs) 4 : Int))) (Nat.le_refl _) _ _ _ _ _ _ _⟩

set_option maxHeartbeats 2000000 in
theorem parse_icmpBad (A : Option Addr) (n c : Nat) (bs : List UInt8) (B : Nat) (W : World) (hb : Bts W B A n bs) (hB : B ≤ W.heap.size) (hc : n ≤ c) (hm : c ≤ 9223372036854775807) (he : Tc.Env W) (h0 : errN bs = 0) (h9 : byt bs 9 = 1) (h1 : errI (body bs) ≠ 0) :
    Calls Tryd.prog 12 #[.slice A n c] W fun e w' => e = .returned (wV bs) ∧ Below W.heap.size W w' := by
  have HF := Lib.hid (wV_err (WirM.errW_icmp h0 h9) h1)
  obtain ⟨m, hm1⟩ : ∃ m, tl bs - hs bs = m := ⟨_, rfl⟩
  have hm2 : m ≤ 1000000 := by have := tl_lt bs; omega
  have HB := Lib.hid (hb.alloc hB (.cells (pkt 0 0 0 0 0 0 0) 25))
  have HZ := Lib.hid (Pk.box W 0 0 0 0 0 0 0)
  have HBel := Lib.hid ((Below.refl _ W).alloc (Nat.le_refl _) (.cells (pkt 0 0 0 0 0 0 0) 25))
  have HE := Lib.hid (he.alloc (.cells (pkt 0 0 0 0 0 0 0) 25))
  have HP := Lib.hid (fun W' (hb : Bts W' B A n bs) hB => Ip.parse_rightN A n c bs B W' hb hB hc hm h0)
  unfold Ip.ParsedN at HP
  rw [hm1] at HP
  have hs12 := four_lt bs 12
  have hs16 := four_lt bs 16
  have P2 := Lib.hid (fun W' A1 c1 B2 (hb : Bts W' B2 A1 m (body bs)) hB hc hm => Ic.parse_any A1 m c1 (body bs) B2 W' hb hB hc hm)
  simp only [Ic.pV_bad (body bs) h1] at P2
  have d : ((errI (body bs) : Int) != 0) = true := by simp; omega
  generalize errI (body bs) = er at HF P2 d
  clear hb he h0 hm1
  go_enter Tryd.func12, Tryd.ntmps12
  go_wp2_with fail
  go_at_call 22
  refine (HP.out _ HB.out (by simp; omega)).mono ?_
  rintro e w1 ⟨A1, c1, rfl, ht1, hcc, hb1, -⟩
  have hbx := (Below.refl _ w1).alloc (Nat.le_refl _) (.cells (Ip.cells7 1 (four bs 12) (four bs 16) (hs bs) (tl bs) (byt bs 8) (word bs 4)) 42)
  have HX := Lib.hid (Hd.box w1 0 0 0 0 0 0 0)
  have HY := Lib.hid (Hd.box w1 1 (four bs 12) (four bs 16) (hs bs) (tl bs) (byt bs 8) (word bs 4))
  have HT := Lib.hid (ht1.below hbx)
  have HE1 := Lib.hid ((HE.out.below hb1 (Nat.le_refl _)).below hbx (Nat.le_refl _))
  have HZ1 := Lib.hid ((HZ.out.next hb1).next hbx)
  have hbel1 := HBel.out.trans (hb1.mono (by simp))
  have HBel1 := Lib.hid (hbel1.trans (hbx.mono hbel1.size))
  clear hb1 hbx hbel1 ht1
  obtain ⟨x0, x1, x2, x3, x4, x5, x6⟩ := HX.out.cells
  obtain ⟨g0, g1, g2, g3, g4, g5, g6⟩ := HX.out.frozen
  obtain ⟨y0, y1, y2, y3, y4, y5, y6⟩ := HY.out.cells
  go_wp2_with fail
  go_at_call 25
  have HQ := Lib.hid (Pk.box (w1.alloc (.cells (Ip.cells7 1 (four bs 12) (four bs 16) (hs bs) (tl bs) (byt bs 8) (word bs 4)) 42)) 1 (four bs 12) (four bs 16) 0 0 0 0)
  have hbq := (Below.refl _ (w1.alloc (.cells (Ip.cells7 1 (four bs 12) (four bs 16) (hs bs) (tl bs) (byt bs 8) (word bs 4)) 42))).alloc (Nat.le_refl _) (.cells (pkt 1 (four bs 12) (four bs 16) 0 0 0 0) 25)
  have HZ2 := Lib.hid (HZ1.out.next hbq)
  have HBel2 := Lib.hid (HBel1.out.trans (hbq.mono HBel1.out.size))
  have hlt := HZ1.out.lt
  rw [World.size_alloc] at HQ hlt
  have HT2 := Lib.hid (HT.out.below (hbq.mono (by simp)))
  have HE2 := Lib.hid (HE1.out.below hbq (Nat.le_refl _))
  clear HZ1 HT HE1 HBel1 hbq x0 x1 x2 x3 x4 x5 x6 g0 g1 g2 g3 g4 g5 g6 y0 y1 y2 y3 y4 y5 y6
  refine (P2.out _ _ _ _ HT2.out (by simp; omega) hcc.1 hcc.2).mono ?_
  rintro e w2 ⟨rfl, hb2⟩
  have HZ3 := Lib.hid (HZ2.out.next hb2)
  have HQ3 := Lib.hid (HQ.out.next hb2)
  have HBel3 := Lib.hid (HBel2.out.trans (hb2.mono HBel2.out.size))
  clear hb2 HZ2 HQ HBel2 HT2
  obtain ⟨q0, q1, q2, q3, q4, q5, q6⟩ := HQ3.out.cells
  obtain ⟨k0, k1, k2, k3, k4, k5, k6⟩ := HQ3.out.frozen
  obtain ⟨z0, z1, z2, z3, z4, z5, z6⟩ := HZ3.out.cells
  obtain ⟨f0, f1, f2, f3, f4, f5, f6⟩ := HZ3.out.frozen
  have hne : W.heap.size ≠ w1.heap.size + 1 := by omega
  have hne' : w1.heap.size + 1 ≠ W.heap.size := by omega
  have hle : W.heap.size ≤ w1.heap.size + 1 := by omega
  go_wp2_with fail
  obtain ⟨r0, r1, r2, r3, r4, r5, r6⟩ := ((((HZ3.out.other (w1.heap.size + 1) 6 hne (.int .u8 0)).other (w1.heap.size + 1) 3 hne (.int .u16 0)).other (w1.heap.size + 1) 4 hne (.int .u16 0)).store 0 0 0 0 0 0 0).cells
  exact bodyPost_ret (v := .tuple #[.agg (pkt 0 0 0 0 0 0 0), .int .i64 (er : Int)]) (by simp [results, Tryd.results12, go_sem, r0, r1, r2, r3, r4, r5, r6]) rfl ⟨ret_v HF.out.symm, below_storeP (((HBel3.out.setCell (p := ⟨w1.heap.size + 1, 6, none⟩) hle (.int .u8 0)).setCell (p := ⟨w1.heap.size + 1, 3, none⟩) hle (.int .u16 0)).setCell (p := ⟨w1.heap.size + 1, 4, none⟩) hle (.int .u16 0)) (Nat.le_refl _) _ _ _ _ _ _ _⟩

set_option maxHeartbeats 2000000 in
theorem parse_other (A : Option Addr) (n c : Nat) (bs : List UInt8) (B : Nat) (W : World) (hb : Bts W B A n bs) (hB : B ≤ W.heap.size) (hc : n ≤ c) (hm : c ≤ 9223372036854775807) (he : Tc.Env W) (h0 : errN bs = 0) (h9 : byt bs 9 ≠ 6) (h17 : byt bs 9 ≠ 17) (h1 : byt bs 9 ≠ 1) :
    Calls Tryd.prog 12 #[.slice A n c] W fun e w' => e = .returned (wV bs) ∧ Below W.heap.size W w' := by
  have HF := Lib.hid (wV_err (WirM.errW_other h0 h9 h17 h1) (by omega : 9 ≠ 0))
  obtain ⟨m, hm1⟩ : ∃ m, tl bs - hs bs = m := ⟨_, rfl⟩
  have hm2 : m ≤ 1000000 := by have := tl_lt bs; omega
  have HB := Lib.hid (hb.alloc hB (.cells (pkt 0 0 0 0 0 0 0) 25))
  have HZ := Lib.hid (Pk.box W 0 0 0 0 0 0 0)
  have HBel := Lib.hid ((Below.refl _ W).alloc (Nat.le_refl _) (.cells (pkt 0 0 0 0 0 0 0) 25))
  have HE := Lib.hid (he.alloc (.cells (pkt 0 0 0 0 0 0 0) 25))
  have HP := Lib.hid (fun W' (hb : Bts W' B A n bs) hB => Ip.parse_rightN A n c bs B W' hb hB hc hm h0)
  unfold Ip.ParsedN at HP
  rw [hm1] at HP
  have d6 : ((byt bs 9 : Int) == 6) = false := by simp; omega
  have d17 : ((byt bs 9 : Int) == 17) = false := by simp; omega
  have d1 : ((byt bs 9 : Int) == 1) = false := by simp; omega
  clear hb he h0 hm1
  go_enter Tryd.func12, Tryd.ntmps12
  go_wp2_with fail
  go_at_call 22
  refine (HP.out _ HB.out (by simp; omega)).mono ?_
  rintro e w1 ⟨A1, c1, rfl, ht1, hcc, hb1, -⟩
  have hbx := (Below.refl _ w1).alloc (Nat.le_refl _) (.cells (Ip.cells7 (byt bs 9) (four bs 12) (four bs 16) (hs bs) (tl bs) (byt bs 8) (word bs 4)) 42)
  have HX := Lib.hid (Hd.box w1 0 0 0 0 0 0 0)
  have HY := Lib.hid (Hd.box w1 (byt bs 9) (four bs 12) (four bs 16) (hs bs) (tl bs) (byt bs 8) (word bs 4))
  have HT := Lib.hid (ht1.below hbx)
  have HE1 := Lib.hid ((HE.out.below hb1 (Nat.le_refl _)).below hbx (Nat.le_refl _))
  have HZ1 := Lib.hid ((HZ.out.next hb1).next hbx)
  have hbel1 := HBel.out.trans (hb1.mono (by simp))
  have HBel1 := Lib.hid (hbel1.trans (hbx.mono hbel1.size))
  clear hb1 hbx hbel1 ht1
  obtain ⟨x0, x1, x2, x3, x4, x5, x6⟩ := HX.out.cells
  obtain ⟨g0, g1, g2, g3, g4, g5, g6⟩ := HX.out.frozen
  obtain ⟨y0, y1, y2, y3, y4, y5, y6⟩ := HY.out.cells
  have HQ := Lib.hid (Pk.box (w1.alloc (.cells (Ip.cells7 (byt bs 9) (four bs 12) (four bs 16) (hs bs) (tl bs) (byt bs 8) (word bs 4)) 42)) (byt bs 9) (four bs 12) (four bs 16) 0 0 0 0)
  have hbq := (Below.refl _ (w1.alloc (.cells (Ip.cells7 (byt bs 9) (four bs 12) (four bs 16) (hs bs) (tl bs) (byt bs 8) (word bs 4)) 42))).alloc (Nat.le_refl _) (.cells (pkt (byt bs 9) (four bs 12) (four bs 16) 0 0 0 0) 25)
  have HZ2 := Lib.hid (HZ1.out.next hbq)
  have HBel2 := Lib.hid (HBel1.out.trans (hbq.mono HBel1.out.size))
  have hlt := HZ1.out.lt
  rw [World.size_alloc] at HQ hlt
  clear hbq hlt
  obtain ⟨z0, z1, z2, z3, z4, z5, z6⟩ := HZ2.out.cells
  obtain ⟨f0, f1, f2, f3, f4, f5, f6⟩ := HZ2.out.frozen
  obtain ⟨q0, q1, q2, q3, q4, q5, q6⟩ := HQ.out.cells
  obtain ⟨k0, k1, k2, k3, k4, k5, k6⟩ := HQ.out.frozen
  go_wp2_with fail
  obtain ⟨r0, r1, r2, r3, r4, r5, r6⟩ := (HZ2.out.store 0 0 0 0 0 0 0).cells
  exact bodyPost_ret (v := .tuple #[.agg (pkt 0 0 0 0 0 0 0), .int .i64 9]) (by simp [results, Tryd.results12, go_sem, r0, r1, r2, r3, r4, r5, r6]) rfl ⟨ret_v HF.out.symm, below_storeP HBel2.out (Nat.le_refl _) _ _ _ _ _ _ _⟩

/-- Whatever the bytes are. -/
theorem parse_any (A : Option Addr) (n c : Nat) (bs : List UInt8) (B : Nat) (W : World) (hb : Bts W B A n bs) (hB : B ≤ W.heap.size) (hc : n ≤ c) (hm : c ≤ 9223372036854775807) (he : Tc.Env W) :
    Calls Tryd.prog 12 #[.slice A n c] W fun e w' => e = .returned (wV bs) ∧ Below W.heap.size W w' := by
  by_cases h0 : errN bs = 0
  · by_cases h6 : byt bs 9 = 6
    · by_cases h1 : errT (four bs 12) (four bs 16) (body bs) = 0
      · exact parse_tcpOk A n c bs B W hb hB hc hm he h0 h6 h1
      · exact parse_tcpBad A n c bs B W hb hB hc hm he h0 h6 h1
    · by_cases h17 : byt bs 9 = 17
      · by_cases h1 : errU (four bs 12) (four bs 16) (body bs) = 0
        · exact parse_udpOk A n c bs B W hb hB hc hm he h0 h17 h1
        · exact parse_udpBad A n c bs B W hb hB hc hm he h0 h17 h1
      · by_cases h2 : byt bs 9 = 1
        · by_cases h1 : errI (body bs) = 0
          · exact parse_icmpOk A n c bs B W hb hB hc hm he h0 h2 h1
          · exact parse_icmpBad A n c bs B W hb hB hc hm he h0 h2 h1
        · exact parse_other A n c bs B W hb hB hc hm he h0 h6 h17 h2
  · exact parse_ipbad A n c bs B W hb hB hc hm h0

end Wi
end Go.Proofs.YtapcjjhbdhkhhaaDoor
