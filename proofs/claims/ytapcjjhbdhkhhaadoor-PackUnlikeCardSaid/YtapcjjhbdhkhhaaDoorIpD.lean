/- Layer 4: the contract of package ip's Build. -/
import Derived.Test.YtapcjjhbdhkhhaaDoorIpA
import Derived.Test.YtapcjjhbdhkhhaaDoorIpN
set_option linter.unusedVariables false
namespace Go.Proofs.YtapcjjhbdhkhhaaDoor
open Go.ChangeShapes Go.WideShapes Go.ChangeAt Go.RowKit Go.Mtl
namespace Ip
open IpM (word four hs tl word_lt four_lt packB row0 row1 ckB row1_sum row2_is)
open SumM (add add_le)

theorem row_of_own {w : World} {base g n : Nat} {bs : List UInt8} (h : w.ownsRow base 5 1 (.slice (some ⟨g, 0, none⟩) n n) n (bvs bs)) : Row w g bs := by
  rcases h.2 with ⟨h', _⟩ | ⟨g', cap', cur, h', _, hg, _, _, hcs, htake⟩
  · simp at h'
  · simp only [Value.slice.injEq, Option.some.injEq, Addr.mk.injEq, and_true, true_and] at h'
    obtain ⟨rfl, rfl⟩ := h'
    rw [List.take_of_length_le (by simp [hcs])] at htake
    unfold Row
    rw [← htake]
    exact hg
theorem Row.set {w : World} {g : Nat} {l : List UInt8} (h : Row w g l) (j : Nat) (x : Int) (c : UInt8) (hx : x = (c.toNat : Int)) : Row (w.setCell ⟨g, j, none⟩ (.int .u8 x)) g (l.set j c) := by
  subst hx
  have := heap_setCell_same w g j _ _ (.int .u8 (c.toNat : Int)) h
  unfold Row
  rw [this, ← bvs_set]
  simp
theorem Row.cell {w : World} {g : Nat} {l : List UInt8} (h : Row w g l) (j : Nat) (hj : j < l.length) : w.cell? ⟨g, j, none⟩ = some (.int .u8 (byt l j : Int)) := by
  rw [cell_of_row w g j _ _ _ h, List.getElem?_toArray, bvs_at l j hj]
theorem Row.frozen {w : World} {g : Nat} {l : List UInt8} (h : Row w g l) (j : Nat) : w.frozen? ⟨g, j, none⟩ = false := frozen_of_row w g j _ _ h

/-- In Build: the header's box, the packet's row l in block g, the content x. -/
structure BAt (W w : World) (B : Nat) (A : Option Addr) (n : Nat) (x : List UInt8) (g : Nat) (l : List UInt8) (pr sr ds sz ln tt id : Int) : Prop where
  hd : Hd w W.heap.size pr sr ds sz ln tt id
  row : Row w g l
  lt : W.heap.size < g
  bel : Below W.heap.size W w
  bts : Bts w B A n x
  hB : B ≤ W.heap.size
section
variable {W w w' : World} {B : Nat} {A : Option Addr} {n : Nat} {x : List UInt8} {g : Nat} {l l' : List UInt8} {pr sr ds sz ln tt id : Int}
theorem BAt.but (h : BAt W w B A n x g l pr sr ds sz ln tt id) (hr : Row w' g l') (hb : But g w w') : BAt W w' B A n x g l' pr sr ds sz ln tt id := by
  have h1 := h.row.lt
  have h2 := h.lt
  have h3 := h.hB
  refine ⟨h.hd.keep (hb.block _ (by omega) (by simp; omega)), hr, h.lt, h.bel.grown hb h.bel.size (by intro k hk; injection hk with hk; omega), h.bts.keep fun p hp => World.cell?_of_block (hb.block p.block (by omega) (by simp; omega)), h.hB⟩
theorem BAt.set (h : BAt W w B A n x g l pr sr ds sz ln tt id) (j : Nat) (v : Int) (c : UInt8) (hv : v = (c.toNat : Int)) : BAt W (w.setCell ⟨g, j, none⟩ (.int .u8 v)) B A n x g (l.set j c) pr sr ds sz ln tt id :=
  h.but (h.row.set j v c hv) (grown_setCell w g j _)
end

theorem put_len (l : List UInt8) (a s v N : Nat) (hl : l.length = N) (h : a + s ≤ N) : (over l a (FldM.cutN v s)).length = N := by
  rw [over_len _ _ _ (by rw [FldM.cutN_len]; omega), hl]
/-- What Build answers. -/
def Built (W : World) (id tt pr sr ds : Nat) (x : List UInt8) (e : Ending) (w' : World) : Prop :=
  ∃ g, e = .returned (.tuple #[.slice (some ⟨g, 0, none⟩) (20 + x.length) (20 + x.length), .int .i64 0]) ∧ Row w' g (packB id tt pr sr ds x) ∧ W.heap.size ≤ g ∧ Below W.heap.size W w'

theorem build_long (A : Option Addr) (n c : Nat) (pr sr ds sz ln tt id : Int) (W : World) (hc : n ≤ c) (hm : c ≤ 9223372036854775807) (h : 1480 < n) :
    Calls Tryd.prog 14 #[.agg (cells7 pr sr ds sz ln tt id), .slice A n c] W fun e w' => e = .returned (.tuple #[.slice none 0 0, .int .i64 2]) ∧ Below W.heap.size W w' := by
  go_enter Tryd.func14, Tryd.ntmps14
  go_wp2_with fail
  go_ret2
  exact ⟨rfl, (Below.refl _ W).alloc (Nat.le_refl _) _⟩

set_option maxHeartbeats 4000000 in
theorem build_ok (A : Option Addr) (n c : Nat) (x : List UInt8) (pr sr ds tt id : Nat) (sz ln : Int) (B : Nat) (W : World) (hb : Bts W B A n x) (hB : B ≤ W.heap.size) (hc : n ≤ c) (hm : c ≤ 9223372036854775807) (h : n ≤ 1480)
    (hpr : pr < 256) (hsr : sr < 4294967296) (hds : ds < 4294967296) (htt : tt < 256) (hid : id < 65536) :
    Calls Tryd.prog 14 #[.agg (cells7 pr sr ds sz ln tt id), .slice A n c] W (Built W id tt pr sr ds x) := by
  obtain ⟨i0, hi0, hz0, hz1, hz2⟩ := info_parts u8_info
  have HL := Lib.hid hb.len
  have HX := Lib.hid (Hd.box W pr sr ds sz ln tt id)
  have HB := Lib.hid (hb.alloc hB (.cells (cells7 pr sr ds sz ln tt id) 42))
  have bel := (Below.refl _ W).alloc (Nat.le_refl _) (.cells (cells7 pr sr ds sz ln tt id) 42)
  clear hb
  go_enter Tryd.func14, Tryd.ntmps14
  have e0 : (20 : Int) + n = ((20 + n : Nat) : Int) := by omega
  obtain ⟨N, hN⟩ : ∃ N, 20 + n = N := ⟨_, rfl⟩
  have HN := Lib.hid hN
  rw [hN] at e0
  have hN1 : 20 ≤ N := by omega
  have hN2 : N ≤ 1500 := by omega
  clear hN
  go_wp2_with (at_make; refine wpList_make_full _ rfl (.tmp 12) (.tmp 12) _ rfl (W.heap.size + 1) 5 i0 _ 1 Tryd.underlying26 hi0 hz0 hz1 .i64 .i64 (N : Int) (N : Int) N rfl rfl rfl rfl (by rw [hz2]; omega) (by unfold maxLen; omega) (by simp) ?_
               intro w1 hown hgr
               rw [bvs_zeros] at hown
               have hb1 := (Below.refl (W.alloc (.cells (cells7 pr sr ds sz ln tt id) 42)).heap.size (W.alloc (.cells (cells7 pr sr ds sz ln tt id) 42))).grown hgr (Nat.le_refl _) (by simp)
               have HR1 := row_of_own hown
               rw [World.size_alloc] at HR1
               have HB1 : Hid (BAt W w1 B A n x (W.heap.size + 1) (List.replicate N 0) pr sr ds sz ln tt id) :=
                 ⟨HX.out.next hb1, HR1, by omega, bel.trans (hb1.mono (by simp)), HB.out.below (hb1.mono (by simp; omega)), hB⟩
               clear hown hgr HR1 hb1 bel HX HB
               obtain ⟨x0, x1, x2, -, -, x5, x6⟩ := HB1.out.hd.cells
               have k0 := HB1.out.row.cell 0 (by simp; omega)
               have k8 := HB1.out.row.cell 8 (by simp; omega)
               have k9 := HB1.out.row.cell 9 (by simp; omega)
               have l0 := HB1.out.row.frozen 0
               have l8 := HB1.out.row.frozen 8
               have l9 := HB1.out.row.frozen 9
               have j0 : 0 < N := by omega
               have j8 : (8 : Int) < N := by omega
               have j9 : (9 : Int) < N := by omega)
  have HB2 := Lib.hid (((HB1.out.set 0 69 69 rfl).set 8 tt (UInt8.ofNat tt) (by simp; omega)).set 9 pr (UInt8.ofNat pr) (by simp; omega))
  have L2 : Hid (((((List.replicate N (0 : UInt8)).set 0 69).set 8 (UInt8.ofNat tt)).set 9 (UInt8.ofNat pr)).length = N) := by show _ = _; simp
  clear k0 k8 k9 l0 l8 l9 HB1 x0 x1 x2 x5 x6
  generalize ((w1.setCell ⟨W.heap.size + 1, 0, none⟩ (.int .u8 69)).setCell ⟨W.heap.size + 1, 8, none⟩ (.int .u8 tt)).setCell ⟨W.heap.size + 1, 9, none⟩ (.int .u8 pr) = w2 at HB2 ⊢
  obtain ⟨x0, x1, x2, -, -, x5, x6⟩ := HB2.out.hd.cells
  go_at_call 29
  refine (put_any (W.heap.size + 1) N _ 2 2 N w2 HB2.out.row L2.out (by omega) (by omega) (by omega) (by omega) (by omega)).mono ?_
  rintro e w3 ⟨rfl, hr, hbut⟩
  have HB3 := Lib.hid (HB2.out.but hr hbut)
  have L3 := Lib.hid (put_len _ 2 2 N N L2.out (by omega))
  clear hr hbut HB2 L2 x0 x1 x2 x5 x6
  obtain ⟨x0, x1, x2, -, -, x5, x6⟩ := HB3.out.hd.cells
  go_wp2_with fail
  go_at_call 29
  refine (put_any (W.heap.size + 1) N _ 4 2 id w3 HB3.out.row L3.out (by omega) (by omega) (by omega) (by omega) (by omega)).mono ?_
  rintro e w4 ⟨rfl, hr, hbut⟩
  have HB4 := Lib.hid (HB3.out.but hr hbut)
  have L4 := Lib.hid (put_len _ 4 2 id N L3.out (by omega))
  clear hr hbut HB3 L3 x0 x1 x2 x5 x6
  obtain ⟨x0, x1, x2, -, -, x5, x6⟩ := HB4.out.hd.cells
  go_wp2_with fail
  go_at_call 29
  refine (put_any (W.heap.size + 1) N _ 12 4 sr w4 HB4.out.row L4.out (by omega) (by omega) (by omega) (by omega) (by omega)).mono ?_
  rintro e w5 ⟨rfl, hr, hbut⟩
  have HB5 := Lib.hid (HB4.out.but hr hbut)
  have L5 := Lib.hid (put_len _ 12 4 sr N L4.out (by omega))
  clear hr hbut HB4 L4 x0 x1 x2 x5 x6
  obtain ⟨x0, x1, x2, -, -, x5, x6⟩ := HB5.out.hd.cells
  go_wp2_with fail
  go_at_call 29
  refine (put_any (W.heap.size + 1) N _ 16 4 ds w5 HB5.out.row L5.out (by omega) (by omega) (by omega) (by omega) (by omega)).mono ?_
  rintro e w6 ⟨rfl, hr, hbut⟩
  have HB6 := Lib.hid (HB5.out.but hr hbut)
  have L6 := Lib.hid (put_len _ 16 4 ds N L5.out (by omega))
  clear hr hbut HB5 L5 x0 x1 x2 x5 x6
  obtain ⟨x0, x1, x2, -, -, x5, x6⟩ := HB6.out.hd.cells
  go_wp2_with fail
  generalize hl6 : over (over (over (over ((((List.replicate N 0).set 0 69).set 8 (UInt8.ofNat tt)).set 9 (UInt8.ofNat pr)) 2 (FldM.cutN N 2)) 4 (FldM.cutN id 2)) 12 (FldM.cutN sr 4)) 16 (FldM.cutN ds 4) = l6 at HB6 L6
  have HL6 := Lib.hid hl6
  clear hl6
  go_at_call 30
  refine (Sm.of_any (some ⟨W.heap.size + 1, 0, none⟩) 20 N (l6.take 20) w6 w6.heap.size (by have h := HB6.out.row.bts; rw [L6.out] at h; exact h.front 20 (by omega)) (by omega) (by omega)).mono ?_
  rintro e w' ⟨rfl, rfl⟩
  obtain ⟨K, hK⟩ : ∃ K, 65535 - add 0 (l6.take 20) = K := ⟨_, rfl⟩
  have hK2 : K ≤ 65535 := by omega
  rw [hK]
  have HK := Lib.hid hK
  clear hK
  go_wp2_with fail
  go_at_call 29
  refine (put_any (W.heap.size + 1) N _ 10 2 K w6 HB6.out.row L6.out (by omega) (by omega) (by omega) (by omega) (by omega)).mono ?_
  rintro e w7 ⟨rfl, hr, hbut⟩
  have HB7 := Lib.hid (HB6.out.but hr hbut)
  have L7 := Lib.hid (put_len _ 10 2 K N L6.out (by omega))
  clear hr hbut HB6 L6 x0 x1 x2 x5 x6
  obtain ⟨x0, x1, x2, -, -, x5, x6⟩ := HB7.out.hd.cells
  have i20 : (20 : Int) ≤ N := by omega
  have HXN : Hid (20 + x.length = N) := by show _ = _; rw [HL.out]; exact HN.out
  have HP : Hid (over (over l6 10 (FldM.cutN K 2)) 20 x = packB id tt pr sr ds x) := by
    have h1 := HK.out
    have h2 := HL6.out
    have h3 := HXN.out
    subst h3
    rw [show over (over (over (over ((((List.replicate (20 + x.length) 0).set 0 69).set 8 (UInt8.ofNat tt)).set 9 (UInt8.ofNat pr)) 2 (FldM.cutN (20 + x.length) 2)) 4 (FldM.cutN id 2)) 12 (FldM.cutN sr 4)) 16 (FldM.cutN ds 4) = row1 x.length id tt pr sr ds from rfl] at h2
    subst h2
    rw [row1_sum] at h1
    subst h1
    exact row2_is x.length id tt pr sr ds x rfl
  go_wp2_with (refine at_slot 53 ?_
               refine wpList_copy_bts rfl (.tmp 51) (.tmp 52) _ _ rfl 5 Tryd.underlying26 (by kernel_rfl) (if N = 20 then some ⟨W.heap.size + 1, 0, none⟩ else some ⟨W.heap.size + 1, 20, none⟩) A (W.heap.size + 1) 20 (N - 20) (N - 20) n c B rfl rfl _ x 5 HB7.out.row HB7.out.bts (by have := HN.out; omega) (by have h1 := L7.out; have h2 := HN.out; omega) (fun h => if_neg (by have := HN.out; omega)) ?_
               intro w8 hr8 hg8)
  all_goals
    go_ret2
    exact ⟨W.heap.size + 1, by first | (rw [HXN.out]; rfl) | (rw [HXN.out, show N = 20 from by assumption]; rfl), by rw [← HP.out]; exact hr8, by omega, (HB7.out.but hr8 hg8).bel⟩

end Ip
end Go.Proofs.YtapcjjhbdhkhhaaDoor
