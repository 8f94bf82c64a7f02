/- Layer 5: the contract of package tcp's Build. -/
import Derived.Test.YtapcjjhbdhkhhaaDoorTcpC
import Derived.Test.YtapcjjhbdhkhhaaDoorIpD
set_option linter.unusedVariables false
set_option linter.unusedSimpArgs false
namespace Go.Proofs.YtapcjjhbdhkhhaaDoor
open Go.ChangeShapes Go.WideShapes Go.ChangeAt Go.RowKit Go.Mtl
namespace Tc
open TcpM (saneB psB psN totN psN_le totN_le errT segB seg ckN row1)
open SumM (add add_le)
open IpM (word word_lt twoB fourB)
open Ip (ret_int MadeO Row But u8_info own_bts own_lit row_of_own put_len)

/-- In Build: the segment's row l in block g, the content x. -/
structure TAt (W w : World) (B : Nat) (A : Option Addr) (n : Nat) (x : List UInt8) (g : Nat) (l : List UInt8) : Prop where
  row : Row w g l
  lt : W.heap.size ≤ g
  bel : Below W.heap.size W w
  bts : Bts w B A n x
  hB : B ≤ W.heap.size
section
variable {W w w' : World} {B : Nat} {A : Option Addr} {n : Nat} {x : List UInt8} {g : Nat} {l l' : List UInt8}
theorem TAt.but (h : TAt W w B A n x g l) (hr : Row w' g l') (hb : But g w w') : TAt W w' B A n x g l' := by
  have h1 := h.row.lt
  have h2 := h.lt
  have h3 := h.hB
  exact ⟨hr, h.lt, h.bel.grown hb h.bel.size (by intro k hk; injection hk with hk; omega), h.bts.keep fun p hp => World.cell?_of_block (hb.block p.block (by omega) (by simp; omega)), h.hB⟩
theorem TAt.below (h : TAt W w B A n x g l) (hb : Below w.heap.size w w') : TAt W w' B A n x g l :=
  ⟨(hb.block g h.row.lt).trans h.row, h.lt, h.bel.trans (hb.mono h.bel.size), h.bts.below (hb.mono (Nat.le_trans h.hB h.bel.size)), h.hB⟩
theorem but_setCell (w : World) (g i : Nat) (u : Value) : But g w (w.setCell ⟨g, i, none⟩ u) :=
  ⟨rfl, rfl, rfl, by simp [World.setCell], fun k _ hk => Below.heap_setCell w ⟨g, i, none⟩ u k (fun e => hk (by rw [e]))⟩
theorem TAt.set (h : TAt W w B A n x g l) (j : Nat) (v : Int) (c : UInt8) (hv : v = (c.toNat : Int)) : TAt W (w.setCell ⟨g, j, none⟩ (.int .u8 v)) B A n x g (l.set j c) :=
  h.but (h.row.set j v c hv) (but_setCell w g j _)
end

/-- What Build answers. -/
def Built (W : World) (sr ds fr to fl : Nat) (x : List UInt8) (e : Ending) (w' : World) : Prop :=
  ∃ g, e = .returned (.tuple #[.slice (some ⟨g, 0, none⟩) (20 + x.length) (20 + x.length), .int .i64 0]) ∧ Row w' g (seg sr ds fr to fl x) ∧ W.heap.size ≤ g ∧ Below W.heap.size W w'

theorem known_is (f : Nat) (h : f < 256) : (bits .andNot .u8 (f : Int) 63 != 0) = decide (64 ≤ f) := by
  have : ∀ a : Fin 256, (bits .andNot .u8 (a.val : Int) 63 != 0) = decide (64 ≤ a.val) := by decide +kernel
  exact this ⟨f, h⟩

theorem build_bad (sr ds fr to fl : Int) (A : Option Addr) (n c : Nat) (f : Nat) (hf : f < 256) (hfl : fl = (f : Int)) (W : World) (he : Env W) (h : saneB f = false ∨ 64 ≤ f) :
    Calls Tryd.prog 26 #[.int .u32 sr, .int .u32 ds, .int .u16 fr, .int .u16 to, .int .u8 fl, .slice A n c] W fun e w' => e = .returned (.tuple #[.slice none 0 0, .int .i64 11]) ∧ Below W.heap.size W w' := by
  subst hfl
  cases hs : saneB f
  · have HS := Lib.hid (sane_any f hf false hs W he)
    clear h hs
    go_enter Tryd.func26, Tryd.ntmps26
    go_wp2_with fail
    go_at_call 19
    refine HS.out.mono ?_
    rintro e w1 ⟨rfl, hb1⟩
    go_wp2_with fail
    go_ret2
    exact ⟨rfl, hb1⟩
  · have HS := Lib.hid (sane_any f hf true hs W he)
    have h64 : 64 ≤ f := by rcases h with h | h <;> simp_all
    have hk : (bits .andNot .u8 (f : Int) 63 != 0) = true := by rw [known_is f hf]; simpa using h64
    clear h hs
    go_enter Tryd.func26, Tryd.ntmps26
    go_wp2_with fail
    go_at_call 19
    refine HS.out.mono ?_
    rintro e w1 ⟨rfl, hb1⟩
    go_wp2_with fail
    go_ret2
    exact ⟨rfl, hb1⟩

theorem build_long (sr ds fr to fl : Int) (A : Option Addr) (n c : Nat) (f : Nat) (hf : f < 64) (hfl : fl = (f : Int)) (W : World) (he : Env W) (h : saneB f = true) (hc : n ≤ c) (hm : c ≤ 9223372036854775807) (hn : 1460 < n) :
    Calls Tryd.prog 26 #[.int .u32 sr, .int .u32 ds, .int .u16 fr, .int .u16 to, .int .u8 fl, .slice A n c] W fun e w' => e = .returned (.tuple #[.slice none 0 0, .int .i64 2]) ∧ Below W.heap.size W w' := by
  subst hfl
  have HS := Lib.hid (sane_any f (by omega) true h W he)
  have hk : (bits .andNot .u8 (f : Int) 63 != 0) = false := by rw [known_is f (by omega)]; simp; omega
  clear h
  go_enter Tryd.func26, Tryd.ntmps26
  go_wp2_with fail
  go_at_call 19
  refine HS.out.mono ?_
  rintro e w1 ⟨rfl, hb1⟩
  go_wp2_with fail
  go_ret2
  exact ⟨rfl, hb1⟩

set_option maxHeartbeats 4000000 in
theorem build_ok (sr ds fr to f : Nat) (A : Option Addr) (n c : Nat) (x : List UInt8) (B : Nat) (W : World) (hb : Bts W B A n x) (hB : B ≤ W.heap.size) (hc : n ≤ c) (hm : c ≤ 9223372036854775807) (hn : n ≤ 1460)
    (hsr : sr < 4294967296) (hds : ds < 4294967296) (hfr : fr < 65536) (hto : to < 65536) (hf : f < 64) (h : saneB f = true) (he : Env W) :
    Calls Tryd.prog 26 #[.int .u32 (sr : Int), .int .u32 (ds : Int), .int .u16 (fr : Int), .int .u16 (to : Int), .int .u8 (f : Int), .slice A n c] W (Built W sr ds fr to f x) := by
  obtain ⟨i0, hi0, hz0, hz1, hz2⟩ := info_parts u8_info
  have HL := Lib.hid hb.len
  have HB := Lib.hid hb
  have HS := Lib.hid (sane_any f (by omega) true h W he)
  have hk : (bits .andNot .u8 (f : Int) 63 != 0) = false := by rw [known_is f (by omega)]; simp; omega
  clear h hb he
  go_enter Tryd.func26, Tryd.ntmps26
  go_wp2_with fail
  go_at_call 19
  refine HS.out.mono ?_
  rintro e w1 ⟨rfl, hb1⟩
  have HB1 := Lib.hid (HB.out.below (hb1.mono hB))
  have HW1 := Lib.hid hb1
  have hs1 := hb1.size
  clear hb1 HS HB
  have e0 : (20 : Int) + n = ((20 + n : Nat) : Int) := by omega
  obtain ⟨N, hN⟩ : ∃ N, 20 + n = N := ⟨_, rfl⟩
  have HN := Lib.hid hN
  rw [hN] at e0
  have hN1 : 20 ≤ N := by omega
  have hN2 : N ≤ 1480 := by omega
  clear hN
  go_wp2_with (at_make; refine wpList_make_full _ rfl (.tmp 28) (.tmp 28) _ rfl w1.heap.size 5 i0 _ 1 Tryd.underlying26 hi0 hz0 hz1 .i64 .i64 (N : Int) (N : Int) N rfl rfl rfl rfl (by rw [hz2]; omega) (by unfold maxLen; omega) (by simp) ?_
               intro w2 hown hgr
               rw [bvs_zeros] at hown
               have hb2 := (Below.refl w1.heap.size w1).grown hgr (Nat.le_refl _) (by simp)
               have HT2 : Hid (TAt W w2 B A n x w1.heap.size (List.replicate N 0)) :=
                 ⟨row_of_own hown, hs1, HW1.out.trans (hb2.mono hs1), HB1.out.below (hb2.mono (Nat.le_trans hB hs1)), hB⟩
               clear hown hgr hb2)
  obtain ⟨g, hg⟩ : ∃ g, w1.heap.size = g := ⟨_, rfl⟩
  rw [hg] at HT2 hs1 ⊢
  clear hg HW1 HB1
  have L2 : Hid ((List.replicate N (0 : UInt8)).length = N) := by show _ = _; simp
  go_at_call 42
  refine (put_any g N _ 0 fr w2 HT2.out.row L2.out (by omega) (by omega) hfr).mono ?_
  rintro e w3 ⟨rfl, hr, hbut⟩
  have HT3 := Lib.hid (HT2.out.but hr hbut)
  have L3 := Lib.hid (put_len _ 0 2 fr N L2.out (by omega))
  clear hr hbut HT2 L2
  go_wp2_with fail
  go_at_call 42
  refine (put_any g N _ 2 to w3 HT3.out.row L3.out (by omega) (by omega) hto).mono ?_
  rintro e w4 ⟨rfl, hr, hbut⟩
  have HT4 := Lib.hid (HT3.out.but hr hbut)
  have L4 := Lib.hid (put_len _ 2 2 to N L3.out (by omega))
  clear hr hbut HT3 L3
  have k12 := HT4.out.row.cell 12 (by rw [L4.out]; omega)
  have k13 := HT4.out.row.cell 13 (by rw [L4.out]; omega)
  have l12 := HT4.out.row.frozen 12
  have l13 := HT4.out.row.frozen 13
  have j12 : (12 : Int) < N := by omega
  have j13 : (13 : Int) < N := by omega
  have i20 : (20 : Int) ≤ N := by omega
  have HT5 := Lib.hid ((HT4.out.set 12 80 80 rfl).set 13 f (UInt8.ofNat f) (by simp; omega))
  generalize hl4 : ((over (over (List.replicate N 0) 0 (FldM.cutN fr 2)) 2 (FldM.cutN to 2)).set 12 80).set 13 (UInt8.ofNat f) = l5 at HT5
  have L5 : Hid (l5.length = N) := by show _ = _; rw [← hl4]; simp [L4.out]
  have HL5 := Lib.hid hl4
  clear hl4
  have HP5 : Hid (over l5 20 x = segB 0 fr to f x) := by
    show _ = _
    have h1 := HL5.out
    have h2 : 20 + x.length = N := by rw [HL.out]; exact HN.out
    subst h2
    subst h1
    exact TcpM.row2_is x.length fr to f x rfl
  have HXN : Hid (20 + x.length = N) := by show _ = _; rw [HL.out]; exact HN.out
  clear HL5 HT4 L4
  go_wp2_with (refine at_slot 44 ?_
               refine wpList_copy_bts rfl (.tmp 42) (.tmp 43) _ _ rfl 5 Tryd.underlying26 (by kernel_rfl) (if N = 20 then some ⟨g, 0, none⟩ else some ⟨g, 20, none⟩) A g 20 (N - 20) (N - 20) n c B rfl rfl _ x 5 HT5.out.row HT5.out.bts (by have := HN.out; omega) (by have h1 := L5.out; have h2 := HN.out; omega) (fun h => if_neg (by have := HN.out; omega)) ?_
               intro w8 hr8 hg8
               have HT8 := HT5.out.but hr8 hg8
               rw [HP5.out] at HT8
               have HT8 := Lib.hid HT8
               clear hr8 hg8 HT5 k12 k13 l12 l13)
  all_goals
    obtain ⟨S, hS⟩ : ∃ S, segB 0 fr to f x = S := ⟨_, rfl⟩
    have LS : Hid (S.length = N) := by show _ = _; rw [← hS, TcpM.segB_len, HXN.out]
    rw [hS] at HT8
    have HS := Lib.hid hS
    clear hS HP5
    have htl := totN_le sr ds S
    have HT := Lib.hid (total_any sr ds (some ⟨g, 0, none⟩) N N S w8.heap.size w8 (by have h := HT8.out.row.bts; rw [LS.out] at h; exact h) (Nat.le_refl _) (Nat.le_refl _) (by omega) hsr hds)
    refine Calls.mono (R := fun e w' => e = .returned (.int .u16 (totN sr ds S : Int)) ∧ Below w8.heap.size w8 w') (by first | (with_reducible exact HT.out) | (have h := HT.out; rw [show N = 20 from by assumption] at h; with_reducible exact h)) ?_
    rintro e w9 ⟨rfl, hb9⟩
    have HT9 := Lib.hid (HT8.out.below hb9)
    clear hb9 HT HT8
    obtain ⟨K, hK⟩ : ∃ K : Nat, (65535 : Int) - (totN sr ds S : Int) = (K : Int) := ⟨65535 - totN sr ds S, by omega⟩
    have hK2 : K < 65536 := by omega
    have HK : Hid (K = ckN sr ds fr to f x) := by show _ = _; unfold ckN; rw [HS.out]; omega
    go_wp2_with fail
    go_at_call 42
    have HP0 : Calls Tryd.prog 42 #[.slice (some ⟨g, 0, none⟩) N N, .int .i64 16, .int .u16 (K : Int)] w9 fun e w' => e = .returned (.tuple #[]) ∧ Row w' g (over S 16 (FldM.cutN K 2)) ∧ But g w9 w' := put_any g N S 16 K w9 HT9.out.row LS.out (by omega) (by omega) hK2
    have HP := Lib.hid HP0
    clear HP0
    refine Calls.mono (R := fun e w' => e = .returned (.tuple #[]) ∧ Row w' g (over S 16 (FldM.cutN K 2)) ∧ But g w9 w') (by first | (with_reducible exact HP.out) | (have h := HP.out; rw [show N = 20 from by assumption] at h; with_reducible exact h)) ?_
    rintro e w10 ⟨rfl, hr, hbut⟩
    have HT10 := HT9.out.but hr hbut
    have HF : Hid (over S 16 (FldM.cutN K 2) = seg sr ds fr to f x) := by
      show _ = _
      rw [← HS.out, HK.out]
      exact TcpM.row3_is _ fr to f x
    rw [HF.out] at HT10
    have HT10 := Lib.hid HT10
    clear hr hbut HT9 HP hK
    go_wp2_with fail
    go_ret2
    exact ⟨g, by first | (rw [HXN.out]; rfl) | (rw [HXN.out, show N = 20 from by assumption]; rfl), HT10.out.row, HT10.out.lt, HT10.out.bel⟩

end Tc
end Go.Proofs.YtapcjjhbdhkhhaaDoor
