/- Layer 7: the contract of package icmp's Build. -/
import Derived.Test.YtapcjjhbdhkhhaaDoorIcmpC
import Derived.Test.YtapcjjhbdhkhhaaDoorIpD
set_option linter.unusedVariables false
set_option linter.unusedSimpArgs false
namespace Go.Proofs.YtapcjjhbdhkhhaaDoor
open Go.ChangeShapes Go.WideShapes Go.ChangeAt Go.RowKit Go.Mtl
namespace Ic
open IcM (echoB echo_yes echo_no errI errI_le msgB msg ckI ckI_le two two_len row1)
open SumM (add add_le)
open IpM (word word_lt twoB)
open Ip (ret_int MadeO Row But u8_info own_bts own_lit row_of_own)

structure TAt (W w : World) (B : Nat) (A : Option Addr) (n : Nat) (x : List UInt8) (g : Nat) (l : List UInt8) : Prop where
  row : Row w g l
  lt : W.heap.size ≤ g
  bel : Below W.heap.size W w
  bts : Bts w B A n x
  hB : B ≤ W.heap.size
section
variable {W w w' : World} {B : Nat} {A : Option Addr} {n : Nat} {x : List UInt8} {g : Nat} {l l' : List UInt8}
theorem TAt.but (h : TAt W w B A n x g l) (hr : Row w' g l') (hb : But g w w') : TAt W w' B A n x g l' := by
  have h1 := h.row.lt
  have h2 := h.lt
  have h3 := h.hB
  exact ⟨hr, h.lt, h.bel.grown hb h.bel.size (by intro k hk; injection hk with hk; omega), h.bts.keep fun p hp => World.cell?_of_block (hb.block p.block (by omega) (by simp; omega)), h.hB⟩
theorem TAt.below (h : TAt W w B A n x g l) (hb : Below w.heap.size w w') : TAt W w' B A n x g l :=
  ⟨(hb.block g h.row.lt).trans h.row, h.lt, h.bel.trans (hb.mono h.bel.size), h.bts.below (hb.mono (Nat.le_trans h.hB h.bel.size)), h.hB⟩
theorem but_setCell (w : World) (g i : Nat) (u : Value) : But g w (w.setCell ⟨g, i, none⟩ u) :=
  ⟨rfl, rfl, rfl, by simp [World.setCell], fun k _ hk => Below.heap_setCell w ⟨g, i, none⟩ u k (fun e => hk (by rw [e]))⟩
theorem TAt.set (h : TAt W w B A n x g l) (j : Nat) (v : Int) (c : UInt8) (hv : v = (c.toNat : Int)) : TAt W (w.setCell ⟨g, j, none⟩ (.int .u8 v)) B A n x g (l.set j c) :=
  h.but (h.row.set j v c hv) (but_setCell w g j _)
end

/-- What Build answers. -/
def Built (W : World) (kd id : Nat) (x : List UInt8) (e : Ending) (w' : World) : Prop :=
  ∃ g, e = .returned (.tuple #[.slice (some ⟨g, 0, none⟩) (8 + x.length) (8 + x.length), .int .i64 0]) ∧ Row w' g (msg kd id x) ∧ W.heap.size ≤ g ∧ Below W.heap.size W w'

theorem build_bad (kd : Nat) (id : Int) (A : Option Addr) (n c : Nat) (W : World) (h : echoB kd = false) :
    Calls Tryd.prog 28 #[.int .u8 (kd : Int), .int .u16 id, .slice A n c] W fun e w' => e = .returned (.tuple #[.slice none 0 0, .int .i64 10]) ∧ Below W.heap.size W w' := by
  have HK := Lib.hid (isEcho_any kd false h W)
  clear h
  go_enter Tryd.func28, Tryd.ntmps28
  go_wp2_with fail
  go_at_call 46
  refine HK.out.mono ?_
  rintro e w1 ⟨rfl, rfl⟩
  go_wp2_with fail
  go_ret2
  exact ⟨rfl, Below.refl _ _⟩

theorem build_long (kd : Nat) (id : Int) (A : Option Addr) (n c : Nat) (W : World) (h : echoB kd = true) (hc : n ≤ c) (hm : c ≤ 9223372036854775807) (hn : 1472 < n) :
    Calls Tryd.prog 28 #[.int .u8 (kd : Int), .int .u16 id, .slice A n c] W fun e w' => e = .returned (.tuple #[.slice none 0 0, .int .i64 2]) ∧ Below W.heap.size W w' := by
  have HK := Lib.hid (isEcho_any kd true h W)
  clear h
  go_enter Tryd.func28, Tryd.ntmps28
  go_wp2_with fail
  go_at_call 46
  refine HK.out.mono ?_
  rintro e w1 ⟨rfl, rfl⟩
  go_wp2_with fail
  go_ret2
  exact ⟨rfl, Below.refl _ _⟩

set_option maxHeartbeats 4000000 in
theorem build_ok (kd id : Nat) (A : Option Addr) (n c : Nat) (x : List UInt8) (B : Nat) (W : World) (h : echoB kd = true) (hb : Bts W B A n x) (hB : B ≤ W.heap.size) (hc : n ≤ c) (hm : c ≤ 9223372036854775807) (hn : n ≤ 1472)
    (hk : kd < 256) (hid : id < 65536) :
    Calls Tryd.prog 28 #[.int .u8 (kd : Int), .int .u16 (id : Int), .slice A n c] W (Built W kd id x) := by
  have HK := Lib.hid (isEcho_any kd true h W)
  clear h
  obtain ⟨i0, hi0, hz0, hz1, hz2⟩ := info_parts u8_info
  have HL := Lib.hid hb.len
  have HB1 := Lib.hid hb
  clear hb
  have e0 : (8 : Int) + n = ((8 + n : Nat) : Int) := by omega
  obtain ⟨N, hN⟩ : ∃ N, 8 + n = N := ⟨_, rfl⟩
  have HN := Lib.hid hN
  rw [hN] at e0
  have hN1 : 8 ≤ N := by omega
  have hN2 : N ≤ 1480 := by omega
  clear hN
  go_enter Tryd.func28, Tryd.ntmps28
  go_wp2_with fail
  go_at_call 46
  refine HK.out.mono ?_
  rintro e w1 ⟨rfl, rfl⟩
  clear HK
  go_wp2_with (at_make; refine wpList_make_full _ rfl (.tmp 17) (.tmp 17) _ rfl W.heap.size 5 i0 _ 1 Tryd.underlying26 hi0 hz0 hz1 .i64 .i64 (N : Int) (N : Int) N rfl rfl rfl rfl (by rw [hz2]; omega) (by unfold maxLen; omega) (by simp) ?_
               intro w2 hown hgr
               rw [bvs_zeros] at hown
               have hb2 := (Below.refl W.heap.size W).grown hgr (Nat.le_refl _) (by simp)
               have HT2 : Hid (TAt W w2 B A n x W.heap.size (List.replicate N 0)) :=
                 ⟨row_of_own hown, Nat.le_refl _, hb2, HB1.out.below (hb2.mono hB), hB⟩
               have k0 := HT2.out.row.cell 0 (by simp; omega)
               have k1 := HT2.out.row.cell 1 (by simp; omega)
               have f0 := HT2.out.row.frozen 0
               have f1 := HT2.out.row.frozen 1
               clear hown hgr hb2)
  obtain ⟨g, hg⟩ : ∃ g, W.heap.size = g := ⟨_, rfl⟩
  have hgl : W.heap.size ≤ g := by omega
  have HT3 := Lib.hid ((HT2.out.set 0 (kd : Int) (UInt8.ofNat kd) (by simp; omega)).set 1 0 0 rfl)
  clear k0 k1 f0 f1 HT2 HB1
  rw [hg] at HT3 ⊢
  generalize (w2.setCell ⟨g, 0, none⟩ (.int .u8 (kd : Int))).setCell ⟨g, 1, none⟩ (.int .u8 0) = w3 at HT3 ⊢
  have L3 : Hid ((((List.replicate N (0 : UInt8)).set 0 (UInt8.ofNat kd)).set 1 0).length = N) := by show _ = _; simp
  go_at_call 47
  refine (put_any g N _ 4 id w3 HT3.out.row L3.out (by omega) (by omega) hid).mono ?_
  rintro e w5 ⟨rfl, hr, hbut⟩
  have HT5 := HT3.out.but hr hbut
  have L5 := (two_len _ 4 id).trans L3.out
  have HP : two (((List.replicate N (0 : UInt8)).set 0 (UInt8.ofNat kd)).set 1 0) 4 id = row1 n kd id := by unfold row1; rw [HN.out]
  rw [HP] at HT5 L5
  have HT5 := Lib.hid HT5
  have L5 := Lib.hid L5
  have HP5 : Hid (over (row1 n kd id) 8 x = msgB 0 kd id x) := IcM.row2_is n kd id x HL.out
  have HXN : Hid (8 + x.length = N) := by show _ = _; rw [HL.out]; exact HN.out
  generalize row1 n kd id = l5 at HT5 L5 HP5
  clear hr hbut HT3 L3 HP
  go_wp2_with (refine at_slot 30 ?_
               refine wpList_copy_bts rfl (.tmp 28) (.tmp 29) _ _ rfl 5 Tryd.underlying26 (by kernel_rfl) (if N = 8 then some ⟨g, 0, none⟩ else some ⟨g, 8, none⟩) A g 8 (N - 8) (N - 8) n c B rfl rfl _ x 5 HT5.out.row HT5.out.bts (by have := HN.out; omega) (by have h1 := L5.out; have h2 := HN.out; omega) (fun h => if_neg (by have := HN.out; omega)) ?_
               intro w8 hr8 hg8
               have HT8 := HT5.out.but hr8 hg8
               rw [HP5.out] at HT8
               have HT8 := Lib.hid HT8
               clear hr8 hg8 HT5)
  all_goals
    obtain ⟨S, hS⟩ : ∃ S, msgB 0 kd id x = S := ⟨_, rfl⟩
    have LS : Hid (S.length = N) := by show _ = _; rw [← hS, IcM.msgB_len, HXN.out]
    rw [hS] at HT8
    have HS := Lib.hid hS
    clear hS HP5
    obtain ⟨K, hK⟩ : ∃ K, 65535 - add 0 S = K := ⟨_, rfl⟩
    have hK2 : K < 65536 := by omega
    have HK : Hid (K = ckI kd id x) := by show _ = _; unfold ckI; rw [HS.out, hK]
    have HT := Lib.hid (Sm.of_any (some ⟨g, 0, none⟩) N N S w8 w8.heap.size (by have h := HT8.out.row.bts; rw [LS.out] at h; exact h) (Nat.le_refl _) (by omega))
    rw [hK] at HT
    clear hK
    refine Calls.mono (R := fun e w' => e = .returned (.int .u16 (K : Int)) ∧ w8 = w') (by first | (with_reducible exact HT.out) | (have h := HT.out; rw [show N = 8 from by assumption] at h; with_reducible exact h)) ?_
    rintro e w9 ⟨rfl, rfl⟩
    clear HT
    go_wp2_with fail
    go_at_call 47
    have HP0 : Calls Tryd.prog 47 #[.slice (some ⟨g, 0, none⟩) N N, .int .i64 2, .int .u16 (K : Int)] w8 fun e w' => e = .returned (.tuple #[]) ∧ Row w' g (two S 2 K) ∧ But g w8 w' := put_any g N S 2 K w8 HT8.out.row LS.out (by omega) (by omega) hK2
    have HP := Lib.hid HP0
    clear HP0
    refine Calls.mono (R := fun e w' => e = .returned (.tuple #[]) ∧ Row w' g (two S 2 K) ∧ But g w8 w') (by first | (with_reducible exact HP.out) | (have h := HP.out; rw [show N = 8 from by assumption] at h; with_reducible exact h)) ?_
    rintro e w10 ⟨rfl, hr, hbut⟩
    have HT10 := HT8.out.but hr hbut
    have HF : Hid (two S 2 K = msg kd id x) := by
      show _ = _
      rw [← HS.out, HK.out]
      exact IcM.row3_is _ kd id x
    rw [HF.out] at HT10
    have HT10 := Lib.hid HT10
    clear hr hbut HT8 HP
    go_wp2_with fail
    go_ret2
    exact ⟨g, by first | (rw [HXN.out]; rfl) | (rw [HXN.out, show N = 8 from by assumption]; rfl), HT10.out.row, HT10.out.lt, HT10.out.bel⟩

end Ic
end Go.Proofs.YtapcjjhbdhkhhaaDoor
