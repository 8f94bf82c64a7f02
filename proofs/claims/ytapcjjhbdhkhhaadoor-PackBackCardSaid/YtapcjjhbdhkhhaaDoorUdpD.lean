/- Layer 6: the contract of package udp's Build. -/
import Derived.Test.YtapcjjhbdhkhhaaDoorUdpC
import Derived.Test.YtapcjjhbdhkhhaaDoorTcpD
set_option linter.unusedVariables false
set_option linter.unusedSimpArgs false
namespace Go.Proofs.YtapcjjhbdhkhhaaDoor
open Go.ChangeShapes Go.WideShapes Go.ChangeAt Go.RowKit Go.Mtl
namespace Ud
open TcpM (psB psN psN_le)
open UdpM (totU totU_le errU errU_le datB dat ckU ckU_le fullN two two_len row1)
open SumM (add add_le)
open IpM (word word_lt twoB fourB)
open Ip (ret_int MadeO Row But u8_info own_bts own_lit row_of_own)
open Tc (TAt)

/-- What Build answers. -/
def Built (W : World) (sr ds fr to : Nat) (x : List UInt8) (e : Ending) (w' : World) : Prop :=
  ∃ g, e = .returned (.tuple #[.slice (some ⟨g, 0, none⟩) (8 + x.length) (8 + x.length), .int .i64 0]) ∧ Row w' g (dat sr ds fr to x) ∧ W.heap.size ≤ g ∧ Below W.heap.size W w'

theorem build_long (sr ds fr to : Int) (A : Option Addr) (n c : Nat) (W : World) (hc : n ≤ c) (hm : c ≤ 9223372036854775807) (hn : 1472 < n) :
    Calls Tryd.prog 27 #[.int .u32 sr, .int .u32 ds, .int .u16 fr, .int .u16 to, .slice A n c] W fun e w' => e = .returned (.tuple #[.slice none 0 0, .int .i64 2]) ∧ Below W.heap.size W w' := by
  go_enter Tryd.func27, Tryd.ntmps27
  go_wp2_with fail
  go_ret2
  exact ⟨rfl, Below.refl _ _⟩

set_option maxHeartbeats 4000000 in
theorem build_ok (sr ds fr to : Nat) (A : Option Addr) (n c : Nat) (x : List UInt8) (B : Nat) (W : World) (hb : Bts W B A n x) (hB : B ≤ W.heap.size) (hc : n ≤ c) (hm : c ≤ 9223372036854775807) (hn : n ≤ 1472)
    (hsr : sr < 4294967296) (hds : ds < 4294967296) (hfr : fr < 65536) (hto : to < 65536) :
    Calls Tryd.prog 27 #[.int .u32 (sr : Int), .int .u32 (ds : Int), .int .u16 (fr : Int), .int .u16 (to : Int), .slice A n c] W (Built W sr ds fr to x) := by
  obtain ⟨i0, hi0, hz0, hz1, hz2⟩ := info_parts u8_info
  have HL := Lib.hid hb.len
  have HB1 := Lib.hid hb
  clear hb
  have e0 : (8 : Int) + n = ((8 + n : Nat) : Int) := by omega
  obtain ⟨N, hN⟩ : ∃ N, 8 + n = N := ⟨_, rfl⟩
  have HN := Lib.hid hN
  rw [hN] at e0
  have hN1 : 8 ≤ N := by omega
  have hN2 : N ≤ 1480 := by omega
  clear hN
  go_enter Tryd.func27, Tryd.ntmps27
  go_wp2_with (at_make; refine wpList_make_full _ rfl (.tmp 18) (.tmp 18) _ rfl W.heap.size 5 i0 _ 1 Tryd.underlying26 hi0 hz0 hz1 .i64 .i64 (N : Int) (N : Int) N rfl rfl rfl rfl (by rw [hz2]; omega) (by unfold maxLen; omega) (by simp) ?_
               intro w2 hown hgr
               rw [bvs_zeros] at hown
               have hb2 := (Below.refl W.heap.size W).grown hgr (Nat.le_refl _) (by simp)
               have HT2 : Hid (TAt W w2 B A n x W.heap.size (List.replicate N 0)) :=
                 ⟨row_of_own hown, Nat.le_refl _, hb2, HB1.out.below (hb2.mono hB), hB⟩
               clear hown hgr hb2)
  have hs1 : W.heap.size ≤ W.heap.size := Nat.le_refl _
  obtain ⟨g, hg⟩ : ∃ g, W.heap.size = g := ⟨_, rfl⟩
  rw [hg] at HT2 ⊢
  clear HB1 hs1
  have L2 : Hid ((List.replicate N (0 : UInt8)).length = N) := by show _ = _; simp
  go_at_call 44
  refine (put_any g N _ 0 fr w2 HT2.out.row L2.out (by omega) (by omega) hfr).mono ?_
  rintro e w3 ⟨rfl, hr, hbut⟩
  have HT3 := Lib.hid (HT2.out.but hr hbut)
  have L3 := Lib.hid ((two_len _ 0 fr).trans L2.out)
  clear hr hbut HT2 L2
  go_wp2_with fail
  go_at_call 44
  refine (put_any g N _ 2 to w3 HT3.out.row L3.out (by omega) (by omega) hto).mono ?_
  rintro e w4 ⟨rfl, hr, hbut⟩
  have HT4 := Lib.hid (HT3.out.but hr hbut)
  have L4 := Lib.hid ((two_len _ 2 to).trans L3.out)
  clear hr hbut HT3 L3
  go_wp2_with fail
  go_at_call 44
  refine (put_any g N _ 4 N w4 HT4.out.row L4.out (by omega) (by omega) (by omega)).mono ?_
  rintro e w5 ⟨rfl, hr, hbut⟩
  have HT5 := HT4.out.but hr hbut
  have L5 := (two_len _ 4 N).trans L4.out
  have HP : two (two (two (List.replicate N 0) 0 fr) 2 to) 4 N = row1 n fr to := by unfold row1; rw [HN.out]
  rw [HP] at HT5 L5
  have HT5 := Lib.hid HT5
  have L5 := Lib.hid L5
  have HP5 : Hid (over (row1 n fr to) 8 x = datB 0 fr to x) := UdpM.row2_is n fr to x HL.out
  have HXN : Hid (8 + x.length = N) := by show _ = _; rw [HL.out]; exact HN.out
  generalize row1 n fr to = l5 at HT5 L5 HP5
  clear hr hbut HT4 L4 HP
  go_wp2_with (refine at_slot 34 ?_
               refine wpList_copy_bts rfl (.tmp 32) (.tmp 33) _ _ rfl 5 Tryd.underlying26 (by kernel_rfl) (if N = 8 then some ⟨g, 0, none⟩ else some ⟨g, 8, none⟩) A g 8 (N - 8) (N - 8) n c B rfl rfl _ x 5 HT5.out.row HT5.out.bts (by have := HN.out; omega) (by have h1 := L5.out; have h2 := HN.out; omega) (fun h => if_neg (by have := HN.out; omega)) ?_
               intro w8 hr8 hg8
               have HT8 := HT5.out.but hr8 hg8
               rw [HP5.out] at HT8
               have HT8 := Lib.hid HT8
               clear hr8 hg8 HT5)
  all_goals
    obtain ⟨S, hS⟩ : ∃ S, datB 0 fr to x = S := ⟨_, rfl⟩
    have LS : Hid (S.length = N) := by show _ = _; rw [← hS, UdpM.datB_len, HXN.out]
    rw [hS] at HT8
    have HS := Lib.hid hS
    clear hS HP5
    obtain ⟨K, hK⟩ : ∃ K, fullN (totU sr ds S) = K := ⟨_, rfl⟩
    have hK2 : K < 65536 := by have := UdpM.fullN_le (totU sr ds S); omega
    have HK : Hid (K = ckU sr ds fr to x) := by show _ = _; unfold ckU; rw [HS.out, hK]
    have HT := Lib.hid (checksum_any sr ds (some ⟨g, 0, none⟩) N N S w8.heap.size w8 (by have h := HT8.out.row.bts; rw [LS.out] at h; exact h) (Nat.le_refl _) (Nat.le_refl _) (by omega) hsr hds)
    rw [hK] at HT
    clear hK
    refine Calls.mono (R := fun e w' => e = .returned (.int .u16 (K : Int)) ∧ Below w8.heap.size w8 w') (by first | (with_reducible exact HT.out) | (have h := HT.out; rw [show N = 8 from by assumption] at h; with_reducible exact h)) ?_
    rintro e w9 ⟨rfl, hb9⟩
    have HT9 := Lib.hid (HT8.out.below hb9)
    clear hb9 HT HT8
    go_wp2_with fail
    go_at_call 44
    have HP0 : Calls Tryd.prog 44 #[.slice (some ⟨g, 0, none⟩) N N, .int .i64 6, .int .u16 (K : Int)] w9 fun e w' => e = .returned (.tuple #[]) ∧ Row w' g (two S 6 K) ∧ But g w9 w' := put_any g N S 6 K w9 HT9.out.row LS.out (by omega) (by omega) hK2
    have HP := Lib.hid HP0
    clear HP0
    refine Calls.mono (R := fun e w' => e = .returned (.tuple #[]) ∧ Row w' g (two S 6 K) ∧ But g w9 w') (by first | (with_reducible exact HP.out) | (have h := HP.out; rw [show N = 8 from by assumption] at h; with_reducible exact h)) ?_
    rintro e w10 ⟨rfl, hr, hbut⟩
    have HT10 := HT9.out.but hr hbut
    have HF : Hid (two S 6 K = dat sr ds fr to x) := by
      show _ = _
      rw [← HS.out, HK.out]
      exact UdpM.row3_is _ fr to x
    rw [HF.out] at HT10
    have HT10 := Lib.hid HT10
    clear hr hbut HT9 HP
    go_wp2_with fail
    go_ret2
    exact ⟨g, by first | (rw [HXN.out]; rfl) | (rw [HXN.out, show N = 8 from by assumption]; rfl), HT10.out.row, HT10.out.lt, HT10.out.bel⟩

end Ud
end Go.Proofs.YtapcjjhbdhkhhaaDoor
