/- Layer 7: the contract of the reference's Parse. -/
import Derived.Test.YtjbdjplliieelaaDoorIcmpA
import Derived.Deep.QuietTactic
set_option linter.unusedVariables false
set_option linter.unusedSimpArgs false
namespace Go.Proofs.YtjbdjplliieelaaDoor
open Go.ChangeShapes Go.WideShapes Go.ChangeAt Go.RowKit Go.Mtl
namespace Ic
open IcM (echoB echo_yes echo_no errI errI_le msgB msg ckI two)
open SumM (add add_le)
open IpM (word word_lt twoB)
open Ip (ret_int MadeO Row But u8_info own_bts own_lit)

theorem two_int (A : Option Addr) (n c : Nat) (bs : List UInt8) (B : Nat) (a : Int) (W : World) (hb : Bts W B A n bs) (hc : n ≤ c) (hm : c ≤ 9223372036854775807) (h0 : 0 ≤ a) (h3 : a + 2 ≤ n) :
    Calls Tryd.prog 25 #[.slice A n c, .int .i64 a] W fun e w' => e = .returned (.int .i64 (word bs a.toNat : Int)) ∧ ∃ k, w' = W.drewN k := by
  obtain ⟨a, rfl⟩ := Int.eq_ofNat_of_zero_le h0
  exact Ip.two_any A n c bs B a W hb hc hm (by omega)

set_option maxHeartbeats 4000000 in
theorem refParse_any (A : Option Addr) (n c : Nat) (bs : List UInt8) (B : Nat) (W : World) (hb : Bts W B A n bs) (hB : B ≤ W.heap.size) (hc : n ≤ c) (hm : c ≤ 9223372036854775807) (hn : n ≤ 1000000) :
    Calls Tryd.prog 17 #[.slice A n c] W fun e w' => e = .returned (pV (errI bs) bs) ∧ Below W.heap.size W w' := by
  have hl := hb.len
  by_cases h8 : n < 8
  · have HF : Hid (errI bs = 4) := by show _ = _; unfold errI; rw [if_pos (by omega)]
    clear hb hl
    go_enter Tryd.func17, Tryd.ntmps17
    go_wp2_with fail
    exact bodyPost_ret (v := badV 4) (by simp [results, Tryd.results17, go_sem]) rfl ⟨by rw [HF.out]; rfl, Below.refl _ _⟩
  · have HT := Lib.hid (Sm.refAdd_any 0 A n c bs W B hb (by omega) hc (by omega) hm)
    have HB := Lib.hid hb
    have HW := Lib.hid (fun W hb => two_int A n c bs B 4 W hb hc hm (by omega) (by omega))
    have e4 : word bs (4 : Int).toNat = word bs 4 := rfl
    rw [e4] at HW
    have w4 := word_lt bs 4
    obtain ⟨b, off, rfl, hlt, hcell⟩ := hb.at_ (by omega)
    have c0 : W.cell? ⟨b, off, none⟩ = _ := hcell 0 (by omega)
    have c1 := hcell 1 (by omega)
    have h8n : 8 ≤ n := by omega
    clear h8
    have i0 : 0 < n := by omega
    have i1 : (1 : Int) < n := by omega
    have y0 := byt_lt bs 0
    have y1 := byt_lt bs 1
    have htl := add_le 0 bs
    have HE : Hid (errI bs = if add 0 bs = 65535 then (if echoB (byt bs 0) = true then (if byt bs 1 = 0 then 0 else 10) else 10) else 7) := by show _ = _; unfold errI; rw [if_neg (by omega)]
    clear hb hl hcell e4
    have HP : Hid (∀ er, er ≠ 0 → errI bs = er → Ending.returned (badV er) = Ending.returned (pV (errI bs) bs)) := by
      intro er h0 he; rw [he, pV_bad bs h0]
    have HO : Hid (errI bs = 0 → pV (errI bs) bs = okV bs) := fun he => pV_ok bs he
    unfold okV at HO
    generalize add 0 bs = t at HE HT htl
    generalize byt bs 0 = k at *
    generalize byt bs 1 = cd at *
    generalize word bs 4 = v at *
    by_cases h9 : t = 65535
    · have d7 : ((t : Int) != 65535) = false := by simp; omega
      cases hk : echoB k
      · have HF : Hid (errI bs = 10) := by show _ = _; rw [HE.out, if_pos h9, hk]; rfl
        have d8 : ((k : Int) != 8) = true := by have := (echo_no hk).1; simp; omega
        have d0 : ((k : Int) != 0) = true := by have := (echo_no hk).2; simp; omega
        clear h9 HE hk HW HO
        go_enter Tryd.func17, Tryd.ntmps17
        go_wp2_with fail
        go_at_call 26
        refine HT.out.mono ?_
        rintro e w1 ⟨rfl, rfl⟩
        go_wp2_with fail
        exact bodyPost_ret (v := badV 10) (by simp [results, Tryd.results17, go_sem]) rfl ⟨HP.out _ (by omega) HF.out, Below.refl _ _⟩
      · by_cases hcd : cd = 0
        · have HF : Hid (errI bs = 0) := by show _ = _; rw [HE.out, if_pos h9, if_pos hk, if_pos hcd]
          have HV := Lib.hid (HO.out HF.out)
          have dc : ((cd : Int) != 0) = false := by simp; omega
          rcases echo_yes hk with rfl | rfl
          all_goals
            clear h9 HE hk HO HP hcd
            go_enter Tryd.func17, Tryd.ntmps17
            go_wp2_with fail
            go_at_call 26
            refine HT.out.mono ?_
            rintro e w1 ⟨rfl, rfl⟩
            go_wp2_with fail
            go_quiet ((go_at_call 25; exact Calls.quiet_of (HW.out _ (HB.out.drewN _))))
            go_wp2_with fail
            exact bodyPost_ret (v := pV (errI bs) bs) (by rw [HV.out]; simp [results, Tryd.results17, go_sem]) rfl ⟨rfl, below_drewN' (Below.refl _ _) _⟩
        · have HF : Hid (errI bs = 10) := by show _ = _; rw [HE.out, if_pos h9, if_pos hk, if_neg hcd]
          have dc : ((cd : Int) != 0) = true := by simp; omega
          rcases echo_yes hk with rfl | rfl
          all_goals
            clear h9 HE hk HO HW hcd
            go_enter Tryd.func17, Tryd.ntmps17
            go_wp2_with fail
            go_at_call 26
            refine HT.out.mono ?_
            rintro e w1 ⟨rfl, rfl⟩
            go_wp2_with fail
            exact bodyPost_ret (v := badV 10) (by simp [results, Tryd.results17, go_sem]) rfl ⟨HP.out _ (by omega) HF.out, Below.refl _ _⟩
    · have d7 : ((t : Int) != 65535) = true := by simp; omega
      have HF : Hid (errI bs = 7) := by show _ = _; rw [HE.out, if_neg h9]
      clear h9 HE HO HW
      go_enter Tryd.func17, Tryd.ntmps17
      go_wp2_with fail
      go_at_call 26
      refine HT.out.mono ?_
      rintro e w1 ⟨rfl, rfl⟩
      go_wp2_with fail
      exact bodyPost_ret (v := badV 7) (by simp [results, Tryd.results17, go_sem]) rfl ⟨HP.out _ (by omega) HF.out, Below.refl _ _⟩

end Ic
end Go.Proofs.YtjbdjplliieelaaDoor
