/- Layer 20: the walk of TablePlays. (Written by wip/tools/mkTabZ.py.) -/
import Derived.Test.YtgcnhbjoalemlaaJ37
import Derived.Deep.CutBlock
import Derived.Deep.DeepCutAuto
set_option linter.unusedVariables false
set_option linter.unusedSimpArgs false
set_option maxRecDepth 100000
namespace Go.Proofs.Ytgcnhbjoalemlaa
open Go.ChangeShapes Go.WideShapes Go.ChangeAt Go.RowKit Go.Mtl Go.Lib
namespace Tb
open TabM
open KeyM (isPow hashN strN)
open MemM (Ms holdV touchS newS lockS lockB unlockS unlockV say has at_)
open Me (ptr)
set_option maxHeartbeats 2000000 in
theorem tablePlays_no (z : Int) (A : Option Addr) (len cap : Nat) (W : World) (hz : -9223372036854775808 ≤ z ∧ z ≤ 9223372036854775807) (hP : isPow z = false) :
    Calls Try.prog 3 #[.int .i64 z, .slice A len cap] W fun e w' => e = .returned (.bool true) ∧ Below W.heap.size W w' := by
  go_enter Try.func3, Try.ntmps3
  go_wp2_with fail
  go_at_call 6
  refine (Me.new_any 0 16 _).mono ?_
  rintro e w0 ⟨Om, mb, rfl, hm, hb, hO⟩
  have HM0 := Lib.hid hm
  have HB0 := Lib.hid hb
  have HO0 := Lib.hid hO
  clear hm hb hO
  go_wp2_with fail
  go_at_call 7
  refine (Me.refNew_any 0 16 _).mono ?_
  rintro e w1 ⟨Oq, rb, rfl, hm, hb, hO⟩
  have HM1 := Lib.hid hm
  have HB1 := Lib.hid hb
  have HO1 := Lib.hid hO
  clear hm hb hO
  have HBE := Lib.hid (HB0.out.trans (HB1.out.mono HB0.out.size))
  clear HM0 HM1 HB0 HB1 HO0 HO1
  go_wp2_with fail
  go_at_call 8
  refine (new_no _ mb z hz hP).mono ?_
  rintro e w2 ⟨rfl, rfl⟩
  go_wp2_with fail
  go_at_call 9
  refine (R.new_no rb z hP _).mono ?_
  rintro e w2 ⟨rfl, rfl⟩
  go_wp2_with fail
  go_at_call 10
  refine (awake_any _).mono ?_
  rintro e w2 ⟨rfl, hb⟩
  have HBF := Lib.hid (HBE.out.trans (hb.mono HBE.out.size))
  clear hb HBE
  go_wp2_with fail
  go_ret
  exact ⟨rfl, HBF.out⟩
set_option maxHeartbeats 8000000 in
theorem tablePlays_yes (n : Nat) (hP : isPow (n : Int) = true) (A : Option Addr) (len cap : Nat) (xs : List Dt) (W : World) (hx : xs.length = len ∧ Dts W W.heap.size (.slice A len cap) xs ∧ ∀ y ∈ xs, y.Ok) :
    Calls Try.prog 3 #[.int .i64 (n : Int), .slice A len cap] W fun e w' => e = .returned (.bool true) ∧ Below W.heap.size W w' := by
  obtain ⟨hl, hd, ho⟩ := hx
  have HD : Hid (∀ W', Below W.heap.size W W' → Dts W' W.heap.size (.slice A len cap) xs) := fun W' h => hd.below h
  have HL := Lib.hid hl
  have HO := Lib.hid ho
  obtain ⟨hcl, hcc⟩ : len ≤ cap ∧ cap ≤ 9223372036854775807 := by obtain ⟨A', c', e, h1, h2, _⟩ := hd; injection e with _ e2 e3; subst e3; exact ⟨by omega, h2⟩
  clear hd hl ho
  go_enter Try.func3, Try.ntmps3
  go_wp2_with fail
  go_at_call 6
  refine (Me.new_any 0 16 _).mono ?_
  rintro e w0 ⟨Om, mb, rfl, hm, hb, hO⟩
  have HM0 := Lib.hid hm
  have HB0 := Lib.hid hb
  have HO0 := Lib.hid hO
  clear hm hb hO
  go_wp2_with fail
  go_at_call 7
  refine (Me.refNew_any 0 16 _).mono ?_
  rintro e w1 ⟨Oq, rb, rfl, hm, hb, hO⟩
  have HM1 := Lib.hid hm
  have HB1 := Lib.hid hb
  have HO1 := Lib.hid hO
  clear hm hb hO
  have hbd := KeyM.isPow_bd hP
  go_wp2_with fail
  go_at_call 8
  refine (new_ok w1 mb n hP).mono ?_
  rintro e w2 ⟨Ot, B, rfl, ht, hb, hO⟩
  have HM2 := Lib.hid ht
  have HB2 := Lib.hid hb
  have HO2 := Lib.hid hO
  clear ht hb hO
  go_wp2_with fail
  go_at_call 9
  refine (R.new_ok rb n hP w2).mono ?_
  rintro e w3 ⟨Ou, C, rfl, ht, hb, hO⟩
  have H1 : Hid (P2 (fw W) mb B rb C n (newS 0 16) [] (newS 0 16) [] w3) := by
    have hm0 := HM0.out
    have hm1 := HM1.out
    have b01 := HB0.out.trans (HB1.out.mono HB0.out.size)
    have b02 := b01.trans (HB2.out.mono b01.size)
    have g1 := HB1.out.size
    have g2 := HB2.out.size
    refine ⟨Om, Ot, Oq, Ou, (TM.make (hm0.next HB1.out) b01 HO0.out HM2.out HB2.out HO2.out).next hb, rm_make (hm1.next HB2.out) b02 (fun j hj => Nat.le_trans HB0.out.size (HO1.out j hj)) ht hb hO, fun j hj hq => ?_⟩
    have u1 : ∀ j, Om j → j < w0.heap.size := hm0.lt
    have u2 : ∀ j, Oq j → j < w1.heap.size := hm1.lt
    have u3 : ∀ j, Ot j → j < w2.heap.size := HM2.out.lt_
    rcases hj with hj | hj <;> rcases hq with hq | hq
    · have := u1 j hj; have := HO1.out j hq; omega
    · have := u1 j hj; have := hO j hq; omega
    · have := HO2.out j hj; have := u2 j hq; omega
    · have := u3 j hj; have := hO j hq; omega
  clear ht hb hO HM0 HM1 HM2 HB0 HB1 HB2 HO0 HO1 HO2
  go_wp2_with fail
  go_loopw [9] (fun vi wr => ∃ (i : Nat) (ms : Ms) (fs : List Fl), vi = .int .i64 (i : Int) ∧ i ≤ len ∧ i ≤ 80 ∧ Hid (P2 (fw W) mb B rb C n ms fs ms fs wr) ∧ Hid (ms.ls.length ≤ i ∧ fs.length ≤ i)) (fun vi _ => 80 - (RowKit.intOf vi).toNat)
  case atStart => exact ⟨0, _, [], rfl, by omega, by omega, H1, ⟨Nat.le_refl _, Nat.le_refl _⟩⟩
  case round =>
    clear H1
    obtain ⟨i, ms, fs, rfl, hi1, hi2, HM, HI⟩ := hrel
    by_cases h12 : i < len ∧ i < 80
    · obtain ⟨h1, h2⟩ := h12
      · obtain ⟨y, hy⟩ : ∃ y, xs[i]? = some y := ⟨_, List.getElem?_eq_getElem (by rw [HL.out]; exact h1)⟩
        obtain ⟨b, off, c, ev, -, -, hbW, hr⟩ := (HD.out _ HM.out.bel).at_ HL.out hy
        injection ev with ev _ ec
        subst ev ec
        have HYO : Hid y.Ok := HO.out y (List.mem_of_getElem? hy)
        obtain ⟨x0, x1, x2, x3, x4, x5, x6, x7, x8⟩ := nine_of hr
        clear hr hy hbW
        go_upto_block 2 with fail
        have HA : Hid (P2 ((fw W).add wr.heap.size (.cells (dtC y) 39)) mb B rb C n ms fs ms fs (wr.alloc (.cells (dtC y) 39))) := HM.out.add _
        obtain ⟨fr, hfr⟩ : ∃ v, (fw W).add wr.heap.size (.cells (dtC y) 39) = v := ⟨_, rfl⟩
        have HNF : Hid (∀ ms fs ms2 fs2 w', P2 fr mb B rb C n ms fs ms2 fs2 w' → Nine w' wr.heap.size 0 y) := fun ms fs ms2 fs2 w' h => by
          rw [← hfr] at h
          exact h.nine
        have HDR : Hid (∀ ms fs w', P2 fr mb B rb C n ms fs ms fs w' → P2 (fw W) mb B rb C n ms fs ms fs w') := fun ms fs w' h => by
          rw [← hfr] at h
          exact h.drop
        rw [hfr] at HA
        clear hfr x0 x1 x2 x3 x4 x5 x6 x7 x8
        obtain ⟨wa, hwa⟩ : ∃ v, wr.alloc (.cells #[.int .u8 (y.kd : Int), .int .i64 y.th, .int .i64 y.at_, .int .u32 (y.k.a : Int), .int .u32 (y.k.b : Int), .int .u16 (y.k.p : Int), .int .u16 (y.k.q : Int), .int .u8 (y.k.r : Int), .bool y.tn] 39) = v := ⟨_, rfl⟩
        have HW : Hid (P2 fr mb B rb C n ms fs ms fs wa) := by rw [← hwa]; exact HA
        obtain ⟨g, hg⟩ : ∃ v, wr.heap.size = v := ⟨_, rfl⟩
        rw [hwa, hg]
        rw [hg] at HNF
        clear hwa hg HA HM
        obtain ⟨hls, hfl⟩ := HI.out
        have HLS : Hid (ms.ls.length ≤ 1000000000000) := Lib.hid (by omega)
        have HFL : Hid (fs.length ≤ 100000) := Lib.hid (by omega)
        have HLI := Lib.hid hls
        have HFI := Lib.hid hfl
        clear hls hfl HI
        go_cut [11, 12, 13, 14, 15, 16, 17, 18, 19, 20, 21, 22, 23] from 41 to 204 (fun vok s12 s13 s14 s15 s16 s17 s18 s19 s20 s21 s22 s23 wx => vok = .bool true ∧ Hid (∃ ms' fs', P2 (fw W) mb B rb C n ms' fs' ms' fs' wx ∧ ms'.ls.length ≤ i + 1 ∧ fs'.length ≤ i + 1))
        case first =>
          rcases (by omega : (y.kd : Int) % 8 = 0 ∨ (y.kd : Int) % 8 = 1 ∨ ((y.kd : Int) % 8 = 2 ∨ (y.kd : Int) % 8 = 3) ∨ (y.kd : Int) % 8 = 4 ∨ (y.kd : Int) % 8 = 5 ∨ ((y.kd : Int) % 8 = 6 ∨ (y.kd : Int) % 8 = 7)) with hq | hq | hq | hq | hq | hq
          · as_aux_lemma =>
              obtain ⟨bv, ms', fs', hbo⟩ : ∃ bv ms' fs', Both fr mb B rb C n ms fs (.bool bv) ms' fs' 11 12 [.int .i64 y.th, .int .i64 y.at_] mb rb := ⟨_, _, _, lock2 y.th y.at_ HYO.out.th.2 HLS.out⟩
              have HBO := Lib.hid hbo
              clear hbo
              have HV := Lib.hid (HW.out.next (Below.refl _ _).drew)
              go_wp2_with fail
              refine wp_region_held_drew (S := fun w' => Hid (∃ ms fs ms2 fs2, P2 fr mb B rb C n ms fs ms2 fs2 w')) (by kernel_rfl) (Lib.hid ⟨_, _, _, _, HV.out⟩) (fun hH => ?_)
              refine wpAnyH_take (i := 0) (oi := ⟨some 100, _, _, _, _, _⟩) (v := ?v1001) rfl (by kernel_rfl) (by kernel_rfl) (by kernel_rfl) (fun _ _ _ h => h) (Or.inl ⟨rfl, ?c1001⟩) hH ?r1001
              case c1001 => (intro w' _; go_simp; (try with_reducible rfl))
              try simp only [Act.put, List.setIfInBounds_toArray, List.set_cons_zero, List.set_cons_succ]
              refine wpAnyH_take (i := 1) (oi := ⟨some 101, _, _, _, _, _⟩) (v := ?v1002) rfl (by kernel_rfl) (by kernel_rfl) (by kernel_rfl) (fun _ _ _ h => h) (Or.inl ⟨rfl, ?c1002⟩) hH ?r1002
              case c1002 => (intro w' _; go_simp; (try with_reducible rfl))
              try simp only [Act.put, List.setIfInBounds_toArray, List.set_cons_zero, List.set_cons_succ]
              refine wpAnyH_take (i := 2) (oi := ⟨some 102, _, _, _, _, _⟩) (v := ?v1003) rfl (by kernel_rfl) (by kernel_rfl) (by kernel_rfl) (fun _ _ _ h => h) (Or.inl ⟨rfl, ?c1003⟩) hH ?r1003
              case c1003 => (intro w' hS; obtain ⟨_, _, _, _, hS⟩ := hS.out; obtain ⟨x0, x1, x2, x3, x4, x5, x6, x7, x8⟩ := HNF.out _ _ _ _ _ hS; go_simp; (try with_reducible rfl))
              try simp only [Act.put, List.setIfInBounds_toArray, List.set_cons_zero, List.set_cons_succ]
              refine wpAnyH_take (i := 3) (oi := ⟨some 103, _, _, _, _, _⟩) (v := ?v1004) rfl (by kernel_rfl) (by kernel_rfl) (by kernel_rfl) (fun _ _ _ h => h) (Or.inl ⟨rfl, ?c1004⟩) hH ?r1004
              case c1004 => (intro w' _; go_simp; (try with_reducible rfl))
              try simp only [Act.put, List.setIfInBounds_toArray, List.set_cons_zero, List.set_cons_succ]
              refine wpAnyH_take (i := 4) (oi := ⟨some 104, _, _, _, _, _⟩) (v := ?v1005) rfl (by kernel_rfl) (by kernel_rfl) (by kernel_rfl) (fun _ _ _ h => h) (Or.inl ⟨rfl, ?c1005⟩) hH ?r1005
              case c1005 => (intro w' hS; obtain ⟨_, _, _, _, hS⟩ := hS.out; obtain ⟨x0, x1, x2, x3, x4, x5, x6, x7, x8⟩ := HNF.out _ _ _ _ _ hS; go_simp; (try with_reducible rfl))
              try simp only [Act.put, List.setIfInBounds_toArray, List.set_cons_zero, List.set_cons_succ]
              refine wpAnyH_take (i := 6) (oi := ⟨some 106, _, _, _, _, _⟩) (v := ?v1006) rfl (by kernel_rfl) (by kernel_rfl) (by kernel_rfl) (fun _ _ _ h => h) (Or.inl ⟨rfl, ?c1006⟩) hH ?r1006
              case c1006 => (intro w' _; go_simp; (try with_reducible rfl))
              try simp only [Act.put, List.setIfInBounds_toArray, List.set_cons_zero, List.set_cons_succ]
              refine wpAnyH_take (i := 7) (oi := ⟨some 107, _, _, _, _, _⟩) (v := ?v1007) rfl (by kernel_rfl) (by kernel_rfl) (by kernel_rfl) (fun _ _ _ h => h) (Or.inl ⟨rfl, ?c1007⟩) hH ?r1007
              case c1007 => (intro w' _; go_simp; (try with_reducible rfl))
              try simp only [Act.put, List.setIfInBounds_toArray, List.set_cons_zero, List.set_cons_succ]
              refine wpAnyH_take (i := 8) (oi := ⟨some 108, _, _, _, _, _⟩) (v := ?v1008) rfl (by kernel_rfl) (by kernel_rfl) (by kernel_rfl) (fun _ _ _ h => h) (Or.inl ⟨rfl, ?c1008⟩) hH ?r1008
              case c1008 => (intro w' hS; obtain ⟨_, _, _, _, hS⟩ := hS.out; obtain ⟨x0, x1, x2, x3, x4, x5, x6, x7, x8⟩ := HNF.out _ _ _ _ _ hS; go_simp; (try with_reducible rfl))
              try simp only [Act.put, List.setIfInBounds_toArray, List.set_cons_zero, List.set_cons_succ]
              refine wpAnyH_take (i := 9) (oi := ⟨some 109, _, _, _, _, _⟩) (v := ?v1009) rfl (by kernel_rfl) (by kernel_rfl) (by kernel_rfl) (fun _ _ _ h => h) (Or.inl ⟨rfl, ?c1009⟩) hH ?r1009
              case c1009 => (intro w' _; go_simp; (try with_reducible rfl))
              try simp only [Act.put, List.setIfInBounds_toArray, List.set_cons_zero, List.set_cons_succ]
              refine wpAnyH_take (i := 10) (oi := ⟨some 110, _, _, _, _, _⟩) (v := ?v1010) rfl (by kernel_rfl) (by kernel_rfl) (by kernel_rfl) (fun _ _ _ h => h) (Or.inl ⟨rfl, ?c1010⟩) hH ?r1010
              case c1010 => (intro w' hS; obtain ⟨_, _, _, _, hS⟩ := hS.out; obtain ⟨x0, x1, x2, x3, x4, x5, x6, x7, x8⟩ := HNF.out _ _ _ _ _ hS; go_simp; (try with_reducible rfl))
              try simp only [Act.put, List.setIfInBounds_toArray, List.set_cons_zero, List.set_cons_succ]
              refine wpAnyH_ready (rs := [5]) (by kernel_rfl) (by simp) (AllReadyH.cons rfl (fun K hK => ?_) (AllReadyH.nil))
              go_simp
              go_at_call 11
              refine (HBO.out.t _ HV.out).mono ?_
              rintro e w4 ⟨rfl, h⟩
              refine hK.out _ _ (Lib.hid ⟨_, _, _, _, h⟩) (fun hH => ?_)
              clear hK K
              have H4 := Lib.hid h
              clear h
              try simp only [Act.put, List.setIfInBounds_toArray, List.set_cons_zero, List.set_cons_succ]
              refine wpAnyH_ready (rs := [11]) (by kernel_rfl) (by simp) (AllReadyH.cons rfl (fun K hK => ?_) (AllReadyH.nil))
              go_simp
              go_at_call 12
              refine (HBO.out.u _ H4.out).mono ?_
              rintro e w4 ⟨rfl, h⟩
              refine hK.out _ _ (Lib.hid ⟨_, _, _, _, h⟩) (fun hH => ?_)
              clear hK K
              have H5 := Lib.hid h
              clear h
              try simp only [Act.put, List.setIfInBounds_toArray, List.set_cons_zero, List.set_cons_succ]
              refine wpAnyH_take (i := 12) (oi := ⟨some 112, _, _, _, _, _⟩) (v := ?v1011) rfl (by kernel_rfl) (by kernel_rfl) (by kernel_rfl) (fun _ _ _ h => h) (Or.inl ⟨rfl, ?c1011⟩) hH ?r1011
              case c1011 => (intro w' _; go_simp; (try with_reducible rfl))
              try simp only [Act.put, List.setIfInBounds_toArray, List.set_cons_zero, List.set_cons_succ]
              refine wpAnyH_take (i := 13) (oi := ⟨some 11, _, _, _, _, _⟩) (v := ?v1012) rfl (by kernel_rfl) (by kernel_rfl) (by kernel_rfl) (fun _ _ _ h => h) (Or.inl ⟨rfl, ?c1012⟩) hH ?r1012
              case c1012 => (intro w' _; go_simp; (try with_reducible rfl))
              try simp only [Act.put, List.setIfInBounds_toArray, List.set_cons_zero, List.set_cons_succ]
              refine wpAnyH_done (by kernel_rfl) ?_ _
              go_wp2_with fail
              go_meet
              exact ⟨by simp, Lib.hid ⟨_, _, HDR.out _ _ _ H5.out, Nat.le_trans HBO.out.ls (Nat.succ_le_succ HLI.out), Nat.le_trans HBO.out.fl (Nat.succ_le_succ HFI.out)⟩⟩
          · as_aux_lemma =>
              obtain ⟨ve, ms', fs', hbo⟩ : ∃ ve ms' fs', Both fr mb B rb C n ms fs (.int .i64 ve) ms' fs' 13 14 [.int .i64 y.th, .int .i64 y.at_] mb rb := ⟨_, _, _, unlock2 y.th y.at_ HYO.out.th.2 HLS.out⟩
              have HBO := Lib.hid hbo
              clear hbo
              have HV := Lib.hid (HW.out.next (Below.refl _ _).drew)
              go_wp2_with fail
              refine wp_region_held_drew (S := fun w' => Hid (∃ ms fs ms2 fs2, P2 fr mb B rb C n ms fs ms2 fs2 w')) (by kernel_rfl) (Lib.hid ⟨_, _, _, _, HV.out⟩) (fun hH => ?_)
              refine wpAnyH_take (i := 0) (oi := ⟨some 115, _, _, _, _, _⟩) (v := ?v2001) rfl (by kernel_rfl) (by kernel_rfl) (by kernel_rfl) (fun _ _ _ h => h) (Or.inl ⟨rfl, ?c2001⟩) hH ?r2001
              case c2001 => (intro w' _; go_simp; (try with_reducible rfl))
              try simp only [Act.put, List.setIfInBounds_toArray, List.set_cons_zero, List.set_cons_succ]
              refine wpAnyH_take (i := 1) (oi := ⟨some 116, _, _, _, _, _⟩) (v := ?v2002) rfl (by kernel_rfl) (by kernel_rfl) (by kernel_rfl) (fun _ _ _ h => h) (Or.inl ⟨rfl, ?c2002⟩) hH ?r2002
              case c2002 => (intro w' _; go_simp; (try with_reducible rfl))
              try simp only [Act.put, List.setIfInBounds_toArray, List.set_cons_zero, List.set_cons_succ]
              refine wpAnyH_take (i := 2) (oi := ⟨some 117, _, _, _, _, _⟩) (v := ?v2003) rfl (by kernel_rfl) (by kernel_rfl) (by kernel_rfl) (fun _ _ _ h => h) (Or.inl ⟨rfl, ?c2003⟩) hH ?r2003
              case c2003 => (intro w' hS; obtain ⟨_, _, _, _, hS⟩ := hS.out; obtain ⟨x0, x1, x2, x3, x4, x5, x6, x7, x8⟩ := HNF.out _ _ _ _ _ hS; go_simp; (try with_reducible rfl))
              try simp only [Act.put, List.setIfInBounds_toArray, List.set_cons_zero, List.set_cons_succ]
              refine wpAnyH_take (i := 3) (oi := ⟨some 118, _, _, _, _, _⟩) (v := ?v2004) rfl (by kernel_rfl) (by kernel_rfl) (by kernel_rfl) (fun _ _ _ h => h) (Or.inl ⟨rfl, ?c2004⟩) hH ?r2004
              case c2004 => (intro w' _; go_simp; (try with_reducible rfl))
              try simp only [Act.put, List.setIfInBounds_toArray, List.set_cons_zero, List.set_cons_succ]
              refine wpAnyH_take (i := 4) (oi := ⟨some 119, _, _, _, _, _⟩) (v := ?v2005) rfl (by kernel_rfl) (by kernel_rfl) (by kernel_rfl) (fun _ _ _ h => h) (Or.inl ⟨rfl, ?c2005⟩) hH ?r2005
              case c2005 => (intro w' hS; obtain ⟨_, _, _, _, hS⟩ := hS.out; obtain ⟨x0, x1, x2, x3, x4, x5, x6, x7, x8⟩ := HNF.out _ _ _ _ _ hS; go_simp; (try with_reducible rfl))
              try simp only [Act.put, List.setIfInBounds_toArray, List.set_cons_zero, List.set_cons_succ]
              refine wpAnyH_take (i := 6) (oi := ⟨some 121, _, _, _, _, _⟩) (v := ?v2006) rfl (by kernel_rfl) (by kernel_rfl) (by kernel_rfl) (fun _ _ _ h => h) (Or.inl ⟨rfl, ?c2006⟩) hH ?r2006
              case c2006 => (intro w' _; go_simp; (try with_reducible rfl))
              try simp only [Act.put, List.setIfInBounds_toArray, List.set_cons_zero, List.set_cons_succ]
              refine wpAnyH_take (i := 7) (oi := ⟨some 122, _, _, _, _, _⟩) (v := ?v2007) rfl (by kernel_rfl) (by kernel_rfl) (by kernel_rfl) (fun _ _ _ h => h) (Or.inl ⟨rfl, ?c2007⟩) hH ?r2007
              case c2007 => (intro w' _; go_simp; (try with_reducible rfl))
              try simp only [Act.put, List.setIfInBounds_toArray, List.set_cons_zero, List.set_cons_succ]
              refine wpAnyH_take (i := 8) (oi := ⟨some 123, _, _, _, _, _⟩) (v := ?v2008) rfl (by kernel_rfl) (by kernel_rfl) (by kernel_rfl) (fun _ _ _ h => h) (Or.inl ⟨rfl, ?c2008⟩) hH ?r2008
              case c2008 => (intro w' hS; obtain ⟨_, _, _, _, hS⟩ := hS.out; obtain ⟨x0, x1, x2, x3, x4, x5, x6, x7, x8⟩ := HNF.out _ _ _ _ _ hS; go_simp; (try with_reducible rfl))
              try simp only [Act.put, List.setIfInBounds_toArray, List.set_cons_zero, List.set_cons_succ]
              refine wpAnyH_take (i := 9) (oi := ⟨some 124, _, _, _, _, _⟩) (v := ?v2009) rfl (by kernel_rfl) (by kernel_rfl) (by kernel_rfl) (fun _ _ _ h => h) (Or.inl ⟨rfl, ?c2009⟩) hH ?r2009
              case c2009 => (intro w' _; go_simp; (try with_reducible rfl))
              try simp only [Act.put, List.setIfInBounds_toArray, List.set_cons_zero, List.set_cons_succ]
              refine wpAnyH_take (i := 10) (oi := ⟨some 125, _, _, _, _, _⟩) (v := ?v2010) rfl (by kernel_rfl) (by kernel_rfl) (by kernel_rfl) (fun _ _ _ h => h) (Or.inl ⟨rfl, ?c2010⟩) hH ?r2010
              case c2010 => (intro w' hS; obtain ⟨_, _, _, _, hS⟩ := hS.out; obtain ⟨x0, x1, x2, x3, x4, x5, x6, x7, x8⟩ := HNF.out _ _ _ _ _ hS; go_simp; (try with_reducible rfl))
              try simp only [Act.put, List.setIfInBounds_toArray, List.set_cons_zero, List.set_cons_succ]
              refine wpAnyH_ready (rs := [5]) (by kernel_rfl) (by simp) (AllReadyH.cons rfl (fun K hK => ?_) (AllReadyH.nil))
              go_simp
              go_at_call 13
              refine (HBO.out.t _ HV.out).mono ?_
              rintro e w4 ⟨rfl, h⟩
              refine hK.out _ _ (Lib.hid ⟨_, _, _, _, h⟩) (fun hH => ?_)
              clear hK K
              have H4 := Lib.hid h
              clear h
              try simp only [Act.put, List.setIfInBounds_toArray, List.set_cons_zero, List.set_cons_succ]
              refine wpAnyH_ready (rs := [11]) (by kernel_rfl) (by simp) (AllReadyH.cons rfl (fun K hK => ?_) (AllReadyH.nil))
              go_simp
              go_at_call 14
              refine (HBO.out.u _ H4.out).mono ?_
              rintro e w4 ⟨rfl, h⟩
              refine hK.out _ _ (Lib.hid ⟨_, _, _, _, h⟩) (fun hH => ?_)
              clear hK K
              have H5 := Lib.hid h
              clear h
              try simp only [Act.put, List.setIfInBounds_toArray, List.set_cons_zero, List.set_cons_succ]
              refine wpAnyH_take (i := 12) (oi := ⟨some 127, _, _, _, _, _⟩) (v := ?v2011) rfl (by kernel_rfl) (by kernel_rfl) (by kernel_rfl) (fun _ _ _ h => h) (Or.inl ⟨rfl, ?c2011⟩) hH ?r2011
              case c2011 => (intro w' _; go_simp; (try with_reducible rfl))
              try simp only [Act.put, List.setIfInBounds_toArray, List.set_cons_zero, List.set_cons_succ]
              refine wpAnyH_take (i := 13) (oi := ⟨some 11, _, _, _, _, _⟩) (v := ?v2012) rfl (by kernel_rfl) (by kernel_rfl) (by kernel_rfl) (fun _ _ _ h => h) (Or.inl ⟨rfl, ?c2012⟩) hH ?r2012
              case c2012 => (intro w' _; go_simp; (try with_reducible rfl))
              try simp only [Act.put, List.setIfInBounds_toArray, List.set_cons_zero, List.set_cons_succ]
              refine wpAnyH_done (by kernel_rfl) ?_ _
              go_wp2_with fail
              go_meet
              exact ⟨by simp, Lib.hid ⟨_, _, HDR.out _ _ _ H5.out, Nat.le_trans HBO.out.ls (Nat.succ_le_succ HLI.out), Nat.le_trans HBO.out.fl (Nat.succ_le_succ HFI.out)⟩⟩
          · as_aux_lemma =>
              have e0 : ((y.kd : Int) % 8 == 0) = false := by simp; omega
              have e1 : ((y.kd : Int) % 8 == 1) = false := by simp; omega
              obtain ⟨ve, ms', fs', hbo⟩ := put2 (w := fr) (mb := mb) (B := B) (rb := rb) (C := C) (n := n) HLS.out HFL.out y.th y.k HYO.out.k y.at_ y.tn HYO.out.at_
              have HBO := Lib.hid hbo
              clear hbo
              have HV := Lib.hid (HW.out.next (Below.refl _ _).drew)
              obtain ⟨c2, hc2⟩ : ∃ c, ((y.kd : Int) % 8 == 2) = c := ⟨_, rfl⟩
              go_upto_if 128 with fail
              go_cut [128] (fun s wx => s = .bool true ∧ wx = wa)
              case first =>
                rcases hq with hq | hq
                · have e2 : ((y.kd : Int) % 8 == 2) = true := by simp; omega
                  obtain rfl := hc2.symm.trans e2
                  clear hq
                  go_wp2_with fail
                  go_meet
                  exact ⟨rfl, rfl⟩
                · have e2 : ((y.kd : Int) % 8 == 2) = false := by simp; omega
                  have e3 : ((y.kd : Int) % 8 == 3) = true := by simp; omega
                  obtain rfl := hc2.symm.trans e2
                  clear hq
                  go_wp2_with fail
                  go_meet
                  exact ⟨rfl, rfl⟩
              case rest =>
                obtain ⟨rfl, hwc⟩ := hcut
                rw [hwc]
                clear hq e0 e1 hwc hc2
                go_wp2_with fail
                refine wp_region_held_drew (S := fun w' => Hid (∃ ms fs ms2 fs2, P2 fr mb B rb C n ms fs ms2 fs2 w')) (by kernel_rfl) (Lib.hid ⟨_, _, _, _, HV.out⟩) (fun hH => ?_)
                refine wpAnyH_take (i := 0) (oi := ⟨some 131, _, _, _, _, _⟩) (v := ?v3001) rfl (by kernel_rfl) (by kernel_rfl) (by kernel_rfl) (fun _ _ _ h => h) (Or.inl ⟨rfl, ?c3001⟩) hH ?r3001
                case c3001 => (intro w' _; go_simp; (try with_reducible rfl))
                try simp only [Act.put, List.setIfInBounds_toArray, List.set_cons_zero, List.set_cons_succ]
                refine wpAnyH_take (i := 1) (oi := ⟨some 132, _, _, _, _, _⟩) (v := ?v3002) rfl (by kernel_rfl) (by kernel_rfl) (by kernel_rfl) (fun _ _ _ h => h) (Or.inl ⟨rfl, ?c3002⟩) hH ?r3002
                case c3002 => (intro w' _; go_simp; (try with_reducible rfl))
                try simp only [Act.put, List.setIfInBounds_toArray, List.set_cons_zero, List.set_cons_succ]
                refine wpAnyH_take (i := 2) (oi := ⟨some 133, _, _, _, _, _⟩) (v := ?v3003) rfl (by kernel_rfl) (by kernel_rfl) (by kernel_rfl) (fun _ _ _ h => h) (Or.inl ⟨rfl, ?c3003⟩) hH ?r3003
                case c3003 => (intro w' hS; obtain ⟨_, _, _, _, hS⟩ := hS.out; obtain ⟨x0, x1, x2, x3, x4, x5, x6, x7, x8⟩ := HNF.out _ _ _ _ _ hS; go_simp; (try with_reducible rfl))
                try simp only [Act.put, List.setIfInBounds_toArray, List.set_cons_zero, List.set_cons_succ]
                refine wpAnyH_take (i := 3) (oi := ⟨some 134, _, _, _, _, _⟩) (v := ?v3004) rfl (by kernel_rfl) (by kernel_rfl) (by kernel_rfl) (fun _ _ _ h => h) (Or.inl ⟨rfl, ?c3004⟩) hH ?r3004
                case c3004 => (intro w' _; go_simp; (try with_reducible rfl))
                try simp only [Act.put, List.setIfInBounds_toArray, List.set_cons_zero, List.set_cons_succ]
                refine wpAnyH_take (i := 4) (oi := ⟨some 135, _, _, _, _, _⟩) (v := ?v3005) rfl (by kernel_rfl) (by kernel_rfl) (by kernel_rfl) (fun _ _ _ h => h) (Or.inl ⟨rfl, ?c3005⟩) hH ?r3005
                case c3005 => (intro w' hS; obtain ⟨_, _, _, _, hS⟩ := hS.out; obtain ⟨x0, x1, x2, x3, x4, x5, x6, x7, x8⟩ := HNF.out _ _ _ _ _ hS; go_simp; (try with_reducible rfl))
                try simp only [Act.put, List.setIfInBounds_toArray, List.set_cons_zero, List.set_cons_succ]
                refine wpAnyH_take (i := 5) (oi := ⟨some 136, _, _, _, _, _⟩) (v := ?v3006) rfl (by kernel_rfl) (by kernel_rfl) (by kernel_rfl) (fun _ _ _ h => h) (Or.inl ⟨rfl, ?c3006⟩) hH ?r3006
                case c3006 => (intro w' _; go_simp; (try with_reducible rfl))
                try simp only [Act.put, List.setIfInBounds_toArray, List.set_cons_zero, List.set_cons_succ]
                refine wpAnyH_take (i := 6) (oi := ⟨some 137, _, _, _, _, _⟩) (v := ?v3007) rfl (by kernel_rfl) (by kernel_rfl) (by kernel_rfl) (fun _ _ _ h => h) (Or.inl ⟨rfl, ?c3007⟩) hH ?r3007
                case c3007 => (intro w' hS; obtain ⟨_, _, _, _, hS⟩ := hS.out; obtain ⟨x0, x1, x2, x3, x4, x5, x6, x7, x8⟩ := HNF.out _ _ _ _ _ hS; go_simp; (try with_reducible rfl))
                try simp only [Act.put, List.setIfInBounds_toArray, List.set_cons_zero, List.set_cons_succ]
                refine wpAnyH_take (i := 7) (oi := ⟨some 138, _, _, _, _, _⟩) (v := ?v3008) rfl (by kernel_rfl) (by kernel_rfl) (by kernel_rfl) (fun _ _ _ h => h) (Or.inl ⟨rfl, ?c3008⟩) hH ?r3008
                case c3008 => (intro w' _; go_simp; (try with_reducible rfl))
                try simp only [Act.put, List.setIfInBounds_toArray, List.set_cons_zero, List.set_cons_succ]
                refine wpAnyH_take (i := 8) (oi := ⟨some 139, _, _, _, _, _⟩) (v := ?v3009) rfl (by kernel_rfl) (by kernel_rfl) (by kernel_rfl) (fun _ _ _ h => h) (Or.inl ⟨rfl, ?c3009⟩) hH ?r3009
                case c3009 => (intro w' hS; obtain ⟨_, _, _, _, hS⟩ := hS.out; obtain ⟨x0, x1, x2, x3, x4, x5, x6, x7, x8⟩ := HNF.out _ _ _ _ _ hS; go_simp; (try with_reducible rfl))
                try simp only [Act.put, List.setIfInBounds_toArray, List.set_cons_zero, List.set_cons_succ]
                refine wpAnyH_take (i := 10) (oi := ⟨some 141, _, _, _, _, _⟩) (v := ?v3010) rfl (by kernel_rfl) (by kernel_rfl) (by kernel_rfl) (fun _ _ _ h => h) (Or.inl ⟨rfl, ?c3010⟩) hH ?r3010
                case c3010 => (intro w' _; go_simp; (try with_reducible rfl))
                try simp only [Act.put, List.setIfInBounds_toArray, List.set_cons_zero, List.set_cons_succ]
                refine wpAnyH_take (i := 11) (oi := ⟨some 142, _, _, _, _, _⟩) (v := ?v3011) rfl (by kernel_rfl) (by kernel_rfl) (by kernel_rfl) (fun _ _ _ h => h) (Or.inl ⟨rfl, ?c3011⟩) hH ?r3011
                case c3011 => (intro w' _; go_simp; (try with_reducible rfl))
                try simp only [Act.put, List.setIfInBounds_toArray, List.set_cons_zero, List.set_cons_succ]
                refine wpAnyH_take (i := 12) (oi := ⟨some 143, _, _, _, _, _⟩) (v := ?v3012) rfl (by kernel_rfl) (by kernel_rfl) (by kernel_rfl) (fun _ _ _ h => h) (Or.inl ⟨rfl, ?c3012⟩) hH ?r3012
                case c3012 => (intro w' hS; obtain ⟨_, _, _, _, hS⟩ := hS.out; obtain ⟨x0, x1, x2, x3, x4, x5, x6, x7, x8⟩ := HNF.out _ _ _ _ _ hS; go_simp; (try with_reducible rfl))
                try simp only [Act.put, List.setIfInBounds_toArray, List.set_cons_zero, List.set_cons_succ]
                refine wpAnyH_take (i := 13) (oi := ⟨some 144, _, _, _, _, _⟩) (v := ?v3013) rfl (by kernel_rfl) (by kernel_rfl) (by kernel_rfl) (fun _ _ _ h => h) (Or.inl ⟨rfl, ?c3013⟩) hH ?r3013
                case c3013 => (intro w' _; go_simp; (try with_reducible rfl))
                try simp only [Act.put, List.setIfInBounds_toArray, List.set_cons_zero, List.set_cons_succ]
                refine wpAnyH_take (i := 14) (oi := ⟨some 145, _, _, _, _, _⟩) (v := ?v3014) rfl (by kernel_rfl) (by kernel_rfl) (by kernel_rfl) (fun _ _ _ h => h) (Or.inl ⟨rfl, ?c3014⟩) hH ?r3014
                case c3014 => (intro w' hS; obtain ⟨_, _, _, _, hS⟩ := hS.out; obtain ⟨x0, x1, x2, x3, x4, x5, x6, x7, x8⟩ := HNF.out _ _ _ _ _ hS; go_simp; (try with_reducible rfl))
                try simp only [Act.put, List.setIfInBounds_toArray, List.set_cons_zero, List.set_cons_succ]
                refine wpAnyH_take (i := 15) (oi := ⟨some 146, _, _, _, _, _⟩) (v := ?v3015) rfl (by kernel_rfl) (by kernel_rfl) (by kernel_rfl) (fun _ _ _ h => h) (Or.inl ⟨rfl, ?c3015⟩) hH ?r3015
                case c3015 => (intro w' _; go_simp; (try with_reducible rfl))
                try simp only [Act.put, List.setIfInBounds_toArray, List.set_cons_zero, List.set_cons_succ]
                refine wpAnyH_take (i := 16) (oi := ⟨some 147, _, _, _, _, _⟩) (v := ?v3016) rfl (by kernel_rfl) (by kernel_rfl) (by kernel_rfl) (fun _ _ _ h => h) (Or.inl ⟨rfl, ?c3016⟩) hH ?r3016
                case c3016 => (intro w' hS; obtain ⟨_, _, _, _, hS⟩ := hS.out; obtain ⟨x0, x1, x2, x3, x4, x5, x6, x7, x8⟩ := HNF.out _ _ _ _ _ hS; go_simp; (try with_reducible rfl))
                try simp only [Act.put, List.setIfInBounds_toArray, List.set_cons_zero, List.set_cons_succ]
                refine wpAnyH_take (i := 17) (oi := ⟨some 148, _, _, _, _, _⟩) (v := ?v3017) rfl (by kernel_rfl) (by kernel_rfl) (by kernel_rfl) (fun _ _ _ h => h) (Or.inl ⟨rfl, ?c3017⟩) hH ?r3017
                case c3017 => (intro w' _; go_simp; (try with_reducible rfl))
                try simp only [Act.put, List.setIfInBounds_toArray, List.set_cons_zero, List.set_cons_succ]
                refine wpAnyH_take (i := 18) (oi := ⟨some 149, _, _, _, _, _⟩) (v := ?v3018) rfl (by kernel_rfl) (by kernel_rfl) (by kernel_rfl) (fun _ _ _ h => h) (Or.inl ⟨rfl, ?c3018⟩) hH ?r3018
                case c3018 => (intro w' hS; obtain ⟨_, _, _, _, hS⟩ := hS.out; obtain ⟨x0, x1, x2, x3, x4, x5, x6, x7, x8⟩ := HNF.out _ _ _ _ _ hS; go_simp; (try with_reducible rfl))
                try simp only [Act.put, List.setIfInBounds_toArray, List.set_cons_zero, List.set_cons_succ]
                refine wpAnyH_ready (rs := [9]) (by kernel_rfl) (by simp) (AllReadyH.cons rfl (fun K hK => ?_) (AllReadyH.nil))
                go_simp
                go_at_call 15
                refine (HBO.out.t _ HV.out).mono ?_
                rintro e w4 ⟨rfl, h⟩
                refine hK.out _ _ (Lib.hid ⟨_, _, _, _, h⟩) (fun hH => ?_)
                clear hK K
                have H4 := Lib.hid h
                clear h
                try simp only [Act.put, List.setIfInBounds_toArray, List.set_cons_zero, List.set_cons_succ]
                refine wpAnyH_ready (rs := [19]) (by kernel_rfl) (by simp) (AllReadyH.cons rfl (fun K hK => ?_) (AllReadyH.nil))
                go_simp
                go_at_call 16
                refine (HBO.out.u _ H4.out).mono ?_
                rintro e w4 ⟨rfl, h⟩
                refine hK.out _ _ (Lib.hid ⟨_, _, _, _, h⟩) (fun hH => ?_)
                clear hK K
                have H5 := Lib.hid h
                clear h
                try simp only [Act.put, List.setIfInBounds_toArray, List.set_cons_zero, List.set_cons_succ]
                refine wpAnyH_take (i := 20) (oi := ⟨some 151, _, _, _, _, _⟩) (v := ?v3019) rfl (by kernel_rfl) (by kernel_rfl) (by kernel_rfl) (fun _ _ _ h => h) (Or.inl ⟨rfl, ?c3019⟩) hH ?r3019
                case c3019 => (intro w' _; go_simp; (try with_reducible rfl))
                try simp only [Act.put, List.setIfInBounds_toArray, List.set_cons_zero, List.set_cons_succ]
                refine wpAnyH_take (i := 21) (oi := ⟨some 11, _, _, _, _, _⟩) (v := ?v3020) rfl (by kernel_rfl) (by kernel_rfl) (by kernel_rfl) (fun _ _ _ h => h) (Or.inl ⟨rfl, ?c3020⟩) hH ?r3020
                case c3020 => (intro w' _; go_simp; (try with_reducible rfl))
                try simp only [Act.put, List.setIfInBounds_toArray, List.set_cons_zero, List.set_cons_succ]
                refine wpAnyH_done (by kernel_rfl) ?_ _
                go_wp2_with fail
                go_meet
                exact ⟨by simp, Lib.hid ⟨_, _, HDR.out _ _ _ H5.out, Nat.le_trans HBO.out.ls (Nat.succ_le_succ HLI.out), Nat.le_trans HBO.out.fl (Nat.succ_le_succ HFI.out)⟩⟩
          · as_aux_lemma =>
              obtain ⟨ve, ms', fs', hbo⟩ := remove2 (w := fr) (mb := mb) (B := B) (rb := rb) (C := C) (n := n) HLS.out HFL.out y.th y.k HYO.out.k
              have HBO := Lib.hid hbo
              clear hbo
              have HV := Lib.hid (HW.out.next (Below.refl _ _).drew)
              go_wp2_with fail
              refine wp_region_held_drew (S := fun w' => Hid (∃ ms fs ms2 fs2, P2 fr mb B rb C n ms fs ms2 fs2 w')) (by kernel_rfl) (Lib.hid ⟨_, _, _, _, HV.out⟩) (fun hH => ?_)
              refine wpAnyH_take (i := 0) (oi := ⟨some 154, _, _, _, _, _⟩) (v := ?v4001) rfl (by kernel_rfl) (by kernel_rfl) (by kernel_rfl) (fun _ _ _ h => h) (Or.inl ⟨rfl, ?c4001⟩) hH ?r4001
              case c4001 => (intro w' _; go_simp; (try with_reducible rfl))
              try simp only [Act.put, List.setIfInBounds_toArray, List.set_cons_zero, List.set_cons_succ]
              refine wpAnyH_take (i := 1) (oi := ⟨some 155, _, _, _, _, _⟩) (v := ?v4002) rfl (by kernel_rfl) (by kernel_rfl) (by kernel_rfl) (fun _ _ _ h => h) (Or.inl ⟨rfl, ?c4002⟩) hH ?r4002
              case c4002 => (intro w' _; go_simp; (try with_reducible rfl))
              try simp only [Act.put, List.setIfInBounds_toArray, List.set_cons_zero, List.set_cons_succ]
              refine wpAnyH_take (i := 2) (oi := ⟨some 156, _, _, _, _, _⟩) (v := ?v4003) rfl (by kernel_rfl) (by kernel_rfl) (by kernel_rfl) (fun _ _ _ h => h) (Or.inl ⟨rfl, ?c4003⟩) hH ?r4003
              case c4003 => (intro w' hS; obtain ⟨_, _, _, _, hS⟩ := hS.out; obtain ⟨x0, x1, x2, x3, x4, x5, x6, x7, x8⟩ := HNF.out _ _ _ _ _ hS; go_simp; (try with_reducible rfl))
              try simp only [Act.put, List.setIfInBounds_toArray, List.set_cons_zero, List.set_cons_succ]
              refine wpAnyH_take (i := 3) (oi := ⟨some 157, _, _, _, _, _⟩) (v := ?v4004) rfl (by kernel_rfl) (by kernel_rfl) (by kernel_rfl) (fun _ _ _ h => h) (Or.inl ⟨rfl, ?c4004⟩) hH ?r4004
              case c4004 => (intro w' _; go_simp; (try with_reducible rfl))
              try simp only [Act.put, List.setIfInBounds_toArray, List.set_cons_zero, List.set_cons_succ]
              refine wpAnyH_take (i := 4) (oi := ⟨some 158, _, _, _, _, _⟩) (v := ?v4005) rfl (by kernel_rfl) (by kernel_rfl) (by kernel_rfl) (fun _ _ _ h => h) (Or.inl ⟨rfl, ?c4005⟩) hH ?r4005
              case c4005 => (intro w' hS; obtain ⟨_, _, _, _, hS⟩ := hS.out; obtain ⟨x0, x1, x2, x3, x4, x5, x6, x7, x8⟩ := HNF.out _ _ _ _ _ hS; go_simp; (try with_reducible rfl))
              try simp only [Act.put, List.setIfInBounds_toArray, List.set_cons_zero, List.set_cons_succ]
              refine wpAnyH_take (i := 6) (oi := ⟨some 160, _, _, _, _, _⟩) (v := ?v4006) rfl (by kernel_rfl) (by kernel_rfl) (by kernel_rfl) (fun _ _ _ h => h) (Or.inl ⟨rfl, ?c4006⟩) hH ?r4006
              case c4006 => (intro w' _; go_simp; (try with_reducible rfl))
              try simp only [Act.put, List.setIfInBounds_toArray, List.set_cons_zero, List.set_cons_succ]
              refine wpAnyH_take (i := 7) (oi := ⟨some 161, _, _, _, _, _⟩) (v := ?v4007) rfl (by kernel_rfl) (by kernel_rfl) (by kernel_rfl) (fun _ _ _ h => h) (Or.inl ⟨rfl, ?c4007⟩) hH ?r4007
              case c4007 => (intro w' _; go_simp; (try with_reducible rfl))
              try simp only [Act.put, List.setIfInBounds_toArray, List.set_cons_zero, List.set_cons_succ]
              refine wpAnyH_take (i := 8) (oi := ⟨some 162, _, _, _, _, _⟩) (v := ?v4008) rfl (by kernel_rfl) (by kernel_rfl) (by kernel_rfl) (fun _ _ _ h => h) (Or.inl ⟨rfl, ?c4008⟩) hH ?r4008
              case c4008 => (intro w' hS; obtain ⟨_, _, _, _, hS⟩ := hS.out; obtain ⟨x0, x1, x2, x3, x4, x5, x6, x7, x8⟩ := HNF.out _ _ _ _ _ hS; go_simp; (try with_reducible rfl))
              try simp only [Act.put, List.setIfInBounds_toArray, List.set_cons_zero, List.set_cons_succ]
              refine wpAnyH_take (i := 9) (oi := ⟨some 163, _, _, _, _, _⟩) (v := ?v4009) rfl (by kernel_rfl) (by kernel_rfl) (by kernel_rfl) (fun _ _ _ h => h) (Or.inl ⟨rfl, ?c4009⟩) hH ?r4009
              case c4009 => (intro w' _; go_simp; (try with_reducible rfl))
              try simp only [Act.put, List.setIfInBounds_toArray, List.set_cons_zero, List.set_cons_succ]
              refine wpAnyH_take (i := 10) (oi := ⟨some 164, _, _, _, _, _⟩) (v := ?v4010) rfl (by kernel_rfl) (by kernel_rfl) (by kernel_rfl) (fun _ _ _ h => h) (Or.inl ⟨rfl, ?c4010⟩) hH ?r4010
              case c4010 => (intro w' hS; obtain ⟨_, _, _, _, hS⟩ := hS.out; obtain ⟨x0, x1, x2, x3, x4, x5, x6, x7, x8⟩ := HNF.out _ _ _ _ _ hS; go_simp; (try with_reducible rfl))
              try simp only [Act.put, List.setIfInBounds_toArray, List.set_cons_zero, List.set_cons_succ]
              refine wpAnyH_ready (rs := [5]) (by kernel_rfl) (by simp) (AllReadyH.cons rfl (fun K hK => ?_) (AllReadyH.nil))
              go_simp
              go_at_call 17
              refine (HBO.out.t _ HV.out).mono ?_
              rintro e w4 ⟨rfl, h⟩
              refine hK.out _ _ (Lib.hid ⟨_, _, _, _, h⟩) (fun hH => ?_)
              clear hK K
              have H4 := Lib.hid h
              clear h
              try simp only [Act.put, List.setIfInBounds_toArray, List.set_cons_zero, List.set_cons_succ]
              refine wpAnyH_ready (rs := [11]) (by kernel_rfl) (by simp) (AllReadyH.cons rfl (fun K hK => ?_) (AllReadyH.nil))
              go_simp
              go_at_call 18
              refine (HBO.out.u _ H4.out).mono ?_
              rintro e w4 ⟨rfl, h⟩
              refine hK.out _ _ (Lib.hid ⟨_, _, _, _, h⟩) (fun hH => ?_)
              clear hK K
              have H5 := Lib.hid h
              clear h
              try simp only [Act.put, List.setIfInBounds_toArray, List.set_cons_zero, List.set_cons_succ]
              refine wpAnyH_take (i := 12) (oi := ⟨some 166, _, _, _, _, _⟩) (v := ?v4011) rfl (by kernel_rfl) (by kernel_rfl) (by kernel_rfl) (fun _ _ _ h => h) (Or.inl ⟨rfl, ?c4011⟩) hH ?r4011
              case c4011 => (intro w' _; go_simp; (try with_reducible rfl))
              try simp only [Act.put, List.setIfInBounds_toArray, List.set_cons_zero, List.set_cons_succ]
              refine wpAnyH_take (i := 13) (oi := ⟨some 11, _, _, _, _, _⟩) (v := ?v4012) rfl (by kernel_rfl) (by kernel_rfl) (by kernel_rfl) (fun _ _ _ h => h) (Or.inl ⟨rfl, ?c4012⟩) hH ?r4012
              case c4012 => (intro w' _; go_simp; (try with_reducible rfl))
              try simp only [Act.put, List.setIfInBounds_toArray, List.set_cons_zero, List.set_cons_succ]
              refine wpAnyH_done (by kernel_rfl) ?_ _
              go_wp2_with fail
              go_meet
              exact ⟨by simp, Lib.hid ⟨_, _, HDR.out _ _ _ H5.out, Nat.le_trans HBO.out.ls (Nat.succ_le_succ HLI.out), Nat.le_trans HBO.out.fl (Nat.succ_le_succ HFI.out)⟩⟩
          · as_aux_lemma =>
              obtain ⟨ve, L, ms', hls, hll, hk⟩ := keys2 HW.out HLS.out HFL.out y.th y.at_
              have HK := Lib.hid hk
              have HLL : Hid (L.length ≤ 100000) := Lib.hid (by have := HFL.out; omega)
              have HMS := Lib.hid hls
              clear hk hls hll
              obtain ⟨x0, x1, x2, x3, x4, x5, x6, x7, x8⟩ := HNF.out _ _ _ _ _ HW.out
              go_wp2_with fail
              clear x0 x1 x2 x3 x4 x5 x6 x7 x8
              go_at_call 19
              refine HK.out.mono ?_
              rintro e w4 ⟨p, c', rfl, hp, hu⟩
              have HU := Lib.hid hu
              obtain ⟨x0, x1, x2, x3, x4, x5, x6, x7, x8⟩ := HNF.out _ _ _ _ _ hp
              clear hu hp HK
              go_wp2_with fail
              clear x0 x1 x2 x3 x4 x5 x6 x7 x8
              go_at_call 20
              refine HU.out.mono ?_
              rintro e w5 ⟨p2, c2, rfl, k1, k2, hp⟩
              have HK1 := Lib.hid k1
              have HK2 := Lib.hid k2
              have H5 := Lib.hid hp
              clear k1 k2 hp HU
              obtain ⟨ll, hll⟩ : ∃ v, L.length = v := ⟨_, rfl⟩
              have HLE := Lib.hid hll
              rw [hll] at HLL ⊢
              clear hll
              go_wp2_with fail
              go_at_call 21
              refine (R.same_any L ll HLE.out HLL.out _ _ _ _ _ _ _ HK1.out HK2.out).mono ?_
              rintro e w6 ⟨rfl, hb⟩
              have H6 := Lib.hid (H5.out.next hb)
              clear hb H5 HK1 HK2
              go_wp2_with fail
              go_meet
              exact ⟨by simp, Lib.hid ⟨_, _, HDR.out _ _ _ H6.out, Nat.le_trans HMS.out (Nat.succ_le_succ HLI.out), Nat.le_succ_of_le HFI.out⟩⟩
          · as_aux_lemma =>
              have e0 : ((y.kd : Int) % 8 == 0) = false := by simp; omega
              have e1 : ((y.kd : Int) % 8 == 1) = false := by simp; omega
              have e2 : ((y.kd : Int) % 8 == 2) = false := by simp; omega
              have e3 : ((y.kd : Int) % 8 == 3) = false := by simp; omega
              have e4 : ((y.kd : Int) % 8 == 4) = false := by simp; omega
              have e5 : ((y.kd : Int) % 8 == 5) = false := by simp; omega
              clear hq
              obtain ⟨vx, vd, vb, ve, ms', hbo⟩ := find2 (w := fr) (mb := mb) (B := B) (rb := rb) (C := C) (n := n) HLS.out HFL.out y.th y.k HYO.out.k
              have HBO := Lib.hid hbo
              clear hbo
              obtain ⟨x0, x1, x2, x3, x4, x5, x6, x7, x8⟩ := HNF.out _ _ _ _ _ HW.out
              go_wp2_with fail
              clear x0 x1 x2 x3 x4 x5 x6 x7 x8
              go_at_call 22
              refine (HBO.out.t _ HW.out).mono ?_
              rintro e w4 ⟨rfl, h⟩
              have H4 := Lib.hid h
              clear h
              obtain ⟨x0, x1, x2, x3, x4, x5, x6, x7, x8⟩ := HNF.out _ _ _ _ _ H4.out
              go_wp2_with fail
              clear x0 x1 x2 x3 x4 x5 x6 x7 x8
              go_at_call 23
              refine (HBO.out.u _ H4.out).mono ?_
              rintro e w5 ⟨rfl, h⟩
              have H5 := Lib.hid h
              clear h H4
              go_wp2_with fail
              go_meet
              exact ⟨by simp, Lib.hid ⟨_, _, HDR.out _ _ _ H5.out, Nat.le_trans HBO.out.ls (Nat.succ_le_succ HLI.out), Nat.le_trans HBO.out.fl (Nat.succ_le_succ HFI.out)⟩⟩
        case rest =>
          obtain ⟨rfl, HR⟩ := hcut
          clear HW HNF HDR HLS HFL HLI HFI
          obtain ⟨ms', fs', hp, hl1, hl2⟩ := HR.out
          have HP := Lib.hid hp
          have HLI := Lib.hid hl1
          have HFI := Lib.hid hl2
          clear hp hl1 hl2 HR
          go_wp2_with fail
          obtain ⟨Om1, Ot1, Oq1, Ou1, ht, hu, -⟩ := HP.out
          have HT := Lib.hid ht
          have HU := Lib.hid hu
          clear ht hu
          go_at_call 24
          refine (all_any HT.out (by have := HFI.out; omega)).mono ?_
          rintro e w4 ⟨p, c', rfl, hk, hb⟩
          have HK1 := Lib.hid hk
          have HU2 := Lib.hid (HU.out.next hb)
          have HP2 := Lib.hid (HP.out.next hb)
          clear hk hb HP HT HU
          obtain ⟨fl, hfl⟩ : ∃ v, fs'.length = v := ⟨_, rfl⟩
          have HFE := Lib.hid hfl
          rw [hfl]
          clear hfl
          go_wp2_with fail
          go_at_call 25
          refine (R.all_any HU2.out (by have := HFI.out; omega)).mono ?_
          rintro e w5 ⟨p2, c2, rfl, hk, hb⟩
          have HK2 := Lib.hid hk
          have HK3 := Lib.hid (HK1.out.next hb)
          have HP3 := Lib.hid (HP2.out.next hb)
          clear hk hb HP2 HU2 HK1
          rw [HFE.out]
          go_wp2_with fail
          go_at_call 21
          refine (R.same_any (fs'.map (·.k)) fl (by rw [List.length_map]; exact HFE.out) (by have := HFI.out; have := HFE.out; omega) _ _ _ _ _ _ _ HK3.out HK2.out).mono ?_
          rintro e w6 ⟨rfl, hb⟩
          have HP4 := Lib.hid (HP3.out.next hb)
          clear hb HP3 HK2 HK3 HFE
          go_wp2_with fail
          go_roundw
          case rel => exact ⟨i + 1, ms', fs', by go_num, by omega, by omega, HP4, ⟨HLI.out, HFI.out⟩⟩
          case measure => simp [RowKit.intOf]; omega
    · go_upto_region 8 with fail
      go_cut [48] (fun s wx => s = .bool false ∧ wx = wr)
      case first =>
        by_cases h1 : i < len
        · have h2 : ¬ i < 80 := fun h => h12 ⟨h1, h⟩
          go_wp2_with fail
          go_meet
          exact ⟨congrArg Value.bool (decide_eq_false (by omega)), rfl⟩
        · go_wp2_with fail
          go_meet
          exact ⟨rfl, rfl⟩
      case rest =>
        obtain ⟨rfl, hwc⟩ := hcut
        rw [hwc]
        clear hwc h12
        obtain ⟨_, _, _, _, -, hu, -⟩ := HM.out
        obtain ⟨⟨vw, vh, vl, hmm⟩, -⟩ := hu.mem
        have hal : Me.Acs wr wr.heap.size vl ms.ls := Rd.of_own hmm.lr
        obtain ⟨Al, cl, rfl, -, -⟩ := hmm.len2
        have b2 := hmm.blk.cell 2 _ rfl
        have HAL := Lib.hid hal
        have HRB : Hid (∀ X, P2 (fw W) mb B rb C n ms fs ms fs X → rb < X.heap.size) := fun X h => by
          obtain ⟨_, _, _, _, _, hu, _⟩ := h
          obtain ⟨⟨_, _, _, hm⟩, _⟩ := hu.mem
          exact hm.lt _ hm.ob
        have HLL : Hid (ms.ls.length ≤ 1000000000000) := by show _ ≤ _; have := HI.out.1; omega
        obtain ⟨Ll, hLl⟩ : ∃ L, ms.ls.length = L := ⟨_, rfl⟩
        unfold Me.Acs at hal
        rw [hLl] at b2
        have HAL : Hid (Me.Acs wr wr.heap.size (.slice Al Ll cl) ms.ls) := by show Rd _ _ _ _ _ _; rw [← hLl]; exact HAL.out
        clear hmm hal hLl hu
        go_wp2_with fail
        refine wp_region_held_drew (S := fun w' => w'.cell? ⟨rb, 2, none⟩ = some (.slice Al Ll cl) ∧ Hid (P2 (fw W) mb B rb C n ms fs ms fs w') ∧ Hid (Me.Acs w' w'.heap.size (.slice Al Ll cl) ms.ls)) (by kernel_rfl) (⟨b2, Lib.hid (HM.out.next (Below.refl _ _).drew), Lib.hid (HAL.out.next (Below.refl _ _).drew)⟩) (fun hH => ?_)
        refine wpAnyH_ready (rs := [0]) (by kernel_rfl) (by simp) (AllReadyH.cons rfl (fun K hK => ?_) (AllReadyH.nil))
        go_simp
        go_at_call 10
        refine (awake_any _).mono ?_
        rintro e w9 ⟨rfl, hb⟩
        refine hK.out _ _ (⟨(hb.cell (p := ⟨rb, 2, none⟩) (HRB.out _ hH.2.1.out)).trans hH.1, Lib.hid (hH.2.1.out.next hb), Lib.hid (hH.2.2.out.next hb)⟩) (fun hH => ?_)
        clear hK K
        clear hb
        try simp only [Act.put, List.setIfInBounds_toArray, List.set_cons_zero, List.set_cons_succ]
        refine wpAnyH_take (i := 1) (oi := ⟨some 206, _, _, _, _, _⟩) (v := ?v5001) rfl (by kernel_rfl) (by kernel_rfl) (by kernel_rfl) (fun _ _ _ h => h) (Or.inl ⟨rfl, ?c5001⟩) hH ?r5001
        case c5001 => (intro w' _; go_simp; (try with_reducible rfl))
        try simp only [Act.put, List.setIfInBounds_toArray, List.set_cons_zero, List.set_cons_succ]
        refine wpAnyH_take (i := 2) (oi := ⟨some 207, _, _, _, _, _⟩) (v := ?v5002) rfl (by kernel_rfl) (by kernel_rfl) (by kernel_rfl) (fun _ _ _ h => h) (Or.inl ⟨rfl, ?c5002⟩) hH ?r5002
        case c5002 => (intro w' _; go_simp; (try with_reducible rfl))
        try simp only [Act.put, List.setIfInBounds_toArray, List.set_cons_zero, List.set_cons_succ]
        refine wpAnyH_take (i := 4) (oi := ⟨some 209, _, _, _, _, _⟩) (v := ?v5003) rfl (by kernel_rfl) (by kernel_rfl) (by kernel_rfl) (fun _ _ _ h => h) (Or.inl ⟨rfl, ?c5003⟩) hH ?r5003
        case c5003 => (intro w' _; go_simp; (try with_reducible rfl))
        try simp only [Act.put, List.setIfInBounds_toArray, List.set_cons_zero, List.set_cons_succ]
        refine wpAnyH_take (i := 5) (oi := ⟨some 210, _, _, _, _, _⟩) (v := ?v5004) rfl (by kernel_rfl) (by kernel_rfl) (by kernel_rfl) (fun _ _ _ h => h) (Or.inl ⟨rfl, ?c5004⟩) hH ?r5004
        case c5004 => (intro w' _; go_simp; (try with_reducible rfl))
        try simp only [Act.put, List.setIfInBounds_toArray, List.set_cons_zero, List.set_cons_succ]
        refine wpAnyH_take (i := 6) (oi := ⟨some 211, _, _, _, _, _⟩) (v := ?v5005) rfl (by kernel_rfl) (by kernel_rfl) (by kernel_rfl) (fun _ _ _ h => h) (Or.inl ⟨rfl, ?c5005⟩) hH ?r5005
        case c5005 => (intro w' _; go_simp; (try with_reducible rfl))
        try simp only [Act.put, List.setIfInBounds_toArray, List.set_cons_zero, List.set_cons_succ]
        refine wpAnyH_take (i := 7) (oi := ⟨some 212, _, _, _, _, _⟩) (v := ?v5006) rfl (by kernel_rfl) (by kernel_rfl) (by kernel_rfl) (fun _ _ _ h => h) (Or.inl ⟨rfl, ?c5006⟩) hH ?r5006
        case c5006 => (intro w' hS; have zb := hS.1; go_simp; (try with_reducible rfl))
        try simp only [Act.put, List.setIfInBounds_toArray, List.set_cons_zero, List.set_cons_succ]
        refine wpAnyH_ready (rs := [3]) (by kernel_rfl) (by simp) (AllReadyH.cons rfl (fun K hK => ?_) (AllReadyH.nil))
        go_simp
        obtain ⟨_, _, _, _, ht, _, _⟩ := hH.2.1.out
        go_at_call 27
        refine (Me.log_any ht.mem HLL.out).mono ?_
        rintro e w10 ⟨v, rfl, hv1, -, hb⟩
        obtain ⟨A3, c3, rfl, -, -⟩ := hv1.len
        have HV := Lib.hid hv1
        refine hK.out _ _ (⟨(hb.cell (p := ⟨rb, 2, none⟩) (HRB.out _ hH.2.1.out)).trans hH.1, Lib.hid (hH.2.1.out.next hb), Lib.hid (hH.2.2.out.next hb)⟩) (fun hH => ?_)
        clear hK K
        clear hb hv1 ht
        try simp only [Act.put, List.setIfInBounds_toArray, List.set_cons_zero, List.set_cons_succ]
        refine wpAnyH_ready (rs := [8]) (by kernel_rfl) (by simp) (AllReadyH.cons rfl (fun K hK => ?_) (AllReadyH.nil))
        go_simp
        go_at_call 26
        refine (Me.same_true _ _ ms.ls _ HV.out hH.2.2.out).mono ?_
        rintro e w11 ⟨rfl, qq, rfl⟩
        have hb : Below w10.heap.size w10 (w10.drewN qq) := (Below.refl _ _).drews qq
        refine hK.out _ _ (⟨(hb.cell (p := ⟨rb, 2, none⟩) (HRB.out _ hH.2.1.out)).trans hH.1, Lib.hid (hH.2.1.out.next hb), Lib.hid (hH.2.2.out.next hb)⟩) (fun hH => ?_)
        clear hK K
        clear hb HV
        try simp only [Act.put, List.setIfInBounds_toArray, List.set_cons_zero, List.set_cons_succ]
        refine wpAnyH_take (i := 9) (oi := ⟨some 214, _, _, _, _, _⟩) (v := ?v5007) rfl (by kernel_rfl) (by kernel_rfl) (by kernel_rfl) (fun _ _ _ h => h) (Or.inl ⟨rfl, ?c5007⟩) hH ?r5007
        case c5007 => (intro w' _; go_simp; (try with_reducible rfl))
        try simp only [Act.put, List.setIfInBounds_toArray, List.set_cons_zero, List.set_cons_succ]
        refine wpAnyH_take (i := 10) (oi := ⟨some 4, _, _, _, _, _⟩) (v := ?v5008) rfl (by kernel_rfl) (by kernel_rfl) (by kernel_rfl) (fun _ _ _ h => h) (Or.inl ⟨rfl, ?c5008⟩) hH ?r5008
        case c5008 => (intro w' _; go_simp; (try with_reducible rfl))
        try simp only [Act.put, List.setIfInBounds_toArray, List.set_cons_zero, List.set_cons_succ]
        refine wpAnyH_done (by kernel_rfl) ?_ _
        have HBB := Lib.hid hH.2.1.out.bel
        clear hH
        go_wp2_with fail
        go_ret
        exact ⟨rfl, HBB.out⟩
theorem tablePlays_walk (z : Int) (A : Option Addr) (len cap : Nat) (xs : List Dt) (W : World) (hz : -9223372036854775808 ≤ z ∧ z ≤ 9223372036854775807) (hx : xs.length = len ∧ Dts W W.heap.size (.slice A len cap) xs ∧ ∀ y ∈ xs, y.Ok) :
    Calls Try.prog 3 #[.int .i64 z, .slice A len cap] W fun e w' => e = .returned (.bool true) ∧ Below W.heap.size W w' := by
  cases hP : isPow z with
  | false => exact tablePlays_no z A len cap W hz hP
  | true =>
    have hbd := KeyM.isPow_bd hP
    obtain ⟨n, rfl⟩ : ∃ n : Nat, z = (n : Int) := ⟨z.toNat, by omega⟩
    exact tablePlays_yes n hP A len cap xs W hx
end Tb
end Go.Proofs.Ytgcnhbjoalemlaa
