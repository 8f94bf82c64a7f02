/- Layer 11: the walk of TextAgain. -/
import Derived.Test.YtdppaijofpbdeaaDoorTxtP
import Derived.Test.YtdppaijofpbdeaaDoorTxtK
set_option linter.unusedVariables false
set_option linter.unusedSimpArgs false
namespace Go.Proofs.YtdppaijofpbdeaaDoor
open Go.ChangeShapes Go.WideShapes Go.ChangeAt Go.RowKit Go.Mtl Go.Shelf Go.Lib
namespace Tx
open TxtM (Line okb errOf lineOf linesOf okN valN Good joinL lastN Clean)
open AdrM (join)

theorem list_of (s : ByteArray) : (⟨s.data.toList.toArray⟩ : ByteArray) = s := by cases s; simp
theorem add_any {P : Program} (x y : ByteArray) (hx : x.size ≤ 1000000) (hy : y.size ≤ 1000000) : ∃ z : ByteArray, z.data.toList = x.data.toList ++ y.data.toList ∧ ∀ W, (Op.stringOp .add x y).run P W = .ok (.string z) W := by
  refine ⟨⟨(x.data.toList ++ y.data.toList).toArray⟩, by simp, fun W => ?_⟩
  have := run_string_add_lists (P := P) W x.data.toList y.data.toList (by rw [← Lib.size_eq]; omega) (by rw [← Lib.size_eq]; omega)
  rw [list_of, list_of] at this
  exact this

set_option maxRecDepth 100000 in
set_option maxHeartbeats 4000000 in
theorem textAgain_walk (s : ByteArray) (w : World) (he : Env w) (hs : s.size ≤ maxLen) :
    Calls Tryd.prog 5 #[.string s] w fun e w' => e = .returned (.bool true) ∧ Below w.heap.size w w' := by
  have H1 := Lib.hid (lines_any s w hs he)
  have HE := Lib.hid he
  have hz := Lib.hid (Lib.size_eq s)
  have hnl := TxtM.lineOf_le s.data.toList
  have hel := TxtM.errOf_le s.data.toList
  clear he
  unfold maxLen at hs
  unfold Ans at H1
  by_cases h0 : errOf s.data.toList = 0
  · have HG := Lib.hid (TxtM.again h0)
    have H40 := (TxtM.errOf_zero h0).1
    rw [h0] at H1
    rw [← hz.out] at H40
    generalize lineOf s.data.toList = nn at H1 hnl
    generalize hls : linesOf s.data.toList = ls at H1 HG
    clear hls h0 hel
    go_enter Tryd.func5, Tryd.ntmps5
    go_wp2_with fail
    go_at_call 6
    refine H1.out.mono ?_
    rintro e w1 ⟨v1, rfl, hl1, hb1⟩
    obtain ⟨A1, c1, rfl⟩ := hl1.len
    have HB1 := Lib.hid hb1
    have HL1 := Lib.hid hl1
    have hLb := hl1.le
    unfold maxLen at hLb
    clear hb1 hl1 H1
    obtain ⟨L, hL⟩ : ∃ L, ls.length = L := ⟨_, rfl⟩
    have HLL := Lib.hid hL
    rw [hL] at HL1 hLb ⊢
    clear hL
    have HJ : Hid ((joinL 1 ls).length ≤ s.size) := by show _ ≤ _; rw [hz.out]; exact HG.out.2.1
    go_wp2_with fail
    go_loop [6, 7, 8] (fun v6 v7 v8 => ∃ (i a : Nat) (J : ByteArray), i ≤ L ∧ a ≤ J.size + 1 ∧ J.size ≤ s.size ∧ v8 = .int .i64 (i : Int) ∧ v7 = .int .i64 (a : Int) ∧ v6 = .string J ∧ Hid (a = lastN 1 (ls.take i)) ∧ Hid (J.data.toList = joinL 1 (ls.take i))) (fun _ _ v8 => L - (RowKit.intOf v8).toNat)
    case atStart => exact ⟨0, 1, ⟨#[]⟩, by omega, by omega, Nat.zero_le _, rfl, rfl, rfl, rfl, rfl⟩
    case round =>
      obtain ⟨i, a, J, hi, ha, hjs, rfl, rfl, rfl, hat, hJ⟩ := hrel
      by_cases hlt : i < L
      · obtain ⟨⟨n, ws⟩, hx⟩ : ∃ x, ls[i]? = some x := ⟨_, List.getElem?_eq_getElem (by rw [HLL.out]; exact hlt)⟩
        have hgood := TxtM.good_at ls 1 i n ws HG.out.1 hx
        have hstep := TxtM.joinL_at hx
        have hjl := TxtM.joinL_le ls 1 (i + 1)
        obtain ⟨g1, cap1, b1, hv1, hg1, ha0, ha1, hr1⟩ := HL1.out.at_ hx
        cases hv1
        obtain ⟨A2, c2, rfl⟩ := hr1.len
        have hmb := hr1.le
        unfold maxLen at hmb
        have hm0 : ws.length ≠ 0 := fun e => hgood.2.1 (List.eq_nil_of_length_eq_zero e)
        have HR1 := Lib.hid hr1
        have HCL := Lib.hid hgood.2.2
        have han : a ≤ n := by rw [hat.out]; exact hgood.1
        have hlen : J.size + (n - a) + (join 32 ws).length ≤ s.size := by
          have := HJ.out
          rw [hstep.1] at hjl
          simp only [List.length_append, List.length_replicate] at hjl
          rw [Lib.size_eq J, hJ.out, hat.out]
          omega
        have HST := Lib.hid hstep
        clear hr1 hx hgood hstep hjl
        obtain ⟨m, hm⟩ : ∃ m, ws.length = m := ⟨_, rfl⟩
        have HM := Lib.hid hm
        rw [hm] at HR1 ha1 hmb hm0
        clear hm
        have hmz : ((m : Int) == 0) = false := by rw [beq_eq_false_iff_ne]; omega
        have hn : n ≤ 10000 := by omega
        go_wp2_with fail
        go_loop [6, 7] (fun v6 v7 => ∃ (b : Nat) (B : ByteArray), a ≤ b ∧ b ≤ n ∧ v7 = .int .i64 (b : Int) ∧ v6 = .string B ∧ Hid (B.data.toList = J.data.toList ++ List.replicate (b - a) 10)) (fun _ v7 => n - (RowKit.intOf v7).toNat)
        case atStart => exact ⟨a, J, Nat.le_refl _, han, rfl, rfl, by show _ = _; rw [Nat.sub_self]; simp⟩
        case round =>
          obtain ⟨b, B, hab, hbn, rfl, rfl, hB⟩ := hrel
          have hBs : B.size = J.size + (b - a) := by rw [Lib.size_eq B, hB.out, Lib.size_eq J, List.length_append, List.length_replicate]
          by_cases hbl : b < n
          · obtain ⟨z, hz1, hz2⟩ := add_any (P := Tryd.prog) B nl (by omega) (by decide)
            have HZ : Hid (z.data.toList = J.data.toList ++ List.replicate (b + 1 - a) 10) := by
              show _ = _
              rw [hz1, hB.out, show b + 1 - a = (b - a) + 1 by omega, List.replicate_succ', List.append_assoc]
            have HBS := Lib.hid hBs
            clear hz1 hBs
            go_wp2_with fail
            go_round
            case rel => exact ⟨b + 1, z, by omega, by omega, by go_num, rfl, HZ⟩
            case measure => simp [RowKit.intOf]; omega
          · obtain rfl : b = n := by omega
            have HBS := Lib.hid hBs
            clear hBs
            go_wp2_with fail
            go_loop [6, 9] (fun v6 v9 => ∃ (k : Nat) (C : ByteArray), k ≤ m ∧ v9 = .int .i64 (k : Int) ∧ v6 = .string C ∧ Hid (C.data.toList = B.data.toList ++ join 32 (ws.take k))) (fun _ v9 => m - (RowKit.intOf v9).toNat)
            case atStart => exact ⟨0, B, Nat.zero_le _, rfl, rfl, by show _ = _; rw [List.take_zero]; simp [join]⟩
            case round =>
              obtain ⟨k, C, hk, rfl, rfl, hC⟩ := hrel
              by_cases hkl : k < m
              · obtain ⟨g3, cap3, hv3, hg3, -, -, hc3⟩ := HR1.out.at_ (by omega)
                cases hv3
                obtain ⟨x, hxk⟩ : ∃ x, ws[k]? = some x := ⟨_, List.getElem?_eq_getElem (by rw [HM.out]; exact hkl)⟩
                have hxm : (ws.map strV)[k]? = some (.string ⟨x.toArray⟩) := by rw [List.getElem?_map, hxk]; rfl
                have hx3 := hc3 k _ hxm
                have hcl := HCL.out x (List.mem_of_getElem? hxk)
                have hja := TxtM.join_at hxk
                have hjle := TxtM.join_mass_le ws (k + 1)
                clear hc3 hxm hxk
                obtain ⟨y, hy⟩ : ∃ y : ByteArray, (⟨x.toArray⟩ : ByteArray) = y := ⟨_, rfl⟩
                have hyx : y.data.toList = x := by rw [← hy]
                rw [hy] at hx3
                have HY : Hid (∀ (j : Nat) (h : j < y.size), 33 ≤ y[j].toNat ∧ y[j].toNat ≤ 126 ∧ y[j].toNat ≠ 35) := fun j h => by
                  have hm := List.mem_of_getElem? (data_getElem? y j h)
                  rw [hyx] at hm
                  obtain ⟨q1, q2, q3⟩ := hcl.2 _ hm
                  exact ⟨q1, q2, fun e => q3 (UInt8.toNat_inj.1 e)⟩
                have hCs : C.size = B.size + (join 32 (ws.take k)).length := by rw [Lib.size_eq C, hC.out, Lib.size_eq B, List.length_append]
                have hys : B.size + (join 32 (ws.take k)).length + (if k = 0 then 0 else 1) + y.size ≤ s.size := by
                  rw [hja] at hjle
                  have e : (if k = 0 then ([] : List UInt8) else join 32 (ws.take k) ++ [32]).length + x.length = (join 32 (ws.take k)).length + (if k = 0 then 0 else 1) + y.size := by
                    rw [Lib.size_eq y, hyx]
                    split
                    · rename_i h; subst h; simp [join]
                    · simp
                  rw [List.length_append, e] at hjle
                  have := HBS.out
                  omega
                have HJA : Hid (join 32 (ws.take (k + 1)) = (if k = 0 then [] else join 32 (ws.take k) ++ [32]) ++ y.data.toList) := by show _ = _; rw [hyx]; exact hja
                have hyb : y.size ≤ 10000 := by omega
                have hcb : C.size ≤ 5000 := by omega
                have HCS := Lib.hid hCs
                have HYS := Lib.hid hys
                clear hcl hja hjle hy hyx hCs hys
                go_wp2_with fail
                go_loop [11] (fun v11 => ∃ j : Nat, j ≤ y.size ∧ v11 = .int .i64 (j : Int)) (fun v11 => y.size - (RowKit.intOf v11).toNat)
                case atStart => exact ⟨0, Nat.zero_le _, rfl⟩
                case round =>
                  obtain ⟨j, hj, rfl⟩ := hrel
                  by_cases hjl : j < y.size
                  · obtain ⟨q1, q2, q3⟩ := HY.out j hjl
                    have q4 : ((y[j].toNat : Int) == 35) = false := by rw [beq_eq_false_iff_ne]; omega
                    clear q3
                    go_wp2_with fail
                    go_round
                    case rel => exact ⟨j + 1, by omega, by go_num⟩
                    case measure => simp [RowKit.intOf]; omega
                  · obtain rfl : j = y.size := by omega
                    by_cases hk0 : k = 0
                    · subst hk0
                      obtain ⟨z, hz1, hz2⟩ := add_any (P := Tryd.prog) C y (by omega) (by omega)
                      have HZ : Hid (z.data.toList = B.data.toList ++ join 32 (ws.take (0 + 1))) := by
                        show _ = _
                        rw [hz1, hC.out, HJA.out, if_pos rfl, List.take_zero, List.nil_append]
                        simp [join]
                      clear hz1
                      go_wp2_with fail
                      go_round
                      case rel => exact ⟨1, z, by omega, by go_num, rfl, HZ⟩
                      case measure => simp [RowKit.intOf]; omega
                    · obtain ⟨z, hz1, hz2⟩ := add_any (P := Tryd.prog) C ⟨#[32]⟩ (by omega) (by decide)
                      have hzs : z.size = C.size + 1 := by rw [Lib.size_eq z, hz1, Lib.size_eq C, List.length_append]; rfl
                      obtain ⟨u, hu1, hu2⟩ := add_any (P := Tryd.prog) z y (by omega) (by omega)
                      have HZ : Hid (u.data.toList = B.data.toList ++ join 32 (ws.take (k + 1))) := by
                        show _ = _
                        rw [hu1, hz1, hC.out, HJA.out, if_neg hk0]
                        simp
                      have hkp : (0 : Int) < (k : Int) := by omega
                      clear hz1 hu1 hzs
                      go_wp2_with fail
                      go_round
                      case rel => exact ⟨k + 1, u, by omega, by go_num, rfl, HZ⟩
                      case measure => simp [RowKit.intOf]; omega
              · obtain rfl : k = m := by omega
                have hwt : ws.take k = ws := List.take_of_length_le (by rw [HM.out]; exact Nat.le_refl _)
                have HF : Hid (C.data.toList = joinL 1 (ls.take (i + 1))) := by
                  show _ = _
                  rw [hC.out, hB.out, hJ.out, HST.out.1, hat.out, hwt, List.append_assoc]
                have hcs : C.size = J.size + (b - a) + (join 32 ws).length := by
                  rw [Lib.size_eq C, HF.out, HST.out.1, Lib.size_eq J, hJ.out, hat.out]
                  simp only [List.length_append, List.length_replicate]
                  omega
                have hC1 : b ≤ C.size + 1 := by omega
                have hC2 : C.size ≤ s.size := by omega
                clear hcs hwt
                go_wp2_with fail
                go_round
                case rel => exact ⟨i + 1, b, C, by omega, hC1, hC2, by go_num, rfl, rfl, HST.out.2.symm, HF⟩
                case measure => simp [RowKit.intOf]; omega
      · obtain rfl : i = L := by omega
        have hall : ls.take i = ls := List.take_of_length_le (by rw [HLL.out]; exact Nat.le_refl _)
        have hJ2 : J.data.toList = joinL 1 ls := by rw [hJ.out, hall]
        have H2 := Lib.hid (lines_any J w1 (by unfold maxLen; omega) (HE.out.below HB1.out))
        unfold Ans at H2
        rw [hJ2, HG.out.2.2.1, HG.out.2.2.2] at H2
        have hnl2 := TxtM.lineOf_le (joinL 1 ls)
        generalize lineOf (joinL 1 ls) = nn2 at H2 hnl2
        clear hall hJ2
        go_wp2_with fail
        go_at_call 6
        refine H2.out.mono ?_
        rintro e w2 ⟨v2, rfl, hl2, hb2⟩
        have HB2 := Lib.hid (HB1.out.trans (hb2.mono HB1.out.size))
        have HL2 := Lib.hid hl2
        have HL1' := Lib.hid (HL1.out.below hb2)
        clear hb2 hl2 H2
        have HA := Lib.hid (awake_any w2 (HE.out.below HB2.out))
        go_wp2_with fail
        go_at_call 8
        refine HA.out.mono ?_
        rintro e w3 ⟨rfl, hb3⟩
        have HB3 := Lib.hid (HB2.out.trans (hb3.mono HB2.out.size))
        have HS := Lib.hid (same_true _ v2 _ w3 (HL1'.out.below hb3) (HL2.out.below hb3))
        clear hb3 HA HL1' HL2
        go_wp2_with fail
        go_at_call 9
        refine HS.out.mono ?_
        rintro e w4 ⟨rfl, q, rfl⟩
        have hjz : (J.size : Int) ≤ (s.size : Int) := by omega
        go_wp2_with fail
        go_ret
        exact ⟨rfl, HB3.out.trans ((below_drewN _ q).mono HB3.out.size)⟩
  · have hls : linesOf s.data.toList = [] := by unfold linesOf; rw [if_neg h0]
    rw [hls] at H1
    generalize errOf s.data.toList = a at H1 h0 hel
    generalize lineOf s.data.toList = b at H1 hnl
    have ha0 : ((a : Int) == 0) = false := by rw [beq_eq_false_iff_ne]; omega
    clear hls h0
    go_enter Tryd.func5, Tryd.ntmps5
    go_wp2_with fail
    go_at_call 6
    refine H1.out.mono ?_
    rintro e w1 ⟨v1, rfl, hl1, hb1⟩
    obtain ⟨A1, c1, rfl⟩ := hl1.len
    have HB1 := Lib.hid hb1
    have HA := Lib.hid (awake_any w1 (HE.out.below hb1))
    clear hb1 hl1 H1
    go_wp2_with fail
    go_at_call 8
    refine HA.out.mono ?_
    rintro e w2 ⟨rfl, hb2⟩
    have HB2 := Lib.hid (HB1.out.trans (hb2.mono HB1.out.size))
    clear hb2
    go_wp2_with fail
    go_ret
    exact ⟨rfl, HB2.out⟩
end Tx
end Go.Proofs.YtdppaijofpbdeaaDoor
