/- Layer 12: the contracts of the reference's Print and ports. (Written by wip/tools/mkRulL.py.) -/
import Derived.Test.YtfbbkbjiaopnkaaGreatDoorRulK
import Derived.Test.YtfbbkbjiaopnkaaGreatDoorRulE
import Derived.Test.YtfbbkbjiaopnkaaGreatDoorTxtC
set_option linter.unusedVariables false
set_option linter.unusedSimpArgs false
namespace Go.Proofs.YtfbbkbjiaopnkaaGreatDoor
open Go.ChangeShapes Go.WideShapes Go.ChangeAt Go.RowKit Go.Mtl Go.Shelf Go.Lib
namespace Ru
open RulM (R goodR lineR textR printE printT portsR lowS highS)
open AdrM (anyL)
open TxtM (okN valN)

/-- What the reference's Print keeps. -/
structure PR (w : World) (rs : List R) (k : Nat) (z : List UInt8) (W : World) : Prop where
  good : (rs.take k).all goodR = true
  txt : z = textR (rs.take k)
  bel : Below w.heap.size w W
set_option maxRecDepth 100000 in
set_option maxHeartbeats 2000000 in
theorem refPrint_any (v : Value) (rs : List R) (w : World) (hr : Rds w w.heap.size v rs) (ho : ∀ r ∈ rs, r.Ok) :
    Calls Tryz.prog 10 #[v] w fun e w' => e = .returned (.tuple #[.string ⟨(printT rs).toArray⟩, .int .i64 (printE rs : Int)]) ∧ Below w.heap.size w w' := by
  obtain ⟨A, cap, rfl, hcap, hmax⟩ := hr.len
  unfold maxLen at hmax
  have HR := Lib.hid hr
  clear hr
  obtain ⟨n, hn⟩ : ∃ n, rs.length = n := ⟨_, rfl⟩
  rw [hn] at hcap HR ⊢
  have HN := Lib.hid hn
  by_cases h64 : 64 < n
  · have HM := Lib.hid (RulM.print_many (rs := rs) (by omega))
    clear hn
    go_enter Tryz.func10, Tryz.ntmps10
    go_wp2_with fail
    go_ret2
    exact ⟨by rw [HM.out.1, HM.out.2]; rfl, Below.refl _ _⟩
  · have HO := Lib.hid ho
    clear ho hn
    go_enter Tryz.func10, Tryz.ntmps10
    go_wp2_with fail
    go_loopw [4, 5] (fun t i wr => ∃ (k : Nat) (z : List UInt8), k ≤ n ∧ i = .int .i64 (k : Int) ∧ t = .string ⟨z.toArray⟩ ∧ Hid (PR w rs k z wr)) (fun _ i _ => n - (RowKit.intOf i).toNat)
    case atStart => exact ⟨0, [], by omega, rfl, rfl, rfl, rfl, Below.refl _ _⟩
    case round =>
      obtain ⟨k, z, hk, rfl, rfl, hPR⟩ := hrel
      by_cases hlt : k < n
      · obtain ⟨r, hrk⟩ : ∃ r, rs[k]? = some r := ⟨_, List.getElem?_eq_getElem (by have := HN.out; omega)⟩
        obtain ⟨b, off, cap', hv, hb, hc⟩ := HR.out.at_ hrk
        injection hv with hv1 hv2 hv3
        subst hv1
        have HC := Lib.hid (fun W (h : Below w.heap.size w W) j u (hu : (cellsR r)[j]? = some u) => (h.cell (p := ⟨b, off + (k * 10 + j), none⟩) hb).trans (hc j u hu))
        have hrok := HO.out r (List.mem_of_getElem? hrk)
        have HG := Lib.hid (fun W => refGood_any r hrok W)
        clear hc hv2 hv3
        have d0 := HC.out wr hPR.out.bel 0 _ rfl
        have d1 := HC.out wr hPR.out.bel 1 _ rfl
        have d2 := HC.out wr hPR.out.bel 2 _ rfl
        have d3 := HC.out wr hPR.out.bel 3 _ rfl
        have d4 := HC.out wr hPR.out.bel 4 _ rfl
        have d5 := HC.out wr hPR.out.bel 5 _ rfl
        have d6 := HC.out wr hPR.out.bel 6 _ rfl
        have d7 := HC.out wr hPR.out.bel 7 _ rfl
        have d8 := HC.out wr hPR.out.bel 8 _ rfl
        have d9 := HC.out wr hPR.out.bel 9 _ rfl
        rw [← Nat.add_assoc] at d0 d1 d2 d3 d4 d5 d6 d7 d8 d9
        rw [Nat.add_zero] at d0
        cases hg : goodR r with
        | false =>
          rw [hg] at HG
          have HX := Lib.hid (RulM.print_bad (by have := HN.out; omega) hrk hg)
          clear hrk hg hrok
          go_wp2_with fail
          go_at_call 12
          refine (HG.out _).mono ?_
          rintro e w1 ⟨rfl, hb1⟩
          have HB1 := Lib.hid (below_then hPR.out.bel hb1)
          clear hb1 d0 d1 d2 d3 d4 d5 d6 d7 d8 d9
          go_wp2_with fail
          go_ret2
          exact ⟨ret_print (by rw [HX.out.2]) (by rw [HX.out.1]; rfl), HB1.out⟩
        | true =>
          rw [hg] at HG
          have HS := Lib.hid (fun W => refLine_any r hrok hg W)
          have HGK : Hid ((rs.take (k + 1)).all goodR = true) := by
            show _ = _
            rw [take_at hrk, List.all_append, hPR.out.good]; simp [hg]
          have hl1 := take_len HO.out (by omega) hPR.out.good
          rw [← hPR.out.txt] at hl1
          have hl2 := RulM.line_len hrok hg
          have HTX : Hid (textR (rs.take (k + 1)) = z ++ (lineR r ++ [10])) := by
            show _ = _
            rw [take_at hrk, RulM.textR_snoc, hPR.out.txt]
          generalize lineR r = lr at *
          obtain ⟨z1, hz1⟩ : ∃ y, lr ++ [10] = y := ⟨_, rfl⟩
          obtain ⟨z2, hz2⟩ : ∃ y, z ++ z1 = y := ⟨_, rfl⟩
          have m1 : z1.length ≤ 100 := by rw [← hz1]; simp; omega
          have hA1 := fun W => Ad.add_textE (P := Tryz.prog) lr [10] z1 hz1 (by omega) (by simp) W
          have hA2 := fun W => Ad.add_textE (P := Tryz.prog) z z1 z2 hz2 (by omega) (by omega) W
          have HZ : Hid (z2 = textR (rs.take (k + 1))) := by show _ = _; rw [HTX.out, hz1, hz2]
          clear hrk hg hrok hl1 hl2 HTX hz1 hz2 m1
          go_wp2_with fail
          go_at_call 12
          refine (HG.out _).mono ?_
          rintro e w1 ⟨rfl, hb1⟩
          have HB1 := Lib.hid (below_then hPR.out.bel hb1)
          clear hb1 d0 d1 d2 d3 d4 d5 d6 d7 d8 d9
          have d0 := HC.out w1 HB1.out 0 _ rfl
          have d1 := HC.out w1 HB1.out 1 _ rfl
          have d2 := HC.out w1 HB1.out 2 _ rfl
          have d3 := HC.out w1 HB1.out 3 _ rfl
          have d4 := HC.out w1 HB1.out 4 _ rfl
          have d5 := HC.out w1 HB1.out 5 _ rfl
          have d6 := HC.out w1 HB1.out 6 _ rfl
          have d7 := HC.out w1 HB1.out 7 _ rfl
          have d8 := HC.out w1 HB1.out 8 _ rfl
          have d9 := HC.out w1 HB1.out 9 _ rfl
          rw [← Nat.add_assoc] at d0 d1 d2 d3 d4 d5 d6 d7 d8 d9
          rw [Nat.add_zero] at d0
          go_wp2_with fail
          go_at_call 19
          refine (HS.out _).mono ?_
          rintro e w2 ⟨rfl, hb2⟩
          have HB2 : Hid (PR w rs (k + 1) z2 w2) := ⟨HGK.out, HZ.out, below_then HB1.out hb2⟩
          clear hb2 d0 d1 d2 d3 d4 d5 d6 d7 d8 d9
          go_wp2_with fail
          go_roundw
          case rel => exact ⟨k + 1, z2, by omega, by go_num, rfl, HB2⟩
          case measure => simp [RowKit.intOf]; omega
      · obtain rfl : k = n := by omega
        have HA : Hid (rs.take k = rs) := List.take_of_length_le (by have := HN.out; omega)
        have HX := Lib.hid (RulM.print_ok (rs := rs) (by have := HN.out; omega) (by have := hPR.out.good; rw [HA.out] at this; exact this))
        have HZ : Hid (z = textR rs) := by show _ = _; rw [hPR.out.txt, HA.out]
        go_wp2_with fail
        go_ret2
        exact ⟨ret_print (by rw [HX.out.2, HZ.out]) (by rw [HX.out.1]; rfl), hPR.out.bel⟩

def noDash (l : List UInt8) (k : Nat) : Prop := ∀ j c, j < k → l[j]? = some c → c ≠ 45
theorem noDash_take {l : List UInt8} {k : Nat} (h : noDash l k) : (45 : UInt8) ∉ l.take k := by
  intro hm
  obtain ⟨j, hj⟩ := List.mem_iff_getElem?.1 hm
  rw [List.getElem?_take] at hj
  split at hj
  · exact h j 45 (by assumption) hj rfl
  · cases hj
theorem dash_at {l : List UInt8} {k : Nat} (h : noDash l k) (hk : l[k]? = some 45) : lowS l = l.take k ∧ highS l = l.drop (k + 1) := by
  obtain ⟨hlt, he⟩ := List.getElem?_eq_some_iff.1 hk
  have e : l = l.take k ++ 45 :: l.drop (k + 1) := by
    rw [← he, ← List.drop_eq_getElem_cons hlt, List.take_append_drop]
  have hc : cut l [45] = (l.take k, l.drop (k + 1), true) := by
    conv => lhs; rw [e]
    exact RulM.cut_hit 45 _ _ (noDash_take h)
  unfold RulM.lowS RulM.highS
  rw [hc]
  exact ⟨rfl, rfl⟩
theorem dash_none {l : List UInt8} (h : noDash l l.length) : lowS l = l ∧ highS l = l := by
  have hc : cut l [45] = (l, [], false) := by
    have := noDash_take h
    rw [List.take_length] at this
    exact RulM.cut_miss 45 _ this
  unfold RulM.lowS RulM.highS
  rw [hc]
  exact ⟨rfl, rfl⟩
def portsV (x : Nat × Nat) : Value := .agg #[.int .u16 (x.1 : Int), .int .u16 (x.2 : Int)]
theorem valN_le (l : List UInt8) : valN l ≤ 4611686018427387904 := by
  by_cases h : okN l = true
  · rw [TxtM.valN_yes h]; have := ((TxtM.okN_iff l).1 h).2.2; unfold TxtM.top at this; exact this
  · rw [TxtM.valN_no (by simpa using h)]; omega
theorem portsV_over {l : List UInt8} (hne : l ≠ anyL) (h : 65535 < valN (lowS l) ∨ 65535 < valN (highS l)) : portsV (portsR l) = .agg #[.int .u16 1, .int .u16 0] := by
  unfold RulM.portsR; rw [if_neg hne, if_pos h]; rfl
theorem portsV_in {l : List UInt8} {a b : Nat} (hne : l ≠ anyL) (ha : valN (lowS l) = a) (hb : valN (highS l) = b) (h : ¬ (65535 < a ∨ 65535 < b)) : portsV (portsR l) = .agg #[.int .u16 (a : Int), .int .u16 (b : Int)] := by
  unfold RulM.portsR; rw [if_neg hne, ha, hb, if_neg h]; rfl
theorem ports_any0 (s : ByteArray) (hs : s.data.toList = anyL) (w : World) :
    Calls Tryz.prog 16 #[.string s] w fun e w' => e = .returned (portsV (0, 65535)) ∧ Below w.heap.size w w' := by
  have ht : (s.toList == [97, 110, 121]) = true := by rw [ByteArray.toList_eq, hs]; rfl
  clear hs
  go_enter Tryz.func16, Tryz.ntmps16
  go_wp2_with fail
  exact bodyPost_ret (v := portsV (0, 65535)) (by simp [results, Tryz.results16, go_sem, portsV]) rfl ⟨rfl, (Below.refl _ _).alloc (Nat.le_refl _) _⟩

set_option maxRecDepth 100000 in
set_option maxHeartbeats 4000000 in
theorem ports_any1 (s : ByteArray) (hs : s.size ≤ 1000000) (hne : s.data.toList ≠ anyL) (w : World) :
    Calls Tryz.prog 16 #[.string s] w fun e w' => e = .returned (portsV (portsR s.data.toList)) ∧ Below w.heap.size w w' := by
  have ht : (s.toList == [97, 110, 121]) = false := by rw [ByteArray.toList_eq]; simpa [anyL] using hne
  have HSZ := Lib.hid (Ad.size_len s)
  have HZ := Lib.hid (SAt.box (.int .u16 0) (.int .u16 0) (Below.refl w.heap.size w))
  obtain ⟨V, hV⟩ : ∃ V, portsV (portsR s.data.toList) = V := ⟨_, rfl⟩
  rw [hV]
  have HVV := Lib.hid hV
  have HNE := Lib.hid hne
  clear hne hV
  go_enter Tryz.func16, Tryz.ntmps16
  go_wp2_with fail
  clear ht
  go_loop [3] (fun i => ∃ k : Nat, k ≤ s.size ∧ i = .int .i64 (k : Int) ∧ Hid (noDash s.data.toList k)) (fun i => s.size - (RowKit.intOf i).toNat)
  case atStart => exact ⟨0, by omega, rfl, fun j c h => by omega⟩
  case round =>
    obtain ⟨k, hk, rfl, hns⟩ := hrel
    by_cases hlt : k < s.size
    · have HAT := Lib.hid (data_getElem? s k hlt)
      by_cases hd : s[k] = 45
      · have heq : ((s[k].toNat : Int) != 45) = false := by
          have : s[k].toNat = 45 := by rw [hd]; rfl
          simp; omega
        have hPT := dash_at hns.out (by rw [HAT.out, hd])
        have hx1 := Ad.extract_list s 0 k
        have hx2 := Ad.extract_list s (k + 1) s.size
        rw [List.drop_zero, Nat.sub_zero] at hx1
        have hx2' : (s.extract (k + 1) s.size).data.toList = s.data.toList.drop (k + 1) := by
          rw [hx2]; exact List.take_of_length_le (by rw [List.length_drop, ← HSZ.out]; omega)
        have H1 := Lib.hid (fun W => Tx.refNumber_any (s.extract 0 k) W (by unfold maxLen; simp [ByteArray.size_extract]; omega))
        have H2 := Lib.hid (fun W => Tx.refNumber_any (s.extract (k + 1) s.size) W (by unfold maxLen; simp [ByteArray.size_extract]; omega))
        rw [hx1, ← hPT.1] at H1
        rw [hx2', ← hPT.2] at H2
        have va := valN_le (lowS s.data.toList)
        have vb := valN_le (highS s.data.toList)
        have hover := portsV_over HNE.out
        have hin := fun a b ha hb h => portsV_in (a := a) (b := b) HNE.out ha hb h
        rw [HVV.out] at hover hin
        obtain ⟨a, ha⟩ : ∃ a, valN (lowS s.data.toList) = a := ⟨_, rfl⟩
        obtain ⟨b, hb⟩ : ∃ b, valN (highS s.data.toList) = b := ⟨_, rfl⟩
        have hin' := hin a b ha hb
        rw [ha, hb] at hover
        rw [ha] at H1 va
        rw [hb] at H2 vb
        generalize okN (lowS s.data.toList) = k1 at *
        generalize okN (highS s.data.toList) = k2 at *
        clear hx1 hx2 hx2' hd hPT hin ha hb
        by_cases h1 : 65535 < a
        · have HV := Lib.hid (hover (.inl h1))
          clear hover hin'
          go_wp2_with fail
          go_at_call 35
          refine (H1.out _).mono ?_
          rintro e w2 ⟨rfl, hb2⟩
          have HZ2 := Lib.hid (HZ.out.next hb2)
          clear hb2
          go_wp2_with fail
          go_at_call 35
          refine (H2.out _).mono ?_
          rintro e w3 ⟨rfl, hb3⟩
          have HZ3 := Lib.hid (HZ2.out.next hb3)
          clear hb3
          have c0 := HZ3.out.c0
          have c1 := HZ3.out.c1
          have f0 := HZ3.out.f 0
          have f1 := HZ3.out.f 1
          go_wp2_with fail
          have HY := Lib.hid (HZ3.out.put (.int .u16 1) (.int .u16 0))
          have r0 := HY.out.c0
          have r1 := HY.out.c1
          exact bodyPost_ret (v := .agg #[.int .u16 1, .int .u16 0]) (by simp [results, Tryz.results16, go_sem, r0, r1]) rfl ⟨by rw [HV.out], HY.out.bel⟩
        · by_cases h2 : 65535 < b
          · have HV := Lib.hid (hover (.inr h2))
            clear hover hin'
            go_wp2_with fail
            go_at_call 35
            refine (H1.out _).mono ?_
            rintro e w2 ⟨rfl, hb2⟩
            have HZ2 := Lib.hid (HZ.out.next hb2)
            clear hb2
            go_wp2_with fail
            go_at_call 35
            refine (H2.out _).mono ?_
            rintro e w3 ⟨rfl, hb3⟩
            have HZ3 := Lib.hid (HZ2.out.next hb3)
            clear hb3
            have c0 := HZ3.out.c0
            have c1 := HZ3.out.c1
            have f0 := HZ3.out.f 0
            have f1 := HZ3.out.f 1
            go_wp2_with fail
            have HY := Lib.hid (HZ3.out.put (.int .u16 1) (.int .u16 0))
            have r0 := HY.out.c0
            have r1 := HY.out.c1
            exact bodyPost_ret (v := .agg #[.int .u16 1, .int .u16 0]) (by simp [results, Tryz.results16, go_sem, r0, r1]) rfl ⟨by rw [HV.out], HY.out.bel⟩
          · have HV := Lib.hid (hin' (fun h => h.elim h1 h2))
            clear hover hin'
            have wa : IntKind.u16.wrap (a : Int) = (a : Int) := IntWalk.u16_in _ (by omega)
            have wb : IntKind.u16.wrap (b : Int) = (b : Int) := IntWalk.u16_in _ (by omega)
            go_wp2_with fail
            go_at_call 35
            refine (H1.out _).mono ?_
            rintro e w2 ⟨rfl, hb2⟩
            have HZ2 := Lib.hid (HZ.out.next hb2)
            clear hb2
            go_wp2_with fail
            go_at_call 35
            refine (H2.out _).mono ?_
            rintro e w3 ⟨rfl, hb3⟩
            have HZ3 := Lib.hid (HZ2.out.next hb3)
            clear hb3
            have c0 := HZ3.out.c0
            have c1 := HZ3.out.c1
            have f0 := HZ3.out.f 0
            have f1 := HZ3.out.f 1
            go_wp2_with fail
            have HY := Lib.hid (HZ3.out.put (.int .u16 (a : Int)) (.int .u16 (b : Int)))
            have r0 := HY.out.c0
            have r1 := HY.out.c1
            exact bodyPost_ret (v := .agg #[.int .u16 (a : Int), .int .u16 (b : Int)]) (by simp [results, Tryz.results16, go_sem, r0, r1]) rfl ⟨by rw [HV.out], HY.out.bel⟩
      · have heq : ((s[k].toNat : Int) != 45) = true := by
          rw [bne_iff_ne]
          intro e
          exact hd (UInt8.toNat_inj.1 (by show s[k].toNat = 45; omega))
        have HND : Hid (noDash s.data.toList (k + 1)) := fun j c hj hc => by
          by_cases hjk : j = k
          · subst hjk
            rw [HAT.out] at hc
            cases hc
            exact hd
          · exact hns.out j c (by omega) hc
        clear hd
        go_wp2_with fail
        go_round
        case rel => exact ⟨k + 1, by omega, by go_num, HND⟩
        case measure => simp [RowKit.intOf]; omega
    · obtain rfl : k = s.size := by omega
      have hPT := dash_none (by rw [← HSZ.out]; exact hns.out)
      have H1 := Lib.hid (fun W => Tx.refNumber_any s W (by unfold maxLen; omega))
      have hover := portsV_over HNE.out
      have hin := fun a b ha hb h => portsV_in (a := a) (b := b) HNE.out ha hb h
      rw [HVV.out, hPT.1, hPT.2] at hover hin
      have va := valN_le s.data.toList
      obtain ⟨a, ha⟩ : ∃ a, valN s.data.toList = a := ⟨_, rfl⟩
      have hin' := hin a a ha ha
      rw [ha] at H1 va hover
      generalize okN s.data.toList = k1 at *
      clear hPT hin ha
      by_cases h1 : 65535 < a
      · have HV := Lib.hid (hover (.inl h1))
        clear hover hin'
        go_wp2_with fail
        go_at_call 35
        refine (H1.out _).mono ?_
        rintro e w2 ⟨rfl, hb2⟩
        have HZ2 := Lib.hid (HZ.out.next hb2)
        clear hb2
        have c0 := HZ2.out.c0
        have c1 := HZ2.out.c1
        have f0 := HZ2.out.f 0
        have f1 := HZ2.out.f 1
        go_wp2_with fail
        have HY := Lib.hid (HZ2.out.put (.int .u16 1) (.int .u16 0))
        have r0 := HY.out.c0
        have r1 := HY.out.c1
        exact bodyPost_ret (v := .agg #[.int .u16 1, .int .u16 0]) (by simp [results, Tryz.results16, go_sem, r0, r1]) rfl ⟨by rw [HV.out], HY.out.bel⟩
      · have HV := Lib.hid (hin' (fun h => h.elim h1 h1))
        clear hover hin'
        have wa : IntKind.u16.wrap (a : Int) = (a : Int) := IntWalk.u16_in _ (by omega)
        go_wp2_with fail
        go_at_call 35
        refine (H1.out _).mono ?_
        rintro e w2 ⟨rfl, hb2⟩
        have HZ2 := Lib.hid (HZ.out.next hb2)
        clear hb2
        have c0 := HZ2.out.c0
        have c1 := HZ2.out.c1
        have f0 := HZ2.out.f 0
        have f1 := HZ2.out.f 1
        go_wp2_with fail
        have HY := Lib.hid (HZ2.out.put (.int .u16 (a : Int)) (.int .u16 (a : Int)))
        have r0 := HY.out.c0
        have r1 := HY.out.c1
        exact bodyPost_ret (v := .agg #[.int .u16 (a : Int), .int .u16 (a : Int)]) (by simp [results, Tryz.results16, go_sem, r0, r1]) rfl ⟨by rw [HV.out], HY.out.bel⟩
theorem ports_any (l : List UInt8) (hl : l.length ≤ 4096) (w : World) :
    Calls Tryz.prog 16 #[.string ⟨l.toArray⟩] w fun e w' => e = .returned (portsV (portsR l)) ∧ Below w.heap.size w w' := by
  have e0 : (⟨l.toArray⟩ : ByteArray).data.toList = l := by simp
  by_cases h : l = anyL
  · subst h
    exact ports_any0 _ e0 w
  · have := ports_any1 ⟨l.toArray⟩ (by simp [ByteArray.size]; omega) (by rw [e0]; exact h) w
    rw [e0] at this
    exact this

end Ru
end Go.Proofs.YtfbbkbjiaopnkaaGreatDoor
