/- Layer 12: the contracts of parse and Compile. (Written by wip/tools/mkRulJ.py.) -/
import Derived.Test.YtfbbkbjiaopnkaaDoorRulH
import Derived.Test.YtfbbkbjiaopnkaaDoorRulI
import Derived.Test.YtfbbkbjiaopnkaaDoorRulN
import Derived.Test.YtfbbkbjiaopnkaaDoorTxtD
set_option linter.unusedVariables false
set_option linter.unusedSimpArgs false
namespace Go.Proofs.YtfbbkbjiaopnkaaDoor
open Go.ChangeShapes Go.WideShapes Go.ChangeAt Go.RowKit Go.Mtl Go.Shelf Go.Lib
namespace Ru
open RulM (R wordS known protoP spanS spanP parseW acceptL dropL comp compile)
open AdrM (anyL netS)
open TxtM (Line errOf lineOf linesOf)

theorem parse_short (v : Value) (ws : List (List UInt8)) (w : World) (h6 : ws.length ≠ 6) (hr : Tx.Row w 9 w.heap.size v ws.length (ws.map Tx.strV)) :
    Calls Tryd.prog 13 #[v] w fun e w' => e = .returned (ruleV none) ∧ Below w.heap.size w w' := by
  obtain ⟨A, c, rfl⟩ := hr.len
  have hd : ((ws.length : Int) != 6) = true := by rw [bne_iff_ne]; omega
  have HT := Lib.hid (TenAt.box w zR)
  clear hr h6
  generalize ws.length = n at *
  go_enter Tryd.func13, Tryd.ntmps13
  go_wp2_with fail
  exact bodyPost_ret (v := ruleV none) (by simp [results, Tryd.results13, go_sem, ruleV]) rfl ⟨rfl, below_box _ _⟩
theorem protoB_none {l : List UInt8} (h : protoP l = none) : protoB l = false := by unfold protoB; rw [h]; rfl
theorem protoB_some {l : List UInt8} {p : Nat} (h : protoP l = some p) : protoB l = true ∧ protoN l = p := by unfold protoB protoN; rw [h]; exact ⟨rfl, rfl⟩
theorem parseW_six (v p s sp d dp : List UInt8) : parseW [v, p, s, sp, d, dp] = if v = acceptL ∨ v = dropL then
    match protoP p, netS s, spanP sp, netS d, spanP dp with
    | some p, some (sa, sb), some (sl, sh), some (da, db), some (dl, dh) => some ⟨decide (v = acceptL), p, sa, sb, da, db, sl, sh, dl, dh⟩
    | _, _, _, _, _ => none else none := rfl
theorem parseW_verd {v p s sp d dp : List UInt8} (hA : ¬ v = acceptL) (hD : ¬ v = dropL) : parseW [v, p, s, sp, d, dp] = none := by rw [parseW_six, if_neg (fun h => h.elim hA hD)]
theorem parseW_no {v p s sp d dp : List UInt8} (h : protoP p = none ∨ netS s = none ∨ spanP sp = none ∨ netS d = none ∨ spanP dp = none) : parseW [v, p, s, sp, d, dp] = none := by
  rw [parseW_six]
  split
  · generalize protoP p = x0 at *
    generalize netS s = x1 at *
    generalize spanP sp = x2 at *
    generalize netS d = x3 at *
    generalize spanP dp = x4 at *
    cases x0 <;> cases x1 <;> cases x2 <;> cases x3 <;> cases x4 <;> simp at h ⊢
  · rfl
theorem parseW_yes {v p s sp d dp : List UInt8} {q x0 y0 x1 y1 x2 y2 x3 y3 : Nat} (hv : v = acceptL ∨ v = dropL) (h1 : protoP p = some q) (h2 : netS s = some (x0, y0)) (h3 : spanP sp = some (x1, y1)) (h4 : netS d = some (x2, y2)) (h5 : spanP dp = some (x3, y3)) :
    parseW [v, p, s, sp, d, dp] = some ⟨decide (v = acceptL), q, x0, y0, x2, y2, x1, y1, x3, y3⟩ := by
  rw [parseW_six, if_pos hv, h1, h2, h3, h4, h5]
theorem parse_six (v p s sp d dp : List UInt8) (g cap : Nat) (w : World) (he : Env w) (hW : Wds g v p s sp d dp w) (hcap : 6 ≤ cap) (hcap2 : cap ≤ 9223372036854775807) (l2 : s.length ≤ 4096) (l3 : sp.length ≤ 4096) (l4 : d.length ≤ 4096) (l5 : dp.length ≤ 4096) :
    Calls Tryd.prog 13 #[.slice (some ⟨g, 0, none⟩) 6 cap] w fun e w' => e = .returned (ruleV (parseW [v, p, s, sp, d, dp])) ∧ Below w.heap.size w w' := by
  by_cases hv : v = acceptL ∨ v = dropL
  · cases h : protoP p with
    | none =>
      rw [parseW_no (.inl h)]
      have hK := protoB_none h
      rcases hv with rfl | rfl
      · exact parse_ak _ p s sp d dp g cap w he hW hcap hcap2 l2 l3 l4 l5 rfl hK
      · exact parse_dk _ p s sp d dp g cap w he hW hcap hcap2 l2 l3 l4 l5 rfl rfl hK
    | some q =>
      obtain ⟨hK, hN⟩ := protoB_some h
      cases h0 : netS s with
      | none =>
        rw [parseW_no (.inr (.inl h0))]
        rcases hv with rfl | rfl
        · exact parse_an1 _ p s sp d dp g cap w he hW hcap hcap2 l2 l3 l4 l5 rfl hK h0
        · exact parse_dn1 _ p s sp d dp g cap w he hW hcap hcap2 l2 l3 l4 l5 rfl rfl hK h0
      | some X0 =>
        obtain ⟨x0, y0⟩ := X0
        cases h2 : netS d with
        | none =>
          rw [parseW_no (.inr (.inr (.inr (.inl h2))))]
          rcases hv with rfl | rfl
          · exact parse_an2 _ p s sp d dp g cap w he hW hcap hcap2 l2 l3 l4 l5 rfl hK x0 y0 h0 h2
          · exact parse_dn2 _ p s sp d dp g cap w he hW hcap hcap2 l2 l3 l4 l5 rfl rfl hK x0 y0 h0 h2
        | some X2 =>
          obtain ⟨x2, y2⟩ := X2
          cases h1 : spanP sp with
          | none =>
            rw [parseW_no (.inr (.inr (.inl h1)))]
            rcases hv with rfl | rfl
            · exact parse_as1 _ p s sp d dp g cap w he hW hcap hcap2 l2 l3 l4 l5 rfl hK x0 y0 h0 h1 x2 y2 h2
            · exact parse_ds1 _ p s sp d dp g cap w he hW hcap hcap2 l2 l3 l4 l5 rfl rfl hK x0 y0 h0 h1 x2 y2 h2
          | some X1 =>
            obtain ⟨x1, y1⟩ := X1
            cases h3 : spanP dp with
            | none =>
              rw [parseW_no (.inr (.inr (.inr (.inr h3))))]
              rcases hv with rfl | rfl
              · exact parse_as2 _ p s sp d dp g cap w he hW hcap hcap2 l2 l3 l4 l5 rfl hK x0 y0 h0 x1 y1 h1 x2 y2 h2 h3
              · exact parse_ds2 _ p s sp d dp g cap w he hW hcap hcap2 l2 l3 l4 l5 rfl rfl hK x0 y0 h0 x1 y1 h1 x2 y2 h2 h3
            | some X3 =>
              obtain ⟨x3, y3⟩ := X3
              rw [parseW_yes hv h h0 h1 h2 h3, ← hN]
              rcases hv with rfl | rfl
              · exact parse_ay _ p s sp d dp g cap w he hW hcap hcap2 l2 l3 l4 l5 rfl hK x0 y0 h0 x1 y1 h1 x2 y2 h2 x3 y3 h3
              · exact parse_dy _ p s sp d dp g cap w he hW hcap hcap2 l2 l3 l4 l5 rfl rfl hK x0 y0 h0 x1 y1 h1 x2 y2 h2 x3 y3 h3
  · have hA : ¬ v = acceptL := fun h => hv (.inl h)
    have hD : ¬ v = dropL := fun h => hv (.inr h)
    rw [parseW_verd hA hD]
    exact parse_nov v p s sp d dp g cap w he hW hcap hcap2 l2 l3 l4 l5 (by rw [beq_eq_false_iff_ne]; exact hA) (by rw [beq_eq_false_iff_ne]; exact hD)
theorem parse_any (v : Value) (ws : List (List UInt8)) (w : World) (he : Env w) (hr : Tx.Row w 9 w.heap.size v ws.length (ws.map Tx.strV)) (hl : ∀ x ∈ ws, x.length ≤ 4096) :
    Calls Tryd.prog 13 #[v] w fun e w' => e = .returned (ruleV (parseW ws)) ∧ Below w.heap.size w w' := by
  by_cases h6 : ws.length = 6
  · obtain ⟨a, b, c, d, e, f, rfl⟩ : ∃ a b c d e f, ws = [a, b, c, d, e, f] := by
      match ws, h6 with
      | [a, b, c, d, e, f], _ => exact ⟨_, _, _, _, _, _, rfl⟩
    obtain ⟨g, cap, rfl, hg, h1, h2, hc⟩ := hr.at_ (by simp)
    exact parse_six a b c d e f g cap w he ⟨hg, hc 0 _ rfl, hc 1 _ rfl, hc 2 _ rfl, hc 3 _ rfl, hc 4 _ rfl, hc 5 _ rfl⟩ h1 (by unfold maxLen at h2; omega) (hl c (by simp)) (hl d (by simp)) (hl e (by simp)) (hl f (by simp))
  · rw [RulM.parseW_len h6]
    exact parse_short v ws w h6 hr

theorem info_rule : (Tryd.prog.info? 42).map (fun i => (i.zero, i.size, i.bytes)) = some (some (.agg zR), 10, 48) := by kernel_rfl
theorem cells_ten (w : World) (r : R) (t : TypeId) : ∀ j u, (cellsR r)[j]? = some u → (w.alloc (.cells (cR r) t)).cell? ((⟨w.heap.size, 0, none⟩ : Addr).add j) = some u := by
  intro j u hj
  have hb : Blk (w.alloc (.cells (cR r) t)) w.heap.size (cR r) t := Blk.box _ _ _
  rw [add_plain', Nat.zero_add]
  exact hb.cell j u (by rw [← hj]; show (cellsR r).toArray[j]? = _; exact List.getElem?_toArray)
/-- 'append(list, r)': list a row of the call's own. -/
theorem wpList_append_rule {w W0 : World} {ops : Array Oper} {rest : List Oper} {o : Oper} {a : Act} {Q : Exit → Act → World → Prop} (hgd : o.guard = none) (s x : Operand)
    (ho : o.op = .call { callee := .builtin .append, args := #[s, x], argTypes := #[22, 22] })
    (v : Value) (rs : List R) (hs : a.eval s = v) (hown : w.ownsRow W0.heap.size 42 10 v rs.length (cellsRs rs)) (hbel : Below W0.heap.size W0 w) (r : R)
    (hx : a.eval x = .slice (some ⟨w.heap.size, 0, none⟩) 1 1) (hlen : rs.length ≤ 100000)
    (h : ∀ v' w', Hid (w'.ownsRow W0.heap.size 42 10 v' (rs ++ [r]).length (cellsRs (rs ++ [r]))) → Hid (Below W0.heap.size W0 w') → wpList Tryd.prog ops Q rest (a.put o.dst v') w') :
    wpList Tryd.prog ops Q (o :: rest) a (w.alloc (.cells (cR r) 42)) := by
  obtain ⟨i, hi, hz0, hz1, hz2⟩ := Tx.parts_of info_rule
  have hown1 := hown.alloc (.cells (cR r) 42)
  have hb1 : Below W0.heap.size W0 (w.alloc (.cells (cR r) 42)) := hbel.alloc hbel.size _
  refine wpList_append_own (P := Tryd.prog) _ hgd s x 22 ho W0.heap.size 42 i (.agg zR) 10 48 Tryd.underlying22 hi hz0 hz1 hz2 rfl (by decide) v rs.length (cellsRs rs) hs hown1
    ⟨w.heap.size, 0, none⟩ 1 1 (cellsR r) hx rfl (cells_ten _ _ _) (by intro u hu; simp [cellsR] at hu; rcases hu with rfl | rfl | rfl | rfl | rfl | rfl | rfl | rfl | rfl | rfl <;> rfl) (by unfold maxLen; omega) (by omega) hb1.size ?_
  intro v' w' h1 h2 _
  refine h v' w' ?_ (hb1.grown h2 hb1.size fun k hk => (hown1.lt k hk).1)
  show w'.ownsRow _ _ _ _ _ _
  rw [List.length_append, cellsRs_append]
  have e : cellsRs [r] = cellsR r := by simp [cellsRs]
  rw [e]
  exact h1
/-- What Compile answers. -/
def AnsR (l : List UInt8) (W : World) (e : Ending) (w' : World) : Prop := ∃ v, e = .returned (.tuple #[v, .int .i64 ((compile l).2.1 : Int), .int .i64 ((compile l).2.2 : Int)]) ∧ Rds w' w'.heap.size v (compile l).1 ∧ Below W.heap.size W w'
theorem ansR_no {l : List UInt8} {W w' : World} {a b : Int} (h : (compile l).1 = []) (ha : a = ((compile l).2.1 : Int)) (hb : b = ((compile l).2.2 : Int)) (hw : Below W.heap.size W w') : AnsR l W (.returned (.tuple #[.slice none 0 0, .int .i64 a, .int .i64 b])) w' :=
  ⟨.slice none 0 0, by rw [ha, hb], by rw [h]; exact Rds.nil w' _, hw⟩
theorem lineAt {w : World} {v : Value} {ls : List Line} (h : Tx.Lines w v ls) {k n : Nat} {ws : List (List UInt8)} (hk : ls[k]? = some (n, ws)) :
    ∃ g cap b, v = .slice (some ⟨g, 0, none⟩) ls.length cap ∧ g < w.heap.size ∧ w.cell? ⟨g, k * 2, none⟩ = some (.int .i64 (n : Int)) ∧ w.cell? ⟨g, k * 2 + 1, none⟩ = some b ∧ Tx.Row w 9 w.heap.size b ws.length (ws.map Tx.strV) := h.at_ hk

set_option maxRecDepth 100000 in
set_option maxHeartbeats 2000000 in
theorem compile_any (s : ByteArray) (w : World) (hs : s.size ≤ maxLen) (he : Env w) : Calls Tryd.prog 5 #[.string s] w (AnsR s.data.toList w) := by
  have HL := Lib.hid (Tx.lines_any s w hs he.tx)
  have HE := Lib.hid he
  clear he hs
  obtain ⟨l, hl⟩ : ∃ l, s.data.toList = l := ⟨_, rfl⟩
  rw [hl] at HL ⊢
  clear hl
  unfold Tx.Ans at HL
  by_cases h0 : errOf l = 0
  · have HC : Hid (compile l = comp [] (linesOf l)) := by show _ = _; unfold RulM.compile; rw [if_pos h0]
    have HWD := Lib.hid (fun n ws hm => RulM.words_of (l := l) h0 (n := n) (ws := ws) hm)
    rw [h0] at HL
    clear h0
    go_enter Tryd.func5, Tryd.ntmps5
    go_wp2_with fail
    go_at_call 12
    refine HL.out.mono ?_
    rintro e w1 ⟨v1, rfl, hl1, hb1⟩
    obtain ⟨A1, c1, rfl⟩ := hl1.len
    have HLS := Lib.hid hl1
    have HB1 := Lib.hid hb1
    clear hl1 hb1 HL
    generalize linesOf l = ls at *
    generalize lineOf l = ln at *
    obtain ⟨n, hn⟩ : ∃ n, ls.length = n := ⟨_, rfl⟩
    rw [hn] at HLS ⊢
    have HN := Lib.hid hn
    clear hn
    go_wp2_with fail
    go_loopw [2, 22] (fun v i wr => ∃ (k : Nat) (acc : List R), k ≤ n ∧ k ≤ 64 ∧ i = .int .i64 (k : Int) ∧ acc.length = k ∧ Hid (wr.ownsRow w1.heap.size 42 10 v acc.length (cellsRs acc)) ∧ Hid (comp [] ls = comp acc (ls.drop k)) ∧ Hid (Below w1.heap.size w1 wr)) (fun _ i _ => n - (RowKit.intOf i).toNat)
    case atStart => exact ⟨0, [], by omega, by omega, rfl, rfl, World.ownsRow_nil _ _ _ _, by show _ = _; rw [List.drop_zero], Below.refl _ _⟩
    case round =>
      obtain ⟨k, acc, hk, hk64, rfl, hacc, hown, hcomp, hb⟩ := hrel
      have HACC := Lib.hid hacc
      clear hacc
      by_cases hlt : k < n
      · obtain ⟨⟨m, wd⟩, hkl⟩ : ∃ x, ls[k]? = some x := ⟨_, List.getElem?_eq_getElem (by have := HN.out; omega)⟩
        obtain ⟨g, cap, b, hv, hg, hc0, hc1, hrow⟩ := lineAt HLS.out hkl
        injection hv with hv1 hv2 hv3
        subst hv1 hv3
        have d0 := (hb.out.cell (p := ⟨g, k * 2, none⟩) hg).trans hc0
        have d1 := (hb.out.cell (p := ⟨g, k * 2 + 1, none⟩) hg).trans hc1
        obtain ⟨bA, bc, rfl⟩ := hrow.len
        have HKL := Lib.hid hkl
        have HR := Lib.hid (hrow.below hb.out (Nat.le_refl _))
        have HOWN := Lib.hid (hown.out.alloc (.cells #[.int .i64 (m : Int), .slice bA wd.length bc] 55))
        have HBB := Lib.hid (below_then hb.out (below_box wr (.cells #[.int .i64 (m : Int), .slice bA wd.length bc] 55)))
        clear hv2 hc0 hc1 hrow hkl
        by_cases hk2 : k = 64
        · subst hk2
          have HM : Hid (compile l = ([], m, 14)) := HC.out.trans (hcomp.out.trans (RulM.comp_many HKL.out HACC.out))
          go_wp2_with fail
          go_quiet (fail)
          go_wp2_with fail
          have HBW := Lib.hid (HB1.out.trans (HBB.out.mono HB1.out.size))
          exact bodyPost_ret (v := .tuple #[.slice none 0 0, .int .i64 (m : Int), .int .i64 14]) (by simp [results, Tryd.results5, go_sem]) rfl (ansR_no (by rw [HM.out]) (by rw [HM.out]) (by rw [HM.out]; rfl) (HBW.out.drews _))
        · have hkd : ((k : Int) == 64) = false := by rw [beq_eq_false_iff_ne]; omega
          have hwl := HWD.out m wd (List.mem_of_getElem? HKL.out)
          have HBX : Hid (Blk (wr.alloc (.cells #[.int .i64 (m : Int), .slice bA wd.length bc] 55)) wr.heap.size #[.int .i64 (m : Int), .slice bA wd.length bc] 55) := Blk.box _ _ _
          have HPA := Lib.hid (parse_any (.slice bA wd.length bc) wd (wr.alloc (.cells #[.int .i64 (m : Int), .slice bA wd.length bc] 55)) ((HE.out.below HB1.out).below HBB.out)
            ((HR.out.below (below_box wr _) hb.out.size).mono (by have := hb.out.size; simp; omega)) (fun x hx => (hwl x hx).1))
          clear hwl
          cases hp : parseW wd with
          | none =>
            rw [hp] at HPA
            have HM : Hid (compile l = ([], m, 3)) := HC.out.trans (hcomp.out.trans (RulM.comp_bad HKL.out (by rw [HACC.out]; exact hk2) hp))
            clear hp hk2
            go_wp2_with fail
            go_at_call 13
            refine HPA.out.mono ?_
            rintro e w2 ⟨rfl, hb2⟩
            unfold ruleV zR
            have HBW := Lib.hid (HB1.out.trans ((below_then HBB.out hb2).mono HB1.out.size))
            have e0 := (HBX.out.next hb2).cell 0 _ rfl
            have e0' := ((HBX.out.next hb2).alloc (.cells zR 42)).cell 0 _ rfl
            clear hb2 d0 d1
            go_wp2_with fail
            go_quiet (fail)
            go_wp2_with fail
            exact bodyPost_ret (v := .tuple #[.slice none 0 0, .int .i64 (m : Int), .int .i64 3]) (by simp [results, Tryd.results5, go_sem]) rfl (ansR_no (by rw [HM.out]) (by rw [HM.out]) (by rw [HM.out]; rfl) ((HBW.out.alloc HBW.out.size _).drews _))
          | some r =>
            rw [hp] at HPA
            have HM : Hid (comp [] ls = comp (acc ++ [r]) (ls.drop (k + 1))) := hcomp.out.trans (RulM.comp_step HKL.out (by rw [HACC.out]; exact hk2) hp)
            have HK65 : Hid (k + 1 ≤ 64) := by show _ ≤ _; omega
            clear hp hk2
            go_wp2_with fail
            go_at_call 13
            refine HPA.out.mono ?_
            rintro e w2 ⟨rfl, hb2⟩
            unfold ruleV cR
            have HB2 := Lib.hid (below_then HBB.out hb2)
            have HB3 := Lib.hid (below_then (below_then HBB.out hb2) (below_box w2 (.cells (cR r) 42)))
            have HO3 := Lib.hid ((own_below HOWN.out hb2).alloc (.cells (cR r) 42))
            have K3 := Lib.hid (Blk.box w2 (cR r) 42)
            clear hb2 d0 d1
            go_wp2_with (at_builtin; refine wpList_append_rule rfl (.tmp 41) (.tmp 43) rfl _ acc rfl HO3.out HB3.out r (by rw [World.size_alloc]; rfl) (by have := HACC.out; omega) ?_; intro v3 w3 hown3 hb3)
            go_roundw
            case rel => exact ⟨k + 1, acc ++ [r], by omega, HK65.out, by go_num, by rw [List.length_append, HACC.out]; rfl, hown3, HM, hb3⟩
            case measure => simp [RowKit.intOf]; omega
      · obtain rfl : k = n := by omega
        have HM : Hid (compile l = (acc, 0, 0)) := HC.out.trans (hcomp.out.trans (RulM.comp_end (by have := HN.out; omega)))
        go_wp2_with fail
        exact bodyPost_ret (v := .tuple #[u2, .int .i64 0, .int .i64 0]) (by simp [results, Tryd.results5, go_sem]) rfl ⟨u2, by rw [HM.out]; rfl, by rw [HM.out]; exact Rds.of_own hown.out, HB1.out.trans (hb.out.mono HB1.out.size)⟩
  · have HC : Hid (compile l = ([], lineOf l, errOf l)) := by show _ = _; unfold RulM.compile; rw [if_neg h0]
    have hd : ((errOf l : Int) != 0) = true := by rw [bne_iff_ne]; omega
    clear h0
    generalize linesOf l = ls at *
    generalize lineOf l = ln at *
    generalize errOf l = le at *
    go_enter Tryd.func5, Tryd.ntmps5
    go_wp2_with fail
    go_at_call 12
    refine HL.out.mono ?_
    rintro e w1 ⟨v1, rfl, -, hb1⟩
    have HB1 := Lib.hid hb1
    clear hb1 HL
    go_wp2_with fail
    exact bodyPost_ret (v := .tuple #[.slice none 0 0, .int .i64 (ln : Int), .int .i64 (le : Int)]) (by simp [results, Tryd.results5, go_sem]) rfl (ansR_no (by rw [HC.out]) (by rw [HC.out]) (by rw [HC.out]) HB1.out)

end Ru
end Go.Proofs.YtfbbkbjiaopnkaaDoor
