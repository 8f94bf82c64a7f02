/- Layer 11: the contract of the reference's Lines. (Written by wip/tools/mkTxtE.py.) -/
import Derived.Test.YtfbbkbjiaopnkaaGreatDoorTxtD
import Derived.Test.YtfbbkbjiaopnkaaGreatDoorTxtG
set_option linter.unusedVariables false
set_option linter.unusedSimpArgs false
namespace Go.Proofs.YtfbbkbjiaopnkaaGreatDoor
open Go.ChangeShapes Go.WideShapes Go.ChangeAt Go.RowKit Go.Mtl Go.Shelf Go.Lib
namespace Tx
open TxtM (Line okb errOf lineOf linesOf lex emit close PS)

/-- The lines so far, in a row of the call's own. -/
def ME (W0 w : World) (v7 : Value) (o : List Line) : Prop := ∃ xs, w.ownsRow W0.heap.size 50 2 v7 o.length xs ∧ Lns w w.heap.size xs o ∧ Below W0.heap.size W0 w
/-- .. and the words of the line that is read, in another one. -/
def MS (W0 w : World) (v7 v8 : Value) (o : List Line) (ws : List (List UInt8)) : Prop :=
  ∃ xs B, w.ownsRow W0.heap.size 50 2 v7 o.length xs ∧ Lns w B xs o ∧ w.ownsRow B 9 1 v8 ws.length (ws.map strV) ∧ W0.heap.size ≤ B ∧ B ≤ w.heap.size ∧ Below W0.heap.size W0 w
theorem MS.only {W0 w : World} {v7 v8 : Value} {o : List Line} {ws : List (List UInt8)} (h : MS W0 w v7 v8 o ws) : ME W0 w v7 o := by
  obtain ⟨xs, B, h1, h2, _, _, h5, h6⟩ := h
  exact ⟨xs, h1, h2.mono h5, h6⟩
theorem ME.new {W0 w : World} {v7 : Value} {o : List Line} (h : ME W0 w v7 o) : MS W0 (w.alloc (.cells #[] 9)) v7 (.slice (some ⟨w.heap.size, 0, none⟩) 0 0) o [] := by
  obtain ⟨xs, h1, h2, h3⟩ := h
  exact ⟨xs, w.heap.size, h1.alloc _, h2.below ((Below.refl _ _).alloc (Nat.le_refl _) _) (Nat.le_refl _), World.ownsRow_made w #[] 0 (Nat.le_refl _) (by unfold maxLen; omega) rfl, h3.size, by simp, h3.alloc h3.size _⟩
theorem ME.start (w : World) : ME w (w.alloc (.cells #[] 50)) (.slice (some ⟨w.heap.size, 0, none⟩) 0 0) [] :=
  ⟨[], World.ownsRow_made w #[] 0 (Nat.le_refl _) (by unfold maxLen; omega) rfl, trivial, (Below.refl _ _).alloc (Nat.le_refl _) _⟩
/-- 'words = append(words, c)'. -/
theorem wpList_append_word {w W0 : World} {ops : Array Oper} {rest : List Oper} {o : Oper} {a : Act} {Q : Exit → Act → World → Prop} (hgd : o.guard = none) (s x : Operand)
    (ho : o.op = .call { callee := .builtin .append, args := #[s, x], argTypes := #[48, 48] })
    (v7 v8 : Value) (ls : List Line) (ws : List (List UInt8)) (m : Nat) (hm : m = ws.length) (hs : a.eval s = v8) (hM : MS W0 w v7 v8 ls ws) (c : List UInt8)
    (hx : a.eval x = .slice (some ⟨w.heap.size, 0, none⟩) 1 1) (hlen : m ≤ 100000)
    (h : ∀ A' c' w', Hid (MS W0 w' v7 (.slice A' (m + 1) c') ls (ws ++ [c])) → wpList Tryz.prog ops Q rest (a.put o.dst (.slice A' (m + 1) c')) w') :
    wpList Tryz.prog ops Q (o :: rest) a (w.alloc (.cells #[.string ⟨c.toArray⟩] 9)) := by
  subst hm
  obtain ⟨xs, B, h1, h2, h3, h4, h5, h6⟩ := hM
  obtain ⟨i, hi, hz0, hz1, hz2⟩ := parts_of info_text
  have h1' := h1.alloc (.cells #[.string ⟨c.toArray⟩] 9)
  have h3' := h3.alloc (.cells #[.string ⟨c.toArray⟩] 9)
  have h2' : Lns (w.alloc (.cells #[.string ⟨c.toArray⟩] 9)) B xs ls := h2.below ((Below.refl _ _).alloc (Nat.le_refl _) _) h5
  have h6' : Below W0.heap.size W0 (w.alloc (.cells #[.string ⟨c.toArray⟩] 9)) := h6.alloc h6.size _
  refine wpList_append_own (P := Tryz.prog) _ hgd s x 48 ho B 9 i (.string ByteArray.empty) 1 16 Tryz.underlying48 hi hz0 hz1 hz2 rfl (by decide) v8 ws.length (ws.map strV) hs h3'
    ⟨w.heap.size, 0, none⟩ 1 1 [.string ⟨c.toArray⟩] hx rfl (by intro j u hj; match j, hj with | 0, hj => (simp at hj; subst hj; simp [Addr.add]) | (j + 1), hj => simp at hj) (by intro u hu; simp at hu; subst hu; rfl) (by unfold maxLen; omega) (by omega) (by simp; omega) ?_
  intro v' w' g1 g2 g3
  have e : ws.map strV ++ [.string ⟨c.toArray⟩] = (ws ++ [c]).map strV := by rw [List.map_append]; rfl
  rw [e] at g1
  obtain ⟨A', c', rfl⟩ : ∃ A' c', v' = .slice A' (ws.length + 1) c' := by
    rcases g1.2 with ⟨rfl, hn⟩ | ⟨g, cap, cur, rfl, _⟩
    · omega
    · exact ⟨_, _, rfl⟩
  refine h A' c' w' ⟨xs, B, h1'.kept g2 (own_apart h1' h3' (by decide)), ?_, by rw [List.length_append]; exact g1, h4, by have := g2.size; simp at this; omega, h6'.grown g2 h6'.size fun k hk => ?_⟩
  · exact h2'.keep fun g cur hg _ => g2.block g (by simp; omega) fun e => by have := (h3'.lt g e.symm).1; omega
  · have := (h3'.lt k hk).1; omega
/-- 'out = append(out, api.Line{N: n, Words: words})'. -/
theorem wpList_append_emit {w W0 : World} {ops : Array Oper} {rest : List Oper} {o : Oper} {a : Act} {Q : Exit → Act → World → Prop} (hgd : o.guard = none) (s x : Operand)
    (ho : o.op = .call { callee := .builtin .append, args := #[s, x], argTypes := #[45, 45] })
    (v7 v8 : Value) (ls : List Line) (ws : List (List UInt8)) (hs : a.eval s = v7) (hM : MS W0 w v7 v8 ls ws) (n : Nat) (N : Int) (hN : N = (n : Int))
    (hx : a.eval x = .slice (some ⟨w.heap.size, 0, none⟩) 1 1) (hlen : ls.length ≤ 100000)
    (h : ∀ v' w', Hid (ME W0 w' v' (ls ++ [(n, ws)])) → wpList Tryz.prog ops Q rest (a.put o.dst v') w') :
    wpList Tryz.prog ops Q (o :: rest) a (w.alloc (.cells #[.int .i64 N, v8] 50)) := by
  obtain ⟨xs, B, h1, h2, h3, h4, h5, h6⟩ := hM
  exact wpList_append_line hgd s x ho v7 xs ls hs h1 (h2.mono h5) h6 n N hN v8 ws (Row.of_own h3) hx hlen fun v' w' xs' g1 g2 g3 => h v' w' ⟨xs', g1.out, g2.out, g3.out⟩

/-- Ahead of a round of the reading. -/
def St (l : List UInt8) (W0 w : World) (v7 v8 : Value) (k n m : Nat) (f : Int) (off : Bool) : Prop :=
  (∃ o ws cur, m = ws.length ∧ PS l k n f off o ws cur ∧ MS W0 w v7 v8 o ws) ∨ (k = l.length + 1 ∧ ME W0 w v7 (lex 1 [] [] false l))
theorem slice_word (s : ByteArray) (f k : Nat) (hf : f ≤ k) (hk : k ≤ s.size) (cur : List UInt8) (hc : cur = (s.data.toList.take k).drop f) (W : World) :
    (Instr.slice 9 (.string s) (some (.int .i64 (f : Int))) (some (.int .i64 (k : Int))) none).run Tryz.prog W = .ok (.string ⟨cur.toArray⟩) W := by
  rw [run_slice_string (P := Tryz.prog) W 9 s .i64 .i64 f k Tryz.underlying9 (by omega) (by omega) (by omega)]
  have e : s.extract (f : Int).toNat (k : Int).toNat = ⟨cur.toArray⟩ := by
    apply ByteArray.ext
    apply Array.toList_inj.1
    rw [extract_data, hc]
    simp [List.take_drop]
    rw [show f + (k - f) = k by omega]
  rw [e]

set_option maxRecDepth 100000 in
set_option maxHeartbeats 4000000 in
theorem refLines_any (s : ByteArray) (w : World) (hs : s.size ≤ maxLen) :
    Calls Tryz.prog 15 #[.string s] w (Ans s.data.toList w) := by
  unfold maxLen at hs
  have hz := Lib.hid (Lib.size_eq s)
  by_cases ho : 4096 < s.size
  · have HO := Lib.hid (TxtM.errOf_over (l := s.data.toList) (by rw [← hz.out]; exact ho))
    go_enter Tryz.func15, Tryz.ntmps15
    go_wp2_with fail
    exact bodyPost_ret (v := .tuple #[.slice none 0 0, .int .i64 0, .int .i64 2]) (by simp [results, Tryz.results15, go_sem]) rfl (ans_no HO.out.2.2 (by rw [HO.out.2.1]; rfl) (by rw [HO.out.1]; rfl) (Below.refl _ _))
  go_enter Tryz.func15, Tryz.ntmps15
  go_wp2_with fail
  go_loop [5, 6] (fun n i => ∃ k c : Nat, k ≤ s.size ∧ c ≤ k ∧ i = .int .i64 (k : Int) ∧ n = .int .i64 (1 + (c : Int)) ∧ Hid (c = (s.data.toList.take k).count 10) ∧ Hid ((s.data.toList.take k).all okb = true)) (fun _ i => s.size - (RowKit.intOf i).toNat)
  case atStart => exact ⟨0, 0, by omega, by omega, rfl, rfl, rfl, rfl⟩
  case round =>
    obtain ⟨k, c, hk, hck, rfl, rfl, hc, hd⟩ := hrel
    by_cases hlt : k < s.size
    · have HAT := Lib.hid (data_getElem? s k hlt)
      have hby := s[k].toNat_lt
      have HV := Lib.hid (TxtM.count_take_snoc HAT.out)
      by_cases h10 : s[k].toNat = 10
      · have e10 : s[k] = 10 := UInt8.toNat_inj.1 h10
        have HV2 : Hid (c + 1 = (s.data.toList.take (k + 1)).count 10) := by show _ = _; rw [HV.out, ← hc.out, if_pos e10]
        have HD := Lib.hid (TxtM.all_take_snoc HAT.out hd.out (by rw [e10]; rfl))
        have hb10 : ((s[k].toNat : Int) == 10) = true := by rw [beq_iff_eq]; omega
        clear HV HAT e10 h10
        go_wp2_with fail
        go_round
        case rel => exact ⟨k + 1, c + 1, by omega, by omega, by go_num, by go_num, HV2, HD⟩
        case measure => simp [RowKit.intOf]; omega
      · have e10 : s[k] ≠ 10 := fun e => h10 (by rw [e]; rfl)
        have hb10 : ((s[k].toNat : Int) == 10) = false := by rw [beq_eq_false_iff_ne]; omega
        have hok : okb s[k] = (decide (32 ≤ s[k].toNat) && decide (s[k].toNat ≤ 126)) := by unfold okb; rw [beq_eq_false_iff_ne.2 e10]; rfl
        by_cases hlo : s[k].toNat < 32
        · have HB := Lib.hid (TxtM.bad_at HAT.out hd.out (by rw [hok]; simp; omega))
          have HO := Lib.hid (TxtM.errOf_bad (l := s.data.toList) (by rw [← hz.out]; omega) HB.out.1)
          clear HV HAT e10 h10 hok
          go_wp2_with fail
          exact bodyPost_ret (v := .tuple #[.slice none 0 0, .int .i64 (1 + (c : Int)), .int .i64 3]) (by simp [results, Tryz.results15, go_sem]) rfl (ans_no HO.out.2.2 (by rw [HO.out.2.1, HB.out.2, ← hc.out]; omega) (by rw [HO.out.1]; rfl) (Below.refl _ _))
        · by_cases hhi : 126 < s[k].toNat
          · have HB := Lib.hid (TxtM.bad_at HAT.out hd.out (by rw [hok]; simp; omega))
            have HO := Lib.hid (TxtM.errOf_bad (l := s.data.toList) (by rw [← hz.out]; omega) HB.out.1)
            clear HV HAT e10 h10 hok
            go_wp2_with fail
            exact bodyPost_ret (v := .tuple #[.slice none 0 0, .int .i64 (1 + (c : Int)), .int .i64 3]) (by simp [results, Tryz.results15, go_sem]) rfl (ans_no HO.out.2.2 (by rw [HO.out.2.1, HB.out.2, ← hc.out]; omega) (by rw [HO.out.1]; rfl) (Below.refl _ _))
          · have HV2 : Hid (c = (s.data.toList.take (k + 1)).count 10) := by show _ = _; rw [HV.out, ← hc.out, if_neg e10]; rfl
            have HD := Lib.hid (TxtM.all_take_snoc HAT.out hd.out (by rw [hok]; simp; omega))
            clear HV HAT e10 h10 hok
            go_wp2_with fail
            go_round
            case rel => exact ⟨k + 1, c, by omega, by omega, by go_num, rfl, HV2, HD⟩
            case measure => simp [RowKit.intOf]; omega
    · obtain rfl : k = s.size := by omega
      have HV : Hid (s.data.toList.all okb = true) := by
        have e : s.data.toList.take s.size = s.data.toList := List.take_of_length_le (by rw [← hz.out]; exact Nat.le_refl _)
        rw [e] at hd
        exact hd
      have HO := Lib.hid (TxtM.errOf_ok (l := s.data.toList) (by rw [← hz.out]; omega) HV.out)
      have HM : Hid (MS w ((w.alloc (.cells #[] 50)).alloc (.cells #[] 9)) (.slice (some ⟨w.heap.size, 0, none⟩) 0 0) (.slice (some ⟨w.heap.size + 1, 0, none⟩) 0 0) [] []) := by
        have := (ME.start w).new
        rw [World.size_alloc] at this
        exact this
      have HP := Lib.hid (PS.start s.data.toList)
      clear hc hd hck
      go_wp2_with fail
      go_loopw [5, 7, 8, 9, 10, 11] (fun v5 v7 v8 v9 v10 v11 wr => ∃ (k n m c : Nat) (f : Int) (off : Bool) (A : Option Addr), v5 = .int .i64 (n : Int) ∧ v8 = .slice A m c ∧ v9 = .int .i64 f ∧ v10 = .bool off ∧ v11 = .int .i64 (k : Int) ∧ k ≤ s.size + 1 ∧ Hid (St s.data.toList w wr v7 (.slice A m c) k n m f off)) (fun _ _ _ _ _ i _ => s.size + 1 - (RowKit.intOf i).toNat)
      case atStart => exact ⟨0, 1, 0, 0, -1, false, _, rfl, rfl, rfl, rfl, rfl, by omega, .inl ⟨[], [], [], rfl, HP.out, HM.out⟩⟩
      case round =>
        obtain ⟨k, n, m, c, f, off, A, rfl, rfl, rfl, rfl, rfl, hk, hst⟩ := hrel
        rcases hst.out with ⟨o, ws, cur, hm, hp, hms⟩ | ⟨hke, hme⟩
        · clear hst
          have hp1 := hp.hk
          have hp2 := hp.hn
          have hp3 := hp.ho
          have hp4 := hp.hw
          have HMS := Lib.hid hms
          have HPS := Lib.hid hp
          clear hms hp
          rw [← hz.out] at hp1
          have HMm := Lib.hid hm
          have hmk : m ≤ k := by omega
          clear hm
          by_cases hlt : k < s.size
          · have HAT := Lib.hid (data_getElem? s k hlt)
            have hby := s[k].toNat_lt
            have hE : ((k : Int) == (s.size : Int)) = false := by rw [beq_eq_false_iff_ne]; omega
            by_cases hc10 : s[k].toNat = 10
            · have HB : Hid (s.data.toList[k]? = some 10) := by show _ = _; rw [HAT.out, show s[k] = 10 from UInt8.toNat_inj.1 hc10]
              have hb10 : ((s[k].toNat : Int) == 10) = true := by rw [beq_iff_eq]; omega
              have hb32 : ((s[k].toNat : Int) == 32) = false := by rw [beq_eq_false_iff_ne]; omega
              have hb35 : ((s[k].toNat : Int) == 35) = false := by rw [beq_eq_false_iff_ne]; omega
              by_cases hcu : cur = []
              · subst hcu
                obtain rfl := HPS.out.free
                cases ws with
                | nil =>
                  have HP2 := Lib.hid (HPS.out.nl HB.out)
                  have hem : o ++ emit n (close [] []) = o := by rw [TxtM.close_nil, TxtM.emit_nil, List.append_nil]
                  rw [hem] at HP2
                  clear hem
                  have hm0 : m = 0 := HMm.out
                  subst hm0
                  have HM2 := Lib.hid HMS.out.only.new
                  go_wp2_with fail
                  go_roundw
                  case rel => exact ⟨k + 1, n + 1, 0, _, -1, false, _, by go_num, rfl, rfl, rfl, by go_num, by omega, .inl ⟨o, [], [], rfl, HP2.out, HM2.out⟩⟩
                  case measure => simp [RowKit.intOf]; omega
                | cons x ws =>
                  have HP2 := Lib.hid (HPS.out.nl HB.out)
                  rw [TxtM.close_nil, TxtM.emit_some n (by simp)] at HP2
                  have hpos : (0 : Int) < (m : Int) := by rw [HMm.out]; simp only [List.length_cons]; omega
                  go_wp2_with (at_builtin; go_must (refine wpList_append_emit rfl (.tmp 85) (.tmp 89) rfl _ _ o (x :: ws) rfl HMS.out n _ (by omega) rfl (by omega) ?_; intro v4 w4 HE4))
                  go_roundw
                  case rel => exact ⟨k + 1, n + 1, 0, _, -1, false, _, by go_num, rfl, rfl, rfl, by go_num, by omega, .inl ⟨_, [], [], rfl, HP2.out, HE4.out.new⟩⟩
                  case measure => simp [RowKit.intOf]; omega
              · have hcl := TxtM.close_word ws hcu
                have HP2 := Lib.hid (HPS.out.nl HB.out)
                rw [hcl, TxtM.emit_some n (by simp)] at HP2
                clear hcl
                obtain ⟨rfl, f0, rfl, hf0, hcur⟩ := HPS.out.held hcu
                have hsl := fun W => slice_word s f0 k (by omega) (by omega) cur hcur W
                have HCU := Lib.hid hcur
                clear hcur
                have hge : (0 : Int) ≤ (f0 : Int) := by omega
                go_wp2_with (first | (at_builtin; (refine wpList_append_word rfl (.tmp 74) (.tmp 79) rfl _ _ o ws _ HMm.out rfl HMS.out cur rfl (by omega) ?_; intro A3 c3 w3 HM3)) | (at_builtin; go_must (refine wpList_append_emit rfl (.tmp 85) (.tmp 89) rfl _ _ o (ws ++ [cur]) rfl HM3.out n _ (by omega) rfl (by omega) ?_; intro v4 w4 HE4)))
                go_roundw
                case rel => exact ⟨k + 1, n + 1, 0, _, -1, false, _, by go_num, rfl, rfl, rfl, by go_num, by omega, .inl ⟨_, [], [], rfl, HP2.out, HE4.out.new⟩⟩
                case measure => simp [RowKit.intOf]; omega
            by_cases hc35 : s[k].toNat = 35
            · have HB : Hid (s.data.toList[k]? = some 35) := by show _ = _; rw [HAT.out, show s[k] = 35 from UInt8.toNat_inj.1 hc35]
              have hb10 : ((s[k].toNat : Int) == 10) = false := by rw [beq_eq_false_iff_ne]; omega
              have hb32 : ((s[k].toNat : Int) == 32) = false := by rw [beq_eq_false_iff_ne]; omega
              have hb35 : ((s[k].toNat : Int) == 35) = true := by rw [beq_iff_eq]; omega
              by_cases hcu : cur = []
              · have HP2 := Lib.hid (HPS.out.hash HB.out)
                subst hcu
                obtain rfl := HPS.out.free
                rw [TxtM.close_nil] at HP2
                go_wp2_with fail
                go_roundw
                case rel => exact ⟨k + 1, n, m, c, -1, true, A, by go_num, rfl, rfl, rfl, by go_num, by omega, .inl ⟨o, ws, [], HMm.out, HP2.out, HMS.out⟩⟩
                case measure => simp [RowKit.intOf]; omega
              · have HP2 := Lib.hid (HPS.out.hash HB.out)
                rw [TxtM.close_word ws hcu] at HP2
                obtain ⟨rfl, f0, rfl, hf0, hcur⟩ := HPS.out.held hcu
                have hsl := fun W => slice_word s f0 k (by omega) (by omega) cur hcur W
                have HCU := Lib.hid hcur
                clear hcur
                have hge : (0 : Int) ≤ (f0 : Int) := by omega
                go_wp2_with (at_builtin; (refine wpList_append_word rfl (.tmp 74) (.tmp 79) rfl _ _ o ws _ HMm.out rfl HMS.out cur rfl (by omega) ?_; intro A3 c3 w3 HM3))
                go_roundw
                case rel => exact ⟨k + 1, n, m + 1, _, -1, true, _, by go_num, rfl, rfl, rfl, by go_num, by omega, .inl ⟨o, ws ++ [cur], [], by rw [List.length_append, ← HMm.out]; rfl, HP2.out, HM3.out⟩⟩
                case measure => simp [RowKit.intOf]; omega
            by_cases hc32 : s[k].toNat = 32
            · have HB : Hid (s.data.toList[k]? = some 32) := by show _ = _; rw [HAT.out, show s[k] = 32 from UInt8.toNat_inj.1 hc32]
              have hb10 : ((s[k].toNat : Int) == 10) = false := by rw [beq_eq_false_iff_ne]; omega
              have hb32 : ((s[k].toNat : Int) == 32) = true := by rw [beq_iff_eq]; omega
              have hb35 : ((s[k].toNat : Int) == 35) = false := by rw [beq_eq_false_iff_ne]; omega
              by_cases hcu : cur = []
              · have HP2 := Lib.hid (HPS.out.sp HB.out)
                subst hcu
                obtain rfl := HPS.out.free
                rw [TxtM.close_nil] at HP2
                go_wp2_with fail
                go_roundw
                case rel => exact ⟨k + 1, n, m, c, -1, off, A, by go_num, rfl, rfl, rfl, by go_num, by omega, .inl ⟨o, ws, [], HMm.out, HP2.out, HMS.out⟩⟩
                case measure => simp [RowKit.intOf]; omega
              · have HP2 := Lib.hid (HPS.out.sp HB.out)
                rw [TxtM.close_word ws hcu] at HP2
                obtain ⟨rfl, f0, rfl, hf0, hcur⟩ := HPS.out.held hcu
                have hsl := fun W => slice_word s f0 k (by omega) (by omega) cur hcur W
                have HCU := Lib.hid hcur
                clear hcur
                have hge : (0 : Int) ≤ (f0 : Int) := by omega
                go_wp2_with (at_builtin; (refine wpList_append_word rfl (.tmp 74) (.tmp 79) rfl _ _ o ws _ HMm.out rfl HMS.out cur rfl (by omega) ?_; intro A3 c3 w3 HM3))
                go_roundw
                case rel => exact ⟨k + 1, n, m + 1, _, -1, false, _, by go_num, rfl, rfl, rfl, by go_num, by omega, .inl ⟨o, ws ++ [cur], [], by rw [List.length_append, ← HMm.out]; rfl, HP2.out, HM3.out⟩⟩
                case measure => simp [RowKit.intOf]; omega
            have hn10 : s[k] ≠ 10 := fun e => hc10 (by rw [e]; rfl)
            have hn35 : s[k] ≠ 35 := fun e => hc35 (by rw [e]; rfl)
            have hn32 : s[k] ≠ 32 := fun e => hc32 (by rw [e]; rfl)
            have hb10 : ((s[k].toNat : Int) == 10) = false := by rw [beq_eq_false_iff_ne]; omega
            have hb32 : ((s[k].toNat : Int) == 32) = false := by rw [beq_eq_false_iff_ne]; omega
            have hb35 : ((s[k].toNat : Int) == 35) = false := by rw [beq_eq_false_iff_ne]; omega
            by_cases hcu : cur = []
            · cases off with
              | true =>
                have HP2 := Lib.hid (HPS.out.off_ HAT.out hn10 hn35 hn32)
                clear hn10 hn35 hn32 HAT
                subst hcu
                obtain rfl := HPS.out.free
                go_wp2_with fail
                go_roundw
                case rel => exact ⟨k + 1, n, m, c, -1, true, A, by go_num, rfl, rfl, rfl, by go_num, by omega, .inl ⟨o, ws, [], HMm.out, HP2.out, HMS.out⟩⟩
                case measure => simp [RowKit.intOf]; omega
              | false =>
                subst hcu
                have HP2 := Lib.hid (HPS.out.begin_ HAT.out hn10 hn35 hn32)
                clear hn10 hn35 hn32 HAT
                obtain rfl := HPS.out.free
                go_wp2_with fail
                go_roundw
                case rel => exact ⟨k + 1, n, m, c, k, false, A, by go_num, rfl, rfl, rfl, by go_num, by omega, .inl ⟨o, ws, _, HMm.out, HP2.out, HMS.out⟩⟩
                case measure => simp [RowKit.intOf]; omega
            · obtain ⟨rfl, f0, rfl, hf0, hcur⟩ := HPS.out.held hcu
              have HP2 := Lib.hid (HPS.out.go hcu HAT.out hn10 hn35 hn32)
              clear hn10 hn35 hn32 HAT hcur
              have hge : (0 : Int) ≤ (f0 : Int) := by omega
              go_wp2_with fail
              go_roundw
              case rel => exact ⟨k + 1, n, m, c, f0, false, A, by go_num, rfl, rfl, rfl, by go_num, by omega, .inl ⟨o, ws, _, HMm.out, HP2.out, HMS.out⟩⟩
              case measure => simp [RowKit.intOf]; omega
          · obtain rfl : k = s.size := by omega
            by_cases hcu : cur = []
            · subst hcu
              obtain rfl := HPS.out.free
              cases ws with
              | nil =>
                have HL : Hid (o = lex 1 [] [] false s.data.toList) := by have hpl := HPS.out; rw [hz.out] at hpl; have := hpl.last; rwa [TxtM.close_nil, TxtM.emit_nil, List.append_nil] at this
                have hm0 : m = 0 := HMm.out
                subst hm0
                have HM2 := Lib.hid HMS.out.only.new
                go_wp2_with fail
                go_roundw
                case rel => exact ⟨s.size + 1, n + 1, 0, _, -1, false, _, by go_num, rfl, rfl, rfl, by go_num, by omega, .inr ⟨by rw [← hz.out], by rw [← HL.out]; exact HM2.out.only⟩⟩
                case measure => simp [RowKit.intOf]
              | cons x ws =>
                have HL : Hid (o ++ [(n, x :: ws)] = lex 1 [] [] false s.data.toList) := by have hpl := HPS.out; rw [hz.out] at hpl; have := hpl.last; rwa [TxtM.close_nil, TxtM.emit_some n (by simp)] at this
                have hpos : (0 : Int) < (m : Int) := by rw [HMm.out]; simp only [List.length_cons]; omega
                go_wp2_with (at_builtin; go_must (refine wpList_append_emit rfl (.tmp 85) (.tmp 89) rfl _ _ o (x :: ws) rfl HMS.out n _ (by omega) rfl (by omega) ?_; intro v4 w4 HE4))
                go_roundw
                case rel => exact ⟨s.size + 1, n + 1, 0, _, -1, false, _, by go_num, rfl, rfl, rfl, by go_num, by omega, .inr ⟨by rw [← hz.out], by rw [← HL.out]; exact HE4.out.new.only⟩⟩
                case measure => simp [RowKit.intOf]
            · have hcl := TxtM.close_word ws hcu
              have HL : Hid (o ++ [(n, ws ++ [cur])] = lex 1 [] [] false s.data.toList) := by have hpl := HPS.out; rw [hz.out] at hpl; have := hpl.last; rwa [hcl, TxtM.emit_some n (by simp)] at this
              clear hcl
              obtain ⟨rfl, f0, rfl, hf0, hcur⟩ := HPS.out.held hcu
              have hsl := fun W => slice_word s f0 s.size (by omega) (by omega) cur hcur W
              have HCU := Lib.hid hcur
              clear hcur
              have hge : (0 : Int) ≤ (f0 : Int) := by omega
              go_wp2_with (first | (at_builtin; (refine wpList_append_word rfl (.tmp 74) (.tmp 79) rfl _ _ o ws _ HMm.out rfl HMS.out cur rfl (by omega) ?_; intro A3 c3 w3 HM3)) | (at_builtin; go_must (refine wpList_append_emit rfl (.tmp 85) (.tmp 89) rfl _ _ o (ws ++ [cur]) rfl HM3.out n _ (by omega) rfl (by omega) ?_; intro v4 w4 HE4)))
              go_roundw
              case rel => exact ⟨s.size + 1, n + 1, 0, _, -1, false, _, by go_num, rfl, rfl, rfl, by go_num, by omega, .inr ⟨by rw [← hz.out], by rw [← HL.out]; exact HE4.out.new.only⟩⟩
              case measure => simp [RowKit.intOf]
        · rw [← hz.out] at hke
          subst hke
          have HLS : Hid (linesOf s.data.toList = lex 1 [] [] false s.data.toList) := HO.out.2.2
          have HMEE := Lib.hid hme
          clear hme hst
          go_wp2_with fail
          refine bodyPost_ret (v := .tuple #[u7, .int .i64 0, .int .i64 0]) (by simp [results, Tryz.results15, go_sem]) rfl ?_
          obtain ⟨xs, g1, g2, g3⟩ := HMEE.out
          exact ⟨u7, by rw [HO.out.1, HO.out.2.1]; rfl, by rw [HLS.out]; exact ⟨xs, Row.of_own g1, g2⟩, g3⟩
end Tx
end Go.Proofs.YtfbbkbjiaopnkaaGreatDoor
