/- Layer 11: lines appended to a row of the call's own; the contract of Lines. -/
import Derived.Test.YtfbbkbjiaopnkaaGreatDoorTxtB
import Derived.Laws.AppendOwn
set_option linter.unusedVariables false
set_option linter.unusedSimpArgs false
namespace Go.Proofs.YtfbbkbjiaopnkaaGreatDoor
open Go.ChangeShapes Go.WideShapes Go.ChangeAt Go.RowKit Go.Mtl Go.Shelf Go.Lib
namespace Tx
open TxtM (Line okb invR errOf lineOf linesOf lex okN valN top emit linesP wordsL)

theorem info_line : (Tryz.prog.info? 50).map (fun i => (i.zero, i.size, i.bytes)) = some (some (.agg #[.int .i64 0, .slice none 0 0]), 2, 32) := by kernel_rfl
theorem info_text : (Tryz.prog.info? 9).map (fun i => (i.zero, i.size, i.bytes)) = some (some (.string ByteArray.empty), 1, 16) := by kernel_rfl
theorem parts_of {P : Program} {t : TypeId} {z : Option Value} {a b : Nat} (h : (P.info? t).map (fun i => (i.zero, i.size, i.bytes)) = some (z, a, b)) : ∃ i, P.info? t = some i ∧ i.zero = z ∧ i.size = a ∧ i.bytes = b := by
  cases hi : P.info? t with
  | none => rw [hi] at h; cases h
  | some i => rw [hi] at h; simp at h; exact ⟨i, rfl, h.1, h.2.1, h.2.2⟩
/-- Rows of the call's own, of cells of two kinds, lie apart. -/
theorem own_apart {w : World} {b1 b2 T1 T2 s1 s2 n m : Nat} {v u : Value} {xs ys : List Value} (h : w.ownsRow b1 T1 s1 v n xs) (h2 : w.ownsRow b2 T2 s2 u m ys) (hne : T1 ≠ T2) : v.ownBlock = none ∨ v.ownBlock ≠ u.ownBlock := by
  rcases h.2 with ⟨rfl, _⟩ | ⟨g, cap, cur, rfl, _, hg, _⟩
  · exact .inl rfl
  · rcases h2.2 with ⟨rfl, _⟩ | ⟨g', cap', cur', rfl, _, hg', _⟩
    · exact .inr (by simp [Value.ownBlock])
    · refine .inr fun e => ?_
      simp only [Value.ownBlock, Option.some.injEq] at e
      subst e
      rw [hg] at hg'
      injection hg' with e
      injection e with _ e _
      exact hne e
theorem apart_own {w w' : World} {B b T s n : Nat} {v : Value} {xs ys : List Value} {ls : List Line} (hL : Lns w B xs ls) (h : w.ownsRow b T s v n ys) (hne : 9 ≠ T) (hg : w.grownBy w' v.ownBlock) : Lns w' B xs ls :=
  hL.keep fun g cur _ hc => hg.block g (Array.getElem?_eq_some_iff.1 hc).1 fun e => by
    rcases h.2 with ⟨rfl, _⟩ | ⟨g', cap', cur', rfl, _, hg', _⟩
    · simp [Value.ownBlock] at e
    · simp only [Value.ownBlock, Option.some.injEq] at e
      subst e
      rw [hc] at hg'
      injection hg' with e
      injection e with _ e _
      exact hne e
theorem Row.one {w : World} {T B n : Nat} {v : Value} {xs : List Value} (h : Row w T B v n xs) : v.oneCell' = true := by
  obtain ⟨A, c, rfl⟩ := h.len; rfl
theorem cells_two (w : World) (x y : Value) (t : TypeId) : ∀ j u, [x, y][j]? = some u → (w.alloc (.cells #[x, y] t)).cell? ((⟨w.heap.size, 0, none⟩ : Addr).add j) = some u := by
  intro j u hj
  match j, hj with
  | 0, hj => simp at hj; subst hj; simp [Addr.add]
  | 1, hj => simp at hj; subst hj; simp [Addr.add]
  | (j + 2), hj => simp at hj

/-- 'append(list, api.Line{N: n, Words: b})': list a row of the call's own. -/
theorem wpList_append_line {w W0 : World} {ops : Array Oper} {rest : List Oper} {o : Oper} {a : Act} {Q : Exit → Act → World → Prop} (hgd : o.guard = none) (s x : Operand)
    (ho : o.op = .call { callee := .builtin .append, args := #[s, x], argTypes := #[45, 45] })
    (v : Value) (xs : List Value) (ls : List Line) (hs : a.eval s = v) (hown : w.ownsRow W0.heap.size 50 2 v ls.length xs) (hL : Lns w w.heap.size xs ls) (hbel : Below W0.heap.size W0 w)
    (n : Nat) (N : Int) (hN : N = (n : Int)) (b : Value) (ws : List (List UInt8)) (hb : Row w 9 w.heap.size b ws.length (ws.map strV))
    (hx : a.eval x = .slice (some ⟨w.heap.size, 0, none⟩) 1 1) (hlen : ls.length ≤ 100000)
    (h : ∀ v' w' xs', Hid (w'.ownsRow W0.heap.size 50 2 v' (ls ++ [(n, ws)]).length xs') → Hid (Lns w' w'.heap.size xs' (ls ++ [(n, ws)])) → Hid (Below W0.heap.size W0 w') → wpList Tryz.prog ops Q rest (a.put o.dst v') w') :
    wpList Tryz.prog ops Q (o :: rest) a (w.alloc (.cells #[.int .i64 N, b] 50)) := by
  subst hN
  obtain ⟨i, hi, hz0, hz1, hz2⟩ := parts_of info_line
  have hown1 := hown.alloc (.cells #[.int .i64 (n : Int), b] 50)
  have hb1 : Below W0.heap.size W0 (w.alloc (.cells #[.int .i64 (n : Int), b] 50)) := hbel.alloc hbel.size _
  have hL1 : Lns (w.alloc (.cells #[.int .i64 (n : Int), b] 50)) w.heap.size (xs ++ [.int .i64 (n : Int), b]) (ls ++ [(n, ws)]) :=
    (Lns.snoc hb hL).below ((Below.refl _ _).alloc (Nat.le_refl _) _) (Nat.le_refl _)
  refine wpList_append_own (P := Tryz.prog) _ hgd s x 45 ho W0.heap.size 50 i (.agg #[.int .i64 0, .slice none 0 0]) 2 32 Tryz.underlying45 hi hz0 hz1 hz2 rfl (by decide) v ls.length xs hs hown1
    ⟨w.heap.size, 0, none⟩ 1 1 [.int .i64 (n : Int), b] hx rfl (cells_two _ _ _ _) (by intro u hu; simp at hu; rcases hu with rfl | rfl; rfl; exact hb.one) (by unfold maxLen; omega) (by omega) hb1.size ?_
  intro v' w' h1 h2 _
  refine h v' w' (xs ++ [.int .i64 (n : Int), b]) (by rw [List.length_append]; exact h1) ?_ (hb1.grown h2 hb1.size fun k hk => (hown1.lt k hk).1)
  exact (apart_own hL1 hown1 (by decide) h2).mono (by have := h2.size; simp at this; omega)

theorem index_any (s : ByteArray) (w : World) :
    Calls Tryz.prog 27 #[.string s, .func (.func 28) #[] #[]] w fun e w' => e = .returned (.int .i64 (idxFunc invR true s)) ∧ Below w.heap.size w w' :=
  Tryz.strings_IndexFunc_runes 28 #[] (enters_of Tryz.func28 (by kernel_rfl) rfl) invR s w fun W x hx hb => isInvalid_any x hx W
abbrev nl : ByteArray := ⟨#[10]⟩
/-- The bytes ahead of a place. -/
def upto (s : ByteArray) (k : Nat) : ByteArray := s.extract 0 k
theorem upto_list (s : ByteArray) (k : Nat) : (upto s k).data.toList = s.data.toList.take k := extract_from_zero s k
theorem count_any (s : ByteArray) (w : World) :
    Calls Tryz.prog 29 #[.string s, .string nl] w fun e w' => e = .returned (.int .i64 ((s.data.toList.count 10 : Nat) : Int)) ∧ w' = w := Tryz.strings_Count_one s 10 w
theorem pieces_sub (c : UInt8) : ∀ (l : List UInt8), ∀ p ∈ AdrM.pieces c l, ∀ b ∈ p, b ∈ l := by
  intro l
  induction l with
  | nil => intro p hp b hb; simp [AdrM.pieces] at hp; subst hp; cases hb
  | cons d l ih =>
    intro p hp b hb
    unfold AdrM.pieces at hp
    split at hp
    · rcases List.mem_cons.1 hp with rfl | hp
      · cases hb
      · simp [ih p hp b hb]
    · split at hp
      · rename_i q qs hq
        rcases List.mem_cons.1 hp with rfl | hp
        · rcases List.mem_cons.1 hb with rfl | hb
          · simp
          · simp [ih q (by rw [hq]; simp) b hb]
        · simp [ih p (by rw [hq]; simp [hp]) b hb]
      · rename_i hq; exact absurd hq (AdrM.pieces_ne c l)
theorem okb_low {b : UInt8} (h : okb b = true) : b.toNat < 128 := by
  unfold okb at h
  rcases Bool.or_eq_true _ _ ▸ h with h | h
  · rw [beq_iff_eq] at h; subst h; decide
  · rw [Bool.and_eq_true, decide_eq_true_iff, decide_eq_true_iff] at h; omega
theorem split_any (s : ByteArray) (hs : s.size ≤ 4096) (W : World) (he : Env W) :
    Calls Tryz.prog 30 #[.string s, .string nl] W fun e w' => ∃ ps : List ByteArray, ps.map (·.data.toList) = AdrM.pieces 10 s.data.toList ∧ e = .returned (.slice (some ⟨W.heap.size, 0, none⟩) ps.length ps.length) ∧
      (∀ (k : Nat) (p : ByteArray), ps[k]? = some p → w'.cell? ⟨W.heap.size, k, none⟩ = some (.string p)) ∧ Below W.heap.size W w' ∧ W.heap.size < w'.heap.size := by
  obtain ⟨m, hm⟩ := he.max
  refine (Tryz.strings_Split s nl m W (by omega) hm (by decide)).mono ?_
  rintro e w' ⟨rfl, rfl⟩
  have hl : (splitB nl 0 (countB s nl) s).length = countB s nl + 1 := by
    have h1 := AdrM.countB_pieces s nl 10 rfl
    rw [h1, ← AdrM.splitB_pieces s nl 10 rfl, List.length_map]
  refine ⟨splitB nl 0 (countB s nl) s, AdrM.splitB_pieces s nl 10 rfl, by rw [hl], fun k p hk => ?_, (Below.refl _ _).alloc (Nat.le_refl _) _, by simp⟩
  rw [cell_of_row _ _ _ _ _ _ (heap_alloc_new W _)]
  simp [hk]
/-- What Lines answers. -/
def Ans (l : List UInt8) (W : World) (e : Ending) (w' : World) : Prop := ∃ v, e = .returned (.tuple #[v, .int .i64 (lineOf l : Int), .int .i64 (errOf l : Int)]) ∧ Lines w' v (linesOf l) ∧ Below W.heap.size W w'
theorem ans_no {l : List UInt8} {W w' : World} {a b : Int} (h : linesOf l = []) (ha : a = (lineOf l : Int)) (hb : b = (errOf l : Int)) (hw : Below W.heap.size W w') : Ans l W (.returned (.tuple #[.slice none 0 0, .int .i64 a, .int .i64 b])) w' :=
  ⟨.slice none 0 0, by rw [ha, hb], by rw [h]; exact Lines.nil w', hw⟩

set_option maxRecDepth 100000 in
set_option maxHeartbeats 1000000 in
theorem lines_any (s : ByteArray) (w : World) (hs : s.size ≤ maxLen) (he : Env w) :
    Calls Tryz.prog 13 #[.string s] w (Ans s.data.toList w) := by
  unfold maxLen at hs
  have hz := Lib.hid (Lib.size_eq s)
  by_cases ho : 4096 < s.size
  · have HO := Lib.hid (TxtM.errOf_over (l := s.data.toList) (by rw [← hz.out]; exact ho))
    clear he
    go_enter Tryz.func13, Tryz.ntmps13
    go_wp2_with fail
    exact bodyPost_ret (v := .tuple #[.slice none 0 0, .int .i64 0, .int .i64 2]) (by simp [results, Tryz.results13, go_sem]) rfl (ans_no HO.out.2.2 (by rw [HO.out.2.1]; rfl) (by rw [HO.out.1]; rfl) (Below.refl _ _))
  · have HI := Lib.hid (index_any s w)
    cases hv : s.data.toList.all okb with
    | false =>
      have HO := Lib.hid (TxtM.errOf_bad (l := s.data.toList) (by rw [← hz.out]; omega) hv)
      have HX := Lib.hid (TxtM.idx_bad hv)
      have HK := Lib.hid (TxtM.len_takeWhile_lt hv)
      have HT := Lib.hid (TxtM.take_takeWhile s.data.toList)
      clear he hv
      go_enter Tryz.func13, Tryz.ntmps13
      go_wp2_with fail
      go_at_call 27
      refine HI.out.mono ?_
      rintro e w1 ⟨rfl, hb⟩
      rw [HX.out]
      obtain ⟨k, hk⟩ : ∃ k, (s.data.toList.takeWhile okb).length = k := ⟨_, rfl⟩
      rw [hk] at HK HT ⊢
      have hlt : k < s.size := by rw [hz.out]; exact HK.out
      have hsl : ∀ W, (Instr.slice 9 (.string s) none (some (.int .i64 (k : Int))) none).run Tryz.prog W = .ok (.string (upto s k)) W := fun W => by
        have := run_slice_string_h (P := Tryz.prog) (t := 9) (s := s) (w := W) Tryz.underlying9 .i64 (k : Int) (by omega) (by omega)
        simpa [upto] using this
      have HC := Lib.hid (fun W => count_any (upto s k) W)
      go_wp2_with fail
      go_at_call 29
      refine (HC.out _).mono ?_
      rintro e w2 ⟨rfl, rfl⟩
      rw [upto_list, HT.out]
      have hcl : (s.data.toList.takeWhile okb).count 10 ≤ 4096 := by
        have h1 : (s.data.toList.takeWhile okb).count 10 ≤ (s.data.toList.takeWhile okb).length := List.count_le_length
        omega
      obtain ⟨c, hc⟩ : ∃ c, (s.data.toList.takeWhile okb).count 10 = c := ⟨_, rfl⟩
      rw [hc] at hcl HO ⊢
      go_wp2_with fail
      exact bodyPost_ret (v := .tuple #[.slice none 0 0, .int .i64 (1 + (c : Int)), .int .i64 3]) (by simp [results, Tryz.results13, go_sem]) rfl (ans_no HO.out.2.2 (by rw [HO.out.2.1]; omega) (by rw [HO.out.1]; rfl) hb)
    | true =>
      have HO := Lib.hid (TxtM.errOf_ok (l := s.data.toList) (by rw [← hz.out]; omega) hv)
      have HX := Lib.hid (TxtM.idx_good hv)
      have HLX := Lib.hid (TxtM.lex_is _ hv)
      have HLN : Hid (∀ p ∈ AdrM.pieces 10 s.data.toList, p.length ≤ 4096 ∧ ∀ b ∈ p, b.toNat < 128) := fun p hp =>
        ⟨by have := AdrM.pieces_len 10 s.data.toList p hp; have := hz.out; omega, fun b hb => okb_low (List.all_eq_true.1 hv b (pieces_sub 10 _ p hp b hb))⟩
      have HPL : Hid ((AdrM.pieces 10 s.data.toList).length ≤ 4097) := by
        show _ ≤ _
        rw [AdrM.pieces_count]
        have h1 : s.data.toList.count 10 ≤ s.data.toList.length := List.count_le_length
        have := hz.out
        omega
      have HS := Lib.hid (fun W h => split_any s (by omega) W h)
      have HE := Lib.hid he
      clear he hv
      go_enter Tryz.func13, Tryz.ntmps13
      go_wp2_with fail
      go_at_call 27
      refine HI.out.mono ?_
      rintro e w0 ⟨rfl, hb0⟩
      rw [HX.out]
      have HE0 := Lib.hid (HE.out.below hb0)
      have HB0 := Lib.hid hb0
      clear hb0
      go_wp2_with fail
      go_at_call 30
      refine (HS.out _ HE0.out).mono ?_
      rintro e w1 ⟨ps, hps, rfl, hcell, hb1, hsz⟩
      have HP := Lib.hid hps
      have HC := Lib.hid hcell
      have HE1 := Lib.hid (HE0.out.below hb1)
      have HB1 := Lib.hid (HB0.out.trans (hb1.mono HB0.out.size))
      have hpl : ps.length ≤ 4097 := by have := HPL.out; rw [← hps, List.length_map] at this; exact this
      clear hps hcell hb1
      go_wp2_with fail
      go_loopw [2, 24] (fun v i wr => ∃ (k : Nat) (xs : List Value), k ≤ ps.length ∧ i = .int .i64 (k : Int) ∧ Hid (wr.ownsRow w1.heap.size 50 2 v (linesP 1 ((AdrM.pieces 10 s.data.toList).take k)).length xs) ∧
        Hid (Lns wr wr.heap.size xs (linesP 1 ((AdrM.pieces 10 s.data.toList).take k))) ∧ Hid (Below w1.heap.size w1 wr)) (fun _ i _ => ps.length - (RowKit.intOf i).toNat)
      case atStart => exact ⟨0, [], by omega, rfl, World.ownsRow_nil _ _ _ _, trivial, Below.refl _ _⟩
      case round =>
        obtain ⟨k, xs, hk, rfl, hown, hL, hb⟩ := hrel
        by_cases hlt : k < ps.length
        · obtain ⟨p, hp⟩ : ∃ p, ps[k]? = some p := ⟨_, List.getElem?_eq_getElem hlt⟩
          have hpk : (AdrM.pieces 10 s.data.toList)[k]? = some p.data.toList := by rw [← HP.out, List.getElem?_map, hp]; rfl
          have HT := Lib.hid (TxtM.linesP_take hpk 1)
          have hpo := HLN.out _ (List.mem_of_getElem? hpk)
          have hc0 : wr.cell? ⟨w0.heap.size, k, none⟩ = some (.string p) := (hb.out.cell hsz).trans (HC.out k p hp)
          have HW := Lib.hid (words_any p wr (HE1.out.below hb.out) (by rw [Lib.size_eq]; exact hpo.1) hpo.2)
          have hll : (linesP 1 ((AdrM.pieces 10 s.data.toList).take k)).length ≤ 4097 := by
            have := TxtM.linesP_len ((AdrM.pieces 10 s.data.toList).take k) 1
            rw [List.length_take] at this
            omega
          have hwl : (wordsL p.data.toList).length ≤ 4097 := by have := TxtM.wordsL_len p.data.toList; omega
          clear hp hpk hpo
          go_wp2_with fail
          go_at_call 31
          refine HW.out.mono ?_
          rintro e w2 ⟨v, rfl, hr, hb2⟩
          obtain ⟨A, c, rfl⟩ := hr.len
          have hown2 := own_below hown.out hb2
          have hL2 := (hL.out.below hb2 (Nat.le_refl _)).mono hb2.size
          have hbb := hb.out.trans (hb2.mono hb.out.size)
          generalize hws : wordsL p.data.toList = ws at hr HT hwl ⊢
          have HR := Lib.hid hr
          have HOW := Lib.hid hown2
          have HL2 := Lib.hid hL2
          have HBB := Lib.hid hbb
          clear hc0 hr hown2 hL2 hbb hws hb2 HW
          cases ws with
          | nil =>
            have HT2 : Hid (linesP 1 ((AdrM.pieces 10 s.data.toList).take (k + 1)) = linesP 1 ((AdrM.pieces 10 s.data.toList).take k)) := by
              show _ = _; rw [HT.out]; exact List.append_nil _
            clear HT
            go_wp2_with fail
            go_roundw
            case rel => exact ⟨k + 1, xs, by omega, by go_num, by rw [HT2.out]; exact HOW, by rw [HT2.out]; exact HL2, HBB⟩
            case measure => simp [RowKit.intOf]; omega
          | cons x ws =>
            have HT2 : Hid (linesP 1 ((AdrM.pieces 10 s.data.toList).take (k + 1)) = linesP 1 ((AdrM.pieces 10 s.data.toList).take k) ++ [(1 + k, x :: ws)]) := by
              show _ = _; rw [HT.out]; rfl
            clear HT
            have hpos : (0 : Int) < ((x :: ws).length : Nat) := by simp only [List.length_cons]; omega
            generalize hln : (x :: ws).length = ln at hpos hwl HR ⊢
            go_wp2_with (at_builtin; refine wpList_append_line rfl (.tmp 34) (.tmp 39) rfl _ xs _ rfl HOW.out HL2.out HBB.out (1 + k) _ (by omega) _ (x :: ws) (by rw [hln]; exact HR.out) rfl (by omega) ?_; intro v3 w3 xs3 hown3 hL3 hb3)
            go_roundw
            case rel => exact ⟨k + 1, xs3, by omega, by go_num, by rw [HT2.out]; exact hown3, by rw [HT2.out]; exact hL3, hb3⟩
            case measure => simp [RowKit.intOf]; omega
        · obtain rfl : k = ps.length := by omega
          have hall : Hid ((AdrM.pieces 10 s.data.toList).take ps.length = AdrM.pieces 10 s.data.toList) := by
            show _ = _
            rw [← HP.out]; exact List.take_of_length_le (by simp)
          rw [hall.out] at hown hL
          have HLS : Hid (linesOf s.data.toList = linesP 1 (AdrM.pieces 10 s.data.toList)) := by show _ = _; rw [HO.out.2.2, HLX.out]
          clear hall
          go_wp2_with fail
          refine bodyPost_ret (v := .tuple #[u2, .int .i64 0, .int .i64 0]) (by simp [results, Tryz.results13, go_sem]) rfl ?_
          exact ⟨u2, by rw [HO.out.1, HO.out.2.1]; rfl, by rw [HLS.out]; exact ⟨xs, Row.of_own hown.out, hL.out⟩, HB1.out.trans (hb.out.mono HB1.out.size)⟩
end Tx
end Go.Proofs.YtfbbkbjiaopnkaaGreatDoor
