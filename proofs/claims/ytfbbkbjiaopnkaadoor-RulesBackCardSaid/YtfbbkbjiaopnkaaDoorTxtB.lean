/- Layer 11: what the library's variables hold (Env), and the contracts of isInvalid, words, Number, the reference's Num and Number. -/
import Derived.Test.YtfbbkbjiaopnkaaDoorTxtA
import Derived.Test.YtfbbkbjiaopnkaaDoorTxtF
import Derived.Test.YtfbbkbjiaopnkaaDoorTxtN
import Derived.Test.YtfbbkbjiaopnkaaDoorShelf
import Derived.Test.YtfbbkbjiaopnkaaDoorComS
import Derived.Deep.QuietTactic
import Derived.Lib.ItoaMem
set_option linter.unusedVariables false
set_option linter.unusedSimpArgs false
namespace Go.Proofs.YtfbbkbjiaopnkaaDoor
open Go.ChangeShapes Go.WideShapes Go.ChangeAt Go.RowKit Go.Mtl Go.Shelf Go.Lib
namespace Tx
open TxtM (Line okb invR errOf lineOf linesOf lex okN valN top)
open AdrM (dval isDig)

theorem gSp : Tryd.prog.globalNamed "strings.asciiSpace" = some 1 := by kernel_rfl
/-- What the library's variables hold. -/
structure Env (w : World) : Prop where
  max : ∃ m, w.cell? ⟨0, 0, none⟩ = some (.int .i64 m)
  tab : TabIs Tryd.prog w "strings.asciiSpace" .u8 asciiSpaceTab
theorem var_lt {P : Program} {w : World} {n : String} {g : Nat} {cs : Array Value} (hg : P.globalNamed n = some g) (h : w.var? P n = some cs) : g < w.heap.size := by
  unfold World.var? at h
  simp only [hg, Option.bind_some] at h
  rcases Nat.lt_or_ge g w.heap.size with h' | h'
  · exact h'
  · rw [Array.getElem?_eq_none h'] at h; simp at h
theorem var_below {P : Program} {w w' : World} {n : String} {g : Nat} {cs : Array Value} (hg : P.globalNamed n = some g) (h : w.var? P n = some cs) (hb : Below w.heap.size w w') : w'.var? P n = some cs := by
  have hlt := var_lt hg h
  unfold World.var? at *
  simp only [hg, Option.bind_some] at h ⊢
  rw [hb.block g hlt]
  exact h
theorem Env.below {w w' : World} (h : Env w) (hb : Below w.heap.size w w') : Env w' := by
  obtain ⟨⟨m, h1⟩, h2⟩ := h
  have hlt := World.block_lt_of_cell? _ _ h1
  exact ⟨⟨m, (hb.cell hlt).trans h1⟩, var_below gSp h2 hb⟩
theorem Env.alloc {w : World} (h : Env w) (o : Obj) : Env (w.alloc o) := h.below ((Below.refl _ _).alloc (Nat.le_refl _) o)
theorem Env.drewN {w : World} (h : Env w) (n : Nat) : Env (w.drewN n) := ⟨h.max, h.tab⟩
theorem below_drewN (w : World) (n : Nat) : Below w.heap.size w (w.drewN n) := ⟨rfl, rfl, rfl, Nat.le_refl _, fun _ _ => rfl⟩

set_option maxRecDepth 100000 in
theorem isInvalid_any (x : Nat) (hx : x ≤ 1114111) (W : World) :
    Calls Tryd.prog 22 #[.int .i32 (x : Int)] W fun e w' => e = .returned (.bool (invR x)) ∧ ∃ n, w' = W.drewN n := by
  obtain ⟨B, hB⟩ : ∃ B, invR x = B := ⟨_, rfl⟩
  rw [hB]
  unfold invR at hB
  go_enter Tryd.func22, Tryd.ntmps22
  go_wp2_with fail
  all_goals go_ret
  all_goals refine ⟨?_, 0, rfl⟩
  all_goals rw [← hB]
  all_goals refine congrArg (fun b => Ending.returned (Value.bool b)) ?_
  all_goals (rw [Bool.eq_iff_iff]; simp)
  all_goals omega

abbrev sharp : ByteArray := ⟨#[35]⟩
theorem cut_any (s : ByteArray) (hs : s.size ≤ 4096) (w : World) (he : Env w) :
    Calls Tryd.prog 39 #[.string s, .string sharp] w fun e w' => ∃ (r : ByteArray) (b : Bool), e = .returned (.tuple #[.string ⟨(TxtM.ahead s.data.toList).toArray⟩, .string r, .bool b]) ∧ ∃ k, w' = w.drewN k := by
  obtain ⟨m, hm⟩ := he.max
  have h := Tryd.strings_Cut s sharp m w (by omega) hm
  have e : sharp.data.toList = [35] := rfl
  rw [e, TxtM.ahead_cut] at h
  exact h.mono fun _ _ ⟨he, hw⟩ => ⟨_, _, he, hw⟩
theorem fields_any (l : List UInt8) (hs : l.length ≤ 4096) (hv : ∀ b ∈ l, b.toNat < 128) (w : World) (he : Env w) :
    Calls Tryd.prog 40 #[.string ⟨l.toArray⟩] w fun e w' => ∃ v, e = .returned v ∧ Row w' 9 w'.heap.size v (fields l).length ((fields l).map strV) ∧ Below w.heap.size w w' := by
  have e : (⟨l.toArray⟩ : ByteArray).data.toList = l := by simp
  have h := Tryd.strings_Fields ⟨l.toArray⟩ w (by rw [Lib.size_eq, e]; omega) (by rw [e]; exact fun j b hb => hv b (List.mem_of_getElem? hb)) he.tab
  rw [e] at h
  refine h.mono fun e w' ⟨h1, h2⟩ => ⟨_, h1, ?_, by rw [h2]; exact (Below.refl _ _).alloc (Nat.le_refl _) _⟩
  subst h2
  have hn := TxtM.fieldsGo_len l []
  refine .inr ⟨w.heap.size, _, _, rfl, by simp, heap_alloc_new _ _, ?_, Nat.le_refl _, by unfold fields maxLen; omega⟩
  rw [List.length_map]
  show List.take (fields l).length (List.map strV (fields l)) = _
  exact List.take_of_length_le (by simp)

set_option maxRecDepth 100000 in
/-- The words of a line. -/
theorem words_any (s : ByteArray) (w : World) (he : Env w) (hs : s.size ≤ 4096) (hv : ∀ b ∈ s.data.toList, b.toNat < 128) :
    Calls Tryd.prog 25 #[.string s] w fun e w' => ∃ v, e = .returned v ∧ Row w' 9 w'.heap.size v (TxtM.wordsL s.data.toList).length ((TxtM.wordsL s.data.toList).map strV) ∧ Below w.heap.size w w' := by
  have hz := Lib.size_eq s
  have hl := TxtM.ahead_len s.data.toList
  have hW : TxtM.wordsL s.data.toList = fields (TxtM.ahead s.data.toList) := by unfold TxtM.wordsL; rw [TxtM.ahead_cut]
  rw [hW]
  have HF := Lib.hid (fun n => fields_any (TxtM.ahead s.data.toList) (by omega) (fun b hb => hv b (TxtM.ahead_sub _ b hb)) (w.drewN n) (he.drewN n))
  have HC := Lib.hid (cut_any s hs w he)
  clear hv he hz hW
  go_enter Tryd.func25, Tryd.ntmps25
  go_wp2_with fail
  go_at_call 39
  refine HC.out.mono ?_
  rintro e w1 ⟨r, b, rfl, n, rfl⟩
  go_wp2_with fail
  go_at_call 40
  refine (HF.out n).mono ?_
  rintro e w1 ⟨v, rfl, h1, h2⟩
  go_wp2_with fail
  go_ret
  exact ⟨_, rfl, h1, (below_drewN w n).trans h2⟩

theorem toList_is (s : ByteArray) : s.toList = s.data.toList := ByteArray.toList_eq s
theorem ret_num {a b : Int} {c d : Bool} (h : a = b) (h2 : c = d) : Ending.returned (.tuple #[.int .i64 a, .bool c]) = .returned (.tuple #[.int .i64 b, .bool d]) := by rw [h, h2]
theorem ret_no {l : List UInt8} (h : okN l = false) : Ending.returned (.tuple #[.int .i64 0, .bool false]) = .returned (.tuple #[.int .i64 (valN l : Int), .bool (okN l)]) :=
  ret_num (by rw [TxtM.valN_no h]; rfl) h.symm
set_option maxRecDepth 100000 in
set_option maxHeartbeats 1000000 in
theorem number_any (s : ByteArray) (w : World) (hs : s.size ≤ maxLen) :
    Calls Tryd.prog 55 #[.string s] w fun e w' => e = .returned (.tuple #[.int .i64 (valN s.data.toList : Int), .bool (okN s.data.toList)]) ∧ w' = w := by
  unfold maxLen at hs
  have hz := Lib.hid (Lib.size_eq s)
  by_cases h0 : s.size = 0
  · have hl : s.data.toList = [] := List.eq_nil_of_length_eq_zero (by rw [← hz.out]; exact h0)
    have ht : s.toList = [] := by rw [toList_is, hl]
    have HL := Lib.hid hl
    clear hl hz h0
    go_enter Tryd.func55, Tryd.ntmps55
    go_wp2_with fail
    go_ret2
    exact ⟨by rw [HL.out]; exact ret_no TxtM.no_none, rfl⟩
  · have hE : s.toList.isEmpty = false := by
      rw [toList_is]
      cases hd : s.data.toList with
      | nil => rw [hz.out, hd] at h0; exact absurd rfl h0
      | cons => rfl
    have hT : ¬ s.toList = [] := by rw [← List.isEmpty_iff, hE]; simp
    have HZ : Hid (¬ (1 < s.size ∧ s.data.toList[0]? = some 48) → okN s.data.toList = okN s.data.toList) := fun _ => rfl
    have H48 : ∀ h : 0 < s.size, (s[0].toNat = 48 ↔ s.data.toList[0]? = some 48) := fun h => by
      rw [data_getElem? s 0 h, Option.some.injEq]
      exact ⟨fun e => UInt8.toNat_inj.1 e, fun e => by rw [e]; rfl⟩
    by_cases h2 : 1 < s.size ∧ s.data.toList[0]? = some 48
    · obtain ⟨h1, h48⟩ := h2
      have hp : 0 < s.size := by omega
      have hc := (H48 hp).2 h48
      have hno := Lib.hid (TxtM.no_zero (by rw [← hz.out]; exact h1) h48)
      have hb : ((s[0].toNat : Int) == 48) = true := by rw [beq_iff_eq]; omega
      clear H48 HZ h48 hc
      go_enter Tryd.func55, Tryd.ntmps55
      go_wp2_with fail
      go_ret2
      exact ⟨ret_no hno.out, rfl⟩
    · have h48 : Hid (1 < s.data.toList.length → s.data.toList[0]? ≠ some 48) := fun h1 h2' => h2 ⟨by rw [hz.out]; exact h1, h2'⟩
      have hb : ∀ h : 0 < s.size, 1 < s.size → ((s[0].toNat : Int) == 48) = false := fun h h1 => by
        rw [beq_eq_false_iff_ne]
        intro e
        exact h2 ⟨h1, (H48 h).1 (by omega)⟩
      clear H48 HZ h2
      by_cases h1 : 1 < s.size
      all_goals try have hb2 := hb (by omega) h1
      all_goals
        clear hb
        go_enter Tryd.func55, Tryd.ntmps55
        go_wp2_with fail
        go_loop [4, 21] (fun n i => ∃ k x : Nat, k ≤ s.size ∧ i = .int .i64 (k : Int) ∧ n = .int .i64 (x : Int) ∧ x ≤ 4611686018427387904 ∧ Hid (x = dval 0 (s.data.toList.take k)) ∧ Hid ((s.data.toList.take k).all isDig = true)) (fun _ i => s.size - (RowKit.intOf i).toNat)
        case atStart => exact ⟨0, 0, by omega, rfl, rfl, by omega, rfl, rfl⟩
        case round =>
          obtain ⟨k, x, hk, rfl, rfl, hx4, hx, hd⟩ := hrel
          by_cases hlt : k < s.size
          · have HAT := Lib.hid (data_getElem? s k hlt)
            have hby := s[k].toNat_lt
            have HV := Lib.hid (TxtM.dval_at HAT.out)
            by_cases hc1 : s[k].toNat < 48
            · have HN := Lib.hid (TxtM.no_digit HAT.out (by omega))
              go_wp2_with fail
              go_ret2
              exact ⟨ret_no HN.out, rfl⟩
            · by_cases hc2 : 57 < s[k].toNat
              · have HN := Lib.hid (TxtM.no_digit HAT.out (by omega))
                go_wp2_with fail
                go_ret2
                exact ⟨ret_no HN.out, rfl⟩
              · have HD := Lib.hid (TxtM.all_at HAT.out hd.out ⟨by omega, by omega⟩)
                obtain ⟨d, hdd⟩ : ∃ d : Nat, s[k].toNat = 48 + d := ⟨s[k].toNat - 48, by omega⟩
                by_cases hov : 4611686018427387904 < 10 * x + d
                · have HN := Lib.hid (TxtM.no_over (l := s.data.toList) (k := k + 1) (by rw [HV.out, ← hx.out, hdd]; unfold top; omega))
                  go_wp2_with fail
                  go_ret2
                  exact ⟨ret_no HN.out, rfl⟩
                · have HST : Hid (10 * x + d = dval 0 (s.data.toList.take (k + 1))) := by show _ = _; rw [HV.out, ← hx.out, hdd]; omega
                  clear HV HAT
                  go_wp2_with fail
                  go_round
                  case rel => exact ⟨k + 1, 10 * x + d, by omega, by go_num, by go_num, by omega, HST, HD⟩
                  case measure => simp [RowKit.intOf]; omega
          · obtain rfl : k = s.size := by omega
            have ha : s.data.toList.take s.size = s.data.toList := List.take_of_length_le (by rw [← hz.out]; exact Nat.le_refl _)
            have hy := Lib.hid (TxtM.yes_number (l := s.data.toList) (by rw [← hz.out]; omega) (by rw [← ha]; exact hd.out) h48.out (by rw [← ha, ← hx.out]; exact hx4))
            have hvv : Hid (valN s.data.toList = x) := by show _ = _; rw [TxtM.valN_yes hy.out, hx.out, ha]
            clear ha
            go_wp2_with fail
            go_ret2
            exact ⟨ret_num (by rw [hvv.out]) hy.out.symm, rfl⟩
end Tx
end Go.Proofs.YtfbbkbjiaopnkaaDoor
