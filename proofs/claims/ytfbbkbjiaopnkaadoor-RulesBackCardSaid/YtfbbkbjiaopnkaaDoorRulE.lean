/- Layer 12: the contract of Print. -/
import Derived.Test.YtfbbkbjiaopnkaaDoorRulD
set_option linter.unusedVariables false
set_option linter.unusedSimpArgs false
namespace Go.Proofs.YtfbbkbjiaopnkaaDoor
open Go.ChangeShapes Go.WideShapes Go.ChangeAt Go.RowKit Go.Mtl Go.Shelf Go.Lib
namespace Ru
open RulM (R wordS known goodR lineR textR printE printT)

/-- A builder of the call's own, in block b, that holds these bytes. -/
def Bd (b : Nat) (l : List UInt8) (W : World) : Prop := IsBuilder 34 5 b b (byteCells l) W
theorem Bd.fresh (w : World) : Bd w.heap.size [] (w.alloc (.cells #[.pointer none, .slice none 0 0] 34)) :=
  .inl ⟨Nat.le_refl _, _, heap_alloc_new _ _, World.ownsRow_nil _ _ _ _, by simp [Value.ownBlock]⟩
theorem at_below {T e : TypeId} {B b : Nat} {p : Value} {bs : List Value} {w w' : World} (h : BuilderAt T e B b p bs w) (hb : Below w.heap.size w w') : BuilderAt T e B b p bs w' := by
  obtain ⟨h1, v, h2, h3, h4⟩ := h
  exact ⟨h1, v, (hb.block _ (Array.getElem?_eq_some_iff.1 h2).1).trans h2, own_below h3 hb, h4⟩
theorem Bd.below {b : Nat} {l : List UInt8} {w w' : World} (h : Bd b l w) (hb : Below w.heap.size w w') : Bd b l w' := h.elim (fun x => .inl (at_below x hb)) (fun x => .inr (at_below x hb))
theorem Bd.lt {b : Nat} {l : List UInt8} {w : World} (h : Bd b l w) : b < w.heap.size := h.elim (fun x => x.lt) (fun x => x.lt)
/-- (*strings.Builder).WriteString. -/
theorem write_any (b : Nat) (l m : List UInt8) (w : World) (h : Bd b l w) (hl : l.length ≤ 1000000) (hm : m.length ≤ 1000000) :
    Calls Tryd.prog 9 #[.pointer (some ⟨b, 0, none⟩), .string ⟨m.toArray⟩] w fun e w' => ∃ n : Int, e = .returned (.tuple #[.int .i64 n, .nilIface]) ∧ Bd b (l ++ m) w' ∧ Below b w w' := by
  have hz : (⟨m.toArray⟩ : ByteArray).size = m.length := by simp [ByteArray.size]
  refine (Any.Builder_WriteString (P := Tryd.prog) (ρ := Tryd.lays156_ren) { Tryd.lays156 with } Tryd.Builder_Extra_156 b b (byteCells l) ⟨m.toArray⟩ w h (by rw [byteCells_length, hz]; omega) (Nat.le_of_lt h.lt)).mono fun e w' ⟨h1, h2, h3⟩ => ⟨_, h1, ?_, h3⟩
  have : byteCells (l ++ m) = byteCells l ++ strCells ⟨m.toArray⟩ := by rw [strCells_toArray]; simp [byteCells]
  exact .inr (by rw [this]; exact h2)
theorem string_any (b : Nat) (l : List UInt8) (w : World) (h : Bd b l w) :
    Calls Tryd.prog 11 #[.pointer (some ⟨b, 0, none⟩)] w fun e w' => e = .returned (.string ⟨l.toArray⟩) ∧ Below b w w' :=
  Tryd.Builder_String_any b b l w h (Nat.le_of_lt h.lt)

/-- What Print answers. -/
theorem ret_print {a b : List UInt8} {x y : Int} (h : a = b) (h2 : x = y) : Ending.returned (.tuple #[.string ⟨a.toArray⟩, .int .i64 x]) = .returned (.tuple #[.string ⟨b.toArray⟩, .int .i64 y]) := by rw [h, h2]
/-- What Print's loop keeps: k rules are good and written. -/
structure PL (w : World) (b : Nat) (rs : List R) (k : Nat) (W : World) : Prop where
  good : (rs.take k).all goodR = true
  bd : Bd b (textR (rs.take k)) W
  bel : Below w.heap.size w W
theorem take_at {rs : List R} {k : Nat} {r : R} (h : rs[k]? = some r) : rs.take (k + 1) = rs.take k ++ [r] := by
  obtain ⟨hlt, he⟩ := List.getElem?_eq_some_iff.1 h
  rw [List.take_succ_eq_append_getElem hlt, he]
theorem take_len {rs : List R} {k : Nat} (ho : ∀ r ∈ rs, r.Ok) (hk : k ≤ 64) (h : (rs.take k).all goodR = true) : (textR (rs.take k)).length ≤ 10000 := by
  have h1 := RulM.text_len (fun r hr => ho r (List.mem_of_mem_take hr)) h
  have h2 : (rs.take k).length ≤ 64 := by rw [List.length_take]; omega
  omega

set_option maxRecDepth 100000 in
set_option maxHeartbeats 2000000 in
theorem print_any (v : Value) (rs : List R) (w : World) (he : Env w) (hr : Rds w w.heap.size v rs) (ho : ∀ r ∈ rs, r.Ok) :
    Calls Tryd.prog 4 #[v] w fun e w' => e = .returned (.tuple #[.string ⟨(printT rs).toArray⟩, .int .i64 (printE rs : Int)]) ∧ Below w.heap.size w w' := by
  obtain ⟨A, cap, rfl, hcap, hmax⟩ := hr.len
  unfold maxLen at hmax
  have HR := Lib.hid hr
  clear hr
  obtain ⟨n, hn⟩ : ∃ n, rs.length = n := ⟨_, rfl⟩
  rw [hn] at hcap HR ⊢
  have HN := Lib.hid hn
  by_cases h64 : 64 < n
  · have HM := Lib.hid (RulM.print_many (rs := rs) (by omega))
    clear hn he
    go_enter Tryd.func4, Tryd.ntmps4
    go_wp2_with fail
    go_ret2
    exact ⟨by rw [HM.out.1, HM.out.2]; rfl, Below.refl _ _⟩
  · have HE := Lib.hid he
    have HO := Lib.hid ho
    have H0 : Hid (PL w w.heap.size rs 0 (w.alloc (.cells #[.pointer none, .slice none 0 0] 34))) := ⟨rfl, Bd.fresh w, below_box _ _⟩
    clear he ho hn
    go_enter Tryd.func4, Tryd.ntmps4
    go_wp2_with fail
    go_loopw [12] (fun i wr => ∃ k : Nat, k ≤ n ∧ i = .int .i64 (k : Int) ∧ Hid (PL w w.heap.size rs k wr)) (fun i _ => n - (RowKit.intOf i).toNat)
    case atStart => exact ⟨0, by omega, rfl, H0⟩
    case round =>
      obtain ⟨k, hk, rfl, hPL⟩ := hrel
      by_cases hlt : k < n
      · obtain ⟨r, hrk⟩ : ∃ r, rs[k]? = some r := ⟨_, List.getElem?_eq_getElem (by have := HN.out; omega)⟩
        obtain ⟨b, off, cap', hv, hb, hc⟩ := HR.out.at_ hrk
        injection hv with hv1 hv2 hv3
        subst hv1
        have hcw : ∀ j u, (cellsR r)[j]? = some u → wr.cell? ⟨b, off + (k * 10 + j), none⟩ = some u := fun j u hu => (hPL.out.bel.cell hb).trans (hc j u hu)
        have d0 := hcw 0 _ rfl
        have d1 := hcw 1 _ rfl
        have d2 := hcw 2 _ rfl
        have d3 := hcw 3 _ rfl
        have d4 := hcw 4 _ rfl
        have d5 := hcw 5 _ rfl
        have d6 := hcw 6 _ rfl
        have d7 := hcw 7 _ rfl
        have d8 := hcw 8 _ rfl
        have d9 := hcw 9 _ rfl
        rw [← Nat.add_assoc] at d0 d1 d2 d3 d4 d5 d6 d7 d8 d9
        rw [Nat.add_zero] at d0
        have hrok := HO.out r (List.mem_of_getElem? hrk)
        have HT := Lib.hid (take_at hrk)
        have HBX := Lib.hid (RAt.box wr r)
        have HPX := Lib.hid (hPL.out.bd.below (below_box wr (.cells (cR r) 42)))
        have HWX := Lib.hid (below_then hPL.out.bel (below_box wr (.cells (cR r) 42)))
        have HG := Lib.hid (fun W (h : Below w.heap.size w W) => good_any r hrok W (HE.out.below h))
        have hbl : w.heap.size < wr.heap.size := hPL.out.bd.lt
        cases hg : goodR r with
        | false =>
          rw [hg] at HG
          have HX := Lib.hid (RulM.print_bad (by have := HN.out; omega) hrk hg)
          clear hc hcw hv2 hv3 hrk hg hrok
          go_wp2_with fail
          go_at_call 8
          refine (HG.out _ HWX.out).mono ?_
          rintro e w1 ⟨rfl, hb1⟩
          have HB1 := Lib.hid (below_then HWX.out hb1)
          clear hb1 d0 d1 d2 d3 d4 d5 d6 d7 d8 d9
          go_wp2_with fail
          go_ret2
          exact ⟨ret_print (by rw [HX.out.2]) (by rw [HX.out.1]; rfl), HB1.out⟩
        | true =>
          rw [hg] at HG
          have HS := Lib.hid (fun W (h : Below w.heap.size w W) => show_any r hrok hg W (HE.out.below h))
          have HGK : Hid ((rs.take (k + 1)).all goodR = true) := by
            show _ = _
            rw [take_at hrk, List.all_append, hPL.out.good]; simp [hg]
          have HL := Lib.hid (take_len HO.out (by omega) hPL.out.good)
          have HLR := Lib.hid (RulM.line_len hrok hg)
          have HTX : Hid (textR (rs.take (k + 1)) = (textR (rs.take k) ++ lineR r) ++ [10]) := by
            show _ = _
            rw [take_at hrk, RulM.textR_snoc]; simp
          clear hc hcw hv2 hv3 hrk hg hrok
          go_wp2_with fail
          go_at_call 8
          refine (HG.out _ HWX.out).mono ?_
          rintro e w1 ⟨rfl, hb1⟩
          have HK1 := Lib.hid (HBX.out.next hb1)
          have HP1 := Lib.hid (HPX.out.below hb1)
          have HB1 := Lib.hid (below_then HWX.out hb1)
          clear hb1 d0 d1 d2 d3 d4 d5 d6 d7 d8 d9
          have d0 := HK1.out.c0
          have d1 := HK1.out.c1
          have d2 := HK1.out.c2
          have d3 := HK1.out.c3
          have d4 := HK1.out.c4
          have d5 := HK1.out.c5
          have d6 := HK1.out.c6
          have d7 := HK1.out.c7
          have d8 := HK1.out.c8
          have d9 := HK1.out.c9
          go_wp2_with fail
          go_at_call 10
          refine (HS.out _ HB1.out).mono ?_
          rintro e w2 ⟨rfl, hb2⟩
          have HP2 := Lib.hid (HP1.out.below hb2)
          have HB2 := Lib.hid (below_then HB1.out hb2)
          clear hb2 d0 d1 d2 d3 d4 d5 d6 d7 d8 d9
          go_wp2_with fail
          go_at_call 9
          refine (write_any w.heap.size _ (lineR r) w2 HP2.out (by have := HL.out; omega) (by have := HLR.out; omega)).mono ?_
          rintro e w3 ⟨n3, rfl, hp3, hb3⟩
          have HP3 := Lib.hid hp3
          have HB3 := Lib.hid (HB2.out.trans hb3)
          clear hp3 hb3
          go_wp2_with fail
          go_at_call 9
          refine (write_any w.heap.size _ [10] w3 HP3.out (by have := HL.out; have := HLR.out; simp; omega) (by simp)).mono ?_
          rintro e w4 ⟨n4, rfl, hp4, hb4⟩
          have HP4 : Hid (PL w w.heap.size rs (k + 1) w4) := ⟨HGK.out, by rw [HTX.out]; exact hp4, HB3.out.trans hb4⟩
          clear hp4 hb4
          go_wp2_with fail
          go_roundw
          case rel => exact ⟨k + 1, by omega, by go_num, HP4⟩
          case measure => simp [RowKit.intOf]; omega
      · obtain rfl : k = n := by omega
        have HA : Hid (rs.take k = rs) := List.take_of_length_le (by have := HN.out; omega)
        have HX := Lib.hid (RulM.print_ok (rs := rs) (by have := HN.out; omega) (by have := hPL.out.good; rw [HA.out] at this; exact this))
        have HS : Hid (Bd w.heap.size (textR rs) wr) := by have := hPL.out.bd; rw [HA.out] at this; exact this
        go_wp2_with fail
        go_at_call 11
        refine (string_any w.heap.size _ _ HS.out).mono ?_
        rintro e w1 ⟨rfl, hb1⟩
        have HB1 := Lib.hid (hPL.out.bel.trans hb1)
        clear hb1
        go_wp2_with fail
        go_ret2
        exact ⟨ret_print (by rw [HX.out.2]) (by rw [HX.out.1]; rfl), HB1.out⟩
end Ru
end Go.Proofs.YtfbbkbjiaopnkaaDoor
