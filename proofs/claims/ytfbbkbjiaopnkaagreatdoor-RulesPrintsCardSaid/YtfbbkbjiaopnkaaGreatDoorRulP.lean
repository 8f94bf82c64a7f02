/- Layer 12: the contract of the reference's Compile. (Written by wip/tools/mkRulP.py.) -/
import Derived.Test.YtfbbkbjiaopnkaaGreatDoorRulL
import Derived.Test.YtfbbkbjiaopnkaaGreatDoorRulJ
import Derived.Test.YtfbbkbjiaopnkaaGreatDoorAdrU
import Derived.Test.YtfbbkbjiaopnkaaGreatDoorTxtE
import Derived.Deep.DeepCutAuto
set_option linter.unusedVariables false
set_option linter.unusedSimpArgs false
namespace Go.Proofs.YtfbbkbjiaopnkaaGreatDoor
open Go.ChangeShapes Go.WideShapes Go.ChangeAt Go.RowKit Go.Mtl Go.Shelf Go.Lib
namespace Ru
open RulM (R wordS known protoU protoD portsR parseW acceptL comp compile seenR goodR lineR)
open AdrM (anyL netS)
open TxtM (Line errOf lineOf linesOf)

theorem beq_dec (v u : List UInt8) : (v == u) = decide (v = u) := by
  rw [Bool.eq_iff_iff, beq_iff_eq, decide_eq_true_iff]
theorem netV_getD (o : Option (Nat × Nat)) : ∃ e : Int, Ad.netVal o = .tuple #[.agg #[.int .u32 ((o.getD (0, 0)).1 : Int), .int .i64 ((o.getD (0, 0)).2 : Int)], .int .i64 e] := by
  cases o with
  | none => exact ⟨_, rfl⟩
  | some x => exact ⟨_, rfl⟩
theorem refNet_list (l : List UInt8) (hl : l.length ≤ 4096) (w : World) :
    Calls Tryz.prog 18 #[.string ⟨l.toArray⟩] w fun e w' => e = .returned (Ad.netVal (netS l)) ∧ Below w.heap.size w w' := by
  have h := Ad.refNet_any ⟨l.toArray⟩ (by simp [ByteArray.size]; omega) w
  have e0 : (⟨l.toArray⟩ : ByteArray).data.toList = l := by simp
  rw [e0] at h
  exact h
/-- The words of a line in their block, and what was there before. -/
structure WX (wr : World) (g : Nat) (v p s sp d dp : List UInt8) (W : World) : Prop where
  bel : Below wr.heap.size wr W
  wds : Wds g v p s sp d dp W
theorem WX.next {wr W W' : World} {g : Nat} {v p s sp d dp : List UInt8} (h : WX wr g v p s sp d dp W) (hb : Below W.heap.size W W') : WX wr g v p s sp d dp W' := ⟨below_then h.bel hb, h.wds.next hb⟩
theorem WX.hide {wr W : World} {g : Nat} {v p s sp d dp : List UInt8} (_ : WX wr g v p s sp d dp W) : ∃ u, u = W := ⟨W, rfl⟩
theorem wx_of {wr W : World} {g : Nat} {v p s sp d dp : List UInt8} (h : WX wr g v p s sp d dp W) : W.cell? ⟨g, 0, none⟩ = some (.string ⟨v.toArray⟩) ∧ W.cell? ⟨g, 3, none⟩ = some (.string ⟨sp.toArray⟩) ∧ W.cell? ⟨g, 5, none⟩ = some (.string ⟨dp.toArray⟩) ∧ Hid (WX wr g v p s sp d dp W) :=
  ⟨h.wds.c0, h.wds.c3, h.wds.c5, h⟩
theorem Wds.below {g : Nat} {v p s sp d dp : List UInt8} {W W' : World} (h : Wds g v p s sp d dp W) (hb : Below W.heap.size W W') : Wds g v p s sp d dp W' := h.next hb
/-- The cells of the rule that is being put together. -/
abbrev tR (ac : Bool) (pr a n a2 n2 x1 y1 x2 y2 : Int) : Array Value := #[.bool ac, .int .u8 pr, .int .u32 a, .int .i64 n, .int .u32 a2, .int .i64 n2, .int .u16 x1, .int .u16 y1, .int .u16 x2, .int .u16 y2]
theorem TenAt.drewN {w W : World} {g : Nat} {cs : Array Value} (h : TenAt w g cs W) (n : Nat) : TenAt w g cs (W.drewN n) := ⟨h.blk.drewN n, h.bel.drews n, h.le⟩
theorem TenAt.drew {w W : World} {g : Nat} {cs : Array Value} (h : TenAt w g cs W) : TenAt w g cs W.drew := ⟨h.blk.drew, h.bel.drew, h.le⟩
theorem TenAt.set1 {w W : World} {g : Nat} {ac : Bool} {pr a n a2 n2 x1 y1 x2 y2 : Int} (h : TenAt w g (tR ac pr a n a2 n2 x1 y1 x2 y2) W) (q : Int) : TenAt w g (tR ac q a n a2 n2 x1 y1 x2 y2) (W.setCell ⟨g, 1, none⟩ (.int .u8 q)) :=
  ⟨h.blk.set' 1 _ rfl, h.bel.setCell (p := ⟨g, 1, none⟩) h.le _, h.le⟩
theorem TenAt.set23 {w W : World} {g : Nat} {ac : Bool} {pr a n a2 n2 x1 y1 x2 y2 : Int} (h : TenAt w g (tR ac pr a n a2 n2 x1 y1 x2 y2) W) (u v : Int) : TenAt w g (tR ac pr u v a2 n2 x1 y1 x2 y2) ((W.setCell ⟨g, 2, none⟩ (.int .u32 u)).setCell ⟨g, 3, none⟩ (.int .i64 v)) := by
  have h1 : Blk (W.setCell ⟨g, 2, none⟩ (.int .u32 u)) g (tR ac pr u n a2 n2 x1 y1 x2 y2) 38 := h.blk.set' 2 _ rfl
  exact ⟨h1.set' 3 _ rfl, (h.bel.setCell (p := ⟨g, 2, none⟩) h.le _).setCell (p := ⟨g, 3, none⟩) h.le _, h.le⟩
theorem TenAt.set45 {w W : World} {g : Nat} {ac : Bool} {pr a n a2 n2 x1 y1 x2 y2 : Int} (h : TenAt w g (tR ac pr a n a2 n2 x1 y1 x2 y2) W) (u v : Int) : TenAt w g (tR ac pr a n u v x1 y1 x2 y2) ((W.setCell ⟨g, 4, none⟩ (.int .u32 u)).setCell ⟨g, 5, none⟩ (.int .i64 v)) := by
  have h1 : Blk (W.setCell ⟨g, 4, none⟩ (.int .u32 u)) g (tR ac pr a n u n2 x1 y1 x2 y2) 38 := h.blk.set' 4 _ rfl
  exact ⟨h1.set' 5 _ rfl, (h.bel.setCell (p := ⟨g, 4, none⟩) h.le _).setCell (p := ⟨g, 5, none⟩) h.le _, h.le⟩
theorem TenAt.atBox {wr W : World} (cs : Array Value) (hb : Below wr.heap.size wr W) : TenAt wr W.heap.size cs (W.alloc (.cells cs 38)) := ⟨Blk.box _ _ _, hb.alloc hb.size _, hb.size⟩

set_option maxRecDepth 100000 in
set_option maxHeartbeats 2000000 in
theorem refCompile_any (st : ByteArray) (w : World) (hs : st.size ≤ maxLen) : Calls Tryz.prog 6 #[.string st] w (AnsR st.data.toList w) := by
  have HL := Lib.hid (Tx.refLines_any st w hs)
  clear hs
  obtain ⟨l, hl⟩ : ∃ l, st.data.toList = l := ⟨_, rfl⟩
  rw [hl] at HL ⊢
  clear hl
  unfold Tx.Ans at HL
  by_cases h0 : errOf l = 0
  · have HC : Hid (compile l = comp [] (linesOf l)) := by show _ = _; unfold RulM.compile; rw [if_pos h0]
    have HWD := Lib.hid (fun n ws hm => RulM.words_of (l := l) h0 (n := n) (ws := ws) hm)
    rw [h0] at HL
    clear h0
    go_enter Tryz.func6, Tryz.ntmps6
    go_wp2_with fail
    go_at_call 15
    refine HL.out.mono ?_
    rintro e w1 ⟨v1, rfl, hl1, hb1⟩
    obtain ⟨A1, c1, rfl⟩ := hl1.len
    have HLS := Lib.hid hl1
    have HB1 := Lib.hid hb1
    clear hl1 hb1 HL
    generalize linesOf l = ls at *
    generalize lineOf l = ln at *
    obtain ⟨n, hn⟩ : ∃ n, ls.length = n := ⟨_, rfl⟩
    rw [hn] at HLS ⊢
    have HN := Lib.hid hn
    clear hn
    have HO0 : Hid ((w1.alloc (.cells #[] 38)).ownsRow w1.heap.size 38 10 (.slice (some ⟨w1.heap.size, 0, none⟩) 0 0) 0 (cellsRs [])) := by
      show World.ownsRow _ _ _ _ _ _ _
      simpa [cellsRs] using World.ownsRow_lit (e := 38) (size := 10) (base := w1.heap.size) w1 #[] 0 (Nat.le_refl _) (by simp) rfl
    go_wp2_with fail
    go_loopw [8, 9] (fun v i wr => ∃ (k : Nat) (acc : List R), k ≤ n ∧ k ≤ 64 ∧ i = .int .i64 (k : Int) ∧ acc.length = k ∧ Hid (wr.ownsRow w1.heap.size 38 10 v acc.length (cellsRs acc)) ∧ Hid (comp [] ls = comp acc (ls.drop k)) ∧ Hid (Below w1.heap.size w1 wr)) (fun _ i _ => n - (RowKit.intOf i).toNat)
    case atStart => exact ⟨0, [], by omega, by omega, rfl, rfl, HO0, by show _ = _; rw [List.drop_zero], below_box _ _⟩
    case round =>
      rename World => wO
      obtain ⟨k, acc, hk, hk64, rfl, hacc, hown, hcomp, hb⟩ := hrel
      have HACC := Lib.hid hacc
      clear hacc
      by_cases hlt : k < n
      · obtain ⟨⟨m, wd⟩, hkl⟩ : ∃ x, ls[k]? = some x := ⟨_, List.getElem?_eq_getElem (by have := HN.out; omega)⟩
        obtain ⟨gl, cap, bw, hv, hg, hc0, hc1, hrow⟩ := lineAt HLS.out hkl
        injection hv with hv1 hv2 hv3
        subst hv1 hv3
        have d0 := (hb.out.cell (p := ⟨gl, k * 2, none⟩) hg).trans hc0
        have d1 := (hb.out.cell (p := ⟨gl, k * 2 + 1, none⟩) hg).trans hc1
        have HLC := Lib.hid (fun W (h : Below wO.heap.size wO W) => (h.cell (p := ⟨gl, k * 2, none⟩) (Nat.lt_of_lt_of_le hg hb.out.size)).trans d0)
        have HKL := Lib.hid hkl
        have HRW := Lib.hid ((hrow.below hb.out (Nat.le_refl _)).mono hb.out.size)
        have hwl := HWD.out m wd (List.mem_of_getElem? hkl)
        clear hv2 hc0 hc1 hrow hkl
        by_cases hk2 : k = 64
        · subst hk2
          have HM : Hid (compile l = ([], m, 14)) := HC.out.trans (hcomp.out.trans (RulM.comp_many HKL.out HACC.out))
          have HBW := Lib.hid (HB1.out.trans (hb.out.mono HB1.out.size))
          clear hwl
          go_wp2_with fail
          go_quiet (fail)
          go_wp2_with fail
          exact bodyPost_ret (v := .tuple #[.slice none 0 0, .int .i64 (m : Int), .int .i64 14]) (by simp [results, Tryz.results6, go_sem]) rfl (ansR_no (by rw [HM.out]) (by rw [HM.out]) (by rw [HM.out]; rfl) (HBW.out.drews _))
        · have hkd : ¬ 64 ≤ k := by omega
          by_cases h6 : wd.length = 6
          · obtain ⟨v, p, s, sp, d, dp, rfl⟩ : ∃ a b c d e f, wd = [a, b, c, d, e, f] := by
              match wd, h6 with
              | [a, b, c, d, e, f], _ => exact ⟨_, _, _, _, _, _, rfl⟩
            obtain ⟨g, cap6, rfl, hgl, hcap1, hcap2, hcw⟩ := HRW.out.at_ (by simp)
            unfold maxLen at hcap2
            have HW0 : Hid (Wds g v p s sp d dp wO) := ⟨hgl, hcw 0 _ rfl, hcw 1 _ rfl, hcw 2 _ rfl, hcw 3 _ rfl, hcw 4 _ rfl, hcw 5 _ rfl⟩
            have WXs := Lib.hid (fun W (h : Below wO.heap.size wO W) => HW0.out.next h)
            have HWX : Hid (WX wO g v p s sp d dp wO) := ⟨Below.refl _ _, HW0.out⟩
            have q2 := (hwl s (by simp)).1
            have q4 := (hwl d (by simp)).1
            have HP1 := Lib.hid (fun W => ports_any sp (hwl sp (by simp)).1 W)
            have HP2 := Lib.hid (fun W => ports_any dp (hwl dp (by simp)).1 W)
            obtain ⟨⟨x1, y1⟩, hx1⟩ : ∃ z, portsR sp = z := ⟨_, rfl⟩
            obtain ⟨⟨x2, y2⟩, hx2⟩ : ∃ z, portsR dp = z := ⟨_, rfl⟩
            rw [hx1] at HP1
            rw [hx2] at HP2
            unfold portsV at HP1 HP2
            obtain ⟨ac, hac⟩ : ∃ b, (v == [97, 99, 99, 101, 112, 116]) = b := ⟨_, rfl⟩
            have HPS := Lib.hid hx1
            have HPD := Lib.hid hx2
            have HAC : Hid (ac = decide (v = acceptL)) := by show _ = _; rw [← hac, beq_dec]; rfl
            clear hx1 hx2
            have HIK : Hid (∀ x ∈ [v, p, s, sp, d, dp], (32 : UInt8) ∉ x) := fun x hx => (hwl x hx).2
            have HLW : Hid (∀ x ∈ [v, p, s, sp, d, dp], x.length ≤ 4096) := fun x hx => (hwl x hx).1
            have HN2 := Lib.hid (fun W => refNet_list s q2 W)
            have HN4 := Lib.hid (fun W => refNet_list d q4 W)
            clear hwl hcw h6 hgl q2 q4
            have hl6 : ((([v, p, s, sp, d, dp] : List (List UInt8)).length : Nat) : Int) = 6 := rfl
            simp only [List.length_cons, List.length_nil] at d1 hcap1 hl6
            go_upto_region 13 with fail
            go_cut [11] (fun s11 wx => ∃ G : Nat, s11 = .pointer (some ⟨G, 0, none⟩) ∧ Hid (TenAt wO G (tR ac 0 0 0 0 0 x1 y1 x2 y2) wx))
            case first =>
              refine wp_region_held_drew (S := (fun w' => w'.cell? ⟨g, 0, none⟩ = some (.string ⟨v.toArray⟩) ∧ w'.cell? ⟨g, 3, none⟩ = some (.string ⟨sp.toArray⟩) ∧ w'.cell? ⟨g, 5, none⟩ = some (.string ⟨dp.toArray⟩) ∧ Hid (WX wO g v p s sp d dp w'))) (by kernel_rfl) (wx_of (HWX.out.next (Below.refl _ _).drew)) (fun hH => ?_)
              obtain ⟨wy, hwy⟩ := WX.hide hH.2.2.2.out
              rw [← hwy] at hH ⊢
              clear hwy
              refine wpAnyH_take (i := 0) (oi := ⟨some 50, _, _, _, _, _⟩) (v := ?v1) rfl (by kernel_rfl) (by kernel_rfl) (by kernel_rfl) (fun _ _ _ h => h) (Or.inl ⟨rfl, ?c1⟩) hH ?r1
              case c1 => (intro w' _; go_simp; (try with_reducible rfl))
              try simp only [Act.put, List.setIfInBounds_toArray, List.set_cons_zero, List.set_cons_succ]
              refine wpAnyH_take (i := 1) (oi := ⟨some 51, _, _, _, _, _⟩) (v := ?v2) rfl (by kernel_rfl) (by kernel_rfl) (by kernel_rfl) (fun _ _ _ h => h) (Or.inl ⟨rfl, ?c2⟩) hH ?r2
              case c2 => (intro w' _; go_simp; (try with_reducible rfl))
              try simp only [Act.put, List.setIfInBounds_toArray, List.set_cons_zero, List.set_cons_succ]
              refine wpAnyH_take (i := 2) (oi := ⟨some 52, _, _, _, _, _⟩) (v := ?v3) rfl (by kernel_rfl) (by kernel_rfl) (by kernel_rfl) (fun _ _ _ h => h) (Or.inl ⟨rfl, ?c3⟩) hH ?r3
              case c3 => (intro w' hS; (try dsimp only at hS); go_simp; (try with_reducible rfl))
              try simp only [Act.put, List.setIfInBounds_toArray, List.set_cons_zero, List.set_cons_succ]
              refine wpAnyH_take (i := 3) (oi := ⟨some 53, _, _, _, _, _⟩) (v := ?v4) rfl (by kernel_rfl) (by kernel_rfl) (by kernel_rfl) (fun _ _ _ h => h) (Or.inl ⟨rfl, ?c4⟩) hH ?r4
              case c4 => (intro w' _; go_simp; (try with_reducible rfl))
              try simp only [Act.put, List.setIfInBounds_toArray, List.set_cons_zero, List.set_cons_succ]
              refine wpAnyH_take (i := 4) (oi := ⟨some 54, _, _, _, _, _⟩) (v := ?v5) rfl (by kernel_rfl) (by kernel_rfl) (by kernel_rfl) (fun _ _ _ h => h) (Or.inl ⟨rfl, ?c5⟩) hH ?r5
              case c5 => (intro w' _; go_simp; (try with_reducible rfl))
              try simp only [Act.put, List.setIfInBounds_toArray, List.set_cons_zero, List.set_cons_succ]
              refine wpAnyH_take (i := 5) (oi := ⟨some 55, _, _, _, _, _⟩) (v := ?v6) rfl (by kernel_rfl) (by kernel_rfl) (by kernel_rfl) (fun _ _ _ h => h) (Or.inl ⟨rfl, ?c6⟩) hH ?r6
              case c6 => (intro w' _; go_simp; (try with_reducible rfl))
              try simp only [Act.put, List.setIfInBounds_toArray, List.set_cons_zero, List.set_cons_succ]
              refine wpAnyH_take (i := 6) (oi := ⟨some 56, _, _, _, _, _⟩) (v := ?v7) rfl (by kernel_rfl) (by kernel_rfl) (by kernel_rfl) (fun _ _ _ h => h) (Or.inl ⟨rfl, ?c7⟩) hH ?r7
              case c7 => (intro w' hS; (try dsimp only at hS); go_simp; (try with_reducible rfl))
              try simp only [Act.put, List.setIfInBounds_toArray, List.set_cons_zero, List.set_cons_succ]
              refine wpAnyH_take (i := 8) (oi := ⟨some 58, _, _, _, _, _⟩) (v := ?v8) rfl (by kernel_rfl) (by kernel_rfl) (by kernel_rfl) (fun _ _ _ h => h) (Or.inl ⟨rfl, ?c8⟩) hH ?r8
              case c8 => (intro w' _; go_simp; (try with_reducible rfl))
              try simp only [Act.put, List.setIfInBounds_toArray, List.set_cons_zero, List.set_cons_succ]
              refine wpAnyH_take (i := 9) (oi := ⟨some 59, _, _, _, _, _⟩) (v := ?v9) rfl (by kernel_rfl) (by kernel_rfl) (by kernel_rfl) (fun _ _ _ h => h) (Or.inl ⟨rfl, ?c9⟩) hH ?r9
              case c9 => (intro w' _; go_simp; (try with_reducible rfl))
              try simp only [Act.put, List.setIfInBounds_toArray, List.set_cons_zero, List.set_cons_succ]
              refine wpAnyH_take (i := 10) (oi := ⟨some 60, _, _, _, _, _⟩) (v := ?v10) rfl (by kernel_rfl) (by kernel_rfl) (by kernel_rfl) (fun _ _ _ h => h) (Or.inl ⟨rfl, ?c10⟩) hH ?r10
              case c10 => (intro w' hS; (try dsimp only at hS); go_simp; (try with_reducible rfl))
              try simp only [Act.put, List.setIfInBounds_toArray, List.set_cons_zero, List.set_cons_succ]
              refine wpAnyH_ready (rs := [7, 13]) (by kernel_rfl) (by simp) (AllReadyH.cons rfl (fun K hK => ?_) (AllReadyH.cons rfl (fun K hK => ?_) (AllReadyH.nil)))
              · go_simp
                go_at_call 16
                refine (HP1.out _).mono ?_
                rintro e wc10 ⟨rfl, hbp⟩
                refine hK.out _ _ (wx_of (hH.2.2.2.out.next hbp)) (fun hH => ?_)
                clear hK K
                clear hbp
                try simp only [Act.put, List.setIfInBounds_toArray, List.set_cons_zero, List.set_cons_succ]
                refine wpAnyH_ready (rs := [11, 13]) (by kernel_rfl) (by simp) (AllReadyH.cons rfl (fun K hK => ?_) (AllReadyH.cons rfl (fun K hK => ?_) (AllReadyH.nil)))
                · go_simp
                  go_at_call 16
                  refine (HP2.out _).mono ?_
                  rintro e wc11 ⟨rfl, hbp⟩
                  refine hK.out _ _ (wx_of (hH.2.2.2.out.next hbp)) (fun hH => ?_)
                  clear hK K
                  clear hbp
                  try simp only [Act.put, List.setIfInBounds_toArray, List.set_cons_zero, List.set_cons_succ]
                  refine wpAnyH_take (i := 12) (oi := ⟨some 62, _, _, _, _, _⟩) (v := ?v11) rfl (by kernel_rfl) (by kernel_rfl) (by kernel_rfl) (fun _ _ _ h => h) (Or.inl ⟨rfl, ?c11⟩) hH ?r11
                  case c11 => (intro w' _; go_simp; (try with_reducible rfl))
                  try simp only [Act.put, List.setIfInBounds_toArray, List.set_cons_zero, List.set_cons_succ]
                  refine wpAnyH_ready (rs := [13]) (by kernel_rfl) (by simp) (AllReadyH.cons rfl (fun K hK => ?_) (AllReadyH.nil))
                  have hHB := Lib.hid hH.2.2.2.out.bel
                  go_simp
                  refine hK.out _ _ (wx_of (hH.2.2.2.out.next (below_box _ _))) (fun hH => ?_)
                  clear hK K
                  have P := Lib.hid (TenAt.atBox zR hHB.out)
                  clear hHB
                  try simp only [Act.put, List.setIfInBounds_toArray, List.set_cons_zero, List.set_cons_succ]
                  refine wpAnyH_ready (rs := [14]) (by kernel_rfl) (by simp) (AllReadyH.cons rfl (fun K hK => ?_) (AllReadyH.nil))
                  obtain ⟨wz, hwz⟩ := WX.hide hH.2.2.2.out
                  try simp only [World.size_alloc] at P
                  rw [← hwz] at hH P ⊢
                  clear hwz
                  have d0 := P.out.blk.cell 0 _ rfl
                  have f0 := P.out.blk.frozen 0
                  have d1 := P.out.blk.cell 1 _ rfl
                  have f1 := P.out.blk.frozen 1
                  have d2 := P.out.blk.cell 2 _ rfl
                  have f2 := P.out.blk.frozen 2
                  have d3 := P.out.blk.cell 3 _ rfl
                  have f3 := P.out.blk.frozen 3
                  have d4 := P.out.blk.cell 4 _ rfl
                  have f4 := P.out.blk.frozen 4
                  have d5 := P.out.blk.cell 5 _ rfl
                  have f5 := P.out.blk.frozen 5
                  have d6 := P.out.blk.cell 6 _ rfl
                  have f6 := P.out.blk.frozen 6
                  have d7 := P.out.blk.cell 7 _ rfl
                  have f7 := P.out.blk.frozen 7
                  have d8 := P.out.blk.cell 8 _ rfl
                  have f8 := P.out.blk.frozen 8
                  have d9 := P.out.blk.cell 9 _ rfl
                  have f9 := P.out.blk.frozen 9
                  go_simp
                  have HQ := Lib.hid (P.out.put (.bool ac) (.int .u8 0) (.int .u32 0) (.int .i64 0) (.int .u32 0) (.int .i64 0) (.int .u16 (x1 : Int)) (.int .u16 (y1 : Int)) (.int .u16 (x2 : Int)) (.int .u16 (y2 : Int)))
                  refine hK.out _ _ (wx_of ⟨HQ.out.bel, WXs.out _ HQ.out.bel⟩) (fun hH => ?_)
                  clear hK K
                  clear d0 f0 d1 f1 d2 f2 d3 f3 d4 f4 d5 f5 d6 f6 d7 f7 d8 f8 d9 f9
                  try simp only [Act.put, List.setIfInBounds_toArray, List.set_cons_zero, List.set_cons_succ]
                  refine wpAnyH_done (by kernel_rfl) ?_ _
                  go_wp2_with fail
                  go_meet
                  exact ⟨_, rfl, HQ⟩
                · have hHB := Lib.hid hH.2.2.2.out.bel
                  go_simp
                  refine hK.out _ _ (wx_of (hH.2.2.2.out.next (below_box _ _))) (fun hH => ?_)
                  clear hK K
                  have P := Lib.hid (TenAt.atBox zR hHB.out)
                  clear hHB
                  try simp only [Act.put, List.setIfInBounds_toArray, List.set_cons_zero, List.set_cons_succ]
                  refine wpAnyH_ready (rs := [11]) (by kernel_rfl) (by simp) (AllReadyH.cons rfl (fun K hK => ?_) (AllReadyH.nil))
                  go_simp
                  go_at_call 16
                  refine (HP2.out _).mono ?_
                  rintro e wc12 ⟨rfl, hbp⟩
                  refine hK.out _ _ (wx_of (hH.2.2.2.out.next hbp)) (fun hH => ?_)
                  clear hK K
                  replace P := Lib.hid (P.out.next hbp)
                  clear hbp
                  try simp only [Act.put, List.setIfInBounds_toArray, List.set_cons_zero, List.set_cons_succ]
                  refine wpAnyH_take (i := 12) (oi := ⟨some 62, _, _, _, _, _⟩) (v := ?v12) rfl (by kernel_rfl) (by kernel_rfl) (by kernel_rfl) (fun _ _ _ h => h) (Or.inl ⟨rfl, ?c12⟩) hH ?r12
                  case c12 => (intro w' _; go_simp; (try with_reducible rfl))
                  try simp only [Act.put, List.setIfInBounds_toArray, List.set_cons_zero, List.set_cons_succ]
                  refine wpAnyH_ready (rs := [14]) (by kernel_rfl) (by simp) (AllReadyH.cons rfl (fun K hK => ?_) (AllReadyH.nil))
                  obtain ⟨wz, hwz⟩ := WX.hide hH.2.2.2.out
                  try simp only [World.size_alloc] at P
                  rw [← hwz] at hH P ⊢
                  clear hwz
                  have d0 := P.out.blk.cell 0 _ rfl
                  have f0 := P.out.blk.frozen 0
                  have d1 := P.out.blk.cell 1 _ rfl
                  have f1 := P.out.blk.frozen 1
                  have d2 := P.out.blk.cell 2 _ rfl
                  have f2 := P.out.blk.frozen 2
                  have d3 := P.out.blk.cell 3 _ rfl
                  have f3 := P.out.blk.frozen 3
                  have d4 := P.out.blk.cell 4 _ rfl
                  have f4 := P.out.blk.frozen 4
                  have d5 := P.out.blk.cell 5 _ rfl
                  have f5 := P.out.blk.frozen 5
                  have d6 := P.out.blk.cell 6 _ rfl
                  have f6 := P.out.blk.frozen 6
                  have d7 := P.out.blk.cell 7 _ rfl
                  have f7 := P.out.blk.frozen 7
                  have d8 := P.out.blk.cell 8 _ rfl
                  have f8 := P.out.blk.frozen 8
                  have d9 := P.out.blk.cell 9 _ rfl
                  have f9 := P.out.blk.frozen 9
                  go_simp
                  have HQ := Lib.hid (P.out.put (.bool ac) (.int .u8 0) (.int .u32 0) (.int .i64 0) (.int .u32 0) (.int .i64 0) (.int .u16 (x1 : Int)) (.int .u16 (y1 : Int)) (.int .u16 (x2 : Int)) (.int .u16 (y2 : Int)))
                  refine hK.out _ _ (wx_of ⟨HQ.out.bel, WXs.out _ HQ.out.bel⟩) (fun hH => ?_)
                  clear hK K
                  clear d0 f0 d1 f1 d2 f2 d3 f3 d4 f4 d5 f5 d6 f6 d7 f7 d8 f8 d9 f9
                  try simp only [Act.put, List.setIfInBounds_toArray, List.set_cons_zero, List.set_cons_succ]
                  refine wpAnyH_done (by kernel_rfl) ?_ _
                  go_wp2_with fail
                  go_meet
                  exact ⟨_, rfl, HQ⟩
              · have hHB := Lib.hid hH.2.2.2.out.bel
                go_simp
                refine hK.out _ _ (wx_of (hH.2.2.2.out.next (below_box _ _))) (fun hH => ?_)
                clear hK K
                have P := Lib.hid (TenAt.atBox zR hHB.out)
                clear hHB
                try simp only [Act.put, List.setIfInBounds_toArray, List.set_cons_zero, List.set_cons_succ]
                refine wpAnyH_ready (rs := [7]) (by kernel_rfl) (by simp) (AllReadyH.cons rfl (fun K hK => ?_) (AllReadyH.nil))
                go_simp
                go_at_call 16
                refine (HP1.out _).mono ?_
                rintro e wc11 ⟨rfl, hbp⟩
                refine hK.out _ _ (wx_of (hH.2.2.2.out.next hbp)) (fun hH => ?_)
                clear hK K
                replace P := Lib.hid (P.out.next hbp)
                clear hbp
                try simp only [Act.put, List.setIfInBounds_toArray, List.set_cons_zero, List.set_cons_succ]
                refine wpAnyH_ready (rs := [11]) (by kernel_rfl) (by simp) (AllReadyH.cons rfl (fun K hK => ?_) (AllReadyH.nil))
                go_simp
                go_at_call 16
                refine (HP2.out _).mono ?_
                rintro e wc12 ⟨rfl, hbp⟩
                refine hK.out _ _ (wx_of (hH.2.2.2.out.next hbp)) (fun hH => ?_)
                clear hK K
                replace P := Lib.hid (P.out.next hbp)
                clear hbp
                try simp only [Act.put, List.setIfInBounds_toArray, List.set_cons_zero, List.set_cons_succ]
                refine wpAnyH_take (i := 12) (oi := ⟨some 62, _, _, _, _, _⟩) (v := ?v13) rfl (by kernel_rfl) (by kernel_rfl) (by kernel_rfl) (fun _ _ _ h => h) (Or.inl ⟨rfl, ?c13⟩) hH ?r13
                case c13 => (intro w' _; go_simp; (try with_reducible rfl))
                try simp only [Act.put, List.setIfInBounds_toArray, List.set_cons_zero, List.set_cons_succ]
                refine wpAnyH_ready (rs := [14]) (by kernel_rfl) (by simp) (AllReadyH.cons rfl (fun K hK => ?_) (AllReadyH.nil))
                obtain ⟨wz, hwz⟩ := WX.hide hH.2.2.2.out
                try simp only [World.size_alloc] at P
                rw [← hwz] at hH P ⊢
                clear hwz
                have d0 := P.out.blk.cell 0 _ rfl
                have f0 := P.out.blk.frozen 0
                have d1 := P.out.blk.cell 1 _ rfl
                have f1 := P.out.blk.frozen 1
                have d2 := P.out.blk.cell 2 _ rfl
                have f2 := P.out.blk.frozen 2
                have d3 := P.out.blk.cell 3 _ rfl
                have f3 := P.out.blk.frozen 3
                have d4 := P.out.blk.cell 4 _ rfl
                have f4 := P.out.blk.frozen 4
                have d5 := P.out.blk.cell 5 _ rfl
                have f5 := P.out.blk.frozen 5
                have d6 := P.out.blk.cell 6 _ rfl
                have f6 := P.out.blk.frozen 6
                have d7 := P.out.blk.cell 7 _ rfl
                have f7 := P.out.blk.frozen 7
                have d8 := P.out.blk.cell 8 _ rfl
                have f8 := P.out.blk.frozen 8
                have d9 := P.out.blk.cell 9 _ rfl
                have f9 := P.out.blk.frozen 9
                go_simp
                have HQ := Lib.hid (P.out.put (.bool ac) (.int .u8 0) (.int .u32 0) (.int .i64 0) (.int .u32 0) (.int .i64 0) (.int .u16 (x1 : Int)) (.int .u16 (y1 : Int)) (.int .u16 (x2 : Int)) (.int .u16 (y2 : Int)))
                refine hK.out _ _ (wx_of ⟨HQ.out.bel, WXs.out _ HQ.out.bel⟩) (fun hH => ?_)
                clear hK K
                clear d0 f0 d1 f1 d2 f2 d3 f3 d4 f4 d5 f5 d6 f6 d7 f7 d8 f8 d9 f9
                try simp only [Act.put, List.setIfInBounds_toArray, List.set_cons_zero, List.set_cons_succ]
                refine wpAnyH_done (by kernel_rfl) ?_ _
                go_wp2_with fail
                go_meet
                exact ⟨_, rfl, HQ⟩
            case rest =>
              obtain ⟨G, rfl, HT⟩ := hcut
              clear d1 HWX HP1 HP2 hac
              go_wp2_with fail
              go_loopw [12] (fun i wq => ∃ j : Nat, j ≤ 18 ∧ i = .int .i64 (j : Int) ∧ Hid (TenAt wO G (tR ac ((protoU p j : Nat) : Int) 0 0 0 0 x1 y1 x2 y2) wq)) (fun i _ => 18 - (RowKit.intOf i).toNat)
              case atStart => exact ⟨0, by omega, rfl, HT⟩
              case round =>
                obtain ⟨j, hj, rfl, hT⟩ := hrel
                by_cases hj18 : j < 18
                · have hwj : IntKind.u8.wrap (j : Int) = (j : Int) := IntWalk.u8_in _ (by omega)
                  have e1 := (WXs.out _ hT.out.bel).c1
                  by_cases hw : wordS j = p
                  · have HPU : Hid (protoU p (j + 1) = j) := by show _ = _; unfold RulM.protoU; rw [if_pos hw]
                    have hq : (wordS j == p) = true := by rw [beq_iff_eq]; exact hw
                    have HWJ := Lib.hid (fun W => word_any j (j : Int) rfl W)
                    clear hw
                    generalize wordS j = wj at *
                    have t1 := hT.out.blk.cell 1 _ rfl
                    have f1 := hT.out.blk.frozen 1
                    go_wp2_with fail
                    go_quiet ((go_at_call 17; exact Calls.quiet_of_same (HWJ.out _)))
                    go_wp2_with fail
                    go_roundw
                    case rel => exact ⟨j + 1, by omega, by go_num, by rw [HPU.out]; exact (hT.out.drewN _).set1 (j : Int)⟩
                    case measure => simp [RowKit.intOf]; omega
                  · have HPU : Hid (protoU p (j + 1) = protoU p j) := by show _ = _; rw [RulM.protoU, if_neg hw]
                    have hq : (wordS j == p) = false := by rw [beq_eq_false_iff_ne]; exact hw
                    have HWJ := Lib.hid (fun W => word_any j (j : Int) rfl W)
                    clear hw
                    generalize wordS j = wj at *
                    go_wp2_with fail
                    go_quiet ((go_at_call 17; exact Calls.quiet_of_same (HWJ.out _)))
                    go_wp2_with fail
                    go_roundw
                    case rel => exact ⟨j + 1, by omega, by go_num, by rw [HPU.out]; exact hT.out.drewN _⟩
                    case measure => simp [RowKit.intOf]; omega
                · obtain rfl : j = 18 := by omega
                  obtain ⟨pd, hpd⟩ : ∃ z, protoU p 18 = z := ⟨_, rfl⟩
                  rw [hpd] at hT
                  obtain ⟨⟨a1, n1⟩, hA1⟩ : ∃ z, (netS s).getD (0, 0) = z := ⟨_, rfl⟩
                  obtain ⟨⟨a2, n2⟩, hA2⟩ : ∃ z, (netS d).getD (0, 0) = z := ⟨_, rfl⟩
                  obtain ⟨er1, he1⟩ := netV_getD (netS s)
                  obtain ⟨er2, he2⟩ := netV_getD (netS d)
                  rw [he1, hA1] at HN2
                  rw [he2, hA2] at HN4
                  have HSEEN : Hid (seenR v p s sp d dp = ⟨ac, pd, a1, (n1 : Int), a2, (n2 : Int), x1, y1, x2, y2⟩) := by
                    show _ = _
                    unfold RulM.seenR RulM.protoD
                    rw [hpd, hA1, hA2, HPS.out, HPD.out, ← HAC.out]
                  have hok := RulM.seen_ok v p s sp d dp
                  rw [HSEEN.out] at hok
                  have HOK := Lib.hid hok
                  clear hpd hA1 hA2 he1 he2 hok
                  have e2 := (WXs.out _ hT.out.bel).c2
                  go_wp2_with fail
                  go_at_call 18
                  refine (HN2.out _).mono ?_
                  rintro e w3 ⟨rfl, hb3⟩
                  have HT3 := Lib.hid (hT.out.next hb3)
                  clear hb3 e2
                  have e2 := HT3.out.blk.cell 2 _ rfl
                  have e3 := HT3.out.blk.cell 3 _ rfl
                  have f2 := HT3.out.blk.frozen 2
                  have f3 := HT3.out.blk.frozen 3
                  have HT4 := Lib.hid (HT3.out.set23 (a1 : Int) (n1 : Int))
                  have e4 := (WXs.out _ HT4.out.bel).c4
                  go_wp2_with fail
                  go_at_call 18
                  refine (HN4.out _).mono ?_
                  rintro e w5 ⟨rfl, hb5⟩
                  have HT5 := Lib.hid (HT4.out.next hb5)
                  clear hb5 e2 e3 e4 f2 f3
                  have e4 := HT5.out.blk.cell 4 _ rfl
                  have e5 := HT5.out.blk.cell 5 _ rfl
                  have f4 := HT5.out.blk.frozen 4
                  have f5 := HT5.out.blk.frozen 5
                  have HT6 := Lib.hid (HT5.out.set45 (a2 : Int) (n2 : Int))
                  have SQ : ∀ W, TenAt wO G (tR ac (pd : Int) (a1 : Int) (n1 : Int) (a2 : Int) (n2 : Int) (x1 : Int) (y1 : Int) (x2 : Int) (y2 : Int)) W → (W.cell? ⟨G, 0, none⟩ = some (.bool ac) ∧ W.cell? ⟨G, 1, none⟩ = some (.int .u8 (pd : Int)) ∧ W.cell? ⟨G, 2, none⟩ = some (.int .u32 (a1 : Int)) ∧ W.cell? ⟨G, 3, none⟩ = some (.int .i64 (n1 : Int)) ∧ W.cell? ⟨G, 4, none⟩ = some (.int .u32 (a2 : Int)) ∧ W.cell? ⟨G, 5, none⟩ = some (.int .i64 (n2 : Int)) ∧ W.cell? ⟨G, 6, none⟩ = some (.int .u16 (x1 : Int)) ∧ W.cell? ⟨G, 7, none⟩ = some (.int .u16 (y1 : Int)) ∧ W.cell? ⟨G, 8, none⟩ = some (.int .u16 (x2 : Int)) ∧ W.cell? ⟨G, 9, none⟩ = some (.int .u16 (y2 : Int)) ∧ W.cell? ⟨g, 0, none⟩ = some (.string ⟨v.toArray⟩) ∧ W.cell? ⟨g, 1, none⟩ = some (.string ⟨p.toArray⟩) ∧ W.cell? ⟨g, 2, none⟩ = some (.string ⟨s.toArray⟩) ∧ W.cell? ⟨g, 3, none⟩ = some (.string ⟨sp.toArray⟩) ∧ W.cell? ⟨g, 4, none⟩ = some (.string ⟨d.toArray⟩) ∧ W.cell? ⟨g, 5, none⟩ = some (.string ⟨dp.toArray⟩) ∧ Hid (TenAt wO G (tR ac (pd : Int) (a1 : Int) (n1 : Int) (a2 : Int) (n2 : Int) (x1 : Int) (y1 : Int) (x2 : Int) (y2 : Int)) W)) := fun W h =>
                    ⟨h.blk.cell 0 _ rfl, h.blk.cell 1 _ rfl, h.blk.cell 2 _ rfl, h.blk.cell 3 _ rfl, h.blk.cell 4 _ rfl, h.blk.cell 5 _ rfl, h.blk.cell 6 _ rfl, h.blk.cell 7 _ rfl, h.blk.cell 8 _ rfl, h.blk.cell 9 _ rfl,
                      (WXs.out W h.bel).c0, (WXs.out W h.bel).c1, (WXs.out W h.bel).c2, (WXs.out W h.bel).c3, (WXs.out W h.bel).c4, (WXs.out W h.bel).c5, h⟩
                  have HSQ := Lib.hid SQ
                  clear SQ
                  have HG : Hid (∀ W, Calls Tryz.prog 12 #[.agg #[.bool ac, .int .u8 (pd : Int), .int .u32 (a1 : Int), .int .i64 (n1 : Int), .int .u32 (a2 : Int), .int .i64 (n2 : Int), .int .u16 (x1 : Int), .int .u16 (y1 : Int), .int .u16 (x2 : Int), .int .u16 (y2 : Int)]] W fun e w' => e = .returned (.bool (goodR ⟨ac, pd, a1, (n1 : Int), a2, (n2 : Int), x1, y1, x2, y2⟩)) ∧ Below W.heap.size W w') := fun W => refGood_any ⟨ac, pd, a1, (n1 : Int), a2, (n2 : Int), x1, y1, x2, y2⟩ HOK.out W
                  cases hgd : goodR ⟨ac, pd, a1, (n1 : Int), a2, (n2 : Int), x1, y1, x2, y2⟩ with
                  | false =>
                    rw [hgd] at HG
                    have HM : Hid (compile l = ([], m, 3)) := HC.out.trans (hcomp.out.trans (RulM.comp_bad HKL.out (by rw [HACC.out]; exact hk2) (RulM.seen_no (.inl (by rw [HSEEN.out]; exact hgd)))))
                    clear hgd
                    go_wp2_with fail
                    clear e4 e5 f4 f5
                    refine wp_region_held_drew (S := (fun w' => w'.cell? ⟨G, 0, none⟩ = some (.bool ac) ∧ w'.cell? ⟨G, 1, none⟩ = some (.int .u8 (pd : Int)) ∧ w'.cell? ⟨G, 2, none⟩ = some (.int .u32 (a1 : Int)) ∧ w'.cell? ⟨G, 3, none⟩ = some (.int .i64 (n1 : Int)) ∧ w'.cell? ⟨G, 4, none⟩ = some (.int .u32 (a2 : Int)) ∧ w'.cell? ⟨G, 5, none⟩ = some (.int .i64 (n2 : Int)) ∧ w'.cell? ⟨G, 6, none⟩ = some (.int .u16 (x1 : Int)) ∧ w'.cell? ⟨G, 7, none⟩ = some (.int .u16 (y1 : Int)) ∧ w'.cell? ⟨G, 8, none⟩ = some (.int .u16 (x2 : Int)) ∧ w'.cell? ⟨G, 9, none⟩ = some (.int .u16 (y2 : Int)) ∧ w'.cell? ⟨g, 0, none⟩ = some (.string ⟨v.toArray⟩) ∧ w'.cell? ⟨g, 1, none⟩ = some (.string ⟨p.toArray⟩) ∧ w'.cell? ⟨g, 2, none⟩ = some (.string ⟨s.toArray⟩) ∧ w'.cell? ⟨g, 3, none⟩ = some (.string ⟨sp.toArray⟩) ∧ w'.cell? ⟨g, 4, none⟩ = some (.string ⟨d.toArray⟩) ∧ w'.cell? ⟨g, 5, none⟩ = some (.string ⟨dp.toArray⟩) ∧ Hid (TenAt wO G (tR ac (pd : Int) (a1 : Int) (n1 : Int) (a2 : Int) (n2 : Int) (x1 : Int) (y1 : Int) (x2 : Int) (y2 : Int)) w'))) (by kernel_rfl) (HSQ.out _ HT6.out.drew) (fun hH => ?_)
                    refine wpAnyH_take (i := 0) (oi := ⟨some 93, _, _, _, _, _⟩) (v := ?v201) rfl (by kernel_rfl) (by kernel_rfl) (by kernel_rfl) (fun _ _ _ h => h) (Or.inl ⟨rfl, ?c201⟩) hH ?r201
                    case c201 => (intro w' hS; (try dsimp only at hS); go_simp; (try with_reducible rfl))
                    try simp only [Act.put, List.setIfInBounds_toArray, List.set_cons_zero, List.set_cons_succ]
                    refine wpAnyH_ready (rs := [1]) (by kernel_rfl) (by simp) (AllReadyH.cons rfl (fun K hK => ?_) (AllReadyH.nil))
                    go_simp
                    go_at_call 12
                    refine (HG.out _).mono ?_
                    rintro e w6 ⟨rfl, hb6⟩
                    refine hK.out _ _ (HSQ.out _ (hH.2.2.2.2.2.2.2.2.2.2.2.2.2.2.2.2.out.next hb6)) (fun hH => ?_)
                    clear hK K
                    clear hb6
                    try simp only [Act.put, List.setIfInBounds_toArray, List.set_cons_zero, List.set_cons_succ]
                    refine wpAnyH_take (i := 2) (oi := ⟨some 95, _, _, _, _, _⟩) (v := ?v202) rfl (by kernel_rfl) (by kernel_rfl) (by kernel_rfl) (fun _ _ _ h => h) (Or.inl ⟨rfl, ?c202⟩) hH ?r202
                    case c202 => (intro w' _; go_simp; (try with_reducible rfl))
                    try simp only [Act.put, List.setIfInBounds_toArray, List.set_cons_zero, List.set_cons_succ]
                    refine wpAnyH_take (i := 3) (oi := ⟨some 96, _, _, _, _, _⟩) (v := ?v203) rfl (by kernel_rfl) (by kernel_rfl) (by kernel_rfl) (fun _ _ _ h => h) (Or.inl ⟨rfl, ?c203⟩) hH ?r203
                    case c203 => (intro w' _; go_simp; (try with_reducible rfl))
                    try simp only [Act.put, List.setIfInBounds_toArray, List.set_cons_zero, List.set_cons_succ]
                    refine wpAnyH_take (i := 4) (oi := ⟨some 97, _, _, _, _, _⟩) (v := undef) rfl (by kernel_rfl) (by kernel_rfl) (by kernel_rfl) (fun _ _ _ h => h) (Or.inr ⟨rfl, rfl⟩) hH ?_
                    try simp only [Act.put, List.setIfInBounds_toArray, List.set_cons_zero, List.set_cons_succ]
                    refine wpAnyH_take (i := 5) (oi := ⟨some 98, _, _, _, _, _⟩) (v := undef) rfl (by kernel_rfl) (by kernel_rfl) (by kernel_rfl) (fun _ _ _ h => h) (Or.inr ⟨rfl, rfl⟩) hH ?_
                    try simp only [Act.put, List.setIfInBounds_toArray, List.set_cons_zero, List.set_cons_succ]
                    refine wpAnyH_take (i := 6) (oi := ⟨some 99, _, _, _, _, _⟩) (v := undef) rfl (by kernel_rfl) (by kernel_rfl) (by kernel_rfl) (fun _ _ _ h => h) (Or.inr ⟨rfl, rfl⟩) hH ?_
                    try simp only [Act.put, List.setIfInBounds_toArray, List.set_cons_zero, List.set_cons_succ]
                    refine wpAnyH_take (i := 7) (oi := ⟨some 100, _, _, _, _, _⟩) (v := undef) rfl (by kernel_rfl) (by kernel_rfl) (by kernel_rfl) (fun _ _ _ h => h) (Or.inr ⟨rfl, rfl⟩) hH ?_
                    try simp only [Act.put, List.setIfInBounds_toArray, List.set_cons_zero, List.set_cons_succ]
                    refine wpAnyH_take (i := 8) (oi := ⟨some 101, _, _, _, _, _⟩) (v := undef) rfl (by kernel_rfl) (by kernel_rfl) (by kernel_rfl) (fun _ _ _ h => h) (Or.inr ⟨rfl, rfl⟩) hH ?_
                    try simp only [Act.put, List.setIfInBounds_toArray, List.set_cons_zero, List.set_cons_succ]
                    refine wpAnyH_take (i := 9) (oi := ⟨some 102, _, _, _, _, _⟩) (v := undef) rfl (by kernel_rfl) (by kernel_rfl) (by kernel_rfl) (fun _ _ _ h => h) (Or.inr ⟨rfl, rfl⟩) hH ?_
                    try simp only [Act.put, List.setIfInBounds_toArray, List.set_cons_zero, List.set_cons_succ]
                    refine wpAnyH_take (i := 10) (oi := ⟨some 103, _, _, _, _, _⟩) (v := undef) rfl (by kernel_rfl) (by kernel_rfl) (by kernel_rfl) (fun _ _ _ h => h) (Or.inr ⟨rfl, rfl⟩) hH ?_
                    try simp only [Act.put, List.setIfInBounds_toArray, List.set_cons_zero, List.set_cons_succ]
                    refine wpAnyH_take (i := 11) (oi := ⟨some 104, _, _, _, _, _⟩) (v := undef) rfl (by kernel_rfl) (by kernel_rfl) (by kernel_rfl) (fun _ _ _ h => h) (Or.inr ⟨rfl, rfl⟩) hH ?_
                    try simp only [Act.put, List.setIfInBounds_toArray, List.set_cons_zero, List.set_cons_succ]
                    refine wpAnyH_take (i := 12) (oi := ⟨some 105, _, _, _, _, _⟩) (v := undef) rfl (by kernel_rfl) (by kernel_rfl) (by kernel_rfl) (fun _ _ _ h => h) (Or.inr ⟨rfl, rfl⟩) hH ?_
                    try simp only [Act.put, List.setIfInBounds_toArray, List.set_cons_zero, List.set_cons_succ]
                    refine wpAnyH_take (i := 13) (oi := ⟨some 106, _, _, _, _, _⟩) (v := undef) rfl (by kernel_rfl) (by kernel_rfl) (by kernel_rfl) (fun _ _ _ h => h) (Or.inr ⟨rfl, rfl⟩) hH ?_
                    try simp only [Act.put, List.setIfInBounds_toArray, List.set_cons_zero, List.set_cons_succ]
                    refine wpAnyH_take (i := 14) (oi := ⟨some 107, _, _, _, _, _⟩) (v := undef) rfl (by kernel_rfl) (by kernel_rfl) (by kernel_rfl) (fun _ _ _ h => h) (Or.inr ⟨rfl, rfl⟩) hH ?_
                    try simp only [Act.put, List.setIfInBounds_toArray, List.set_cons_zero, List.set_cons_succ]
                    refine wpAnyH_take (i := 15) (oi := ⟨some 108, _, _, _, _, _⟩) (v := undef) rfl (by kernel_rfl) (by kernel_rfl) (by kernel_rfl) (fun _ _ _ h => h) (Or.inr ⟨rfl, rfl⟩) hH ?_
                    try simp only [Act.put, List.setIfInBounds_toArray, List.set_cons_zero, List.set_cons_succ]
                    refine wpAnyH_take (i := 16) (oi := ⟨some 109, _, _, _, _, _⟩) (v := undef) rfl (by kernel_rfl) (by kernel_rfl) (by kernel_rfl) (fun _ _ _ h => h) (Or.inr ⟨rfl, rfl⟩) hH ?_
                    try simp only [Act.put, List.setIfInBounds_toArray, List.set_cons_zero, List.set_cons_succ]
                    refine wpAnyH_take (i := 17) (oi := ⟨some 110, _, _, _, _, _⟩) (v := undef) rfl (by kernel_rfl) (by kernel_rfl) (by kernel_rfl) (fun _ _ _ h => h) (Or.inr ⟨rfl, rfl⟩) hH ?_
                    try simp only [Act.put, List.setIfInBounds_toArray, List.set_cons_zero, List.set_cons_succ]
                    refine wpAnyH_take (i := 18) (oi := ⟨some 111, _, _, _, _, _⟩) (v := undef) rfl (by kernel_rfl) (by kernel_rfl) (by kernel_rfl) (fun _ _ _ h => h) (Or.inr ⟨rfl, rfl⟩) hH ?_
                    try simp only [Act.put, List.setIfInBounds_toArray, List.set_cons_zero, List.set_cons_succ]
                    refine wpAnyH_take (i := 19) (oi := ⟨some 112, _, _, _, _, _⟩) (v := undef) rfl (by kernel_rfl) (by kernel_rfl) (by kernel_rfl) (fun _ _ _ h => h) (Or.inr ⟨rfl, rfl⟩) hH ?_
                    try simp only [Act.put, List.setIfInBounds_toArray, List.set_cons_zero, List.set_cons_succ]
                    refine wpAnyH_take (i := 20) (oi := ⟨some 113, _, _, _, _, _⟩) (v := undef) rfl (by kernel_rfl) (by kernel_rfl) (by kernel_rfl) (fun _ _ _ h => h) (Or.inr ⟨rfl, rfl⟩) hH ?_
                    try simp only [Act.put, List.setIfInBounds_toArray, List.set_cons_zero, List.set_cons_succ]
                    refine wpAnyH_take (i := 21) (oi := ⟨some 114, _, _, _, _, _⟩) (v := undef) rfl (by kernel_rfl) (by kernel_rfl) (by kernel_rfl) (fun _ _ _ h => h) (Or.inr ⟨rfl, rfl⟩) hH ?_
                    try simp only [Act.put, List.setIfInBounds_toArray, List.set_cons_zero, List.set_cons_succ]
                    refine wpAnyH_take (i := 22) (oi := ⟨some 115, _, _, _, _, _⟩) (v := undef) rfl (by kernel_rfl) (by kernel_rfl) (by kernel_rfl) (fun _ _ _ h => h) (Or.inr ⟨rfl, rfl⟩) hH ?_
                    try simp only [Act.put, List.setIfInBounds_toArray, List.set_cons_zero, List.set_cons_succ]
                    refine wpAnyH_take (i := 23) (oi := ⟨some 116, _, _, _, _, _⟩) (v := undef) rfl (by kernel_rfl) (by kernel_rfl) (by kernel_rfl) (fun _ _ _ h => h) (Or.inr ⟨rfl, rfl⟩) hH ?_
                    try simp only [Act.put, List.setIfInBounds_toArray, List.set_cons_zero, List.set_cons_succ]
                    refine wpAnyH_take (i := 24) (oi := ⟨some 117, _, _, _, _, _⟩) (v := undef) rfl (by kernel_rfl) (by kernel_rfl) (by kernel_rfl) (fun _ _ _ h => h) (Or.inr ⟨rfl, rfl⟩) hH ?_
                    try simp only [Act.put, List.setIfInBounds_toArray, List.set_cons_zero, List.set_cons_succ]
                    refine wpAnyH_take (i := 25) (oi := ⟨some 118, _, _, _, _, _⟩) (v := undef) rfl (by kernel_rfl) (by kernel_rfl) (by kernel_rfl) (fun _ _ _ h => h) (Or.inr ⟨rfl, rfl⟩) hH ?_
                    try simp only [Act.put, List.setIfInBounds_toArray, List.set_cons_zero, List.set_cons_succ]
                    refine wpAnyH_take (i := 26) (oi := ⟨some 119, _, _, _, _, _⟩) (v := undef) rfl (by kernel_rfl) (by kernel_rfl) (by kernel_rfl) (fun _ _ _ h => h) (Or.inr ⟨rfl, rfl⟩) hH ?_
                    try simp only [Act.put, List.setIfInBounds_toArray, List.set_cons_zero, List.set_cons_succ]
                    refine wpAnyH_take (i := 27) (oi := ⟨some 120, _, _, _, _, _⟩) (v := undef) rfl (by kernel_rfl) (by kernel_rfl) (by kernel_rfl) (fun _ _ _ h => h) (Or.inr ⟨rfl, rfl⟩) hH ?_
                    try simp only [Act.put, List.setIfInBounds_toArray, List.set_cons_zero, List.set_cons_succ]
                    refine wpAnyH_take (i := 28) (oi := ⟨some 121, _, _, _, _, _⟩) (v := undef) rfl (by kernel_rfl) (by kernel_rfl) (by kernel_rfl) (fun _ _ _ h => h) (Or.inr ⟨rfl, rfl⟩) hH ?_
                    try simp only [Act.put, List.setIfInBounds_toArray, List.set_cons_zero, List.set_cons_succ]
                    refine wpAnyH_take (i := 29) (oi := ⟨some 122, _, _, _, _, _⟩) (v := undef) rfl (by kernel_rfl) (by kernel_rfl) (by kernel_rfl) (fun _ _ _ h => h) (Or.inr ⟨rfl, rfl⟩) hH ?_
                    try simp only [Act.put, List.setIfInBounds_toArray, List.set_cons_zero, List.set_cons_succ]
                    refine wpAnyH_take (i := 30) (oi := ⟨some 123, _, _, _, _, _⟩) (v := undef) rfl (by kernel_rfl) (by kernel_rfl) (by kernel_rfl) (fun _ _ _ h => h) (Or.inr ⟨rfl, rfl⟩) hH ?_
                    try simp only [Act.put, List.setIfInBounds_toArray, List.set_cons_zero, List.set_cons_succ]
                    refine wpAnyH_take (i := 31) (oi := ⟨some 124, _, _, _, _, _⟩) (v := undef) rfl (by kernel_rfl) (by kernel_rfl) (by kernel_rfl) (fun _ _ _ h => h) (Or.inr ⟨rfl, rfl⟩) hH ?_
                    try simp only [Act.put, List.setIfInBounds_toArray, List.set_cons_zero, List.set_cons_succ]
                    refine wpAnyH_take (i := 32) (oi := ⟨some 125, _, _, _, _, _⟩) (v := undef) rfl (by kernel_rfl) (by kernel_rfl) (by kernel_rfl) (fun _ _ _ h => h) (Or.inr ⟨rfl, rfl⟩) hH ?_
                    try simp only [Act.put, List.setIfInBounds_toArray, List.set_cons_zero, List.set_cons_succ]
                    refine wpAnyH_take (i := 33) (oi := ⟨some 126, _, _, _, _, _⟩) (v := undef) rfl (by kernel_rfl) (by kernel_rfl) (by kernel_rfl) (fun _ _ _ h => h) (Or.inr ⟨rfl, rfl⟩) hH ?_
                    try simp only [Act.put, List.setIfInBounds_toArray, List.set_cons_zero, List.set_cons_succ]
                    refine wpAnyH_take (i := 34) (oi := ⟨some 127, _, _, _, _, _⟩) (v := undef) rfl (by kernel_rfl) (by kernel_rfl) (by kernel_rfl) (fun _ _ _ h => h) (Or.inr ⟨rfl, rfl⟩) hH ?_
                    try simp only [Act.put, List.setIfInBounds_toArray, List.set_cons_zero, List.set_cons_succ]
                    refine wpAnyH_take (i := 35) (oi := ⟨some 128, _, _, _, _, _⟩) (v := ?v235) rfl (by kernel_rfl) (by kernel_rfl) (by kernel_rfl) (fun _ _ _ h => h) (Or.inl ⟨rfl, ?c235⟩) hH ?r235
                    case c235 => (intro w' _; go_simp; (try with_reducible rfl))
                    try simp only [Act.put, List.setIfInBounds_toArray, List.set_cons_zero, List.set_cons_succ]
                    refine wpAnyH_done (by kernel_rfl) ?_ _
                    have HTE := Lib.hid hH.2.2.2.2.2.2.2.2.2.2.2.2.2.2.2.2.out
                    clear hH
                    have e0 := HLC.out _ HTE.out.bel
                    go_wp2_with fail
                    go_quiet (fail)
                    go_wp2_with fail
                    have HBW := Lib.hid (HB1.out.trans ((below_then hb.out HTE.out.bel).mono HB1.out.size))
                    exact bodyPost_ret (v := .tuple #[.slice none 0 0, .int .i64 (m : Int), .int .i64 3]) (by simp [results, Tryz.results6, go_sem]) rfl (ansR_no (by rw [HM.out]) (by rw [HM.out]) (by rw [HM.out]; rfl) (HBW.out.drews _))
                  | true =>
                    rw [hgd] at HG
                    have HLN : Hid (∀ W, Calls Tryz.prog 19 #[.agg #[.bool ac, .int .u8 (pd : Int), .int .u32 (a1 : Int), .int .i64 (n1 : Int), .int .u32 (a2 : Int), .int .i64 (n2 : Int), .int .u16 (x1 : Int), .int .u16 (y1 : Int), .int .u16 (x2 : Int), .int .u16 (y2 : Int)]] W fun e w' => e = .returned (.string ⟨(lineR ⟨ac, pd, a1, (n1 : Int), a2, (n2 : Int), x1, y1, x2, y2⟩).toArray⟩) ∧ Below W.heap.size W w') := fun W => refLine_any ⟨ac, pd, a1, (n1 : Int), a2, (n2 : Int), x1, y1, x2, y2⟩ HOK.out hgd W
                    obtain ⟨lr, hlr⟩ : ∃ z, lineR ⟨ac, pd, a1, (n1 : Int), a2, (n2 : Int), x1, y1, x2, y2⟩ = z := ⟨_, rfl⟩
                    rw [hlr] at HLN
                    obtain ⟨z1, hz1⟩ : ∃ z, v ++ [32] = z := ⟨_, rfl⟩
                    obtain ⟨z2, hz2⟩ : ∃ z, z1 ++ p = z := ⟨_, rfl⟩
                    obtain ⟨z3, hz3⟩ : ∃ z, z2 ++ [32] = z := ⟨_, rfl⟩
                    obtain ⟨z4, hz4⟩ : ∃ z, z3 ++ s = z := ⟨_, rfl⟩
                    obtain ⟨z5, hz5⟩ : ∃ z, z4 ++ [32] = z := ⟨_, rfl⟩
                    obtain ⟨z6, hz6⟩ : ∃ z, z5 ++ sp = z := ⟨_, rfl⟩
                    obtain ⟨z7, hz7⟩ : ∃ z, z6 ++ [32] = z := ⟨_, rfl⟩
                    obtain ⟨z8, hz8⟩ : ∃ z, z7 ++ d = z := ⟨_, rfl⟩
                    obtain ⟨z9, hz9⟩ : ∃ z, z8 ++ [32] = z := ⟨_, rfl⟩
                    obtain ⟨z10, hz10⟩ : ∃ z, z9 ++ dp = z := ⟨_, rfl⟩
                    have m0 := HLW.out v (by simp)
                    have m1 := HLW.out p (by simp)
                    have m2 := HLW.out s (by simp)
                    have m3 := HLW.out sp (by simp)
                    have m4 := HLW.out d (by simp)
                    have m5 := HLW.out dp (by simp)
                    have hjoin : AdrM.join 32 [v, p, s, sp, d, dp] = z10 := by rw [← hz10, ← hz9, ← hz8, ← hz7, ← hz6, ← hz5, ← hz4, ← hz3, ← hz2, ← hz1]; simp [AdrM.join]
                    have k1 : z1.length ≤ 5000 := by rw [← hz1]; simp; omega
                    have hA1 := fun W => Ad.add_textE (P := Tryz.prog) v [32] z1 hz1 (by omega) (by simp) W
                    have k2 : z2.length ≤ 10000 := by rw [← hz2]; simp; omega
                    have hA2 := fun W => Ad.add_textE (P := Tryz.prog) z1 p z2 hz2 (by omega) (by omega) W
                    have k3 : z3.length ≤ 15000 := by rw [← hz3]; simp; omega
                    have hA3 := fun W => Ad.add_textE (P := Tryz.prog) z2 [32] z3 hz3 (by omega) (by simp) W
                    have k4 : z4.length ≤ 20000 := by rw [← hz4]; simp; omega
                    have hA4 := fun W => Ad.add_textE (P := Tryz.prog) z3 s z4 hz4 (by omega) (by omega) W
                    have k5 : z5.length ≤ 25000 := by rw [← hz5]; simp; omega
                    have hA5 := fun W => Ad.add_textE (P := Tryz.prog) z4 [32] z5 hz5 (by omega) (by simp) W
                    have k6 : z6.length ≤ 30000 := by rw [← hz6]; simp; omega
                    have hA6 := fun W => Ad.add_textE (P := Tryz.prog) z5 sp z6 hz6 (by omega) (by omega) W
                    have k7 : z7.length ≤ 35000 := by rw [← hz7]; simp; omega
                    have hA7 := fun W => Ad.add_textE (P := Tryz.prog) z6 [32] z7 hz7 (by omega) (by simp) W
                    have k8 : z8.length ≤ 40000 := by rw [← hz8]; simp; omega
                    have hA8 := fun W => Ad.add_textE (P := Tryz.prog) z7 d z8 hz8 (by omega) (by omega) W
                    have k9 : z9.length ≤ 45000 := by rw [← hz9]; simp; omega
                    have hA9 := fun W => Ad.add_textE (P := Tryz.prog) z8 [32] z9 hz9 (by omega) (by simp) W
                    have k10 : z10.length ≤ 50000 := by rw [← hz10]; simp; omega
                    have hA10 := fun W => Ad.add_textE (P := Tryz.prog) z9 dp z10 hz10 (by omega) (by omega) W
                    clear hz1 k1 hz2 k2 hz3 k3 hz4 k4 hz5 k5 hz6 k6 hz7 k7 hz8 k8 hz9 k9 hz10 k10 m0 m1 m2 m3 m4 m5
                    by_cases hq : lr = z10
                    · have hqb : (lr == z10) = true := by rw [beq_iff_eq]; exact hq
                      have hyes := RulM.seen_yes HIK.out (by rw [HSEEN.out]; exact hgd) (by rw [HSEEN.out, hlr, hq, hjoin])
                      rw [HSEEN.out] at hyes
                      have HM : Hid (comp [] ls = comp (acc ++ [⟨ac, pd, a1, (n1 : Int), a2, (n2 : Int), x1, y1, x2, y2⟩]) (ls.drop (k + 1))) := hcomp.out.trans (RulM.comp_step HKL.out (by rw [HACC.out]; exact hk2) hyes)
                      have HK65 : Hid (k + 1 ≤ 64) := by show _ ≤ _; omega
                      clear hgd hlr hjoin hq hyes hk2
                      go_wp2_with fail
                      clear e4 e5 f4 f5
                      refine wp_region_held_drew (S := (fun w' => w'.cell? ⟨G, 0, none⟩ = some (.bool ac) ∧ w'.cell? ⟨G, 1, none⟩ = some (.int .u8 (pd : Int)) ∧ w'.cell? ⟨G, 2, none⟩ = some (.int .u32 (a1 : Int)) ∧ w'.cell? ⟨G, 3, none⟩ = some (.int .i64 (n1 : Int)) ∧ w'.cell? ⟨G, 4, none⟩ = some (.int .u32 (a2 : Int)) ∧ w'.cell? ⟨G, 5, none⟩ = some (.int .i64 (n2 : Int)) ∧ w'.cell? ⟨G, 6, none⟩ = some (.int .u16 (x1 : Int)) ∧ w'.cell? ⟨G, 7, none⟩ = some (.int .u16 (y1 : Int)) ∧ w'.cell? ⟨G, 8, none⟩ = some (.int .u16 (x2 : Int)) ∧ w'.cell? ⟨G, 9, none⟩ = some (.int .u16 (y2 : Int)) ∧ w'.cell? ⟨g, 0, none⟩ = some (.string ⟨v.toArray⟩) ∧ w'.cell? ⟨g, 1, none⟩ = some (.string ⟨p.toArray⟩) ∧ w'.cell? ⟨g, 2, none⟩ = some (.string ⟨s.toArray⟩) ∧ w'.cell? ⟨g, 3, none⟩ = some (.string ⟨sp.toArray⟩) ∧ w'.cell? ⟨g, 4, none⟩ = some (.string ⟨d.toArray⟩) ∧ w'.cell? ⟨g, 5, none⟩ = some (.string ⟨dp.toArray⟩) ∧ Hid (TenAt wO G (tR ac (pd : Int) (a1 : Int) (n1 : Int) (a2 : Int) (n2 : Int) (x1 : Int) (y1 : Int) (x2 : Int) (y2 : Int)) w'))) (by kernel_rfl) (HSQ.out _ HT6.out.drew) (fun hH => ?_)
                      refine wpAnyH_take (i := 0) (oi := ⟨some 93, _, _, _, _, _⟩) (v := ?v301) rfl (by kernel_rfl) (by kernel_rfl) (by kernel_rfl) (fun _ _ _ h => h) (Or.inl ⟨rfl, ?c301⟩) hH ?r301
                      case c301 => (intro w' hS; (try dsimp only at hS); go_simp; (try with_reducible rfl))
                      try simp only [Act.put, List.setIfInBounds_toArray, List.set_cons_zero, List.set_cons_succ]
                      refine wpAnyH_ready (rs := [1]) (by kernel_rfl) (by simp) (AllReadyH.cons rfl (fun K hK => ?_) (AllReadyH.nil))
                      go_simp
                      go_at_call 12
                      refine (HG.out _).mono ?_
                      rintro e w6 ⟨rfl, hb6⟩
                      refine hK.out _ _ (HSQ.out _ (hH.2.2.2.2.2.2.2.2.2.2.2.2.2.2.2.2.out.next hb6)) (fun hH => ?_)
                      clear hK K
                      clear hb6
                      try simp only [Act.put, List.setIfInBounds_toArray, List.set_cons_zero, List.set_cons_succ]
                      refine wpAnyH_take (i := 2) (oi := ⟨some 95, _, _, _, _, _⟩) (v := ?v302) rfl (by kernel_rfl) (by kernel_rfl) (by kernel_rfl) (fun _ _ _ h => h) (Or.inl ⟨rfl, ?c302⟩) hH ?r302
                      case c302 => (intro w' _; go_simp; (try with_reducible rfl))
                      try simp only [Act.put, List.setIfInBounds_toArray, List.set_cons_zero, List.set_cons_succ]
                      refine wpAnyH_take (i := 3) (oi := ⟨some 96, _, _, _, _, _⟩) (v := ?v303) rfl (by kernel_rfl) (by kernel_rfl) (by kernel_rfl) (fun _ _ _ h => h) (Or.inl ⟨rfl, ?c303⟩) hH ?r303
                      case c303 => (intro w' _; go_simp; (try with_reducible rfl))
                      try simp only [Act.put, List.setIfInBounds_toArray, List.set_cons_zero, List.set_cons_succ]
                      refine wpAnyH_take (i := 4) (oi := ⟨some 97, _, _, _, _, _⟩) (v := ?v304) rfl (by kernel_rfl) (by kernel_rfl) (by kernel_rfl) (fun _ _ _ h => h) (Or.inl ⟨rfl, ?c304⟩) hH ?r304
                      case c304 => (intro w' hS; (try dsimp only at hS); go_simp; (try with_reducible rfl))
                      try simp only [Act.put, List.setIfInBounds_toArray, List.set_cons_zero, List.set_cons_succ]
                      refine wpAnyH_take (i := 6) (oi := ⟨some 99, _, _, _, _, _⟩) (v := ?v305) rfl (by kernel_rfl) (by kernel_rfl) (by kernel_rfl) (fun _ _ _ h => h) (Or.inl ⟨rfl, ?c305⟩) hH ?r305
                      case c305 => (intro w' _; go_simp; (try with_reducible rfl))
                      try simp only [Act.put, List.setIfInBounds_toArray, List.set_cons_zero, List.set_cons_succ]
                      refine wpAnyH_take (i := 7) (oi := ⟨some 100, _, _, _, _, _⟩) (v := ?v306) rfl (by kernel_rfl) (by kernel_rfl) (by kernel_rfl) (fun _ _ _ h => h) (Or.inl ⟨rfl, ?c306⟩) hH ?r306
                      case c306 => (intro w' _; go_simp; (try with_reducible rfl))
                      try simp only [Act.put, List.setIfInBounds_toArray, List.set_cons_zero, List.set_cons_succ]
                      refine wpAnyH_take (i := 8) (oi := ⟨some 101, _, _, _, _, _⟩) (v := ?v307) rfl (by kernel_rfl) (by kernel_rfl) (by kernel_rfl) (fun _ _ _ h => h) (Or.inl ⟨rfl, ?c307⟩) hH ?r307
                      case c307 => (intro w' hS; (try dsimp only at hS); go_simp; (try with_reducible rfl))
                      try simp only [Act.put, List.setIfInBounds_toArray, List.set_cons_zero, List.set_cons_succ]
                      refine wpAnyH_take (i := 9) (oi := ⟨some 102, _, _, _, _, _⟩) (v := ?v308) rfl (by kernel_rfl) (by kernel_rfl) (by kernel_rfl) (fun _ _ _ h => h) (Or.inl ⟨rfl, ?c308⟩) hH ?r308
                      case c308 => (intro w' _; go_simp; (try with_reducible rfl))
                      try simp only [Act.put, List.setIfInBounds_toArray, List.set_cons_zero, List.set_cons_succ]
                      refine wpAnyH_take (i := 10) (oi := ⟨some 103, _, _, _, _, _⟩) (v := ?v309) rfl (by kernel_rfl) (by kernel_rfl) (by kernel_rfl) (fun _ _ _ h => h) (Or.inl ⟨rfl, ?c309⟩) hH ?r309
                      case c309 => (intro w' _; go_simp; (try with_reducible rfl))
                      try simp only [Act.put, List.setIfInBounds_toArray, List.set_cons_zero, List.set_cons_succ]
                      refine wpAnyH_take (i := 11) (oi := ⟨some 104, _, _, _, _, _⟩) (v := ?v310) rfl (by kernel_rfl) (by kernel_rfl) (by kernel_rfl) (fun _ _ _ h => h) (Or.inl ⟨rfl, ?c310⟩) hH ?r310
                      case c310 => (intro w' _; go_simp; (try with_reducible rfl))
                      try simp only [Act.put, List.setIfInBounds_toArray, List.set_cons_zero, List.set_cons_succ]
                      refine wpAnyH_take (i := 12) (oi := ⟨some 105, _, _, _, _, _⟩) (v := ?v311) rfl (by kernel_rfl) (by kernel_rfl) (by kernel_rfl) (fun _ _ _ h => h) (Or.inl ⟨rfl, ?c311⟩) hH ?r311
                      case c311 => (intro w' hS; (try dsimp only at hS); go_simp; (try with_reducible rfl))
                      try simp only [Act.put, List.setIfInBounds_toArray, List.set_cons_zero, List.set_cons_succ]
                      refine wpAnyH_take (i := 13) (oi := ⟨some 106, _, _, _, _, _⟩) (v := ?v312) rfl (by kernel_rfl) (by kernel_rfl) (by kernel_rfl) (fun _ _ _ h => h) (Or.inl ⟨rfl, ?c312⟩) hH ?r312
                      case c312 => (intro w' _; go_simp; (try with_reducible rfl))
                      try simp only [Act.put, List.setIfInBounds_toArray, List.set_cons_zero, List.set_cons_succ]
                      refine wpAnyH_take (i := 14) (oi := ⟨some 107, _, _, _, _, _⟩) (v := ?v313) rfl (by kernel_rfl) (by kernel_rfl) (by kernel_rfl) (fun _ _ _ h => h) (Or.inl ⟨rfl, ?c313⟩) hH ?r313
                      case c313 => (intro w' _; go_simp; (try with_reducible rfl))
                      try simp only [Act.put, List.setIfInBounds_toArray, List.set_cons_zero, List.set_cons_succ]
                      refine wpAnyH_take (i := 15) (oi := ⟨some 108, _, _, _, _, _⟩) (v := ?v314) rfl (by kernel_rfl) (by kernel_rfl) (by kernel_rfl) (fun _ _ _ h => h) (Or.inl ⟨rfl, ?c314⟩) hH ?r314
                      case c314 => (intro w' _; go_simp; (try with_reducible rfl))
                      try simp only [Act.put, List.setIfInBounds_toArray, List.set_cons_zero, List.set_cons_succ]
                      refine wpAnyH_take (i := 16) (oi := ⟨some 109, _, _, _, _, _⟩) (v := ?v315) rfl (by kernel_rfl) (by kernel_rfl) (by kernel_rfl) (fun _ _ _ h => h) (Or.inl ⟨rfl, ?c315⟩) hH ?r315
                      case c315 => (intro w' _; go_simp; (try with_reducible rfl))
                      try simp only [Act.put, List.setIfInBounds_toArray, List.set_cons_zero, List.set_cons_succ]
                      refine wpAnyH_take (i := 17) (oi := ⟨some 110, _, _, _, _, _⟩) (v := ?v316) rfl (by kernel_rfl) (by kernel_rfl) (by kernel_rfl) (fun _ _ _ h => h) (Or.inl ⟨rfl, ?c316⟩) hH ?r316
                      case c316 => (intro w' hS; (try dsimp only at hS); go_simp; (try with_reducible rfl))
                      try simp only [Act.put, List.setIfInBounds_toArray, List.set_cons_zero, List.set_cons_succ]
                      refine wpAnyH_take (i := 18) (oi := ⟨some 111, _, _, _, _, _⟩) (v := ?v317) rfl (by kernel_rfl) (by kernel_rfl) (by kernel_rfl) (fun _ _ _ h => h) (Or.inl ⟨rfl, ?c317⟩) hH ?r317
                      case c317 => (intro w' _; go_simp; (try with_reducible rfl))
                      try simp only [Act.put, List.setIfInBounds_toArray, List.set_cons_zero, List.set_cons_succ]
                      refine wpAnyH_take (i := 19) (oi := ⟨some 112, _, _, _, _, _⟩) (v := ?v318) rfl (by kernel_rfl) (by kernel_rfl) (by kernel_rfl) (fun _ _ _ h => h) (Or.inl ⟨rfl, ?c318⟩) hH ?r318
                      case c318 => (intro w' _; go_simp; (try with_reducible rfl))
                      try simp only [Act.put, List.setIfInBounds_toArray, List.set_cons_zero, List.set_cons_succ]
                      refine wpAnyH_take (i := 20) (oi := ⟨some 113, _, _, _, _, _⟩) (v := ?v319) rfl (by kernel_rfl) (by kernel_rfl) (by kernel_rfl) (fun _ _ _ h => h) (Or.inl ⟨rfl, ?c319⟩) hH ?r319
                      case c319 => (intro w' _; go_simp; (try with_reducible rfl))
                      try simp only [Act.put, List.setIfInBounds_toArray, List.set_cons_zero, List.set_cons_succ]
                      refine wpAnyH_take (i := 21) (oi := ⟨some 114, _, _, _, _, _⟩) (v := ?v320) rfl (by kernel_rfl) (by kernel_rfl) (by kernel_rfl) (fun _ _ _ h => h) (Or.inl ⟨rfl, ?c320⟩) hH ?r320
                      case c320 => (intro w' _; go_simp; (try with_reducible rfl))
                      try simp only [Act.put, List.setIfInBounds_toArray, List.set_cons_zero, List.set_cons_succ]
                      refine wpAnyH_take (i := 22) (oi := ⟨some 115, _, _, _, _, _⟩) (v := ?v321) rfl (by kernel_rfl) (by kernel_rfl) (by kernel_rfl) (fun _ _ _ h => h) (Or.inl ⟨rfl, ?c321⟩) hH ?r321
                      case c321 => (intro w' hS; (try dsimp only at hS); go_simp; (try with_reducible rfl))
                      try simp only [Act.put, List.setIfInBounds_toArray, List.set_cons_zero, List.set_cons_succ]
                      refine wpAnyH_take (i := 23) (oi := ⟨some 116, _, _, _, _, _⟩) (v := ?v322) rfl (by kernel_rfl) (by kernel_rfl) (by kernel_rfl) (fun _ _ _ h => h) (Or.inl ⟨rfl, ?c322⟩) hH ?r322
                      case c322 => (intro w' _; go_simp; (try with_reducible rfl))
                      try simp only [Act.put, List.setIfInBounds_toArray, List.set_cons_zero, List.set_cons_succ]
                      refine wpAnyH_take (i := 24) (oi := ⟨some 117, _, _, _, _, _⟩) (v := ?v323) rfl (by kernel_rfl) (by kernel_rfl) (by kernel_rfl) (fun _ _ _ h => h) (Or.inl ⟨rfl, ?c323⟩) hH ?r323
                      case c323 => (intro w' _; go_simp; (try with_reducible rfl))
                      try simp only [Act.put, List.setIfInBounds_toArray, List.set_cons_zero, List.set_cons_succ]
                      refine wpAnyH_take (i := 25) (oi := ⟨some 118, _, _, _, _, _⟩) (v := ?v324) rfl (by kernel_rfl) (by kernel_rfl) (by kernel_rfl) (fun _ _ _ h => h) (Or.inl ⟨rfl, ?c324⟩) hH ?r324
                      case c324 => (intro w' _; go_simp; (try with_reducible rfl))
                      try simp only [Act.put, List.setIfInBounds_toArray, List.set_cons_zero, List.set_cons_succ]
                      refine wpAnyH_take (i := 26) (oi := ⟨some 119, _, _, _, _, _⟩) (v := ?v325) rfl (by kernel_rfl) (by kernel_rfl) (by kernel_rfl) (fun _ _ _ h => h) (Or.inl ⟨rfl, ?c325⟩) hH ?r325
                      case c325 => (intro w' _; go_simp; (try with_reducible rfl))
                      try simp only [Act.put, List.setIfInBounds_toArray, List.set_cons_zero, List.set_cons_succ]
                      refine wpAnyH_take (i := 27) (oi := ⟨some 120, _, _, _, _, _⟩) (v := ?v326) rfl (by kernel_rfl) (by kernel_rfl) (by kernel_rfl) (fun _ _ _ h => h) (Or.inl ⟨rfl, ?c326⟩) hH ?r326
                      case c326 => (intro w' hS; (try dsimp only at hS); go_simp; (try with_reducible rfl))
                      try simp only [Act.put, List.setIfInBounds_toArray, List.set_cons_zero, List.set_cons_succ]
                      refine wpAnyH_take (i := 28) (oi := ⟨some 121, _, _, _, _, _⟩) (v := ?v327) rfl (by kernel_rfl) (by kernel_rfl) (by kernel_rfl) (fun _ _ _ h => h) (Or.inl ⟨rfl, ?c327⟩) hH ?r327
                      case c327 => (intro w' _; go_simp; (try with_reducible rfl))
                      try simp only [Act.put, List.setIfInBounds_toArray, List.set_cons_zero, List.set_cons_succ]
                      refine wpAnyH_take (i := 29) (oi := ⟨some 122, _, _, _, _, _⟩) (v := ?v328) rfl (by kernel_rfl) (by kernel_rfl) (by kernel_rfl) (fun _ _ _ h => h) (Or.inl ⟨rfl, ?c328⟩) hH ?r328
                      case c328 => (intro w' _; go_simp; (try with_reducible rfl))
                      try simp only [Act.put, List.setIfInBounds_toArray, List.set_cons_zero, List.set_cons_succ]
                      refine wpAnyH_take (i := 30) (oi := ⟨some 123, _, _, _, _, _⟩) (v := ?v329) rfl (by kernel_rfl) (by kernel_rfl) (by kernel_rfl) (fun _ _ _ h => h) (Or.inl ⟨rfl, ?c329⟩) hH ?r329
                      case c329 => (intro w' _; go_simp; (try with_reducible rfl))
                      try simp only [Act.put, List.setIfInBounds_toArray, List.set_cons_zero, List.set_cons_succ]
                      refine wpAnyH_take (i := 31) (oi := ⟨some 124, _, _, _, _, _⟩) (v := ?v330) rfl (by kernel_rfl) (by kernel_rfl) (by kernel_rfl) (fun _ _ _ h => h) (Or.inl ⟨rfl, ?c330⟩) hH ?r330
                      case c330 => (intro w' _; go_simp; (try with_reducible rfl))
                      try simp only [Act.put, List.setIfInBounds_toArray, List.set_cons_zero, List.set_cons_succ]
                      refine wpAnyH_take (i := 32) (oi := ⟨some 125, _, _, _, _, _⟩) (v := ?v331) rfl (by kernel_rfl) (by kernel_rfl) (by kernel_rfl) (fun _ _ _ h => h) (Or.inl ⟨rfl, ?c331⟩) hH ?r331
                      case c331 => (intro w' hS; (try dsimp only at hS); go_simp; (try with_reducible rfl))
                      try simp only [Act.put, List.setIfInBounds_toArray, List.set_cons_zero, List.set_cons_succ]
                      refine wpAnyH_take (i := 33) (oi := ⟨some 126, _, _, _, _, _⟩) (v := ?v332) rfl (by kernel_rfl) (by kernel_rfl) (by kernel_rfl) (fun _ _ _ h => h) (Or.inl ⟨rfl, ?c332⟩) hH ?r332
                      case c332 => (intro w' _; go_simp; (try with_reducible rfl))
                      try simp only [Act.put, List.setIfInBounds_toArray, List.set_cons_zero, List.set_cons_succ]
                      refine wpAnyH_ready (rs := [5]) (by kernel_rfl) (by simp) (AllReadyH.cons rfl (fun K hK => ?_) (AllReadyH.nil))
                      go_simp
                      go_at_call 19
                      refine (HLN.out _).mono ?_
                      rintro e w7 ⟨rfl, hb7⟩
                      refine hK.out _ _ (HSQ.out _ (hH.2.2.2.2.2.2.2.2.2.2.2.2.2.2.2.2.out.next hb7)) (fun hH => ?_)
                      clear hK K
                      clear hb7
                      try simp only [Act.put, List.setIfInBounds_toArray, List.set_cons_zero, List.set_cons_succ]
                      refine wpAnyH_take (i := 34) (oi := ⟨some 127, _, _, _, _, _⟩) (v := ?v333) rfl (by kernel_rfl) (by kernel_rfl) (by kernel_rfl) (fun _ _ _ h => h) (Or.inl ⟨rfl, ?c333⟩) hH ?r333
                      case c333 => (intro w' _; go_simp; (try with_reducible rfl))
                      try simp only [Act.put, List.setIfInBounds_toArray, List.set_cons_zero, List.set_cons_succ]
                      refine wpAnyH_take (i := 35) (oi := ⟨some 128, _, _, _, _, _⟩) (v := ?v334) rfl (by kernel_rfl) (by kernel_rfl) (by kernel_rfl) (fun _ _ _ h => h) (Or.inl ⟨rfl, ?c334⟩) hH ?r334
                      case c334 => (intro w' _; go_simp; (try with_reducible rfl))
                      try simp only [Act.put, List.setIfInBounds_toArray, List.set_cons_zero, List.set_cons_succ]
                      refine wpAnyH_done (by kernel_rfl) ?_ _
                      have HTE := Lib.hid hH.2.2.2.2.2.2.2.2.2.2.2.2.2.2.2.2.out
                      clear hH
                      have e0 := HTE.out.blk.cell 0 _ rfl
                      have e1 := HTE.out.blk.cell 1 _ rfl
                      have e2 := HTE.out.blk.cell 2 _ rfl
                      have e3 := HTE.out.blk.cell 3 _ rfl
                      have e4 := HTE.out.blk.cell 4 _ rfl
                      have e5 := HTE.out.blk.cell 5 _ rfl
                      have e6 := HTE.out.blk.cell 6 _ rfl
                      have e7 := HTE.out.blk.cell 7 _ rfl
                      have e8 := HTE.out.blk.cell 8 _ rfl
                      have e9 := HTE.out.blk.cell 9 _ rfl
                      have HO3 := Lib.hid (own_below hown.out HTE.out.bel)
                      have HB3 := Lib.hid (below_then hb.out HTE.out.bel)
                      go_wp2_with (at_builtin; refine wpList_append_rule rfl (.tmp 134) (.tmp 136) rfl _ acc rfl HO3.out HB3.out ⟨ac, pd, a1, (n1 : Int), a2, (n2 : Int), x1, y1, x2, y2⟩ rfl (by have := HACC.out; omega) ?_; intro v3 wl hown3 hb3)
                      go_roundw
                      case rel => exact ⟨k + 1, acc ++ [⟨ac, pd, a1, (n1 : Int), a2, (n2 : Int), x1, y1, x2, y2⟩], by omega, HK65.out, by go_num, by rw [List.length_append, HACC.out]; rfl, hown3, HM, hb3⟩
                      case measure => simp [RowKit.intOf]; omega
                    · have hqb : (lr == z10) = false := by rw [beq_eq_false_iff_ne]; exact hq
                      have HM : Hid (compile l = ([], m, 3)) := HC.out.trans (hcomp.out.trans (RulM.comp_bad HKL.out (by rw [HACC.out]; exact hk2) (RulM.seen_no (.inr (by rw [HSEEN.out, hlr, hjoin]; exact hq)))))
                      clear hgd hlr hjoin hq
                      go_wp2_with fail
                      clear e4 e5 f4 f5
                      refine wp_region_held_drew (S := (fun w' => w'.cell? ⟨G, 0, none⟩ = some (.bool ac) ∧ w'.cell? ⟨G, 1, none⟩ = some (.int .u8 (pd : Int)) ∧ w'.cell? ⟨G, 2, none⟩ = some (.int .u32 (a1 : Int)) ∧ w'.cell? ⟨G, 3, none⟩ = some (.int .i64 (n1 : Int)) ∧ w'.cell? ⟨G, 4, none⟩ = some (.int .u32 (a2 : Int)) ∧ w'.cell? ⟨G, 5, none⟩ = some (.int .i64 (n2 : Int)) ∧ w'.cell? ⟨G, 6, none⟩ = some (.int .u16 (x1 : Int)) ∧ w'.cell? ⟨G, 7, none⟩ = some (.int .u16 (y1 : Int)) ∧ w'.cell? ⟨G, 8, none⟩ = some (.int .u16 (x2 : Int)) ∧ w'.cell? ⟨G, 9, none⟩ = some (.int .u16 (y2 : Int)) ∧ w'.cell? ⟨g, 0, none⟩ = some (.string ⟨v.toArray⟩) ∧ w'.cell? ⟨g, 1, none⟩ = some (.string ⟨p.toArray⟩) ∧ w'.cell? ⟨g, 2, none⟩ = some (.string ⟨s.toArray⟩) ∧ w'.cell? ⟨g, 3, none⟩ = some (.string ⟨sp.toArray⟩) ∧ w'.cell? ⟨g, 4, none⟩ = some (.string ⟨d.toArray⟩) ∧ w'.cell? ⟨g, 5, none⟩ = some (.string ⟨dp.toArray⟩) ∧ Hid (TenAt wO G (tR ac (pd : Int) (a1 : Int) (n1 : Int) (a2 : Int) (n2 : Int) (x1 : Int) (y1 : Int) (x2 : Int) (y2 : Int)) w'))) (by kernel_rfl) (HSQ.out _ HT6.out.drew) (fun hH => ?_)
                      refine wpAnyH_take (i := 0) (oi := ⟨some 93, _, _, _, _, _⟩) (v := ?v401) rfl (by kernel_rfl) (by kernel_rfl) (by kernel_rfl) (fun _ _ _ h => h) (Or.inl ⟨rfl, ?c401⟩) hH ?r401
                      case c401 => (intro w' hS; (try dsimp only at hS); go_simp; (try with_reducible rfl))
                      try simp only [Act.put, List.setIfInBounds_toArray, List.set_cons_zero, List.set_cons_succ]
                      refine wpAnyH_ready (rs := [1]) (by kernel_rfl) (by simp) (AllReadyH.cons rfl (fun K hK => ?_) (AllReadyH.nil))
                      go_simp
                      go_at_call 12
                      refine (HG.out _).mono ?_
                      rintro e w6 ⟨rfl, hb6⟩
                      refine hK.out _ _ (HSQ.out _ (hH.2.2.2.2.2.2.2.2.2.2.2.2.2.2.2.2.out.next hb6)) (fun hH => ?_)
                      clear hK K
                      clear hb6
                      try simp only [Act.put, List.setIfInBounds_toArray, List.set_cons_zero, List.set_cons_succ]
                      refine wpAnyH_take (i := 2) (oi := ⟨some 95, _, _, _, _, _⟩) (v := ?v402) rfl (by kernel_rfl) (by kernel_rfl) (by kernel_rfl) (fun _ _ _ h => h) (Or.inl ⟨rfl, ?c402⟩) hH ?r402
                      case c402 => (intro w' _; go_simp; (try with_reducible rfl))
                      try simp only [Act.put, List.setIfInBounds_toArray, List.set_cons_zero, List.set_cons_succ]
                      refine wpAnyH_take (i := 3) (oi := ⟨some 96, _, _, _, _, _⟩) (v := ?v403) rfl (by kernel_rfl) (by kernel_rfl) (by kernel_rfl) (fun _ _ _ h => h) (Or.inl ⟨rfl, ?c403⟩) hH ?r403
                      case c403 => (intro w' _; go_simp; (try with_reducible rfl))
                      try simp only [Act.put, List.setIfInBounds_toArray, List.set_cons_zero, List.set_cons_succ]
                      refine wpAnyH_take (i := 4) (oi := ⟨some 97, _, _, _, _, _⟩) (v := ?v404) rfl (by kernel_rfl) (by kernel_rfl) (by kernel_rfl) (fun _ _ _ h => h) (Or.inl ⟨rfl, ?c404⟩) hH ?r404
                      case c404 => (intro w' hS; (try dsimp only at hS); go_simp; (try with_reducible rfl))
                      try simp only [Act.put, List.setIfInBounds_toArray, List.set_cons_zero, List.set_cons_succ]
                      refine wpAnyH_take (i := 6) (oi := ⟨some 99, _, _, _, _, _⟩) (v := ?v405) rfl (by kernel_rfl) (by kernel_rfl) (by kernel_rfl) (fun _ _ _ h => h) (Or.inl ⟨rfl, ?c405⟩) hH ?r405
                      case c405 => (intro w' _; go_simp; (try with_reducible rfl))
                      try simp only [Act.put, List.setIfInBounds_toArray, List.set_cons_zero, List.set_cons_succ]
                      refine wpAnyH_take (i := 7) (oi := ⟨some 100, _, _, _, _, _⟩) (v := ?v406) rfl (by kernel_rfl) (by kernel_rfl) (by kernel_rfl) (fun _ _ _ h => h) (Or.inl ⟨rfl, ?c406⟩) hH ?r406
                      case c406 => (intro w' _; go_simp; (try with_reducible rfl))
                      try simp only [Act.put, List.setIfInBounds_toArray, List.set_cons_zero, List.set_cons_succ]
                      refine wpAnyH_take (i := 8) (oi := ⟨some 101, _, _, _, _, _⟩) (v := ?v407) rfl (by kernel_rfl) (by kernel_rfl) (by kernel_rfl) (fun _ _ _ h => h) (Or.inl ⟨rfl, ?c407⟩) hH ?r407
                      case c407 => (intro w' hS; (try dsimp only at hS); go_simp; (try with_reducible rfl))
                      try simp only [Act.put, List.setIfInBounds_toArray, List.set_cons_zero, List.set_cons_succ]
                      refine wpAnyH_take (i := 9) (oi := ⟨some 102, _, _, _, _, _⟩) (v := ?v408) rfl (by kernel_rfl) (by kernel_rfl) (by kernel_rfl) (fun _ _ _ h => h) (Or.inl ⟨rfl, ?c408⟩) hH ?r408
                      case c408 => (intro w' _; go_simp; (try with_reducible rfl))
                      try simp only [Act.put, List.setIfInBounds_toArray, List.set_cons_zero, List.set_cons_succ]
                      refine wpAnyH_take (i := 10) (oi := ⟨some 103, _, _, _, _, _⟩) (v := ?v409) rfl (by kernel_rfl) (by kernel_rfl) (by kernel_rfl) (fun _ _ _ h => h) (Or.inl ⟨rfl, ?c409⟩) hH ?r409
                      case c409 => (intro w' _; go_simp; (try with_reducible rfl))
                      try simp only [Act.put, List.setIfInBounds_toArray, List.set_cons_zero, List.set_cons_succ]
                      refine wpAnyH_take (i := 11) (oi := ⟨some 104, _, _, _, _, _⟩) (v := ?v410) rfl (by kernel_rfl) (by kernel_rfl) (by kernel_rfl) (fun _ _ _ h => h) (Or.inl ⟨rfl, ?c410⟩) hH ?r410
                      case c410 => (intro w' _; go_simp; (try with_reducible rfl))
                      try simp only [Act.put, List.setIfInBounds_toArray, List.set_cons_zero, List.set_cons_succ]
                      refine wpAnyH_take (i := 12) (oi := ⟨some 105, _, _, _, _, _⟩) (v := ?v411) rfl (by kernel_rfl) (by kernel_rfl) (by kernel_rfl) (fun _ _ _ h => h) (Or.inl ⟨rfl, ?c411⟩) hH ?r411
                      case c411 => (intro w' hS; (try dsimp only at hS); go_simp; (try with_reducible rfl))
                      try simp only [Act.put, List.setIfInBounds_toArray, List.set_cons_zero, List.set_cons_succ]
                      refine wpAnyH_take (i := 13) (oi := ⟨some 106, _, _, _, _, _⟩) (v := ?v412) rfl (by kernel_rfl) (by kernel_rfl) (by kernel_rfl) (fun _ _ _ h => h) (Or.inl ⟨rfl, ?c412⟩) hH ?r412
                      case c412 => (intro w' _; go_simp; (try with_reducible rfl))
                      try simp only [Act.put, List.setIfInBounds_toArray, List.set_cons_zero, List.set_cons_succ]
                      refine wpAnyH_take (i := 14) (oi := ⟨some 107, _, _, _, _, _⟩) (v := ?v413) rfl (by kernel_rfl) (by kernel_rfl) (by kernel_rfl) (fun _ _ _ h => h) (Or.inl ⟨rfl, ?c413⟩) hH ?r413
                      case c413 => (intro w' _; go_simp; (try with_reducible rfl))
                      try simp only [Act.put, List.setIfInBounds_toArray, List.set_cons_zero, List.set_cons_succ]
                      refine wpAnyH_take (i := 15) (oi := ⟨some 108, _, _, _, _, _⟩) (v := ?v414) rfl (by kernel_rfl) (by kernel_rfl) (by kernel_rfl) (fun _ _ _ h => h) (Or.inl ⟨rfl, ?c414⟩) hH ?r414
                      case c414 => (intro w' _; go_simp; (try with_reducible rfl))
                      try simp only [Act.put, List.setIfInBounds_toArray, List.set_cons_zero, List.set_cons_succ]
                      refine wpAnyH_take (i := 16) (oi := ⟨some 109, _, _, _, _, _⟩) (v := ?v415) rfl (by kernel_rfl) (by kernel_rfl) (by kernel_rfl) (fun _ _ _ h => h) (Or.inl ⟨rfl, ?c415⟩) hH ?r415
                      case c415 => (intro w' _; go_simp; (try with_reducible rfl))
                      try simp only [Act.put, List.setIfInBounds_toArray, List.set_cons_zero, List.set_cons_succ]
                      refine wpAnyH_take (i := 17) (oi := ⟨some 110, _, _, _, _, _⟩) (v := ?v416) rfl (by kernel_rfl) (by kernel_rfl) (by kernel_rfl) (fun _ _ _ h => h) (Or.inl ⟨rfl, ?c416⟩) hH ?r416
                      case c416 => (intro w' hS; (try dsimp only at hS); go_simp; (try with_reducible rfl))
                      try simp only [Act.put, List.setIfInBounds_toArray, List.set_cons_zero, List.set_cons_succ]
                      refine wpAnyH_take (i := 18) (oi := ⟨some 111, _, _, _, _, _⟩) (v := ?v417) rfl (by kernel_rfl) (by kernel_rfl) (by kernel_rfl) (fun _ _ _ h => h) (Or.inl ⟨rfl, ?c417⟩) hH ?r417
                      case c417 => (intro w' _; go_simp; (try with_reducible rfl))
                      try simp only [Act.put, List.setIfInBounds_toArray, List.set_cons_zero, List.set_cons_succ]
                      refine wpAnyH_take (i := 19) (oi := ⟨some 112, _, _, _, _, _⟩) (v := ?v418) rfl (by kernel_rfl) (by kernel_rfl) (by kernel_rfl) (fun _ _ _ h => h) (Or.inl ⟨rfl, ?c418⟩) hH ?r418
                      case c418 => (intro w' _; go_simp; (try with_reducible rfl))
                      try simp only [Act.put, List.setIfInBounds_toArray, List.set_cons_zero, List.set_cons_succ]
                      refine wpAnyH_take (i := 20) (oi := ⟨some 113, _, _, _, _, _⟩) (v := ?v419) rfl (by kernel_rfl) (by kernel_rfl) (by kernel_rfl) (fun _ _ _ h => h) (Or.inl ⟨rfl, ?c419⟩) hH ?r419
                      case c419 => (intro w' _; go_simp; (try with_reducible rfl))
                      try simp only [Act.put, List.setIfInBounds_toArray, List.set_cons_zero, List.set_cons_succ]
                      refine wpAnyH_take (i := 21) (oi := ⟨some 114, _, _, _, _, _⟩) (v := ?v420) rfl (by kernel_rfl) (by kernel_rfl) (by kernel_rfl) (fun _ _ _ h => h) (Or.inl ⟨rfl, ?c420⟩) hH ?r420
                      case c420 => (intro w' _; go_simp; (try with_reducible rfl))
                      try simp only [Act.put, List.setIfInBounds_toArray, List.set_cons_zero, List.set_cons_succ]
                      refine wpAnyH_take (i := 22) (oi := ⟨some 115, _, _, _, _, _⟩) (v := ?v421) rfl (by kernel_rfl) (by kernel_rfl) (by kernel_rfl) (fun _ _ _ h => h) (Or.inl ⟨rfl, ?c421⟩) hH ?r421
                      case c421 => (intro w' hS; (try dsimp only at hS); go_simp; (try with_reducible rfl))
                      try simp only [Act.put, List.setIfInBounds_toArray, List.set_cons_zero, List.set_cons_succ]
                      refine wpAnyH_take (i := 23) (oi := ⟨some 116, _, _, _, _, _⟩) (v := ?v422) rfl (by kernel_rfl) (by kernel_rfl) (by kernel_rfl) (fun _ _ _ h => h) (Or.inl ⟨rfl, ?c422⟩) hH ?r422
                      case c422 => (intro w' _; go_simp; (try with_reducible rfl))
                      try simp only [Act.put, List.setIfInBounds_toArray, List.set_cons_zero, List.set_cons_succ]
                      refine wpAnyH_take (i := 24) (oi := ⟨some 117, _, _, _, _, _⟩) (v := ?v423) rfl (by kernel_rfl) (by kernel_rfl) (by kernel_rfl) (fun _ _ _ h => h) (Or.inl ⟨rfl, ?c423⟩) hH ?r423
                      case c423 => (intro w' _; go_simp; (try with_reducible rfl))
                      try simp only [Act.put, List.setIfInBounds_toArray, List.set_cons_zero, List.set_cons_succ]
                      refine wpAnyH_take (i := 25) (oi := ⟨some 118, _, _, _, _, _⟩) (v := ?v424) rfl (by kernel_rfl) (by kernel_rfl) (by kernel_rfl) (fun _ _ _ h => h) (Or.inl ⟨rfl, ?c424⟩) hH ?r424
                      case c424 => (intro w' _; go_simp; (try with_reducible rfl))
                      try simp only [Act.put, List.setIfInBounds_toArray, List.set_cons_zero, List.set_cons_succ]
                      refine wpAnyH_take (i := 26) (oi := ⟨some 119, _, _, _, _, _⟩) (v := ?v425) rfl (by kernel_rfl) (by kernel_rfl) (by kernel_rfl) (fun _ _ _ h => h) (Or.inl ⟨rfl, ?c425⟩) hH ?r425
                      case c425 => (intro w' _; go_simp; (try with_reducible rfl))
                      try simp only [Act.put, List.setIfInBounds_toArray, List.set_cons_zero, List.set_cons_succ]
                      refine wpAnyH_take (i := 27) (oi := ⟨some 120, _, _, _, _, _⟩) (v := ?v426) rfl (by kernel_rfl) (by kernel_rfl) (by kernel_rfl) (fun _ _ _ h => h) (Or.inl ⟨rfl, ?c426⟩) hH ?r426
                      case c426 => (intro w' hS; (try dsimp only at hS); go_simp; (try with_reducible rfl))
                      try simp only [Act.put, List.setIfInBounds_toArray, List.set_cons_zero, List.set_cons_succ]
                      refine wpAnyH_take (i := 28) (oi := ⟨some 121, _, _, _, _, _⟩) (v := ?v427) rfl (by kernel_rfl) (by kernel_rfl) (by kernel_rfl) (fun _ _ _ h => h) (Or.inl ⟨rfl, ?c427⟩) hH ?r427
                      case c427 => (intro w' _; go_simp; (try with_reducible rfl))
                      try simp only [Act.put, List.setIfInBounds_toArray, List.set_cons_zero, List.set_cons_succ]
                      refine wpAnyH_take (i := 29) (oi := ⟨some 122, _, _, _, _, _⟩) (v := ?v428) rfl (by kernel_rfl) (by kernel_rfl) (by kernel_rfl) (fun _ _ _ h => h) (Or.inl ⟨rfl, ?c428⟩) hH ?r428
                      case c428 => (intro w' _; go_simp; (try with_reducible rfl))
                      try simp only [Act.put, List.setIfInBounds_toArray, List.set_cons_zero, List.set_cons_succ]
                      refine wpAnyH_take (i := 30) (oi := ⟨some 123, _, _, _, _, _⟩) (v := ?v429) rfl (by kernel_rfl) (by kernel_rfl) (by kernel_rfl) (fun _ _ _ h => h) (Or.inl ⟨rfl, ?c429⟩) hH ?r429
                      case c429 => (intro w' _; go_simp; (try with_reducible rfl))
                      try simp only [Act.put, List.setIfInBounds_toArray, List.set_cons_zero, List.set_cons_succ]
                      refine wpAnyH_take (i := 31) (oi := ⟨some 124, _, _, _, _, _⟩) (v := ?v430) rfl (by kernel_rfl) (by kernel_rfl) (by kernel_rfl) (fun _ _ _ h => h) (Or.inl ⟨rfl, ?c430⟩) hH ?r430
                      case c430 => (intro w' _; go_simp; (try with_reducible rfl))
                      try simp only [Act.put, List.setIfInBounds_toArray, List.set_cons_zero, List.set_cons_succ]
                      refine wpAnyH_take (i := 32) (oi := ⟨some 125, _, _, _, _, _⟩) (v := ?v431) rfl (by kernel_rfl) (by kernel_rfl) (by kernel_rfl) (fun _ _ _ h => h) (Or.inl ⟨rfl, ?c431⟩) hH ?r431
                      case c431 => (intro w' hS; (try dsimp only at hS); go_simp; (try with_reducible rfl))
                      try simp only [Act.put, List.setIfInBounds_toArray, List.set_cons_zero, List.set_cons_succ]
                      refine wpAnyH_take (i := 33) (oi := ⟨some 126, _, _, _, _, _⟩) (v := ?v432) rfl (by kernel_rfl) (by kernel_rfl) (by kernel_rfl) (fun _ _ _ h => h) (Or.inl ⟨rfl, ?c432⟩) hH ?r432
                      case c432 => (intro w' _; go_simp; (try with_reducible rfl))
                      try simp only [Act.put, List.setIfInBounds_toArray, List.set_cons_zero, List.set_cons_succ]
                      refine wpAnyH_ready (rs := [5]) (by kernel_rfl) (by simp) (AllReadyH.cons rfl (fun K hK => ?_) (AllReadyH.nil))
                      go_simp
                      go_at_call 19
                      refine (HLN.out _).mono ?_
                      rintro e w7 ⟨rfl, hb7⟩
                      refine hK.out _ _ (HSQ.out _ (hH.2.2.2.2.2.2.2.2.2.2.2.2.2.2.2.2.out.next hb7)) (fun hH => ?_)
                      clear hK K
                      clear hb7
                      try simp only [Act.put, List.setIfInBounds_toArray, List.set_cons_zero, List.set_cons_succ]
                      refine wpAnyH_take (i := 34) (oi := ⟨some 127, _, _, _, _, _⟩) (v := ?v433) rfl (by kernel_rfl) (by kernel_rfl) (by kernel_rfl) (fun _ _ _ h => h) (Or.inl ⟨rfl, ?c433⟩) hH ?r433
                      case c433 => (intro w' _; go_simp; (try with_reducible rfl))
                      try simp only [Act.put, List.setIfInBounds_toArray, List.set_cons_zero, List.set_cons_succ]
                      refine wpAnyH_take (i := 35) (oi := ⟨some 128, _, _, _, _, _⟩) (v := ?v434) rfl (by kernel_rfl) (by kernel_rfl) (by kernel_rfl) (fun _ _ _ h => h) (Or.inl ⟨rfl, ?c434⟩) hH ?r434
                      case c434 => (intro w' _; go_simp; (try with_reducible rfl))
                      try simp only [Act.put, List.setIfInBounds_toArray, List.set_cons_zero, List.set_cons_succ]
                      refine wpAnyH_done (by kernel_rfl) ?_ _
                      have HTE := Lib.hid hH.2.2.2.2.2.2.2.2.2.2.2.2.2.2.2.2.out
                      clear hH
                      have e0 := HLC.out _ HTE.out.bel
                      go_wp2_with fail
                      go_quiet (fail)
                      go_wp2_with fail
                      have HBW := Lib.hid (HB1.out.trans ((below_then hb.out HTE.out.bel).mono HB1.out.size))
                      exact bodyPost_ret (v := .tuple #[.slice none 0 0, .int .i64 (m : Int), .int .i64 3]) (by simp [results, Tryz.results6, go_sem]) rfl (ansR_no (by rw [HM.out]) (by rw [HM.out]) (by rw [HM.out]; rfl) (HBW.out.drews _))
          · obtain ⟨bA, bc, rfl⟩ := HRW.out.len
            have hd6 : ((wd.length : Int) != 6) = true := by rw [bne_iff_ne]; omega
            have HM : Hid (compile l = ([], m, 3)) := HC.out.trans (hcomp.out.trans (RulM.comp_bad HKL.out (by rw [HACC.out]; exact hk2) (RulM.parseW_len h6)))
            have HBW := Lib.hid (HB1.out.trans (hb.out.mono HB1.out.size))
            clear hwl HKL HRW h6
            generalize wd.length = wn at *
            go_wp2_with fail
            go_quiet (fail)
            go_wp2_with fail
            exact bodyPost_ret (v := .tuple #[.slice none 0 0, .int .i64 (m : Int), .int .i64 3]) (by simp [results, Tryz.results6, go_sem]) rfl (ansR_no (by rw [HM.out]) (by rw [HM.out]) (by rw [HM.out]; rfl) (HBW.out.drews _))
      · obtain rfl : k = n := by omega
        have HM : Hid (compile l = (acc, 0, 0)) := HC.out.trans (hcomp.out.trans (RulM.comp_end (by have := HN.out; omega)))
        go_wp2_with fail
        exact bodyPost_ret (v := .tuple #[u8, .int .i64 0, .int .i64 0]) (by simp [results, Tryz.results6, go_sem]) rfl ⟨u8, by rw [HM.out]; rfl, by rw [HM.out]; exact Rds.of_own hown.out, HB1.out.trans (hb.out.mono HB1.out.size)⟩
  · have HC : Hid (compile l = ([], lineOf l, errOf l)) := by show _ = _; unfold RulM.compile; rw [if_neg h0]
    have hd : ((errOf l : Int) != 0) = true := by rw [bne_iff_ne]; omega
    clear h0
    generalize linesOf l = ls at *
    generalize lineOf l = ln at *
    generalize errOf l = le at *
    go_enter Tryz.func6, Tryz.ntmps6
    go_wp2_with fail
    go_at_call 15
    refine HL.out.mono ?_
    rintro e w1 ⟨v1, rfl, -, hb1⟩
    have HB1 := Lib.hid hb1
    clear hb1 HL
    go_wp2_with fail
    exact bodyPost_ret (v := .tuple #[.slice none 0 0, .int .i64 (ln : Int), .int .i64 (le : Int)]) (by simp [results, Tryz.results6, go_sem]) rfl (ansR_no (by rw [HC.out]) (by rw [HC.out]) (by rw [HC.out]) HB1.out)

end Ru
end Go.Proofs.YtfbbkbjiaopnkaaGreatDoor
