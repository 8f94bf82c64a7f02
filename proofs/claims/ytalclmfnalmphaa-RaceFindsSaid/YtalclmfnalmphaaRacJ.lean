/- Layer 24: Before. (Written by wip/tools/mkRacJ.py.) -/
import Derived.Test.YtalclmfnalmphaaRacI
set_option linter.unusedVariables false
set_option linter.unusedSimpArgs false
set_option maxRecDepth 100000
namespace Go.Proofs.Ytalclmfnalmphaa
open Go.ChangeShapes Go.WideShapes Go.ChangeAt Go.RowKit Go.Mtl Go.Lib
namespace Rc
open RcM
theorem re_size (a b c : Nat) : (Try.prog.info? 52).map (·.size) = some (reA a b c).size := (by kernel_rfl : (Try.prog.info? 52).map (·.size) = some 3)
theorem rch_le {f : Nat → A} {a s : Nat} (h : Rch f a s) : a ≤ s := by
  rcases rch_hb.1 h with rfl | h
  · exact Nat.le_refl _
  · exact Nat.le_of_lt h.lt
theorem rch_start {f : Nat → A} {a : Nat} (s : Nat) : (False ∨ s = a) ↔ Rch f a s ∧ s < a + 1 + 0 := by
  constructor
  · rintro (h | rfl)
    · exact h.elim
    · exact ⟨.self, by omega⟩
  · rintro ⟨h, hl⟩; have := rch_le h; exact .inr (by omega)
open Classical in
theorem rch_yes {f : Nat → A} {a i : Nat} (h : preB f (fun s => Rch f a s ∧ s < i) (f i) = true) : Rch f a i := by
  unfold preB at h
  obtain ⟨s, ⟨h1, h2⟩, h3⟩ := of_decide_eq_true h
  exact .step h1 h2 h3
open Classical in
theorem rch_pre {f : Nat → A} {a i : Nat} (hl : a < i) (h : Rch f a i) : preB f (fun s => Rch f a s ∧ s < i) (f i) = true := by
  unfold preB
  refine decide_eq_true ?_
  cases h with
  | self => omega
  | step h1 h2 h3 => exact ⟨_, ⟨h1, h2⟩, h3⟩
theorem rch_add {f : Nat → A} {a i : Nat} (h : preB f (fun s => Rch f a s ∧ s < i) (f i) = true) (s : Nat) : (Rch f a s ∧ s < i) ∨ s = i ↔ Rch f a s ∧ s < i + 1 := by
  constructor
  · rintro (⟨h1, h2⟩ | rfl)
    · exact ⟨h1, by omega⟩
    · exact ⟨rch_yes h, by omega⟩
  · rintro ⟨h1, h2⟩
    by_cases e : s = i
    · exact .inr e
    · exact .inl ⟨h1, by omega⟩
theorem rch_not {f : Nat → A} {a i : Nat} (hl : a < i) (h : preB f (fun s => Rch f a s ∧ s < i) (f i) = false) (s : Nat) : (Rch f a s ∧ s < i) ↔ Rch f a s ∧ s < i + 1 := by
  constructor
  · rintro ⟨h1, h2⟩; exact ⟨h1, by omega⟩
  · rintro ⟨h1, h2⟩
    by_cases e : s = i
    · subst e; rw [rch_pre hl h1] at h; cases h
    · exact ⟨h1, by omega⟩
open Classical in
theorem rch_end {f : Nat → A} {a b n : Nat} (hl : a < b) (hb : b < n) : preB f (fun s => Rch f a s ∧ s < b) (f b) = beB f n (a : Int) (b : Int) := by
  rw [Bool.eq_iff_iff]
  constructor
  · intro h
    have h1 := rch_yes h
    unfold beB
    refine decide_eq_true ⟨by omega, by omega, by omega, ?_⟩
    rcases rch_hb.1 h1 with e | e
    · omega
    · exact e
  · intro h
    unfold beB at h
    obtain ⟨_, _, _, h4⟩ := of_decide_eq_true h
    exact rch_pre hl (rch_hb.2 (.inr h4))
open Classical in
theorem beB_out {f : Nat → A} {n : Nat} {a b : Int} (h : a < 0 ∨ b ≤ a ∨ (n : Int) ≤ b) : beB f n a b = false := by
  unfold beB
  exact decide_eq_false fun ⟨h1, h2, h3, _⟩ => by omega
set_option maxHeartbeats 4000000 in
theorem before_any (v : Value) (l : List A) (w : World) (h : Lg w w.heap.size v l) (a b : Int) : Calls Try.prog 10 #[v, .int .i64 a, .int .i64 b] w fun e w' => e = .returned (.bool (beB (fn l) l.length a b)) ∧ Below w.heap.size w w' := by
  obtain ⟨A0, c, rfl, hc1, hc2⟩ := h.len
  obtain ⟨n, hn⟩ : ∃ n, l.length = n := ⟨_, rfl⟩
  have h : Rd w w.heap.size 3 l.length (.slice A0 l.length c) (avs l) := h
  rw [hn] at h hc1 ⊢
  have HN := Lib.hid hn
  have HL := Lib.hid h
  have hmm := @run_makeMap Try.prog
  clear h hn
  by_cases ha : a < 0
  · have HF := Lib.hid (beB_out (f := fn l) (n := n) (a := a) (b := b) (.inl ha))
    have d0 : decide (a < 0) = true := decide_eq_true ha
    clear ha
    go_in
    go_wp2_with fail
    go_ret
    exact ⟨by rw [HF.out]; rfl, Below.refl _ _⟩
  by_cases hab : b ≤ a
  · have HF := Lib.hid (beB_out (f := fn l) (n := n) (a := a) (b := b) (.inr (.inl hab)))
    have d0 : decide (a < 0) = false := decide_eq_false ha
    have d1 : decide (a ≥ b) = true := decide_eq_true hab
    clear ha hab
    go_in
    go_wp2_with fail
    go_ret
    exact ⟨by rw [HF.out]; rfl, Below.refl _ _⟩
  by_cases hbn : (n : Int) ≤ b
  · have HF := Lib.hid (beB_out (f := fn l) (n := n) (a := a) (b := b) (.inr (.inr hbn)))
    have d0 : decide (a < 0) = false := decide_eq_false ha
    have d1 : decide (a ≥ b) = false := decide_eq_false hab
    have d2 : decide (b ≥ (n : Int)) = true := decide_eq_true hbn
    clear ha hab hbn
    go_in
    go_wp2_with fail
    go_ret
    exact ⟨by rw [HF.out]; rfl, Below.refl _ _⟩
  obtain ⟨an, rfl⟩ : ∃ q : Nat, a = (q : Int) := ⟨a.toNat, by omega⟩
  obtain ⟨bn, rfl⟩ : ∃ q : Nat, b = (q : Int) := ⟨b.toNat, by omega⟩
  have d0 : decide ((an : Int) < 0) = false := decide_eq_false ha
  have d1 : decide ((an : Int) ≥ (bn : Int)) = false := decide_eq_false hab
  have d2 : decide ((bn : Int) ≥ (n : Int)) = false := decide_eq_false hbn
  have l1 : an < bn := by omega
  have l2 : bn < n := by omega
  clear ha hab hbn
  obtain ⟨⟨t, kd, pl⟩, lb, off, hx, rfl, hlb, y0, y1, y2⟩ := Lg.at_ HL.out HN.out (show an < n by omega)
  have HFX := Lib.hid (fn_at hx)
  have HLB0 := Lib.hid hlb
  dsimp only at y0 y1 y2
  have HRE : Hid (∃ m1 m2 m3 rb, Blk ((((w.alloc (.map #[] 0)).alloc (.map #[] 0)).alloc (.map #[] 0)).alloc (.cells #[.map (some w.heap.size), .map (some (w.heap.size + 1)), .map (some (w.heap.size + 1 + 1))] 52)) rb (reA m1 m2 m3) 52 ∧ rb = w.heap.size + 1 + 1 + 1 ∧ m1 = w.heap.size ∧ m2 = w.heap.size + 1 ∧ m3 = w.heap.size + 1 + 1 ∧
      Re ((((w.alloc (.map #[] 0)).alloc (.map #[] 0)).alloc (.map #[] 0)).alloc (.cells #[.map (some w.heap.size), .map (some (w.heap.size + 1)), .map (some (w.heap.size + 1 + 1))] 52)) m1 m2 m3 (fn l) (fun _ => False)) := by
    have sz : ∀ (w : World) (o : Obj), (w.alloc o).heap.size = w.heap.size + 1 := fun w o => by simp
    have nx : ∀ {w : World} {m : Nat} {f : Int → Option Value} (o : Obj), MapI w m f → MapI (w.alloc o) m f := fun o h => h.next (below_box _ o)
    have a1 := nx (.cells (reA w.heap.size (w.heap.size + 1) (w.heap.size + 2)) 52) (nx (.map #[] 0) (nx (.map #[] 0) (MapI.new w)))
    have a2 := nx (.cells (reA w.heap.size (w.heap.size + 1) (w.heap.size + 2)) 52) (nx (.map #[] 0) (MapI.new (w.alloc (.map #[] 0))))
    have a3 := nx (.cells (reA w.heap.size (w.heap.size + 1) (w.heap.size + 2)) 52) (MapI.new ((w.alloc (.map #[] 0)).alloc (.map #[] 0)))
    have b4 := Blk.box (((w.alloc (.map #[] 0)).alloc (.map #[] 0)).alloc (.map #[] 0)) (reA w.heap.size (w.heap.size + 1) (w.heap.size + 2)) 52
    rw [sz] at a2
    rw [sz, sz] at a3
    rw [sz, sz, sz] at b4
    exact ⟨_, _, _, _, b4, rfl, rfl, rfl, rfl, ⟨(St.new a1).as fun k => ⟨fun h => h.elim, fun ⟨_, h, _⟩ => h⟩, (St.new a2).as fun k => ⟨fun h => h.elim, fun ⟨_, h, _⟩ => h⟩, (St.new a3).as fun k => ⟨fun h => h.elim, fun ⟨_, h, _⟩ => h⟩, by omega, by omega, by omega⟩⟩
  have HB1 : Hid (Below w.heap.size w ((((w.alloc (.map #[] 0)).alloc (.map #[] 0)).alloc (.map #[] 0)).alloc (.cells #[.map (some w.heap.size), .map (some (w.heap.size + 1)), .map (some (w.heap.size + 1 + 1))] 52))) := ((((Below.refl _ w).alloc (Nat.le_refl _) _).alloc (by simp) _).alloc (by simp; omega) _).alloc (by simp; omega) _
  clear hx hlb
  go_in
  go_wp2_with fail
  generalize ((((w.alloc (.map #[] 0)).alloc (.map #[] 0)).alloc (.map #[] 0)).alloc (.cells #[.map (some w.heap.size), .map (some (w.heap.size + 1)), .map (some (w.heap.size + 1 + 1))] 52)) = w3 at *
  obtain ⟨rb0, hrb0⟩ : ∃ x, w.heap.size + 1 + 1 + 1 = x := ⟨_, rfl⟩
  have HRB := Lib.hid hrb0
  rw [hrb0] at HRE ⊢
  clear hrb0
  obtain ⟨m1, m2, m3, rb, hrb, rfl, hm1, hm2, hm3, hre⟩ := HRE.out
  have HMM : Hid (w.heap.size ≤ m1 ∧ w.heap.size ≤ m2 ∧ w.heap.size ≤ m3 ∧ rb ≠ m1 ∧ rb ≠ m2 ∧ rb ≠ m3 ∧ w.heap.size ≤ rb) := by
    have := HRB.out
    show _ ∧ _
    omega
  have HB3 := Lib.hid hrb
  have HR3 := Lib.hid hre
  have x0 := (HB1.out.drew.cell (p := ⟨lb, off + an * 3, none⟩) HLB0.out).trans y0
  have x1 := (HB1.out.drew.cell (p := ⟨lb, off + an * 3 + 1, none⟩) HLB0.out).trans y1
  have x2 := (HB1.out.drew.cell (p := ⟨lb, off + an * 3 + 2, none⟩) HLB0.out).trans y2
  clear hrb hre hm1 hm2 hm3 HRE y0 y1 y2 HRB
  refine wp_region_held_drew (S := (fun w' => w'.cell? ⟨lb, off + an * 3, none⟩ = some (.int .i64 t) ∧ w'.cell? ⟨lb, off + an * 3 + 1, none⟩ = some (.int .i64 kd) ∧ w'.cell? ⟨lb, off + an * 3 + 2, none⟩ = some (.int .i64 pl) ∧ Hid (Blk w' rb (reA m1 m2 m3) 52))) (by kernel_rfl) (⟨x0, x1, x2, (show Hid _ from HB3.out.drew)⟩) (fun hH => ?_)
  refine wpAnyH_take (i := 0) (oi := ⟨some 27, _, _, _, _, _⟩) (v := ?v1) rfl (by kernel_rfl) (by kernel_rfl) (by kernel_rfl) (fun _ _ _ h => h) (Or.inl ⟨rfl, ?c1⟩) hH ?r1
  case c1 => (intro w' hS; refine take_load_row 52 (.tmp 7) ?_ rb ?_ hS.2.2.2.out Try.underlying52 rfl (re_size _ _ _) <;> rfl)
  try simp only [Act.put, List.setIfInBounds_toArray, List.set_cons_zero, List.set_cons_succ]
  refine wpAnyH_take (i := 1) (oi := ⟨some 28, _, _, _, _, _⟩) (v := ?v2) rfl (by kernel_rfl) (by kernel_rfl) (by kernel_rfl) (fun _ _ _ h => h) (Or.inl ⟨rfl, ?c2⟩) hH ?r2
  case c2 => (intro w' _; go_simp; (try with_reducible rfl))
  try simp only [Act.put, List.setIfInBounds_toArray, List.set_cons_zero, List.set_cons_succ]
  refine wpAnyH_take (i := 2) (oi := ⟨some 29, _, _, _, _, _⟩) (v := ?v3) rfl (by kernel_rfl) (by kernel_rfl) (by kernel_rfl) (fun _ _ _ h => h) (Or.inl ⟨rfl, ?c3⟩) hH ?r3
  case c3 => (intro w' _; go_simp; (try with_reducible rfl))
  try simp only [Act.put, List.setIfInBounds_toArray, List.set_cons_zero, List.set_cons_succ]
  refine wpAnyH_take (i := 3) (oi := ⟨some 30, _, _, _, _, _⟩) (v := ?v4) rfl (by kernel_rfl) (by kernel_rfl) (by kernel_rfl) (fun _ _ _ h => h) (Or.inl ⟨rfl, ?c4⟩) hH ?r4
  case c4 => (intro w' _; go_simp; rw [if_pos (by omega)])
  try simp only [Act.put, List.setIfInBounds_toArray, List.set_cons_zero, List.set_cons_succ]
  refine wpAnyH_take (i := 4) (oi := ⟨some 31, _, _, _, _, _⟩) (v := ?v5) rfl (by kernel_rfl) (by kernel_rfl) (by kernel_rfl) (fun _ _ _ h => h) (Or.inl ⟨rfl, ?c5⟩) hH ?r5
  case c5 => (intro w' hS; (try dsimp only at hS); go_simp; (try with_reducible rfl))
  try simp only [Act.put, List.setIfInBounds_toArray, List.set_cons_zero, List.set_cons_succ]
  refine wpAnyH_ready (rs := [5]) (by kernel_rfl) (by simp) (AllReadyH.cons rfl (fun K hK => ?_) (AllReadyH.nil))
  go_simp
  go_at_call 17
  refine (radd_any HR3.out.drew an ⟨t, kd, pl⟩ HFX.out).mono ?_
  rintro e w5 ⟨rfl, hr5, ho5⟩
  have hno : ∀ j, (j = m1 ∨ j = m2 ∨ j = m3) → w.heap.size ≤ j ∧ rb ≠ j := fun j hj => by
    have := HMM.out
    rcases hj with rfl | rfl | rfl <;> omega
  have hb5 : Below w.heap.size w3.drew w5 := ho5.below (fun j hj => (hno j hj).1) HB1.out.drew.size
  refine hK.out _ _ (⟨(hb5.cell (p := ⟨lb, off + an * 3, none⟩) HLB0.out).trans hH.1, (hb5.cell (p := ⟨lb, off + an * 3 + 1, none⟩) HLB0.out).trans hH.2.1, (hb5.cell (p := ⟨lb, off + an * 3 + 2, none⟩) HLB0.out).trans hH.2.2.1, (show Hid _ from hH.2.2.2.out.only ho5 fun e => (hno rb e).2 rfl)⟩) (fun hH => ?_)
  clear hK K
  clear hH hb5
  try simp only [Act.put, List.setIfInBounds_toArray, List.set_cons_zero, List.set_cons_succ]
  refine wpAnyH_done (by kernel_rfl) ?_ _
  
  have HR5 : Hid (Re w5 m1 m2 m3 (fn l) fun s => Rch (fn l) an s ∧ s < an + 1 + 0) := hr5.as rch_start
  have HNO := Lib.hid hno
  have HB5 : Hid (Below w.heap.size w w5) := HB1.out.drew.trans (ho5.below (fun j hj => (hno j hj).1) HB1.out.drew.size)
  have HK5 : Hid (Blk w5 rb (reA m1 m2 m3) 52) := HB3.out.drew.only ho5 fun e => (hno rb e).2 rfl
  clear hr5 ho5 hno HB1 HB3 HR3 x0 x1 x2
  go_wp2_with fail
  go_loopw [9, 39] (fun _ vk wr => ∃ k : Nat, vk = .int .i64 (k : Int) ∧ k ≤ bn - (an + 1) ∧ Hid (Below w.heap.size w wr ∧ Blk wr rb (reA m1 m2 m3) 52 ∧ Re wr m1 m2 m3 (fn l) fun s => Rch (fn l) an s ∧ s < an + 1 + k)) (fun _ vk _ => (bn - (an + 1)) - (RowKit.intOf vk).toNat)
  case atStart => exact ⟨0, rfl, by omega, (show Hid _ from ⟨HB5.out, HK5.out, HR5.out⟩)⟩
  case round =>
    obtain ⟨k, rfl, hk, HW⟩ := hrel
    by_cases hlt : k < bn - (an + 1)
    · obtain ⟨⟨t2, kd2, pl2⟩, lb', off', hx, he, hlb, z0, z1, z2⟩ := Lg.at_ (HL.out.below HW.out.1) HN.out (show an + 1 + k < n by omega)
      injection he with he
      injection he with he1 he2
      subst he1 he2
      dsimp only at z0 z1 z2
      rw [show off + (an + 1 + k) * 3 = off + (an + 1) * 3 + k * 3 by omega] at z0 z1 z2
      have HX2 := Lib.hid (fn_at hx)
      have HQ := Lib.hid (Blk.box wr (acc ⟨t2, kd2, pl2⟩) 32)
      have hb6 := below_box wr (.cells (acc ⟨t2, kd2, pl2⟩) 32)
      have HB6 := Lib.hid (HW.out.1.trans (hb6.mono HW.out.1.size))
      have HK6 := Lib.hid (HW.out.2.1.next hb6)
      have HR6 := Lib.hid (HW.out.2.2.next hb6)
      have r0 := HK6.out.cell 0 _ rfl
      have r1 := HK6.out.cell 1 _ rfl
      have r2 := HK6.out.cell 2 _ rfl
      clear hx hlb hb6
      go_wp2_with fail
      refine (pre_any HR6.out ⟨t2, kd2, pl2⟩).mono ?_
      rintro e w7 ⟨rfl, hb7⟩
      have HB7 := Lib.hid (HB6.out.trans (hb7.mono HB6.out.size))
      have HK7 := Lib.hid (HK6.out.next hb7)
      have HR7 := Lib.hid (HR6.out.next hb7)
      have HQ7 := Lib.hid (HQ.out.next hb7)
      have q0 := HQ7.out.cell 0 _ rfl
      have q1 := HQ7.out.cell 1 _ rfl
      have q2 := HQ7.out.cell 2 _ rfl
      have s0 := HK7.out.cell 0 _ rfl
      have s1 := HK7.out.cell 1 _ rfl
      have s2 := HK7.out.cell 2 _ rfl
      clear hb7 HB6 HK6 HR6 HQ r0 r1 r2 z0 z1 z2
      cases hp : preB (fn l) (fun s => Rch (fn l) an s ∧ s < an + 1 + k) ⟨t2, kd2, pl2⟩ with
      | true =>
        have hp2 := hp
        rw [← HX2.out] at hp2
        have HPP := Lib.hid hp2
        clear hp2
        go_wp2_with fail
        go_at_call 17
        refine (radd_any HR7.out (an + 1 + k) ⟨t2, kd2, pl2⟩ HX2.out).mono ?_
        rintro e w8 ⟨rfl, hr8, ho8⟩
        have HF : Hid (Below w.heap.size w w8 ∧ Blk w8 rb (reA m1 m2 m3) 52 ∧ Re w8 m1 m2 m3 (fn l) fun s => Rch (fn l) an s ∧ s < an + 1 + (k + 1)) :=
          ⟨HB7.out.trans (ho8.below (fun j hj => (HNO.out j hj).1) HB7.out.size), HK7.out.only ho8 fun e => (HNO.out rb e).2 rfl, hr8.as (rch_add HPP.out)⟩
        clear hr8 ho8 hp HB7 HK7 HR7 HQ7 q0 q1 q2 s0 s1 s2
        go_wp2_with fail
        go_roundw
        case rel => exact ⟨k + 1, by go_num, by omega, HF⟩
        case measure => simp [RowKit.intOf]; omega
      | false =>
        have hp2 := hp
        rw [← HX2.out] at hp2
        have HF : Hid (Below w.heap.size w w7 ∧ Blk w7 rb (reA m1 m2 m3) 52 ∧ Re w7 m1 m2 m3 (fn l) fun s => Rch (fn l) an s ∧ s < an + 1 + (k + 1)) :=
          ⟨HB7.out, HK7.out, HR7.out.as (rch_not (by omega) hp2)⟩
        clear hp2
        go_wp2_with fail
        go_roundw
        case rel => exact ⟨k + 1, by go_num, by omega, HF⟩
        case measure => simp [RowKit.intOf]; omega
    · obtain rfl : k = bn - (an + 1) := by omega
      obtain ⟨⟨t2, kd2, pl2⟩, lb', off', hx, he, hlb, z0, z1, z2⟩ := Lg.at_ (HL.out.below HW.out.1) HN.out l2
      injection he with he
      injection he with he1 he2
      subst he1 he2
      dsimp only at z0 z1 z2
      have HX2 := Lib.hid (fn_at hx)
      have HLB : Hid (lb < wr.heap.size) := Nat.lt_of_lt_of_le hlb HW.out.1.size
      have HPE2 : Hid (preB (fn l) (fun s => Rch (fn l) an s ∧ s < an + 1 + (bn - (an + 1))) ⟨t2, kd2, pl2⟩ = beB (fn l) n (an : Int) (bn : Int)) := by
        show _ = _
        rw [show an + 1 + (bn - (an + 1)) = bn by omega, ← HX2.out]
        exact rch_end l1 l2
      clear hx hlb
      go_wp2_with fail
      refine wp_region_held_drew (S := (fun w' => w'.cell? ⟨lb, off + bn * 3, none⟩ = some (.int .i64 t2) ∧ w'.cell? ⟨lb, off + bn * 3 + 1, none⟩ = some (.int .i64 kd2) ∧ w'.cell? ⟨lb, off + bn * 3 + 2, none⟩ = some (.int .i64 pl2) ∧ Hid (Blk w' rb (reA m1 m2 m3) 52))) (by kernel_rfl) (⟨z0, z1, z2, (show Hid _ from HW.out.2.1.drew)⟩) (fun hH => ?_)
      refine wpAnyH_take (i := 0) (oi := ⟨some 50, _, _, _, _, _⟩) (v := ?v201) rfl (by kernel_rfl) (by kernel_rfl) (by kernel_rfl) (fun _ _ _ h => h) (Or.inl ⟨rfl, ?c201⟩) hH ?r201
      case c201 => (intro w' hS; refine take_load_row 52 (.tmp 7) ?_ rb ?_ hS.2.2.2.out Try.underlying52 rfl (re_size _ _ _) <;> rfl)
      try simp only [Act.put, List.setIfInBounds_toArray, List.set_cons_zero, List.set_cons_succ]
      refine wpAnyH_take (i := 1) (oi := ⟨some 51, _, _, _, _, _⟩) (v := ?v202) rfl (by kernel_rfl) (by kernel_rfl) (by kernel_rfl) (fun _ _ _ h => h) (Or.inl ⟨rfl, ?c202⟩) hH ?r202
      case c202 => (intro w' _; go_simp; (try with_reducible rfl))
      try simp only [Act.put, List.setIfInBounds_toArray, List.set_cons_zero, List.set_cons_succ]
      refine wpAnyH_take (i := 2) (oi := ⟨some 52, _, _, _, _, _⟩) (v := ?v203) rfl (by kernel_rfl) (by kernel_rfl) (by kernel_rfl) (fun _ _ _ h => h) (Or.inl ⟨rfl, ?c203⟩) hH ?r203
      case c203 => (intro w' _; go_simp; (try with_reducible rfl))
      try simp only [Act.put, List.setIfInBounds_toArray, List.set_cons_zero, List.set_cons_succ]
      refine wpAnyH_take (i := 3) (oi := ⟨some 53, _, _, _, _, _⟩) (v := ?v204) rfl (by kernel_rfl) (by kernel_rfl) (by kernel_rfl) (fun _ _ _ h => h) (Or.inl ⟨rfl, ?c204⟩) hH ?r204
      case c204 => (intro w' _; go_simp; (try with_reducible rfl))
      try simp only [Act.put, List.setIfInBounds_toArray, List.set_cons_zero, List.set_cons_succ]
      refine wpAnyH_take (i := 4) (oi := ⟨some 54, _, _, _, _, _⟩) (v := ?v205) rfl (by kernel_rfl) (by kernel_rfl) (by kernel_rfl) (fun _ _ _ h => h) (Or.inl ⟨rfl, ?c205⟩) hH ?r205
      case c205 => (intro w' hS; (try dsimp only at hS); go_simp; (try with_reducible rfl))
      try simp only [Act.put, List.setIfInBounds_toArray, List.set_cons_zero, List.set_cons_succ]
      refine wpAnyH_ready (rs := [5]) (by kernel_rfl) (by simp) (AllReadyH.cons rfl (fun K hK => ?_) (AllReadyH.nil))
      go_simp
      go_at_call 18
      refine (pre_any HW.out.2.2.drew ⟨t2, kd2, pl2⟩).mono ?_
      rintro e w6 ⟨rfl, hb6⟩
      refine hK.out _ _ (⟨(hb6.cell (p := ⟨lb, off + bn * 3, none⟩) HLB.out).trans hH.1, (hb6.cell (p := ⟨lb, off + bn * 3 + 1, none⟩) HLB.out).trans hH.2.1, (hb6.cell (p := ⟨lb, off + bn * 3 + 2, none⟩) HLB.out).trans hH.2.2.1, (show Hid _ from hH.2.2.2.out.next hb6)⟩) (fun hH => ?_)
      clear hK K
      try simp only [Act.put, List.setIfInBounds_toArray, List.set_cons_zero, List.set_cons_succ]
      refine wpAnyH_take (i := 6) (oi := ⟨some 6, _, _, _, _, _⟩) (v := ?v206) rfl (by kernel_rfl) (by kernel_rfl) (by kernel_rfl) (fun _ _ _ h => h) (Or.inl ⟨rfl, ?c206⟩) hH ?r206
      case c206 => (intro w' _; go_simp; (try with_reducible rfl))
      try simp only [Act.put, List.setIfInBounds_toArray, List.set_cons_zero, List.set_cons_succ]
      refine wpAnyH_done (by kernel_rfl) ?_ _
      have HB9 := Lib.hid (HW.out.1.drew.trans (hb6.mono HW.out.1.drew.size))
      clear hH hb6
      go_wp2_with fail
      go_ret
      exact ⟨by rw [← HPE2.out]; rfl, HB9.out⟩

end Rc
end Go.Proofs.Ytalclmfnalmphaa
