/- Layer 12: awake, the law's fixed fact. (Written by wip/tools/mkRulR.py.) -/
import Derived.Test.YtfbbkbjiaopnkaaGreatDoorRulE
import Derived.Test.YtfbbkbjiaopnkaaGreatDoorRulJ
import Derived.Test.YtfbbkbjiaopnkaaGreatDoorRulQ
set_option linter.unusedVariables false
set_option linter.unusedSimpArgs false
namespace Go.Proofs.YtfbbkbjiaopnkaaGreatDoor
open Go.ChangeShapes Go.WideShapes Go.ChangeAt Go.RowKit Go.Mtl Go.Shelf Go.Lib
namespace Ru
open RulM (R compile printE printT goodR)

abbrev t1 : ByteArray := ⟨#[97, 99, 99, 101, 112, 116, 32, 116, 99, 112, 32, 97, 110, 121, 32, 97, 110, 121, 32, 49, 48, 46, 48, 46, 48, 46, 48, 47, 56, 32, 56, 48, 45, 57, 48, 10, 35, 32, 115, 111, 10, 100, 114, 111, 112, 32, 97, 110, 121, 32, 97, 110, 121, 32, 55, 32, 97, 110, 121, 32, 97, 110, 121]⟩
abbrev t2 : ByteArray := ⟨#[97, 99, 99, 101, 112, 116, 32, 116, 99, 112, 32, 97, 110, 121, 32, 97, 110, 121, 32, 49, 48, 46, 48, 46, 48, 46, 48, 47, 56, 32, 56, 48, 45, 57, 48, 10, 10, 100, 114, 111, 112, 32, 97, 110, 121, 32, 97, 110, 121, 32, 55, 32, 97, 110, 121]⟩
abbrev t3 : ByteArray := ⟨#[97, 99, 99, 101, 112, 116, 32, 116, 99, 112, 32, 97, 110, 121, 32, 97, 110, 121, 32, 49, 48, 46, 48, 46, 48, 46, 48, 47, 56, 32, 56, 48, 45, 57, 48, 10, 100, 114, 111, 112, 32, 97, 110, 121, 32, 97, 110, 121, 32, 55, 32, 97, 110, 121, 32, 97, 110, 121, 10]⟩
def a1 : R := ⟨true, 6, 0, 0, 167772160, 8, 0, 65535, 80, 90⟩
def a2 : R := ⟨false, 0, 0, 0, 0, 0, 7, 7, 0, 65535⟩
theorem t1_is : compile t1.data.toList = ([a1, a2], 0, 0) := by decide +kernel
theorem t2_is : compile t2.data.toList = ([], 3, 3) := by decide +kernel
theorem t3_is : printE [a1, a2] = 0 ∧ printT [a1, a2] = t3.data.toList ∧ goodR a1 = true := by decide +kernel
theorem a_ok : ∀ r ∈ [a1, a2], r.Ok := by
  intro r hr
  rcases List.mem_cons.1 hr with rfl | hr
  · exact ⟨by decide, by decide, by decide, by decide, by decide, by decide, by decide, by decide, by decide⟩
  · rw [List.mem_singleton.1 hr]
    exact ⟨by decide, by decide, by decide, by decide, by decide, by decide, by decide, by decide, by decide⟩

set_option maxRecDepth 100000 in
set_option maxHeartbeats 2000000 in
theorem awake_any (w : World) (he : Env w) :
    Calls Tryz.prog 7 #[] w fun e w' => e = .returned (.bool true) ∧ Below w.heap.size w w' := by
  have H1 := Lib.hid (fun W h => compile_any t1 W (by unfold maxLen; decide) h)
  have H2 := Lib.hid (fun W h => compile_any t2 W (by unfold maxLen; decide) h)
  unfold AnsR at H1 H2
  rw [t1_is] at H1
  rw [t2_is] at H2
  have HE := Lib.hid he
  clear he
  go_enter Tryz.func7, Tryz.ntmps7
  go_wp2_with fail
  go_at_call 5
  refine (H1.out _ HE.out).mono ?_
  rintro e w1 ⟨v1, rfl, hl1, hb1⟩
  have HB1 := Lib.hid hb1
  have HL1 := Lib.hid hl1
  clear hb1 hl1 H1
  go_wp2_with fail
  go_at_call 5
  refine (H2.out _ (HE.out.below HB1.out)).mono ?_
  rintro e w2 ⟨v2, rfl, -, hb2⟩
  have HB2 := Lib.hid (below_then HB1.out hb2)
  have HL2 := Lib.hid (HL1.out.below hb2)
  clear hb2 H2 HB1 HL1
  have HP := Lib.hid (print_any v1 [a1, a2] w2 (HE.out.below HB2.out) HL2.out a_ok)
  rw [t3_is.1, t3_is.2.1] at HP
  go_wp2_with fail
  go_at_call 9
  refine HP.out.mono ?_
  rintro e w3 ⟨rfl, hb3⟩
  have HB3 := Lib.hid (below_then HB2.out hb3)
  have HL3 := Lib.hid (HL2.out.below hb3)
  clear hb3 HP HB2 HL2
  obtain ⟨b, off, cap, rfl, hb, hc⟩ := HL3.out.at_ (k := 0) (r := a1) rfl
  obtain ⟨b', off', cap', hv, hb', hc'⟩ := HL3.out.at_ (k := 1) (r := a2) rfl
  injection hv with hv1 hv2 hv3
  injection hv1 with hv1
  injection hv1 with hv1 hv4
  subst hv1 hv4
  have HG := Lib.hid (good_any a1 (a_ok a1 (by simp)) w3 (HE.out.below HB3.out))
  rw [t3_is.2.2] at HG
  have hq : (t3.data.toList == [97, 99, 99, 101, 112, 116, 32, 116, 99, 112, 32, 97, 110, 121, 32, 97, 110, 121, 32, 49, 48, 46, 48, 46, 48, 46, 48, 47, 56, 32, 56, 48, 45, 57, 48, 10, 100, 114, 111, 112, 32, 97, 110, 121, 32, 97, 110, 121, 32, 55, 32, 97, 110, 121, 32, 97, 110, 121, 10]) = true := by decide +kernel
  have e0 : w3.cell? ⟨b, off, none⟩ = some (.bool true) := hc 0 _ rfl
  have e1 : w3.cell? ⟨b, off + 1, none⟩ = some (.int .u8 6) := by have h := hc 1 _ rfl; rw [show 0 * 10 + 1 = 1 from rfl] at h; exact h
  have e2 : w3.cell? ⟨b, off + 2, none⟩ = some (.int .u32 0) := by have h := hc 2 _ rfl; rw [show 0 * 10 + 2 = 2 from rfl] at h; exact h
  have e3 : w3.cell? ⟨b, off + 3, none⟩ = some (.int .i64 0) := by have h := hc 3 _ rfl; rw [show 0 * 10 + 3 = 3 from rfl] at h; exact h
  have e4 : w3.cell? ⟨b, off + 4, none⟩ = some (.int .u32 167772160) := by have h := hc 4 _ rfl; rw [show 0 * 10 + 4 = 4 from rfl] at h; exact h
  have e5 : w3.cell? ⟨b, off + 5, none⟩ = some (.int .i64 8) := by have h := hc 5 _ rfl; rw [show 0 * 10 + 5 = 5 from rfl] at h; exact h
  have e6 : w3.cell? ⟨b, off + 6, none⟩ = some (.int .u16 0) := by have h := hc 6 _ rfl; rw [show 0 * 10 + 6 = 6 from rfl] at h; exact h
  have e7 : w3.cell? ⟨b, off + 7, none⟩ = some (.int .u16 65535) := by have h := hc 7 _ rfl; rw [show 0 * 10 + 7 = 7 from rfl] at h; exact h
  have e8 : w3.cell? ⟨b, off + 8, none⟩ = some (.int .u16 80) := by have h := hc 8 _ rfl; rw [show 0 * 10 + 8 = 8 from rfl] at h; exact h
  have e9 : w3.cell? ⟨b, off + 9, none⟩ = some (.int .u16 90) := by have h := hc 9 _ rfl; rw [show 0 * 10 + 9 = 9 from rfl] at h; exact h
  have g6 : w3.cell? ⟨b, off + 16, none⟩ = some (.int .u16 7) := by have h := hc' 6 _ rfl; rw [show 1 * 10 + 6 = 16 from rfl] at h; exact h
  have g7 : w3.cell? ⟨b, off + 17, none⟩ = some (.int .u16 7) := by have h := hc' 7 _ rfl; rw [show 1 * 10 + 7 = 17 from rfl] at h; exact h
  clear hc hc' hv2 hv3 hb hb'
  go_wp2_with fail
  go_at_call 11
  refine HG.out.mono ?_
  rintro e w4 ⟨rfl, hb4⟩
  have HB4 := Lib.hid (below_then HB3.out hb4)
  clear hb4
  go_wp2_with fail
  go_ret
  exact ⟨rfl, HB4.out⟩
end Ru
end Go.Proofs.YtfbbkbjiaopnkaaGreatDoor
