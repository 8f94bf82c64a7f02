/- Layer 3: what the library's variables hold (Env), and the contract of addr.number. -/
import Derived.Test.YtfbbkbjiaopnkaaGreatDoorRows
import Derived.Test.YtfbbkbjiaopnkaaGreatDoorShelf
import Derived.Test.YtfbbkbjiaopnkaaGreatDoorAdrM
import Derived.Test.YtfbbkbjiaopnkaaGreatDoorComO
import Derived.WalkKit
import Derived.ProofKit
import Derived.OpenShut
import Derived.BigQuiet
import Derived.Lib.Hide
import Derived.Lib.ItoaMem
import Derived.Deep.RegionWith
set_option linter.unusedVariables false
set_option linter.unusedSimpArgs false
namespace Go.Proofs.YtfbbkbjiaopnkaaGreatDoor
open Go.ChangeShapes Go.WideShapes Go.ChangeAt Go.RowKit Go.Mtl Go.Shelf Go.Sort Go.Lib
namespace Ad
open AdrM (byteS byteS_some byteS_of_parse_ok byteS_of_parse_not byteS_le)

theorem gSyn : Tryz.prog.globalNamed "strconv.ErrSyntax" = some 5 := by kernel_rfl
theorem gRng : Tryz.prog.globalNamed "strconv.ErrRange" = some 6 := by kernel_rfl
theorem gTab : Tryz.prog.globalNamed "internal/strconv.uint64pow10" = some 7 := by kernel_rfl

/-- What the library's variables hold. -/
structure Env (w : World) : Prop where
  max : ∃ m, w.cell? ⟨0, 0, none⟩ = some (.int .i64 m)
  syn : ∃ tp p, w.var? Tryz.prog "strconv.ErrSyntax" = some #[.iface tp p]
  rng : ∃ tp p, w.var? Tryz.prog "strconv.ErrRange" = some #[.iface tp p]
  tab : TabIs Tryz.prog w "internal/strconv.uint64pow10" .u64 pow10Tab

theorem var_lt {P : Program} {w : World} {n : String} {g : Nat} {cs : Array Value} (hg : P.globalNamed n = some g) (h : w.var? P n = some cs) : g < w.heap.size := by
  unfold World.var? at h
  simp only [hg, Option.bind_some] at h
  rcases Nat.lt_or_ge g w.heap.size with h' | h'
  · exact h'
  · rw [Array.getElem?_eq_none h'] at h; simp at h
theorem var_below {P : Program} {w w' : World} {n : String} {g : Nat} {cs : Array Value} (hg : P.globalNamed n = some g) (h : w.var? P n = some cs) (hb : Below w.heap.size w w') : w'.var? P n = some cs := by
  have hlt := var_lt hg h
  unfold World.var? at *
  simp only [hg, Option.bind_some] at h ⊢
  rw [hb.block g hlt]
  exact h
theorem Env.below {w w' : World} (h : Env w) (hb : Below w.heap.size w w') : Env w' := by
  obtain ⟨⟨m, h1⟩, ⟨t2, p2, h2⟩, ⟨t3, p3, h3⟩, h4⟩ := h
  have hlt := World.block_lt_of_cell? _ _ h1
  exact ⟨⟨m, (hb.cell hlt).trans h1⟩, ⟨t2, p2, var_below gSyn h2 hb⟩, ⟨t3, p3, var_below gRng h3 hb⟩, var_below gTab h4 hb⟩
theorem Env.alloc {w : World} (h : Env w) (o : Obj) : Env (w.alloc o) := h.below ((Below.refl _ _).alloc (Nat.le_refl _) o)
theorem Env.drewN {w : World} (h : Env w) (n : Nat) : Env (w.drewN n) := ⟨h.max, h.syn, h.rng, h.tab⟩
theorem Env.drew {w : World} (h : Env w) : Env w.drew := ⟨h.max, h.syn, h.rng, h.tab⟩
theorem below_drewN (w : World) (n : Nat) : Below w.heap.size w (w.drewN n) := ⟨rfl, rfl, rfl, Nat.le_refl _, fun _ _ => rfl⟩
theorem below_grow (w : World) (k : Nat) (os : Array Obj) : Below w.heap.size w (Sort.grow (w.drewN k) os) := by
  refine ⟨rfl, rfl, rfl, by simp [Sort.grow], fun i hi => ?_⟩
  show ((w.heap ++ os)[i]?) = w.heap[i]?
  rw [Array.getElem?_append_left hi]
theorem below_bytesWorld (w : World) (e : TypeId) (s : ByteArray) : Below w.heap.size w (bytesWorld w e s) := Lib.bytesWorld_below w e s

theorem list_of (s : ByteArray) : (⟨s.data.toList.toArray⟩ : ByteArray) = s := by cases s; simp
theorem ba_eq {s t : ByteArray} (h : s.data.toList = t.data.toList) : s = t := by rw [← list_of s, h, list_of]

set_option maxRecDepth 100000 in
set_option maxHeartbeats 3200000 in
/-- internal/strconv.FormatUint at base 10. -/
theorem intFormat_any (u : Nat) (hu : u ≤ 255) (w : World) (htab : TabIs Tryz.prog w "internal/strconv.uint64pow10" .u64 pow10Tab) :
    Calls Tryz.prog 81 #[.int .u64 (u : Int), .int .i64 10] w fun e w' => e = .returned (.string ⟨(decDigits u).toArray⟩) ∧ Below w.heap.size w w' := by
  by_cases hs : u < 100
  · go_enter Tryz.func81, Tryz.ntmps81
    go_wp2_with (go_at_call 96; refine (Tryz.internal_strconv_small u hs _).mono ?_; rintro e w' ⟨rfl, rfl⟩)
    go_ret
    exact ⟨rfl, Below.refl _ _⟩
  · have hu1 : 1 ≤ u := by omega
    have hu64 : u < 18446744073709551616 := by omega
    have hnd20 : nDigits u ≤ 20 := by have := numDigits_eq u hu1 hu64; split at this <;> omega
    have hsl : ∀ W, (Instr.sliceAt 148 (.pointer (some ⟨w.heap.size, 0, none⟩)) none (some (.int .i64 (nDigits u : Int))) none).run Tryz.prog W = .ok (.slice (some ⟨w.heap.size, 0, none⟩) (nDigits u) 24) W := fun W => by
      rw [run_sliceAt_array_h W 148 ⟨w.heap.size, 0, none⟩ (by simp [Program.arrayLen, Program.elem, Tryz.underlying148]) .i64 (nDigits u : Int) (by omega) (by simp [Program.arrayLen, Tryz.underlying148]; omega)]
      go_simp
    have hH0 := holds_zero0 w 148 (nDigits u) (by omega)
    have hfmt := Tryz.internal_strconv_formatBase10 w.heap.size 0 24 u (Array.replicate (nDigits u) 0) (w.alloc (.cells zeros24 148)) hH0 (by rw [Array.size_replicate]; exact lt_pow_nDigits u) hu64 (by rw [Array.size_replicate]; omega)
    rw [Array.size_replicate] at hfmt
    have HH0 := Lib.hid hH0
    clear hH0
    go_enter Tryz.func81, Tryz.ntmps81
    go_wp2_with (go_at_call 97; refine (Tryz.internal_strconv_numDigits u hu1 hu64 _ (tabIs_alloc htab _)).mono ?_; rintro e w' ⟨rfl, rfl⟩)
    go_at_call 98
    refine hfmt.mono ?_
    rintro e w' ⟨rfl, k, v', dk, rfl, hF⟩
    have hcv : (convert 61 9 (.slice (some ⟨w.heap.size, 0, none⟩) (nDigits u) 24)).run Tryz.prog ((putRow (fun (b : UInt8) => Value.int .u8 (b.toNat : Int)) (w.alloc (.cells zeros24 148)) w.heap.size 0 dk).drewN k) = .ok (.string ⟨(decDigits u).toArray⟩) ((putRow (fun (b : UInt8) => Value.int .u8 (b.toNat : Int)) (w.alloc (.cells zeros24 148)) w.heap.size 0 dk).drewN k) := by
      have h := run_convert_bytes_back (P := Tryz.prog) ((putRow (fun (b : UInt8) => Value.int .u8 (b.toNat : Int)) (w.alloc (.cells zeros24 148)) w.heap.size 0 dk).drewN k) 61 9 5 ⟨w.heap.size, 0, none⟩ 24 (decDigits u) Tryz.underlying61 Tryz.underlying5 Tryz.underlying9 (fun j hj => by
        rw [row_is_numeral hF j hj, Lib.add_plain, World.cell?_drewN]
        exact cell?_putRow (fun (b : UInt8) => Value.int .u8 (b.toNat : Int)) _ w.heap.size 0 _ dk HH0.out (by rw [hF.size, Array.size_replicate]) j (by rw [hF.size]; rw [decDigits_length] at hj; exact hj))
      rw [decDigits_length] at h
      exact h
    obtain ⟨os, eo⟩ := fin_at w (.cells zeros24 148) dk k 0
    have hb : Below w.heap.size w ((putRow (fun (b : UInt8) => Value.int .u8 (b.toNat : Int)) (w.alloc (.cells zeros24 148)) w.heap.size 0 dk).drewN k) := by rw [eo]; exact Lib.below_grow w.heap.size w (Nat.le_refl _) k os
    have HB := Lib.hid hb
    clear eo hb hfmt
    go_wp2
    go_ret
    exact ⟨rfl, HB.out⟩
theorem format_any (u : Nat) (hu : u ≤ 255) (w : World) (he : Env w) :
    Calls Tryz.prog 67 #[.int .u64 (u : Int), .int .i64 10] w fun e w' => e = .returned (.string ⟨(decDigits u).toArray⟩) ∧ Below w.heap.size w w' := by
  have HF := Lib.hid (intFormat_any u hu w he.tab)
  clear he
  go_enter Tryz.func67, Tryz.ntmps67
  go_wp2_with (go_at_call 81; refine HF.out.mono ?_; rintro e w' ⟨rfl, hb⟩)
  go_ret
  exact ⟨rfl, hb⟩

/-- What number answers. -/
def numRes (l : List UInt8) : Value := match byteS l with
  | some n => .tuple #[.int .u8 (n : Int), .bool true]
  | none => .tuple #[.int .u8 0, .bool false]
theorem numRes_some {l : List UInt8} {n : Nat} (h : byteS l = some n) : numRes l = .tuple #[.int .u8 (n : Int), .bool true] := by unfold numRes; rw [h]
theorem numRes_none {l : List UInt8} (h : byteS l = none) : numRes l = .tuple #[.int .u8 0, .bool false] := by unfold numRes; rw [h]

/-- strconv.ParseUint of a text that is no number of 8 bits. -/
theorem parse_bad (s : ByteArray) (hs : s.size ≤ 1000000) (w : World) (he : Env w) (h : ∀ u, parseUintB 8 s.data.toList ≠ .ok u) :
    Calls Tryz.prog 66 #[.string s, .int .i64 10, .int .i64 8] w fun e w' => ∃ (u : Int) (p : Value), e = .returned (.tuple #[.int .u64 u, .iface 145 p]) ∧ Below w.heap.size w w' := by
  obtain ⟨t1, p1, hv1⟩ := he.syn
  obtain ⟨t2, p2, hv2⟩ := he.rng
  rcases hp : parseUintB 8 s.data.toList with u | _ | _
  · exact absurd hp (h u)
  · exact (Any.strconv_ParseUint_10_at8_syntax_var Tryz.laysPu14 s (by omega) hp t1 p1 w hv1).mono fun e w' ⟨N, he, _, _, hb⟩ => ⟨_, _, he, hb⟩
  · exact (Any.strconv_ParseUint_10_at8_range_var Tryz.laysPu14 s (by omega) hp t2 p2 w hv2).mono fun e w' ⟨N, he, _, _, hb⟩ => ⟨_, _, he, hb⟩
set_option maxHeartbeats 1000000 in
theorem number_any (s : ByteArray) (hs : s.size ≤ 1000000) (w : World) (he : Env w) :
    Calls Tryz.prog 52 #[.string s] w fun e w' => e = .returned (numRes s.data.toList) ∧ Below w.heap.size w w' := by
  by_cases hok : ∃ u, parseUintB 8 s.data.toList = .ok u
  · obtain ⟨u, hp⟩ := hok
    have hu : u ≤ 255 := by have := parseUintB_le hp; omega
    have HB := Lib.hid (byteS_of_parse_ok hp)
    have HP := Lib.hid (Tryz.strconv_ParseUint_10_at8_ok s (by omega) u hp w)
    have HF := Lib.hid (fun W (hb : Below w.heap.size w W) => format_any u hu W (he.below hb))
    clear hp he
    go_enter Tryz.func52, Tryz.ntmps52
    go_wp2_with fail
    go_at_call 66
    refine HP.out.mono ?_
    rintro e w1 ⟨rfl, hw1⟩
    have hb1 : Below w.heap.size w w1 := by
      rcases hw1 with rfl | rfl
      · exact Below.refl _ _
      · exact below_bytesWorld _ _ _
    clear hw1
    go_wp2_with fail
    go_at_call 67
    refine (HF.out _ hb1).mono ?_
    rintro e w2 ⟨rfl, hb2⟩
    have hb : Below w.heap.size w w2 := hb1.trans (hb2.mono hb1.size)
    have HBE := Lib.hid hb
    clear hb hb1 hb2
    go_wp2_with fail
    · have h1 : (!decDigits u == s.toList) = true := by assumption
      rw [ByteArray.toList_eq] at h1
      have h2 : byteS s.data.toList = none := by rw [HB.out, if_neg (by simpa using h1)]
      go_ret2
      exact ⟨by rw [numRes_none h2]; rfl, HBE.out⟩
    · have h1 : (!decDigits u == s.toList) = false := by assumption
      rw [ByteArray.toList_eq] at h1
      have h2 : byteS s.data.toList = some u := by rw [HB.out, if_pos (by simpa using h1)]
      go_ret2
      exact ⟨by rw [numRes_some h2]; rfl, HBE.out⟩
  · have hno : ∀ u, parseUintB 8 s.data.toList ≠ .ok u := fun u h => hok ⟨u, h⟩
    have HB := Lib.hid (byteS_of_parse_not hno)
    have HP := Lib.hid (parse_bad s hs w he hno)
    clear hok hno he
    go_enter Tryz.func52, Tryz.ntmps52
    go_wp2_with fail
    go_at_call 66
    refine HP.out.mono ?_
    rintro e w1 ⟨u, p, rfl, hb1⟩
    go_wp2_with fail
    go_ret2
    exact ⟨by rw [numRes_none HB.out]; rfl, hb1⟩

end Ad
end Go.Proofs.YtfbbkbjiaopnkaaGreatDoor
