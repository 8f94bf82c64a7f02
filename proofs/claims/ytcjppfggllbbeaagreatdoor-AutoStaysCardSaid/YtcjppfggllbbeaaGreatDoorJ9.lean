/- Several texts of this proof in one file, each in its own namespace. -/
import Derived.Test.YtcjppfggllbbeaaGreatDoorRows
import Derived.Test.YtcjppfggllbbeaaGreatDoorKeyM
import Derived.Test.YtcjppfggllbbeaaGreatDoorJ6
import Derived.Test.YtcjppfggllbbeaaGreatDoorComS
import Derived.BigQuiet
import Derived.IntWalk
import Derived.Laws.BitsAllLaws
import Derived.Laws.StructEq
import Derived.ChangeKeysEq
import Derived.KernelRfl
/- Layer 10: contracts of lower, end, turnKind, mix, isPower, and of the reference's end. -/
set_option linter.unusedVariables false
set_option linter.unusedSimpArgs false
set_option maxRecDepth 100000
namespace Go.Proofs.YtcjppfggllbbeaaGreatDoor
open Go.ChangeShapes Go.WideShapes Go.ChangeAt Go.RowKit Go.Mtl
namespace Ky
open KeyM (lowB byteN mixN mixS isPow)

theorem ret_int {k : IntKind} {a b : Int} (h : a = b) : Ending.returned (.int k a) = .returned (.int k b) := by rw [h]
/-- A key's five cells; an endpoint's two; a packet's seven. -/
abbrev kyc (a b p q r : Int) : Array Value := #[.int .u32 a, .int .u32 b, .int .u16 p, .int .u16 q, .int .u8 r]
abbrev epc (a p : Int) : Array Value := #[.int .u32 a, .int .u32 p]
abbrev pkc (a b c d e f h : Int) : Array Value := #[.int .u8 a, .int .u32 b, .int .u32 c, .int .u16 d, .int .u16 e, .int .u8 f, .int .u8 h]

section
variable {w w' : World} {g : Nat} {a b c d e f h : Int} {t : TypeId}
theorem pk_cells (H : Blk w g (pkc a b c d e f h) t) : w.cell? ⟨g, 0, none⟩ = some (.int .u8 a) ∧ w.cell? ⟨g, 1, none⟩ = some (.int .u32 b) ∧ w.cell? ⟨g, 2, none⟩ = some (.int .u32 c) ∧ w.cell? ⟨g, 3, none⟩ = some (.int .u16 d) ∧
    w.cell? ⟨g, 4, none⟩ = some (.int .u16 e) ∧ w.cell? ⟨g, 5, none⟩ = some (.int .u8 f) ∧ w.cell? ⟨g, 6, none⟩ = some (.int .u8 h) := by
  refine ⟨?_, ?_, ?_, ?_, ?_, ?_, ?_⟩ <;> exact H.cell _ _ rfl
theorem pk_frozen (H : Blk w g (pkc a b c d e f h) t) : w.frozen? ⟨g, 0, none⟩ = false ∧ w.frozen? ⟨g, 1, none⟩ = false ∧ w.frozen? ⟨g, 2, none⟩ = false ∧ w.frozen? ⟨g, 3, none⟩ = false ∧
    w.frozen? ⟨g, 4, none⟩ = false ∧ w.frozen? ⟨g, 5, none⟩ = false ∧ w.frozen? ⟨g, 6, none⟩ = false := by
  refine ⟨?_, ?_, ?_, ?_, ?_, ?_, ?_⟩ <;> exact H.frozen _
theorem ky_cells (H : Blk w g (kyc a b c d e) t) : w.cell? ⟨g, 0, none⟩ = some (.int .u32 a) ∧ w.cell? ⟨g, 1, none⟩ = some (.int .u32 b) ∧ w.cell? ⟨g, 2, none⟩ = some (.int .u16 c) ∧ w.cell? ⟨g, 3, none⟩ = some (.int .u16 d) ∧
    w.cell? ⟨g, 4, none⟩ = some (.int .u8 e) := by
  refine ⟨?_, ?_, ?_, ?_, ?_⟩ <;> exact H.cell _ _ rfl
theorem ky_frozen (H : Blk w g (kyc a b c d e) t) : w.frozen? ⟨g, 0, none⟩ = false ∧ w.frozen? ⟨g, 1, none⟩ = false ∧ w.frozen? ⟨g, 2, none⟩ = false ∧ w.frozen? ⟨g, 3, none⟩ = false ∧ w.frozen? ⟨g, 4, none⟩ = false := by
  refine ⟨?_, ?_, ?_, ?_, ?_⟩ <;> exact H.frozen _
/-- All five cells of a key stored anew; all seven of a packet. -/
abbrev storeK (w : World) (g : Nat) (a b c d e : Int) : World :=
  ((((w.setCell ⟨g, 0, none⟩ (.int .u32 a)).setCell ⟨g, 1, none⟩ (.int .u32 b)).setCell ⟨g, 2, none⟩ (.int .u16 c)).setCell ⟨g, 3, none⟩ (.int .u16 d)).setCell ⟨g, 4, none⟩ (.int .u8 e)
theorem ky_store (H : Blk w g (kyc a b c d e) t) (a' b' c' d' e' : Int) : Blk (storeK w g a' b' c' d' e') g (kyc a' b' c' d' e') t :=
  by
  have h0 := H.set' 0 (.int .u32 a') (cs' := kyc a' b c d e) rfl
  have h1 := h0.set' 1 (.int .u32 b') (cs' := kyc a' b' c d e) rfl
  have h2 := h1.set' 2 (.int .u16 c') (cs' := kyc a' b' c' d e) rfl
  have h3 := h2.set' 3 (.int .u16 d') (cs' := kyc a' b' c' d' e) rfl
  exact h3.set' 4 (.int .u8 e') rfl
theorem below_storeK {B : Nat} {w0 : World} (hb : Below B w0 w) (hg : B ≤ g) (a b c d e : Int) : Below B w0 (storeK w g a b c d e) :=
  ((((hb.setCell (p := ⟨g, 0, none⟩) hg _).setCell (p := ⟨g, 1, none⟩) hg _).setCell (p := ⟨g, 2, none⟩) hg _).setCell (p := ⟨g, 3, none⟩) hg _).setCell (p := ⟨g, 4, none⟩) hg _
abbrev storeP (w : World) (g : Nat) (a b c d e f h : Int) : World :=
  ((((((w.setCell ⟨g, 0, none⟩ (.int .u8 a)).setCell ⟨g, 1, none⟩ (.int .u32 b)).setCell ⟨g, 2, none⟩ (.int .u32 c)).setCell ⟨g, 3, none⟩ (.int .u16 d)).setCell ⟨g, 4, none⟩ (.int .u16 e)).setCell ⟨g, 5, none⟩ (.int .u8 f)).setCell ⟨g, 6, none⟩ (.int .u8 h)
theorem pk_store (H : Blk w g (pkc a b c d e f h) t) (a' b' c' d' e' f' h' : Int) : Blk (storeP w g a' b' c' d' e' f' h') g (pkc a' b' c' d' e' f' h') t :=
  by
  have h0 := H.set' 0 (.int .u8 a') (cs' := pkc a' b c d e f h) rfl
  have h1 := h0.set' 1 (.int .u32 b') (cs' := pkc a' b' c d e f h) rfl
  have h2 := h1.set' 2 (.int .u32 c') (cs' := pkc a' b' c' d e f h) rfl
  have h3 := h2.set' 3 (.int .u16 d') (cs' := pkc a' b' c' d' e f h) rfl
  have h4 := h3.set' 4 (.int .u16 e') (cs' := pkc a' b' c' d' e' f h) rfl
  have h5 := h4.set' 5 (.int .u8 f') (cs' := pkc a' b' c' d' e' f' h) rfl
  exact h5.set' 6 (.int .u8 h') rfl
theorem storeP_other {cs : Array Value} {k : Nat} (H : Blk w g cs t) (hk : g ≠ k) (a b c d e f h : Int) : Blk (storeP w k a b c d e f h) g cs t :=
  ((((((H.other k 0 hk _).other k 1 hk _).other k 2 hk _).other k 3 hk _).other k 4 hk _).other k 5 hk _).other k 6 hk _
theorem storeK_other {cs : Array Value} {k : Nat} (H : Blk w g cs t) (hk : g ≠ k) (a b c d e : Int) : Blk (storeK w k a b c d e) g cs t :=
  ((((H.other k 0 hk _).other k 1 hk _).other k 2 hk _).other k 3 hk _).other k 4 hk _
theorem below_storeP {B : Nat} {w0 : World} (hb : Below B w0 w) (hg : B ≤ g) (a b c d e f h : Int) : Below B w0 (storeP w g a b c d e f h) :=
  ((((((hb.setCell (p := ⟨g, 0, none⟩) hg _).setCell (p := ⟨g, 1, none⟩) hg _).setCell (p := ⟨g, 2, none⟩) hg _).setCell (p := ⟨g, 3, none⟩) hg _).setCell (p := ⟨g, 4, none⟩) hg _).setCell (p := ⟨g, 5, none⟩) hg _).setCell (p := ⟨g, 6, none⟩) hg _
end

set_option maxHeartbeats 1000000 in
theorem lower_any (a p b q : Nat) (g : Bool) (hg : lowB a p b q = g) (W : World) :
    Calls Tryz.prog 43 #[.agg (epc a p), .agg (epc b q)] W fun e w' => e = .returned (.bool g) ∧ Below W.heap.size W w' := by
  have HX := Lib.hid ((Blk.box W (epc a p) 105).alloc (.cells (epc b q) 105))
  have HY := Lib.hid (Blk.box1 W (.cells (epc a p) 105) (epc b q) 105)
  have HB := Lib.hid (((Below.refl _ W).alloc (Nat.le_refl _) (.cells (epc a p) 105)).alloc (by simp) (.cells (epc b q) 105))
  have x0 := HX.out.cell 0 _ rfl
  have x1 := HX.out.cell 1 _ rfl
  have y0 := HY.out.cell 0 _ rfl
  have y1 := HY.out.cell 1 _ rfl
  by_cases h : a = b
  · subst h
    rw [KeyM.lowB_eq] at hg
    have d0 : ((a : Int) != a) = false := by simp
    have HG := Lib.hid hg
    clear hg
    go_enter Tryz.func43, Tryz.ntmps43
    go_wp2
    go_ret
    exact ⟨by rw [← HG.out]; rfl, HB.out⟩
  · rw [KeyM.lowB_ne h] at hg
    have d0 : ((a : Int) != b) = true := by simp; omega
    have HG := Lib.hid hg
    clear hg h
    go_enter Tryz.func43, Tryz.ntmps43
    go_wp2
    go_ret
    exact ⟨by rw [← HG.out]; rfl, HB.out⟩

set_option maxHeartbeats 1000000 in
theorem end_any (a b p q r : Nat) (hp : p < 65536) (hq : q < 65536) (i : Int) (x y : Nat) (hi : i = 0 ∧ a = x ∧ p = y ∨ i = 1 ∧ b = x ∧ q = y) (W : World) :
    Calls Tryz.prog 82 #[.agg (kyc a b p q r), .int .i64 i] W fun e w' => e = .returned (.agg (epc x y)) ∧ Below W.heap.size W w' := by
  have HX := Lib.hid ((Blk.box W (kyc a b p q r) 45).alloc (.cells (epc 0 0) 105)).drew
  have HY := Lib.hid (Blk.box1 W (.cells (kyc a b p q r) 45) (epc 0 0) 105).drew
  have HB := Lib.hid (((Below.refl _ W).alloc (Nat.le_refl _) (.cells (kyc a b p q r) 45)).alloc (by simp) (.cells (epc 0 0) 105)).drew
  rcases hi with ⟨rfl, rfl, rfl⟩ | ⟨rfl, rfl, rfl⟩
  · go_enter Tryz.func82, Tryz.ntmps82
    go_wp2
    obtain ⟨w1, hw1⟩ : ∃ w1, w1 = ((W.alloc (.cells (kyc a b p q r) 45)).alloc (.cells (epc 0 0) 105)).drew := ⟨_, rfl⟩
    refine region_still_tail 10 (by kernel_rfl) (by kernel_rfl) w1 hw1 ?_
    rw [← hw1] at HX HY HB
    clear hw1
    have x0 := HX.out.cell 0 _ rfl
    have x1 := HX.out.cell 2 _ rfl
    have y0 := HY.out.cell 0 _ rfl
    have y1 := HY.out.cell 1 _ rfl
    have f0 := HY.out.frozen 0
    have f1 := HY.out.frozen 1
    have we : IntKind.u32.wrap (p : Int) = (p : Int) := by rw [IntKind.wrap_u32']; omega
    simp only [List.take_succ_cons, List.take_zero, List.drop_succ_cons, List.drop_zero]
    repeat still_step
    refine wpStill_nil ?_
    go_wp2
    have hr := (HY.out.set 0 (.int .u32 (a : Int))).set 1 (.int .u32 (p : Int))
    have r0 := hr.cell 0 (.int .u32 (a : Int)) rfl
    have r1 := hr.cell 1 (.int .u32 (p : Int)) rfl
    exact bodyPost_ret (v := .agg (epc a p)) (by simp [results, Tryz.results82, go_sem, r0, r1]) rfl ⟨rfl, (HB.out.setCell (by simp) _).setCell (by simp) _⟩
  · go_enter Tryz.func82, Tryz.ntmps82
    go_wp2
    obtain ⟨w1, hw1⟩ : ∃ w1, w1 = ((W.alloc (.cells (kyc a b p q r) 45)).alloc (.cells (epc 0 0) 105)).drew := ⟨_, rfl⟩
    refine region_still_tail 10 (by kernel_rfl) (by kernel_rfl) w1 hw1 ?_
    rw [← hw1] at HX HY HB
    clear hw1
    have x0 := HX.out.cell 1 _ rfl
    have x1 := HX.out.cell 3 _ rfl
    have y0 := HY.out.cell 0 _ rfl
    have y1 := HY.out.cell 1 _ rfl
    have f0 := HY.out.frozen 0
    have f1 := HY.out.frozen 1
    have we : IntKind.u32.wrap (q : Int) = (q : Int) := by rw [IntKind.wrap_u32']; omega
    simp only [List.take_succ_cons, List.take_zero, List.drop_succ_cons, List.drop_zero]
    repeat still_step
    refine wpStill_nil ?_
    go_wp2
    have hr := (HY.out.set 0 (.int .u32 (b : Int))).set 1 (.int .u32 (q : Int))
    have r0 := hr.cell 0 (.int .u32 (b : Int)) rfl
    have r1 := hr.cell 1 (.int .u32 (q : Int)) rfl
    exact bodyPost_ret (v := .agg (epc b q)) (by simp [results, Tryz.results82, go_sem, r0, r1]) rfl ⟨rfl, (HB.out.setCell (by simp) _).setCell (by simp) _⟩

/-- The other kind of echo. -/
def tkN (k : Nat) : Nat := if k = 8 then 0 else if k = 0 then 8 else k
theorem tkN_lt {k : Nat} (h : k < 256) : tkN k < 256 := by unfold tkN; split <;> (try split) <;> omega
theorem tkN_tk (k : Nat) : tkN (tkN k) = k := by
  unfold tkN
  by_cases h8 : k = 8
  · subst h8; rfl
  · by_cases h0 : k = 0
    · subst h0; rfl
    · rw [if_neg h8, if_neg h0, if_neg h8, if_neg h0]
theorem turnKind_any (k x : Nat) (hx : tkN k = x) (W : World) :
    Calls Tryz.prog 58 #[.int .u8 (k : Int)] W fun e w' => e = .returned (.int .u8 (x : Int)) ∧ W = w' := by
  unfold tkN at hx
  by_cases h8 : k = 8
  · rw [if_pos h8] at hx
    subst h8 hx
    go_enter Tryz.func58, Tryz.ntmps58
    go_wp2
    go_ret
    exact ⟨rfl, rfl⟩
  · rw [if_neg h8] at hx
    by_cases h0 : k = 0
    · rw [if_pos h0] at hx
      subst h0 hx
      clear h8
      go_enter Tryz.func58, Tryz.ntmps58
      go_wp2
      go_ret
      exact ⟨rfl, rfl⟩
    · rw [if_neg h0] at hx
      subst hx
      have d8 : ((k : Int) == 8) = false := by simp; omega
      have d0 : ((k : Int) == 0) = false := by simp; omega
      clear h0 h8
      go_enter Tryz.func58, Tryz.ntmps58
      go_wp2
      go_ret
      exact ⟨rfl, rfl⟩

theorem byte_is (n i : Nat) : (n : Int) / 2 ^ (8 * i) % 256 = (byteN n i : Int) := by
  unfold byteN
  rw [Int.pow_mul]
  simp
theorem step_is (h b : Nat) (hh : h < 4294967296) (hb : b < 256) : bits .xor .u32 (h : Int) (b : Int) * 16777619 % 4294967296 = (KeyM.step h b : Int) := by
  rw [u32_xor_nat h b hh (by omega)]
  unfold KeyM.step
  generalize h ^^^ b = x
  omega
theorem refEnd_any (a p : Nat) (ha : a < 4294967296) (hp : p < 65536) (W : World) :
    Calls Tryz.prog 56 #[.int .u32 (a : Int), .int .u16 (p : Int)] W fun e w' => e = .returned (.int .u64 ((a * 65536 + p : Nat) : Int)) ∧ W = w' := by
  go_enter Tryz.func56, Tryz.ntmps56
  go_wp2
  go_ret
  exact ⟨by simp, rfl⟩
theorem i64_and_nat (a b : Nat) (ha : a < 9223372036854775808) (hb : b < 9223372036854775808) : bits .and .i64 (a : Int) (b : Int) = ((a &&& b : Nat) : Int) := by
  have hx : a &&& b < 2 ^ 63 := Nat.and_lt_two_pow _ (by omega)
  show IntKind.i64.wrap ((BitVec.ofInt 64 (a : Int) &&& BitVec.ofInt 64 (b : Int)).toNat : Int) = _
  rw [BitVec.toNat_and, ofInt_u64 a (by omega), ofInt_u64 b (by omega)]
  exact IntWalk.i64_in _ (by omega)
theorem pow_is (n : Nat) (h1 : 1 ≤ n) (h2 : n ≤ 4096) : (bits .and .i64 (n : Int) ((n : Int) - 1) == 0) = isPow (n : Int) := by
  rw [show (n : Int) - 1 = ((n - 1 : Nat) : Int) by omega, i64_and_nat n (n - 1) (by omega) (by omega), ← KeyM.pow_and n h1 h2]
  generalize n &&& (n - 1) = x
  rw [Bool.eq_iff_iff]
  simp
end Ky
end Go.Proofs.YtcjppfggllbbeaaGreatDoor
/- Layer 10: endpoints and keys compared whole. -/
set_option linter.unusedVariables false
set_option linter.unusedSimpArgs false
set_option maxRecDepth 100000
namespace Go.Proofs.YtcjppfggllbbeaaGreatDoor
open Go.ChangeShapes Go.WideShapes Go.ChangeAt Go.RowKit Go.Mtl
namespace Ky

theorem ep_is : Tryz.prog.underlying 105 = some (.array 2 38) := by kernel_rfl
theorem ky_fields : Tryz.prog.underlying 45 = some (.struct (Tryz.prog.fieldsOf 45)) := by kernel_rfl
theorem ky_stood : Tryz.prog.stoodInHeld 45 = false := by kernel_rfl
theorem ky_lay : (Tryz.prog.fieldsOf 45).toList.map (fun f => (f.type, f.offset)) = [(42, 0), (43, 2), (5, 4)] := by kernel_rfl
theorem ky_names : (Tryz.prog.fieldsOf 45).toList.all (fun f => f.name != "_") = true := by kernel_rfl
theorem u32_cells : Tryz.prog.cellsOf 38 = 1 := by kernel_rfl
theorem u16_cells : Tryz.prog.cellsOf 39 = 1 := by kernel_rfl
theorem u32_info : (Tryz.prog.info? 38).isSome = true := by kernel_rfl
theorem u16_info : (Tryz.prog.info? 39).isSome = true := by kernel_rfl
theorem ar4_is : Tryz.prog.underlying 42 = some (.array 2 38) := by kernel_rfl
theorem ar2_is : Tryz.prog.underlying 43 = some (.array 2 39) := by kernel_rfl

theorem pair4 (d : Nat) (t : TypeId) (ht : Tryz.prog.underlying t = some (.array 2 38)) (a p b q : Int) (w : World) : (Op.equalIn (d + 2) t (.agg (epc a p)) (.agg (epc b q))).run Tryz.prog w = .ok (decide (a = b ∧ p = q)) w := by
  obtain ⟨i4, h4⟩ := Option.isSome_iff_exists.1 u32_info
  rw [run_equalIn_array w (d + 1) _ _ ht h4]
  by_cases h1 : a = b
  · by_cases h2 : p = q
    · simp [u32_cells, Op.eqItems, List.range, List.range.loop, go_sem, h1, h2]
    · simp [u32_cells, Op.eqItems, List.range, List.range.loop, go_sem, h1, h2]
  · simp [u32_cells, Op.eqItems, List.range, List.range.loop, go_sem, h1]
theorem pair2 (d : Nat) (a p b q : Int) (w : World) : (Op.equalIn (d + 2) 43 (.agg #[.int .u16 a, .int .u16 p]) (.agg #[.int .u16 b, .int .u16 q])).run Tryz.prog w = .ok (decide (a = b ∧ p = q)) w := by
  obtain ⟨i4, h4⟩ := Option.isSome_iff_exists.1 u16_info
  rw [run_equalIn_array w (d + 1) _ _ ar2_is h4]
  by_cases h1 : a = b
  · by_cases h2 : p = q
    · simp [u16_cells, Op.eqItems, List.range, List.range.loop, go_sem, h1, h2]
    · simp [u16_cells, Op.eqItems, List.range, List.range.loop, go_sem, h1, h2]
  · simp [u16_cells, Op.eqItems, List.range, List.range.loop, go_sem, h1]
theorem ep_eq (a p b q : Int) (w : World) : (Op.equalIn 10000 105 (.agg (epc a p)) (.agg (epc b q))).run Tryz.prog w = .ok (decide (a = b ∧ p = q)) w := pair4 9998 _ ep_is a p b q w
theorem ky_eq (a b p q r a2 b2 p2 q2 r2 : Int) (w : World) : (Op.equalIn 10000 45 (.agg (kyc a b p q r)) (.agg (kyc a2 b2 p2 q2 r2))).run Tryz.prog w = .ok (decide (a = a2 ∧ b = b2 ∧ p = p2 ∧ q = q2 ∧ r = r2)) w := by
  rw [show (10000 : Nat) = 9999 + 1 from rfl, run_equalIn_struct w 9999 _ _ _ ky_fields ky_stood]
  have hl := ky_lay
  have hn := ky_names
  generalize (Tryz.prog.fieldsOf 45).toList = l at hl hn ⊢
  rcases l with _ | ⟨f1, _ | ⟨f2, _ | ⟨f3, _ | ⟨f4, l⟩⟩⟩⟩ <;> simp at hl hn
  obtain ⟨⟨t1, o1⟩, ⟨t2, o2⟩, t3, o3⟩ := hl
  obtain ⟨n1, n2, n3⟩ := hn
  have c1 : ∀ (a b p q r : Int), (part 42 (kyc a b p q r) 0).run Tryz.prog w = .ok (.agg (epc a b)) w := fun a b p q r => by simp [go_sem]
  have c2 : ∀ (a b p q r : Int), (part 43 (kyc a b p q r) 2).run Tryz.prog w = .ok (.agg #[.int .u16 p, .int .u16 q]) w := fun a b p q r => by simp [go_sem]
  have c3 : ∀ (a b p q r : Int), (part 5 (kyc a b p q r) 4).run Tryz.prog w = .ok (.int .u8 r) w := fun a b p q r => by simp [go_sem]
  have q1 : (Op.equalIn 9999 42 (.agg (epc a b)) (.agg (epc a2 b2))).run Tryz.prog w = .ok (decide (a = a2 ∧ b = b2)) w := pair4 9997 _ ar4_is a b a2 b2 w
  have q2' : (Op.equalIn 9999 43 (.agg #[.int .u16 p, .int .u16 q]) (.agg #[.int .u16 p2, .int .u16 q2])).run Tryz.prog w = .ok (decide (p = p2 ∧ q = q2)) w := pair2 9997 p q p2 q2 w
  have q3 : (Op.equalIn 9999 5 (.int .u8 r) (.int .u8 r2)).run Tryz.prog w = .ok (r == r2) w := run_equalIn_int w 9998 _ .u8 .u8 r r2 (by kernel_rfl)
  simp only [Op.eqFields, ne_eq, n1, n2, n3, not_false_eq_true, if_true, t1, t2, t3, o1, o2, o3, Sem.run_bind, c1, c2, c3, Result.andThen_ok, q1, q2', q3, Sem.run_ite, Sem.run_pure]
  by_cases h1 : a = a2 ∧ b = b2
  · by_cases h2 : p = p2 ∧ q = q2
    · by_cases h3 : r = r2
      · simp [h1, h2, h3]
      · simp [h1, h2, h3]
    · have h4 : ¬ (a = a2 ∧ b = b2 ∧ p = p2 ∧ q = q2 ∧ r = r2) := fun h => h2 ⟨h.2.2.1, h.2.2.2.1⟩
      rw [decide_eq_true h1, decide_eq_false h2, decide_eq_false h4]; simp
  · have h4 : ¬ (a = a2 ∧ b = b2 ∧ p = p2 ∧ q = q2 ∧ r = r2) := fun h => h1 ⟨h.1, h.2.1⟩
    rw [decide_eq_false h1, decide_eq_false h4]; simp
theorem ep_same (a p : Int) (w : World) : (Op.equalIn 10000 105 (.agg #[.int .u32 a, .int .u32 p]) (.agg #[.int .u32 a, .int .u32 p])).run Tryz.prog w = .ok true w := (ep_eq a p a p w).trans (by simp)
theorem ep_diff (a p b q : Int) (h : ¬ (a = b ∧ p = q)) (w : World) : (Op.equalIn 10000 105 (.agg #[.int .u32 a, .int .u32 p]) (.agg #[.int .u32 b, .int .u32 q])).run Tryz.prog w = .ok false w := (ep_eq a p b q w).trans (by rw [decide_eq_false h])
end Ky
end Go.Proofs.YtcjppfggllbbeaaGreatDoor
/- Layer 10: contracts of Turn, Of, Hash, Stripe, Less. -/
set_option linter.unusedVariables false
set_option linter.unusedSimpArgs false
set_option maxRecDepth 100000
namespace Go.Proofs.YtcjppfggllbbeaaGreatDoor
open Go.ChangeShapes Go.WideShapes Go.ChangeAt Go.RowKit Go.Mtl
namespace Ky
open KeyM (lowB byteN mixN mixS isPow hashN strN lessB)

/-- The kind in the other direction. -/
def tkP (pr kd : Nat) : Nat := if pr = 1 then tkN kd else kd
set_option maxHeartbeats 2000000 in
theorem turn_any (pr sr ds sp dp f kd x : Nat) (hx : tkP pr kd = x) (W : World) :
    Calls Tryz.prog 30 #[.agg (pkc pr sr ds sp dp f kd)] W fun e w' => e = .returned (.agg (pkc pr ds sr dp sp f x)) ∧ Below W.heap.size W w' := by
  have HX := Lib.hid ((Blk.box W (pkc pr sr ds sp dp f kd) 41).alloc (.cells (pkc 0 0 0 0 0 0 0) 41))
  have HY := Lib.hid (Blk.box1 W (.cells (pkc pr sr ds sp dp f kd) 41) (pkc 0 0 0 0 0 0 0) 41)
  obtain ⟨x0, x1, x2, x3, x4, x5, x6⟩ := pk_cells HX.out
  obtain ⟨f0, f1, f2, f3, f4, f5, f6⟩ := pk_frozen HX.out
  obtain ⟨g0, g1, g2, g3, g4, g5, g6⟩ := pk_frozen HY.out
  obtain ⟨y0, y1, y2, y3, y4, y5, y6⟩ := pk_cells HY.out
  unfold tkP at hx
  by_cases h1 : pr = 1
  · rw [if_pos h1] at hx
    subst h1
    have HK := Lib.hid (turnKind_any kd x hx)
    clear hx
    go_enter Tryz.func30, Tryz.ntmps30
    go_wp2_with fail
    refine (HK.out _).mono ?_
    rintro e w' ⟨rfl, rfl⟩
    go_wp2_with fail
    have HR := Blk.box1 W (.cells (pkc 1 ds sr dp sp f x) 41) (pkc 1 ds sr dp sp f x) 41
    obtain ⟨r0, r1, r2, r3, r4, r5, r6⟩ := pk_cells HR
    exact bodyPost_ret (v := .agg (pkc 1 ds sr dp sp f x)) (by simp [results, Tryz.results30, go_sem, r0, r1, r2, r3, r4, r5, r6]) rfl ⟨rfl, ((Below.refl _ W).alloc (Nat.le_refl _) _).alloc (by simp) _⟩
  · rw [if_neg h1] at hx
    subst hx
    have d1 : ((pr : Int) == 1) = false := by simp; omega
    clear h1
    go_enter Tryz.func30, Tryz.ntmps30
    go_wp2_with fail
    have HR := Blk.box1 W (.cells (pkc pr ds sr dp sp f kd) 41) (pkc pr ds sr dp sp f kd) 41
    obtain ⟨r0, r1, r2, r3, r4, r5, r6⟩ := pk_cells HR
    exact bodyPost_ret (v := .agg (pkc pr ds sr dp sp f kd)) (by simp [results, Tryz.results30, go_sem, r0, r1, r2, r3, r4, r5, r6]) rfl ⟨rfl, ((Below.refl _ W).alloc (Nat.le_refl _) _).alloc (by simp) _⟩

/-- A packet's key: the endpoints in order. -/
def ofK (pr sr ds sp dp : Nat) : Array Value := if lowB ds dp sr sp then kyc ds sr dp sp pr else kyc sr ds sp dp pr
set_option maxHeartbeats 2000000 in
theorem of_any (pr sr ds sp dp f kd : Nat) (hsp : sp < 65536) (hdp : dp < 65536) (a b p q : Nat) (g : Bool) (hg : lowB ds dp sr sp = g) (hk : g = true ∧ ds = a ∧ sr = b ∧ dp = p ∧ sp = q ∨ g = false ∧ sr = a ∧ ds = b ∧ sp = p ∧ dp = q) (W : World) :
    Calls Tryz.prog 18 #[.agg (pkc pr sr ds sp dp f kd)] W fun e w' => e = .returned (.tuple #[.agg (kyc a b p q pr), .bool g]) ∧ Below W.heap.size W w' := by
  have HX := Lib.hid ((Blk.box W (pkc pr sr ds sp dp f kd) 41).alloc (.cells (kyc 0 0 0 0 0) 45))
  have HY := Lib.hid (Blk.box1 W (.cells (pkc pr sr ds sp dp f kd) 41) (kyc 0 0 0 0 0) 45)
  have HB := Lib.hid (((Below.refl _ W).alloc (Nat.le_refl _) (.cells (pkc pr sr ds sp dp f kd) 41)).alloc (by simp) (.cells (kyc 0 0 0 0 0) 45))
  obtain ⟨x0, x1, x2, x3, x4, x5, x6⟩ := pk_cells HX.out
  obtain ⟨f0, f1, f2, f3, f4, f5, f6⟩ := pk_frozen HX.out
  have HL := Lib.hid (lower_any ds dp sr sp g hg)
  clear hg
  go_enter Tryz.func18, Tryz.ntmps18
  go_wp2_with fail
  refine (HL.out _).mono ?_
  rintro e w1 ⟨rfl, hb1⟩
  have HX1 := Lib.hid (HX.out.next hb1)
  have HY1 := Lib.hid (HY.out.next hb1)
  have HB1 := Lib.hid (HB.out.trans (hb1.mono HB.out.size))
  clear hb1 HX HY HB HL x0 x1 x2 x3 x4 x5 x6 f0 f1 f2 f3 f4 f5 f6
  obtain ⟨x0, x1, x2, x3, x4, x5, x6⟩ := pk_cells HX1.out
  obtain ⟨f0, f1, f2, f3, f4, f5, f6⟩ := pk_frozen HX1.out
  obtain ⟨y0, y1, y2, y3, y4⟩ := ky_cells HY1.out
  obtain ⟨g0, g1, g2, g3, g4⟩ := ky_frozen HY1.out
  rcases hk with ⟨rfl, rfl, rfl, rfl, rfl⟩ | ⟨rfl, rfl, rfl, rfl, rfl⟩
  · obtain ⟨z, hz⟩ : ∃ z, tkP pr kd = z := ⟨_, rfl⟩
    have HT := Lib.hid (turn_any pr sr ds sp dp f kd z hz)
    clear hz
    go_wp2_with fail
    refine (HT.out _).mono ?_
    rintro e w2 ⟨rfl, hb2⟩
    have HX2 := Lib.hid (HX1.out.next hb2)
    have HY2 := Lib.hid (HY1.out.next hb2)
    have HB2 := Lib.hid (HB1.out.trans (hb2.mono HB1.out.size))
    clear hb2 HX1 HY1 HB1 HT x0 x1 x2 x3 x4 x5 x6 f0 f1 f2 f3 f4 f5 f6 y0 y1 y2 y3 y4 g0 g1 g2 g3 g4
    obtain ⟨x0, x1, x2, x3, x4, x5, x6⟩ := pk_cells HX2.out
    obtain ⟨f0, f1, f2, f3, f4, f5, f6⟩ := pk_frozen HX2.out
    obtain ⟨y0, y1, y2, y3, y4⟩ := ky_cells HY2.out
    obtain ⟨g0, g1, g2, g3, g4⟩ := ky_frozen HY2.out
    go_wp2_with fail
    have HR := ky_store (storeP_other HY2.out (k := W.heap.size) (by simp) pr ds sr dp sp f z) ds sr dp sp pr
    obtain ⟨r0, r1, r2, r3, r4⟩ := ky_cells HR
    exact bodyPost_ret (v := .tuple #[.agg (kyc ds sr dp sp pr), .bool true]) (by simp [results, Tryz.results18, go_sem, r0, r1, r2, r3, r4]) rfl ⟨rfl, below_storeK (below_storeP HB2.out (Nat.le_refl _) _ _ _ _ _ _ _) (by simp) _ _ _ _ _⟩
  · go_wp2_with fail
    have HR := ky_store HY1.out sr ds sp dp pr
    obtain ⟨r0, r1, r2, r3, r4⟩ := ky_cells HR
    exact bodyPost_ret (v := .tuple #[.agg (kyc sr ds sp dp pr), .bool false]) (by simp [results, Tryz.results18, go_sem, r0, r1, r2, r3, r4]) rfl ⟨rfl, below_storeK HB1.out (by simp) _ _ _ _ _⟩

/-- What Hash holds ahead of each endpoint. -/
def HashR (h0 h1 h2 : Int) (t i : Value) : Prop := i = .int .i64 0 ∧ t = .int .u32 h0 ∨ i = .int .i64 1 ∧ t = .int .u32 h1 ∨ i = .int .i64 2 ∧ t = .int .u32 h2
end Ky
end Go.Proofs.YtcjppfggllbbeaaGreatDoor
/- Layer 10: contracts of the reference's Of, Hash, Stripe, Less. -/
set_option linter.unusedVariables false
set_option linter.unusedSimpArgs false
set_option maxRecDepth 100000
namespace Go.Proofs.YtcjppfggllbbeaaGreatDoor
open Go.ChangeShapes Go.WideShapes Go.ChangeAt Go.RowKit Go.Mtl
namespace Ky
open KeyM (lowB byteN mixN mixS isPow hashN strN lessB)

theorem refEnd_x (a p x : Nat) (hx : a * 65536 + p = x) (ha : a < 4294967296) (hp : p < 65536) (W : World) :
    Calls Tryz.prog 56 #[.int .u32 (a : Int), .int .u16 (p : Int)] W fun e w' => e = .returned (.int .u64 (x : Int)) ∧ w' = W :=
  (refEnd_any a p ha hp W).mono fun _ _ ⟨h, hw⟩ => ⟨hx ▸ h, hw.symm⟩

set_option maxHeartbeats 2000000 in
theorem refOf_any (pr sr ds sp dp f kd : Nat) (hsr : sr < 4294967296) (hds : ds < 4294967296) (hsp : sp < 65536) (hdp : dp < 65536) (a b p q : Nat) (g : Bool) (hg : lowB ds dp sr sp = g) (hk : g = true ∧ ds = a ∧ sr = b ∧ dp = p ∧ sp = q ∨ g = false ∧ sr = a ∧ ds = b ∧ sp = p ∧ dp = q) (W : World) :
    Calls Tryz.prog 67 #[.agg (pkc pr sr ds sp dp f kd)] W fun e w' => e = .returned (.tuple #[.agg (kyc a b p q pr), .bool g]) ∧ Below W.heap.size W w' := by
  have HX := Lib.hid ((Blk.box W (pkc pr sr ds sp dp f kd) 41).alloc (.cells (kyc 0 0 0 0 0) 45))
  have HY := Lib.hid (Blk.box1 W (.cells (pkc pr sr ds sp dp f kd) 41) (kyc 0 0 0 0 0) 45)
  have HB := Lib.hid (((Below.refl _ W).alloc (Nat.le_refl _) (.cells (pkc pr sr ds sp dp f kd) 41)).alloc (by simp) (.cells (kyc 0 0 0 0 0) 45))
  obtain ⟨x0, x1, x2, x3, x4, x5, x6⟩ := pk_cells HX.out
  obtain ⟨f0, f1, f2, f3, f4, f5, f6⟩ := pk_frozen HX.out
  obtain ⟨x, hx⟩ : ∃ x, sr * 65536 + sp = x := ⟨_, rfl⟩
  obtain ⟨y, hy⟩ : ∃ y, ds * 65536 + dp = y := ⟨_, rfl⟩
  have E1 := Lib.hid (refEnd_x sr sp x hx hsr hsp)
  have E2 := Lib.hid (refEnd_x ds dp y hy hds hdp)
  rw [KeyM.low_num hdp hsp, hx, hy] at hg
  have hX : Hid ((IntKind.u64.wrap ((x : Int) / 65536) % 4294967296 = sr ∧ (x : Int) % 65536 = sp) ∧ IntKind.u64.wrap ((y : Int) / 65536) % 4294967296 = ds ∧ (y : Int) % 65536 = dp) := by
    show _ ∧ _
    rw [IntKind.wrap_u64, IntKind.wrap_u64]; omega
  clear hx hy
  rcases hk with ⟨rfl, rfl, rfl, rfl, rfl⟩ | ⟨rfl, rfl, rfl, rfl, rfl⟩
  · have d0 : y < x := by simpa using hg
    clear hg
    go_enter Tryz.func67, Tryz.ntmps67
    go_wp2
    go_quiet ((go_at_call 56; first | with_reducible exact Calls.quiet_of_same (E1.out _) | with_reducible exact Calls.quiet_of_same (E2.out _)))
    go_wp2
    obtain ⟨⟨n1, n2⟩, n3, n4⟩ := hX.out
    simp only [n1, n2, n3, n4]
    have HR := ky_store (HY.out.drewN nq) ds sr dp sp pr
    obtain ⟨r0, r1, r2, r3, r4⟩ := ky_cells HR
    exact bodyPost_ret (v := .tuple #[.agg (kyc ds sr dp sp pr), .bool true]) (by simp [results, Tryz.results67, go_sem, r0, r1, r2, r3, r4]) rfl ⟨rfl, below_storeK (HB.out.drews nq) (by simp) _ _ _ _ _⟩
  · have d0 : ¬ y < x := by simpa using hg
    clear hg
    go_enter Tryz.func67, Tryz.ntmps67
    go_wp2
    go_quiet ((go_at_call 56; first | with_reducible exact Calls.quiet_of_same (E1.out _) | with_reducible exact Calls.quiet_of_same (E2.out _)))
    go_wp2
    obtain ⟨⟨n1, n2⟩, n3, n4⟩ := hX.out
    simp only [n1, n2, n3, n4]
    have HR := ky_store (HY.out.drewN nq) sr ds sp dp pr
    obtain ⟨r0, r1, r2, r3, r4⟩ := ky_cells HR
    exact bodyPost_ret (v := .tuple #[.agg (kyc sr ds sp dp pr), .bool false]) (by simp [results, Tryz.results67, go_sem, r0, r1, r2, r3, r4]) rfl ⟨rfl, below_storeK (HB.out.drews nq) (by simp) _ _ _ _ _⟩

theorem byte_ref (n i : Nat) : ((n : Int) / 2 ^ (8 * i)).tmod 256 = (byteN n i : Int) := by
  rw [Int.tmod_eq_emod_of_nonneg (Int.ediv_nonneg (by omega) (Int.pow_nonneg (by decide))), byte_is]
theorem step_ref (h b : Nat) (hh : h < 4294967296) (hb : b < 256) : (IntKind.u64.wrap (bits .xor .u64 (h : Int) (b : Int) * 16777619)).tmod 4294967296 = (KeyM.step h b : Int) := by
  rw [u64_xor_nat h b (by omega) (by omega)]
  have hx : h ^^^ b < 2 ^ 32 := Nat.xor_lt_two_pow (by omega) (by omega)
  unfold KeyM.step
  generalize h ^^^ b = x at hx
  rw [IntKind.wrap_u64, Int.tmod_eq_emod_of_nonneg (by omega)]
  omega
/-- What the reference's Hash holds ahead of each endpoint. -/
def HashU (U : World) (h0 h1 h2 : Int) (t i : Value) (w' : World) : Prop := (i = .int .i64 0 ∧ t = .int .u64 h0 ∨ i = .int .i64 1 ∧ t = .int .u64 h1 ∨ i = .int .i64 2 ∧ t = .int .u64 h2) ∧ ∃ k, w' = U.drewN k
/-- .. and within one. -/
def HashV (e x : Nat) (t i : Value) : Prop := ∃ m g : Nat, m ≤ 6 ∧ g < 4294967296 ∧ i = .int .i64 (8 * (m : Int) - 8) ∧ t = .int .u64 (g : Int) ∧ Hid (mixN e m g = x)
/-- The reference's number of stripes, round by round. -/
def PowAt (e : Nat) (i : Value) : Prop := ∃ j : Nat, j ≤ e ∧ i = .int .i64 ((2 ^ j : Nat) : Int)
theorem pow_le {j e : Nat} (h : j ≤ e) : 1 ≤ 2 ^ j ∧ 2 ^ j ≤ 2 ^ e := ⟨Nat.one_le_two_pow, Nat.pow_le_pow_right (by decide) h⟩
theorem pow_big {j : Nat} (h1 : j ≤ 13) (h2 : ¬ j ≤ 12) : 2 ^ j = 8192 := by
  obtain rfl : j = 13 := by omega
  rfl
set_option maxHeartbeats 2000000 in
theorem refLess_any (a b p q r a2 b2 p2 q2 r2 : Nat) (ha : a < 4294967296) (hb : b < 4294967296) (hp : p < 65536) (hq : q < 65536) (ha2 : a2 < 4294967296) (hb2 : b2 < 4294967296) (hp2 : p2 < 65536) (hq2 : q2 < 65536) (g : Bool) (hg : lessB a b p q r a2 b2 p2 q2 r2 = g) (W : World) :
    Calls Tryz.prog 26 #[.agg (kyc a b p q r), .agg (kyc a2 b2 p2 q2 r2)] W fun e w' => e = .returned (.bool g) ∧ Below W.heap.size W w' := by
  have HX0 := Lib.hid ((Blk.box W (kyc a b p q r) 45).alloc (.cells (kyc a2 b2 p2 q2 r2) 45))
  have HY0 := Lib.hid (Blk.box1 W (.cells (kyc a b p q r) 45) (kyc a2 b2 p2 q2 r2) 45)
  have HB0 := Lib.hid (((Below.refl _ W).alloc (Nat.le_refl _) (.cells (kyc a b p q r) 45)).alloc (by simp) (.cells (kyc a2 b2 p2 q2 r2) 45))
  obtain ⟨x0, x1, x2, x3, x4⟩ := ky_cells HX0.out
  obtain ⟨y0, y1, y2, y3, y4⟩ := ky_cells HY0.out
  obtain ⟨k1, c1⟩ : ∃ y, a * 65536 + p = y := ⟨_, rfl⟩
  obtain ⟨k2, c2⟩ : ∃ y, a2 * 65536 + p2 = y := ⟨_, rfl⟩
  obtain ⟨k3, c3⟩ : ∃ y, b * 65536 + q = y := ⟨_, rfl⟩
  obtain ⟨k4, c4⟩ : ∃ y, b2 * 65536 + q2 = y := ⟨_, rfl⟩
  have E1 := Lib.hid (refEnd_x a p k1 c1 ha hp)
  have E2 := Lib.hid (refEnd_x a2 p2 k2 c2 ha2 hp2)
  have E3 := Lib.hid (refEnd_x b q k3 c3 hb hq)
  have E4 := Lib.hid (refEnd_x b2 q2 k4 c4 hb2 hq2)
  unfold lessB at hg
  rw [KeyM.low_num hp hp2, KeyM.low_num hq hq2, c1, c2, c3, c4] at hg
  by_cases h1 : r = r2
  · rw [if_neg (by omega)] at hg
    have d0 : ((r : Int) != r2) = false := by simp; omega
    have he : (a ≠ a2 ∨ p ≠ p2) ↔ k1 ≠ k2 := by omega
    by_cases h2 : k1 = k2
    · rw [if_neg (by rw [he]; omega)] at hg
      have d1 : ((k1 : Int) != k2) = false := by simp; omega
      have HG := Lib.hid hg
      clear hg h1 h2 he c1 c2 c3 c4 ha hb hp hq ha2 hb2 hp2 hq2
      go_enter Tryz.func26, Tryz.ntmps26
      go_wp2
      obtain ⟨w1, hw1⟩ : ∃ u, u = ((W.alloc (.cells (kyc a b p q r) 45)).alloc (.cells (kyc a2 b2 p2 q2 r2) 45)).drew := ⟨_, rfl⟩
      refine region_still_tail 14 (by kernel_rfl) (by kernel_rfl) w1 hw1 ?_
      have HX1 : Hid (Blk w1 W.heap.size (kyc a b p q r) 45) := hw1 ▸ Lib.hid HX0.out.drew
      have HY1 : Hid (Blk w1 (W.heap.size + 1) (kyc a2 b2 p2 q2 r2) 45) := hw1 ▸ Lib.hid HY0.out.drew
      have HB1 : Hid (Below W.heap.size W w1) := hw1 ▸ Lib.hid HB0.out.drew
      clear hw1
      have z0 := HX1.out.cell 0 _ rfl
      have z1 := HX1.out.cell 2 _ rfl
      have z2 := HY1.out.cell 0 _ rfl
      have z3 := HY1.out.cell 2 _ rfl
      simp only [List.take_succ_cons, List.take_zero, List.drop_succ_cons, List.drop_zero]
      repeat still_step
      still_call (E1.out _)
      repeat still_step
      still_call (E2.out _)
      repeat still_step
      refine wpStill_nil ?_
      clear z0 z1 z2 z3
      go_wp2
      clear x0 x1 x2 x3 x4 y0 y1 y2 y3 y4
      obtain ⟨w2, hw2⟩ : ∃ u, u = w1.drew := ⟨_, rfl⟩
      refine region_still_tail 15 (by kernel_rfl) (by kernel_rfl) w2 hw2 ?_
      have HX2 : Hid (Blk w2 W.heap.size (kyc a b p q r) 45) := hw2 ▸ Lib.hid HX1.out.drew
      have HY2 : Hid (Blk w2 (W.heap.size + 1) (kyc a2 b2 p2 q2 r2) 45) := hw2 ▸ Lib.hid HY1.out.drew
      have HB2 : Hid (Below W.heap.size W w2) := hw2 ▸ Lib.hid HB1.out.drew
      clear hw2
      have z0 := HX2.out.cell 1 _ rfl
      have z1 := HX2.out.cell 3 _ rfl
      have z2 := HY2.out.cell 1 _ rfl
      have z3 := HY2.out.cell 3 _ rfl
      simp only [List.take_succ_cons, List.take_zero, List.drop_succ_cons, List.drop_zero]
      repeat still_step
      still_call (E3.out _)
      repeat still_step
      still_call (E4.out _)
      repeat still_step
      refine wpStill_nil ?_
      clear z0 z1 z2 z3
      go_wp2
      go_ret
      exact ⟨by rw [← HG.out]; rfl, HB2.out⟩
    · rw [if_pos (by rw [he]; omega)] at hg
      have d1 : ((k1 : Int) != k2) = true := by simp; omega
      have HG := Lib.hid hg
      clear hg h1 h2 he c1 c2 c3 c4 ha hb hp hq ha2 hb2 hp2 hq2
      go_enter Tryz.func26, Tryz.ntmps26
      go_wp2
      obtain ⟨w1, hw1⟩ : ∃ u, u = ((W.alloc (.cells (kyc a b p q r) 45)).alloc (.cells (kyc a2 b2 p2 q2 r2) 45)).drew := ⟨_, rfl⟩
      refine region_still_tail 14 (by kernel_rfl) (by kernel_rfl) w1 hw1 ?_
      have HX1 : Hid (Blk w1 W.heap.size (kyc a b p q r) 45) := hw1 ▸ Lib.hid HX0.out.drew
      have HY1 : Hid (Blk w1 (W.heap.size + 1) (kyc a2 b2 p2 q2 r2) 45) := hw1 ▸ Lib.hid HY0.out.drew
      have HB1 : Hid (Below W.heap.size W w1) := hw1 ▸ Lib.hid HB0.out.drew
      clear hw1
      have z0 := HX1.out.cell 0 _ rfl
      have z1 := HX1.out.cell 2 _ rfl
      have z2 := HY1.out.cell 0 _ rfl
      have z3 := HY1.out.cell 2 _ rfl
      simp only [List.take_succ_cons, List.take_zero, List.drop_succ_cons, List.drop_zero]
      repeat still_step
      still_call (E1.out _)
      repeat still_step
      still_call (E2.out _)
      repeat still_step
      refine wpStill_nil ?_
      clear z0 z1 z2 z3
      go_wp2
      go_ret
      exact ⟨by rw [← HG.out]; rfl, HB1.out⟩
  · rw [if_pos h1] at hg
    have d0 : ((r : Int) != r2) = true := by simp; omega
    have HG := Lib.hid hg
    clear hg h1 c1 c2 c3 c4 ha hb hp hq ha2 hb2 hp2 hq2
    go_enter Tryz.func26, Tryz.ntmps26
    go_wp2
    go_ret
    exact ⟨by rw [← HG.out]; rfl, HB0.out⟩
end Ky
end Go.Proofs.YtcjppfggllbbeaaGreatDoor
