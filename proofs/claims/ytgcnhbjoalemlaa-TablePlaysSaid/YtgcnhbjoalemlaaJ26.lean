/- Several texts of this proof in one file, each in its own namespace. -/
import Derived.Test.YtgcnhbjoalemlaaRows
import Derived.Test.YtgcnhbjoalemlaaKeyM
import Derived.Test.YtgcnhbjoalemlaaJ5
import Derived.Test.YtgcnhbjoalemlaaJ22
import Derived.BigQuiet
import Derived.IntWalk
import Derived.Laws.BitsAllLaws
import Derived.Laws.StructEq
import Derived.ChangeKeysEq
import Derived.KernelRfl
/- Layer 10: contracts of lower, end, turnKind, mix, isPower, and of the reference's end. -/
set_option linter.unusedVariables false
set_option linter.unusedSimpArgs false
set_option maxRecDepth 100000
namespace Go.Proofs.Ytgcnhbjoalemlaa
open Go.ChangeShapes Go.WideShapes Go.ChangeAt Go.RowKit Go.Mtl
namespace Ky
open KeyM (lowB byteN mixN mixS isPow)

theorem ret_int {k : IntKind} {a b : Int} (h : a = b) : Ending.returned (.int k a) = .returned (.int k b) := by rw [h]
/-- A key's five cells; an endpoint's two; a packet's seven. -/
abbrev kyc (a b p q r : Int) : Array Value := #[.int .u32 a, .int .u32 b, .int .u16 p, .int .u16 q, .int .u8 r]
abbrev epc (a p : Int) : Array Value := #[.int .u32 a, .int .u32 p]
section
variable {w w' : World} {g : Nat} {a b c d e f h : Int} {t : TypeId}
theorem ky_cells (H : Blk w g (kyc a b c d e) t) : w.cell? ⟨g, 0, none⟩ = some (.int .u32 a) ∧ w.cell? ⟨g, 1, none⟩ = some (.int .u32 b) ∧ w.cell? ⟨g, 2, none⟩ = some (.int .u16 c) ∧ w.cell? ⟨g, 3, none⟩ = some (.int .u16 d) ∧
    w.cell? ⟨g, 4, none⟩ = some (.int .u8 e) := by
  refine ⟨?_, ?_, ?_, ?_, ?_⟩ <;> exact H.cell _ _ rfl
end

set_option maxHeartbeats 1000000 in
theorem lower_any (a p b q : Nat) (g : Bool) (hg : lowB a p b q = g) (W : World) :
    Calls Try.prog 72 #[.agg (epc a p), .agg (epc b q)] W fun e w' => e = .returned (.bool g) ∧ Below W.heap.size W w' := by
  have HX := Lib.hid ((Blk.box W (epc a p) 129).alloc (.cells (epc b q) 129))
  have HY := Lib.hid (Blk.box1 W (.cells (epc a p) 129) (epc b q) 129)
  have HB := Lib.hid (((Below.refl _ W).alloc (Nat.le_refl _) (.cells (epc a p) 129)).alloc (by simp) (.cells (epc b q) 129))
  have x0 := HX.out.cell 0 _ rfl
  have x1 := HX.out.cell 1 _ rfl
  have y0 := HY.out.cell 0 _ rfl
  have y1 := HY.out.cell 1 _ rfl
  by_cases h : a = b
  · subst h
    rw [KeyM.lowB_eq] at hg
    have d0 : ((a : Int) != a) = false := by simp
    have HG := Lib.hid hg
    clear hg
    go_enter Try.func72, Try.ntmps72
    go_wp2
    go_ret
    exact ⟨by rw [← HG.out]; rfl, HB.out⟩
  · rw [KeyM.lowB_ne h] at hg
    have d0 : ((a : Int) != b) = true := by simp; omega
    have HG := Lib.hid hg
    clear hg h
    go_enter Try.func72, Try.ntmps72
    go_wp2
    go_ret
    exact ⟨by rw [← HG.out]; rfl, HB.out⟩

set_option maxHeartbeats 1000000 in
theorem end_any (a b p q r : Nat) (hp : p < 65536) (hq : q < 65536) (i : Int) (x y : Nat) (hi : i = 0 ∧ a = x ∧ p = y ∨ i = 1 ∧ b = x ∧ q = y) (W : World) :
    Calls Try.prog 71 #[.agg (kyc a b p q r), .int .i64 i] W fun e w' => e = .returned (.agg (epc x y)) ∧ Below W.heap.size W w' := by
  have HX := Lib.hid ((Blk.box W (kyc a b p q r) 37).alloc (.cells (epc 0 0) 129)).drew
  have HY := Lib.hid (Blk.box1 W (.cells (kyc a b p q r) 37) (epc 0 0) 129).drew
  have HB := Lib.hid (((Below.refl _ W).alloc (Nat.le_refl _) (.cells (kyc a b p q r) 37)).alloc (by simp) (.cells (epc 0 0) 129)).drew
  rcases hi with ⟨rfl, rfl, rfl⟩ | ⟨rfl, rfl, rfl⟩
  · go_enter Try.func71, Try.ntmps71
    go_wp2
    obtain ⟨w1, hw1⟩ : ∃ w1, w1 = ((W.alloc (.cells (kyc a b p q r) 37)).alloc (.cells (epc 0 0) 129)).drew := ⟨_, rfl⟩
    refine region_still_tail 10 (by kernel_rfl) (by kernel_rfl) w1 hw1 ?_
    rw [← hw1] at HX HY HB
    clear hw1
    have x0 := HX.out.cell 0 _ rfl
    have x1 := HX.out.cell 2 _ rfl
    have y0 := HY.out.cell 0 _ rfl
    have y1 := HY.out.cell 1 _ rfl
    have f0 := HY.out.frozen 0
    have f1 := HY.out.frozen 1
    have we : IntKind.u32.wrap (p : Int) = (p : Int) := by rw [IntKind.wrap_u32']; omega
    simp only [List.take_succ_cons, List.take_zero, List.drop_succ_cons, List.drop_zero]
    repeat still_step
    refine wpStill_nil ?_
    go_wp2
    have hr := (HY.out.set 0 (.int .u32 (a : Int))).set 1 (.int .u32 (p : Int))
    have r0 := hr.cell 0 (.int .u32 (a : Int)) rfl
    have r1 := hr.cell 1 (.int .u32 (p : Int)) rfl
    exact bodyPost_ret (v := .agg (epc a p)) (by simp [results, Try.results71, go_sem, r0, r1]) rfl ⟨rfl, (HB.out.setCell (by simp) _).setCell (by simp) _⟩
  · go_enter Try.func71, Try.ntmps71
    go_wp2
    obtain ⟨w1, hw1⟩ : ∃ w1, w1 = ((W.alloc (.cells (kyc a b p q r) 37)).alloc (.cells (epc 0 0) 129)).drew := ⟨_, rfl⟩
    refine region_still_tail 10 (by kernel_rfl) (by kernel_rfl) w1 hw1 ?_
    rw [← hw1] at HX HY HB
    clear hw1
    have x0 := HX.out.cell 1 _ rfl
    have x1 := HX.out.cell 3 _ rfl
    have y0 := HY.out.cell 0 _ rfl
    have y1 := HY.out.cell 1 _ rfl
    have f0 := HY.out.frozen 0
    have f1 := HY.out.frozen 1
    have we : IntKind.u32.wrap (q : Int) = (q : Int) := by rw [IntKind.wrap_u32']; omega
    simp only [List.take_succ_cons, List.take_zero, List.drop_succ_cons, List.drop_zero]
    repeat still_step
    refine wpStill_nil ?_
    go_wp2
    have hr := (HY.out.set 0 (.int .u32 (b : Int))).set 1 (.int .u32 (q : Int))
    have r0 := hr.cell 0 (.int .u32 (b : Int)) rfl
    have r1 := hr.cell 1 (.int .u32 (q : Int)) rfl
    exact bodyPost_ret (v := .agg (epc b q)) (by simp [results, Try.results71, go_sem, r0, r1]) rfl ⟨rfl, (HB.out.setCell (by simp) _).setCell (by simp) _⟩

theorem byte_is (n i : Nat) : (n : Int) / 2 ^ (8 * i) % 256 = (byteN n i : Int) := by
  unfold byteN
  rw [Int.pow_mul]
  simp
theorem step_is (h b : Nat) (hh : h < 4294967296) (hb : b < 256) : bits .xor .u32 (h : Int) (b : Int) * 16777619 % 4294967296 = (KeyM.step h b : Int) := by
  rw [u32_xor_nat h b hh (by omega)]
  unfold KeyM.step
  generalize h ^^^ b = x
  omega
set_option maxHeartbeats 1000000 in
theorem mix_any (h n k : Nat) (hh : h < 4294967296) (hn : n < 4294967296) (hk : k ≤ 4) (x : Nat) (hx : mixN n k h = x) (W : World) :
    Calls Try.prog 73 #[.int .u32 (h : Int), .int .u32 (n : Int), .int .i64 (k : Int)] W fun e w' => e = .returned (.int .u32 (x : Int)) ∧ W = w' := by
  have HX := Lib.hid hx
  clear hx
  go_enter Try.func73, Try.ntmps73
  go_wp2
  go_loop [0, 7] (fun v i => ∃ m g : Nat, m ≤ 4 ∧ g < 4294967296 ∧ i = .int .i64 ((m : Int) - 1) ∧ v = .int .u32 (g : Int) ∧ Hid (mixN n m g = x)) (fun _ i => (intOf i + 1).toNat)
  case atStart => exact ⟨k, h, hk, hh, rfl, rfl, HX⟩
  case round =>
    obtain ⟨m, g, hm, hg, rfl, rfl, hX⟩ := hrel
    rcases m with _ | m
    · go_wp2
      go_ret
      exact ⟨by rw [← hX.out]; rfl, rfl⟩
    · rw [show (((m + 1 : Nat) : Int) - 1) = (m : Int) by omega]
      have HS := Lib.hid (step_is g (byteN n m) hg (KeyM.byteN_lt n m))
      have hX2 := Lib.hid ((KeyM.mixS_succ KeyM.step n m g).symm.trans hX.out)
      have hl := KeyM.step_lt g (byteN n m)
      clear hX
      generalize KeyM.step g (byteN n m) = z at HS hX2 hl
      go_wp2
      go_round
      case rel => exact ⟨m, z, by omega, hl, rfl, by rw [byte_is, HS.out], hX2⟩
      case measure => simp [intOf]

theorem refEnd_any (a p : Nat) (ha : a < 4294967296) (hp : p < 65536) (W : World) :
    Calls Try.prog 60 #[.int .u32 (a : Int), .int .u16 (p : Int)] W fun e w' => e = .returned (.int .u64 ((a * 65536 + p : Nat) : Int)) ∧ W = w' := by
  go_enter Try.func60, Try.ntmps60
  go_wp2
  go_ret
  exact ⟨by simp, rfl⟩
theorem i64_and_nat (a b : Nat) (ha : a < 9223372036854775808) (hb : b < 9223372036854775808) : bits .and .i64 (a : Int) (b : Int) = ((a &&& b : Nat) : Int) := by
  have hx : a &&& b < 2 ^ 63 := Nat.and_lt_two_pow _ (by omega)
  show IntKind.i64.wrap ((BitVec.ofInt 64 (a : Int) &&& BitVec.ofInt 64 (b : Int)).toNat : Int) = _
  rw [BitVec.toNat_and, ofInt_u64 a (by omega), ofInt_u64 b (by omega)]
  exact IntWalk.i64_in _ (by omega)
theorem pow_is (n : Nat) (h1 : 1 ≤ n) (h2 : n ≤ 4096) : (bits .and .i64 (n : Int) ((n : Int) - 1) == 0) = isPow (n : Int) := by
  rw [show (n : Int) - 1 = ((n - 1 : Nat) : Int) by omega, i64_and_nat n (n - 1) (by omega) (by omega), ← KeyM.pow_and n h1 h2]
  generalize n &&& (n - 1) = x
  rw [Bool.eq_iff_iff]
  simp
theorem isPower_any (n : Nat) (h1 : 1 ≤ n) (h2 : n ≤ 4096) (g : Bool) (hg : isPow (n : Int) = g) (W : World) :
    Calls Try.prog 63 #[.int .i64 (n : Int)] W fun e w' => e = .returned (.bool g) ∧ W = w' := by
  have HG := Lib.hid ((pow_is n h1 h2).trans hg)
  clear hg
  go_enter Try.func63, Try.ntmps63
  go_wp2
  go_ret
  exact ⟨by rw [← HG.out]; rfl, rfl⟩
end Ky
end Go.Proofs.Ytgcnhbjoalemlaa
/- Layer 10: endpoints and keys compared whole. -/
set_option linter.unusedVariables false
set_option linter.unusedSimpArgs false
set_option maxRecDepth 100000
namespace Go.Proofs.Ytgcnhbjoalemlaa
open Go.ChangeShapes Go.WideShapes Go.ChangeAt Go.RowKit Go.Mtl
namespace Ky

theorem ep_is : Try.prog.underlying 129 = some (.array 2 32) := by kernel_rfl
theorem ky_fields : Try.prog.underlying 37 = some (.struct (Try.prog.fieldsOf 37)) := by kernel_rfl
theorem ky_stood : Try.prog.stoodInHeld 37 = false := by kernel_rfl
theorem ky_lay : (Try.prog.fieldsOf 37).toList.map (fun f => (f.type, f.offset)) = [(33, 0), (35, 2), (5, 4)] := by kernel_rfl
theorem ky_names : (Try.prog.fieldsOf 37).toList.all (fun f => f.name != "_") = true := by kernel_rfl
theorem u32_cells : Try.prog.cellsOf 32 = 1 := by kernel_rfl
theorem u16_cells : Try.prog.cellsOf 34 = 1 := by kernel_rfl
theorem u32_info : (Try.prog.info? 32).isSome = true := by kernel_rfl
theorem u16_info : (Try.prog.info? 34).isSome = true := by kernel_rfl
theorem ar4_is : Try.prog.underlying 33 = some (.array 2 32) := by kernel_rfl
theorem ar2_is : Try.prog.underlying 35 = some (.array 2 34) := by kernel_rfl

theorem pair4 (d : Nat) (t : TypeId) (ht : Try.prog.underlying t = some (.array 2 32)) (a p b q : Int) (w : World) : (Op.equalIn (d + 2) t (.agg (epc a p)) (.agg (epc b q))).run Try.prog w = .ok (decide (a = b ∧ p = q)) w := by
  obtain ⟨i4, h4⟩ := Option.isSome_iff_exists.1 u32_info
  rw [run_equalIn_array w (d + 1) _ _ ht h4]
  by_cases h1 : a = b
  · by_cases h2 : p = q
    · simp [u32_cells, Op.eqItems, List.range, List.range.loop, go_sem, h1, h2]
    · simp [u32_cells, Op.eqItems, List.range, List.range.loop, go_sem, h1, h2]
  · simp [u32_cells, Op.eqItems, List.range, List.range.loop, go_sem, h1]
theorem pair2 (d : Nat) (a p b q : Int) (w : World) : (Op.equalIn (d + 2) 35 (.agg #[.int .u16 a, .int .u16 p]) (.agg #[.int .u16 b, .int .u16 q])).run Try.prog w = .ok (decide (a = b ∧ p = q)) w := by
  obtain ⟨i4, h4⟩ := Option.isSome_iff_exists.1 u16_info
  rw [run_equalIn_array w (d + 1) _ _ ar2_is h4]
  by_cases h1 : a = b
  · by_cases h2 : p = q
    · simp [u16_cells, Op.eqItems, List.range, List.range.loop, go_sem, h1, h2]
    · simp [u16_cells, Op.eqItems, List.range, List.range.loop, go_sem, h1, h2]
  · simp [u16_cells, Op.eqItems, List.range, List.range.loop, go_sem, h1]
theorem ep_eq (a p b q : Int) (w : World) : (Op.equalIn 10000 129 (.agg (epc a p)) (.agg (epc b q))).run Try.prog w = .ok (decide (a = b ∧ p = q)) w := pair4 9998 _ ep_is a p b q w
theorem ky_eq (a b p q r a2 b2 p2 q2 r2 : Int) (w : World) : (Op.equalIn 10000 37 (.agg (kyc a b p q r)) (.agg (kyc a2 b2 p2 q2 r2))).run Try.prog w = .ok (decide (a = a2 ∧ b = b2 ∧ p = p2 ∧ q = q2 ∧ r = r2)) w := by
  rw [show (10000 : Nat) = 9999 + 1 from rfl, run_equalIn_struct w 9999 _ _ _ ky_fields ky_stood]
  have hl := ky_lay
  have hn := ky_names
  generalize (Try.prog.fieldsOf 37).toList = l at hl hn ⊢
  rcases l with _ | ⟨f1, _ | ⟨f2, _ | ⟨f3, _ | ⟨f4, l⟩⟩⟩⟩ <;> simp at hl hn
  obtain ⟨⟨t1, o1⟩, ⟨t2, o2⟩, t3, o3⟩ := hl
  obtain ⟨n1, n2, n3⟩ := hn
  have c1 : ∀ (a b p q r : Int), (part 33 (kyc a b p q r) 0).run Try.prog w = .ok (.agg (epc a b)) w := fun a b p q r => by simp [go_sem]
  have c2 : ∀ (a b p q r : Int), (part 35 (kyc a b p q r) 2).run Try.prog w = .ok (.agg #[.int .u16 p, .int .u16 q]) w := fun a b p q r => by simp [go_sem]
  have c3 : ∀ (a b p q r : Int), (part 5 (kyc a b p q r) 4).run Try.prog w = .ok (.int .u8 r) w := fun a b p q r => by simp [go_sem]
  have q1 : (Op.equalIn 9999 33 (.agg (epc a b)) (.agg (epc a2 b2))).run Try.prog w = .ok (decide (a = a2 ∧ b = b2)) w := pair4 9997 _ ar4_is a b a2 b2 w
  have q2' : (Op.equalIn 9999 35 (.agg #[.int .u16 p, .int .u16 q]) (.agg #[.int .u16 p2, .int .u16 q2])).run Try.prog w = .ok (decide (p = p2 ∧ q = q2)) w := pair2 9997 p q p2 q2 w
  have q3 : (Op.equalIn 9999 5 (.int .u8 r) (.int .u8 r2)).run Try.prog w = .ok (r == r2) w := run_equalIn_int w 9998 _ .u8 .u8 r r2 (by kernel_rfl)
  simp only [Op.eqFields, ne_eq, n1, n2, n3, not_false_eq_true, if_true, t1, t2, t3, o1, o2, o3, Sem.run_bind, c1, c2, c3, Result.andThen_ok, q1, q2', q3, Sem.run_ite, Sem.run_pure]
  by_cases h1 : a = a2 ∧ b = b2
  · by_cases h2 : p = p2 ∧ q = q2
    · by_cases h3 : r = r2
      · simp [h1, h2, h3]
      · simp [h1, h2, h3]
    · have h4 : ¬ (a = a2 ∧ b = b2 ∧ p = p2 ∧ q = q2 ∧ r = r2) := fun h => h2 ⟨h.2.2.1, h.2.2.2.1⟩
      rw [decide_eq_true h1, decide_eq_false h2, decide_eq_false h4]; simp
  · have h4 : ¬ (a = a2 ∧ b = b2 ∧ p = p2 ∧ q = q2 ∧ r = r2) := fun h => h1 ⟨h.1, h.2.1⟩
    rw [decide_eq_false h1, decide_eq_false h4]; simp
theorem ep_same (a p : Int) (w : World) : (Op.equalIn 10000 129 (.agg #[.int .u32 a, .int .u32 p]) (.agg #[.int .u32 a, .int .u32 p])).run Try.prog w = .ok true w := (ep_eq a p a p w).trans (by simp)
theorem ep_diff (a p b q : Int) (h : ¬ (a = b ∧ p = q)) (w : World) : (Op.equalIn 10000 129 (.agg #[.int .u32 a, .int .u32 p]) (.agg #[.int .u32 b, .int .u32 q])).run Try.prog w = .ok false w := (ep_eq a p b q w).trans (by rw [decide_eq_false h])
end Ky
end Go.Proofs.Ytgcnhbjoalemlaa
/- Layer 10: contracts of the reference's Of, Hash, Stripe, Less. -/
set_option linter.unusedVariables false
set_option linter.unusedSimpArgs false
set_option maxRecDepth 100000
namespace Go.Proofs.Ytgcnhbjoalemlaa
open Go.ChangeShapes Go.WideShapes Go.ChangeAt Go.RowKit Go.Mtl
namespace Ky
open KeyM (lowB byteN mixN mixS isPow hashN strN lessB)

theorem refEnd_x (a p x : Nat) (hx : a * 65536 + p = x) (ha : a < 4294967296) (hp : p < 65536) (W : World) :
    Calls Try.prog 60 #[.int .u32 (a : Int), .int .u16 (p : Int)] W fun e w' => e = .returned (.int .u64 (x : Int)) ∧ w' = W :=
  (refEnd_any a p ha hp W).mono fun _ _ ⟨h, hw⟩ => ⟨hx ▸ h, hw.symm⟩

theorem byte_ref (n i : Nat) : ((n : Int) / 2 ^ (8 * i)).tmod 256 = (byteN n i : Int) := by
  rw [Int.tmod_eq_emod_of_nonneg (Int.ediv_nonneg (by omega) (Int.pow_nonneg (by decide))), byte_is]
theorem step_ref (h b : Nat) (hh : h < 4294967296) (hb : b < 256) : (IntKind.u64.wrap (bits .xor .u64 (h : Int) (b : Int) * 16777619)).tmod 4294967296 = (KeyM.step h b : Int) := by
  rw [u64_xor_nat h b (by omega) (by omega)]
  have hx : h ^^^ b < 2 ^ 32 := Nat.xor_lt_two_pow (by omega) (by omega)
  unfold KeyM.step
  generalize h ^^^ b = x at hx
  rw [IntKind.wrap_u64, Int.tmod_eq_emod_of_nonneg (by omega)]
  omega
/-- What the reference's Hash holds ahead of each endpoint. -/
def HashU (U : World) (h0 h1 h2 : Int) (t i : Value) (w' : World) : Prop := (i = .int .i64 0 ∧ t = .int .u64 h0 ∨ i = .int .i64 1 ∧ t = .int .u64 h1 ∨ i = .int .i64 2 ∧ t = .int .u64 h2) ∧ ∃ k, w' = U.drewN k
/-- .. and within one. -/
def HashV (e x : Nat) (t i : Value) : Prop := ∃ m g : Nat, m ≤ 6 ∧ g < 4294967296 ∧ i = .int .i64 (8 * (m : Int) - 8) ∧ t = .int .u64 (g : Int) ∧ Hid (mixN e m g = x)
set_option maxHeartbeats 2000000 in
theorem refHash_any (a b p q r : Nat) (ha : a < 4294967296) (hb : b < 4294967296) (hp : p < 65536) (hq : q < 65536) (hr : r < 256) (x : Nat) (hx : hashN a b p q r = x) (W : World) :
    Calls Try.prog 46 #[.agg (kyc a b p q r)] W fun e w' => e = .returned (.int .u32 (x : Int)) ∧ Below W.heap.size W w' := by
  have HX := Lib.hid (Blk.box W (kyc a b p q r) 37)
  have HB := Lib.hid ((Below.refl _ W).alloc (Nat.le_refl _) (.cells (kyc a b p q r) 37))
  obtain ⟨x0, x1, x2, x3, x4⟩ := ky_cells HX.out
  obtain ⟨m0, e0⟩ : ∃ m, KeyM.step 2166136261 r = m := ⟨_, rfl⟩
  obtain ⟨y1, c1⟩ : ∃ y, a * 65536 + p = y := ⟨_, rfl⟩
  obtain ⟨y2, c2⟩ : ∃ y, b * 65536 + q = y := ⟨_, rfl⟩
  obtain ⟨m1, e1⟩ : ∃ m, mixN y1 6 m0 = m := ⟨_, rfl⟩
  obtain ⟨m2, e2⟩ : ∃ m, mixN y2 6 m1 = m := ⟨_, rfl⟩
  have l0 : m0 < 4294967296 := e0 ▸ KeyM.step_lt _ _
  have l1 : m1 < 4294967296 := e1 ▸ KeyM.mixN_lt _ _ _ l0
  have l2 : m2 < 4294967296 := e2 ▸ KeyM.mixN_lt _ _ _ l1
  have hl1 : y1 < 281474976710656 := by omega
  have hl2 : y2 < 281474976710656 := by omega
  have HE := Lib.hid ((KeyM.hashN_six hp hq hr e0 (c1.symm ▸ e1) (c2.symm ▸ e2)).symm.trans hx)
  have HF : Hid ((IntKind.u64.wrap (bits .xor .u64 (2166136261 : Int) (r : Int) * 16777619)).tmod 4294967296 = (m0 : Int)) := e0 ▸ step_ref 2166136261 r (by omega) hr
  have E1 := Lib.hid (refEnd_x a p y1 c1 ha hp)
  have E2 := Lib.hid (refEnd_x b q y2 c2 hb hq)
  have H1 := Lib.hid e1
  have H2 := Lib.hid e2
  clear hx e0 e1 e2 c1 c2 ha hb hp hq
  go_enter Try.func46, Try.ntmps46
  go_wp2
  go_loopw [3, 5] (HashU (W.alloc (.cells (kyc a b p q r) 37)) m0 m1 m2) (fun _ i _ => 2 - (intOf i).toNat)
  case atStart => exact ⟨Or.inl ⟨rfl, by rw [HF.out]⟩, 0, rfl⟩
  case round =>
    obtain ⟨hrel, kw, rfl⟩ := hrel
    rcases hrel with ⟨rfl, rfl⟩ | ⟨rfl, rfl⟩ | ⟨rfl, rfl⟩
    · go_wp2
      obtain ⟨w1, hw1⟩ : ∃ w1, w1 = ((W.alloc (.cells (kyc a b p q r) 37)).drewN kw).drew := ⟨_, rfl⟩
      refine region_still_tail 9 (by kernel_rfl) (by kernel_rfl) w1 hw1 ?_
      have HX1 : Hid (Blk w1 W.heap.size (kyc a b p q r) 37) := hw1 ▸ Lib.hid (HX.out.drewN kw).drew
      have HW1 : Hid (w1 = (W.alloc (.cells (kyc a b p q r) 37)).drewN (kw + 1)) := hw1
      clear hw1 x0 x1 x2 x3 x4
      have z0 := HX1.out.cell 0 _ rfl
      have z1 := HX1.out.cell 2 _ rfl
      simp only [List.take_succ_cons, List.take_zero, List.drop_succ_cons, List.drop_zero]
      repeat still_step
      still_call (E1.out _)
      repeat still_step
      refine wpStill_nil ?_
      go_wp2
      go_loop [3, 7] (HashV y1 m1) (fun _ i => (intOf i + 8).toNat)
      case atStart => exact ⟨6, _, by omega, l0, rfl, rfl, H1⟩
      case round =>
        obtain ⟨m, g, hm, hg, rfl, rfl, hX⟩ := hrel
        rcases m with _ | m
        · go_wp2
          go_roundw
          case rel => exact ⟨Or.inr (Or.inl ⟨rfl, hX.out ▸ rfl⟩), _, HW1.out⟩
          case measure => simp [intOf]
        · rw [show 8 * (((m + 1 : Nat)) : Int) - 8 = 8 * (m : Int) by omega]
          have HS := Lib.hid (step_ref g (byteN y1 m) hg (KeyM.byteN_lt y1 m))
          have hX2 := Lib.hid ((KeyM.mixS_succ KeyM.step y1 m g).symm.trans hX.out)
          have hl := KeyM.step_lt g (byteN y1 m)
          clear hX
          generalize KeyM.step g (byteN y1 m) = z at HS hX2 hl
          go_wp2
          go_round
          case rel => exact ⟨m, z, by omega, hl, rfl, by rw [byte_ref, HS.out], hX2⟩
          case measure => simp [intOf]; omega
    · go_wp2
      obtain ⟨w1, hw1⟩ : ∃ w1, w1 = ((W.alloc (.cells (kyc a b p q r) 37)).drewN kw).drew := ⟨_, rfl⟩
      refine region_still_tail 9 (by kernel_rfl) (by kernel_rfl) w1 hw1 ?_
      have HX1 : Hid (Blk w1 W.heap.size (kyc a b p q r) 37) := hw1 ▸ Lib.hid (HX.out.drewN kw).drew
      have HW1 : Hid (w1 = (W.alloc (.cells (kyc a b p q r) 37)).drewN (kw + 1)) := hw1
      clear hw1 x0 x1 x2 x3 x4
      have z0 := HX1.out.cell 1 _ rfl
      have z1 := HX1.out.cell 3 _ rfl
      simp only [List.take_succ_cons, List.take_zero, List.drop_succ_cons, List.drop_zero]
      repeat still_step
      still_call (E2.out _)
      repeat still_step
      refine wpStill_nil ?_
      go_wp2
      go_loop [3, 7] (HashV y2 m2) (fun _ i => (intOf i + 8).toNat)
      case atStart => exact ⟨6, _, by omega, l1, rfl, rfl, H2⟩
      case round =>
        obtain ⟨m, g, hm, hg, rfl, rfl, hX⟩ := hrel
        rcases m with _ | m
        · go_wp2
          go_roundw
          case rel => exact ⟨Or.inr (Or.inr ⟨rfl, hX.out ▸ rfl⟩), _, HW1.out⟩
          case measure => simp [intOf]
        · rw [show 8 * (((m + 1 : Nat)) : Int) - 8 = 8 * (m : Int) by omega]
          have HS := Lib.hid (step_ref g (byteN y2 m) hg (KeyM.byteN_lt y2 m))
          have hX2 := Lib.hid ((KeyM.mixS_succ KeyM.step y2 m g).symm.trans hX.out)
          have hl := KeyM.step_lt g (byteN y2 m)
          clear hX
          generalize KeyM.step g (byteN y2 m) = z at HS hX2 hl
          go_wp2
          go_round
          case rel => exact ⟨m, z, by omega, hl, rfl, by rw [byte_ref, HS.out], hX2⟩
          case measure => simp [intOf]; omega
    · go_wp2
      go_ret
      exact ⟨by rw [← HE.out]; rfl, HB.out.drews kw⟩

/-- The reference's number of stripes, round by round. -/
def PowAt (e : Nat) (i : Value) : Prop := ∃ j : Nat, j ≤ e ∧ i = .int .i64 ((2 ^ j : Nat) : Int)
theorem pow_le {j e : Nat} (h : j ≤ e) : 1 ≤ 2 ^ j ∧ 2 ^ j ≤ 2 ^ e := ⟨Nat.one_le_two_pow, Nat.pow_le_pow_right (by decide) h⟩
theorem pow_big {j : Nat} (h1 : j ≤ 13) (h2 : ¬ j ≤ 12) : 2 ^ j = 8192 := by
  obtain rfl : j = 13 := by omega
  rfl
set_option maxHeartbeats 2000000 in
theorem refStripe_no (a b p q r : Nat) (s : Int) (hs : isPow s = false) (W : World) :
    Calls Try.prog 28 #[.agg (kyc a b p q r), .int .i64 s] W fun e w' => e = .returned (.int .i64 0) ∧ Below W.heap.size W w' := by
  have HB := Lib.hid ((Below.refl _ W).alloc (Nat.le_refl _) (.cells (kyc a b p q r) 37))
  have HS := Lib.hid hs
  clear hs
  go_enter Try.func28, Try.ntmps28
  go_wp2
  go_loop [5] (PowAt 13) (fun i => 8192 - (intOf i).toNat)
  case atStart => exact ⟨0, by omega, rfl⟩
  case round =>
    obtain ⟨j, hj, rfl⟩ := hrel
    by_cases hlt : j ≤ 12
    · have hp : 1 ≤ 2 ^ j ∧ 2 ^ j ≤ 4096 := pow_le hlt
      have hne : (((2 ^ j : Nat) : Int) == s) = false := by
        rw [beq_eq_false_iff_ne]
        intro he
        have := KeyM.pow_isPow ⟨j, by omega⟩
        rw [show (((2 ^ (⟨j, by omega⟩ : Fin 13).val : Nat)) : Int) = s from he, HS.out] at this
        cases this
      have HD := Lib.hid (show 2 ^ (j + 1) = 2 ^ j * 2 from Nat.pow_succ 2 j)
      generalize hN : 2 ^ j = N at hp hne HD ⊢
      clear hN
      go_wp2
      go_round
      case rel => exact ⟨j + 1, by omega, by rw [HD.out]; go_num⟩
      case measure => simp [intOf]; omega
    · have hp : 2 ^ j = 8192 := pow_big hj hlt
      rw [hp]
      clear hp
      go_wp2
      go_ret
      exact ⟨rfl, HB.out⟩
set_option maxHeartbeats 2000000 in
theorem refStripe_yes (a b p q r : Nat) (s : Int) (hs : isPow s = true) (ha : a < 4294967296) (hb : b < 4294967296) (hp : p < 65536) (hq : q < 65536) (hr : r < 256) (x : Nat) (hx : hashN a b p q r = x) (W : World) :
    Calls Try.prog 28 #[.agg (kyc a b p q r), .int .i64 s] W fun e w' => e = .returned (.int .i64 ((x : Int) % s)) ∧ Below W.heap.size W w' := by
  have HX := Lib.hid (Blk.box W (kyc a b p q r) 37)
  have HB := Lib.hid ((Below.refl _ W).alloc (Nat.le_refl _) (.cells (kyc a b p q r) 37))
  obtain ⟨x0, x1, x2, x3, x4⟩ := ky_cells HX.out
  obtain ⟨e, he, rfl⟩ := KeyM.isPow_exp hs
  have hxl : x < 4294967296 := hx ▸ KeyM.hashN_lt a b p q r
  have HH := Lib.hid (refHash_any a b p q r ha hb hp hq hr x hx)
  clear hs hx
  have hE : 1 ≤ 2 ^ e ∧ 2 ^ e ≤ 4096 := pow_le he
  have HF : Hid ((x : Int).tmod ((2 ^ e : Nat) : Int) = (x : Int) % ((2 ^ e : Nat) : Int)) := Int.tmod_eq_emod_of_nonneg (by omega)
  have HL : Hid (∀ j, j ≤ e → 1 ≤ 2 ^ j ∧ 2 ^ j ≤ 2 ^ e) := fun j h => pow_le h
  have HI : Hid (∀ j, j ≤ e → 2 ^ j ≠ 2 ^ e → j + 1 ≤ e) := fun j h hn => by
    rcases Nat.lt_or_ge j e with h1 | h1
    · exact h1
    · exact absurd (by rw [Nat.le_antisymm h h1]) hn
  have HQ := Lib.hid (show PowAt e = PowAt e from rfl)
  generalize hM : 2 ^ e = M at hE HF HL HI ⊢
  clear hM
  go_enter Try.func28, Try.ntmps28
  go_wp2_with fail
  go_loop [5] (PowAt e) (fun i => 8192 - (intOf i).toNat)
  case atStart => exact ⟨0, by omega, rfl⟩
  case round =>
    obtain ⟨j, hj, rfl⟩ := hrel
    have hp := HL.out j hj
    by_cases hlt : 2 ^ j = M
    · rw [hlt]
      clear hlt hp HL HI
      go_wp2_with fail
      refine (HH.out _).mono ?_
      rintro e w1 ⟨rfl, hb1⟩
      have HB1 := Lib.hid (HB.out.trans (hb1.mono HB.out.size))
      clear hb1 HX HB x0 x1 x2 x3 x4
      go_wp2_with fail
      go_ret
      exact ⟨ret_int HF.out, HB1.out⟩
    · have hj1 := HI.out j hj hlt
      have HD := Lib.hid (show 2 ^ (j + 1) = 2 ^ j * 2 from Nat.pow_succ 2 j)
      have hne : (((2 ^ j : Nat) : Int) == (M : Int)) = false := by
        rw [beq_eq_false_iff_ne]; intro h; exact hlt (by omega)
      clear hlt HL HI
      generalize hN : 2 ^ j = N at hp hne HD ⊢
      clear hN
      go_wp2_with fail
      go_round
      case rel => exact ⟨j + 1, by omega, by rw [HD.out]; go_num⟩
      case measure => simp [intOf]; omega

set_option maxHeartbeats 2000000 in
theorem refLess_any (a b p q r a2 b2 p2 q2 r2 : Nat) (ha : a < 4294967296) (hb : b < 4294967296) (hp : p < 65536) (hq : q < 65536) (ha2 : a2 < 4294967296) (hb2 : b2 < 4294967296) (hp2 : p2 < 65536) (hq2 : q2 < 65536) (g : Bool) (hg : lessB a b p q r a2 b2 p2 q2 r2 = g) (W : World) :
    Calls Try.prog 53 #[.agg (kyc a b p q r), .agg (kyc a2 b2 p2 q2 r2)] W fun e w' => e = .returned (.bool g) ∧ Below W.heap.size W w' := by
  have HX0 := Lib.hid ((Blk.box W (kyc a b p q r) 37).alloc (.cells (kyc a2 b2 p2 q2 r2) 37))
  have HY0 := Lib.hid (Blk.box1 W (.cells (kyc a b p q r) 37) (kyc a2 b2 p2 q2 r2) 37)
  have HB0 := Lib.hid (((Below.refl _ W).alloc (Nat.le_refl _) (.cells (kyc a b p q r) 37)).alloc (by simp) (.cells (kyc a2 b2 p2 q2 r2) 37))
  obtain ⟨x0, x1, x2, x3, x4⟩ := ky_cells HX0.out
  obtain ⟨y0, y1, y2, y3, y4⟩ := ky_cells HY0.out
  obtain ⟨k1, c1⟩ : ∃ y, a * 65536 + p = y := ⟨_, rfl⟩
  obtain ⟨k2, c2⟩ : ∃ y, a2 * 65536 + p2 = y := ⟨_, rfl⟩
  obtain ⟨k3, c3⟩ : ∃ y, b * 65536 + q = y := ⟨_, rfl⟩
  obtain ⟨k4, c4⟩ : ∃ y, b2 * 65536 + q2 = y := ⟨_, rfl⟩
  have E1 := Lib.hid (refEnd_x a p k1 c1 ha hp)
  have E2 := Lib.hid (refEnd_x a2 p2 k2 c2 ha2 hp2)
  have E3 := Lib.hid (refEnd_x b q k3 c3 hb hq)
  have E4 := Lib.hid (refEnd_x b2 q2 k4 c4 hb2 hq2)
  unfold lessB at hg
  rw [KeyM.low_num hp hp2, KeyM.low_num hq hq2, c1, c2, c3, c4] at hg
  by_cases h1 : r = r2
  · rw [if_neg (by omega)] at hg
    have d0 : ((r : Int) != r2) = false := by simp; omega
    have he : (a ≠ a2 ∨ p ≠ p2) ↔ k1 ≠ k2 := by omega
    by_cases h2 : k1 = k2
    · rw [if_neg (by rw [he]; omega)] at hg
      have d1 : ((k1 : Int) != k2) = false := by simp; omega
      have HG := Lib.hid hg
      clear hg h1 h2 he c1 c2 c3 c4 ha hb hp hq ha2 hb2 hp2 hq2
      go_enter Try.func53, Try.ntmps53
      go_wp2
      obtain ⟨w1, hw1⟩ : ∃ u, u = ((W.alloc (.cells (kyc a b p q r) 37)).alloc (.cells (kyc a2 b2 p2 q2 r2) 37)).drew := ⟨_, rfl⟩
      refine region_still_tail 14 (by kernel_rfl) (by kernel_rfl) w1 hw1 ?_
      have HX1 : Hid (Blk w1 W.heap.size (kyc a b p q r) 37) := hw1 ▸ Lib.hid HX0.out.drew
      have HY1 : Hid (Blk w1 (W.heap.size + 1) (kyc a2 b2 p2 q2 r2) 37) := hw1 ▸ Lib.hid HY0.out.drew
      have HB1 : Hid (Below W.heap.size W w1) := hw1 ▸ Lib.hid HB0.out.drew
      clear hw1
      have z0 := HX1.out.cell 0 _ rfl
      have z1 := HX1.out.cell 2 _ rfl
      have z2 := HY1.out.cell 0 _ rfl
      have z3 := HY1.out.cell 2 _ rfl
      simp only [List.take_succ_cons, List.take_zero, List.drop_succ_cons, List.drop_zero]
      repeat still_step
      still_call (E1.out _)
      repeat still_step
      still_call (E2.out _)
      repeat still_step
      refine wpStill_nil ?_
      clear z0 z1 z2 z3
      go_wp2
      clear x0 x1 x2 x3 x4 y0 y1 y2 y3 y4
      obtain ⟨w2, hw2⟩ : ∃ u, u = w1.drew := ⟨_, rfl⟩
      refine region_still_tail 15 (by kernel_rfl) (by kernel_rfl) w2 hw2 ?_
      have HX2 : Hid (Blk w2 W.heap.size (kyc a b p q r) 37) := hw2 ▸ Lib.hid HX1.out.drew
      have HY2 : Hid (Blk w2 (W.heap.size + 1) (kyc a2 b2 p2 q2 r2) 37) := hw2 ▸ Lib.hid HY1.out.drew
      have HB2 : Hid (Below W.heap.size W w2) := hw2 ▸ Lib.hid HB1.out.drew
      clear hw2
      have z0 := HX2.out.cell 1 _ rfl
      have z1 := HX2.out.cell 3 _ rfl
      have z2 := HY2.out.cell 1 _ rfl
      have z3 := HY2.out.cell 3 _ rfl
      simp only [List.take_succ_cons, List.take_zero, List.drop_succ_cons, List.drop_zero]
      repeat still_step
      still_call (E3.out _)
      repeat still_step
      still_call (E4.out _)
      repeat still_step
      refine wpStill_nil ?_
      clear z0 z1 z2 z3
      go_wp2
      go_ret
      exact ⟨by rw [← HG.out]; rfl, HB2.out⟩
    · rw [if_pos (by rw [he]; omega)] at hg
      have d1 : ((k1 : Int) != k2) = true := by simp; omega
      have HG := Lib.hid hg
      clear hg h1 h2 he c1 c2 c3 c4 ha hb hp hq ha2 hb2 hp2 hq2
      go_enter Try.func53, Try.ntmps53
      go_wp2
      obtain ⟨w1, hw1⟩ : ∃ u, u = ((W.alloc (.cells (kyc a b p q r) 37)).alloc (.cells (kyc a2 b2 p2 q2 r2) 37)).drew := ⟨_, rfl⟩
      refine region_still_tail 14 (by kernel_rfl) (by kernel_rfl) w1 hw1 ?_
      have HX1 : Hid (Blk w1 W.heap.size (kyc a b p q r) 37) := hw1 ▸ Lib.hid HX0.out.drew
      have HY1 : Hid (Blk w1 (W.heap.size + 1) (kyc a2 b2 p2 q2 r2) 37) := hw1 ▸ Lib.hid HY0.out.drew
      have HB1 : Hid (Below W.heap.size W w1) := hw1 ▸ Lib.hid HB0.out.drew
      clear hw1
      have z0 := HX1.out.cell 0 _ rfl
      have z1 := HX1.out.cell 2 _ rfl
      have z2 := HY1.out.cell 0 _ rfl
      have z3 := HY1.out.cell 2 _ rfl
      simp only [List.take_succ_cons, List.take_zero, List.drop_succ_cons, List.drop_zero]
      repeat still_step
      still_call (E1.out _)
      repeat still_step
      still_call (E2.out _)
      repeat still_step
      refine wpStill_nil ?_
      clear z0 z1 z2 z3
      go_wp2
      go_ret
      exact ⟨by rw [← HG.out]; rfl, HB1.out⟩
  · rw [if_pos h1] at hg
    have d0 : ((r : Int) != r2) = true := by simp; omega
    have HG := Lib.hid hg
    clear hg h1 c1 c2 c3 c4 ha hb hp hq ha2 hb2 hp2 hq2
    go_enter Try.func53, Try.ntmps53
    go_wp2
    go_ret
    exact ⟨by rw [← HG.out]; rfl, HB0.out⟩
end Ky
end Go.Proofs.Ytgcnhbjoalemlaa
/- Layer 10: contracts of Turn, Of, Hash, Stripe, Less. -/
set_option linter.unusedVariables false
set_option linter.unusedSimpArgs false
set_option maxRecDepth 100000
namespace Go.Proofs.Ytgcnhbjoalemlaa
open Go.ChangeShapes Go.WideShapes Go.ChangeAt Go.RowKit Go.Mtl
namespace Ky
open KeyM (lowB byteN mixN mixS isPow hashN strN lessB)

theorem mix_int (h n k : Int) (x h' n' k' : Nat) (e1 : h = (h' : Int)) (e2 : n = (n' : Int)) (e3 : k = (k' : Int)) (hh : h' < 4294967296) (hn : n' < 4294967296) (hk : k' ≤ 4) (hx : mixN n' k' h' = x) (W : World) :
    Calls Try.prog 73 #[.int .u32 h, .int .u32 n, .int .i64 k] W fun e w' => e = .returned (.int .u32 (x : Int)) ∧ W = w' := by
  subst e1 e2 e3
  exact mix_any h' n' k' hh hn hk x hx W

/-- What Hash holds ahead of each endpoint. -/
def HashR (h0 h1 h2 : Int) (t i : Value) : Prop := i = .int .i64 0 ∧ t = .int .u32 h0 ∨ i = .int .i64 1 ∧ t = .int .u32 h1 ∨ i = .int .i64 2 ∧ t = .int .u32 h2
set_option maxHeartbeats 2000000 in
theorem hash_any (a b p q r : Nat) (ha : a < 4294967296) (hb : b < 4294967296) (hp : p < 65536) (hq : q < 65536) (hr : r < 256) (x : Nat) (hx : hashN a b p q r = x) (W : World) :
    Calls Try.prog 64 #[.agg (kyc a b p q r)] W fun e w' => e = .returned (.int .u32 (x : Int)) ∧ Below W.heap.size W w' := by
  have HX := Lib.hid (Blk.box W (kyc a b p q r) 37)
  have HB := Lib.hid ((Below.refl _ W).alloc (Nat.le_refl _) (.cells (kyc a b p q r) 37))
  obtain ⟨x0, x1, x2, x3, x4⟩ := ky_cells HX.out
  obtain ⟨m0, e0⟩ : ∃ m, mixN r 1 2166136261 = m := ⟨_, rfl⟩
  obtain ⟨m1, e1⟩ : ∃ m, mixN a 4 m0 = m := ⟨_, rfl⟩
  obtain ⟨m2, e2⟩ : ∃ m, mixN p 2 m1 = m := ⟨_, rfl⟩
  obtain ⟨m3, e3⟩ : ∃ m, mixN b 4 m2 = m := ⟨_, rfl⟩
  obtain ⟨m4, e4⟩ : ∃ m, mixN q 2 m3 = m := ⟨_, rfl⟩
  have l0 : m0 < 4294967296 := e0 ▸ KeyM.mixN_lt _ _ _ (by decide)
  have l1 : m1 < 4294967296 := e1 ▸ KeyM.mixN_lt _ _ _ l0
  have l2 : m2 < 4294967296 := e2 ▸ KeyM.mixN_lt _ _ _ l1
  have l3 : m3 < 4294967296 := e3 ▸ KeyM.mixN_lt _ _ _ l2
  have l4 : m4 < 4294967296 := e4 ▸ KeyM.mixN_lt _ _ _ l3
  have HE := Lib.hid ((KeyM.hashN_steps e0 e1 e2 e3 e4).symm.trans hx)
  have M0 := Lib.hid (mix_int 2166136261 r 1 m0 2166136261 r 1 rfl rfl rfl (by omega) (by omega) (by omega) e0)
  have M1 := Lib.hid (mix_int m0 a 4 m1 m0 a 4 rfl rfl rfl l0 ha (by omega) e1)
  have M2 := Lib.hid (mix_int m1 p 2 m2 m1 p 2 rfl rfl rfl l1 (by omega) (by omega) e2)
  have M3 := Lib.hid (mix_int m2 b 4 m3 m2 b 4 rfl rfl rfl l2 hb (by omega) e3)
  have M4 := Lib.hid (mix_int m3 q 2 m4 m3 q 2 rfl rfl rfl l3 (by omega) (by omega) e4)
  clear hx e0 e1 e2 e3 e4 l0 l1 l2 l3 l4
  go_enter Try.func64, Try.ntmps64
  go_wp2_with fail
  refine (M0.out _).mono ?_
  rintro e w' ⟨rfl, rfl⟩
  go_wp2_with fail
  go_loop [3, 9] (HashR m0 m2 m4) (fun _ i => 2 - (intOf i).toNat)
  case atStart => exact Or.inl ⟨rfl, rfl⟩
  case round =>
    rcases hrel with ⟨rfl, rfl⟩ | ⟨rfl, rfl⟩ | ⟨rfl, rfl⟩
    · go_wp2_with fail
      refine (M1.out _).mono ?_
      rintro e w' ⟨rfl, rfl⟩
      go_wp2_with fail
      refine (M2.out _).mono ?_
      rintro e w' ⟨rfl, rfl⟩
      go_wp2_with fail
      go_round
      case rel => exact Or.inr (Or.inl ⟨rfl, rfl⟩)
      case measure => simp [intOf]
    · go_wp2_with fail
      refine (M3.out _).mono ?_
      rintro e w' ⟨rfl, rfl⟩
      go_wp2_with fail
      refine (M4.out _).mono ?_
      rintro e w' ⟨rfl, rfl⟩
      go_wp2_with fail
      go_round
      case rel => exact Or.inr (Or.inr ⟨rfl, rfl⟩)
      case measure => simp [intOf]
    · go_wp2_with fail
      go_ret
      exact ⟨by rw [← HE.out]; rfl, HB.out⟩

theorem isPower_int (s : Int) (h1 : 1 ≤ s) (h2 : s ≤ 4096) (g : Bool) (hg : isPow s = g) (W : World) :
    Calls Try.prog 63 #[.int .i64 s] W fun e w' => e = .returned (.bool g) ∧ W = w' := by
  obtain ⟨n, rfl⟩ := Int.eq_ofNat_of_zero_le (show 0 ≤ s by omega)
  exact isPower_any n (by omega) (by omega) g hg W
set_option maxHeartbeats 1000000 in
theorem stripe_no (a b p q r : Nat) (s : Int) (hs : isPow s = false) (W : World) :
    Calls Try.prog 50 #[.agg (kyc a b p q r), .int .i64 s] W fun e w' => e = .returned (.int .i64 0) ∧ Below W.heap.size W w' := by
  have HB := Lib.hid ((Below.refl _ W).alloc (Nat.le_refl _) (.cells (kyc a b p q r) 37))
  by_cases h1 : s < 1
  · clear hs
    go_enter Try.func50, Try.ntmps50
    go_wp2_with fail
    go_ret
    exact ⟨rfl, HB.out⟩
  · by_cases h2 : 4096 < s
    · clear hs
      go_enter Try.func50, Try.ntmps50
      go_wp2_with fail
      go_ret
      exact ⟨rfl, HB.out⟩
    · have HP := Lib.hid (isPower_int s (by omega) (by omega) false hs)
      have d1 : 1 ≤ s := by omega
      have d2 : s ≤ 4096 := by omega
      clear hs h1 h2
      go_enter Try.func50, Try.ntmps50
      go_wp2_with (refine (HP.out _).mono ?_; rintro e w' ⟨rfl, rfl⟩)
      go_ret
      exact ⟨rfl, HB.out⟩
set_option maxHeartbeats 1000000 in
theorem stripe_yes (a b p q r : Nat) (s : Int) (hs : isPow s = true) (ha : a < 4294967296) (hb : b < 4294967296) (hp : p < 65536) (hq : q < 65536) (hr : r < 256) (x : Nat) (hx : hashN a b p q r = x) (W : World) :
    Calls Try.prog 50 #[.agg (kyc a b p q r), .int .i64 s] W fun e w' => e = .returned (.int .i64 ((x : Int) % s)) ∧ Below W.heap.size W w' := by
  have HX := Lib.hid (Blk.box W (kyc a b p q r) 37)
  have HB := Lib.hid ((Below.refl _ W).alloc (Nat.le_refl _) (.cells (kyc a b p q r) 37))
  obtain ⟨x0, x1, x2, x3, x4⟩ := ky_cells HX.out
  obtain ⟨d1, d2⟩ := KeyM.isPow_bd hs
  have hxl : x < 4294967296 := hx ▸ KeyM.hashN_lt a b p q r
  have HH := Lib.hid (hash_any a b p q r ha hb hp hq hr x hx)
  have HP := Lib.hid (isPower_int s d1 d2 true hs)
  have HF : Hid (wrap64 ((x : Int) % s) = (x : Int) % s) := by
    have y0 := Int.emod_nonneg (x : Int) (show s ≠ 0 by omega)
    have y1 := Int.emod_lt_of_pos (x : Int) (show 0 < s by omega)
    generalize (x : Int) % s = z at y0 y1
    show wrap64 z = z
    unfold wrap64; omega
  clear hs hx
  go_enter Try.func50, Try.ntmps50
  go_wp2_with (refine (HP.out _).mono ?_; rintro e w' ⟨rfl, rfl⟩)
  refine (HH.out _).mono ?_
  rintro e w1 ⟨rfl, hb1⟩
  have HB1 := Lib.hid (HB.out.trans (hb1.mono HB.out.size))
  clear hb1 HX HB x0 x1 x2 x3 x4
  go_wp2_with fail
  go_ret
  exact ⟨ret_int HF.out, HB1.out⟩
end Ky
end Go.Proofs.Ytgcnhbjoalemlaa
