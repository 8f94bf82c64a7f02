/- Layer 10: contracts of lower, end, turnKind, mix, isPower, and of the reference's end. -/
import Derived.Test.YtabmdkjkdgipbaaRows
import Derived.Test.YtabmdkjkdgipbaaKeyM
import Derived.Test.YtabmdkjkdgipbaaComB
import Derived.Test.YtabmdkjkdgipbaaComS
import Derived.BigQuiet
import Derived.IntWalk
import Derived.Laws.BitsAllLaws
set_option linter.unusedVariables false
set_option linter.unusedSimpArgs false
namespace Go.Proofs.Ytabmdkjkdgipbaa
open Go.ChangeShapes Go.WideShapes Go.ChangeAt Go.RowKit Go.Mtl
namespace Ky
open KeyM (lowB byteN mixN mixS isPow)

theorem ret_int {k : IntKind} {a b : Int} (h : a = b) : Ending.returned (.int k a) = .returned (.int k b) := by rw [h]
/-- A key's five cells; an endpoint's two; a packet's seven. -/
abbrev kyc (a b p q r : Int) : Array Value := #[.int .u32 a, .int .u32 b, .int .u16 p, .int .u16 q, .int .u8 r]
abbrev epc (a p : Int) : Array Value := #[.int .u32 a, .int .u32 p]
abbrev pkc (a b c d e f h : Int) : Array Value := #[.int .u8 a, .int .u32 b, .int .u32 c, .int .u16 d, .int .u16 e, .int .u8 f, .int .u8 h]

section
variable {w w' : World} {g : Nat} {a b c d e f h : Int} {t : TypeId}
theorem pk_cells (H : Blk w g (pkc a b c d e f h) t) : w.cell? ⟨g, 0, none⟩ = some (.int .u8 a) ∧ w.cell? ⟨g, 1, none⟩ = some (.int .u32 b) ∧ w.cell? ⟨g, 2, none⟩ = some (.int .u32 c) ∧ w.cell? ⟨g, 3, none⟩ = some (.int .u16 d) ∧
    w.cell? ⟨g, 4, none⟩ = some (.int .u16 e) ∧ w.cell? ⟨g, 5, none⟩ = some (.int .u8 f) ∧ w.cell? ⟨g, 6, none⟩ = some (.int .u8 h) := by
  refine ⟨?_, ?_, ?_, ?_, ?_, ?_, ?_⟩ <;> exact H.cell _ _ rfl
theorem pk_frozen (H : Blk w g (pkc a b c d e f h) t) : w.frozen? ⟨g, 0, none⟩ = false ∧ w.frozen? ⟨g, 1, none⟩ = false ∧ w.frozen? ⟨g, 2, none⟩ = false ∧ w.frozen? ⟨g, 3, none⟩ = false ∧
    w.frozen? ⟨g, 4, none⟩ = false ∧ w.frozen? ⟨g, 5, none⟩ = false ∧ w.frozen? ⟨g, 6, none⟩ = false := by
  refine ⟨?_, ?_, ?_, ?_, ?_, ?_, ?_⟩ <;> exact H.frozen _
theorem ky_cells (H : Blk w g (kyc a b c d e) t) : w.cell? ⟨g, 0, none⟩ = some (.int .u32 a) ∧ w.cell? ⟨g, 1, none⟩ = some (.int .u32 b) ∧ w.cell? ⟨g, 2, none⟩ = some (.int .u16 c) ∧ w.cell? ⟨g, 3, none⟩ = some (.int .u16 d) ∧
    w.cell? ⟨g, 4, none⟩ = some (.int .u8 e) := by
  refine ⟨?_, ?_, ?_, ?_, ?_⟩ <;> exact H.cell _ _ rfl
theorem ky_frozen (H : Blk w g (kyc a b c d e) t) : w.frozen? ⟨g, 0, none⟩ = false ∧ w.frozen? ⟨g, 1, none⟩ = false ∧ w.frozen? ⟨g, 2, none⟩ = false ∧ w.frozen? ⟨g, 3, none⟩ = false ∧ w.frozen? ⟨g, 4, none⟩ = false := by
  refine ⟨?_, ?_, ?_, ?_, ?_⟩ <;> exact H.frozen _
/-- All five cells of a key stored anew; all seven of a packet. -/
abbrev storeK (w : World) (g : Nat) (a b c d e : Int) : World :=
  ((((w.setCell ⟨g, 0, none⟩ (.int .u32 a)).setCell ⟨g, 1, none⟩ (.int .u32 b)).setCell ⟨g, 2, none⟩ (.int .u16 c)).setCell ⟨g, 3, none⟩ (.int .u16 d)).setCell ⟨g, 4, none⟩ (.int .u8 e)
theorem ky_store (H : Blk w g (kyc a b c d e) t) (a' b' c' d' e' : Int) : Blk (storeK w g a' b' c' d' e') g (kyc a' b' c' d' e') t :=
  by
  have h0 := H.set' 0 (.int .u32 a') (cs' := kyc a' b c d e) rfl
  have h1 := h0.set' 1 (.int .u32 b') (cs' := kyc a' b' c d e) rfl
  have h2 := h1.set' 2 (.int .u16 c') (cs' := kyc a' b' c' d e) rfl
  have h3 := h2.set' 3 (.int .u16 d') (cs' := kyc a' b' c' d' e) rfl
  exact h3.set' 4 (.int .u8 e') rfl
theorem below_storeK {B : Nat} {w0 : World} (hb : Below B w0 w) (hg : B ≤ g) (a b c d e : Int) : Below B w0 (storeK w g a b c d e) :=
  ((((hb.setCell (p := ⟨g, 0, none⟩) hg _).setCell (p := ⟨g, 1, none⟩) hg _).setCell (p := ⟨g, 2, none⟩) hg _).setCell (p := ⟨g, 3, none⟩) hg _).setCell (p := ⟨g, 4, none⟩) hg _
abbrev storeP (w : World) (g : Nat) (a b c d e f h : Int) : World :=
  ((((((w.setCell ⟨g, 0, none⟩ (.int .u8 a)).setCell ⟨g, 1, none⟩ (.int .u32 b)).setCell ⟨g, 2, none⟩ (.int .u32 c)).setCell ⟨g, 3, none⟩ (.int .u16 d)).setCell ⟨g, 4, none⟩ (.int .u16 e)).setCell ⟨g, 5, none⟩ (.int .u8 f)).setCell ⟨g, 6, none⟩ (.int .u8 h)
theorem pk_store (H : Blk w g (pkc a b c d e f h) t) (a' b' c' d' e' f' h' : Int) : Blk (storeP w g a' b' c' d' e' f' h') g (pkc a' b' c' d' e' f' h') t :=
  by
  have h0 := H.set' 0 (.int .u8 a') (cs' := pkc a' b c d e f h) rfl
  have h1 := h0.set' 1 (.int .u32 b') (cs' := pkc a' b' c d e f h) rfl
  have h2 := h1.set' 2 (.int .u32 c') (cs' := pkc a' b' c' d e f h) rfl
  have h3 := h2.set' 3 (.int .u16 d') (cs' := pkc a' b' c' d' e f h) rfl
  have h4 := h3.set' 4 (.int .u16 e') (cs' := pkc a' b' c' d' e' f h) rfl
  have h5 := h4.set' 5 (.int .u8 f') (cs' := pkc a' b' c' d' e' f' h) rfl
  exact h5.set' 6 (.int .u8 h') rfl
theorem storeP_other {cs : Array Value} {k : Nat} (H : Blk w g cs t) (hk : g ≠ k) (a b c d e f h : Int) : Blk (storeP w k a b c d e f h) g cs t :=
  ((((((H.other k 0 hk _).other k 1 hk _).other k 2 hk _).other k 3 hk _).other k 4 hk _).other k 5 hk _).other k 6 hk _
theorem storeK_other {cs : Array Value} {k : Nat} (H : Blk w g cs t) (hk : g ≠ k) (a b c d e : Int) : Blk (storeK w k a b c d e) g cs t :=
  ((((H.other k 0 hk _).other k 1 hk _).other k 2 hk _).other k 3 hk _).other k 4 hk _
theorem below_storeP {B : Nat} {w0 : World} (hb : Below B w0 w) (hg : B ≤ g) (a b c d e f h : Int) : Below B w0 (storeP w g a b c d e f h) :=
  ((((((hb.setCell (p := ⟨g, 0, none⟩) hg _).setCell (p := ⟨g, 1, none⟩) hg _).setCell (p := ⟨g, 2, none⟩) hg _).setCell (p := ⟨g, 3, none⟩) hg _).setCell (p := ⟨g, 4, none⟩) hg _).setCell (p := ⟨g, 5, none⟩) hg _).setCell (p := ⟨g, 6, none⟩) hg _
end

set_option maxHeartbeats 1000000 in
theorem lower_any (a p b q : Nat) (g : Bool) (hg : lowB a p b q = g) (W : World) :
    Calls Try.prog 18 #[.agg (epc a p), .agg (epc b q)] W fun e w' => e = .returned (.bool g) ∧ Below W.heap.size W w' := by
  have HX := Lib.hid ((Blk.box W (epc a p) 42).alloc (.cells (epc b q) 42))
  have HY := Lib.hid (Blk.box1 W (.cells (epc a p) 42) (epc b q) 42)
  have HB := Lib.hid (((Below.refl _ W).alloc (Nat.le_refl _) (.cells (epc a p) 42)).alloc (by simp) (.cells (epc b q) 42))
  have x0 := HX.out.cell 0 _ rfl
  have x1 := HX.out.cell 1 _ rfl
  have y0 := HY.out.cell 0 _ rfl
  have y1 := HY.out.cell 1 _ rfl
  by_cases h : a = b
  · subst h
    rw [KeyM.lowB_eq] at hg
    have d0 : ((a : Int) != a) = false := by simp
    have HG := Lib.hid hg
    clear hg
    go_enter Try.func18, Try.ntmps18
    go_wp2
    go_ret
    exact ⟨by rw [← HG.out]; rfl, HB.out⟩
  · rw [KeyM.lowB_ne h] at hg
    have d0 : ((a : Int) != b) = true := by simp; omega
    have HG := Lib.hid hg
    clear hg h
    go_enter Try.func18, Try.ntmps18
    go_wp2
    go_ret
    exact ⟨by rw [← HG.out]; rfl, HB.out⟩

set_option maxHeartbeats 1000000 in
theorem end_any (a b p q r : Nat) (hp : p < 65536) (hq : q < 65536) (i : Int) (x y : Nat) (hi : i = 0 ∧ a = x ∧ p = y ∨ i = 1 ∧ b = x ∧ q = y) (W : World) :
    Calls Try.prog 22 #[.agg (kyc a b p q r), .int .i64 i] W fun e w' => e = .returned (.agg (epc x y)) ∧ Below W.heap.size W w' := by
  have HX := Lib.hid ((Blk.box W (kyc a b p q r) 29).alloc (.cells (epc 0 0) 42)).drew
  have HY := Lib.hid (Blk.box1 W (.cells (kyc a b p q r) 29) (epc 0 0) 42).drew
  have HB := Lib.hid (((Below.refl _ W).alloc (Nat.le_refl _) (.cells (kyc a b p q r) 29)).alloc (by simp) (.cells (epc 0 0) 42)).drew
  rcases hi with ⟨rfl, rfl, rfl⟩ | ⟨rfl, rfl, rfl⟩
  · go_enter Try.func22, Try.ntmps22
    go_wp2
    obtain ⟨w1, hw1⟩ : ∃ w1, w1 = ((W.alloc (.cells (kyc a b p q r) 29)).alloc (.cells (epc 0 0) 42)).drew := ⟨_, rfl⟩
    refine region_still_tail 10 (by kernel_rfl) (by kernel_rfl) w1 hw1 ?_
    rw [← hw1] at HX HY HB
    clear hw1
    have x0 := HX.out.cell 0 _ rfl
    have x1 := HX.out.cell 2 _ rfl
    have y0 := HY.out.cell 0 _ rfl
    have y1 := HY.out.cell 1 _ rfl
    have f0 := HY.out.frozen 0
    have f1 := HY.out.frozen 1
    have we : IntKind.u32.wrap (p : Int) = (p : Int) := by rw [IntKind.wrap_u32']; omega
    simp only [List.take_succ_cons, List.take_zero, List.drop_succ_cons, List.drop_zero]
    repeat still_step
    refine wpStill_nil ?_
    go_wp2
    have hr := (HY.out.set 0 (.int .u32 (a : Int))).set 1 (.int .u32 (p : Int))
    have r0 := hr.cell 0 (.int .u32 (a : Int)) rfl
    have r1 := hr.cell 1 (.int .u32 (p : Int)) rfl
    exact bodyPost_ret (v := .agg (epc a p)) (by simp [results, Try.results22, go_sem, r0, r1]) rfl ⟨rfl, (HB.out.setCell (by simp) _).setCell (by simp) _⟩
  · go_enter Try.func22, Try.ntmps22
    go_wp2
    obtain ⟨w1, hw1⟩ : ∃ w1, w1 = ((W.alloc (.cells (kyc a b p q r) 29)).alloc (.cells (epc 0 0) 42)).drew := ⟨_, rfl⟩
    refine region_still_tail 10 (by kernel_rfl) (by kernel_rfl) w1 hw1 ?_
    rw [← hw1] at HX HY HB
    clear hw1
    have x0 := HX.out.cell 1 _ rfl
    have x1 := HX.out.cell 3 _ rfl
    have y0 := HY.out.cell 0 _ rfl
    have y1 := HY.out.cell 1 _ rfl
    have f0 := HY.out.frozen 0
    have f1 := HY.out.frozen 1
    have we : IntKind.u32.wrap (q : Int) = (q : Int) := by rw [IntKind.wrap_u32']; omega
    simp only [List.take_succ_cons, List.take_zero, List.drop_succ_cons, List.drop_zero]
    repeat still_step
    refine wpStill_nil ?_
    go_wp2
    have hr := (HY.out.set 0 (.int .u32 (b : Int))).set 1 (.int .u32 (q : Int))
    have r0 := hr.cell 0 (.int .u32 (b : Int)) rfl
    have r1 := hr.cell 1 (.int .u32 (q : Int)) rfl
    exact bodyPost_ret (v := .agg (epc b q)) (by simp [results, Try.results22, go_sem, r0, r1]) rfl ⟨rfl, (HB.out.setCell (by simp) _).setCell (by simp) _⟩

/-- The other kind of echo. -/
def tkN (k : Nat) : Nat := if k = 8 then 0 else if k = 0 then 8 else k
theorem tkN_lt {k : Nat} (h : k < 256) : tkN k < 256 := by unfold tkN; split <;> (try split) <;> omega
theorem tkN_tk (k : Nat) : tkN (tkN k) = k := by
  unfold tkN
  by_cases h8 : k = 8
  · subst h8; rfl
  · by_cases h0 : k = 0
    · subst h0; rfl
    · rw [if_neg h8, if_neg h0, if_neg h8, if_neg h0]
theorem turnKind_any (k x : Nat) (hx : tkN k = x) (W : World) :
    Calls Try.prog 23 #[.int .u8 (k : Int)] W fun e w' => e = .returned (.int .u8 (x : Int)) ∧ W = w' := by
  unfold tkN at hx
  by_cases h8 : k = 8
  · rw [if_pos h8] at hx
    subst h8 hx
    go_enter Try.func23, Try.ntmps23
    go_wp2
    go_ret
    exact ⟨rfl, rfl⟩
  · rw [if_neg h8] at hx
    by_cases h0 : k = 0
    · rw [if_pos h0] at hx
      subst h0 hx
      clear h8
      go_enter Try.func23, Try.ntmps23
      go_wp2
      go_ret
      exact ⟨rfl, rfl⟩
    · rw [if_neg h0] at hx
      subst hx
      have d8 : ((k : Int) == 8) = false := by simp; omega
      have d0 : ((k : Int) == 0) = false := by simp; omega
      clear h0 h8
      go_enter Try.func23, Try.ntmps23
      go_wp2
      go_ret
      exact ⟨rfl, rfl⟩

theorem byte_is (n i : Nat) : (n : Int) / 2 ^ (8 * i) % 256 = (byteN n i : Int) := by
  unfold byteN
  rw [Int.pow_mul]
  simp
theorem step_is (h b : Nat) (hh : h < 4294967296) (hb : b < 256) : bits .xor .u32 (h : Int) (b : Int) * 16777619 % 4294967296 = (KeyM.step h b : Int) := by
  rw [u32_xor_nat h b hh (by omega)]
  unfold KeyM.step
  generalize h ^^^ b = x
  omega
set_option maxHeartbeats 1000000 in
theorem mix_any (h n k : Nat) (hh : h < 4294967296) (hn : n < 4294967296) (hk : k ≤ 4) (x : Nat) (hx : mixN n k h = x) (W : World) :
    Calls Try.prog 20 #[.int .u32 (h : Int), .int .u32 (n : Int), .int .i64 (k : Int)] W fun e w' => e = .returned (.int .u32 (x : Int)) ∧ W = w' := by
  have HX := Lib.hid hx
  clear hx
  go_enter Try.func20, Try.ntmps20
  go_wp2
  go_loop [0, 7] (fun v i => ∃ m g : Nat, m ≤ 4 ∧ g < 4294967296 ∧ i = .int .i64 ((m : Int) - 1) ∧ v = .int .u32 (g : Int) ∧ Hid (mixN n m g = x)) (fun _ i => (intOf i + 1).toNat)
  case atStart => exact ⟨k, h, hk, hh, rfl, rfl, HX⟩
  case round =>
    obtain ⟨m, g, hm, hg, rfl, rfl, hX⟩ := hrel
    rcases m with _ | m
    · go_wp2
      go_ret
      exact ⟨by rw [← hX.out]; rfl, rfl⟩
    · rw [show (((m + 1 : Nat) : Int) - 1) = (m : Int) by omega]
      have HS := Lib.hid (step_is g (byteN n m) hg (KeyM.byteN_lt n m))
      have hX2 := Lib.hid ((KeyM.mixS_succ KeyM.step n m g).symm.trans hX.out)
      have hl := KeyM.step_lt g (byteN n m)
      clear hX
      generalize KeyM.step g (byteN n m) = z at HS hX2 hl
      go_wp2
      go_round
      case rel => exact ⟨m, z, by omega, hl, rfl, by rw [byte_is, HS.out], hX2⟩
      case measure => simp [intOf]

theorem refEnd_any (a p : Nat) (ha : a < 4294967296) (hp : p < 65536) (W : World) :
    Calls Try.prog 19 #[.int .u32 (a : Int), .int .u16 (p : Int)] W fun e w' => e = .returned (.int .u64 ((a * 65536 + p : Nat) : Int)) ∧ W = w' := by
  go_enter Try.func19, Try.ntmps19
  go_wp2
  go_ret
  exact ⟨by simp, rfl⟩
theorem i64_and_nat (a b : Nat) (ha : a < 9223372036854775808) (hb : b < 9223372036854775808) : bits .and .i64 (a : Int) (b : Int) = ((a &&& b : Nat) : Int) := by
  have hx : a &&& b < 2 ^ 63 := Nat.and_lt_two_pow _ (by omega)
  show IntKind.i64.wrap ((BitVec.ofInt 64 (a : Int) &&& BitVec.ofInt 64 (b : Int)).toNat : Int) = _
  rw [BitVec.toNat_and, ofInt_u64 a (by omega), ofInt_u64 b (by omega)]
  exact IntWalk.i64_in _ (by omega)
theorem pow_is (n : Nat) (h1 : 1 ≤ n) (h2 : n ≤ 4096) : (bits .and .i64 (n : Int) ((n : Int) - 1) == 0) = isPow (n : Int) := by
  rw [show (n : Int) - 1 = ((n - 1 : Nat) : Int) by omega, i64_and_nat n (n - 1) (by omega) (by omega), ← KeyM.pow_and n h1 h2]
  generalize n &&& (n - 1) = x
  rw [Bool.eq_iff_iff]
  simp
theorem isPower_any (n : Nat) (h1 : 1 ≤ n) (h2 : n ≤ 4096) (g : Bool) (hg : isPow (n : Int) = g) (W : World) :
    Calls Try.prog 21 #[.int .i64 (n : Int)] W fun e w' => e = .returned (.bool g) ∧ W = w' := by
  have HG := Lib.hid ((pow_is n h1 h2).trans hg)
  clear hg
  go_enter Try.func21, Try.ntmps21
  go_wp2
  go_ret
  exact ⟨by rw [← HG.out]; rfl, rfl⟩
end Ky
end Go.Proofs.Ytabmdkjkdgipbaa
