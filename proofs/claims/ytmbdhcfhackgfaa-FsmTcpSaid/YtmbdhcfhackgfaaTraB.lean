/- Layer 16: the contracts of kindOf, Open, Next, and of the reference's has, Open, Next. -/
import Derived.Test.YtmbdhcfhackgfaaTraA
set_option linter.unusedVariables false
set_option linter.unusedSimpArgs false
namespace Go.Proofs.Ytmbdhcfhackgfaa
open Go.ChangeShapes Go.WideShapes Go.ChangeAt Go.RowKit Go.Mtl Go.Lib
namespace Tr
open TraM (Step find kindN stN stB nextN nextB openN openB bitB refN refB nxN nxB)

theorem and_u8 (x y : Nat) (hx : x < 256) (hy : y < 256) : bits .and .u8 (x : Int) (y : Int) = ((x &&& y : Nat) : Int) := by
  have h : ∀ a : Fin 256, ∀ b : Fin 256, bits .and .u8 (a.val : Int) (b.val : Int) = ((a.val &&& b.val : Nat) : Int) := by
    intro a b
    show IntKind.u8.wrap ((BitVec.ofInt 8 (a.val : Int) &&& BitVec.ofInt 8 (b.val : Int)).toNat : Int) = _
    rw [BitVec.ofInt_natCast, BitVec.ofInt_natCast, BitVec.toNat_and, BitVec.toNat_ofNat, BitVec.toNat_ofNat, Nat.mod_eq_of_lt (by omega), Nat.mod_eq_of_lt (by omega)]
    have : a.val &&& b.val ≤ a.val := Nat.and_le_left
    simp [IntKind.wrap, IntKind.bits, IntKind.signed]
    omega
  exact h ⟨x, hx⟩ ⟨y, hy⟩

theorem kindOf_any (f : Nat) (hf : f < 256) (W : World) : Calls Try.prog 20 #[.int .u8 (f : Int)] W fun e w' => e = .returned (.int .i64 (kindN f : Int)) ∧ w' = W := by
  have a23 : bits .and .u8 (f : Int) 23 = ((f &&& 23 : Nat) : Int) := and_u8 f 23 hf (by omega)
  unfold kindN
  generalize f &&& 23 = c at a23 ⊢
  by_cases h1 : c = 2
  · subst h1
    go_enter Try.func20, Try.ntmps20
    go_wp2_with fail
    go_ret
    exact ⟨rfl, rfl⟩
  by_cases h2 : c = 18
  · subst h2
    go_enter Try.func20, Try.ntmps20
    go_wp2_with fail
    go_ret
    exact ⟨rfl, rfl⟩
  by_cases h3 : c = 16
  · subst h3
    go_enter Try.func20, Try.ntmps20
    go_wp2_with fail
    go_ret
    exact ⟨rfl, rfl⟩
  by_cases h4 : c = 17
  · subst h4
    go_enter Try.func20, Try.ntmps20
    go_wp2_with fail
    go_ret
    exact ⟨rfl, rfl⟩
  by_cases h5 : c = 4
  · subst h5
    go_enter Try.func20, Try.ntmps20
    go_wp2_with fail
    go_ret
    exact ⟨rfl, rfl⟩
  by_cases h6 : c = 20
  · subst h6
    go_enter Try.func20, Try.ntmps20
    go_wp2_with fail
    go_ret
    exact ⟨rfl, rfl⟩
  have d1 : ((c : Int) == 2) = false := by rw [beq_eq_false_iff_ne]; omega
  have d2 : ((c : Int) == 18) = false := by rw [beq_eq_false_iff_ne]; omega
  have d3 : ((c : Int) == 16) = false := by rw [beq_eq_false_iff_ne]; omega
  have d4 : ((c : Int) == 17) = false := by rw [beq_eq_false_iff_ne]; omega
  have d5 : ((c : Int) == 4) = false := by rw [beq_eq_false_iff_ne]; omega
  have d6 : ((c : Int) == 20) = false := by rw [beq_eq_false_iff_ne]; omega
  rw [if_neg h1, if_neg h2, if_neg h3, if_neg h4, if_neg h5, if_neg h6]
  clear h1 h2 h3 h4 h5 h6
  go_enter Try.func20, Try.ntmps20
  go_wp2_with fail
  go_ret
  exact ⟨rfl, rfl⟩

theorem open_any (f : Nat) (hf : f < 256) (W : World) : Calls Try.prog 13 #[.int .u8 (f : Int)] W fun e w' => e = .returned (.tuple #[.int .i64 (openN f), .bool (openB f)]) ∧ w' = W := by
  have hk := kindOf_any f hf W
  unfold openN openB
  generalize kindN f = k at hk ⊢
  by_cases h : k = 1
  · subst h
    go_enter Try.func13, Try.ntmps13
    go_wp2_with fail
    go_at_call 20
    refine hk.mono ?_
    rintro e w' ⟨rfl, rfl⟩
    go_wp2_with fail
    go_ret2
    exact ⟨rfl, rfl⟩
  · have d1 : ((k : Int) == 1) = false := by rw [beq_eq_false_iff_ne]; omega
    have d2 : (k == 1) = false := by rw [beq_eq_false_iff_ne]; exact h
    rw [d2]
    clear h d2
    go_enter Try.func13, Try.ntmps13
    go_wp2_with fail
    go_at_call 20
    refine hk.mono ?_
    rintro e w' ⟨rfl, rfl⟩
    go_wp2_with fail
    go_ret2
    exact ⟨rfl, rfl⟩

theorem below_laid (W : World) (o : Obj) : Below W.heap.size W (W.drew.alloc o) := ((Below.refl W.heap.size W).drew).alloc (Nat.le_refl _) o
set_option maxHeartbeats 1000000 in
theorem next_any (s : Int) (r : Bool) (f : Nat) (hs : -9223372036854775808 ≤ s ∧ s ≤ 9223372036854775807) (hf : f < 256) (W : World) :
    Calls Try.prog 14 #[.int .i64 s, .bool r, .int .u8 (f : Int)] W fun e w' => e = .returned (.tuple #[.int .i64 (nextN s r f), .bool (nextB s r f)]) ∧ Below W.heap.size W w' := by
  have HK := Lib.hid (kindOf_any f hf W)
  unfold nextN nextB nxN nxB
  generalize kindN f = k at HK ⊢
  by_cases h : k = 5 ∧ 1 ≤ s ∧ s ≤ 7
  · obtain ⟨rfl, h1, h2⟩ := h
    rw [if_pos ⟨by omega, h1, h2⟩, if_pos ⟨by omega, h1, h2⟩]
    go_enter Try.func14, Try.ntmps14
    go_wp2_with fail
    go_at_call 20
    refine HK.out.mono ?_
    rintro e w' ⟨rfl, rfl⟩
    go_wp2_with fail
    go_ret2
    exact ⟨rfl, Below.refl _ _⟩
  · have hk : ¬ ((k : Int) = 5 ∧ 1 ≤ s ∧ s ≤ 7) := by omega
    rw [if_neg hk, if_neg hk]
    have HL := Lib.hid fun (l : List Step) (hp : l.Perm TraM.p22) => fun (q : Int) => look_any s r q (W.alloc (mp l)).drew W.heap.size l hp (by have := heap_alloc_new W (mp l); exact this)
    have HS := Lib.hid (steps_any W)
    by_cases h5 : k = 5
    · subst h5
      by_cases h1 : 1 ≤ s
      · have h7 : ¬ s ≤ 7 := by omega
        clear h hk
        go_enter Try.func14, Try.ntmps14
        go_wp2_with fail
        go_at_call 20
        refine HK.out.mono ?_
        rintro e w' ⟨rfl, rfl⟩
        go_wp2_with fail
        go_at_call 21
        refine HS.out.mono ?_
        rintro e w' ⟨rfl, l, hp, rfl⟩
        have hl := HL.out l hp 5
        go_wp2_with fail
        go_ret2
        exact ⟨rfl, below_laid _ _⟩
      · clear h hk
        go_enter Try.func14, Try.ntmps14
        go_wp2_with fail
        go_at_call 20
        refine HK.out.mono ?_
        rintro e w' ⟨rfl, rfl⟩
        go_wp2_with fail
        go_at_call 21
        refine HS.out.mono ?_
        rintro e w' ⟨rfl, l, hp, rfl⟩
        have hl := HL.out l hp 5
        go_wp2_with fail
        go_ret2
        exact ⟨rfl, below_laid _ _⟩
    · have d5 : ((k : Int) == 5) = false := by rw [beq_eq_false_iff_ne]; omega
      clear h hk h5
      go_enter Try.func14, Try.ntmps14
      go_wp2_with fail
      go_at_call 20
      refine HK.out.mono ?_
      rintro e w' ⟨rfl, rfl⟩
      go_wp2_with fail
      go_at_call 21
      refine HS.out.mono ?_
      rintro e w' ⟨rfl, l, hp, rfl⟩
      have hl := HL.out l hp (k : Int)
      go_wp2_with fail
      go_ret2
      exact ⟨rfl, below_laid _ _⟩
end Tr
end Go.Proofs.Ytmbdhcfhackgfaa
