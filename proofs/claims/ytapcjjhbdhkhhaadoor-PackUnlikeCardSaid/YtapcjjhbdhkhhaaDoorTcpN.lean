/- Plain mathematics of TCP segments: what is read in a segment that was built, between the same or exchanged addresses; one bit turned; flags with other flags. -/
import Derived.Test.YtapcjjhbdhkhhaaDoorTcpM
set_option linter.unusedVariables false
set_option linter.unusedSimpArgs false
namespace Go.Proofs.YtapcjjhbdhkhhaaDoor
open Go.Mtl
namespace TcpM
open SumM (add tot norm byt_out lay turn turn_not turn_len add_le)
open IpM (word twoB fourB word_lt twoB_len fourB_len byt_eq byte_eq)

section
variable (K sr ds fr to fl : Nat) (x : List UInt8)
theorem seg_from (h : fr < 65536) : word (segB K fr to fl x) 0 = fr := by
  show (UInt8.ofNat (fr / 256)).toNat * 256 + (UInt8.ofNat fr).toNat = fr
  simp; omega
theorem seg_to (h : to < 65536) : word (segB K fr to fl x) 2 = to := by
  show (UInt8.ofNat (to / 256)).toNat * 256 + (UInt8.ofNat to).toNat = to
  simp; omega
theorem seg_words : byt (segB K fr to fl x) 12 = 80 := byt_eq _ 12 80 rfl
theorem seg_flags (h : fl < 256) : byt (segB K fr to fl x) 13 = fl := by
  rw [byt_eq _ 13 (UInt8.ofNat fl) rfl]; simp; omega
/-- The sum that is checked is right. -/
theorem seg_sum : totN sr ds (seg sr ds fr to fl x) = 65535 := by
  unfold seg
  have h1 : totN sr ds (segB 0 fr to fl x) = add 0 (psB 6 sr ds (20 + x.length) ++ segB 0 fr to fl x) := by rw [totN_app, segB_len]
  have h0 : lay (psB 6 sr ds (20 + x.length) ++ segB 0 fr to fl x) 28 0 = psB 6 sr ds (20 + x.length) ++ segB 0 fr to fl x := rfl
  have h := SumM.zero_full (psB 6 sr ds (20 + x.length) ++ segB 0 fr to fl x) 28 rfl (by rw [List.length_append, psB_len, segB_len]; omega)
  rw [h0, ← h1] at h
  rw [totN_app, segB_len]
  have hk : 65535 - totN sr ds (segB 0 fr to fl x) = ckN sr ds fr to fl x := rfl
  rw [hk] at h
  generalize ckN sr ds fr to fl x = K at h ⊢
  have e : lay (psB 6 sr ds (20 + x.length) ++ segB 0 fr to fl x) 28 K = psB 6 sr ds (20 + x.length) ++ segB K fr to fl x := by
    show psB 6 sr ds (20 + x.length) ++ ((twoB fr ++ twoB to ++ [0, 0, 0, 0, 0, 0, 0, 0, 80, UInt8.ofNat fl, 0, 0] ++ [UInt8.ofNat (K / 256), UInt8.ofNat (K % 256)] ++ [0, 0]) ++ x) = _
    rw [byte_eq (K % 256) K (by omega)]; rfl
  rw [e] at h
  exact h
/-- A segment that was built has nothing wrong. -/
theorem seg_err (hf : fl < 256) (hs : saneB fl = true) : errT sr ds (seg sr ds fr to fl x) = 0 := by
  unfold errT
  rw [seg_len, seg_sum]
  unfold seg
  rw [seg_words, seg_flags _ _ _ _ _ hf, hs, if_neg (by omega), if_neg (by omega), if_neg (by omega), if_neg (by omega), if_pos rfl]
end

theorem add_ps (sr ds : Nat) (r : List UInt8) : add 0 (fourB sr ++ fourB ds ++ r) = add 0 (fourB ds ++ fourB sr ++ r) := by
  unfold add
  have e : ∀ a b : Nat, tot (fourB a ++ fourB b ++ r) (fourB a ++ fourB b ++ r).length = tot (fourB a) 4 + tot (fourB b) 4 + tot r r.length := by
    intro a b
    have h1 : (fourB a ++ fourB b ++ r).length = (fourB a ++ fourB b).length + r.length := List.length_append
    have l2 : (fourB a ++ fourB b).length = 4 + 4 := rfl
    have h2 : tot (fourB a ++ fourB b) (4 + 4) = tot (fourB a) 4 + tot (fourB b) 4 := SumM.tot_app (fourB a) (fourB b) (by rw [fourB_len]) 4
    rw [h1, SumM.tot_app _ _ (by rw [l2]), l2, h2]
  rw [e, e]
  exact congrArg norm (by omega)
theorem psN_swap (pr sr ds v : Nat) : psN pr ds sr v = psN pr sr ds v := by
  unfold psN psB
  rw [List.append_assoc, add_ps, ← List.append_assoc]
theorem totN_swap (sr ds : Nat) (bs : List UInt8) : totN ds sr bs = totN sr ds bs := by unfold totN; rw [psN_swap]
theorem errT_swap (sr ds : Nat) (bs : List UInt8) : errT ds sr bs = errT sr ds bs := by unfold errT; rw [totN_swap]

/-- One bit turned: something is wrong, and it is not the flags. -/
theorem turn_err (sr ds : Nat) (bs : List UInt8) (j p : Nat) (hj : j < bs.length) (hp : p < 8) (h20 : 20 ≤ bs.length) (h : totN sr ds bs = 65535) : errT sr ds (turn bs j p) = 7 ∨ errT sr ds (turn bs j p) = 6 ∨ errT sr ds (turn bs j p) = 4 := by
  have hne : totN sr ds (turn bs j p) ≠ 65535 := by
    rw [totN_app, turn_len]
    rw [totN_app] at h
    have e : psB 6 sr ds bs.length ++ turn bs j p = turn (psB 6 sr ds bs.length ++ bs) (12 + j) p := by
      unfold turn
      have hb : byt (psB 6 sr ds bs.length ++ bs) (12 + j) = byt bs j := SumM.byt_app_right (psB 6 sr ds bs.length) bs j
      rw [hb, List.set_append_right _ _ (by rw [psB_len]; omega), psB_len, Nat.add_sub_cancel_left]
    rw [e]
    exact turn_not _ _ p (by rw [List.length_append, psB_len]; omega) hp h
  unfold errT
  split
  · omega
  split
  · omega
  split
  · omega
  omega

theorem sane_psh (f : Nat) (h : f < 256) : saneB (f ^^^ 8) = saneB f := by
  have : ∀ a : Fin 256, saneB (a.val ^^^ 8) = saneB a.val := by decide +kernel
  exact this ⟨f, h⟩
theorem sane_urg (f : Nat) (h : f < 256) : saneB (f ^^^ 32) = saneB f := by
  have : ∀ a : Fin 256, saneB (a.val ^^^ 32) = saneB a.val := by decide +kernel
  exact this ⟨f, h⟩
theorem sane_two (f : Nat) (h : f < 256) : saneB (f ||| 3) = false ∧ saneB (f ||| 6) = false ∧ saneB (f ||| 5) = false := by
  have : ∀ a : Fin 256, saneB (a.val ||| 3) = false ∧ saneB (a.val ||| 6) = false ∧ saneB (a.val ||| 5) = false := by decide +kernel
  exact this ⟨f, h⟩
theorem sane_ack (f : Nat) (h : f < 256) (hs : saneB f = true) : saneB (f ||| 16) = true := by
  have : ∀ a : Fin 256, saneB a.val = true → saneB (a.val ||| 16) = true := by decide +kernel
  exact this ⟨f, h⟩ hs

theorem aw1 : errT 1 2 (seg 1 2 80 81 2 [7]) = 0 := by decide +kernel
theorem aw2 : errT 1 3 (seg 1 2 80 81 2 [7]) = 7 := by decide +kernel
theorem aw3 : psN 6 65536 2 5 = 14 := by decide +kernel
theorem aw4 : word (seg 1 2 80 81 2 [7]) 0 = 80 ∧ word (seg 1 2 80 81 2 [7]) 2 = 81 ∧ byt (seg 1 2 80 81 2 [7]) 13 = 2 := by decide +kernel

end TcpM
end Go.Proofs.YtapcjjhbdhkhhaaDoor
