/- Layer 19: the contracts of Clone of the log, of Log, of the reference's Same. -/
import Derived.Test.YtgcnhbjoalemlaaJ23
import Derived.Test.YtgcnhbjoalemlaaJ5
import Derived.Deep.QuietTactic
import Derived.Laws.StructEq
import Derived.KernelRfl
set_option linter.unusedVariables false
set_option linter.unusedSimpArgs false
set_option maxRecDepth 100000
namespace Go.Proofs.Ytgcnhbjoalemlaa
open Go.ChangeShapes Go.WideShapes Go.ChangeAt Go.RowKit Go.Mtl Go.Lib
namespace Me
open MemM
/-- A slice that reads as these accesses. -/
abbrev Acs (w : World) (B : Nat) (v : Value) (ls : List Ac) : Prop := Rd w B 3 ls.length v (avs ls)
theorem avs_one (ls : List Ac) : ∀ u ∈ avs ls, u.oneCell' = true := by
  intro u hu
  unfold avs at hu
  obtain ⟨a, _, h⟩ := List.mem_flatMap.1 hu
  simp at h
  rcases h with rfl | rfl | rfl <;> rfl
/-- A slice of a memory's log, cloned. -/
def Cloned (w : World) (ls : List Ac) (e : Ending) (w' : World) : Prop := ∃ v, e = .returned v ∧ Acs w' w'.heap.size v ls ∧ (∀ g, v.ownBlock = some g → w.heap.size ≤ g) ∧ Below w.heap.size w w'
theorem clone_any (v : Value) (ls : List Ac) (w : World) (h : Acs w w.heap.size v ls) (hl : ls.length ≤ 1000000000000) :
    Calls Try.prog 45 #[v] w (Cloned w ls) := by
  obtain ⟨A, c, rfl, h1, h2⟩ := h.len
  have heq := slice_nil 60 100 Try.underlying60 A ls.length c w
  rcases A with _ | ad
  · have h0 : ls = [] := by
      rcases Nat.eq_zero_or_pos ls.length with h0 | h0
      · exact List.eq_nil_of_length_eq_zero h0
      · obtain ⟨b, off, c2, e, _⟩ := h.at_ h0
        cases e
    subst h0
    simp only [Option.isNone_none, List.length_nil] at heq ⊢
    clear h h1 h2 hl
    go_enter Try.func45, Try.ntmps45
    go_wp2_with fail
    go_ret
    exact ⟨_, rfl, Rd.nil _ _ _, fun g h => by simp [Value.ownBlock] at h, Below.refl _ _⟩
  · have HR := Lib.hid h
    simp only [Option.isNone_some] at heq
    clear h
    go_enter Try.func45, Try.ntmps45
    go_wp2_with (at_builtin; (refine wpList_clone rfl (.tmp 5) (.tmp 6) 60 100 rfl Try.underlying60 (.agg #[.int .i64 0, .int .i64 0, .int .i64 0]) 3 24 info_acc rfl (by omega) (by omega) rfl ls.length c ad (avs ls) rfl HR.out (avs_one ls) hl ?_; intro A' c' w' H1 H2))
    go_ret
    exact ⟨_, rfl, Rd.of_own H1.out, fun g hg => (H1.out.lt g hg).1, H2.out⟩
theorem log_any {w : World} {O : Nat → Prop} {B : Nat} {s : Ms} (H : MAt w O B s) (hl : s.ls.length ≤ 1000000000000) :
    Calls Try.prog 27 #[ptr B] w (Cloned w s.ls) := by
  obtain ⟨⟨vw, vh, vl, H⟩, hok⟩ := H
  have c2 := H.blk.cell 2 _ rfl
  have HC := Lib.hid (clone_any vl s.ls w (Rd.of_own H.lr) hl)
  obtain ⟨Al, cl, rfl, -, -⟩ := H.len2
  clear H hok hl
  go_enter Try.func27, Try.ntmps27
  go_wp2_with fail
  go_at_call 45
  refine HC.out.mono ?_
  rintro e w1 ⟨v, rfl, h1, h2, h3⟩
  obtain ⟨A, c, rfl, -, -⟩ := h1.len
  have H1 := Lib.hid h1
  have H2 := Lib.hid h2
  have H3 := Lib.hid h3
  clear h1 h2 h3
  go_wp2_with fail
  go_ret
  exact ⟨_, rfl, H1.out, H2.out, H3.out⟩

end Me
end Go.Proofs.Ytgcnhbjoalemlaa
