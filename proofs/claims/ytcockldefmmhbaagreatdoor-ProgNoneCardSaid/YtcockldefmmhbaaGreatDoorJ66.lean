/- Several texts of this proof in one file, each in its own namespace. -/
import Derived.Test.YtcockldefmmhbaaGreatDoorJ45
import Derived.Test.YtcockldefmmhbaaGreatDoorShelf
/- sort.Slice of keys sorts them. -/
set_option linter.unusedVariables false
set_option linter.unusedSimpArgs false
set_option maxRecDepth 100000
namespace Go.Proofs.YtcockldefmmhbaaGreatDoor
open Go.ChangeShapes Go.WideShapes Go.ChangeAt Go.RowKit Go.Mtl Go.Lib
namespace Au
open AutM
open Go.Shelf
open Go.Sort hiding Below
theorem key_kind : ∃ ie, Tryz.prog.info? 87 = some ie ∧ ie.size = 5 := ⟨_, rfl, by kernel_rfl⟩
theorem encK_one : ∀ x, ∀ v ∈ encK x, v.oneCell' = true := by
  intro x u hu
  simp only [encK, List.mem_cons, List.not_mem_nil, or_false] at hu
  rcases hu with rfl | rfl | rfl | rfl | rfl <;> rfl
theorem swaps (blk n c : Nat) : SwapSwapsK Tryz.prog 232 #[.slice (some ⟨blk, 0, none⟩) n c, typeHandle Tryz.prog 87] encK 5 blk 0 n := by
  obtain ⟨ie, hie, hs⟩ := key_kind
  exact swapSwapsK_of_literal false 232
    (fun args W => run_callFunc_extern Tryz.func232 (by kernel_rfl) (by kernel_rfl) (by kernel_rfl) (e := Extern.ReflectliteSwapper.swap false) (by kernel_rfl) args W)
    87 ie hie encK 5 encK_len hs (fun w => by kernel_rfl) encK_one blk 0 n c
theorem sorted_world {blk cb m n cap : Nat} {W : World} {d dk : Array KO} (H : RowK blk cb m n cap W d) (hne : cb ≠ blk) (hs : dk.size = n) (q : Nat) (os : Array Obj) :
    RowK blk cb m n cap (sortWorldK encK 5 W blk 0 q dk os) dk ∧ Bar blk W (sortWorldK encK 5 W blk 0 q dk os) := by
  have hg : ∀ w : World, Below w.heap.size w (Sort.grow w os) := fun w => ⟨rfl, rfl, rfl, by simp [Sort.grow], fun k hk => by simp [Sort.grow, Array.getElem?_append_left hk]⟩
  have H0 : RowK blk cb m n cap (Sort.ahead W q) d := ⟨H.holds, H.size, H.box, H.le, H.bm, H.cm⟩
  have H1 := H0.put hne hs
  have hb0 : Bar blk W (Sort.ahead W q) := ⟨rfl, rfl, rfl, Nat.le_refl _, fun _ _ _ => rfl⟩
  exact ⟨H1.keepB (hg _), hb0.trans ((bar_put (Sort.ahead W q) blk 0 dk).next (hg _))⟩
end Au
end Go.Proofs.YtcockldefmmhbaaGreatDoor
/- sort.Slice of two keys or more. -/
set_option linter.unusedVariables false
set_option linter.unusedSimpArgs false
set_option maxRecDepth 100000
namespace Go.Proofs.YtcockldefmmhbaaGreatDoor
open Go.ChangeShapes Go.WideShapes Go.ChangeAt Go.RowKit Go.Mtl Go.Lib
namespace Au
open AutM
open Go.Shelf
open Go.Sort hiding Below
theorem key_kind2 : ∃ ie, Tryz.prog.info? 87 = some ie ∧ ie.hasPointers = false ∧ ie.bytes = 16 := ⟨_, rfl, by kernel_rfl, by kernel_rfl⟩
theorem list_kind : ∃ i, Tryz.prog.info? 42 = some i ∧ i.desc = .slice 87 := ⟨_, rfl, by kernel_rfl⟩
theorem sw_9 : Tryz.prog.funcs.findIdx? (fun x => x.name == "internal/reflectlite" ++ ".Swapper$" ++ toString 9) = some 232 := by kernel_rfl
theorem bitLen_aux (f x : Nat) : Lib.bitLenAux f x ≤ f := by
  induction f generalizing x with
  | zero => exact Nat.le_refl _
  | succ f ih =>
    unfold Lib.bitLenAux
    split
    · omega
    · have := ih (x / 2); omega
theorem bitLen_small (n : Nat) : Lib.bitLen n < 4611686018427387904 := by
  have := bitLen_aux 64 n
  unfold Lib.bitLen
  omega
theorem whole (d : Array KO) (n : Nat) (h : d.size = n) : d.extract 0 n = d := by subst h; simp
end Au
end Go.Proofs.YtcockldefmmhbaaGreatDoor
