/- Several texts of this proof in one file, each in its own namespace. -/
import Derived.Test.YtgcnhbjoalemlaaGreatDoorJ48
import Derived.Test.YtgcnhbjoalemlaaGreatDoorShelf
/- sort.Slice of keys sorts them. -/
set_option linter.unusedVariables false
set_option linter.unusedSimpArgs false
set_option maxRecDepth 100000
namespace Go.Proofs.YtgcnhbjoalemlaaGreatDoor
open Go.ChangeShapes Go.WideShapes Go.ChangeAt Go.RowKit Go.Mtl Go.Lib
namespace Au
open AutM
open Go.Shelf
open Go.Sort hiding Below
theorem key_kind : ∃ ie, Tryz.prog.info? 45 = some ie ∧ ie.size = 5 := ⟨_, rfl, by kernel_rfl⟩
theorem encK_one : ∀ x, ∀ v ∈ encK x, v.oneCell' = true := by
  intro x u hu
  simp only [encK, List.mem_cons, List.not_mem_nil, or_false] at hu
  rcases hu with rfl | rfl | rfl | rfl | rfl <;> rfl
theorem swaps (blk n c : Nat) : SwapSwapsK Tryz.prog 119 #[.slice (some ⟨blk, 0, none⟩) n c, typeHandle Tryz.prog 45] encK 5 blk 0 n := by
  obtain ⟨ie, hie, hs⟩ := key_kind
  exact swapSwapsK_of_literal false 119
    (fun args W => run_callFunc_extern Tryz.func119 (by kernel_rfl) (by kernel_rfl) (by kernel_rfl) (e := Extern.ReflectliteSwapper.swap false) (by kernel_rfl) args W)
    45 ie hie encK 5 encK_len hs (fun w => by kernel_rfl) encK_one blk 0 n c
theorem row_sortK (blk cb m n cap : Nat) (hne : cb ≠ blk) (hbm : blk < m) (hn : n < 4611686018427387904) :
    SortK Tryz.prog (RowK blk cb m n cap) blk m n ltK 45 #[.pointer (some ⟨cb, 0, none⟩)] 119 #[.slice (some ⟨blk, 0, none⟩) n cap, typeHandle Tryz.prog 45] where
  small := hn
  size := fun H => H.size
  bm := hbm
  at_ := fun H => H.le
  keep := fun H h hs => H.keep h hs
  enters := fun args w => rfl
  less := fun i j H hi hj => less_row H hn i j hi hj
  swap := fun {W d} i j H hi hj => ⟨_, swaps blk n cap W d H.holds H.size i j hi hj, (H.swap hne i j hi hj).1, (H.swap hne i j hi hj).2⟩
theorem sorted_world {blk cb m n cap : Nat} {W : World} {d dk : Array KO} (H : RowK blk cb m n cap W d) (hne : cb ≠ blk) (hs : dk.size = n) (q : Nat) (os : Array Obj) :
    RowK blk cb m n cap (sortWorldK encK 5 W blk 0 q dk os) dk ∧ Bar blk W (sortWorldK encK 5 W blk 0 q dk os) := by
  have hg : ∀ w : World, Below w.heap.size w (Sort.grow w os) := fun w => ⟨rfl, rfl, rfl, by simp [Sort.grow], fun k hk => by simp [Sort.grow, Array.getElem?_append_left hk]⟩
  have H0 : RowK blk cb m n cap (Sort.ahead W q) d := ⟨H.holds, H.size, H.box, H.le, H.bm, H.cm⟩
  have H1 := H0.put hne hs
  have hb0 : Bar blk W (Sort.ahead W q) := ⟨rfl, rfl, rfl, Nat.le_refl _, fun _ _ _ => rfl⟩
  exact ⟨H1.keepB (hg _), hb0.trans ((bar_put (Sort.ahead W q) blk 0 dk).next (hg _))⟩
theorem row_blind (blk cb m n cap : Nat) (hne : cb ≠ blk) (hn : n < 4611686018427387904) :
    So.Blind (RowK blk cb m n cap) blk n #[.pointer (some ⟨cb, 0, none⟩)] #[.slice (some ⟨blk, 0, none⟩) n cap, typeHandle Tryz.prog 45] 45 119 where
  brk := fun {W d} lo hi H h1 h2 => by
    have hs := H.size
    subst hs
    refine (Any.breakPatterns_func_cells_w (P := Tryz.prog) { Tryz.laysGg6 with } encK 5 encK_len _ _ _ _ _ blk 0 lo hi d W (swaps blk d.size cap) H.holds (Nat.lt_of_lt_of_le H.bm H.le) h1 h2 hn).mono ?_
    rintro e w' ⟨rfl, q, os, rfl⟩
    exact ⟨rfl, sorted_world H hne (breakPatterns_holds d lo hi h1 h2).1 q os⟩
  rev := fun {W d} lo hi H h1 h2 => by
    have hs := H.size
    subst hs
    refine (Any.reverseRange_func_cells_w (P := Tryz.prog) { Tryz.laysGg6 with } encK 5 encK_len _ _ _ _ _ blk 0 lo hi d W (swaps blk d.size cap) H.holds (Nat.lt_of_lt_of_le H.bm H.le) h1 h2 hn).mono ?_
    rintro e w' ⟨rfl, q, os, rfl⟩
    exact ⟨rfl, sorted_world H hne (reverseRange_holds d lo hi h1 h2).1 q os⟩
end Au
end Go.Proofs.YtgcnhbjoalemlaaGreatDoor
/- sort.Slice of two keys or more. -/
set_option linter.unusedVariables false
set_option linter.unusedSimpArgs false
set_option maxRecDepth 100000
namespace Go.Proofs.YtgcnhbjoalemlaaGreatDoor
open Go.ChangeShapes Go.WideShapes Go.ChangeAt Go.RowKit Go.Mtl Go.Lib
namespace Au
open AutM
open Go.Shelf
open Go.Sort hiding Below
theorem key_kind2 : ∃ ie, Tryz.prog.info? 45 = some ie ∧ ie.hasPointers = false ∧ ie.bytes = 16 := ⟨_, rfl, by kernel_rfl, by kernel_rfl⟩
theorem list_kind : ∃ i, Tryz.prog.info? 74 = some i ∧ i.desc = .slice 45 := ⟨_, rfl, by kernel_rfl⟩
theorem sw_9 : Tryz.prog.funcs.findIdx? (fun x => x.name == "internal/reflectlite" ++ ".Swapper$" ++ toString 9) = some 119 := by kernel_rfl
theorem bitLen_aux (f x : Nat) : Lib.bitLenAux f x ≤ f := by
  induction f generalizing x with
  | zero => exact Nat.le_refl _
  | succ f ih =>
    unfold Lib.bitLenAux
    split
    · omega
    · have := ih (x / 2); omega
theorem bitLen_small (n : Nat) : Lib.bitLen n < 4611686018427387904 := by
  have := bitLen_aux 64 n
  unfold Lib.bitLen
  omega
theorem whole (d : Array KO) (n : Nat) (h : d.size = n) : d.extract 0 n = d := by subst h; simp
theorem sort_keys {blk cb n cap : Nat} {W : World} {d : Array KO} (H : RowK blk cb W.heap.size n cap W d) (hne : cb ≠ blk) (h2 : 2 ≤ n) (hn : n < 4611686018427387904) :
    Calls Tryz.prog 44 #[.iface 74 (.slice (some ⟨blk, 0, none⟩) n cap), .func (.func 45) #[] #[.pointer (some ⟨cb, 0, none⟩)]] W fun e w' => e = .returned (.tuple #[]) ∧
      ∃ d' : Array KO, RowK blk cb W.heap.size n cap w' d' ∧ Bar blk W w' ∧ d'.toList.Perm d.toList ∧ SortedIn ltK 0 n d' := by
  obtain ⟨i, hi, hd⟩ := list_kind
  obtain ⟨ie, hie, hp, hby⟩ := key_kind2
  have hK : swapperK n ie 25 = 9 := by
    unfold swapperK
    rw [if_neg (by simp; omega), if_neg (by simp; omega)]
    simp [hp, hby]
  have hbl := H.bm
  refine Any.sort_Slice_of_pdq Tryz.laysGg6 74 45 i ie hi hd (by kernel_rfl) hie 25 (fun w => by kernel_rfl) (some ⟨blk, 0, none⟩) n cap hn 119 (by rw [hK]; exact sw_9) _ _ _ W _ ?_
  have hsb : sliceBound Tryz.prog 45 ie 25 (some ⟨blk, 0, none⟩) n cap = #[.slice (some ⟨blk, 0, none⟩) n cap, typeHandle Tryz.prog 45] := by
    unfold sliceBound
    rw [hK, if_neg (by omega)]
  rw [hsb]
  obtain ⟨W1, hW1⟩ : ∃ W1, W1 = sliceWorld Tryz.prog Tryz.laysGg6_ren 74 (some ⟨blk, 0, none⟩) n cap W := ⟨_, rfl⟩
  have hb1 : Below W.heap.size W W1 := by rw [hW1]; unfold sliceWorld; exact ((Below.refl _ W).alloc (Nat.le_refl _) _).alloc (by simp) _
  rw [← hW1]
  have H1 : RowK blk cb W.heap.size n cap W1 d := H.keep (fun j hj => hb1.block j hj) hb1.size
  refine (So.pdq_any ltK_swo (row_sortK blk cb W.heap.size n cap hne hbl hn) (row_blind blk cb W.heap.size n cap hne hn) (n + 1) W1 d 0 n (Lib.bitLen n) (by omega) H1 (by omega) (Nat.le_refl _) (bitLen_small n) (.inl rfl)).mono ?_
  rintro e w' ⟨rfl, ha, hbar⟩
  obtain ⟨hP, hS⟩ := pdq_holds insertionSort_holds heapSort_holds partialInsertionSort_holds (partition_holds ltK) (partitionEqual_holds ltK) reverseRange_holds ltK_swo d 0 n (Lib.bitLen n) true true (by omega) (by rw [H.size]; exact Nat.le_refl _) (.inl rfl)
  refine ⟨rfl, _, ha, (Bar.of_below hb1).trans hbar, ?_, hS⟩
  have hp3 := hP.2.2
  rw [whole d n H.size, whole _ n (hP.1.trans H.size)] at hp3
  exact hp3
end Au
end Go.Proofs.YtgcnhbjoalemlaaGreatDoor
